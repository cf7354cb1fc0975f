/-
  Layer 11: contract of behind.
-/
import Derived.Test.YtpajndeongcjbaaQG11Beh
import Derived.Test.YtpajndeongcjbaaQLG
namespace Go.Proofs.Ytpajndeongcjbaa
set_option maxRecDepth 100000
open Go.RowKit Cd
set_option linter.unusedVariables false
set_option linter.unusedSimpArgs false

/-- behind's two boxes. -/
structure BSt (w0 w : World) (i : Ins) (b : Nat) (v : List Val) : Prop where
  hi : w.heap[w0.heap.size]? = some (inO i)
  hl : w.heap[w0.heap.size + 1]? = some (.cells #[lsV b] 106)
  ls0 : LsAt w w0.heap.size b v
  hb : Below w0.heap.size w0 w
theorem BSt.ls {w0 w : World} {i : Ins} {b : Nat} {v : List Val} (h : BSt w0 w i b v) : LsAt w w.heap.size b v := h.ls0.mono h.hb.size (Nat.le_refl _)
theorem BSt.lt {w0 w : World} {i : Ins} {b : Nat} {v : List Val} (h : BSt w0 w i b v) : w0.heap.size + 2 ≤ w.heap.size := lt_heap h.hl
theorem BSt.below {w0 w w' : World} {i : Ins} {b : Nat} {v : List Val} (h : BSt w0 w i b v) (hb : Below w.heap.size w w') : BSt w0 w' i b v := by
  have := h.lt
  exact ⟨(hb.block _ (by omega)).trans h.hi, (hb.block _ (by omega)).trans h.hl, h.ls0.below (hb.mono (by omega)), h.hb.trans (hb.mono (by omega))⟩
theorem BSt.drew {w0 w : World} {i : Ins} {b : Nat} {v : List Val} (h : BSt w0 w i b v) : BSt w0 w.drew i b v := ⟨h.hi, h.hl, ⟨h.ls0.1, h.ls0.2.1, h.ls0.2.2⟩, drW h.hb⟩
theorem BSt.alloc {w0 w : World} {i : Ins} {b : Nat} {v : List Val} (h : BSt w0 w i b v) (o : Obj) : BSt w0 (w.alloc o) i b v := h.below ((Below.refl _ w).alloc (Nat.le_refl _) o)
theorem BSt.new (w : World) (i : Ins) (b : Nat) (v : List Val) (h : LsAt w w.heap.size b v) : BSt w ((w.alloc (inO i)).alloc (.cells #[lsV b] 106)) i b v := by
  have hb : Below w.heap.size w ((w.alloc (inO i)).alloc (.cells #[lsV b] 106)) := ((Below.refl w.heap.size w).alloc (Nat.le_refl _) _).alloc (by simp) _
  have h2 := heap_alloc_new (w.alloc (inO i)) (.cells #[lsV b] 106)
  rw [World.size_alloc] at h2
  exact ⟨(Below.heap_alloc _ _ _ (by simp)).trans (heap_alloc_new w _), h2, h.below hb, hb⟩
def slotw (l : Bool) (v u : Value) : Value := if l = true then v else u
theorem not_ready {md : Region.Mode} {ops : Array Oper} {listed : Array Bool} (hr : Region.ready md ops listed = []) (i : Nat) (o : Oper) (ho : ops[i]? = some o) (h0 : listed.getD i true = false) (h : ∀ e ∈ o.after, Region.binds md e = true → listed.getD e.on false = true) : False := by
  have := mem_ready.2 ⟨h0, o, ho, h⟩
  rw [hr] at this
  cases this
/-- What is made so far: l5, l6: a box, l7, l8: what it holds. -/
structure DSt (w0 w : World) (i : Ins) (b : Nat) (v : List Val) (d : Int) (x : Val) (l5 l6 l7 l8 : Bool) (p q : Nat) : Prop where
  st : BSt w0 w i b v
  a : l5 = true → w0.heap.size + 2 ≤ p ∧ w.heap[p]? = some (.cells #[.int .i64 (if l7 = true then d else 0)] 3)
  b' : l6 = true → w0.heap.size + 2 ≤ q ∧ w.heap[q]? = some (vlO (if l8 = true then x else ⟨0, 0⟩))
  ne : l5 = true → l6 = true → p ≠ q
section
variable {w0 w w' : World} {i : Ins} {b : Nat} {v : List Val} {d : Int} {x : Val} {l5 l6 l7 l8 : Bool} {p q : Nat}
theorem DSt.first (h : BSt w0 w i b v) : DSt w0 w i b v d x false false false false 0 0 := ⟨h, fun h => (by cases h), fun h => (by cases h), fun h => (by cases h)⟩
theorem DSt.below (h : DSt w0 w i b v d x l5 l6 l7 l8 p q) (hb : Below w.heap.size w w') : DSt w0 w' i b v d x l5 l6 l7 l8 p q :=
  ⟨h.st.below hb, fun e => ⟨(h.a e).1, (hb.block _ (lt_heap (h.a e).2)).trans (h.a e).2⟩, fun e => ⟨(h.b' e).1, (hb.block _ (lt_heap (h.b' e).2)).trans (h.b' e).2⟩, h.ne⟩
theorem DSt.alloc1 (h : DSt w0 w i b v d x false l6 false l8 p q) : DSt w0 (w.alloc (.cells #[.int .i64 0] 3)) i b v d x true l6 false l8 w.heap.size q :=
  ⟨h.st.alloc _, fun _ => ⟨h.st.lt, heap_alloc_new w _⟩, fun e => ⟨(h.b' e).1, (Below.heap_alloc _ _ _ (lt_heap (h.b' e).2)).trans (h.b' e).2⟩, fun _ e => by have := lt_heap (h.b' e).2; omega⟩
theorem DSt.alloc2 (h : DSt w0 w i b v d x l5 false l7 false p q) : DSt w0 (w.alloc (vlO ⟨0, 0⟩)) i b v d x l5 true l7 false p w.heap.size :=
  ⟨h.st.alloc _, fun e => ⟨(h.a e).1, (Below.heap_alloc _ _ _ (lt_heap (h.a e).2)).trans (h.a e).2⟩, fun _ => ⟨h.st.lt, heap_alloc_new w _⟩, fun e _ => by have := lt_heap (h.a e).2; omega⟩
theorem BSt.set (h : BSt w0 w i b v) {p : Nat} (hp : w0.heap.size + 2 ≤ p) (j : Nat) (u : Value) : BSt w0 (w.setCell ⟨p, j, none⟩ u) i b v := by
  have hb : Below (w0.heap.size + 2) w (w.setCell ⟨p, j, none⟩ u) := (Below.refl _ _).setCell (by simpa using hp) u
  have hl := h.lt
  exact ⟨(hb.block _ (by omega)).trans h.hi, (hb.block _ (by omega)).trans h.hl, h.ls0.below (hb.mono (by omega)), h.hb.trans (hb.mono (by omega))⟩
theorem DSt.set1 (h : DSt w0 w i b v d x true true false false p q) : DSt w0 (w.setCell ⟨p, 0, none⟩ (.int .i64 d)) i b v d x true true true false p q := by
  have hne := h.ne rfl rfl
  refine ⟨h.st.set (h.a rfl).1 _ _, fun e => ⟨(h.a rfl).1, ?_⟩, fun e => ⟨(h.b' rfl).1, (heap_oth (fun e => hne e.symm)).trans (h.b' rfl).2⟩, h.ne⟩
  have := cells_set (h.a rfl).2 0 (.int .i64 d)
  simpa using this
theorem DSt.set2 (h : DSt w0 w i b v d x true true true false p q) : DSt w0 ((w.setCell ⟨q, 0, none⟩ (.int .i64 x.kind)).setCell ⟨q, 1, none⟩ (.int .i64 x.n)) i b v d x true true true true p q := by
  have hne := h.ne rfl rfl
  exact ⟨(h.st.set (h.b' rfl).1 _ _).set (h.b' rfl).1 _ _, fun e => ⟨(h.a rfl).1, (heap_oth hne).trans ((heap_oth hne).trans (h.a rfl).2)⟩, fun e => ⟨(h.b' rfl).1, Go.Proofs.Ytpajndeongcjbaa.set2 (h.b' rfl).2 _ _⟩, h.ne⟩
end
/-- The closure of what is known behind. -/
def BhPost (i : Ins) (b : Nat) (x : Val) (w : World) (e : Ending) (w' : World) : Prop :=
  ∃ b1 b2, e = .returned (bhV b1 b2 (w.heap.size + 1)) ∧ w.heap.size + 2 ≤ b1 ∧ w.heap.size + 2 ≤ b2 ∧ w'.heap[b1]? = some (.cells #[.int .i64 (Cd.sets i)] 3) ∧ w'.heap[b2]? = some (vlO x) ∧ w'.heap[w.heap.size + 1]? = some (.cells #[lsV b] 106) ∧ Below w.heap.size w w'
set_option maxHeartbeats 8000000 in
theorem behind_c (i : Ins) (b : Nat) (v : List Val) (w : World) (hL : LsAt w w.heap.size b v) (hR : RegIn i v) (h20 : OneOk i) (x : Val) (hx : (behV i v).getD ⟨2, 0⟩ = x) : Calls Try.prog 78 #[inV i, lsV b] w (BhPost i b x w) := by
  have hmix : Try.prog.follows .mixedOrders = true := by kernel_rfl
  have HS0 := Lib.hid (BSt.new w i b v hL)
  obtain ⟨d, hd⟩ : ∃ d, Cd.sets i = d := ⟨_, rfl⟩
  have HSE : Hid (∀ V, Calls Try.prog 98 #[inV i] V (RPost (.int .i64 d) V)) := Lib.hid (fun V => hd ▸ csets_i i V)
  have HRE : Hid (∀ V, LsAt V V.heap.size b v → Calls Try.prog 109 #[inV i, lsV b] V (RPost (vlV x) V)) := Lib.hid (fun V hV => result_c i b v V hV hR h20 x hx)
  have HD := Lib.hid hd
  clear hL hR h20 hx hd
  go_enter Try.func78, Try.ntmps78
  go_upto_region 1 with fail
  go_cut [5, 6] from 7 to 11 (fun s5 s6 wc => ∃ p q, s5 = .pointer (some ⟨p, 0, none⟩) ∧ s6 = .pointer (some ⟨q, 0, none⟩) ∧ Hid (DSt w wc i b v d x true true true true p q))
  case rest =>
    obtain ⟨p, q, rfl, rfl, HZ⟩ := hcut
    go_wp2
    go_ret
    exact ⟨p, q, rfl, (HZ.out.a rfl).1, (HZ.out.b' rfl).1, by rw [HD.out]; exact (HZ.out.a rfl).2, (HZ.out.b' rfl).2, HZ.out.st.hl, HZ.out.st.hb⟩
  case first =>
    have HSD := Lib.hid HS0.out.drew
    refine wp_region_any hmix ?_
    refine any_inv (J := (fun listed a W => ∃ l0 l1 l2 l3 l4 l5 l6 l7 l8 : Bool, ∃ p q : Nat, listed = #[l0, l1, l2, l3, l4, l5, l6, l7, l8] ∧ a = ⟨#[inV i, lsV b, .pointer (some ⟨w.heap.size, 0, none⟩), .pointer (some ⟨w.heap.size + 1, 0, none⟩), .nilFunc, slotw l5 (.pointer (some ⟨p, 0, none⟩)) (undef), slotw l6 (.pointer (some ⟨q, 0, none⟩)) (undef), slotw l0 (inV i) (undef), slotw l1 (.int .i64 d) (undef), slotw l2 (inV i) (undef), slotw l3 (lsV b) (undef), slotw l4 (vlV x) (undef), undef], []⟩ ∧ (l1 = true → l0 = true) ∧ (l4 = true → l1 = true ∧ l2 = true ∧ l3 = true) ∧ (l7 = true → l0 = true ∧ l1 = true ∧ l4 = true ∧ l5 = true ∧ l6 = true) ∧ (l8 = true → l0 = true ∧ l1 = true ∧ l2 = true ∧ l3 = true ∧ l4 = true ∧ l5 = true ∧ l6 = true ∧ l7 = true) ∧ DSt w W i b v d x l5 l6 l7 l8 p q)) ?_ ?_ _ _ _ _ ?_ ?_
    · intro listed a W i o hJ hi ho K' hK
      obtain ⟨l0, l1, l2, l3, l4, l5, l6, l7, l8, p, q, rfl, rfl, hI1, hI4, hI7, hI8, hS⟩ := hJ
      obtain ⟨hun, o2, ho2, hall⟩ := mem_ready.1 hi
      have hlt := (Array.getElem?_eq_some_iff.1 ho).1
      simp only [List.size_toArray, List.length_cons, List.length_nil] at hlt
      rcases (by omega : i = 0 ∨ i = 1 ∨ i = 2 ∨ i = 3 ∨ i = 4 ∨ i = 5 ∨ i = 6 ∨ i = 7 ∨ i = 8) with rfl | rfl | rfl | rfl | rfl | rfl | rfl | rfl | rfl
      · obtain rfl := Option.some.inj ho
        obtain rfl := Option.some.inj ho2
        have e0 : l0 = false := hun
        subst e0
        have e1 : l1 = false := by
          rcases l1 with _ | _
          · rfl
          · exact absurd (hI1 rfl) (by simp)
        subst e1
        have e7 : l7 = false := by
          rcases l7 with _ | _
          · rfl
          · exact absurd (hI7 rfl) (by simp)
        subst e7
        have e8 : l8 = false := by
          rcases l8 with _ | _
          · rfl
          · exact absurd (hI8 rfl) (by simp)
        subst e8
        clear hi ho ho2 hall hun
        obtain ⟨c0, c1, c2, c3, c4, c5, c6, c7, c8, c9, c10, c11, c12, c13, c14⟩ := nv15 hS.st.hi
        simp only [slotw, if_true, Bool.false_eq_true, if_false]
        go_simp
        refine hK _ _ ⟨true, false, l2, l3, l4, l5, l6, false, false, p, q, rfl, rfl, (fun h => by cases h), hI4, (fun h => by cases h), (fun h => by cases h), hS⟩
      · obtain rfl := Option.some.inj ho
        obtain rfl := Option.some.inj ho2
        have e1 : l1 = false := hun
        subst e1
        have e0 : l0 = true := hall ⟨0, .data⟩ (by simp) rfl
        subst e0
        have e4 : l4 = false := by
          rcases l4 with _ | _
          · rfl
          · exact absurd (hI4 rfl) (by simp)
        subst e4
        have e7 : l7 = false := by
          rcases l7 with _ | _
          · rfl
          · exact absurd (hI7 rfl) (by simp)
        subst e7
        have e8 : l8 = false := by
          rcases l8 with _ | _
          · rfl
          · exact absurd (hI8 rfl) (by simp)
        subst e8
        clear hi ho ho2 hall hun
        simp only [slotw, if_true, Bool.false_eq_true, if_false]
        go_simp
        refine (HSE.out W).mono ?_
        rintro e W2 ⟨rfl, hb2⟩
        refine hK _ _ ⟨true, true, l2, l3, false, l5, l6, false, false, p, q, rfl, rfl, (fun _ => rfl), (fun h => by cases h), (fun h => by cases h), (fun h => by cases h), hS.below hb2⟩
      · obtain rfl := Option.some.inj ho
        obtain rfl := Option.some.inj ho2
        have e2 : l2 = false := hun
        subst e2
        have e4 : l4 = false := by
          rcases l4 with _ | _
          · rfl
          · exact absurd (hI4 rfl) (by simp)
        subst e4
        have e8 : l8 = false := by
          rcases l8 with _ | _
          · rfl
          · exact absurd (hI8 rfl) (by simp)
        subst e8
        clear hi ho ho2 hall hun
        obtain ⟨c0, c1, c2, c3, c4, c5, c6, c7, c8, c9, c10, c11, c12, c13, c14⟩ := nv15 hS.st.hi
        simp only [slotw, if_true, Bool.false_eq_true, if_false]
        go_simp
        refine hK _ _ ⟨l0, l1, true, l3, false, l5, l6, l7, false, p, q, rfl, rfl, hI1, (fun h => by cases h), hI7, (fun h => by cases h), hS⟩
      · obtain rfl := Option.some.inj ho
        obtain rfl := Option.some.inj ho2
        have e3 : l3 = false := hun
        subst e3
        have e4 : l4 = false := by
          rcases l4 with _ | _
          · rfl
          · exact absurd (hI4 rfl) (by simp)
        subst e4
        have e8 : l8 = false := by
          rcases l8 with _ | _
          · rfl
          · exact absurd (hI8 rfl) (by simp)
        subst e8
        clear hi ho ho2 hall hun
        have cl := cell_of_row W (w.heap.size + 1) 0 _ _ _ hS.st.hl
        simp only [slotw, if_true, Bool.false_eq_true, if_false]
        go_simp
        refine hK _ _ ⟨l0, l1, l2, true, false, l5, l6, l7, false, p, q, rfl, rfl, hI1, (fun h => by cases h), hI7, (fun h => by cases h), hS⟩
      · obtain rfl := Option.some.inj ho
        obtain rfl := Option.some.inj ho2
        have e4 : l4 = false := hun
        subst e4
        have e1 : l1 = true := hall ⟨1, .chain⟩ (by simp) rfl
        subst e1
        have e2 : l2 = true := hall ⟨2, .data⟩ (by simp) rfl
        subst e2
        have e3 : l3 = true := hall ⟨3, .data⟩ (by simp) rfl
        subst e3
        have e0 : l0 = true := (hI1 rfl)
        subst e0
        have e7 : l7 = false := by
          rcases l7 with _ | _
          · rfl
          · exact absurd (hI7 rfl) (by simp)
        subst e7
        have e8 : l8 = false := by
          rcases l8 with _ | _
          · rfl
          · exact absurd (hI8 rfl) (by simp)
        subst e8
        clear hi ho ho2 hall hun
        simp only [slotw, if_true, Bool.false_eq_true, if_false]
        go_simp
        refine (HRE.out W hS.st.ls).mono ?_
        rintro e W2 ⟨rfl, hb2⟩
        refine hK _ _ ⟨true, true, true, true, true, l5, l6, false, false, p, q, rfl, rfl, hI1, (fun _ => ⟨rfl, rfl, rfl⟩), (fun h => by cases h), (fun h => by cases h), hS.below hb2⟩
      · obtain rfl := Option.some.inj ho
        obtain rfl := Option.some.inj ho2
        have e5 : l5 = false := hun
        subst e5
        have e7 : l7 = false := by
          rcases l7 with _ | _
          · rfl
          · exact absurd (hI7 rfl) (by simp)
        subst e7
        have e8 : l8 = false := by
          rcases l8 with _ | _
          · rfl
          · exact absurd (hI8 rfl) (by simp)
        subst e8
        clear hi ho ho2 hall hun
        simp only [slotw, if_true, Bool.false_eq_true, if_false]
        go_simp
        refine hK _ _ ⟨l0, l1, l2, l3, l4, true, l6, false, false, W.heap.size, q, rfl, rfl, hI1, hI4, (fun h => by cases h), (fun h => by cases h), hS.alloc1⟩
      · obtain rfl := Option.some.inj ho
        obtain rfl := Option.some.inj ho2
        have e6 : l6 = false := hun
        subst e6
        have e7 : l7 = false := by
          rcases l7 with _ | _
          · rfl
          · exact absurd (hI7 rfl) (by simp)
        subst e7
        have e8 : l8 = false := by
          rcases l8 with _ | _
          · rfl
          · exact absurd (hI8 rfl) (by simp)
        subst e8
        clear hi ho ho2 hall hun
        simp only [slotw, if_true, Bool.false_eq_true, if_false]
        go_simp
        refine hK _ _ ⟨l0, l1, l2, l3, l4, l5, true, false, false, p, W.heap.size, rfl, rfl, hI1, hI4, (fun h => by cases h), (fun h => by cases h), hS.alloc2⟩
      · obtain rfl := Option.some.inj ho
        obtain rfl := Option.some.inj ho2
        have e7 : l7 = false := hun
        subst e7
        have e0 : l0 = true := hall ⟨0, .phase⟩ (by simp) rfl
        subst e0
        have e1 : l1 = true := hall ⟨1, .data⟩ (by simp) rfl
        subst e1
        have e4 : l4 = true := hall ⟨4, .chain⟩ (by simp) rfl
        subst e4
        have e5 : l5 = true := hall ⟨5, .data⟩ (by simp) rfl
        subst e5
        have e6 : l6 = true := hall ⟨6, .phase⟩ (by simp) rfl
        subst e6
        have e2 : l2 = true := (hI4 rfl).2.1
        subst e2
        have e3 : l3 = true := (hI4 rfl).2.2
        subst e3
        have e8 : l8 = false := by
          rcases l8 with _ | _
          · rfl
          · exact absurd (hI8 rfl) (by simp)
        subst e8
        clear hi ho ho2 hall hun
        have f1 : ∀ j, W.frozen? ⟨p, j, none⟩ = false := fun j => by simp [World.frozen?, (hS.a rfl).2]
        have cp := cell_of_row W p 0 _ _ _ (hS.a rfl).2
        simp only [slotw, if_true, Bool.false_eq_true, if_false]
        go_simp
        refine hK _ _ ⟨true, true, true, true, true, true, true, true, false, p, q, rfl, rfl, hI1, hI4, (fun _ => ⟨rfl, rfl, rfl, rfl, rfl⟩), (fun h => by cases h), hS.set1⟩
      · obtain rfl := Option.some.inj ho
        obtain rfl := Option.some.inj ho2
        have e8 : l8 = false := hun
        subst e8
        have e0 : l0 = true := hall ⟨0, .phase⟩ (by simp) rfl
        subst e0
        have e1 : l1 = true := hall ⟨1, .phase⟩ (by simp) rfl
        subst e1
        have e2 : l2 = true := hall ⟨2, .phase⟩ (by simp) rfl
        subst e2
        have e3 : l3 = true := hall ⟨3, .phase⟩ (by simp) rfl
        subst e3
        have e4 : l4 = true := hall ⟨4, .data⟩ (by simp) rfl
        subst e4
        have e5 : l5 = true := hall ⟨5, .phase⟩ (by simp) rfl
        subst e5
        have e6 : l6 = true := hall ⟨6, .data⟩ (by simp) rfl
        subst e6
        have e7 : l7 = true := hall ⟨7, .chain⟩ (by simp) rfl
        subst e7
        clear hi ho ho2 hall hun
        have f1 : ∀ j, W.frozen? ⟨q, j, none⟩ = false := fun j => by simp [World.frozen?, (hS.b' rfl).2]
        obtain ⟨cp, cq⟩ := nv2 (hS.b' rfl).2
        simp only [slotw, if_true, Bool.false_eq_true, if_false]
        go_simp
        refine hK _ _ ⟨true, true, true, true, true, true, true, true, true, p, q, rfl, rfl, hI1, hI4, hI7, (fun _ => ⟨rfl, rfl, rfl, rfl, rfl, rfl, rfl, rfl⟩), hS.set2⟩
    · intro listed a W hJ hr
      obtain ⟨l0, l1, l2, l3, l4, l5, l6, l7, l8, p, q, rfl, rfl, hI1, hI4, hI7, hI8, hS⟩ := hJ
      have e0 : l0 = true := by
        rcases l0 with _ | _
        · exact (not_ready hr 0 _ rfl rfl (fun e he _ => absurd he (by simp))).elim
        · rfl
      subst e0
      have e1 : l1 = true := by
        rcases l1 with _ | _
        · exact (not_ready hr 1 _ rfl rfl (fun e he hb => by change e ∈ #[_] at he; simp only [List.mem_toArray, List.mem_cons, List.not_mem_nil, or_false] at he; rcases he with rfl <;> first | rfl | exact absurd hb (by decide))).elim
        · rfl
      subst e1
      have e2 : l2 = true := by
        rcases l2 with _ | _
        · exact (not_ready hr 2 _ rfl rfl (fun e he _ => absurd he (by simp))).elim
        · rfl
      subst e2
      have e3 : l3 = true := by
        rcases l3 with _ | _
        · exact (not_ready hr 3 _ rfl rfl (fun e he _ => absurd he (by simp))).elim
        · rfl
      subst e3
      have e4 : l4 = true := by
        rcases l4 with _ | _
        · exact (not_ready hr 4 _ rfl rfl (fun e he hb => by change e ∈ #[_, _, _] at he; simp only [List.mem_toArray, List.mem_cons, List.not_mem_nil, or_false] at he; rcases he with rfl | rfl | rfl <;> first | rfl | exact absurd hb (by decide))).elim
        · rfl
      subst e4
      have e5 : l5 = true := by
        rcases l5 with _ | _
        · exact (not_ready hr 5 _ rfl rfl (fun e he _ => absurd he (by simp))).elim
        · rfl
      subst e5
      have e6 : l6 = true := by
        rcases l6 with _ | _
        · exact (not_ready hr 6 _ rfl rfl (fun e he _ => absurd he (by simp))).elim
        · rfl
      subst e6
      have e7 : l7 = true := by
        rcases l7 with _ | _
        · exact (not_ready hr 7 _ rfl rfl (fun e he hb => by change e ∈ #[_, _, _, _, _, _, _, _, _, _] at he; simp only [List.mem_toArray, List.mem_cons, List.not_mem_nil, or_false] at he; rcases he with rfl | rfl | rfl | rfl | rfl | rfl | rfl | rfl | rfl | rfl <;> first | rfl | exact absurd hb (by decide))).elim
        · rfl
      subst e7
      have e8 : l8 = true := by
        rcases l8 with _ | _
        · exact (not_ready hr 8 _ rfl rfl (fun e he hb => by change e ∈ #[_, _, _, _, _, _, _, _, _, _, _] at he; simp only [List.mem_toArray, List.mem_cons, List.not_mem_nil, or_false] at he; rcases he with rfl | rfl | rfl | rfl | rfl | rfl | rfl | rfl | rfl | rfl | rfl <;> first | rfl | exact absurd hb (by decide))).elim
        · rfl
      subst e8
      simp only [slotw, if_true]
      clear hI1 hI4 hI7 hI8 hr
      go_wp2
      go_meet
      case rel => exact ⟨p, q, rfl, rfl, Lib.hid hS⟩
    · exact (by decide : lacks (Array.replicate 9 false).toList ≤ 9)
    · exact ⟨false, false, false, false, false, false, false, false, false, 0, 0, rfl, rfl, (fun h => by cases h), (fun h => by cases h), (fun h => by cases h), (fun h => by cases h), DSt.first HSD.out⟩
end Go.Proofs.Ytpajndeongcjbaa
