/-
  Layer 11: contract of join: what comes along an edge is put in.
-/
import Derived.Test.YtpajndeongcjbaaQG11BehC
namespace Go.Proofs.Ytpajndeongcjbaa
set_option maxRecDepth 100000
open Go.RowKit Cd
set_option linter.unusedVariables false
set_option linter.unusedSimpArgs false

/-- A block is a row of these values. -/
def ValRow (w : World) (g : Nat) (l : List Val) : Prop := w.heap[g]? = some (.cells (l.flatMap vlCells).toArray 66 (0, 0))
theorem ValRow.lt {w : World} {g : Nat} {l : List Val} (h : ValRow w g l) : g < w.heap.size := lt_heap h
theorem ValRow.keep {w w' : World} {g : Nat} {l : List Val} (h : ValRow w g l) (e : w'.heap[g]? = w.heap[g]?) : ValRow w' g l := e.trans h
theorem ValRow.cells {w : World} {g : Nat} {l : List Val} (h : ValRow w g l) {k : Nat} {x : Val} (hk : l[k]? = some x) : w.cell? ⟨g, k * 2, none⟩ = some (.int .i64 x.kind) ∧ w.cell? ⟨g, k * 2 + 1, none⟩ = some (.int .i64 x.n) := by
  refine ⟨?_, ?_⟩
  · rw [cell_of_row w g _ _ _ _ h]
    have := flat_at vlCells_len l k 0 x hk (by omega)
    simpa using this
  · rw [cell_of_row w g _ _ _ _ h]
    have := flat_at vlCells_len l k 1 x hk (by omega)
    simpa using this
theorem ValRow.vals {w : World} {g B : Nat} {l : List Val} (h : ValRow w g l) (hg : g < B) (hB : B ≤ w.heap.size) : ValsAt w B (some ⟨g, 0, none⟩) l := fun _ => ⟨g, 0, rfl, hg, hB, fun j u hu => by rw [Nat.zero_add, cell_of_row w g _ _ _ _ h]; simpa using hu⟩
theorem flat_set : ∀ (l : List Val) (k : Nat) (x : Val), k < l.length → ((l.flatMap vlCells).set (k * 2) (.int .i64 x.kind)).set (k * 2 + 1) (.int .i64 x.n) = (l.set k x).flatMap vlCells
  | [], k, x, h => by simp at h
  | a :: l, 0, x, _ => by simp
  | a :: l, k + 1, x, h => by
    have ih := flat_set l k x (by simpa using h)
    have e1 : (k + 1) * 2 = k * 2 + 1 + 1 := by omega
    have e2 : (k + 1) * 2 + 1 = k * 2 + 1 + 1 + 1 := by omega
    rw [e2, e1]
    simp only [List.flatMap_cons, List.cons_append, List.nil_append, List.set_cons_succ]
    rw [ih]
theorem ValRow.set {w : World} {g : Nat} {l : List Val} (h : ValRow w g l) {k : Nat} (hk : k < l.length) (x : Val) : ValRow ((w.setCell ⟨g, k * 2, none⟩ (.int .i64 x.kind)).setCell ⟨g, k * 2 + 1, none⟩ (.int .i64 x.n)) g (l.set k x) := by
  have h1 := cells_set (cells_set h (k * 2) (.int .i64 x.kind)) (k * 2 + 1) (.int .i64 x.n)
  unfold ValRow
  rw [h1, List.setIfInBounds_toArray, List.setIfInBounds_toArray, flat_set l k x hk]
theorem ValRow.frozen {w : World} {g : Nat} {l : List Val} (h : ValRow w g l) (j : Nat) : w.frozen? ⟨g, j, none⟩ = false := by simp [World.frozen?, (show w.heap[g]? = _ from h)]
/-- Nothing changes but a block, and what is new. -/
structure Mvd (g B : Nat) (w w' : World) : Prop where
  below : Below B w w'
  size : w.heap.size ≤ w'.heap.size
  kept : ∀ j, j < w.heap.size → j ≠ g → w'.heap[j]? = w.heap[j]?
theorem Mvd.refl (g B : Nat) (w : World) : Mvd g B w w := ⟨Below.refl _ _, Nat.le_refl _, fun _ _ _ => rfl⟩
theorem Mvd.trans {g B : Nat} {w w1 w2 : World} (h : Mvd g B w w1) (k : Mvd g B w1 w2) : Mvd g B w w2 :=
  ⟨h.below.trans k.below, Nat.le_trans h.size k.size, fun j hj hg => (k.kept j (by have := h.size; omega) hg).trans (h.kept j hj hg)⟩
theorem Mvd.more {g B : Nat} {w w1 w2 : World} (h : Mvd g B w w1) (hB : B ≤ w1.heap.size) (k : Below w1.heap.size w1 w2) : Mvd g B w w2 :=
  ⟨h.below.trans (k.mono hB), Nat.le_trans h.size k.size, fun j hj hg => (k.block j (by have := h.size; omega)).trans (h.kept j hj hg)⟩
theorem Mvd.set {g B : Nat} {w w1 : World} (h : Mvd g B w w1) (hB : B ≤ g) (j : Nat) (u : Value) : Mvd g B w (w1.setCell ⟨g, j, none⟩ u) :=
  ⟨h.below.setCell hB u, by simpa using h.size, fun i hi hg => (heap_oth hg).trans (h.kept i hi hg)⟩
theorem Mvd.drew {g B : Nat} {w w1 : World} (h : Mvd g B w w1) : Mvd g B w w1.drew := ⟨drW h.below, h.size, h.kept⟩
theorem take_moreV {l : List Val} {k : Nat} {x : Val} (h : l[k]? = some x) : l.take (k + 1) = l.take k ++ [x] := by rw [List.take_add_one, h]; rfl
/-- What a row is when so many registers are joined. -/
def Cd.mixL (old c : List Val) (k : Nat) : List Val := (joinL old c).take k ++ old.drop k
theorem mixL_len {old c : List Val} (h : c.length = old.length) (k : Nat) : (mixL old c k).length = old.length := by
  unfold mixL; rw [List.length_append, List.length_take, List.length_drop, joinL_len h]; omega
theorem mixL_zero (old c : List Val) : mixL old c 0 = old := by simp [mixL]
theorem mixL_all {old c : List Val} (h : c.length = old.length) : mixL old c old.length = joinL old c := by
  unfold mixL; rw [List.take_of_length_le (by rw [joinL_len h]; omega), List.drop_length, List.append_nil]
theorem mixL_at {old c : List Val} (h : c.length = old.length) {k : Nat} {a : Val} (ha : old[k]? = some a) : (mixL old c k)[k]? = some a := by
  have hk := (List.getElem?_eq_some_iff.1 ha).1
  unfold mixL
  rw [List.getElem?_append_right (by rw [List.length_take]; omega), List.length_take, joinL_len h, Nat.min_eq_left (by omega), Nat.sub_self, List.getElem?_drop, Nat.add_zero]
  exact ha
theorem mixL_set {old c : List Val} (h : c.length = old.length) {k : Nat} {a b : Val} (ha : old[k]? = some a) (hb : c[k]? = some b) : (mixL old c k).set k (joinV a b) = mixL old c (k + 1) := by
  have hk := (List.getElem?_eq_some_iff.1 ha).1
  have hj := joinL_at ha hb
  unfold mixL
  have h1 : ((joinL old c).take k).length = k := by rw [List.length_take, joinL_len h]; omega
  rw [List.set_append_right _ _ (by omega), h1, Nat.sub_self, take_moreV hj, List.append_assoc]
  congr 1
  have : old.drop k = a :: old.drop (k + 1) := by
    rw [List.drop_eq_getElem_cons hk]
    rw [List.getElem?_eq_getElem hk] at ha
    injection ha with ha
    rw [ha]
  rw [this, List.set_cons_zero]; rfl
theorem mixL_same {old c : List Val} (h : c.length = old.length) {k : Nat} {a b : Val} (ha : old[k]? = some a) (hb : c[k]? = some b) (he : joinV a b = a) : mixL old c (k + 1) = mixL old c k := by
  rw [← mixL_set h ha hb, he]
  apply List.ext_getElem?
  intro j
  by_cases hj : k = j
  · subst hj
    rw [List.getElem?_set_self (by rw [mixL_len h]; exact (List.getElem?_eq_some_iff.1 ha).1), mixL_at h ha]
  · rw [List.getElem?_set_ne hj]
/-- Has one of the first so many changed? -/
def Cd.chgL (old c : List Val) (k : Nat) : Bool := decide ((joinL old c).take k ≠ old.take k)
theorem chgL_more {old c : List Val} {k : Nat} {a b : Val} (ha : old[k]? = some a) (hb : c[k]? = some b) : chgL old c (k + 1) = (chgL old c k || decide (joinV a b ≠ a)) := by
  unfold chgL
  rw [take_moreV (joinL_at ha hb), take_moreV ha, Bool.eq_iff_iff]
  simp only [Bool.or_eq_true, decide_eq_true_eq]
  have hl : ((joinL old c).take k).length = (old.take k).length := by
    have h1 := (List.getElem?_eq_some_iff.1 ha).1
    have h2 := (List.getElem?_eq_some_iff.1 (joinL_at ha hb)).1
    rw [List.length_take, List.length_take]; omega
  constructor
  · intro h
    by_cases h1 : (joinL old c).take k = old.take k
    · right; intro h2; exact h (by rw [h1, h2])
    · exact .inl h1
  · rintro (h | h) e
    · exact h (List.append_inj_left e hl)
    · have := List.append_inj_right e hl
      exact h (by simpa using this)
theorem chgL_all {old c : List Val} (h : c.length = old.length) : chgL old c old.length = decide (joinL old c ≠ old) := by
  unfold chgL
  rw [List.take_of_length_le (by rw [joinL_len h]; omega), List.take_length]
def JoinPost (g B : Nat) (old c : List Val) (w : World) (e : Ending) (w' : World) : Prop := e = .returned (.bool (decide (joinL old c ≠ old))) ∧ ValRow w' g (joinL old c) ∧ Mvd g B w w'
/-- The state in a round: the row, the box of the value, what is kept. -/
structure JL (w0 w : World) (g B : Nat) (l : List Val) (bx : Nat) (v : Val) : Prop where
  row : ValRow w g l
  box : w.heap[bx]? = some (vlO v)
  mv : Mvd g B w0 w
  gl : g < w0.heap.size
  bl : w0.heap.size ≤ bx
  B0 : B ≤ g
section
variable {w0 w w' : World} {g B bx : Nat} {l : List Val} {v x : Val}
theorem JL.below (h : JL w0 w g B l bx v) (hb : Below w.heap.size w w') : JL w0 w' g B l bx v :=
  ⟨h.row.keep (hb.block _ h.row.lt), (hb.block _ (lt_heap h.box)).trans h.box, h.mv.more (by have := h.mv.size; have := h.gl; have := h.B0; omega) hb, h.gl, h.bl, h.B0⟩
/-- l5: the box of what is joined is made; l6: it holds it. -/
structure JD (w0 w : World) (g B : Nat) (l : List Val) (bx : Nat) (v x : Val) (l5 l6 : Bool) (q : Nat) : Prop where
  st : JL w0 w g B l bx v
  a : l5 = true → w0.heap.size ≤ q ∧ w.heap[q]? = some (vlO (if l6 = true then x else ⟨0, 0⟩)) ∧ q ≠ bx
theorem JD.first (h : JL w0 w g B l bx v) : JD w0 w g B l bx v x false false 0 := ⟨h, fun h => (by cases h)⟩
theorem JD.below {l5 l6 : Bool} {q : Nat} (h : JD w0 w g B l bx v x l5 l6 q) (hb : Below w.heap.size w w') : JD w0 w' g B l bx v x l5 l6 q :=
  ⟨h.st.below hb, fun e => ⟨(h.a e).1, (hb.block _ (lt_heap (h.a e).2.1)).trans (h.a e).2.1, (h.a e).2.2⟩⟩
theorem JD.alloc {q : Nat} (h : JD w0 w g B l bx v x false false q) : JD w0 (w.alloc (vlO ⟨0, 0⟩)) g B l bx v x true false w.heap.size :=
  ⟨h.st.below ((Below.refl _ w).alloc (Nat.le_refl _) _), fun _ => ⟨h.st.mv.size, heap_alloc_new w _, by have := lt_heap h.st.box; omega⟩⟩
theorem JD.set {q : Nat} (h : JD w0 w g B l bx v x true false q) : JD w0 ((w.setCell ⟨q, 0, none⟩ (.int .i64 x.kind)).setCell ⟨q, 1, none⟩ (.int .i64 x.n)) g B l bx v x true true q := by
  obtain ⟨h1, h2, h3⟩ := h.a rfl
  have hq : q ≠ g := by have := h.st.gl; omega
  have hB : B ≤ q := by have := h.st.gl; have := h.st.B0; omega
  refine ⟨⟨h.st.row.keep ((heap_oth (fun e => hq e.symm)).trans (heap_oth (fun e => hq e.symm))), (heap_oth (fun e => h3 e.symm)).trans ((heap_oth (fun e => h3 e.symm)).trans h.st.box), ?_, h.st.gl, h.st.bl, h.st.B0⟩, fun _ => ⟨h1, set2 h2 _ _, h3⟩⟩
  exact ⟨(h.st.mv.below.setCell hB _).setCell hB _, by simpa using h.st.mv.size, fun j hj hg => (heap_oth (by omega)).trans ((heap_oth (by omega)).trans (h.st.mv.kept j hj hg))⟩
end
set_option maxHeartbeats 8000000 in
theorem join_first (b1 g B cap : Nat) (old c : List Val) (w : World) (hrow : ValRow w g old) (hcl : c.length = old.length) (ho : ∀ a ∈ old, OkV a) (hco : ∀ a ∈ c, OkV a) (hB : B ≤ g) (hlen : old.length ≤ 5000)
    (HC : ∀ (k : Nat) (x : Val) (V : World) (l : List Val), c[k]? = some x → Mvd g B w V → ValRow V g l → l[k]? = old[k]? → Calls Try.prog 107 #[.int .i64 (k : Int), .pointer (some ⟨b1, 0, none⟩)] V (RPost (vlV x) V)) :
    Calls Try.prog 75 #[.slice (some ⟨g, 0, none⟩) old.length cap, (.func (.func 107) #[] #[.pointer (some ⟨b1, 0, none⟩)])] w (JoinPost g B old c w) := by
  have hmix : Try.prog.follows .mixedOrders = true := by kernel_rfl
  have HCC := Lib.hid HC
  have HOK := Lib.hid ho; have HCO := Lib.hid hco; have HCL := Lib.hid hcl
  have HG : Hid (g < w.heap.size) := Lib.hid hrow.lt
  have HRW := Lib.hid hrow
  have hgb := hrow.lt
  clear HC ho hco hrow hcl
  go_enter Try.func75, Try.ntmps75
  go_wp2
  go_loopw [5, 11] (fun s5 s11 wr => ∃ k : Nat, k ≤ old.length ∧ s11 = .int .i64 (k : Int) ∧ s5 = .bool (chgL old c k) ∧ Hid (ValRow wr g (mixL old c k)) ∧ Hid (Mvd g B w wr)) (fun s5 s11 wr => old.length - (intOf s11).toNat)
  case atStart => exact ⟨0, by omega, rfl, by unfold chgL; simp, by rw [mixL_zero]; exact HRW, Lib.hid (Mvd.refl _ _ _)⟩
  case round =>
    obtain ⟨k, hk, rfl, rfl, HRR, HMV⟩ := hrel
    have k0 : (0 : Int) ≤ (k : Int) := Int.natCast_nonneg _
    by_cases hlt : k < old.length
    · have k1 : (k : Int) < (old.length : Int) := by omega
      obtain ⟨a, ha⟩ : ∃ a, old[k]? = some a := ⟨_, List.getElem?_eq_getElem hlt⟩
      obtain ⟨x, hx⟩ : ∃ x, c[k]? = some x := ⟨_, List.getElem?_eq_getElem (by have := HCL.out; omega)⟩
      obtain ⟨c0, c1⟩ := HRR.out.cells (mixL_at HCL.out ha)
      have HAK := Lib.hid ha; have HXK := Lib.hid hx; have HLT := Lib.hid hlt
      have hjp := joinP_ok (HOK.out a (List.mem_of_getElem? ha)) (HCO.out x (List.mem_of_getElem? hx))
      have HJC : Hid (∀ V, Calls Try.prog 106 #[vlV a, vlV x] V (RPost (vlV (joinV a x)) V)) := Lib.hid (fun V => hjp ▸ join_c a x V)
      obtain ⟨sc, hsc⟩ : ∃ b, chgL old c k = b := ⟨_, rfl⟩
      have HSC := Lib.hid (hsc ▸ chgL_more ha hx)
      rw [hsc]
      have HJ0 : Hid (JL w (wr.alloc (vlO a)) g B (mixL old c k) wr.heap.size a) := Lib.hid (⟨HRR.out.keep (Below.heap_alloc _ _ _ HRR.out.lt), heap_alloc_new wr _, HMV.out.more (by have := HMV.out.size; omega) ((Below.refl _ wr).alloc (Nat.le_refl _) _), HG.out, HMV.out.size, hB⟩)
      obtain ⟨y, hy⟩ : ∃ y, joinV a x = y := ⟨_, rfl⟩
      rw [hy] at HJC HSC
      have HY := Lib.hid hy
      clear ha hx hlt hjp hsc hy
      go_upto_region 5 with fail
      go_cut [8] from 16 to 20 (fun s8 wc => ∃ q, s8 = .pointer (some ⟨q, 0, none⟩) ∧ Hid (JD w wc g B (mixL old c k) wr.heap.size a y true true q))
      case first =>
        have HJD : Hid (JL w (wr.alloc (vlO a)).drew g B (mixL old c k) wr.heap.size a) := Lib.hid ⟨HJ0.out.row, HJ0.out.box, HJ0.out.mv.drew, HJ0.out.gl, HJ0.out.bl, HJ0.out.B0⟩
        refine wp_region_any hmix ?_
        refine any_inv (J := (fun lst act W => ∃ l0 l1 l2 l3 l4 l5 l6 : Bool, ∃ q : Nat, lst = #[l0, l1, l2, l3, l4, l5, l6] ∧ act = ⟨#[.slice (some ⟨g, 0, none⟩) old.length cap, .func (.func 107) #[] #[.pointer (some ⟨b1, 0, none⟩)], undef, undef, .bool false, .bool sc, .int .i64 (k : Int), .pointer (some ⟨wr.heap.size, 0, none⟩), slotw l5 (.pointer (some ⟨q, 0, none⟩)) (u8), .slice (some ⟨g, 0, none⟩) old.length cap, .int .i64 (old.length : Int), .int .i64 (k : Int), .bool true, .int .i64 (k : Int), .pointer (some ⟨g, k * 2, none⟩), vlV a, slotw l0 (vlV a) (u16), slotw l1 (.func (.func 107) #[] #[.pointer (some ⟨b1, 0, none⟩)]) (u17), slotw l2 (.int .i64 (k : Int)) (u18), slotw l3 (vlV x) (u19), slotw l4 (vlV y) (u20), u21, u22, u23, u24, u25, u26, u27, u28, undef], []⟩ ∧ (l3 = true → l1 = true ∧ l2 = true) ∧ (l4 = true → l0 = true ∧ l3 = true) ∧ (l6 = true → l0 = true ∧ l1 = true ∧ l2 = true ∧ l3 = true ∧ l4 = true ∧ l5 = true) ∧ JD w W g B (mixL old c k) wr.heap.size a y l5 l6 q)) ?_ ?_ _ _ _ _ ?_ ?_
        · intro lst act W iop oop hJ hi ho K' hK
          obtain ⟨l0, l1, l2, l3, l4, l5, l6, q, rfl, rfl, hI3, hI4, hI6, hS⟩ := hJ
          obtain ⟨hun, o2, ho2, hall⟩ := mem_ready.1 hi
          have hlt := (Array.getElem?_eq_some_iff.1 ho).1
          simp only [List.size_toArray, List.length_cons, List.length_nil] at hlt
          rcases (by omega : iop = 0 ∨ iop = 1 ∨ iop = 2 ∨ iop = 3 ∨ iop = 4 ∨ iop = 5 ∨ iop = 6) with rfl | rfl | rfl | rfl | rfl | rfl | rfl
          · obtain rfl := Option.some.inj ho
            obtain rfl := Option.some.inj ho2
            have e0 : l0 = false := hun
            subst e0
            have e4 : l4 = false := by
              rcases l4 with _ | _
              · rfl
              · exact absurd (hI4 rfl) (by simp)
            subst e4
            have e6 : l6 = false := by
              rcases l6 with _ | _
              · rfl
              · exact absurd (hI6 rfl) (by simp)
            subst e6
            clear hi ho ho2 hall hun
            obtain ⟨v0, v1⟩ := nv2 hS.st.box
            simp only [slotw, if_true, Bool.false_eq_true, if_false]
            go_simp
            refine hK _ _ ⟨true, l1, l2, l3, false, l5, false, q, rfl, rfl, hI3, (fun h => by cases h), (fun h => by cases h), hS⟩
          · obtain rfl := Option.some.inj ho
            obtain rfl := Option.some.inj ho2
            have e1 : l1 = false := hun
            subst e1
            have e3 : l3 = false := by
              rcases l3 with _ | _
              · rfl
              · exact absurd (hI3 rfl) (by simp)
            subst e3
            have e6 : l6 = false := by
              rcases l6 with _ | _
              · rfl
              · exact absurd (hI6 rfl) (by simp)
            subst e6
            clear hi ho ho2 hall hun
            simp only [slotw, if_true, Bool.false_eq_true, if_false]
            go_simp
            refine hK _ _ ⟨l0, true, l2, false, l4, l5, false, q, rfl, rfl, (fun h => by cases h), hI4, (fun h => by cases h), hS⟩
          · obtain rfl := Option.some.inj ho
            obtain rfl := Option.some.inj ho2
            have e2 : l2 = false := hun
            subst e2
            have e3 : l3 = false := by
              rcases l3 with _ | _
              · rfl
              · exact absurd (hI3 rfl) (by simp)
            subst e3
            have e6 : l6 = false := by
              rcases l6 with _ | _
              · rfl
              · exact absurd (hI6 rfl) (by simp)
            subst e6
            clear hi ho ho2 hall hun
            simp only [slotw, if_true, Bool.false_eq_true, if_false]
            go_simp
            refine hK _ _ ⟨l0, l1, true, false, l4, l5, false, q, rfl, rfl, (fun h => by cases h), hI4, (fun h => by cases h), hS⟩
          · obtain rfl := Option.some.inj ho
            obtain rfl := Option.some.inj ho2
            have e3 : l3 = false := hun
            subst e3
            have e1 : l1 = true := hall ⟨1, .data⟩ (by simp) rfl
            subst e1
            have e2 : l2 = true := hall ⟨2, .data⟩ (by simp) rfl
            subst e2
            have e4 : l4 = false := by
              rcases l4 with _ | _
              · rfl
              · exact absurd (hI4 rfl) (by simp)
            subst e4
            have e6 : l6 = false := by
              rcases l6 with _ | _
              · rfl
              · exact absurd (hI6 rfl) (by simp)
            subst e6
            clear hi ho ho2 hall hun
            simp only [slotw, if_true, Bool.false_eq_true, if_false]
            go_simp
            refine (HCC.out k x W _ HXK.out hS.st.mv hS.st.row ((mixL_at HCL.out HAK.out).trans HAK.out.symm)).mono ?_
            rintro e W2 ⟨rfl, hb2⟩
            refine hK _ _ ⟨l0, true, true, true, false, l5, false, q, rfl, rfl, (fun _ => ⟨rfl, rfl⟩), (fun h => by cases h), (fun h => by cases h), hS.below hb2⟩
          · obtain rfl := Option.some.inj ho
            obtain rfl := Option.some.inj ho2
            have e4 : l4 = false := hun
            subst e4
            have e0 : l0 = true := hall ⟨0, .data⟩ (by simp) rfl
            subst e0
            have e3 : l3 = true := hall ⟨3, .data⟩ (by simp) rfl
            subst e3
            have e1 : l1 = true := (hI3 rfl).1
            subst e1
            have e2 : l2 = true := (hI3 rfl).2
            subst e2
            have e6 : l6 = false := by
              rcases l6 with _ | _
              · rfl
              · exact absurd (hI6 rfl) (by simp)
            subst e6
            clear hi ho ho2 hall hun
            simp only [slotw, if_true, Bool.false_eq_true, if_false]
            go_simp
            refine (HJC.out W).mono ?_
            rintro e W2 ⟨rfl, hb2⟩
            refine hK _ _ ⟨true, true, true, true, true, l5, false, q, rfl, rfl, hI3, (fun _ => ⟨rfl, rfl⟩), (fun h => by cases h), hS.below hb2⟩
          · obtain rfl := Option.some.inj ho
            obtain rfl := Option.some.inj ho2
            have e5 : l5 = false := hun
            subst e5
            have e6 : l6 = false := by
              rcases l6 with _ | _
              · rfl
              · exact absurd (hI6 rfl) (by simp)
            subst e6
            clear hi ho ho2 hall hun
            simp only [slotw, if_true, Bool.false_eq_true, if_false]
            go_simp
            refine hK _ _ ⟨l0, l1, l2, l3, l4, true, false, W.heap.size, rfl, rfl, hI3, hI4, (fun h => by cases h), hS.alloc⟩
          · obtain rfl := Option.some.inj ho
            obtain rfl := Option.some.inj ho2
            have e6 : l6 = false := hun
            subst e6
            have e0 : l0 = true := hall ⟨0, .phase⟩ (by simp) rfl
            subst e0
            have e1 : l1 = true := hall ⟨1, .phase⟩ (by simp) rfl
            subst e1
            have e2 : l2 = true := hall ⟨2, .phase⟩ (by simp) rfl
            subst e2
            have e3 : l3 = true := hall ⟨3, .phase⟩ (by simp) rfl
            subst e3
            have e4 : l4 = true := hall ⟨4, .data⟩ (by simp) rfl
            subst e4
            have e5 : l5 = true := hall ⟨5, .data⟩ (by simp) rfl
            subst e5
            clear hi ho ho2 hall hun
            have f1 : ∀ j, W.frozen? ⟨q, j, none⟩ = false := fun j => by simp [World.frozen?, (hS.a rfl).2.1]
            obtain ⟨cp, cq⟩ := nv2 (hS.a rfl).2.1
            simp only [slotw, if_true, Bool.false_eq_true, if_false]
            go_simp
            refine hK _ _ ⟨true, true, true, true, true, true, true, q, rfl, rfl, hI3, hI4, (fun _ => ⟨rfl, rfl, rfl, rfl, rfl, rfl⟩), hS.set⟩
        · intro lst act W hJ hr
          obtain ⟨l0, l1, l2, l3, l4, l5, l6, q, rfl, rfl, hI3, hI4, hI6, hS⟩ := hJ
          have e0 : l0 = true := by
            rcases l0 with _ | _
            · exact (not_ready hr 0 _ rfl rfl (fun e he _ => absurd he (by simp))).elim
            · rfl
          subst e0
          have e1 : l1 = true := by
            rcases l1 with _ | _
            · exact (not_ready hr 1 _ rfl rfl (fun e he _ => absurd he (by simp))).elim
            · rfl
          subst e1
          have e2 : l2 = true := by
            rcases l2 with _ | _
            · exact (not_ready hr 2 _ rfl rfl (fun e he _ => absurd he (by simp))).elim
            · rfl
          subst e2
          have e3 : l3 = true := by
            rcases l3 with _ | _
            · exact (not_ready hr 3 _ rfl rfl (fun e he hb => by change e ∈ #[_, _] at he; simp only [List.mem_toArray, List.mem_cons, List.not_mem_nil, or_false] at he; rcases he with rfl | rfl <;> first | rfl | exact absurd hb (by decide))).elim
            · rfl
          subst e3
          have e4 : l4 = true := by
            rcases l4 with _ | _
            · exact (not_ready hr 4 _ rfl rfl (fun e he hb => by change e ∈ #[_, _, _] at he; simp only [List.mem_toArray, List.mem_cons, List.not_mem_nil, or_false] at he; rcases he with rfl | rfl | rfl <;> first | rfl | exact absurd hb (by decide))).elim
            · rfl
          subst e4
          have e5 : l5 = true := by
            rcases l5 with _ | _
            · exact (not_ready hr 5 _ rfl rfl (fun e he _ => absurd he (by simp))).elim
            · rfl
          subst e5
          have e6 : l6 = true := by
            rcases l6 with _ | _
            · exact (not_ready hr 6 _ rfl rfl (fun e he hb => by change e ∈ #[_, _, _, _, _, _, _, _, _] at he; simp only [List.mem_toArray, List.mem_cons, List.not_mem_nil, or_false] at he; rcases he with rfl | rfl | rfl | rfl | rfl | rfl | rfl | rfl | rfl <;> first | rfl | exact absurd hb (by decide))).elim
            · rfl
          subst e6
          simp only [slotw, if_true]
          clear hI3 hI4 hI6 hr
          go_wp2
          go_meet
          case rel => exact ⟨q, rfl, Lib.hid hS⟩
        · exact (by decide : lacks (Array.replicate 7 false).toList ≤ 7)
        · exact ⟨false, false, false, false, false, false, false, 0, rfl, rfl, (fun h => by cases h), (fun h => by cases h), (fun h => by cases h), JD.first HJD.out⟩
      case rest =>
        obtain ⟨q, rfl, HD⟩ := hcut
        obtain ⟨q0, q1⟩ := nv2 (HD.out.a rfl).2.1
        obtain ⟨v0, v1⟩ := nv2 HD.out.st.box
        simp only [if_true] at q0 q1
        by_cases hne : y = a
        · subst hne
          have HM : Hid (mixL old c (k + 1) = mixL old c k) := Lib.hid (mixL_same HCL.out HAK.out HXK.out HY.out)
          have HSC2 : Hid (chgL old c (k + 1) = sc) := Lib.hid (by rw [HSC.out]; simp)
          go_wp2
          go_roundw
          case rel => exact ⟨k + 1, HLT.out, by go_num, by rw [HSC2.out], by rw [HM.out]; exact Lib.hid HD.out.st.row, Lib.hid HD.out.st.mv⟩
          case measure => have := HLT.out; simp [intOf]; omega
        · have HM : Hid ((mixL old c k).set k y = mixL old c (k + 1)) := Lib.hid (by rw [← HY.out]; exact mixL_set HCL.out HAK.out HXK.out)
          have HSC2 : Hid (chgL old c (k + 1) = true) := Lib.hid (by rw [HSC.out]; simp [hne])
          have HN : Hid (y.kind = a.kind → y.n = a.n → False) := Lib.hid (fun h1 h2 => hne ((Val.ext_iff' _ _).1 ⟨h1, h2⟩))
          have hkl : k < (mixL old c k).length := by rw [mixL_len HCL.out]; exact HLT.out
          have HST := Lib.hid (HM.out ▸ HD.out.st.row.set hkl y)
          have HMS := Lib.hid ((HD.out.st.mv.set hB (k * 2) (.int .i64 y.kind)).set hB (k * 2 + 1) (.int .i64 y.n))
          obtain ⟨g0, g1⟩ := HD.out.st.row.cells (mixL_at HCL.out HAK.out)
          have gf : ∀ j, wc.frozen? ⟨g, j, none⟩ = false := fun j => HD.out.st.row.frozen j
          have hgc := HD.out.st.row.lt
          clear hne hkl
          go_wp2
          all_goals first
            | (exfalso; exact HN.out (by assumption) (by assumption))
            | (go_roundw
               case rel => first | exact ⟨k + 1, HLT.out, by go_num, by rw [HSC2.out], HST, HMS⟩ | (have e9 : y.kind = a.kind := (by assumption); rw [e9] at HST HMS; exact ⟨k + 1, HLT.out, by go_num, by rw [HSC2.out], HST, HMS⟩)
               case measure => have := HLT.out; simp [intOf]; omega)
    · obtain rfl : k = old.length := by omega
      have HM := mixL_all HCL.out
      have HX := chgL_all HCL.out
      go_wp2
      go_ret
      exact ⟨by first | rfl | (rw [HX]; rfl), HM ▸ HRR.out, HMV.out⟩
set_option maxHeartbeats 8000000 in
theorem join_behind (b1 b2 b3 g B cap : Nat) (old c : List Val) (w : World) (hrow : ValRow w g old) (hcl : c.length = old.length) (ho : ∀ a ∈ old, OkV a) (hco : ∀ a ∈ c, OkV a) (hB : B ≤ g) (hlen : old.length ≤ 5000)
    (HC : ∀ (k : Nat) (x : Val) (V : World) (l : List Val), c[k]? = some x → Mvd g B w V → ValRow V g l → l[k]? = old[k]? → Calls Try.prog 110 #[.int .i64 (k : Int), .pointer (some ⟨b1, 0, none⟩), .pointer (some ⟨b2, 0, none⟩), .pointer (some ⟨b3, 0, none⟩)] V (RPost (vlV x) V)) :
    Calls Try.prog 75 #[.slice (some ⟨g, 0, none⟩) old.length cap, (.func (.func 110) #[] #[.pointer (some ⟨b1, 0, none⟩), .pointer (some ⟨b2, 0, none⟩), .pointer (some ⟨b3, 0, none⟩)])] w (JoinPost g B old c w) := by
  have hmix : Try.prog.follows .mixedOrders = true := by kernel_rfl
  have HCC := Lib.hid HC
  have HOK := Lib.hid ho; have HCO := Lib.hid hco; have HCL := Lib.hid hcl
  have HG : Hid (g < w.heap.size) := Lib.hid hrow.lt
  have HRW := Lib.hid hrow
  have hgb := hrow.lt
  clear HC ho hco hrow hcl
  go_enter Try.func75, Try.ntmps75
  go_wp2
  go_loopw [5, 11] (fun s5 s11 wr => ∃ k : Nat, k ≤ old.length ∧ s11 = .int .i64 (k : Int) ∧ s5 = .bool (chgL old c k) ∧ Hid (ValRow wr g (mixL old c k)) ∧ Hid (Mvd g B w wr)) (fun s5 s11 wr => old.length - (intOf s11).toNat)
  case atStart => exact ⟨0, by omega, rfl, by unfold chgL; simp, by rw [mixL_zero]; exact HRW, Lib.hid (Mvd.refl _ _ _)⟩
  case round =>
    obtain ⟨k, hk, rfl, rfl, HRR, HMV⟩ := hrel
    have k0 : (0 : Int) ≤ (k : Int) := Int.natCast_nonneg _
    by_cases hlt : k < old.length
    · have k1 : (k : Int) < (old.length : Int) := by omega
      obtain ⟨a, ha⟩ : ∃ a, old[k]? = some a := ⟨_, List.getElem?_eq_getElem hlt⟩
      obtain ⟨x, hx⟩ : ∃ x, c[k]? = some x := ⟨_, List.getElem?_eq_getElem (by have := HCL.out; omega)⟩
      obtain ⟨c0, c1⟩ := HRR.out.cells (mixL_at HCL.out ha)
      have HAK := Lib.hid ha; have HXK := Lib.hid hx; have HLT := Lib.hid hlt
      have hjp := joinP_ok (HOK.out a (List.mem_of_getElem? ha)) (HCO.out x (List.mem_of_getElem? hx))
      have HJC : Hid (∀ V, Calls Try.prog 106 #[vlV a, vlV x] V (RPost (vlV (joinV a x)) V)) := Lib.hid (fun V => hjp ▸ join_c a x V)
      obtain ⟨sc, hsc⟩ : ∃ b, chgL old c k = b := ⟨_, rfl⟩
      have HSC := Lib.hid (hsc ▸ chgL_more ha hx)
      rw [hsc]
      have HJ0 : Hid (JL w (wr.alloc (vlO a)) g B (mixL old c k) wr.heap.size a) := Lib.hid (⟨HRR.out.keep (Below.heap_alloc _ _ _ HRR.out.lt), heap_alloc_new wr _, HMV.out.more (by have := HMV.out.size; omega) ((Below.refl _ wr).alloc (Nat.le_refl _) _), HG.out, HMV.out.size, hB⟩)
      obtain ⟨y, hy⟩ : ∃ y, joinV a x = y := ⟨_, rfl⟩
      rw [hy] at HJC HSC
      have HY := Lib.hid hy
      clear ha hx hlt hjp hsc hy
      go_upto_region 5 with fail
      go_cut [8] from 16 to 20 (fun s8 wc => ∃ q, s8 = .pointer (some ⟨q, 0, none⟩) ∧ Hid (JD w wc g B (mixL old c k) wr.heap.size a y true true q))
      case first =>
        have HJD : Hid (JL w (wr.alloc (vlO a)).drew g B (mixL old c k) wr.heap.size a) := Lib.hid ⟨HJ0.out.row, HJ0.out.box, HJ0.out.mv.drew, HJ0.out.gl, HJ0.out.bl, HJ0.out.B0⟩
        refine wp_region_any hmix ?_
        refine any_inv (J := (fun lst act W => ∃ l0 l1 l2 l3 l4 l5 l6 : Bool, ∃ q : Nat, lst = #[l0, l1, l2, l3, l4, l5, l6] ∧ act = ⟨#[.slice (some ⟨g, 0, none⟩) old.length cap, .func (.func 110) #[] #[.pointer (some ⟨b1, 0, none⟩), .pointer (some ⟨b2, 0, none⟩), .pointer (some ⟨b3, 0, none⟩)], undef, undef, .bool false, .bool sc, .int .i64 (k : Int), .pointer (some ⟨wr.heap.size, 0, none⟩), slotw l5 (.pointer (some ⟨q, 0, none⟩)) (u8), .slice (some ⟨g, 0, none⟩) old.length cap, .int .i64 (old.length : Int), .int .i64 (k : Int), .bool true, .int .i64 (k : Int), .pointer (some ⟨g, k * 2, none⟩), vlV a, slotw l0 (vlV a) (u16), slotw l1 (.func (.func 110) #[] #[.pointer (some ⟨b1, 0, none⟩), .pointer (some ⟨b2, 0, none⟩), .pointer (some ⟨b3, 0, none⟩)]) (u17), slotw l2 (.int .i64 (k : Int)) (u18), slotw l3 (vlV x) (u19), slotw l4 (vlV y) (u20), u21, u22, u23, u24, u25, u26, u27, u28, undef], []⟩ ∧ (l3 = true → l1 = true ∧ l2 = true) ∧ (l4 = true → l0 = true ∧ l3 = true) ∧ (l6 = true → l0 = true ∧ l1 = true ∧ l2 = true ∧ l3 = true ∧ l4 = true ∧ l5 = true) ∧ JD w W g B (mixL old c k) wr.heap.size a y l5 l6 q)) ?_ ?_ _ _ _ _ ?_ ?_
        · intro lst act W iop oop hJ hi ho K' hK
          obtain ⟨l0, l1, l2, l3, l4, l5, l6, q, rfl, rfl, hI3, hI4, hI6, hS⟩ := hJ
          obtain ⟨hun, o2, ho2, hall⟩ := mem_ready.1 hi
          have hlt := (Array.getElem?_eq_some_iff.1 ho).1
          simp only [List.size_toArray, List.length_cons, List.length_nil] at hlt
          rcases (by omega : iop = 0 ∨ iop = 1 ∨ iop = 2 ∨ iop = 3 ∨ iop = 4 ∨ iop = 5 ∨ iop = 6) with rfl | rfl | rfl | rfl | rfl | rfl | rfl
          · obtain rfl := Option.some.inj ho
            obtain rfl := Option.some.inj ho2
            have e0 : l0 = false := hun
            subst e0
            have e4 : l4 = false := by
              rcases l4 with _ | _
              · rfl
              · exact absurd (hI4 rfl) (by simp)
            subst e4
            have e6 : l6 = false := by
              rcases l6 with _ | _
              · rfl
              · exact absurd (hI6 rfl) (by simp)
            subst e6
            clear hi ho ho2 hall hun
            obtain ⟨v0, v1⟩ := nv2 hS.st.box
            simp only [slotw, if_true, Bool.false_eq_true, if_false]
            go_simp
            refine hK _ _ ⟨true, l1, l2, l3, false, l5, false, q, rfl, rfl, hI3, (fun h => by cases h), (fun h => by cases h), hS⟩
          · obtain rfl := Option.some.inj ho
            obtain rfl := Option.some.inj ho2
            have e1 : l1 = false := hun
            subst e1
            have e3 : l3 = false := by
              rcases l3 with _ | _
              · rfl
              · exact absurd (hI3 rfl) (by simp)
            subst e3
            have e6 : l6 = false := by
              rcases l6 with _ | _
              · rfl
              · exact absurd (hI6 rfl) (by simp)
            subst e6
            clear hi ho ho2 hall hun
            simp only [slotw, if_true, Bool.false_eq_true, if_false]
            go_simp
            refine hK _ _ ⟨l0, true, l2, false, l4, l5, false, q, rfl, rfl, (fun h => by cases h), hI4, (fun h => by cases h), hS⟩
          · obtain rfl := Option.some.inj ho
            obtain rfl := Option.some.inj ho2
            have e2 : l2 = false := hun
            subst e2
            have e3 : l3 = false := by
              rcases l3 with _ | _
              · rfl
              · exact absurd (hI3 rfl) (by simp)
            subst e3
            have e6 : l6 = false := by
              rcases l6 with _ | _
              · rfl
              · exact absurd (hI6 rfl) (by simp)
            subst e6
            clear hi ho ho2 hall hun
            simp only [slotw, if_true, Bool.false_eq_true, if_false]
            go_simp
            refine hK _ _ ⟨l0, l1, true, false, l4, l5, false, q, rfl, rfl, (fun h => by cases h), hI4, (fun h => by cases h), hS⟩
          · obtain rfl := Option.some.inj ho
            obtain rfl := Option.some.inj ho2
            have e3 : l3 = false := hun
            subst e3
            have e1 : l1 = true := hall ⟨1, .data⟩ (by simp) rfl
            subst e1
            have e2 : l2 = true := hall ⟨2, .data⟩ (by simp) rfl
            subst e2
            have e4 : l4 = false := by
              rcases l4 with _ | _
              · rfl
              · exact absurd (hI4 rfl) (by simp)
            subst e4
            have e6 : l6 = false := by
              rcases l6 with _ | _
              · rfl
              · exact absurd (hI6 rfl) (by simp)
            subst e6
            clear hi ho ho2 hall hun
            simp only [slotw, if_true, Bool.false_eq_true, if_false]
            go_simp
            refine (HCC.out k x W _ HXK.out hS.st.mv hS.st.row ((mixL_at HCL.out HAK.out).trans HAK.out.symm)).mono ?_
            rintro e W2 ⟨rfl, hb2⟩
            refine hK _ _ ⟨l0, true, true, true, false, l5, false, q, rfl, rfl, (fun _ => ⟨rfl, rfl⟩), (fun h => by cases h), (fun h => by cases h), hS.below hb2⟩
          · obtain rfl := Option.some.inj ho
            obtain rfl := Option.some.inj ho2
            have e4 : l4 = false := hun
            subst e4
            have e0 : l0 = true := hall ⟨0, .data⟩ (by simp) rfl
            subst e0
            have e3 : l3 = true := hall ⟨3, .data⟩ (by simp) rfl
            subst e3
            have e1 : l1 = true := (hI3 rfl).1
            subst e1
            have e2 : l2 = true := (hI3 rfl).2
            subst e2
            have e6 : l6 = false := by
              rcases l6 with _ | _
              · rfl
              · exact absurd (hI6 rfl) (by simp)
            subst e6
            clear hi ho ho2 hall hun
            simp only [slotw, if_true, Bool.false_eq_true, if_false]
            go_simp
            refine (HJC.out W).mono ?_
            rintro e W2 ⟨rfl, hb2⟩
            refine hK _ _ ⟨true, true, true, true, true, l5, false, q, rfl, rfl, hI3, (fun _ => ⟨rfl, rfl⟩), (fun h => by cases h), hS.below hb2⟩
          · obtain rfl := Option.some.inj ho
            obtain rfl := Option.some.inj ho2
            have e5 : l5 = false := hun
            subst e5
            have e6 : l6 = false := by
              rcases l6 with _ | _
              · rfl
              · exact absurd (hI6 rfl) (by simp)
            subst e6
            clear hi ho ho2 hall hun
            simp only [slotw, if_true, Bool.false_eq_true, if_false]
            go_simp
            refine hK _ _ ⟨l0, l1, l2, l3, l4, true, false, W.heap.size, rfl, rfl, hI3, hI4, (fun h => by cases h), hS.alloc⟩
          · obtain rfl := Option.some.inj ho
            obtain rfl := Option.some.inj ho2
            have e6 : l6 = false := hun
            subst e6
            have e0 : l0 = true := hall ⟨0, .phase⟩ (by simp) rfl
            subst e0
            have e1 : l1 = true := hall ⟨1, .phase⟩ (by simp) rfl
            subst e1
            have e2 : l2 = true := hall ⟨2, .phase⟩ (by simp) rfl
            subst e2
            have e3 : l3 = true := hall ⟨3, .phase⟩ (by simp) rfl
            subst e3
            have e4 : l4 = true := hall ⟨4, .data⟩ (by simp) rfl
            subst e4
            have e5 : l5 = true := hall ⟨5, .data⟩ (by simp) rfl
            subst e5
            clear hi ho ho2 hall hun
            have f1 : ∀ j, W.frozen? ⟨q, j, none⟩ = false := fun j => by simp [World.frozen?, (hS.a rfl).2.1]
            obtain ⟨cp, cq⟩ := nv2 (hS.a rfl).2.1
            simp only [slotw, if_true, Bool.false_eq_true, if_false]
            go_simp
            refine hK _ _ ⟨true, true, true, true, true, true, true, q, rfl, rfl, hI3, hI4, (fun _ => ⟨rfl, rfl, rfl, rfl, rfl, rfl⟩), hS.set⟩
        · intro lst act W hJ hr
          obtain ⟨l0, l1, l2, l3, l4, l5, l6, q, rfl, rfl, hI3, hI4, hI6, hS⟩ := hJ
          have e0 : l0 = true := by
            rcases l0 with _ | _
            · exact (not_ready hr 0 _ rfl rfl (fun e he _ => absurd he (by simp))).elim
            · rfl
          subst e0
          have e1 : l1 = true := by
            rcases l1 with _ | _
            · exact (not_ready hr 1 _ rfl rfl (fun e he _ => absurd he (by simp))).elim
            · rfl
          subst e1
          have e2 : l2 = true := by
            rcases l2 with _ | _
            · exact (not_ready hr 2 _ rfl rfl (fun e he _ => absurd he (by simp))).elim
            · rfl
          subst e2
          have e3 : l3 = true := by
            rcases l3 with _ | _
            · exact (not_ready hr 3 _ rfl rfl (fun e he hb => by change e ∈ #[_, _] at he; simp only [List.mem_toArray, List.mem_cons, List.not_mem_nil, or_false] at he; rcases he with rfl | rfl <;> first | rfl | exact absurd hb (by decide))).elim
            · rfl
          subst e3
          have e4 : l4 = true := by
            rcases l4 with _ | _
            · exact (not_ready hr 4 _ rfl rfl (fun e he hb => by change e ∈ #[_, _, _] at he; simp only [List.mem_toArray, List.mem_cons, List.not_mem_nil, or_false] at he; rcases he with rfl | rfl | rfl <;> first | rfl | exact absurd hb (by decide))).elim
            · rfl
          subst e4
          have e5 : l5 = true := by
            rcases l5 with _ | _
            · exact (not_ready hr 5 _ rfl rfl (fun e he _ => absurd he (by simp))).elim
            · rfl
          subst e5
          have e6 : l6 = true := by
            rcases l6 with _ | _
            · exact (not_ready hr 6 _ rfl rfl (fun e he hb => by change e ∈ #[_, _, _, _, _, _, _, _, _] at he; simp only [List.mem_toArray, List.mem_cons, List.not_mem_nil, or_false] at he; rcases he with rfl | rfl | rfl | rfl | rfl | rfl | rfl | rfl | rfl <;> first | rfl | exact absurd hb (by decide))).elim
            · rfl
          subst e6
          simp only [slotw, if_true]
          clear hI3 hI4 hI6 hr
          go_wp2
          go_meet
          case rel => exact ⟨q, rfl, Lib.hid hS⟩
        · exact (by decide : lacks (Array.replicate 7 false).toList ≤ 7)
        · exact ⟨false, false, false, false, false, false, false, 0, rfl, rfl, (fun h => by cases h), (fun h => by cases h), (fun h => by cases h), JD.first HJD.out⟩
      case rest =>
        obtain ⟨q, rfl, HD⟩ := hcut
        obtain ⟨q0, q1⟩ := nv2 (HD.out.a rfl).2.1
        obtain ⟨v0, v1⟩ := nv2 HD.out.st.box
        simp only [if_true] at q0 q1
        by_cases hne : y = a
        · subst hne
          have HM : Hid (mixL old c (k + 1) = mixL old c k) := Lib.hid (mixL_same HCL.out HAK.out HXK.out HY.out)
          have HSC2 : Hid (chgL old c (k + 1) = sc) := Lib.hid (by rw [HSC.out]; simp)
          go_wp2
          go_roundw
          case rel => exact ⟨k + 1, HLT.out, by go_num, by rw [HSC2.out], by rw [HM.out]; exact Lib.hid HD.out.st.row, Lib.hid HD.out.st.mv⟩
          case measure => have := HLT.out; simp [intOf]; omega
        · have HM : Hid ((mixL old c k).set k y = mixL old c (k + 1)) := Lib.hid (by rw [← HY.out]; exact mixL_set HCL.out HAK.out HXK.out)
          have HSC2 : Hid (chgL old c (k + 1) = true) := Lib.hid (by rw [HSC.out]; simp [hne])
          have HN : Hid (y.kind = a.kind → y.n = a.n → False) := Lib.hid (fun h1 h2 => hne ((Val.ext_iff' _ _).1 ⟨h1, h2⟩))
          have hkl : k < (mixL old c k).length := by rw [mixL_len HCL.out]; exact HLT.out
          have HST := Lib.hid (HM.out ▸ HD.out.st.row.set hkl y)
          have HMS := Lib.hid ((HD.out.st.mv.set hB (k * 2) (.int .i64 y.kind)).set hB (k * 2 + 1) (.int .i64 y.n))
          obtain ⟨g0, g1⟩ := HD.out.st.row.cells (mixL_at HCL.out HAK.out)
          have gf : ∀ j, wc.frozen? ⟨g, j, none⟩ = false := fun j => HD.out.st.row.frozen j
          have hgc := HD.out.st.row.lt
          clear hne hkl
          go_wp2
          all_goals first
            | (exfalso; exact HN.out (by assumption) (by assumption))
            | (go_roundw
               case rel => first | exact ⟨k + 1, HLT.out, by go_num, by rw [HSC2.out], HST, HMS⟩ | (have e9 : y.kind = a.kind := (by assumption); rw [e9] at HST HMS; exact ⟨k + 1, HLT.out, by go_num, by rw [HSC2.out], HST, HMS⟩)
               case measure => have := HLT.out; simp [intOf]; omega)
    · obtain rfl : k = old.length := by omega
      have HM := mixL_all HCL.out
      have HX := chgL_all HCL.out
      go_wp2
      go_ret
      exact ⟨by first | rfl | (rw [HX]; rfl), HM ▸ HRR.out, HMV.out⟩
end Go.Proofs.Ytpajndeongcjbaa
