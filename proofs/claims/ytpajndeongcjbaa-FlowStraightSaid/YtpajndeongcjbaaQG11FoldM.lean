/-
  Layer 11: contracts of slices.Contains of values, and of Fold.
-/
import Derived.Test.YtpajndeongcjbaaQG11Clone
import Derived.Test.YtpajndeongcjbaaQG11Ahead
namespace Go.Proofs.Ytpajndeongcjbaa
set_option maxRecDepth 100000
open Go.RowKit Cd
set_option linter.unusedVariables false
set_option linter.unusedSimpArgs false

/-- Where the first of a value stands. -/
def IxPost (v : List Val) (w : World) (e : Ending) (w' : World) : Prop := ∃ n : Int, e = .returned (.int .i64 n) ∧ decide (0 ≤ n) = v.any (fun a => decide (a = ⟨0, 0⟩)) ∧ Below w.heap.size w w'
theorem any_more {v : List Val} {k : Nat} {x : Val} (h : v[k]? = some x) (hk : (v.take k).any (fun a => decide (a = ⟨0, 0⟩)) = false) (hx : x ≠ ⟨0, 0⟩) : (v.take (k + 1)).any (fun a => decide (a = ⟨0, 0⟩)) = false := by
  rw [take_moreV h, List.any_append, hk]; simp [hx]
set_option maxHeartbeats 4000000 in
theorem index_c (v : List Val) (a : Option Addr) (c : Nat) (w : World) (hv : ValsAt w w.heap.size a v) (hl : v.length ≤ 100000) : Calls Try.prog 113 #[.slice a v.length c, vlV ⟨0, 0⟩] w (IxPost v w) := by
  have HB0 := Lib.hid ((Below.refl w.heap.size w).alloc (Nat.le_refl _) (vlO ⟨0, 0⟩))
  have HX0 := Lib.hid (heap_alloc_new w (vlO ⟨0, 0⟩))
  have HV := Lib.hid (hv.below HB0.out)
  obtain ⟨z0, z1⟩ := nv2 HX0.out
  clear hv
  go_enter Try.func113, Try.ntmps113
  go_wp2
  go_loopw [8] (fun s8 wr => ∃ k : Nat, k ≤ v.length ∧ s8 = .int .i64 (k : Int) ∧ Hid ((v.take k).any (fun a => decide (a = ⟨0, 0⟩)) = false) ∧ Hid (Below (w.alloc (vlO ⟨0, 0⟩)).heap.size (w.alloc (vlO ⟨0, 0⟩)) wr)) (fun s8 wr => v.length - (intOf s8).toNat)
  case atStart => exact ⟨0, by omega, rfl, Lib.hid (by simp), Lib.hid (Below.refl _ _)⟩
  case round =>
    obtain ⟨k, hk, rfl, HA, HB⟩ := hrel
    have k0 : (0 : Int) ≤ (k : Int) := Int.natCast_nonneg _
    have hx := (HB.out.block w.heap.size (by simp)).trans HX0.out
    by_cases hlt : k < v.length
    · have k1 : (k : Int) < (v.length : Int) := by omega
      obtain ⟨x, hx1⟩ : ∃ x, v[k]? = some x := ⟨_, List.getElem?_eq_getElem hlt⟩
      obtain ⟨b, off, rfl, hb1, hb2, c0, c1⟩ := (HV.out.below (HB.out.mono HB0.out.size)).cells hx1
      have hbs := hb2
      have HLT := Lib.hid hlt; have HXK := Lib.hid hx1
      clear z0 z1
      obtain ⟨z0, z1⟩ := nv2 hx
      clear hx hx1 hlt
      by_cases he : x = ⟨0, 0⟩
      · have HT : Hid (v.any (fun a => decide (a = ⟨0, 0⟩)) = true) := Lib.hid (List.any_eq_true.2 ⟨x, List.mem_of_getElem? HXK.out, by simp [he]⟩)
        subst he
        go_wp2
        go_region
        all_goals
          go_wp2
          go_ret
          exact ⟨(k : Int), rfl, by rw [HT.out]; simp, HB0.out.trans ((drW HB.out).mono HB0.out.size)⟩
      · have HM := Lib.hid (any_more HXK.out HA.out he)
        obtain ⟨xk, xn⟩ := x
        by_cases hx0 : xk = 0
        · subst hx0
          have hxn : ¬ (0 = xn) := fun e => he (by rw [← e])
          have hxn2 : ¬ (xn = 0) := fun e => he (by rw [e])
          clear he
          go_wp2
          go_region
          all_goals
            go_wp2
            go_roundw
            case rel => exact ⟨k + 1, HLT.out, by go_num, HM, Lib.hid (drW HB.out)⟩
            case measure => have := HLT.out; simp [intOf]; omega
        · have hxk : ¬ (0 = xk) := fun e => hx0 e.symm
          clear he
          go_wp2
          go_region
          all_goals
            go_wp2
            go_roundw
            case rel => exact ⟨k + 1, HLT.out, by go_num, HM, Lib.hid (drW HB.out)⟩
            case measure => have := HLT.out; simp [intOf]; omega
    · obtain rfl : k = v.length := by omega
      have HA2 := Lib.hid HA.out
      rw [List.take_length] at HA2
      go_wp2
      go_ret
      exact ⟨-1, rfl, by rw [HA2.out]; decide, HB0.out.trans (HB.out.mono HB0.out.size)⟩
theorem contains_c (v : List Val) (a : Option Addr) (c : Nat) (w : World) (hv : ValsAt w w.heap.size a v) (hl : v.length ≤ 100000) (q : Bool) (hq : v.any (fun a => decide (a = ⟨0, 0⟩)) = q) : Calls Try.prog 80 #[.slice a v.length c, vlV ⟨0, 0⟩] w (RPost (.bool q) w) := by
  have HB0 := Lib.hid ((Below.refl w.heap.size w).alloc (Nat.le_refl _) (vlO ⟨0, 0⟩))
  have HX0 := Lib.hid (heap_alloc_new w (vlO ⟨0, 0⟩))
  have HV : Hid (Calls Try.prog 113 #[.slice a v.length c, vlV ⟨0, 0⟩] (w.alloc (vlO ⟨0, 0⟩)) (IxPost v (w.alloc (vlO ⟨0, 0⟩)))) := Lib.hid (index_c v a c _ ((hv.below HB0.out).mono HB0.out.size (Nat.le_refl _)) hl)
  obtain ⟨z0, z1⟩ := nv2 HX0.out
  subst hq
  clear hv
  go_enter Try.func80, Try.ntmps80
  go_wp2_with ((with_reducible refine (HV.out).mono ?_); rintro e w2 ⟨n, rfl, hn, hb2⟩; have HN := Lib.hid hn; have HB2 := Lib.hid (HB0.out.trans (hb2.mono HB0.out.size)); clear hn hb2)
  go_ret
  exact ⟨by rw [← HN.out]; rfl, HB2.out⟩
theorem any_full {v : List Val} (hok : ∀ a ∈ v, OkV a) : (v.any (fun a => decide (a = ⟨0, 0⟩)) = false) ↔ fullV v := by
  rw [List.any_eq_false]
  constructor
  · intro h a ha hk
    have := h a ha
    rw [decide_eq_true_eq] at this
    exact this ((hok a ha).zero hk)
  · intro h a ha
    rw [decide_eq_true_eq]
    intro e
    exact h a ha (by rw [e])
/-- The code when so many instructions are folded. -/
def Cd.mixF (c : List Ins) (S : List (List Val)) (k : Nat) : List Ins := (List.zipWith foldI c S).take k ++ c.drop k
theorem mixF_len {c : List Ins} {S : List (List Val)} (h : S.length = c.length) (k : Nat) : (mixF c S k).length = c.length := by
  unfold mixF; rw [List.length_append, List.length_take, List.length_drop, List.length_zipWith]; omega
theorem mixF_zero (c : List Ins) (S : List (List Val)) : mixF c S 0 = c := by simp [mixF]
theorem mixF_all {c : List Ins} {S : List (List Val)} (h : S.length = c.length) : mixF c S S.length = List.zipWith foldI c S := by
  unfold mixF; rw [List.take_of_length_le (by rw [List.length_zipWith]; omega), List.drop_of_length_le (by omega), List.append_nil]
theorem take_moreI {l : List Ins} {k : Nat} {x : Ins} (h : l[k]? = some x) : l.take (k + 1) = l.take k ++ [x] := by rw [List.take_add_one, h]; rfl
theorem mixF_set {c : List Ins} {S : List (List Val)} (h : S.length = c.length) {k : Nat} {i : Ins} {v : List Val} (hi : c[k]? = some i) (hv : S[k]? = some v) : (mixF c S k).set k (foldI i v) = mixF c S (k + 1) := by
  have hk := (List.getElem?_eq_some_iff.1 hi).1
  have hz : (List.zipWith foldI c S)[k]? = some (foldI i v) := by rw [List.getElem?_zipWith, hi, hv]
  unfold mixF
  have h1 : ((List.zipWith foldI c S).take k).length = k := by rw [List.length_take, List.length_zipWith]; omega
  rw [List.set_append_right _ _ (by omega), h1, Nat.sub_self, take_moreI hz, List.append_assoc]
  congr 1
  have : c.drop k = i :: c.drop (k + 1) := by
    rw [List.drop_eq_getElem_cons hk]
    rw [List.getElem?_eq_getElem hk] at hi
    injection hi with hi
    rw [hi]
  rw [this, List.set_cons_zero]; rfl
theorem mixF_at {c : List Ins} {S : List (List Val)} (h : S.length = c.length) {k : Nat} {i : Ins} (hi : c[k]? = some i) : (mixF c S k)[k]? = some i := by
  have hk := (List.getElem?_eq_some_iff.1 hi).1
  unfold mixF
  rw [List.getElem?_append_right (by rw [List.length_take, List.length_zipWith]; omega), List.length_take, List.length_zipWith, Nat.min_eq_left (by omega), Nat.sub_self, List.getElem?_drop, Nat.add_zero]
  exact hi
theorem mixF_same {c : List Ins} {S : List (List Val)} (h : S.length = c.length) {k : Nat} {i : Ins} {v : List Val} (hi : c[k]? = some i) (hv : S[k]? = some v) (he : foldI i v = i) : mixF c S (k + 1) = mixF c S k := by
  rw [← mixF_set h hi hv, he]
  apply List.ext_getElem?
  intro j
  by_cases hj : k = j
  · subst hj
    rw [List.getElem?_set_self (by rw [mixF_len h]; exact (List.getElem?_eq_some_iff.1 hi).1), mixF_at h hi]
  · rw [List.getElem?_set_ne hj]
/-- Fold's boxes, its code, what is known. -/
structure FoSt (w0 w : World) (r : FnR) (cg bx lo hi : Nat) (ta : Option Addr) (S : List (List Val)) (c : List Ins) : Prop where
  fb : w.heap[w0.heap.size]? = some (fnO r)
  rb : w.heap[w0.heap.size + 1]? = some (.cells #[.string (sb []), .int .i64 0, .int .i64 0, .int .i64 0, .slice none 0 0] 24)
  xb : w.heap[bx]? = some (fnO ⟨r.f, some ⟨cg, 0, none⟩, r.f.code.length⟩)
  row : InsRow w cg c
  code : CodeAt w w0.heap.size r
  tab : ∀ W : World, w.heap.size ≤ W.heap.size → (∀ g, lo ≤ g → g < hi → W.heap[g]? = w.heap[g]?) → TabAt W lo ta S
  hb : Below w0.heap.size w0 w
  pl : w0.heap.size + 2 ≤ cg ∧ cg < lo ∧ w0.heap.size + 2 ≤ bx ∧ bx < lo ∧ lo ≤ hi ∧ hi ≤ w.heap.size ∧ bx ≠ cg
section
variable {w0 w w' : World} {r : FnR} {cg bx lo hi : Nat} {ta : Option Addr} {S : List (List Val)} {c : List Ins}
theorem FoSt.below (h : FoSt w0 w r cg bx lo hi ta S c) (hb : Below w.heap.size w w') : FoSt w0 w' r cg bx lo hi ta S c := by
  have hp := h.pl
  exact ⟨(hb.block _ (by omega)).trans h.fb, (hb.block _ (by omega)).trans h.rb, (hb.block _ (by omega)).trans h.xb, h.row.keep (hb.block _ (by omega)), h.code.below (hb.mono (by omega)), fun W hs hg => h.tab W (by have := hb.size; omega) (fun g h1 h2 => (hg g h1 h2).trans (hb.block g (by omega))), h.hb.trans (hb.mono (by omega)), by have := hb.size; omega⟩
theorem FoSt.drew (h : FoSt w0 w r cg bx lo hi ta S c) : FoSt w0 w.drew r cg bx lo hi ta S c := ⟨h.fb, h.rb, h.xb, h.row, h.code, h.tab, drW h.hb, h.pl⟩
/-- An instruction is put in place. -/
theorem FoSt.set (h : FoSt w0 w r cg bx lo hi ta S c) {k : Nat} (hk : k < c.length) (j : Ins) : FoSt w0 (setIO w cg (k * 15) j) r cg bx lo hi ta S (c.set k j) := by
  have hp := h.pl
  have hb : Below (w0.heap.size + 2) w (setIO w cg (k * 15) j) := setIO_below (Below.refl _ _) hp.1 _ _
  exact ⟨(hb.block _ (by omega)).trans h.fb, (hb.block _ (by omega)).trans h.rb, (setIO_oth (by omega) _).trans h.xb, h.row.set hk j, h.code.below (hb.mono (by omega)), fun W hs hg => h.tab W (by have := hb.size; omega) (fun g h1 h2 => (hg g h1 h2).trans (setIO_oth (by omega) _)), h.hb.trans (hb.mono (by omega)), by have := hb.size; omega⟩
/-- An instruction is put into a box elsewhere. -/
theorem FoSt.box (h : FoSt w0 w r cg bx lo hi ta S c) {q : Nat} (hq : hi ≤ q) (o : Nat) (j : Ins) : FoSt w0 (setIO w q o j) r cg bx lo hi ta S c := by
  have hp := h.pl
  have hb : Below hi w (setIO w q o j) := setIO_below (Below.refl _ _) hq _ _
  exact ⟨(hb.block _ (by omega)).trans h.fb, (hb.block _ (by omega)).trans h.rb, (hb.block _ (by omega)).trans h.xb, h.row.keep (hb.block _ (by omega)), h.code.below (hb.mono (by omega)), fun W hs hg => h.tab W (by have := hb.size; omega) (fun g h1 h2 => (hg g h1 h2).trans (hb.block g h2)), h.hb.trans (hb.mono (by omega)), by have := hb.size; omega⟩
/-- l6: the closure is made, l11: the box of an instruction, l12: it holds it. -/
structure FoD (w0 w : World) (r : FnR) (cg bx lo hi : Nat) (ta : Option Addr) (S : List (List Val)) (c : List Ins) (v : List Val) (pa : Option Addr) (pc : Nat) (j : Ins) (l6 l11 l12 : Bool) (b q : Nat) : Prop where
  st : FoSt w0 w r cg bx lo hi ta S c
  cl : l6 = true → l12 = false → LsAt w w.heap.size b v
  va : l12 = false → ValsAt w w.heap.size pa v
  bxx : l11 = true → hi ≤ q ∧ w.heap[q]? = some (inO (if l12 = true then j else zeroIns))
variable {v : List Val} {pa : Option Addr} {pc : Nat} {j : Ins} {l6 l11 l12 : Bool} {b q : Nat}
theorem FoD.first (h : FoSt w0 w r cg bx lo hi ta S c) (hv : ValsAt w w.heap.size pa v) : FoD w0 w r cg bx lo hi ta S c v pa pc j false false false 0 0 := ⟨h, fun h => (by cases h), fun _ => hv, fun h => (by cases h)⟩
theorem FoD.below (h : FoD w0 w r cg bx lo hi ta S c v pa pc j l6 l11 l12 b q) (hb : Below w.heap.size w w') : FoD w0 w' r cg bx lo hi ta S c v pa pc j l6 l11 l12 b q :=
  ⟨h.st.below hb, fun e e2 => ((h.cl e e2).below hb).mono hb.size (Nat.le_refl _), fun e => ((h.va e).below hb).mono hb.size (Nat.le_refl _), fun e => ⟨(h.bxx e).1, (hb.block _ (lt_heap (h.bxx e).2)).trans (h.bxx e).2⟩⟩
theorem FoD.listed (h : FoD w0 w r cg bx lo hi ta S c v pa pc j false l11 l12 b q) : FoD w0 (w.alloc (.cells #[.slice pa v.length pc] 67)) r cg bx lo hi ta S c v pa pc j true l11 l12 w.heap.size q := by
  have hb : Below w.heap.size w (w.alloc (.cells #[.slice pa v.length pc] 67)) := (Below.refl _ _).alloc (Nat.le_refl _) _
  have h1 := h.below hb
  exact ⟨h1.st, fun _ e => ⟨by simp, Nat.le_refl _, pa, pc, heap_alloc_new w _, h1.va e⟩, h1.va, h1.bxx⟩
theorem FoD.alloc (h : FoD w0 w r cg bx lo hi ta S c v pa pc j l6 false false b q) : FoD w0 (w.alloc (inO zeroIns)) r cg bx lo hi ta S c v pa pc j l6 true false b w.heap.size := by
  have h1 := h.below ((Below.refl _ w).alloc (Nat.le_refl _) (inO zeroIns))
  have hp := h.st.pl
  exact ⟨h1.st, h1.cl, h1.va, fun _ => ⟨by omega, heap_alloc_new w _⟩⟩
theorem FoD.put (h : FoD w0 w r cg bx lo hi ta S c v pa pc j l6 true false b q) : FoD w0 (setI w q j) r cg bx lo hi ta S c v pa pc j l6 true true b q := by
  obtain ⟨h1, h2⟩ := h.bxx rfl
  have hi0 : setI w q j = setIO w q 0 j := by simp only [setI, setIO, Nat.zero_add]
  refine ⟨?_, fun _ h => (by cases h), fun h => (by cases h), fun _ => ⟨h1, setI_heap h2 j⟩⟩
  rw [hi0]
  exact h.st.box h1 0 j
end
theorem clone_end2 {w3 : World} {z : Nat} (h : w3.heap[z + 1]? = some (.cells #[.string (sb []), .int .i64 0, .int .i64 0, .int .i64 0, .slice none 0 0] 24)) (r : FnR) (g : Nat) :
    let V := ((((w3.setCell ⟨z + 1, 0, none⟩ (.string (sb r.f.name))).setCell ⟨z + 1, 1, none⟩ (.int .i64 r.f.params)).setCell ⟨z + 1, 2, none⟩ (.int .i64 r.f.regs)).setCell ⟨z + 1, 3, none⟩ (.int .i64 r.f.frame)).setCell ⟨z + 1, 4, none⟩ (.slice (some ⟨g, 0, none⟩) r.f.code.length r.f.code.length)
    V.heap[z + 1]? = some (fnO ⟨r.f, some ⟨g, 0, none⟩, r.f.code.length⟩) ∧ (∀ j, j ≠ z + 1 → V.heap[j]? = w3.heap[j]?) ∧ Below (z + 1) w3 V := by
  intro V
  have h1 := cells_set (cells_set (cells_set (cells_set (cells_set h 0 (.string (sb r.f.name))) 1 (.int .i64 r.f.params)) 2 (.int .i64 r.f.regs)) 3 (.int .i64 r.f.frame)) 4 (.slice (some ⟨g, 0, none⟩) r.f.code.length r.f.code.length)
  refine ⟨by simpa using h1, fun j hj1 => ?_, ?_⟩
  · exact (heap_oth hj1).trans ((heap_oth hj1).trans ((heap_oth hj1).trans ((heap_oth hj1).trans (heap_oth hj1))))
  · exact (((((Below.refl (z + 1) w3).setCell (Nat.le_refl _) _).setCell (Nat.le_refl _) _).setCell (Nat.le_refl _) _).setCell (Nat.le_refl _) _).setCell (Nat.le_refl _) _
/-- The answer of Fold. -/
def FoPost (g : Fnc) (n : Nat) (w : World) (e : Ending) (w' : World) : Prop := ∃ cg, e = .returned (.tuple #[fnV ⟨g, some ⟨cg, 0, none⟩, g.code.length⟩, .int .i64 (n : Int)]) ∧ w.heap.size ≤ cg ∧ InsRow w' cg g.code ∧ Below w.heap.size w w'
/-- What fold tells. -/
def FoldCon : Prop := ∀ (i : Ins) (b : Nat) (v : List Val) (w : World), LsAt w w.heap.size b v → RegIn i v → OneOk i → fullV v → Calls Try.prog 81 #[inV i, lsV b] w (FlPost (foldI i v) (foldIs i v) w)
set_option maxHeartbeats 8000000 in
theorem foldm_any (HFC : Hid FoldCon) (r : FnR) (w : World) (S : List (List Val)) (hC : CodeAt w w.heap.size r) (hlen : r.f.code.length ≤ 10000) (hAh : ∀ V, CodeAt V V.heap.size r → Calls Try.prog 41 #[fnV r] V (AhPost S V))
    (hS : S = [] ∨ (RightF r.f ∧ Sol r.f S)) (g : Fnc) (nn : Nat) (hg : g = (if S = [] then r.f else foldF S r.f)) (hnn : nn = foldN r.f.code S) :
    Calls Try.prog 42 #[fnV r] w (FoPost g nn w) := by
  have hmix : Try.prog.follows .mixedOrders = true := by kernel_rfl
  obtain ⟨h1, h2, h3, hs⟩ := two_new w (fnO r) (.cells #[.string (sb []), .int .i64 0, .int .i64 0, .int .i64 0, .slice none 0 0] 24)
  obtain ⟨W2, hW2⟩ : ∃ W, (w.alloc (fnO r)).alloc (.cells #[.string (sb []), .int .i64 0, .int .i64 0, .int .i64 0, .slice none 0 0] 24) = W := ⟨_, rfl⟩
  rw [hW2] at h1 h2 h3 hs
  have HX2 := Lib.hid h1; have HY2 := Lib.hid h2; have HB2 := Lib.hid h3
  have HCL : Hid (Calls Try.prog 50 #[fnV r] W2 (ClPost r W2)) := Lib.hid (clone_c r W2 (RowAt.mono (RowAt.below hC h3) h3.size (Nat.le_refl _)) hlen)
  have HAH := Lib.hid hAh
  have HC := Lib.hid hC
  obtain ⟨x0, x1, x2, x3, x4⟩ := nv5 h1
  have hW2s := hs
  clear h1 h2 h3 hC hAh hs
  go_enter Try.func42, Try.ntmps42
  go_upto_region 2 with ((with_reducible refine (HCL.out).mono ?_); rintro e w3 ⟨cg, rfl, hcg, hrow, hb3⟩; have HR3 := Lib.hid hrow; have HB3 := Lib.hid hb3; have HCG := Lib.hid hcg; clear hrow hb3 hcg)
  have HB5 : Hid (Below w3.heap.size w3 (w3.alloc (fnO ⟨r.f, some ⟨cg, 0, none⟩, r.f.code.length⟩))) := Lib.hid ((Below.refl _ _).alloc (Nat.le_refl _) _)
  have HX5 := Lib.hid (heap_alloc_new w3 (fnO ⟨r.f, some ⟨cg, 0, none⟩, r.f.code.length⟩))
  obtain ⟨W5, hW5⟩ : ∃ W, w3.alloc (fnO ⟨r.f, some ⟨cg, 0, none⟩, r.f.code.length⟩) = W := ⟨_, rfl⟩
  rw [hW5] at HB5 HX5
  rw [hW5]
  have h35 : w3.heap.size < W5.heap.size := lt_heap HX5.out
  have hw23 := HB3.out.size
  have hcg3 := HR3.out.lt
  have hcg2 := HCG.out
  have HFO : Hid (FoSt w W5 r cg w3.heap.size W5.heap.size W5.heap.size none [] r.f.code) := by
    have hBw : Below w.heap.size w W5 := HB2.out.trans ((HB3.out.mono HB2.out.size).trans (HB5.out.mono (by omega)))
    exact Lib.hid ⟨(HB5.out.block _ (by omega)).trans ((HB3.out.block _ (by omega)).trans HX2.out), (HB5.out.block _ (by omega)).trans ((HB3.out.block _ (by omega)).trans HY2.out), HX5.out, HR3.out.keep (HB5.out.block _ hcg3), RowAt.below HC.out hBw, fun W _ _ => ⟨[], rfl, fun h => absurd h (by simp), fun j v h => by simp at h⟩, hBw, by omega⟩
  have HC5 : Hid (CodeAt W5 W5.heap.size r) := Lib.hid (HFO.out.code.mono HFO.out.hb.size (Nat.le_refl _))
  obtain ⟨bx, hbx⟩ : ∃ b, w3.heap.size = b := ⟨_, rfl⟩
  rw [hbx] at HFO
  rw [hbx]
  clear x0 x1 x2 x3 x4 HX2 HY2 HB2 HR3 HB3 HCG HB5 HX5 hW5 h35 hw23 hcg3 hcg2 hW2 hW2s HCL HC hbx
  obtain ⟨x0, x1, x2, x3, x4⟩ := nv5 HFO.out.fb
  go_upto_region 3 with ((with_reducible refine (HAH.out _ HC5.out).mono ?_); rintro e w6 ⟨ta, tc, rfl, htab, hb6⟩; have HT6 := Lib.hid htab; have HB6 := Lib.hid hb6; clear htab hb6)
  have HF6 : Hid (FoSt w w6 r cg bx W5.heap.size w6.heap.size ta S r.f.code) := by
    have h1 := HFO.out.below HB6.out
    have hp := HFO.out.pl
    have hs := HB6.out.size
    exact Lib.hid ⟨h1.fb, h1.rb, h1.xb, h1.row, h1.code, fun W hs hg => HT6.out.keep hs hg, h1.hb, by omega⟩
  obtain ⟨lo, hlo⟩ : ∃ n, W5.heap.size = n := ⟨_, rfl⟩
  obtain ⟨hi, hhi⟩ : ∃ n, w6.heap.size = n := ⟨_, rfl⟩
  rw [hlo, hhi] at HF6
  have HSC : Hid (S.length = r.f.code.length ∨ S = []) := Lib.hid (hS.elim .inr (fun h => .inl h.2.pre.len))
  have hSl : S.length ≤ 10000 := by rcases HSC.out with h | h <;> simp [h] <;> omega
  have HSS := Lib.hid hS; have HGG := Lib.hid hg; have HNN := Lib.hid hnn
  clear x0 x1 x2 x3 x4 HFO HC5 HT6 HB6 hlo hhi HAH hS hg hnn
  go_loopw [5, 15] (fun s5 s15 wr => ∃ k : Nat, k ≤ S.length ∧ s15 = .int .i64 (k : Int) ∧ s5 = .int .i64 ((foldN (r.f.code.take k) (S.take k) : Nat) : Int) ∧ Hid (FoSt w wr r cg bx lo hi ta S (mixF r.f.code S k))) (fun s5 s15 wr => S.length - (intOf s15).toNat)
  case atStart => exact ⟨0, by omega, rfl, by simp [foldN], by rw [mixF_zero]; exact HF6⟩
  case round =>
    obtain ⟨k, hk, rfl, rfl, HF⟩ := hrel
    have k0 : (0 : Int) ≤ (k : Int) := Int.natCast_nonneg _
    by_cases hlt : k < S.length
    · have k1 : (k : Int) < (S.length : Int) := by omega
      have hSr : RightF r.f ∧ Sol r.f S := HSS.out.resolve_left (fun e => by rw [e] at hlt; simp at hlt)
      have HR := Lib.hid hSr.1; have HSo := Lib.hid hSr.2
      have hlenS := hSr.2.pre.len
      obtain ⟨v, hv⟩ : ∃ v, S[k]? = some v := ⟨_, List.getElem?_eq_getElem hlt⟩
      obtain ⟨i, hi'⟩ : ∃ i, r.f.code[k]? = some i := ⟨_, List.getElem?_eq_getElem (by omega)⟩
      have hI := hSr.1.all i (List.mem_of_getElem? hi')
      have hlv := hSr.2.pre.row v (List.mem_of_getElem? hv)
      have hok := hSr.2.ok v (List.mem_of_getElem? hv)
      have hlv2 : v.length ≤ 100000 := by have := hSr.1.regs; omega
      obtain ⟨tb, toff, pa, pc, rfl, htb, htc, hpa⟩ := (HF.out.tab wr (Nat.le_refl _) (fun _ _ _ => rfl)).at hv
      have HPA := Lib.hid hpa
      have HLT := Lib.hid hlt; have HVK := Lib.hid hv; have HIK := Lib.hid hi'
      have HFN := Lib.hid (foldN_take r.f.code S k i v hi' hv)
      have hcl : (foldN (r.f.code.take k) (S.take k)) ≤ 10000 := by have := foldN_le (r.f.code.take k) (S.take k); rw [List.length_take] at this; omega
      obtain ⟨cn, hcn⟩ : ∃ n, foldN (r.f.code.take k) (S.take k) = n := ⟨_, rfl⟩
      rw [hcn] at hcl HFN
      rw [hcn]
      have cn0 : (0 : Int) ≤ (cn : Int) := Int.natCast_nonneg _
      by_cases hf : fullV v
      · have HCO : Hid (∀ W, ValsAt W W.heap.size pa v → Calls Try.prog 80 #[.slice pa v.length pc, vlV ⟨0, 0⟩] W (RPost (.bool false) W)) := Lib.hid (fun W hW => contains_c v pa pc W hW hlv2 false ((any_full hok).2 hf))
        have HFL : Hid (∀ W b, LsAt W W.heap.size b v → Calls Try.prog 81 #[inV i, lsV b] W (FlPost (foldI i v) (foldIs i v) W)) := Lib.hid (fun W b hW => HFC.out i b v W hW (regIn_of hI hlv) (oneOk_of hI) hf)
        have HNF : Hid (foldIs i v = false → foldI i v = i) := Lib.hid (fun e => Classical.not_not.1 ((not_congr (fold_is_ne (i := i) (v := v))).1 (by rw [e]; simp)))
        obtain ⟨cb, coff, hca, hcb1, hcb2, q0, q1, q2, q3, q4, q5, q6, q7, q8, q9, q10, q11, q12, q13, q14⟩ := HF.out.code.cells hi'
        have hcaE := Lib.hid hca
        obtain ⟨j, hj⟩ : ∃ j, foldI i v = j := ⟨_, rfl⟩
        obtain ⟨qq, hqq⟩ : ∃ q, foldIs i v = q := ⟨_, rfl⟩
        rw [hj, hqq] at HFL HNF
        rw [hqq] at HFN
        have HJJ := Lib.hid hj
        have HLS := Lib.hid hlenS
        have hkc : (k : Int) < (r.f.code.length : Int) := by omega
        clear hSr hv hi' hI hlv hok hpa hlt hcn hf hlenS hca q0 q1 q2 q3 q4 q5 q6 q7 q8 q9 q10 q11 q12 q13 q14 hj hqq
        go_upto_region 6 with ((with_reducible refine (HCO.out _ HPA.out).mono ?_); rintro e w7 ⟨rfl, hb7⟩; have HF7 := Lib.hid (HF.out.below hb7); have HPA7 := Lib.hid ((HPA.out.below hb7).mono hb7.size (Nat.le_refl _)); clear hb7)
        go_cut [8, 9] from 23 to 33 (fun s8 s9 wc => ∃ q, s8 = .pointer (some ⟨q, 0, none⟩) ∧ s9 = .bool qq ∧ hi ≤ q ∧ Hid (FoSt w wc r cg bx lo hi (some ⟨tb, toff, none⟩) S (mixF r.f.code S k)) ∧ Hid (wc.heap[q]? = some (inO j)))
        case first =>
          have HSD := Lib.hid HF7.out.drew
          have HVD : Hid (ValsAt w7.drew w7.drew.heap.size pa v) := Lib.hid HPA7.out
          refine wp_region_any hmix ?_
          refine any_inv (J := (fun lst act W => ∃ l0 l1 l2 l3 l4 l5 l6 l7 l8 l9 l10 l11 l12 l13 : Bool, ∃ b q : Nat, lst = #[l0, l1, l2, l3, l4, l5, l6, l7, l8, l9, l10, l11, l12, l13] ∧ act = ⟨#[fnV r, .pointer (some ⟨w.heap.size, 0, none⟩), .pointer (some ⟨w.heap.size + 1, 0, none⟩), .int .i64 0, .pointer (some ⟨bx, 0, none⟩), .int .i64 (cn : Int), .int .i64 (k : Int), .slice pa v.length pc, slotw l11 (.pointer (some ⟨q, 0, none⟩)) (u8), slotw l13 (.bool qq) (u9), fnV r, fnV ⟨r.f, some ⟨cg, 0, none⟩, r.f.code.length⟩, fnV r, .slice (some ⟨tb, toff, none⟩) S.length tc, .int .i64 (S.length : Int), .int .i64 (k : Int), .bool true, .int .i64 (k : Int), .pointer (some ⟨tb, toff + k, none⟩), .slice pa v.length pc, .slice pa v.length pc, vlV ⟨0, 0⟩, .bool false, slotw l8 (.tuple #[inV j, .bool qq]) (u23), slotw l0 (.pointer (some ⟨w.heap.size, 4, none⟩)) (u24), slotw l1 (.slice (some ⟨cb, coff, none⟩) r.f.code.length r.cc) (u25), slotw l2 (.int .i64 (k : Int)) (u26), slotw l3 (.pointer (some ⟨cb, coff + k * 15, none⟩)) (u27), slotw l4 (inV i) (u28), slotw l5 (.slice pa v.length pc) (u29), slotw l6 (lsV b) (u30), slotw l7 (.tuple #[inV j, .bool qq]) (u31), slotw l9 (inV j) (u32), slotw l10 (.bool qq) (u33), u34, u35, u36, u37, u38, u39, u40, u41, u42, undef, undef], []⟩ ∧ (l1 = true → l0 = true) ∧ (l3 = true → l1 = true ∧ l2 = true) ∧ (l4 = true → l3 = true) ∧ (l6 = true → l5 = true) ∧ (l7 = true → l4 = true ∧ l6 = true) ∧ (l8 = true → l7 = true) ∧ (l9 = true → l8 = true) ∧ (l10 = true → l8 = true) ∧ (l12 = true → l0 = true ∧ l1 = true ∧ l2 = true ∧ l3 = true ∧ l4 = true ∧ l5 = true ∧ l6 = true ∧ l7 = true ∧ l8 = true ∧ l9 = true ∧ l11 = true) ∧ (l13 = true → l0 = true ∧ l1 = true ∧ l2 = true ∧ l3 = true ∧ l4 = true ∧ l5 = true ∧ l6 = true ∧ l7 = true ∧ l8 = true ∧ l9 = true ∧ l10 = true ∧ l11 = true ∧ l12 = true) ∧ FoD w W r cg bx lo hi (some ⟨tb, toff, none⟩) S (mixF r.f.code S k) v pa pc j l6 l11 l12 b q)) ?_ ?_ _ _ _ _ ?_ ?_
          · intro lst act W iop oop hJ hi ho K' hK
            obtain ⟨l0, l1, l2, l3, l4, l5, l6, l7, l8, l9, l10, l11, l12, l13, b, q, rfl, rfl, hI1, hI3, hI4, hI6, hI7, hI8, hI9, hI10, hI12, hI13, hS⟩ := hJ
            obtain ⟨hun, o2, ho2, hall⟩ := mem_ready.1 hi
            have hlt := (Array.getElem?_eq_some_iff.1 ho).1
            simp only [List.size_toArray, List.length_cons, List.length_nil] at hlt
            rcases (by omega : iop = 0 ∨ iop = 1 ∨ iop = 2 ∨ iop = 3 ∨ iop = 4 ∨ iop = 5 ∨ iop = 6 ∨ iop = 7 ∨ iop = 8 ∨ iop = 9 ∨ iop = 10 ∨ iop = 11 ∨ iop = 12 ∨ iop = 13) with rfl | rfl | rfl | rfl | rfl | rfl | rfl | rfl | rfl | rfl | rfl | rfl | rfl | rfl
            · obtain rfl := Option.some.inj ho
              obtain rfl := Option.some.inj ho2
              have e0 : l0 = false := hun
              subst e0
              have e1 : l1 = false := by
                rcases l1 with _ | _
                · rfl
                · exact absurd (hI1 rfl) (by simp)
              subst e1
              have e12 : l12 = false := by
                rcases l12 with _ | _
                · rfl
                · exact absurd (hI12 rfl) (by simp)
              subst e12
              have e13 : l13 = false := by
                rcases l13 with _ | _
                · rfl
                · exact absurd (hI13 rfl) (by simp)
              subst e13
              clear hi ho ho2 hall hun
              simp only [slotw, if_true, Bool.false_eq_true, if_false]
              go_simp
              refine hK _ _ ⟨true, false, l2, l3, l4, l5, l6, l7, l8, l9, l10, l11, false, false, b, q, rfl, rfl, (fun h => by cases h), hI3, hI4, hI6, hI7, hI8, hI9, hI10, (fun h => by cases h), (fun h => by cases h), hS⟩
            · obtain rfl := Option.some.inj ho
              obtain rfl := Option.some.inj ho2
              have e1 : l1 = false := hun
              subst e1
              have e0 : l0 = true := hall ⟨0, .data⟩ (by simp) rfl
              subst e0
              have e3 : l3 = false := by
                rcases l3 with _ | _
                · rfl
                · exact absurd (hI3 rfl) (by simp)
              subst e3
              have e12 : l12 = false := by
                rcases l12 with _ | _
                · rfl
                · exact absurd (hI12 rfl) (by simp)
              subst e12
              have e13 : l13 = false := by
                rcases l13 with _ | _
                · rfl
                · exact absurd (hI13 rfl) (by simp)
              subst e13
              clear hi ho ho2 hall hun
              obtain ⟨x0, x1, x2, x3, x4⟩ := nv5 hS.st.fb
              rw [hcaE.out] at x4
              simp only [slotw, if_true, Bool.false_eq_true, if_false]
              go_simp
              refine hK _ _ ⟨true, true, l2, false, l4, l5, l6, l7, l8, l9, l10, l11, false, false, b, q, rfl, rfl, (fun _ => rfl), (fun h => by cases h), hI4, hI6, hI7, hI8, hI9, hI10, (fun h => by cases h), (fun h => by cases h), hS⟩
            · obtain rfl := Option.some.inj ho
              obtain rfl := Option.some.inj ho2
              have e2 : l2 = false := hun
              subst e2
              have e3 : l3 = false := by
                rcases l3 with _ | _
                · rfl
                · exact absurd (hI3 rfl) (by simp)
              subst e3
              have e12 : l12 = false := by
                rcases l12 with _ | _
                · rfl
                · exact absurd (hI12 rfl) (by simp)
              subst e12
              have e13 : l13 = false := by
                rcases l13 with _ | _
                · rfl
                · exact absurd (hI13 rfl) (by simp)
              subst e13
              clear hi ho ho2 hall hun
              simp only [slotw, if_true, Bool.false_eq_true, if_false]
              go_simp
              refine hK _ _ ⟨l0, l1, true, false, l4, l5, l6, l7, l8, l9, l10, l11, false, false, b, q, rfl, rfl, hI1, (fun h => by cases h), hI4, hI6, hI7, hI8, hI9, hI10, (fun h => by cases h), (fun h => by cases h), hS⟩
            · obtain rfl := Option.some.inj ho
              obtain rfl := Option.some.inj ho2
              have e3 : l3 = false := hun
              subst e3
              have e1 : l1 = true := hall ⟨1, .data⟩ (by simp) rfl
              subst e1
              have e2 : l2 = true := hall ⟨2, .data⟩ (by simp) rfl
              subst e2
              have e0 : l0 = true := (hI1 rfl)
              subst e0
              have e4 : l4 = false := by
                rcases l4 with _ | _
                · rfl
                · exact absurd (hI4 rfl) (by simp)
              subst e4
              have e12 : l12 = false := by
                rcases l12 with _ | _
                · rfl
                · exact absurd (hI12 rfl) (by simp)
              subst e12
              have e13 : l13 = false := by
                rcases l13 with _ | _
                · rfl
                · exact absurd (hI13 rfl) (by simp)
              subst e13
              clear hi ho ho2 hall hun
              simp only [slotw, if_true, Bool.false_eq_true, if_false]
              go_simp
              refine hK _ _ ⟨true, true, true, true, false, l5, l6, l7, l8, l9, l10, l11, false, false, b, q, rfl, rfl, hI1, (fun _ => ⟨rfl, rfl⟩), (fun h => by cases h), hI6, hI7, hI8, hI9, hI10, (fun h => by cases h), (fun h => by cases h), hS⟩
            · obtain rfl := Option.some.inj ho
              obtain rfl := Option.some.inj ho2
              have e4 : l4 = false := hun
              subst e4
              have e3 : l3 = true := hall ⟨3, .data⟩ (by simp) rfl
              subst e3
              have e1 : l1 = true := (hI3 rfl).1
              subst e1
              have e2 : l2 = true := (hI3 rfl).2
              subst e2
              have e0 : l0 = true := (hI1 rfl)
              subst e0
              have e7 : l7 = false := by
                rcases l7 with _ | _
                · rfl
                · exact absurd (hI7 rfl) (by simp)
              subst e7
              have e12 : l12 = false := by
                rcases l12 with _ | _
                · rfl
                · exact absurd (hI12 rfl) (by simp)
              subst e12
              have e13 : l13 = false := by
                rcases l13 with _ | _
                · rfl
                · exact absurd (hI13 rfl) (by simp)
              subst e13
              clear hi ho ho2 hall hun
              obtain ⟨q0, q1, q2, q3, q4, q5, q6, q7, q8, q9, q10, q11, q12, q13, q14⟩ := code_cells hS.st.code HIK.out hcaE.out
              simp only [slotw, if_true, Bool.false_eq_true, if_false]
              go_simp
              refine hK _ _ ⟨true, true, true, true, true, l5, l6, false, l8, l9, l10, l11, false, false, b, q, rfl, rfl, hI1, hI3, (fun _ => rfl), hI6, (fun h => by cases h), hI8, hI9, hI10, (fun h => by cases h), (fun h => by cases h), hS⟩
            · obtain rfl := Option.some.inj ho
              obtain rfl := Option.some.inj ho2
              have e5 : l5 = false := hun
              subst e5
              have e6 : l6 = false := by
                rcases l6 with _ | _
                · rfl
                · exact absurd (hI6 rfl) (by simp)
              subst e6
              have e12 : l12 = false := by
                rcases l12 with _ | _
                · rfl
                · exact absurd (hI12 rfl) (by simp)
              subst e12
              have e13 : l13 = false := by
                rcases l13 with _ | _
                · rfl
                · exact absurd (hI13 rfl) (by simp)
              subst e13
              clear hi ho ho2 hall hun
              simp only [slotw, if_true, Bool.false_eq_true, if_false]
              go_simp
              refine hK _ _ ⟨l0, l1, l2, l3, l4, true, false, l7, l8, l9, l10, l11, false, false, b, q, rfl, rfl, hI1, hI3, hI4, (fun h => by cases h), hI7, hI8, hI9, hI10, (fun h => by cases h), (fun h => by cases h), hS⟩
            · obtain rfl := Option.some.inj ho
              obtain rfl := Option.some.inj ho2
              have e6 : l6 = false := hun
              subst e6
              have e5 : l5 = true := hall ⟨5, .data⟩ (by simp) rfl
              subst e5
              have e7 : l7 = false := by
                rcases l7 with _ | _
                · rfl
                · exact absurd (hI7 rfl) (by simp)
              subst e7
              have e12 : l12 = false := by
                rcases l12 with _ | _
                · rfl
                · exact absurd (hI12 rfl) (by simp)
              subst e12
              have e13 : l13 = false := by
                rcases l13 with _ | _
                · rfl
                · exact absurd (hI13 rfl) (by simp)
              subst e13
              clear hi ho ho2 hall hun
              simp only [slotw, if_true, Bool.false_eq_true, if_false]
              go_simp
              refine (listed_c pa v.length pc W).mono ?_
              rintro e W2 ⟨rfl, rfl⟩
              refine hK _ _ ⟨l0, l1, l2, l3, l4, true, true, false, l8, l9, l10, l11, false, false, W.heap.size, q, rfl, rfl, hI1, hI3, hI4, (fun _ => rfl), (fun h => by cases h), hI8, hI9, hI10, (fun h => by cases h), (fun h => by cases h), hS.listed⟩
            · obtain rfl := Option.some.inj ho
              obtain rfl := Option.some.inj ho2
              have e7 : l7 = false := hun
              subst e7
              have e4 : l4 = true := hall ⟨4, .data⟩ (by simp) rfl
              subst e4
              have e6 : l6 = true := hall ⟨6, .data⟩ (by simp) rfl
              subst e6
              have e3 : l3 = true := (hI4 rfl)
              subst e3
              have e5 : l5 = true := (hI6 rfl)
              subst e5
              have e1 : l1 = true := (hI3 rfl).1
              subst e1
              have e2 : l2 = true := (hI3 rfl).2
              subst e2
              have e0 : l0 = true := (hI1 rfl)
              subst e0
              have e8 : l8 = false := by
                rcases l8 with _ | _
                · rfl
                · exact absurd (hI8 rfl) (by simp)
              subst e8
              have e12 : l12 = false := by
                rcases l12 with _ | _
                · rfl
                · exact absurd (hI12 rfl) (by simp)
              subst e12
              have e13 : l13 = false := by
                rcases l13 with _ | _
                · rfl
                · exact absurd (hI13 rfl) (by simp)
              subst e13
              clear hi ho ho2 hall hun
              simp only [slotw, if_true, Bool.false_eq_true, if_false]
              go_simp
              refine (HFL.out W b (hS.cl rfl rfl)).mono ?_
              rintro e W2 ⟨rfl, hb2⟩
              refine hK _ _ ⟨true, true, true, true, true, true, true, true, false, l9, l10, l11, false, false, b, q, rfl, rfl, hI1, hI3, hI4, hI6, (fun _ => ⟨rfl, rfl⟩), (fun h => by cases h), hI9, hI10, (fun h => by cases h), (fun h => by cases h), hS.below hb2⟩
            · obtain rfl := Option.some.inj ho
              obtain rfl := Option.some.inj ho2
              have e8 : l8 = false := hun
              subst e8
              have e7 : l7 = true := hall ⟨7, .data⟩ (by simp) rfl
              subst e7
              have e4 : l4 = true := (hI7 rfl).1
              subst e4
              have e6 : l6 = true := (hI7 rfl).2
              subst e6
              have e3 : l3 = true := (hI4 rfl)
              subst e3
              have e5 : l5 = true := (hI6 rfl)
              subst e5
              have e1 : l1 = true := (hI3 rfl).1
              subst e1
              have e2 : l2 = true := (hI3 rfl).2
              subst e2
              have e0 : l0 = true := (hI1 rfl)
              subst e0
              have e9 : l9 = false := by
                rcases l9 with _ | _
                · rfl
                · exact absurd (hI9 rfl) (by simp)
              subst e9
              have e10 : l10 = false := by
                rcases l10 with _ | _
                · rfl
                · exact absurd (hI10 rfl) (by simp)
              subst e10
              have e12 : l12 = false := by
                rcases l12 with _ | _
                · rfl
                · exact absurd (hI12 rfl) (by simp)
              subst e12
              have e13 : l13 = false := by
                rcases l13 with _ | _
                · rfl
                · exact absurd (hI13 rfl) (by simp)
              subst e13
              clear hi ho ho2 hall hun
              simp only [slotw, if_true, Bool.false_eq_true, if_false]
              go_simp
              refine hK _ _ ⟨true, true, true, true, true, true, true, true, true, false, false, l11, false, false, b, q, rfl, rfl, hI1, hI3, hI4, hI6, hI7, (fun _ => rfl), (fun h => by cases h), (fun h => by cases h), (fun h => by cases h), (fun h => by cases h), hS⟩
            · obtain rfl := Option.some.inj ho
              obtain rfl := Option.some.inj ho2
              have e9 : l9 = false := hun
              subst e9
              have e8 : l8 = true := hall ⟨8, .data⟩ (by simp) rfl
              subst e8
              have e7 : l7 = true := (hI8 rfl)
              subst e7
              have e4 : l4 = true := (hI7 rfl).1
              subst e4
              have e6 : l6 = true := (hI7 rfl).2
              subst e6
              have e3 : l3 = true := (hI4 rfl)
              subst e3
              have e5 : l5 = true := (hI6 rfl)
              subst e5
              have e1 : l1 = true := (hI3 rfl).1
              subst e1
              have e2 : l2 = true := (hI3 rfl).2
              subst e2
              have e0 : l0 = true := (hI1 rfl)
              subst e0
              have e12 : l12 = false := by
                rcases l12 with _ | _
                · rfl
                · exact absurd (hI12 rfl) (by simp)
              subst e12
              have e13 : l13 = false := by
                rcases l13 with _ | _
                · rfl
                · exact absurd (hI13 rfl) (by simp)
              subst e13
              clear hi ho ho2 hall hun
              simp only [slotw, if_true, Bool.false_eq_true, if_false]
              go_simp
              refine hK _ _ ⟨true, true, true, true, true, true, true, true, true, true, l10, l11, false, false, b, q, rfl, rfl, hI1, hI3, hI4, hI6, hI7, hI8, (fun _ => rfl), hI10, (fun h => by cases h), (fun h => by cases h), hS⟩
            · obtain rfl := Option.some.inj ho
              obtain rfl := Option.some.inj ho2
              have e10 : l10 = false := hun
              subst e10
              have e8 : l8 = true := hall ⟨8, .data⟩ (by simp) rfl
              subst e8
              have e7 : l7 = true := (hI8 rfl)
              subst e7
              have e4 : l4 = true := (hI7 rfl).1
              subst e4
              have e6 : l6 = true := (hI7 rfl).2
              subst e6
              have e3 : l3 = true := (hI4 rfl)
              subst e3
              have e5 : l5 = true := (hI6 rfl)
              subst e5
              have e1 : l1 = true := (hI3 rfl).1
              subst e1
              have e2 : l2 = true := (hI3 rfl).2
              subst e2
              have e0 : l0 = true := (hI1 rfl)
              subst e0
              have e13 : l13 = false := by
                rcases l13 with _ | _
                · rfl
                · exact absurd (hI13 rfl) (by simp)
              subst e13
              clear hi ho ho2 hall hun
              simp only [slotw, if_true, Bool.false_eq_true, if_false]
              go_simp
              refine hK _ _ ⟨true, true, true, true, true, true, true, true, true, l9, true, l11, l12, false, b, q, rfl, rfl, hI1, hI3, hI4, hI6, hI7, hI8, hI9, (fun _ => rfl), hI12, (fun h => by cases h), hS⟩
            · obtain rfl := Option.some.inj ho
              obtain rfl := Option.some.inj ho2
              have e11 : l11 = false := hun
              subst e11
              have e12 : l12 = false := by
                rcases l12 with _ | _
                · rfl
                · exact absurd (hI12 rfl) (by simp)
              subst e12
              have e13 : l13 = false := by
                rcases l13 with _ | _
                · rfl
                · exact absurd (hI13 rfl) (by simp)
              subst e13
              clear hi ho ho2 hall hun
              simp only [slotw, if_true, Bool.false_eq_true, if_false]
              go_simp
              refine hK _ _ ⟨l0, l1, l2, l3, l4, l5, l6, l7, l8, l9, l10, true, false, false, b, W.heap.size, rfl, rfl, hI1, hI3, hI4, hI6, hI7, hI8, hI9, hI10, (fun h => by cases h), (fun h => by cases h), hS.alloc⟩
            · obtain rfl := Option.some.inj ho
              obtain rfl := Option.some.inj ho2
              have e12 : l12 = false := hun
              subst e12
              have e0 : l0 = true := hall ⟨0, .phase⟩ (by simp) rfl
              subst e0
              have e1 : l1 = true := hall ⟨1, .phase⟩ (by simp) rfl
              subst e1
              have e2 : l2 = true := hall ⟨2, .phase⟩ (by simp) rfl
              subst e2
              have e3 : l3 = true := hall ⟨3, .phase⟩ (by simp) rfl
              subst e3
              have e4 : l4 = true := hall ⟨4, .phase⟩ (by simp) rfl
              subst e4
              have e5 : l5 = true := hall ⟨5, .phase⟩ (by simp) rfl
              subst e5
              have e6 : l6 = true := hall ⟨6, .phase⟩ (by simp) rfl
              subst e6
              have e7 : l7 = true := hall ⟨7, .chain⟩ (by simp) rfl
              subst e7
              have e8 : l8 = true := hall ⟨8, .phase⟩ (by simp) rfl
              subst e8
              have e9 : l9 = true := hall ⟨9, .data⟩ (by simp) rfl
              subst e9
              have e11 : l11 = true := hall ⟨11, .data⟩ (by simp) rfl
              subst e11
              have e13 : l13 = false := by
                rcases l13 with _ | _
                · rfl
                · exact absurd (hI13 rfl) (by simp)
              subst e13
              clear hi ho ho2 hall hun
              have f1 : ∀ z, W.frozen? ⟨q, z, none⟩ = false := fun z => by simp [World.frozen?, (hS.bxx rfl).2]
              obtain ⟨y0, y1, y2, y3, y4, y5, y6, y7, y8, y9, y10, y11, y12, y13, y14⟩ := nv15 (hS.bxx rfl).2
              simp only [slotw, if_true, Bool.false_eq_true, if_false]
              go_simp
              refine hK _ _ ⟨true, true, true, true, true, true, true, true, true, true, l10, true, true, false, b, q, rfl, rfl, hI1, hI3, hI4, hI6, hI7, hI8, hI9, hI10, (fun _ => ⟨rfl, rfl, rfl, rfl, rfl, rfl, rfl, rfl, rfl, rfl, rfl⟩), (fun h => by cases h), hS.put⟩
            · obtain rfl := Option.some.inj ho
              obtain rfl := Option.some.inj ho2
              have e13 : l13 = false := hun
              subst e13
              have e0 : l0 = true := hall ⟨0, .phase⟩ (by simp) rfl
              subst e0
              have e1 : l1 = true := hall ⟨1, .phase⟩ (by simp) rfl
              subst e1
              have e2 : l2 = true := hall ⟨2, .phase⟩ (by simp) rfl
              subst e2
              have e3 : l3 = true := hall ⟨3, .phase⟩ (by simp) rfl
              subst e3
              have e4 : l4 = true := hall ⟨4, .phase⟩ (by simp) rfl
              subst e4
              have e5 : l5 = true := hall ⟨5, .phase⟩ (by simp) rfl
              subst e5
              have e6 : l6 = true := hall ⟨6, .phase⟩ (by simp) rfl
              subst e6
              have e7 : l7 = true := hall ⟨7, .phase⟩ (by simp) rfl
              subst e7
              have e8 : l8 = true := hall ⟨8, .phase⟩ (by simp) rfl
              subst e8
              have e9 : l9 = true := hall ⟨9, .phase⟩ (by simp) rfl
              subst e9
              have e10 : l10 = true := hall ⟨10, .data⟩ (by simp) rfl
              subst e10
              have e11 : l11 = true := hall ⟨11, .phase⟩ (by simp) rfl
              subst e11
              have e12 : l12 = true := hall ⟨12, .chain⟩ (by simp) rfl
              subst e12
              clear hi ho ho2 hall hun
              simp only [slotw, if_true, Bool.false_eq_true, if_false]
              go_simp
              refine hK _ _ ⟨true, true, true, true, true, true, true, true, true, true, true, true, true, true, b, q, rfl, rfl, hI1, hI3, hI4, hI6, hI7, hI8, hI9, hI10, hI12, (fun _ => ⟨rfl, rfl, rfl, rfl, rfl, rfl, rfl, rfl, rfl, rfl, rfl, rfl, rfl⟩), hS⟩
          · intro lst act W hJ hr
            obtain ⟨l0, l1, l2, l3, l4, l5, l6, l7, l8, l9, l10, l11, l12, l13, b, q, rfl, rfl, hI1, hI3, hI4, hI6, hI7, hI8, hI9, hI10, hI12, hI13, hS⟩ := hJ
            have e0 : l0 = true := by
              rcases l0 with _ | _
              · exact (not_ready hr 0 _ rfl rfl (fun e he _ => absurd he (by simp))).elim
              · rfl
            subst e0
            have e1 : l1 = true := by
              rcases l1 with _ | _
              · exact (not_ready hr 1 _ rfl rfl (fun e he hb => by change e ∈ #[_] at he; simp only [List.mem_toArray, List.mem_cons, List.not_mem_nil, or_false] at he; rcases he with rfl <;> first | rfl | exact absurd hb (by decide))).elim
              · rfl
            subst e1
            have e2 : l2 = true := by
              rcases l2 with _ | _
              · exact (not_ready hr 2 _ rfl rfl (fun e he _ => absurd he (by simp))).elim
              · rfl
            subst e2
            have e3 : l3 = true := by
              rcases l3 with _ | _
              · exact (not_ready hr 3 _ rfl rfl (fun e he hb => by change e ∈ #[_, _] at he; simp only [List.mem_toArray, List.mem_cons, List.not_mem_nil, or_false] at he; rcases he with rfl | rfl <;> first | rfl | exact absurd hb (by decide))).elim
              · rfl
            subst e3
            have e4 : l4 = true := by
              rcases l4 with _ | _
              · exact (not_ready hr 4 _ rfl rfl (fun e he hb => by change e ∈ #[_] at he; simp only [List.mem_toArray, List.mem_cons, List.not_mem_nil, or_false] at he; rcases he with rfl <;> first | rfl | exact absurd hb (by decide))).elim
              · rfl
            subst e4
            have e5 : l5 = true := by
              rcases l5 with _ | _
              · exact (not_ready hr 5 _ rfl rfl (fun e he _ => absurd he (by simp))).elim
              · rfl
            subst e5
            have e6 : l6 = true := by
              rcases l6 with _ | _
              · exact (not_ready hr 6 _ rfl rfl (fun e he hb => by change e ∈ #[_] at he; simp only [List.mem_toArray, List.mem_cons, List.not_mem_nil, or_false] at he; rcases he with rfl <;> first | rfl | exact absurd hb (by decide))).elim
              · rfl
            subst e6
            have e7 : l7 = true := by
              rcases l7 with _ | _
              · exact (not_ready hr 7 _ rfl rfl (fun e he hb => by change e ∈ #[_, _, _] at he; simp only [List.mem_toArray, List.mem_cons, List.not_mem_nil, or_false] at he; rcases he with rfl | rfl | rfl <;> first | rfl | exact absurd hb (by decide))).elim
              · rfl
            subst e7
            have e8 : l8 = true := by
              rcases l8 with _ | _
              · exact (not_ready hr 8 _ rfl rfl (fun e he hb => by change e ∈ #[_] at he; simp only [List.mem_toArray, List.mem_cons, List.not_mem_nil, or_false] at he; rcases he with rfl <;> first | rfl | exact absurd hb (by decide))).elim
              · rfl
            subst e8
            have e9 : l9 = true := by
              rcases l9 with _ | _
              · exact (not_ready hr 9 _ rfl rfl (fun e he hb => by change e ∈ #[_] at he; simp only [List.mem_toArray, List.mem_cons, List.not_mem_nil, or_false] at he; rcases he with rfl <;> first | rfl | exact absurd hb (by decide))).elim
              · rfl
            subst e9
            have e10 : l10 = true := by
              rcases l10 with _ | _
              · exact (not_ready hr 10 _ rfl rfl (fun e he hb => by change e ∈ #[_, _] at he; simp only [List.mem_toArray, List.mem_cons, List.not_mem_nil, or_false] at he; rcases he with rfl | rfl <;> first | rfl | exact absurd hb (by decide))).elim
              · rfl
            subst e10
            have e11 : l11 = true := by
              rcases l11 with _ | _
              · exact (not_ready hr 11 _ rfl rfl (fun e he _ => absurd he (by simp))).elim
              · rfl
            subst e11
            have e12 : l12 = true := by
              rcases l12 with _ | _
              · exact (not_ready hr 12 _ rfl rfl (fun e he hb => by change e ∈ #[_, _, _, _, _, _, _, _, _, _, _, _, _, _, _] at he; simp only [List.mem_toArray, List.mem_cons, List.not_mem_nil, or_false] at he; rcases he with rfl | rfl | rfl | rfl | rfl | rfl | rfl | rfl | rfl | rfl | rfl | rfl | rfl | rfl | rfl <;> first | rfl | exact absurd hb (by decide))).elim
              · rfl
            subst e12
            have e13 : l13 = true := by
              rcases l13 with _ | _
              · exact (not_ready hr 13 _ rfl rfl (fun e he hb => by change e ∈ #[_, _, _, _, _, _, _, _, _, _, _, _, _, _, _] at he; simp only [List.mem_toArray, List.mem_cons, List.not_mem_nil, or_false] at he; rcases he with rfl | rfl | rfl | rfl | rfl | rfl | rfl | rfl | rfl | rfl | rfl | rfl | rfl | rfl | rfl <;> first | rfl | exact absurd hb (by decide))).elim
              · rfl
            subst e13
            simp only [slotw, if_true]
            clear hI1 hI3 hI4 hI6 hI7 hI8 hI9 hI10 hI12 hI13 hr
            go_wp2
            go_meet
            case rel => exact ⟨q, rfl, rfl, (hS.bxx rfl).1, Lib.hid hS.st, Lib.hid (hS.bxx rfl).2⟩
          · exact (by decide : lacks (Array.replicate 14 false).toList ≤ 14)
          · exact ⟨false, false, false, false, false, false, false, false, false, false, false, false, false, false, 0, 0, rfl, rfl, (fun h => by cases h), (fun h => by cases h), (fun h => by cases h), (fun h => by cases h), (fun h => by cases h), (fun h => by cases h), (fun h => by cases h), (fun h => by cases h), (fun h => by cases h), (fun h => by cases h), FoD.first HSD.out HVD.out⟩
        case rest =>
          obtain ⟨q, rfl, rfl, hqh, HFC2, HQ⟩ := hcut
          have hpl := HFC2.out.pl
          cases qq with
          | false =>
            have HF0 : Hid (foldN (r.f.code.take (k + 1)) (S.take (k + 1)) = cn) := Lib.hid HFN.out
            have hji := HNF.out rfl
            subst hji
            have HM := Lib.hid (mixF_same HLS.out HIK.out HVK.out HJJ.out)
            go_wp2
            go_roundw
            case rel => exact ⟨k + 1, HLT.out, by go_num, by rw [HF0.out], by rw [HM.out]; exact HFC2⟩
            case measure => have := HLT.out; simp [intOf]; omega
          | true =>
            have HF0 : Hid (foldN (r.f.code.take (k + 1)) (S.take (k + 1)) = cn + 1) := Lib.hid HFN.out
            have HM : Hid ((mixF r.f.code S k).set k j = mixF r.f.code S (k + 1)) := Lib.hid (by rw [← HJJ.out]; exact mixF_set HLS.out HIK.out HVK.out)
            have hkl : k < (mixF r.f.code S k).length := by rw [mixF_len HLS.out]; omega
            have HNW := Lib.hid (HM.out ▸ HFC2.out.set hkl j)
            obtain ⟨x0, x1, x2, x3, x4⟩ := nv5 HFC2.out.xb
            obtain ⟨y0, y1, y2, y3, y4, y5, y6, y7, y8, y9, y10, y11, y12, y13, y14⟩ := nv15 HQ.out
            have hcc := code_cells (r := ⟨⟨[], 0, 0, 0, mixF r.f.code S k⟩, some ⟨cg, 0, none⟩, 0⟩) (HFC2.out.row.row HFC2.out.row.lt (Nat.le_refl _)) (mixF_at HLS.out HIK.out) rfl
            simp only [Nat.zero_add] at hcc
            obtain ⟨q0, q1, q2, q3, q4, q5, q6, q7, q8, q9, q10, q11, q12, q13, q14⟩ := hcc
            have gf : ∀ j, wc.frozen? ⟨cg, j, none⟩ = false := fun j => HFC2.out.row.frozen j
            have hcgl := HFC2.out.row.lt
            clear hkl
            go_wp2
            go_roundw
            case rel => exact ⟨k + 1, HLT.out, by go_num, by rw [HF0.out]; go_num, HNW⟩
            case measure => have := HLT.out; simp [intOf]; omega
      · have HCO : Hid (∀ W, ValsAt W W.heap.size pa v → Calls Try.prog 80 #[.slice pa v.length pc, vlV ⟨0, 0⟩] W (RPost (.bool true) W)) := Lib.hid (fun W hW => contains_c v pa pc W hW hlv2 true (by
          cases hq : v.any (fun a => decide (a = ⟨0, 0⟩)) with
          | true => rfl
          | false => exact absurd ((any_full hok).1 hq) hf))
        have hnf : foldIs i v = false ∧ foldI i v = i := by
          rcases fold_cases i v with h | ⟨_, h, _⟩ | ⟨_, h, _⟩
          · exact h
          · exact absurd h hf
          · exact absurd h hf
        have HM := Lib.hid (mixF_same hlenS hi' hv hnf.2)
        rw [hnf.1] at HFN
        have HF0 : Hid (foldN (r.f.code.take (k + 1)) (S.take (k + 1)) = cn) := Lib.hid HFN.out
        clear hSr hv hi' hI hlv hok hpa hlt hcn hf hlenS hnf
        go_wp2_with ((with_reducible refine (HCO.out _ HPA.out).mono ?_); rintro e w7 ⟨rfl, hb7⟩; have HF7 := Lib.hid (HF.out.below hb7); clear hb7)
        go_roundw
        case rel => exact ⟨k + 1, HLT.out, by go_num, by rw [HF0.out], by rw [HM.out]; exact HF7⟩
        case measure => have := HLT.out; simp [intOf]; omega
    · obtain rfl : k = S.length := by omega
      obtain ⟨x0, x1, x2, x3, x4⟩ := nv5 HF.out.xb
      obtain ⟨y0, y1, y2, y3, y4⟩ := nv5 HF.out.rb
      have fy : ∀ j, wr.frozen? ⟨w.heap.size + 1, j, none⟩ = false := fun j => by simp [World.frozen?, HF.out.rb]
      have hpl := HF.out.pl
      go_wp2
      have hh := clone_end2 HF.out.rb r cg
      obtain ⟨p1, p2, p3⟩ := hh
      obtain ⟨u0, u1, u2, u3, u4⟩ := nv5 p1
      have hN : foldN (r.f.code.take S.length) (S.take S.length) = nn := by
        rw [HNN.out]
        rcases HSC.out with h | h
        · rw [h, List.take_length, ← h, List.take_length]
        · subst h
          simp only [List.length_nil, List.take_nil]
          cases r.f.code <;> rfl
      have hG : ∃ c, c = g.code ∧ mixF r.f.code S S.length = c ∧ fnV ⟨g, some ⟨cg, 0, none⟩, g.code.length⟩ = fnV ⟨r.f, some ⟨cg, 0, none⟩, r.f.code.length⟩ := by
        refine ⟨_, rfl, ?_, ?_⟩
        · rw [HGG.out]
          split
          · rename_i h; subst h; exact mixF_zero _ _
          · rename_i h; rw [mixF_all (HSC.out.resolve_right h)]; rfl
        · have hl : g.code.length = r.f.code.length := by
            rw [HGG.out]
            split
            · rfl
            · rename_i h; exact foldF_len (HSC.out.resolve_right h)
          have h1 : g.name = r.f.name := by rw [HGG.out]; split <;> rfl
          have h2 : g.params = r.f.params := by rw [HGG.out]; split <;> rfl
          have h3 : g.regs = r.f.regs := by rw [HGG.out]; split <;> rfl
          have h4 : g.frame = r.f.frame := by rw [HGG.out]; split <;> rfl
          simp only [fnV, h1, h2, h3, h4, hl]
      obtain ⟨c, hc1, hc2, hc3⟩ := hG
      have htl : List.take S.length S = S := List.take_length
      rw [htl] at hN
      refine bodyPost_ret (v := .tuple #[fnV ⟨r.f, some ⟨cg, 0, none⟩, r.f.code.length⟩, .int .i64 (nn : Int)]) (by simp [results, Try.results42, go_sem, u0, u1, u2, u3, u4, hN] <;> rfl) rfl ?_
      exact ⟨cg, by rw [hc3], by omega, by rw [← hc1, ← hc2]; exact HF.out.row.keep (p2 _ (by omega)), HF.out.hb.trans (p3.mono (by omega))⟩
end Go.Proofs.Ytpajndeongcjbaa
