/-
  Layer 11: Ahead's rows in memory.
  Layer 11: join, as Ahead calls it.
  Layer 11: a round of Ahead, on lists.
-/
import Derived.Test.YtpajndeongcjbaaQG11Join
import Derived.Laws.CopyOwn
namespace Go.Proofs.Ytpajndeongcjbaa
set_option maxRecDepth 100000
open Go.RowKit Cd
set_option linter.unusedVariables false
set_option linter.unusedSimpArgs false

/-- What make lays, of elements of several cells. -/
theorem made_flat (zs : List Value) (hz : 0 < zs.length) (n : Nat) : madeCells zs.toArray (n * zs.length) = ((List.replicate n ()).flatMap (fun _ => zs)).toArray := by
  apply Array.ext'
  apply List.ext_getElem?
  intro i
  by_cases hi : i < n * zs.length
  · have hq : i / zs.length < n := by rw [Nat.div_lt_iff_lt_mul hz]; exact hi
    have hr := Nat.mod_lt i hz
    have hdm := Nat.div_add_mod i zs.length
    have h1 := flat_at (f := fun _ : Unit => zs) (k := zs.length) (fun _ => rfl) (List.replicate n ()) (i / zs.length) (i % zs.length) () (by rw [List.getElem?_replicate, if_pos hq]) hr
    have e : i / zs.length * zs.length + i % zs.length = i := by rw [Nat.mul_comm]; exact hdm
    rw [e] at h1
    show _ = ((List.replicate n ()).flatMap fun _ => zs)[i]?
    rw [h1]
    unfold madeCells
    simp [hi, hr, List.getElem?_eq_getElem hr]
  · have h1 : ((List.replicate n ()).flatMap (fun _ => zs)).length = n * zs.length := by
      rw [flat_len (f := fun _ : Unit => zs) (k := zs.length) (fun _ => rfl), List.length_replicate]
    show _ = ((List.replicate n ()).flatMap fun _ => zs)[i]?
    have h2 : ((List.replicate n ()).flatMap (fun _ => zs))[i]? = none := List.getElem?_eq_none (by omega)
    rw [h2]
    unfold madeCells
    simp [hi]
theorem infoVal : (Try.prog.info? 66).map (fun i => (i.zero, i.size, i.bytes)) = some (some (.agg #[.int .i64 0, .int .i64 0]), 2, 16) := by kernel_rfl
theorem infoVals : (Try.prog.info? 67).map (fun i => (i.zero, i.size, i.bytes)) = some (some (.slice none 0 0), 1, 24) := by kernel_rfl
def vObj (l : List Val) : Obj := .cells (l.flatMap vlCells).toArray 66
def sObj (l : List Value) : Obj := .cells l.toArray 67
theorem make_vals (n : Nat) (hn : n ≤ 100000) (w : World) : (Instr.makeSlice 67 (.int .i64 (n : Int)) (.int .i64 (n : Int))).run Try.prog w = .ok (.slice (some ⟨w.heap.size, 0, none⟩) n n) (w.alloc (vObj (List.replicate n ⟨0, 0⟩))) := by
  obtain ⟨i, hi, hzz⟩ := Option.map_eq_some_iff.1 infoVal
  simp only [Prod.mk.injEq] at hzz
  obtain ⟨hz, hs, hb⟩ := hzz
  have hr := run_make (P := Try.prog) w 67 66 i (.agg #[.int .i64 0, .int .i64 0]) Try.underlying67 hi hz .i64 .i64 n n (by omega) (Int.le_refl _) (by rw [hb]; omega) (by omega)
  rw [Int.toNat_natCast, hs] at hr
  rw [hr]
  have e : madeCells (Value.agg #[.int .i64 0, .int .i64 0]).cells (n * 2) = ((List.replicate n (⟨0, 0⟩ : Val)).flatMap vlCells).toArray := by
    have h1 := made_flat [.int .i64 0, .int .i64 0] (by simp) n
    have h2 : (Value.agg #[.int .i64 0, .int .i64 0]).cells = #[.int .i64 0, .int .i64 0] := rfl
    rw [h2]
    refine h1.trans (congrArg List.toArray ?_)
    clear h1 hr
    induction n with
    | zero => rfl
    | succ n ih =>
      rw [List.replicate_succ, List.replicate_succ, List.flatMap_cons, List.flatMap_cons, ih (by omega)]
  rw [e]; rfl
theorem make_slices (n : Nat) (hn : n ≤ 100000) (w : World) : (Instr.makeSlice 63 (.int .i64 (n : Int)) (.int .i64 (n : Int))).run Try.prog w = .ok (.slice (some ⟨w.heap.size, 0, none⟩) n n) (w.alloc (sObj (List.replicate n (.slice none 0 0)))) := by
  unfold sObj
  rw [run_make_row' 63 67 (.slice none 0 0) 24 Try.underlying63 infoVals rfl .i64 .i64 n (by omega) (by omega) w, made_row]
/-- The row of rows, so many of which are made: row j stands in block A + 1 + j. -/
def rowV (A R j : Nat) : Value := .slice (some ⟨A + 1 + j, 0, none⟩) R R
def mkA (A R n k : Nat) : List Value := (List.range n).map (fun j => if j < k then rowV A R j else .slice none 0 0)
theorem mkA_zero (A R n : Nat) : mkA A R n 0 = List.replicate n (.slice none 0 0) := by
  unfold mkA
  apply List.ext_getElem?
  intro i
  by_cases hi : i < n
  · rw [List.getElem?_map, List.getElem?_range hi, List.getElem?_replicate, if_pos hi]; rfl
  · rw [List.getElem?_eq_none (by simpa using Nat.le_of_not_lt hi), List.getElem?_eq_none (by simpa using Nat.le_of_not_lt hi)]
theorem mkA_len (A R n k : Nat) : (mkA A R n k).length = n := by simp [mkA]
theorem mkA_at {A R n k j : Nat} (hj : j < n) : (mkA A R n k)[j]? = some (if j < k then rowV A R j else .slice none 0 0) := by
  unfold mkA; rw [List.getElem?_map, List.getElem?_range hj]; rfl
theorem mkA_set {A R n k : Nat} (hk : k < n) : (mkA A R n k).set k (rowV A R k) = mkA A R n (k + 1) := by
  apply List.ext_getElem?
  intro j
  by_cases hj : j < n
  · by_cases hkj : k = j
    · subst hkj
      rw [List.getElem?_set_self (by rw [mkA_len]; exact hk), mkA_at hj, if_pos (by omega)]
    · rw [List.getElem?_set_ne hkj, mkA_at hj, mkA_at hj]
      congr 1
      by_cases h : j < k
      · rw [if_pos h, if_pos (by omega)]
      · rw [if_neg h, if_neg (by omega)]
  · rw [List.getElem?_eq_none (by rw [List.length_set, mkA_len]; omega), List.getElem?_eq_none (by rw [mkA_len]; omega)]
/-- Rows are made one by one. -/
structure L1St (w1 w : World) (A R n k : Nat) : Prop where
  hs : w.heap.size = A + 1 + k
  ah : w.heap[A]? = some (.cells (mkA A R n k).toArray 67 (0, 0))
  rows : ∀ j, j < k → ValRow w (A + 1 + j) (List.replicate R ⟨0, 0⟩)
  hb : Below A w1 w
theorem L1St.first (w1 : World) (R n : Nat) : L1St w1 (w1.alloc (sObj (List.replicate n (.slice none 0 0)))) w1.heap.size R n 0 :=
  ⟨by simp, by rw [mkA_zero]; exact heap_alloc_new w1 _, fun j h => absurd h (Nat.not_lt_zero _), (Below.refl _ _).alloc (Nat.le_refl _) _⟩
theorem L1St.cell {w1 w : World} {A R n k : Nat} (h : L1St w1 w A R n k) (hk : k < n) : w.cell? ⟨A, k, none⟩ = some (.slice none 0 0) := by
  rw [cell_of_row w A _ _ _ _ h.ah]
  have := mkA_at (A := A) (R := R) (k := k) hk
  rw [if_neg (Nat.lt_irrefl _)] at this
  simpa using this
theorem L1St.next {w1 w : World} {A R n k : Nat} (h : L1St w1 w A R n k) (hk : k < n) : L1St w1 ((w.alloc (vObj (List.replicate R ⟨0, 0⟩))).setCell ⟨A, k, none⟩ (.slice (some ⟨w.heap.size, 0, none⟩) R R)) A R n (k + 1) := by
  have hs := h.hs
  refine ⟨by simp [hs]; omega, ?_, fun j hj => ?_, (h.hb.alloc (by omega) _).setCell (Nat.le_refl _) _⟩
  · have h1 : (w.alloc (vObj (List.replicate R ⟨0, 0⟩))).heap[A]? = _ := (Below.heap_alloc _ _ _ (by omega)).trans h.ah
    rw [cells_set h1 k, List.setIfInBounds_toArray]
    have : (Value.slice (some ⟨w.heap.size, 0, none⟩) R R) = rowV A R k := by unfold rowV; rw [hs]
    rw [this, mkA_set hk]
  · unfold ValRow
    rw [heap_oth (by omega)]
    by_cases hjk : j = k
    · subst hjk
      rw [← hs]
      exact heap_alloc_new w _
    · exact (Below.heap_alloc _ _ _ (by omega)).trans (h.rows j (by omega))
/-- All of it: the function's box, the row of rows, the rows. -/
structure AhSt (w0 w : World) (r : FnR) (A : Nat) (S : List (List Val)) : Prop where
  fb : w.heap[w0.heap.size]? = some (fnO r)
  code : CodeAt w w0.heap.size r
  ah : w.heap[A]? = some (.cells (mkA A r.f.regs.toNat S.length S.length).toArray 67 (0, 0))
  rows : ∀ (j : Nat) (v : List Val), S[j]? = some v → ValRow w (A + 1 + j) v ∧ v.length = r.f.regs.toNat
  hA : w0.heap.size < A
  big : A + 1 + S.length ≤ w.heap.size
  hb : Below w0.heap.size w0 w
section
variable {w0 w w' : World} {r : FnR} {A : Nat} {S : List (List Val)}
theorem AhSt.below (h : AhSt w0 w r A S) (hb : Below w.heap.size w w') : AhSt w0 w' r A S := by
  have h1 := h.hA
  have h2 := h.big
  have hw : Below w0.heap.size w w' := hb.mono (by omega)
  exact ⟨(hb.block _ (by omega)).trans h.fb, h.code.below hw, (hb.block _ (by omega)).trans h.ah, fun j v hv => ⟨(h.rows j v hv).1.keep (hb.block _ (h.rows j v hv).1.lt), (h.rows j v hv).2⟩, h.hA, by have := hb.size; omega, h.hb.trans hw⟩
theorem AhSt.cell (h : AhSt w0 w r A S) {j : Nat} (hj : j < S.length) : w.cell? ⟨A, j, none⟩ = some (rowV A r.f.regs.toNat j) := by
  rw [cell_of_row w A _ _ _ _ h.ah]
  have := mkA_at (A := A) (R := r.f.regs.toNat) (k := S.length) hj
  rw [if_pos hj] at this
  simpa using this
/-- Only what lies from the rows' end on changes. -/
theorem AhSt.keep (h : AhSt w0 w r A S) (hk : ∀ g, g < A + 1 + S.length → w'.heap[g]? = w.heap[g]?) (hs : w.heap.size ≤ w'.heap.size) (hb : Below w0.heap.size w w') : AhSt w0 w' r A S := by
  have h1 := h.hA
  exact ⟨(hk _ (by omega)).trans h.fb, h.code.below hb, (hk _ (by omega)).trans h.ah, fun j v hv => ⟨(h.rows j v hv).1.keep (hk _ (by have := (List.getElem?_eq_some_iff.1 hv).1; omega)), (h.rows j v hv).2⟩, h.hA, by have := h.big; omega, h.hb.trans hb⟩
/-- A row has changed. -/
theorem AhSt.moved (h : AhSt w0 w r A S) {p : Nat} {v v' : List Val} (hp : S[p]? = some v) (hm : Mvd (A + 1 + p) w0.heap.size w w') (hr : ValRow w' (A + 1 + p) v') (hl : v'.length = v.length) : AhSt w0 w' r A (S.set p v') := by
  have h1 := h.hA
  have h2 := h.big
  have hpl := (List.getElem?_eq_some_iff.1 hp).1
  refine ⟨(hm.kept _ (by omega) (by omega)).trans h.fb, h.code.below hm.below, ?_, fun j u hu => ?_, h.hA, by rw [List.length_set]; have := hm.size; omega, h.hb.trans hm.below⟩
  · rw [List.length_set]
    exact (hm.kept _ (by omega) (by omega)).trans h.ah
  · by_cases hj : p = j
    · subst hj
      rw [List.getElem?_set_self hpl] at hu
      injection hu with hu
      subst hu
      exact ⟨hr, hl.trans (h.rows p v hp).2⟩
    · rw [List.getElem?_set_ne hj] at hu
      have h3 := (h.rows j u hu).1.lt
      exact ⟨(h.rows j u hu).1.keep (hm.kept _ h3 (by omega)), (h.rows j u hu).2⟩
theorem L1St.all {w0 w1 w : World} {r : FnR} {A : Nat} (h : L1St w1 w A r.f.regs.toNat r.f.code.length r.f.code.length) (hA : A = w1.heap.size) (hb : Below w0.heap.size w0 w1) (hf : w1.heap[w0.heap.size]? = some (fnO r)) (hc : CodeAt w1 w0.heap.size r) : AhSt w0 w r A (zerosV r.f) := by
  have hl : (zerosV r.f).length = r.f.code.length := by simp [zerosV]
  have h0 := lt_heap hf
  have hs := h.hs
  have hw : Below w0.heap.size w1 w := h.hb.mono (by omega)
  refine ⟨(h.hb.block _ (by omega)).trans hf, hc.below hw, by rw [hl]; exact h.ah, fun j v hv => ?_, by omega, by rw [hl]; omega, hb.trans hw⟩
  unfold zerosV at hv
  rw [List.getElem?_replicate] at hv
  split at hv
  · rename_i hj
    injection hv with hv
    subst hv
    exact ⟨h.rows j hj, by simp⟩
  · cases hv
end
/-- What a closure of what is known behind tells of each register. -/
theorem comes_c {b b1 b2 b3 kb cap : Nat} {i : Ins} {v : List Val} {x0 : Val} {V : World} (h1 : V.heap[b1]? = some (.cells #[.int .i64 (Cd.sets i)] 3)) (h2 : V.heap[b2]? = some (vlO x0)) (h3 : V.heap[b3]? = some (.cells #[lsV b] 106)) (hb : V.heap[b]? = some (.cells #[.slice (some ⟨kb, 0, none⟩) v.length cap] 67))
    {k : Nat} {x : Val} (hx : (setV i v x0)[k]? = some x) {u : List Val} (hr : ValRow V kb u) (hu : u[k]? = v[k]?) (hset : Cd.sets i < (v.length : Int)) :
    Calls Try.prog 110 #[.int .i64 (k : Int), .pointer (some ⟨b1, 0, none⟩), .pointer (some ⟨b2, 0, none⟩), .pointer (some ⟨b3, 0, none⟩)] V (RPost (vlV x) V) := by
  have c1 : V.cell? ⟨b1, 0, none⟩ = some (.int .i64 (Cd.sets i)) := by rw [cell_of_row V b1 0 _ _ _ h1]; rfl
  have c3 : V.cell? ⟨b3, 0, none⟩ = some (lsV b) := by rw [cell_of_row V b3 0 _ _ _ h3]; rfl
  have cb : V.cell? ⟨b, 0, none⟩ = some (.slice (some ⟨kb, 0, none⟩) v.length cap) := by rw [cell_of_row V b 0 _ _ _ hb]; rfl
  have hkv : k < v.length := by have := (List.getElem?_eq_some_iff.1 hx).1; rwa [setV_len] at this
  by_cases hk : (k : Int) = Cd.sets i
  · have hx0 : x = x0 := by
      unfold setV at hx
      rw [if_pos (by omega), ← hk, Int.toNat_natCast, List.getElem?_set_self hkv] at hx
      injection hx with hx; exact hx.symm
    subst hx0
    rw [hk]
    exact behind_set b1 b2 b3 (Cd.sets i) x V c1 h2 (lt_heap h1)
  · have hvk : v[k]? = some x := by
      unfold setV at hx
      split at hx
      · rwa [List.getElem?_set_ne (by omega)] at hx
      · exact hx
    obtain ⟨q0, q1⟩ := hr.cells (hu.trans hvk)
    exact behind_not b1 b2 b3 b (Cd.sets i) k v.length x kb 0 cap V hk hkv c1 c3 cb (by rw [Nat.zero_add]; exact q0) (by rw [Nat.zero_add]; exact q1) (lt_heap h1) (lt_heap h3) (lt_heap hb) hr.lt
end Go.Proofs.Ytpajndeongcjbaa
namespace Go.Proofs.Ytpajndeongcjbaa
set_option maxRecDepth 100000
open Go.RowKit Cd
set_option linter.unusedVariables false
set_option linter.unusedSimpArgs false

theorem join0 {w0 W : World} {r : FnR} {A b : Nat} (hR : RightF r.f) (h : AhSt w0 W r A (zerosV r.f)) (hb : W.heap[b]? = some (.cells #[.int .i64 r.f.params] 3)) (hbb : A + 1 + r.f.code.length ≤ b) :
    Calls Try.prog 75 #[.slice (some ⟨A + 1, 0, none⟩) r.f.regs.toNat r.f.regs.toNat, fsV b] W (fun e W' => (∃ q, e = .returned (.bool q)) ∧ AhSt w0 W' r A ((zerosV r.f).set 0 (firstL r.f))) := by
  have hn := hR.code
  have hrr := hR.regs
  have hA := h.hA
  have h0 : (zerosV r.f)[0]? = some (List.replicate r.f.regs.toNat ⟨0, 0⟩) := by unfold zerosV; rw [List.getElem?_replicate, if_pos (by omega)]
  have hrow := (h.rows 0 _ h0).1
  have hj := join_first b (A + 1) w0.heap.size r.f.regs.toNat (List.replicate r.f.regs.toNat ⟨0, 0⟩) (firstL r.f) W hrow (by rw [firstL_len, List.length_replicate]) (fun a ha => by rw [List.eq_of_mem_replicate ha]; exact .inl ⟨rfl, rfl⟩) (firstL_ok r.f) (by omega) (by rw [List.length_replicate]; omega) (fun k x V l hx hm hrV hl => by
    have hk := (List.getElem?_eq_some_iff.1 hx).1
    rw [firstL_len] at hk
    rw [firstL_at (by omega)] at hx
    injection hx with hx
    have hbs := lt_heap hb
    have hbV : V.heap[b]? = _ := (hm.kept b hbs (by omega)).trans hb
    subst hx
    exact first1_c b r.f.params (k : Int) V (by rw [cell_of_row V b 0 _ _ _ hbV]; rfl) (lt_heap hbV))
  rw [List.length_replicate] at hj
  refine hj.mono ?_
  rintro e W' ⟨rfl, hr, hm⟩
  rw [join_zeros] at hr
  exact ⟨⟨_, rfl⟩, h.moved h0 hm hr (by rw [firstL_len, List.length_replicate])⟩
/-- Along an edge. -/
theorem joinB {w0 W : World} {r : FnR} {A b b1 b2 b3 k p kc : Nat} {S : List (List Val)} {i : Ins} {v old : List Val} {x0 : Val} (hR : RightF r.f) (h : AhSt w0 W r A S) (hv : S[k]? = some v) (hold : S[p]? = some old)
    (hb1 : W.heap[b1]? = some (.cells #[.int .i64 (Cd.sets i)] 3)) (hb2 : W.heap[b2]? = some (vlO x0)) (hb3 : W.heap[b3]? = some (.cells #[lsV b] 106)) (hb : W.heap[b]? = some (.cells #[.slice (some ⟨A + 1 + k, 0, none⟩) v.length kc] 67))
    (g1 : A + 1 + S.length ≤ b1) (g2 : A + 1 + S.length ≤ b2) (g3 : A + 1 + S.length ≤ b3) (g0 : A + 1 + S.length ≤ b) (hset : Cd.sets i < r.f.regs) (hok : ∀ u ∈ S, ∀ a ∈ u, OkV a) (hx0 : OkV x0) :
    Calls Try.prog 75 #[.slice (some ⟨A + 1 + p, 0, none⟩) r.f.regs.toNat r.f.regs.toNat, bhV b1 b2 b3] W (fun e W' => e = .returned (.bool (decide (joinL old (setV i v x0) ≠ old))) ∧ AhSt w0 W' r A (S.set p (joinL old (setV i v x0))) ∧ Mvd (A + 1 + p) w0.heap.size W W') := by
  have hA := h.hA
  have hrr := hR.regs
  obtain ⟨hrow, hlo⟩ := h.rows p old hold
  obtain ⟨hrowk, hlv⟩ := h.rows k v hv
  have hpl := (List.getElem?_eq_some_iff.1 hold).1
  have hkl := (List.getElem?_eq_some_iff.1 hv).1
  have hcl : (setV i v x0).length = old.length := by rw [setV_len]; omega
  have hj := join_behind b1 b2 b3 (A + 1 + p) w0.heap.size r.f.regs.toNat old (setV i v x0) W hrow hcl (hok _ (List.mem_of_getElem? hold)) (set_ok (hok _ (List.mem_of_getElem? hv)) hx0) (by omega) (by omega) (fun j x V l hx hm hrV hl => by
    have q1 : V.heap[b1]? = _ := (hm.kept b1 (lt_heap hb1) (by omega)).trans hb1
    have q2 : V.heap[b2]? = _ := (hm.kept b2 (lt_heap hb2) (by omega)).trans hb2
    have q3 : V.heap[b3]? = _ := (hm.kept b3 (lt_heap hb3) (by omega)).trans hb3
    have q0 : V.heap[b]? = _ := (hm.kept b (lt_heap hb) (by omega)).trans hb
    by_cases hkp : k = p
    · subst hkp
      rw [hold] at hv
      injection hv with hv
      subst hv
      exact comes_c q1 q2 q3 q0 hx hrV hl (by omega)
    · exact comes_c q1 q2 q3 q0 hx (hrowk.keep (hm.kept _ hrowk.lt (by omega))) rfl (by omega))
  rw [hlo] at hj
  refine hj.mono ?_
  rintro e W' ⟨rfl, hr, hm⟩
  exact ⟨rfl, h.moved hold hm hr (joinL_len hcl), hm⟩
/-- The first values: l5: their closure is made, l6: they are put in. -/
structure FD (w0 W : World) (r : FnR) (A : Nat) (l5 l6 : Bool) (b : Nat) : Prop where
  st : AhSt w0 W r A (if l6 = true then (zerosV r.f).set 0 (firstL r.f) else zerosV r.f)
  bx : l5 = true → l6 = false → A + 1 + r.f.code.length ≤ b ∧ W.heap[b]? = some (.cells #[.int .i64 r.f.params] 3)
theorem FD.first {w0 W : World} {r : FnR} {A : Nat} (h : AhSt w0 W r A (zerosV r.f)) : FD w0 W r A false false 0 := ⟨h, fun h => (by cases h)⟩
theorem zerosV_len (g : Fnc) : (zerosV g).length = g.code.length := by simp [zerosV]
theorem FD.made {w0 W : World} {r : FnR} {A b : Nat} (h : FD w0 W r A false false b) : FD w0 (W.alloc (.cells #[.int .i64 r.f.params] 3)) r A true false W.heap.size :=
  ⟨h.st.below ((Below.refl _ _).alloc (Nat.le_refl _) _), fun _ _ => ⟨by have := h.st.big; simp only [Bool.false_eq_true, if_false] at this; rw [zerosV_len] at this; exact this, heap_alloc_new W _⟩⟩
end Go.Proofs.Ytpajndeongcjbaa
namespace Go.Proofs.Ytpajndeongcjbaa
set_option maxRecDepth 100000
open Go.RowKit Cd
set_option linter.unusedVariables false
set_option linter.unusedSimpArgs false

theorem regIn_of {g : Fnc} {i : Ins} {v : List Val} (hI : RightI i g.regs g.frame g.code.length) (hl : (v.length : Int) = g.regs) : RegIn i v := by
  have hu := hI.uses
  refine ⟨fun r hr => by have := hu r hr; omega, fun hk => ?_⟩
  have ha := hu i.a (by unfold uses readsA; rcases hk with h | h <;> simp [h])
  refine ⟨by omega, ?_⟩
  by_cases h3 : i.kind = 3
  · have := hu i.b (by unfold uses readsA readsB; simp [h3])
    omega
  · have h2 : i.kind = 2 := by omega
    have hb : i.b = ifI (readsB i.kind = true) i.b 0 := congrArg Ins.b hI.plain
    unfold ifI at hb
    rw [if_neg (by unfold readsB; simp [h2])] at hb
    omega
theorem oneOk_of {g : Fnc} {i : Ins} (hI : RightI i g.regs g.frame g.code.length) : OneOk i := by
  intro h2
  have := hI.op
  unfold opOk at this
  rw [if_pos h2, Bool.and_eq_true, decide_eq_true_eq, decide_eq_true_eq] at this
  exact this
theorem sets_lt {g : Fnc} {i : Ins} (hI : RightI i g.regs g.frame g.code.length) (h0 : 0 ≤ g.regs) : Cd.sets i < g.regs := by
  unfold Cd.sets
  split
  · rename_i h
    have := hI.dst
    unfold dstOk at this
    by_cases h8 : i.kind = 8
    · rw [if_pos h8, Bool.and_eq_true, decide_eq_true_eq, decide_eq_true_eq] at this
      exact this.2
    · rw [if_neg h8, if_pos (by omega)] at this
      unfold regOk at this
      rw [Bool.and_eq_true, decide_eq_true_eq, decide_eq_true_eq] at this
      exact this.2
  · omega
/-- An edge to itself brings nothing new. -/
theorem self_edge {i : Ins} {v : List Val} {k : Nat} (h : (k : Int) ∈ goesV i v k) (x : Val) : setV i v x = v := by
  have hn := goesV_next h
  unfold next at hn
  have hs : Cd.sets i = -1 := by
    by_cases h11 : i.kind = 11
    · unfold Cd.sets; rw [if_neg (by omega)]
    · rw [if_neg h11] at hn
      by_cases h12 : i.kind = 12
      · unfold Cd.sets; rw [if_neg (by omega)]
      · rw [if_neg h12] at hn
        by_cases h13 : i.kind = 13
        · rw [if_pos h13] at hn; cases hn
        · rw [if_neg h13, List.mem_singleton] at hn; omega
  unfold setV
  rw [hs, if_neg (by omega)]
/-- One edge of a round. -/
theorem edge_step {g : Fnc} {S : List (List Val)} {op ws : List Int} {k p j : Nat} {i : Ins} {v old : List Val} {x : Val} (hR : RightF g) (h : InvV g S op (fun q => q = k)) (hi : g.code[k]? = some i) (hv : S[k]? = some v) (hf : fullV v) (hx : behV i v = some x) (hp : (p : Int) ∈ goesV i v k) (hold : S[p]? = some old)
    (hw : ∀ q ∈ ws.take j, ∀ u, S[q.toNat]? = some u → withinL (setV i v x) u) (hj : ws[j]? = some (p : Int)) :
    InvV g (S.set p (joinL old (setV i v x))) (if joinL old (setV i v x) = old then op else op ++ [(p : Int)]) (fun q => q = k) ∧ (S.set p (joinL old (setV i v x)))[k]? = some v ∧
    (∀ q ∈ ws.take (j + 1), ∀ u, (S.set p (joinL old (setV i v x)))[q.toNat]? = some u → withinL (setV i v x) u) ∧
    lackS (S.set p (joinL old (setV i v x))) + (if joinL old (setV i v x) = old then 0 else 1) ≤ lackS S := by
  have hI := hR.all i (List.mem_of_getElem? hi)
  have hl := h.rowAt hv
  have hlo := h.rowAt hold
  have hcl : (setV i v x).length = old.length := by rw [setV_len]; omega
  have hpl := (List.getElem?_eq_some_iff.1 hold).1
  have hxo := beh_ok hI hl (h.ok v (List.mem_of_getElem? hv)) hx
  refine ⟨h.edge hR hi hv hf hx hp hold, ?_, ?_, ?_⟩
  · by_cases hkp : p = k
    · subst hkp
      rw [List.getElem?_set_self hpl, self_edge hp x]
      rw [hold] at hv
      injection hv with hv
      subst hv
      have : joinL old old = old := by
        unfold joinL
        apply List.ext_getElem?
        intro r
        rw [List.getElem?_zipWith]
        cases old[r]? with
        | none => rfl
        | some a => simp [join_same]
      rw [this]
    · rw [List.getElem?_set_ne hkp]; exact hv
  · intro q hq u hu
    rw [take_more hj, List.mem_append, List.mem_singleton] at hq
    by_cases hqp : p = q.toNat
    · rw [← hqp, List.getElem?_set_self hpl] at hu
      injection hu with hu
      subst hu
      exact joinL_right hcl
    · rw [List.getElem?_set_ne hqp] at hu
      rcases hq with hq | hq
      · exact hw q hq u hu
      · rw [hq, Int.toNat_natCast] at hqp; exact absurd rfl hqp
  · have h1 := lackS_set S p old (joinL old (setV i v x)) hold
    have h2 := lackL_join old (setV i v x) hcl (h.ok old (List.mem_of_getElem? hold)) (set_ok (h.ok v (List.mem_of_getElem? hv)) hxo)
    split
    · omega
    · rename_i hne
      have := h2.2 hne
      omega
theorem ways_some {i : Ins} {v : List Val} {p q : Int} (h : q ∈ waysV i v p) : behV i v = some ((behV i v).getD ⟨2, 0⟩) ∧ q ∈ goesV i v p := by
  unfold waysV at h
  cases hb : behV i v with
  | none => rw [hb] at h; simp at h
  | some x => rw [hb] at h; exact ⟨rfl, h⟩
theorem ways_done {i : Ins} {v : List Val} {p q : Int} {x : Val} (hx : behV i v = some x) (h : q ∈ goesV i v p) : q ∈ waysV i v p ∧ x = (behV i v).getD ⟨2, 0⟩ := by
  unfold waysV; rw [hx]; exact ⟨h, rfl⟩
theorem ways_len (i : Ins) (v : List Val) (p : Int) : (waysV i v p).length ≤ 2 := by
  unfold waysV
  split
  · unfold goesV
    split
    · simp
    · unfold next
      split
      · simp
      · split
        · simp
        · split <;> simp
  · simp
theorem code_cells {w : World} {B b off : Nat} {r : FnR} (h : CodeAt w B r) {k : Nat} {x : Ins} (hk : r.f.code[k]? = some x) (hca : r.ca = some ⟨b, off, none⟩) : w.cell? ⟨b, off + k * 15, none⟩ = some (Value.int .i64 x.kind) ∧ w.cell? ⟨b, off + k * 15 + 1, none⟩ = some (Value.int .i64 x.op) ∧ w.cell? ⟨b, off + k * 15 + 2, none⟩ = some (Value.int .i64 x.dst) ∧ w.cell? ⟨b, off + k * 15 + 3, none⟩ = some (Value.int .i64 x.a) ∧ w.cell? ⟨b, off + k * 15 + 4, none⟩ = some (Value.int .i64 x.b) ∧ w.cell? ⟨b, off + k * 15 + 5, none⟩ = some (Value.int .i64 x.n) ∧ w.cell? ⟨b, off + k * 15 + 6, none⟩ = some (Value.string (sb x.text)) ∧ w.cell? ⟨b, off + k * 15 + 7, none⟩ = some (Value.int .i64 x.x0) ∧ w.cell? ⟨b, off + k * 15 + 8, none⟩ = some (Value.int .i64 x.x1) ∧ w.cell? ⟨b, off + k * 15 + 9, none⟩ = some (Value.int .i64 x.x2) ∧ w.cell? ⟨b, off + k * 15 + 10, none⟩ = some (Value.int .i64 x.x3) ∧ w.cell? ⟨b, off + k * 15 + 11, none⟩ = some (Value.int .i64 x.x4) ∧ w.cell? ⟨b, off + k * 15 + 12, none⟩ = some (Value.int .i64 x.x5) ∧ w.cell? ⟨b, off + k * 15 + 13, none⟩ = some (Value.int .i64 x.dest) ∧ w.cell? ⟨b, off + k * 15 + 14, none⟩ = some (Value.int .i64 x.els) := by
  obtain ⟨b', off', hca', _, _, h⟩ := h.cells hk
  rw [hca] at hca'
  injection hca' with e
  injection e with e1 e2 _
  subst e1 e2
  exact h
/-- The round's row of what is to be done lies apart from what the round makes. -/
def Away (v : Value) (a b : Nat) : Prop := ∀ q, v.ownBlock = some q → q < a ∨ b ≤ q
/-- What a round of Ahead has made, in blocks from qz to z; it stays. -/
structure RdSt (wX : World) (A qz z n k b1 b2 b3 kc : Nat) (i : Ins) (v : List Val) (x0 : Val) (ws : List Int) (wa : Option Addr) : Prop where
  e0 : wX.heap[qz]? = some (.cells #[.slice (some ⟨A + 1 + k, 0, none⟩) v.length kc] 67)
  e1 : wX.heap[b1]? = some (.cells #[.int .i64 (Cd.sets i)] 3)
  e2 : wX.heap[b2]? = some (vlO x0)
  e3 : wX.heap[b3]? = some (.cells #[lsV qz] 106)
  g0 : qz < z
  g1 : qz ≤ b1 ∧ b1 < z
  g2 : qz ≤ b2 ∧ b2 < z
  g3 : qz ≤ b3 ∧ b3 < z
  ws : 0 < ws.length → ∃ b off, wa = some ⟨b, off, none⟩ ∧ qz ≤ b ∧ b < z ∧ ∀ (j : Nat) (y : Int), ws[j]? = some y → wX.cell? ⟨b, off + j, none⟩ = some (.int .i64 y)
  big : A + 1 + n ≤ qz
theorem RdSt.keep {wX w' : World} {A qz z n k b1 b2 b3 kc : Nat} {i : Ins} {v : List Val} {x0 : Val} {ws : List Int} {wa : Option Addr} (h : RdSt wX A qz z n k b1 b2 b3 kc i v x0 ws wa) (hk : ∀ g, qz ≤ g → g < z → w'.heap[g]? = wX.heap[g]?) : RdSt w' A qz z n k b1 b2 b3 kc i v x0 ws wa :=
  ⟨(hk _ (Nat.le_refl _) h.g0).trans h.e0, (hk _ h.g1.1 h.g1.2).trans h.e1, (hk _ h.g2.1 h.g2.2).trans h.e2, (hk _ h.g3.1 h.g3.2).trans h.e3, h.g0, h.g1, h.g2, h.g3, fun h0 => by
    obtain ⟨b, off, e1, e2, e3, e4⟩ := h.ws h0
    exact ⟨b, off, e1, e2, e3, fun j y hy => (World.cell?_of_block (w := wX) (hk b e2 e3)).trans (e4 j y hy)⟩, h.big⟩
end Go.Proofs.Ytpajndeongcjbaa
