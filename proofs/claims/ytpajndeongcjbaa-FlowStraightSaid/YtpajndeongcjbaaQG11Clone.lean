/-
  Layer 11: rows of instructions of one's own; contracts of code.Clone, slices.Contains of values.
-/
import Derived.Test.YtpajndeongcjbaaQG11FoldH
import Derived.Laws.CopyRow
import Derived.Laws.IdiomCopy
namespace Go.Proofs.Ytpajndeongcjbaa
set_option maxRecDepth 100000
open Go.RowKit Cd
set_option linter.unusedVariables false
set_option linter.unusedSimpArgs false

/-- A block is a row of these instructions. -/
def InsRow (w : World) (g : Nat) (c : List Ins) : Prop := w.heap[g]? = some (.cells (c.flatMap inCells).toArray 35 (0, 0))
theorem InsRow.lt {w : World} {g : Nat} {c : List Ins} (h : InsRow w g c) : g < w.heap.size := lt_heap h
theorem InsRow.keep {w w' : World} {g : Nat} {c : List Ins} (h : InsRow w g c) (e : w'.heap[g]? = w.heap[g]?) : InsRow w' g c := e.trans h
theorem InsRow.row {w : World} {g B : Nat} {c : List Ins} (h : InsRow w g c) (hg : g < B) (hB : B ≤ w.heap.size) : RowAt w B (some ⟨g, 0, none⟩) (c.flatMap inCells) := fun _ => ⟨g, 0, rfl, hg, hB, fun j u hu => by rw [Nat.zero_add, cell_of_row w g _ _ _ _ h]; simpa using hu⟩
theorem InsRow.frozen {w : World} {g : Nat} {c : List Ins} (h : InsRow w g c) (j : Nat) : w.frozen? ⟨g, j, none⟩ = false := by simp [World.frozen?, (show w.heap[g]? = _ from h)]
abbrev setIO (w : World) (g o : Nat) (j : Ins) : World := (((((((((((((((w.setCell ⟨g, o, none⟩ (.int .i64 j.kind)).setCell ⟨g, o + 1, none⟩ (.int .i64 j.op)).setCell ⟨g, o + 2, none⟩ (.int .i64 j.dst)).setCell ⟨g, o + 3, none⟩ (.int .i64 j.a)).setCell ⟨g, o + 4, none⟩ (.int .i64 j.b)).setCell ⟨g, o + 5, none⟩ (.int .i64 j.n)).setCell ⟨g, o + 6, none⟩ (.string (sb j.text))).setCell ⟨g, o + 7, none⟩ (.int .i64 j.x0)).setCell ⟨g, o + 8, none⟩ (.int .i64 j.x1)).setCell ⟨g, o + 9, none⟩ (.int .i64 j.x2)).setCell ⟨g, o + 10, none⟩ (.int .i64 j.x3)).setCell ⟨g, o + 11, none⟩ (.int .i64 j.x4)).setCell ⟨g, o + 12, none⟩ (.int .i64 j.x5)).setCell ⟨g, o + 13, none⟩ (.int .i64 j.dest)).setCell ⟨g, o + 14, none⟩ (.int .i64 j.els))
abbrev setIL (L : List Value) (o : Nat) (j : Ins) : List Value := (((((((((((((((L.set (o) (.int .i64 j.kind)).set (o + 1) (.int .i64 j.op)).set (o + 2) (.int .i64 j.dst)).set (o + 3) (.int .i64 j.a)).set (o + 4) (.int .i64 j.b)).set (o + 5) (.int .i64 j.n)).set (o + 6) (.string (sb j.text))).set (o + 7) (.int .i64 j.x0)).set (o + 8) (.int .i64 j.x1)).set (o + 9) (.int .i64 j.x2)).set (o + 10) (.int .i64 j.x3)).set (o + 11) (.int .i64 j.x4)).set (o + 12) (.int .i64 j.x5)).set (o + 13) (.int .i64 j.dest)).set (o + 14) (.int .i64 j.els))
theorem set_app (L1 L2 : List Value) (k q : Nat) (u : Value) (h : L1.length = 15) : (L1 ++ L2).set ((k + 1) * 15 + q) u = L1 ++ L2.set (k * 15 + q) u := by
  rw [List.set_append_right _ _ (by omega), h]
  congr 2
  omega
theorem set_app0 (L1 L2 : List Value) (k : Nat) (u : Value) (h : L1.length = 15) : (L1 ++ L2).set ((k + 1) * 15) u = L1 ++ L2.set (k * 15) u := set_app L1 L2 k 0 u h
theorem flat_setI : ∀ (c : List Ins) (k : Nat) (j : Ins), k < c.length → setIL (c.flatMap inCells) (k * 15) j = (c.set k j).flatMap inCells
  | [], k, j, h => by simp at h
  | a :: c, 0, j, _ => by simp [setIL, inCells]
  | a :: c, k + 1, j, h => by
    have ih := flat_setI c k j (by simpa using h)
    unfold setIL at ih ⊢
    rw [List.flatMap_cons, List.set_cons_succ, List.flatMap_cons, ← ih]
    rw [set_app0 _ _ _ _ rfl]
    repeat rw [set_app _ _ _ _ _ rfl]
theorem setIO_heap {w : World} {g : Nat} {L : List Value} {t : TypeId} (h : w.heap[g]? = some (.cells L.toArray t (0, 0))) (o : Nat) (j : Ins) : (setIO w g o j).heap[g]? = some (.cells (setIL L o j).toArray t (0, 0)) := by
  have h1 := (cells_set (cells_set (cells_set (cells_set (cells_set (cells_set (cells_set (cells_set (cells_set (cells_set (cells_set (cells_set (cells_set (cells_set (cells_set h (o) (.int .i64 j.kind)) (o + 1) (.int .i64 j.op)) (o + 2) (.int .i64 j.dst)) (o + 3) (.int .i64 j.a)) (o + 4) (.int .i64 j.b)) (o + 5) (.int .i64 j.n)) (o + 6) (.string (sb j.text))) (o + 7) (.int .i64 j.x0)) (o + 8) (.int .i64 j.x1)) (o + 9) (.int .i64 j.x2)) (o + 10) (.int .i64 j.x3)) (o + 11) (.int .i64 j.x4)) (o + 12) (.int .i64 j.x5)) (o + 13) (.int .i64 j.dest)) (o + 14) (.int .i64 j.els))
  rw [h1]
  simp only [List.setIfInBounds_toArray]
theorem InsRow.set {w : World} {g : Nat} {c : List Ins} (h : InsRow w g c) {k : Nat} (hk : k < c.length) (j : Ins) : InsRow (setIO w g (k * 15) j) g (c.set k j) := by
  unfold InsRow
  rw [setIO_heap h, flat_setI c k j hk]
theorem setIO_oth {w : World} {g o k : Nat} (hk : k ≠ g) (j : Ins) : (setIO w g o j).heap[k]? = w.heap[k]? := by
  unfold setIO
  simp only [heap_oth hk]
theorem setIO_below {B : Nat} {w0 w : World} {g : Nat} (h : Below B w0 w) (hg : B ≤ g) (o : Nat) (j : Ins) : Below B w0 (setIO w g o j) := (((((((((((((((h.setCell hg _).setCell hg _).setCell hg _).setCell hg _).setCell hg _).setCell hg _).setCell hg _).setCell hg _).setCell hg _).setCell hg _).setCell hg _).setCell hg _).setCell hg _).setCell hg _).setCell hg _)
theorem infoIns : (Try.prog.info? 35).map (fun i => (i.zero, i.size, i.bytes)) = some (some (inV zeroIns), 15, 128) := by kernel_rfl
def insObj (l : List Ins) : Obj := .cells (l.flatMap inCells).toArray 35
theorem make_ins (n : Nat) (hn : n ≤ 10000) (w : World) : (Instr.makeSlice 22 (.int .i64 (n : Int)) (.int .i64 (n : Int))).run Try.prog w = .ok (.slice (some ⟨w.heap.size, 0, none⟩) n n) (w.alloc (insObj (List.replicate n zeroIns))) := by
  obtain ⟨i, hi, hzz⟩ := Option.map_eq_some_iff.1 infoIns
  simp only [Prod.mk.injEq] at hzz
  obtain ⟨hz, hs, hb⟩ := hzz
  have hr := run_make (P := Try.prog) w 22 35 i (inV zeroIns) Try.underlying22 hi hz .i64 .i64 n n (by omega) (Int.le_refl _) (by rw [hb]; omega) (by omega)
  rw [Int.toNat_natCast, hs] at hr
  rw [hr]
  have e : madeCells (inV zeroIns).cells (n * 15) = ((List.replicate n zeroIns).flatMap inCells).toArray := by
    have h1 := made_flat (inCells zeroIns) (by simp [inCells]) n
    have h2 : (inV zeroIns).cells = (inCells zeroIns).toArray := rfl
    have h3 : (inCells zeroIns).length = 15 := rfl
    rw [h2, ← h3]
    refine h1.trans (congrArg List.toArray ?_)
    clear h1 hr
    induction n with
    | zero => rfl
    | succ n ih =>
      rw [List.replicate_succ, List.replicate_succ, List.flatMap_cons, List.flatMap_cons, ih (by omega)]
  rw [e]; rfl
theorem copy_ins {W w0 : World} {B g n sc : Nat} {sp : Option Addr} (old c : List Ins) (hg : InsRow W g old) (ho : old.length = n) (hc : c.length = n) (hsrc : RowAt W W.heap.size sp (c.flatMap inCells)) (hb : Below B w0 W) (hBg : B ≤ g) :
    ∃ w2, (∀ ty, (Builtin.copy_ #[22, 22] ty #[.slice (some ⟨g, 0, none⟩) n n, .slice sp n sc]).run Try.prog W = .ok (.int .i64 (n : Int)) w2) ∧ InsRow w2 g c ∧ Below B w0 w2 ∧ (∀ j, j ≠ g → w2.heap[j]? = W.heap[j]?) ∧ W.heap.size ≤ w2.heap.size := by
  obtain ⟨i, hi, hzz⟩ := Option.map_eq_some_iff.1 infoIns
  simp only [Prod.mk.injEq] at hzz
  obtain ⟨hz, hs, hbb⟩ := hzz
  have hcl : (c.flatMap inCells).length = n * 15 := by rw [flat_len inCells_len, hc]
  have hol : (old.flatMap inCells).length = n * 15 := by rw [flat_len inCells_len, ho]
  by_cases h0 : n = 0
  · subst h0
    obtain rfl : c = [] := List.eq_nil_of_length_eq_zero hc
    obtain rfl : old = [] := List.eq_nil_of_length_eq_zero ho
    refine ⟨W, fun ty => ?_, hg, hb, fun _ _ => rfl, Nat.le_refl _⟩
    have hst := run_storeCells_at Try.prog g 0 35 [] 0 #[] W hg (by simp) (by simp)
    cases sp with
    | none => simp [Builtin.copy_, run_underlying Try.underlying22, Builtin.lenOf, Builtin.firstCells, sizeOf, typeInfo, hi, hs, storeCells, goInt]
    | some a => simp [Builtin.copy_, run_underlying Try.underlying22, Builtin.lenOf, Builtin.firstCells, sizeOf, typeInfo, hi, hs, storeCells, loadCells, loadCellsFrom, goInt]
  · obtain ⟨b, off, rfl, hbl, _, hcell⟩ := hsrc (by rw [hcl]; omega)
    have hl := run_loadCells_list (P := Try.prog) W ⟨b, off, none⟩ (c.flatMap inCells) (fun j v hv => by
      have := hcell j v hv
      have e : (⟨b, off, none⟩ : Addr).add j = ⟨b, off + j, none⟩ := by unfold Addr.add; split <;> simp_all
      rw [e]; exact this)
    have h1 : ∀ v ∈ c.flatMap inCells, v.oneCell' = true := by
      intro v hv
      obtain ⟨x, _, hx⟩ := List.mem_flatMap.1 hv
      simp only [inCells, List.mem_cons, List.not_mem_nil, or_false] at hx
      rcases hx with rfl | rfl | rfl | rfl | rfl | rfl | rfl | rfl | rfl | rfl | rfl | rfl | rfl | rfl | rfl <;> rfl
    have hst := run_storeCells_at Try.prog g 0 35 (c.flatMap inCells) 0 (old.flatMap inCells).toArray W hg (by simp only [Nat.zero_add]; rw [hcl]; simp only [List.size_toArray]; rw [hol]; exact Nat.le_refl _) h1
    have e : ((old.flatMap inCells).toArray.toList.take (0 + 0) ++ c.flatMap inCells ++ (old.flatMap inCells).toArray.toList.drop (0 + 0 + (c.flatMap inCells).length)).toArray = (c.flatMap inCells).toArray := by
      rw [hcl]
      simp [List.drop_eq_nil_of_le (show (old.flatMap inCells).length ≤ n * 15 by omega)]
    rw [e] at hst
    rw [hcl] at hl
    refine ⟨W.setRow g (c.flatMap inCells).toArray, fun ty => ?_, ?_, below_setRow hb hBg _, fun j hj => setRow_other W g j _ hj, by simp [World.setRow]⟩
    · simp [Builtin.copy_, run_underlying Try.underlying22, Builtin.lenOf, Builtin.firstCells, sizeOf, typeInfo, hi, hs, hl, hst, goInt]
    · exact setRow_heap W g _ _ 35 _ hg
theorem clone_end {w3 : World} {z : Nat} (h : w3.heap[z + 1]? = some (.cells #[.string (sb []), .int .i64 0, .int .i64 0, .int .i64 0, .slice none 0 0] 24)) (r : FnR) (g : Nat) :
    let V := ((((((w3.setCell ⟨z, 4, none⟩ (.slice (some ⟨g, 0, none⟩) r.f.code.length r.f.code.length)).setCell ⟨z + 1, 0, none⟩ (.string (sb r.f.name))).setCell ⟨z + 1, 1, none⟩ (.int .i64 r.f.params)).setCell ⟨z + 1, 2, none⟩ (.int .i64 r.f.regs)).setCell ⟨z + 1, 3, none⟩ (.int .i64 r.f.frame)).setCell ⟨z + 1, 4, none⟩ (.slice (some ⟨g, 0, none⟩) r.f.code.length r.f.code.length))
    V.heap[z + 1]? = some (fnO ⟨r.f, some ⟨g, 0, none⟩, r.f.code.length⟩) ∧ (∀ j, j ≠ z → j ≠ z + 1 → V.heap[j]? = w3.heap[j]?) ∧ Below z w3 V ∧ True := by
  intro V
  have h0 : (w3.setCell ⟨z, 4, none⟩ (.slice (some ⟨g, 0, none⟩) r.f.code.length r.f.code.length)).heap[z + 1]? = _ := (heap_oth (by omega)).trans h
  have h1 := cells_set (cells_set (cells_set (cells_set (cells_set h0 0 (.string (sb r.f.name))) 1 (.int .i64 r.f.params)) 2 (.int .i64 r.f.regs)) 3 (.int .i64 r.f.frame)) 4 (.slice (some ⟨g, 0, none⟩) r.f.code.length r.f.code.length)
  refine ⟨by simpa using h1, fun j hj hj1 => ?_, ?_, trivial⟩
  · exact (heap_oth hj1).trans ((heap_oth hj1).trans ((heap_oth hj1).trans ((heap_oth hj1).trans ((heap_oth hj1).trans (heap_oth hj)))))
  · exact ((((((Below.refl z w3).setCell (Nat.le_refl _) _).setCell (by simp) _).setCell (by simp) _).setCell (by simp) _).setCell (by simp) _).setCell (by simp) _
theorem wpList_copy_run {w w' : World} {ops : Array Oper} {rest : List Oper} {o : Oper} {a : Act} {Q : Exit → Act → World → Prop} (hgd : o.guard = none) (d s : Operand) (t t' : TypeId)
    (ho : o.op = .call { callee := .builtin .copy, args := #[d, s], argTypes := #[t, t'] }) (v u v' : Value) (hd : a.eval d = v) (hs : a.eval s = u)
    (hr : ∀ ty, (Builtin.copy_ #[t, t'] ty #[v, u]).run Try.prog w = .ok v' w') (h : wpList Try.prog ops Q rest (a.put o.dst v') w') : wpList Try.prog ops Q (o :: rest) a w := by
  refine wpList_plain hgd fun K hK => ?_
  have hr' := hr o.type
  unfold Oper.wp
  simp [execOp, ho, resolve, invoke, builtin, hd, hs, hr', Result.andThen]
  exact hK _ _ h
/-- The answer of Clone: the same function, its code in a block of its own. -/
def ClPost (r : FnR) (w : World) (e : Ending) (w' : World) : Prop := ∃ g, e = .returned (fnV ⟨r.f, some ⟨g, 0, none⟩, r.f.code.length⟩) ∧ w.heap.size ≤ g ∧ InsRow w' g r.f.code ∧ Below w.heap.size w w'
set_option maxHeartbeats 4000000 in
theorem clone_c (r : FnR) (w : World) (hC : CodeAt w w.heap.size r) (hl : r.f.code.length ≤ 10000) : Calls Try.prog 50 #[fnV r] w (ClPost r w) := by
  obtain ⟨h1, h2, h3, hs⟩ := two_new w (fnO r) (.cells #[.string (sb []), .int .i64 0, .int .i64 0, .int .i64 0, .slice none 0 0] 24)
  obtain ⟨W2, hW2⟩ : ∃ W, (w.alloc (fnO r)).alloc (.cells #[.string (sb []), .int .i64 0, .int .i64 0, .int .i64 0, .slice none 0 0] 24) = W := ⟨_, rfl⟩
  rw [hW2] at h1 h2 h3 hs
  have hmk := make_ins r.f.code.length hl
  obtain ⟨x0, x1, x2, x3, x4⟩ := nv5 h1
  have HN : Hid (InsRow (W2.alloc (insObj (List.replicate r.f.code.length zeroIns))) W2.heap.size (List.replicate r.f.code.length zeroIns)) := Lib.hid (heap_alloc_new W2 _)
  have HB : Hid (Below w.heap.size w (W2.alloc (insObj (List.replicate r.f.code.length zeroIns)))) := Lib.hid (h3.alloc (by omega) _)
  have HC : Hid (RowAt (W2.alloc (insObj (List.replicate r.f.code.length zeroIns))) (W2.alloc (insObj (List.replicate r.f.code.length zeroIns))).heap.size r.ca (r.f.code.flatMap inCells)) := Lib.hid ((RowAt.below hC HB.out).mono HB.out.size (Nat.le_refl _))
  obtain ⟨w3, hcp, hrow, hb3, hoth, hsz⟩ := copy_ins (w0 := w) (B := w.heap.size) (g := W2.heap.size) (sc := r.cc) (List.replicate r.f.code.length zeroIns) r.f.code HN.out (by simp) rfl HC.out HB.out (by omega)
  have HR3 := Lib.hid hrow; have HB3 := Lib.hid hb3
  have HX3 : Hid (w3.heap[w.heap.size]? = some (fnO r)) := Lib.hid ((hoth _ (by omega)).trans ((Below.heap_alloc _ _ _ (by omega)).trans h1))
  have HY3 : Hid (w3.heap[w.heap.size + 1]? = some (.cells #[.string (sb []), .int .i64 0, .int .i64 0, .int .i64 0, .slice none 0 0] 24)) := Lib.hid ((hoth _ (by omega)).trans ((Below.heap_alloc _ _ _ (by omega)).trans h2))
  have hb2 : w.heap.size < W2.heap.size := by omega
  have HZ : Hid (W2.heap.size = w.heap.size + 2) := Lib.hid hs
  have hs3 : w.heap.size + 2 < w3.heap.size := by have h9 := hsz; rw [World.size_alloc] at h9; omega
  clear hrow hb3 hoth h1 h2 h3 hC hsz
  go_enter Try.func50, Try.ntmps50
  rw [hs] at hcp HR3
  have hcp1 := hcp 3
  clear hcp
  go_upto_region 3 with fail
  clear x0 x1 x2 x3 x4
  obtain ⟨x0, x1, x2, x3, x4⟩ := nv5 HX3.out
  obtain ⟨y0, y1, y2, y3, y4⟩ := nv5 HY3.out
  have fx : ∀ j, w3.frozen? ⟨w.heap.size, j, none⟩ = false := fun j => by simp [World.frozen?, HX3.out]
  have fy : ∀ j, w3.frozen? ⟨w.heap.size + 1, j, none⟩ = false := fun j => by simp [World.frozen?, HY3.out]
  go_wp2
  obtain ⟨p1, p2, p3, p4⟩ := clone_end HY3.out r (w.heap.size + 2)
  obtain ⟨u0, u1, u2, u3, u4⟩ := nv5 p1
  refine bodyPost_ret (v := fnV ⟨r.f, some ⟨w.heap.size + 2, 0, none⟩, r.f.code.length⟩) (by simp [results, Try.results50, go_sem, u0, u1, u2, u3, u4] <;> rfl) rfl ?_
  exact ⟨w.heap.size + 2, rfl, by omega, HR3.out.keep (p2 _ (by omega) (by omega)), HB3.out.trans (p3.mono (Nat.le_refl _))⟩
end Go.Proofs.Ytpajndeongcjbaa
