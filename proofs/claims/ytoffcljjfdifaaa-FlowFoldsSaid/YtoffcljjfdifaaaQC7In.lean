/-
  Layer 7: what lies there while an instruction is looked at.
-/
import Derived.Test.YtoffcljjfdifaaaC7Reg
import Derived.Test.YtoffcljjfdifaaaQLB
namespace Go.Proofs.Ytoffcljjfdifaaa
open Go.RowKit Cd
set_option linter.unusedVariables false
set_option linter.unusedSimpArgs false

theorem Nd.other {z : Nat} {b : Bool} {w w' : World} (h : Nd z b w w') {b6 : Nat} (j : Nat) (u : Value) (hb : w.heap.size ≤ b6) (hn : b6 ≠ z) (hz : z < b6) : Nd z b w (w'.setCell ⟨b6, j, none⟩ u) :=
  ⟨h.below.setCell (show z ≤ b6 by omega) _, fun k hk hz => (heap_other7 (by omega)).trans (h.kept k hk hz), (heap_other7 (Ne.symm hn)).trans h.cell⟩
/-- The instruction (at cb, co), the function's box bf, need's box bn, the plain one's box b6, and what is told, in the block z. -/
structure InSt (w0 w : World) (z bn bf b6 cb co : Nat) (i o : Ins) (f : FnR) (R : Bool) : Prop where
  nd : Nd z R w0 w
  hn : w.heap[bn]? = some (needO z)
  hf : w.heap[bf]? = some (fnO f)
  h6 : w.heap[b6]? = some (inO o)
  hi : ∀ (j : Nat) (u : Value), (inCells i)[j]? = some u → w.cell? ⟨cb, co + j, none⟩ = some u
  hcb : cb < w0.heap.size
  hz : z < w0.heap.size
  ne : z ≠ cb
  lb : w0.heap.size ≤ bn ∧ w0.heap.size ≤ bf ∧ w0.heap.size ≤ b6
  ne6 : bn ≠ b6 ∧ bf ≠ b6
variable {w0 w w' : World} {z bn bf b6 cb co : Nat} {i o o' : Ins} {f : FnR} {R R' : Bool}
theorem cell_blk {w w' : World} {b : Nat} (h : w'.heap[b]? = w.heap[b]?) (j : Nat) : w'.cell? ⟨b, j, none⟩ = w.cell? ⟨b, j, none⟩ := by
  unfold World.cell?
  simp only [h]
theorem InSt.need (h : InSt w0 w z bn bf b6 cb co i o f R) (hd : Nd z R' w w') : InSt w0 w' z bn bf b6 cb co i o f R' := by
  have h1 := h.lb; have h2 := h.hz; have h3 := h.hcb; have h4 := h.ne
  have hs := h.nd.below.size
  exact ⟨h.nd.trans hd, (hd.kept bn (lt_heap h.hn) (by omega)).trans h.hn, (hd.kept bf (lt_heap h.hf) (by omega)).trans h.hf, (hd.kept b6 (lt_heap h.h6) (by omega)).trans h.h6,
    fun j u hu => (cell_blk (hd.kept cb (by omega) (Ne.symm h4)) _).trans (h.hi j u hu), h.hcb, h.hz, h.ne, h.lb, h.ne6⟩
theorem InSt.drew (h : InSt w0 w z bn bf b6 cb co i o f R) : InSt w0 w.drew z bn bf b6 cb co i o f R := ⟨h.nd.drew, h.hn, h.hf, h.h6, h.hi, h.hcb, h.hz, h.ne, h.lb, h.ne6⟩
theorem InSt.put (h : InSt w0 w z bn bf b6 cb co i o f R) (j : Nat) (u : Value) (ho : (#[Value.int .i64 o.kind, Value.int .i64 o.op, Value.int .i64 o.dst, Value.int .i64 o.a, Value.int .i64 o.b, Value.int .i64 o.n, Value.string (sb o.text), Value.int .i64 o.x0, Value.int .i64 o.x1, Value.int .i64 o.x2, Value.int .i64 o.x3, Value.int .i64 o.x4, Value.int .i64 o.x5, Value.int .i64 o.dest, Value.int .i64 o.els] : Array Value).setIfInBounds j u = #[Value.int .i64 o'.kind, Value.int .i64 o'.op, Value.int .i64 o'.dst, Value.int .i64 o'.a, Value.int .i64 o'.b, Value.int .i64 o'.n, Value.string (sb o'.text), Value.int .i64 o'.x0, Value.int .i64 o'.x1, Value.int .i64 o'.x2, Value.int .i64 o'.x3, Value.int .i64 o'.x4, Value.int .i64 o'.x5, Value.int .i64 o'.dest, Value.int .i64 o'.els]) :
    InSt w0 (w.setCell ⟨b6, j, none⟩ u) z bn bf b6 cb co i o' f R := by
  have h1 := h.lb; have h2 := h.hz; have h3 := h.hcb; have h4 := h.ne6
  exact ⟨h.nd.other j u h1.2.2 (by omega) (by omega), (heap_other7 h4.1).trans h.hn, (heap_other7 h4.2).trans h.hf, by rw [cells_set h.h6, ho],
    fun k v hv => (cell_blk (heap_other7 (by omega)) _).trans (h.hi k v hv), h.hcb, h.hz, h.ne, h.lb, h.ne6⟩
theorem InSt.told (h : InSt w0 w z bn bf b6 cb co i o f R) : w.heap[z]? = some (bxB R) := h.nd.cell
theorem InSt.zdrew (h : InSt w0 w z bn bf b6 cb co i o f R) : w.drew.heap[z]? = some (bxB R) := h.nd.cell
/-- The instruction's cells. -/
theorem InSt.cells (h : InSt w0 w z bn bf b6 cb co i o f R) :
    w.cell? ⟨cb, co, none⟩ = some (.int .i64 i.kind) ∧ w.cell? ⟨cb, co + 1, none⟩ = some (.int .i64 i.op) ∧ w.cell? ⟨cb, co + 2, none⟩ = some (.int .i64 i.dst) ∧ w.cell? ⟨cb, co + 3, none⟩ = some (.int .i64 i.a) ∧ w.cell? ⟨cb, co + 4, none⟩ = some (.int .i64 i.b) ∧
    w.cell? ⟨cb, co + 5, none⟩ = some (.int .i64 i.n) ∧ w.cell? ⟨cb, co + 6, none⟩ = some (.string (sb i.text)) ∧ w.cell? ⟨cb, co + 7, none⟩ = some (.int .i64 i.x0) ∧ w.cell? ⟨cb, co + 8, none⟩ = some (.int .i64 i.x1) ∧ w.cell? ⟨cb, co + 9, none⟩ = some (.int .i64 i.x2) ∧
    w.cell? ⟨cb, co + 10, none⟩ = some (.int .i64 i.x3) ∧ w.cell? ⟨cb, co + 11, none⟩ = some (.int .i64 i.x4) ∧ w.cell? ⟨cb, co + 12, none⟩ = some (.int .i64 i.x5) ∧ w.cell? ⟨cb, co + 13, none⟩ = some (.int .i64 i.dest) ∧ w.cell? ⟨cb, co + 14, none⟩ = some (.int .i64 i.els) :=
  ⟨h.hi 0 _ rfl, h.hi 1 _ rfl, h.hi 2 _ rfl, h.hi 3 _ rfl, h.hi 4 _ rfl, h.hi 5 _ rfl, h.hi 6 _ rfl, h.hi 7 _ rfl, h.hi 8 _ rfl, h.hi 9 _ rfl, h.hi 10 _ rfl, h.hi 11 _ rfl, h.hi 12 _ rfl, h.hi 13 _ rfl, h.hi 14 _ rfl⟩
/-- need's, the function's frame; the plain one may be written. -/
theorem InSt.side (h : InSt w0 w z bn bf b6 cb co i o f R) :
    w.cell? ⟨bn, 0, none⟩ = some (needV z) ∧ w.cell? ⟨bf, 3, none⟩ = some (.int .i64 f.f.frame) ∧ (∀ j, w.frozen? ⟨b6, j, none⟩ = false) := by
  obtain ⟨_, _, _, c3, _⟩ := nv5 h.hf
  exact ⟨(nv1 h.hn).1, c3, fun j => by simp [World.frozen?, h.h6]⟩
theorem InSt.apart (h : InSt w0 w z bn bf b6 cb co i o f R) : ¬ cb = b6 ∧ ¬ b6 = cb ∧ ¬ bn = b6 ∧ ¬ b6 = bn ∧ ¬ bf = b6 ∧ ¬ b6 = bf := by
  have h1 := h.lb; have h2 := h.hz; have h3 := h.hcb; have h4 := h.ne6
  omega
theorem InSt.six (h : InSt w0 w z bn bf b6 cb co i o f R) : ∃ x0 x1 x2 x3 x4 x5 x6 x7 x8 x9 x10 x11 x12 x13 x14, w.cell? ⟨b6, 0, none⟩ = some x0 ∧ w.cell? ⟨b6, 1, none⟩ = some x1 ∧ w.cell? ⟨b6, 2, none⟩ = some x2 ∧ w.cell? ⟨b6, 3, none⟩ = some x3 ∧ w.cell? ⟨b6, 4, none⟩ = some x4 ∧ w.cell? ⟨b6, 5, none⟩ = some x5 ∧ w.cell? ⟨b6, 6, none⟩ = some x6 ∧ w.cell? ⟨b6, 7, none⟩ = some x7 ∧ w.cell? ⟨b6, 8, none⟩ = some x8 ∧ w.cell? ⟨b6, 9, none⟩ = some x9 ∧ w.cell? ⟨b6, 10, none⟩ = some x10 ∧ w.cell? ⟨b6, 11, none⟩ = some x11 ∧ w.cell? ⟨b6, 12, none⟩ = some x12 ∧ w.cell? ⟨b6, 13, none⟩ = some x13 ∧ w.cell? ⟨b6, 14, none⟩ = some x14 :=
  ⟨_, _, _, _, _, _, _, _, _, _, _, _, _, _, _, nv15 h.h6⟩
/-- At first. -/
theorem inSt_first {w v1 : World} {z cb co : Nat} {i : Ins} {r : FnR} {R : Bool} (hz : w.heap[z]? = some (bxB R)) (hi : ∀ (j : Nat) (u : Value), (inCells i)[j]? = some u → w.cell? ⟨cb, co + j, none⟩ = some u) (hcb : cb < w.heap.size) (hne : z ≠ cb)
    (hb : Below ((w.alloc (fnO r)).alloc (needO z)).heap.size ((w.alloc (fnO r)).alloc (needO z)) v1) : InSt w (v1.alloc (inO (plainI i.kind))) z (w.heap.size + 1) w.heap.size v1.heap.size cb co i (plainI i.kind) r R := by
  have hs := hb.size
  have hzl := lt_heap hz
  simp only [World.size_alloc] at hs
  have b1 : Below w.heap.size w ((w.alloc (fnO r)).alloc (needO z)) := ((Below.refl _ w).alloc (Nat.le_refl _) _).alloc (by simp) _
  have b2 : Below w.heap.size w v1 := b1.trans (hb.mono (by simp <;> omega))
  have b3 : Below w.heap.size w (v1.alloc (inO (plainI i.kind))) := b2.alloc (by omega) _
  have e1 := heap_alloc_new (w.alloc (fnO r)) (needO z)
  rw [World.size_alloc] at e1
  refine ⟨⟨b3.mono (Nat.le_of_lt hzl), fun j hj _ => b3.block j hj, (b3.block z hzl).trans hz⟩, ?_, ?_, heap_alloc_new v1 _, fun j u hu => (cell_blk (b3.block cb hcb) _).trans (hi j u hu), hcb, hzl, hne, ⟨by omega, Nat.le_refl _, by omega⟩, ⟨by omega, by omega⟩⟩
  · exact (Below.heap_alloc _ _ _ (by omega)).trans ((hb.block _ (by simp)).trans e1)
  · exact (Below.heap_alloc _ _ _ (by omega)).trans ((hb.block _ (by simp <;> omega)).trans ((Below.heap_alloc _ _ _ (by simp)).trans (heap_alloc_new w _)))
/-- What comes of an instruction. -/
def InPost (z : Nat) (R : Bool) (w : World) (e : Ending) (w' : World) : Prop := e = .returned (.tuple #[]) ∧ Nd z R w w'
theorem csets_v (k : Int) (b : Bool) (h : setsB k = b) (w : World) : Calls Try.prog 115 #[.int .i64 k] w fun e w' => e = .returned (.bool b) ∧ w = w' := h ▸ csets_any k w
theorem creadsA_v (k : Int) (b : Bool) (h : Cd.readsA k = b) (w : World) : Calls Try.prog 116 #[.int .i64 k] w fun e w' => e = .returned (.bool b) ∧ w = w' := h ▸ creadsA_any k w
theorem creadsB_v (k : Int) (b : Bool) (h : Cd.readsB k = b) (w : World) : Calls Try.prog 117 #[.int .i64 k] w fun e w' => e = .returned (.bool b) ∧ w = w' := h ▸ creadsB_any k w
theorem wis_v (n : Int) (b : Bool) (h : isW n = b) (w : World) : Calls Try.prog 118 #[.int .i64 n] w fun e w' => e = .returned (.bool b) ∧ w = w' := by
  have e : (wrap32 n == n) = b := by
    rw [← h]; unfold isW
    by_cases hn : wrap32 n = n
    · have := wrap32_bd n
      rw [hn] at this
      simp [hn]; omega
    · rw [Bool.eq_iff_iff]
      simp [hn]
      unfold RowKit.wrap32 at hn
      omega
  exact e ▸ is_any n w
theorem wone_v (op : Int) (b : Bool) (h : oneB op = b) (w : World) : Calls Try.prog 98 #[.int .i64 op] w fun e w' => e = .returned (.bool b) ∧ w = w' := h ▸ one_any op w
theorem wtwo_v (op : Int) (b : Bool) (h : twoB op = b) (w : World) : Calls Try.prog 99 #[.int .i64 op] w fun e w' => e = .returned (.bool b) ∧ w = w' := h ▸ two_any op w
end Go.Proofs.Ytoffcljjfdifaaa
