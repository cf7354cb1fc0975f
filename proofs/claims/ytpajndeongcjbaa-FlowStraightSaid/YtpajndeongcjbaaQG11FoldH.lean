/-
  Layer 11: contracts of fold, slices.Contains of values, code.Clone.
-/
import Derived.Test.YtpajndeongcjbaaQG11Beh
import Derived.Test.YtpajndeongcjbaaQLJ
import Derived.Test.YtpajndeongcjbaaQLQ
import Derived.Test.YtpajndeongcjbaaQLI
namespace Go.Proofs.Ytpajndeongcjbaa
set_option maxRecDepth 100000
open Go.RowKit Cd
set_option linter.unusedVariables false
set_option linter.unusedSimpArgs false

/-- The answer of fold. -/
def FlPost (j : Ins) (q : Bool) (w : World) (e : Ending) (w' : World) : Prop := e = .returned (.tuple #[inV j, .bool q]) ∧ Below w.heap.size w w'
abbrev Cd.zeroIns : Ins := ⟨0, 0, 0, 0, 0, 0, [], 0, 0, 0, 0, 0, 0, 0, 0⟩
theorem two_new (w : World) (o1 o2 : Obj) : ((w.alloc o1).alloc o2).heap[w.heap.size]? = some o1 ∧ ((w.alloc o1).alloc o2).heap[w.heap.size + 1]? = some o2 ∧ Below w.heap.size w ((w.alloc o1).alloc o2) ∧ ((w.alloc o1).alloc o2).heap.size = w.heap.size + 2 := by
  have e2 := heap_alloc_new (w.alloc o1) o2
  simp only [World.size_alloc] at e2
  exact ⟨(Below.heap_alloc _ _ _ (by simp)).trans (heap_alloc_new w o1), e2, ((Below.refl w.heap.size w).alloc (Nat.le_refl _) _).alloc (by simp) _, by simp⟩
/-- fold's two boxes. -/
structure FSt (w0 w : World) (i j : Ins) (b : Nat) (v : List Val) : Prop where
  hi : w.heap[w0.heap.size]? = some (inO i)
  hj : w.heap[w0.heap.size + 1]? = some (inO j)
  ls : LsAt w w0.heap.size b v
  hb : Below w0.heap.size w0 w
theorem FSt.lt {w0 w : World} {i j : Ins} {b : Nat} {v : List Val} (h : FSt w0 w i j b v) : w0.heap.size + 2 ≤ w.heap.size := lt_heap h.hj
theorem FSt.lsz {w0 w : World} {i j : Ins} {b : Nat} {v : List Val} (h : FSt w0 w i j b v) : LsAt w w.heap.size b v := h.ls.mono h.hb.size (Nat.le_refl _)
theorem FSt.below {w0 w w' : World} {i j : Ins} {b : Nat} {v : List Val} (h : FSt w0 w i j b v) (hb : Below w.heap.size w w') : FSt w0 w' i j b v := by
  have := h.lt
  exact ⟨(hb.block _ (by omega)).trans h.hi, (hb.block _ (by omega)).trans h.hj, h.ls.below (hb.mono (by omega)), h.hb.trans (hb.mono (by omega))⟩
theorem FSt.new (w : World) (i : Ins) (b : Nat) (v : List Val) (h : LsAt w w.heap.size b v) : FSt w ((w.alloc (inO i)).alloc (inO zeroIns)) i zeroIns b v := by
  obtain ⟨h1, h2, h3, _⟩ := two_new w (inO i) (inO zeroIns)
  exact ⟨h1, h2, h.below h3, h3⟩
theorem FSt.frozen {w0 w : World} {i j : Ins} {b : Nat} {v : List Val} (h : FSt w0 w i j b v) (q : Nat) : w.frozen? ⟨w0.heap.size + 1, q, none⟩ = false := by simp [World.frozen?, h.hj]
abbrev setI (w : World) (p : Nat) (j : Ins) : World := (((((((((((((((w.setCell ⟨p, 0, none⟩ (.int .i64 j.kind)).setCell ⟨p, 1, none⟩ (.int .i64 j.op)).setCell ⟨p, 2, none⟩ (.int .i64 j.dst)).setCell ⟨p, 3, none⟩ (.int .i64 j.a)).setCell ⟨p, 4, none⟩ (.int .i64 j.b)).setCell ⟨p, 5, none⟩ (.int .i64 j.n)).setCell ⟨p, 6, none⟩ (.string (sb j.text))).setCell ⟨p, 7, none⟩ (.int .i64 j.x0)).setCell ⟨p, 8, none⟩ (.int .i64 j.x1)).setCell ⟨p, 9, none⟩ (.int .i64 j.x2)).setCell ⟨p, 10, none⟩ (.int .i64 j.x3)).setCell ⟨p, 11, none⟩ (.int .i64 j.x4)).setCell ⟨p, 12, none⟩ (.int .i64 j.x5)).setCell ⟨p, 13, none⟩ (.int .i64 j.dest)).setCell ⟨p, 14, none⟩ (.int .i64 j.els))
theorem setI_heap {w : World} {p : Nat} {j0 : Ins} (h : w.heap[p]? = some (inO j0)) (j : Ins) : (setI w p j).heap[p]? = some (inO j) := by
  have h1 := (cells_set (cells_set (cells_set (cells_set (cells_set (cells_set (cells_set (cells_set (cells_set (cells_set (cells_set (cells_set (cells_set (cells_set (cells_set h 0 (.int .i64 j.kind)) 1 (.int .i64 j.op)) 2 (.int .i64 j.dst)) 3 (.int .i64 j.a)) 4 (.int .i64 j.b)) 5 (.int .i64 j.n)) 6 (.string (sb j.text))) 7 (.int .i64 j.x0)) 8 (.int .i64 j.x1)) 9 (.int .i64 j.x2)) 10 (.int .i64 j.x3)) 11 (.int .i64 j.x4)) 12 (.int .i64 j.x5)) 13 (.int .i64 j.dest)) 14 (.int .i64 j.els))
  simpa using h1
theorem setI_below {B : Nat} {w0 w : World} {p : Nat} (h : Below B w0 w) (hp : B ≤ p) (j : Ins) : Below B w0 (setI w p j) := (((((((((((((((h.setCell hp _).setCell hp _).setCell hp _).setCell hp _).setCell hp _).setCell hp _).setCell hp _).setCell hp _).setCell hp _).setCell hp _).setCell hp _).setCell hp _).setCell hp _).setCell hp _).setCell hp _)
theorem setI_oth {w : World} {p k : Nat} (hk : k ≠ p) (j : Ins) : (setI w p j).heap[k]? = w.heap[k]? := by
  unfold setI
  simp only [heap_oth hk]
theorem fold_234 {i : Ins} {v : List Val} {x : Val} (hf : fullV v) (h : i.kind = 2 ∨ i.kind = 3 ∨ i.kind = 4) (hx : (behV i v).getD ⟨2, 0⟩ = x) : (x.kind = 1 → foldI i v = constI i.dst x.n ∧ foldIs i v = true) ∧ (x.kind ≠ 1 → foldI i v = i ∧ foldIs i v = false) := by
  have fa := fullV_any hf
  have e1 : foldI i v = match behV i v with | some x => if x.kind = 1 then constI i.dst x.n else i | none => i := by
    unfold foldI; rw [fa]; simp only [Bool.false_eq_true, if_false, h, if_true]; cases behV i v <;> rfl
  have e2 : foldIs i v = match behV i v with | some x => decide (x.kind = 1) | none => false := by
    unfold foldIs; rw [fa]; simp only [Bool.false_eq_true, if_false, h, if_true]; cases behV i v <;> rfl
  rw [e1, e2]
  cases hb : behV i v with
  | none =>
    rw [hb] at hx; subst hx
    exact ⟨fun h1 => absurd h1 (by decide), fun _ => ⟨rfl, rfl⟩⟩
  | some y =>
    rw [hb] at hx
    simp only [Option.getD_some] at hx
    subst hx
    exact ⟨fun h1 => by simp [h1], fun h1 => by simp [h1]⟩
theorem fold_12 {i : Ins} {v : List Val} {d : Int} {q : Bool} (hf : fullV v) (h : i.kind = 12) (hc : choV i v = (d, q)) : foldI i v = (if q = true then jumpI d else i) ∧ foldIs i v = q := by
  have fa := fullV_any hf
  have n2 : ¬ (i.kind = 2 ∨ i.kind = 3 ∨ i.kind = 4) := by omega
  unfold choV at hc
  unfold foldI foldIs
  rw [fa]
  simp only [Bool.false_eq_true, if_false, n2, h, true_and]
  by_cases hk : (v.getD i.a.toNat ⟨0, 0⟩).kind = 1
  · rw [if_pos hk] at hc
    injection hc with h1 h2
    rw [if_pos hk, ← h2, if_pos rfl, h1]
    exact ⟨rfl, by simpa using hk⟩
  · rw [if_neg hk] at hc
    injection hc with h1 h2
    rw [if_neg hk, ← h2, if_neg (by simp)]
    exact ⟨rfl, by simpa using hk⟩
theorem fold_other {i : Ins} {v : List Val} (h : ¬ (i.kind = 2 ∨ i.kind = 3 ∨ i.kind = 4)) (h12 : i.kind ≠ 12) : foldI i v = i ∧ foldIs i v = false := by
  unfold foldI foldIs
  simp only [h, h12, false_and, if_false]
  split <;> simp
theorem const_set {W : World} {p : Nat} (h : W.heap[p]? = some (inO (plainI 1))) (d n : Int) : ((W.setCell ⟨p, 2, none⟩ (.int .i64 d)).setCell ⟨p, 5, none⟩ (.int .i64 n)).heap[p]? = some (inO (constI d n)) := by
  have h1 := cells_set (cells_set h 2 (.int .i64 d)) 5 (.int .i64 n)
  simpa [plainI, constI] using h1
theorem jump_set {W : World} {p : Nat} (h : W.heap[p]? = some (inO (plainI 11))) (d : Int) : (W.setCell ⟨p, 13, none⟩ (.int .i64 d)).heap[p]? = some (inO (jumpI d)) := by
  have h1 := cells_set h 13 (.int .i64 d)
  simpa [plainI, jumpI] using h1
theorem FSt.put {w0 w : World} {i j : Ins} {b : Nat} {v : List Val} (h : FSt w0 w i j b v) {p : Nat} (hp : w0.heap.size + 2 ≤ p) (q : Nat) (u : Value) : FSt w0 (w.setCell ⟨p, q, none⟩ u) i j b v := by
  have hb : Below (w0.heap.size + 2) w (w.setCell ⟨p, q, none⟩ u) := (Below.refl _ _).setCell (by simpa using hp) u
  exact ⟨(hb.block _ (by omega)).trans h.hi, (hb.block _ (by omega)).trans h.hj, h.ls.below (hb.mono (by omega)), h.hb.trans (hb.mono (by omega))⟩
theorem FSt.drew {w0 w : World} {i j : Ins} {b : Nat} {v : List Val} (h : FSt w0 w i j b v) : FSt w0 w.drew i j b v := ⟨h.hi, h.hj, ⟨h.ls.1, h.ls.2.1, h.ls.2.2⟩, drW h.hb⟩
end Go.Proofs.Ytpajndeongcjbaa
