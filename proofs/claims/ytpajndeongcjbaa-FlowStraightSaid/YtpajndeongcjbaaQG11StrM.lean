/-
  FlowStraight's boxes in memory: the function, the registers, the row of instructions.
-/
import Derived.Test.YtpajndeongcjbaaQLQ
import Derived.Test.YtpajndeongcjbaaQLH
import Derived.Deep.AppendLies
namespace Go.Proofs.Ytpajndeongcjbaa
set_option maxRecDepth 100000
open Go.RowKit Cd
set_option linter.unusedVariables false
set_option linter.unusedSimpArgs false

abbrev qfB (v : Value) : Obj := .cells #[.string ⟨#[102]⟩, .int .i64 0, .int .i64 10, .int .i64 0, v] 24
structure QSt (w0 w : World) (is : List Ins) (rs : List Int) (v : Value) : Prop where
  fb : w.heap[w0.heap.size]? = some (qfB v)
  rb : VRow w (w0.heap.size + 1) 58 (ints rs)
  rl : rs.length = 10
  own : w.ownsRow (w0.heap.size + 2) 35 15 v is.length (is.flatMap inCells)
  hb : Below w0.heap.size w0 w
section
variable {w0 w w2 w3 : World} {is : List Ins} {rs : List Int} {v : Value}
theorem QSt.lt (h : QSt w0 w is rs v) : w0.heap.size + 2 ≤ w.heap.size := lt_heap h.rb
theorem QSt.first (W : World) : QSt W ((W.alloc (qfB (.slice none 0 0))).alloc (.cells #[.int .i64 0, .int .i64 0, .int .i64 0, .int .i64 0, .int .i64 0, .int .i64 0, .int .i64 0, .int .i64 0, .int .i64 0, .int .i64 0] 58)) [] (List.replicate 10 0) (.slice none 0 0) := by
  have e2 := heap_alloc_new (W.alloc (qfB (.slice none 0 0))) (.cells #[.int .i64 0, .int .i64 0, .int .i64 0, .int .i64 0, .int .i64 0, .int .i64 0, .int .i64 0, .int .i64 0, .int .i64 0, .int .i64 0] 58)
  simp only [World.size_alloc] at e2
  exact ⟨(Below.heap_alloc _ _ _ (by simp)).trans (heap_alloc_new W _), e2, by simp, ⟨rfl, .inl ⟨rfl, rfl⟩⟩, ((Below.refl W.heap.size W).alloc (Nat.le_refl _) _).alloc (by simp) _⟩
theorem QSt.below (h : QSt w0 w is rs v) (hb : Below w.heap.size w w2) : QSt w0 w2 is rs v := by
  have := h.lt
  exact ⟨(hb.block _ (by omega)).trans h.fb, h.rb.keep (hb.block _ (by omega)), h.rl, own_keep h.own (fun g hg => hb.block g (h.own.lt g hg).2), h.hb.trans (hb.mono (by omega))⟩
theorem QSt.put (h : QSt w0 w is rs v) {p : Nat} (hp : w0.heap.size + 2 ≤ p) (hv : v.ownBlock ≠ some p) (j : Nat) (u : Value) : QSt w0 (w.setCell ⟨p, j, none⟩ u) is rs v := by
  have ho : ∀ g, g ≠ p → (w.setCell ⟨p, j, none⟩ u).heap[g]? = w.heap[g]? := fun g hg => Below.heap_setCell _ _ _ _ (by simpa using hg)
  exact ⟨(ho _ (by omega)).trans h.fb, h.rb.keep (ho _ (by omega)), h.rl, own_keep h.own (fun g hg => ho g (fun e => hv (e ▸ hg))), h.hb.setCell (by simp <;> omega) _⟩
theorem QSt.reg (h : QSt w0 w is rs v) (k : Nat) (n : Int) : QSt w0 (w.setCell ⟨w0.heap.size + 1, k, none⟩ (.int .i64 n)) is (rs.set k n) v := by
  have ho : ∀ g, g ≠ w0.heap.size + 1 → (w.setCell ⟨w0.heap.size + 1, k, none⟩ (.int .i64 n)).heap[g]? = w.heap[g]? := fun g hg => Below.heap_setCell _ _ _ _ (by simpa using hg)
  refine ⟨(ho _ (by omega)).trans h.fb, ?_, by rw [List.length_set]; exact h.rl, own_keep h.own (fun g hg => ho g (by have := (h.own.lt g hg).1; omega)), h.hb.setCell (by simp <;> omega) _⟩
  have := h.rb.set k (.int .i64 n)
  have e : (ints rs).set k (.int .i64 n) = ints (rs.set k n) := by simp [ints, List.map_set]
  rw [e] at this
  exact this
theorem QSt.cell (h : QSt w0 w is rs v) {k : Nat} {x : Int} (hk : rs[k]? = some x) : w.cell? ⟨w0.heap.size + 1, k, none⟩ = some (.int .i64 x) := VRow.cell h.rb (by simp [ints, hk])
theorem QSt.frozen (h : QSt w0 w is rs v) (k : Nat) : w.frozen? ⟨w0.heap.size + 1, k, none⟩ = false := VRow.frozen h.rb k
theorem QSt.push (h : QSt w0 w2 is rs v) (i : Ins) {n g cap : Nat} (hn : n = is.length + 1) (hown : w3.ownsRow (w0.heap.size + 2) 35 15 (.slice (some ⟨g, 0, none⟩) n cap) n (is.flatMap inCells ++ inCells i)) (hgr : w2.grownBy w3 v.ownBlock) :
    QSt w0 (w3.setCell ⟨w0.heap.size, 4, none⟩ (.slice (some ⟨g, 0, none⟩) n cap)) (is ++ [i]) rs (.slice (some ⟨g, 0, none⟩) n cap) := by
  subst hn
  have hl := h.lt
  have hvo : ∀ q, v.ownBlock = some q → w0.heap.size + 2 ≤ q ∧ q < w2.heap.size := fun q hq => h.own.lt q hq
  have key : ∀ b, b < w0.heap.size + 2 → w3.heap[b]? = w2.heap[b]? := fun b hb => hgr.block b (by omega) (fun e => by have := (hvo b e.symm).1; omega)
  have ho : ∀ q, q ≠ w0.heap.size → (w3.setCell ⟨w0.heap.size, 4, none⟩ (.slice (some ⟨g, 0, none⟩) (is.length + 1) cap)).heap[q]? = w3.heap[q]? := fun q hq => Below.heap_setCell _ _ _ _ (by simpa using hq)
  refine ⟨?_, h.rb.keep ((ho _ (by omega)).trans (key _ (by omega))), h.rl, ?_, (h.hb.grown hgr (by omega) (fun q hq => by have := (hvo q hq).1; omega)).setCell (by simp <;> omega) _⟩
  · have := cells_set ((key _ (by omega)).trans h.fb) 4 (.slice (some ⟨g, 0, none⟩) (is.length + 1) cap)
    simpa using this
  · rw [List.flatMap_append, List.flatMap_cons, List.flatMap_nil, List.append_nil, List.length_append]
    exact own_keep hown (fun q hq => ho q (by have := (hown.lt q hq).1; omega))
theorem QSt.fb3 (h : QSt w0 w2 is rs v) (hgr : w2.grownBy w3 v.ownBlock) : w3.heap[w0.heap.size]? = some (qfB v) :=
  (hgr.block _ (by have := h.lt; omega) (fun e => by have := (h.own.lt _ e.symm).1; omega)).trans h.fb
end
abbrev Cd.cQ (d n : Int) : Ins := ⟨1, 0, d, 0, 0, n, [], 0, 0, 0, 0, 0, 0, 0, -1⟩
abbrev Cd.bQ (op d a b : Int) : Ins := ⟨3, op, d, a, b, 0, [], 0, 0, 0, 0, 0, 0, 0, -1⟩
theorem cQ_set {W : World} {p : Nat} (h : W.heap[p]? = some (inO (plainI 1))) (d n : Int) : ((W.setCell ⟨p, 2, none⟩ (.int .i64 d)).setCell ⟨p, 5, none⟩ (.int .i64 n)).heap[p]? = some (inO (cQ d n)) := by
  have h1 := cells_set (cells_set h 2 (.int .i64 d)) 5 (.int .i64 n)
  simpa [plainI] using h1
theorem bQ_set {W : World} {p : Nat} (h : W.heap[p]? = some (inO (plainI 3))) (op d a b : Int) : ((((W.setCell ⟨p, 1, none⟩ (.int .i64 op)).setCell ⟨p, 2, none⟩ (.int .i64 d)).setCell ⟨p, 3, none⟩ (.int .i64 a)).setCell ⟨p, 4, none⟩ (.int .i64 b)).heap[p]? = some (inO (bQ op d a b)) := by
  have h1 := cells_set (cells_set (cells_set (cells_set h 1 (.int .i64 op)) 2 (.int .i64 d)) 3 (.int .i64 a)) 4 (.int .i64 b)
  simpa [plainI] using h1
theorem heap_othQ {w : World} {b j k : Nat} {u : Value} (h : k ≠ b) : (w.setCell ⟨b, j, none⟩ u).heap[k]? = w.heap[k]? := Below.heap_setCell _ _ _ _ (by simpa using h)
theorem nvQ4 {w : World} {b : Nat} {x0 x1 x2 x3 : Value} {t : TypeId} (h : w.heap[b]? = some (.cells #[x0, x1, x2, x3] t (0, 0))) : w.cell? ⟨b, 0, none⟩ = some x0 ∧ w.cell? ⟨b, 1, none⟩ = some x1 ∧ w.cell? ⟨b, 2, none⟩ = some x2 ∧ w.cell? ⟨b, 3, none⟩ = some x3 := by
  refine ⟨?_, ?_, ?_, ?_⟩ <;> rw [cell_of_row w b _ _ _ _ h] <;> rfl
theorem infoQ_parts {e : TypeId} {z : Value} {size bytes : Nat} (h : (Try.prog.info? e).map (fun i => (i.zero, i.size, i.bytes)) = some (some z, size, bytes)) : ∃ i, Try.prog.info? e = some i ∧ i.zero = some z ∧ i.size = size ∧ i.bytes = bytes := by
  cases hi : Try.prog.info? e with
  | none => rw [hi] at h; simp at h
  | some i =>
    rw [hi] at h
    simp only [Option.map_some, Option.some.injEq, Prod.mk.injEq] at h
    exact ⟨i, rfl, h.1, h.2.1, h.2.2⟩
theorem own_rowQ {w : World} {lo n c sz : Nat} {a : Option Addr} {t : TypeId} {cs : List Value} (h : w.ownsRow lo t sz (.slice a n c) n cs) : RowAt w w.heap.size a cs := fun h0 => by
  have hlen := h.1
  rcases h.2 with ⟨_, h5⟩ | ⟨g, cap, cur, h4, h5, h6, h7, h8, h9, h10⟩
  · rw [h5] at hlen; simp at hlen; rw [hlen] at h0; simp at h0
  · injection h4 with h4 _ _
    refine ⟨g, 0, h4, lt_heap h6, Nat.le_refl _, fun j u hu => ?_⟩
    rw [Nat.zero_add, cell_of_row w g _ _ _ _ h6]
    rw [← h10] at hu
    have hj := (List.getElem?_eq_some_iff.1 hu).1
    rw [List.length_take] at hj
    rw [List.getElem?_take_of_lt (by omega)] at hu
    simpa using hu
end Go.Proofs.Ytpajndeongcjbaa
