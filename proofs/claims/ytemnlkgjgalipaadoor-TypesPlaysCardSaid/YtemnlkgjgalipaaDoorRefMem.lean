/-
  The reference's table in memory: two slices, and a slice of fields for each struct that is defined.
-/
import Derived.Test.YtemnlkgjgalipaaDoorFieldsQ
import Derived.Lib.QuietBelow
namespace Go.Proofs.YtemnlkgjgalipaaDoor
open Go.RowKit Go.Maps Tp
set_option linter.unusedVariables false

abbrev Dl := List (List UInt8 × List Fl)
def tyCells (T : Tab) : List Value := T.flatMap fun e => [.int .i64 e.self.kind, .int .i64 e.self.elem, .int .i64 e.self.n, .string (bs e.self.name)]
def defCells (Y : List ((List UInt8 × List Fl) × Value)) : List Value := Y.flatMap fun y => [.string (bs y.1.1), y.2]
/-- F: the blocks that the table may lie in. -/
structure RefX (w : World) (F : Nat → Prop) (T : Tab) (Y : List ((List UInt8 × List Fl) × Value)) (la : Option Addr) (lc : Nat) (da : Option Addr) (dc : Nat) : Prop where
  rowL : w.ownsRow 0 41 4 (.slice la T.length lc) T.length (tyCells T)
  farL : ∀ g, (Value.slice la T.length lc).ownBlock = some g → F g
  rowD : w.ownsRow 0 92 2 (.slice da Y.length dc) Y.length (defCells Y)
  farD : ∀ g, (Value.slice da Y.length dc).ownBlock = some g → F g
  each : ∀ y ∈ Y, w.ownsRow 0 64 2 y.2 y.1.2.length (flCells y.1.2) ∧ ∀ g, y.2.ownBlock = some g → F g
theorem own_keep {w w' : World} {B size n : Nat} {e : TypeId} {v : Value} {xs : List Value} {F : Nat → Prop} (h : w.ownsRow B e size v n xs) (hf : ∀ g, v.ownBlock = some g → F g) (hk : ∀ g, g < w.heap.size → F g → w'.heap[g]? = w.heap[g]?) : w'.ownsRow B e size v n xs := by
  obtain ⟨h1, h2⟩ := h
  refine ⟨h1, ?_⟩
  rcases h2 with h2 | ⟨g, cap, cur, rfl, hg, hh, r⟩
  · exact .inl h2
  · exact .inr ⟨g, cap, cur, rfl, hg, (hk g (Array.getElem?_eq_some_iff.1 hh).1 (hf g rfl)).trans hh, r⟩
theorem RefX.keep {w w' : World} {F : Nat → Prop} {T : Tab} {Y : List ((List UInt8 × List Fl) × Value)} {la da : Option Addr} {lc dc : Nat} (h : RefX w F T Y la lc da dc) (hk : ∀ g, g < w.heap.size → F g → w'.heap[g]? = w.heap[g]?) : RefX w' F T Y la lc da dc :=
  ⟨own_keep h.rowL h.farL hk, h.farL, own_keep h.rowD h.farD hk, h.farD, fun y hy => ⟨own_keep (h.each y hy).1 (h.each y hy).2 hk, (h.each y hy).2⟩⟩
theorem RefX.below {w w' : World} {F : Nat → Prop} {T : Tab} {Y : List ((List UInt8 × List Fl) × Value)} {la da : Option Addr} {lc dc : Nat} (h : RefX w F T Y la lc da dc) (hb : Below w.heap.size w w') : RefX w' F T Y la lc da dc :=
  h.keep (fun g hg _ => hb.block g hg)
/-- The blocks of a table are there already: so what may be may be turned. -/
theorem RefX.far {w : World} {F F' : Nat → Prop} {T : Tab} {Y : List ((List UInt8 × List Fl) × Value)} {la da : Option Addr} {lc dc : Nat} (h : RefX w F T Y la lc da dc) (hf : ∀ g, g < w.heap.size → F g → F' g) : RefX w F' T Y la lc da dc :=
  ⟨h.rowL, fun g hg => hf g (h.rowL.lt g hg).2 (h.farL g hg), h.rowD, fun g hg => hf g (h.rowD.lt g hg).2 (h.farD g hg), fun y hy => ⟨(h.each y hy).1, fun g hg => hf g ((h.each y hy).1.lt g hg).2 ((h.each y hy).2 g hg)⟩⟩
theorem tyCells_at : ∀ (T : Tab) (i j : Nat) (e : En), T[i]? = some e → j < 4 → (tyCells T)[i * 4 + j]? = [Value.int .i64 e.self.kind, .int .i64 e.self.elem, .int .i64 e.self.n, .string (bs e.self.name)][j]?
  | [], i, j, t, h, _ => by simp at h
  | a :: ts, 0, j, t, h, hj => by
    simp at h; subst h
    simp only [tyCells, List.flatMap_cons, Nat.zero_mul, Nat.zero_add]
    rw [List.getElem?_append_left (by simpa using hj)]
  | a :: ts, i + 1, j, t, h, hj => by
    simp at h
    have ih := tyCells_at ts i j t h hj
    simp only [tyCells, List.flatMap_cons] at ih ⊢
    rw [List.getElem?_append_right (by simp; omega), show (i + 1) * 4 + j - [Value.int .i64 a.self.kind, .int .i64 a.self.elem, .int .i64 a.self.n, .string (bs a.self.name)].length = i * 4 + j by simp; omega]
    exact ih
theorem add_off (g j : Nat) : (⟨g, 0, none⟩ : Addr).add j = ⟨g, j, none⟩ := by unfold Addr.add; split <;> simp_all
theorem ty_at {w : World} {F : Nat → Prop} {T : Tab} {Y : List ((List UInt8 × List Fl) × Value)} {g lc : Nat} {da : Option Addr} {dc : Nat} (h : RefX w F T Y (some ⟨g, 0, none⟩) lc da dc) {i : Nat} {e : En} (hi : T[i]? = some e) :
    w.cell? ⟨g, i * 4, none⟩ = some (.int .i64 e.self.kind) ∧ w.cell? ⟨g, i * 4 + 1, none⟩ = some (.int .i64 e.self.elem) ∧ w.cell? ⟨g, i * 4 + 2, none⟩ = some (.int .i64 e.self.n) ∧ w.cell? ⟨g, i * 4 + 3, none⟩ = some (.string (bs e.self.name)) := by
  have hc := h.rowL.cells (g := g) rfl
  have c : ∀ j, j < 4 → ∀ u, [Value.int .i64 e.self.kind, .int .i64 e.self.elem, .int .i64 e.self.n, .string (bs e.self.name)][j]? = some u → w.cell? ⟨g, i * 4 + j, none⟩ = some u := fun j hj u hu => by
    have := hc (i * 4 + j) u (by rw [tyCells_at T i j e hi hj]; exact hu)
    rwa [add_off] at this
  exact ⟨c 0 (by omega) _ rfl, c 1 (by omega) _ rfl, c 2 (by omega) _ rfl, c 3 (by omega) _ rfl⟩
theorem defCells_at : ∀ (Y : List ((List UInt8 × List Fl) × Value)) (i j : Nat) (y : (List UInt8 × List Fl) × Value), Y[i]? = some y → j < 2 → (defCells Y)[i * 2 + j]? = [Value.string (bs y.1.1), y.2][j]?
  | [], i, j, t, h, _ => by simp at h
  | a :: ts, 0, j, t, h, hj => by
    simp at h; subst h
    simp only [defCells, List.flatMap_cons, Nat.zero_mul, Nat.zero_add]
    rw [List.getElem?_append_left (by simpa using hj)]
  | a :: ts, i + 1, j, t, h, hj => by
    simp at h
    have ih := defCells_at ts i j t h hj
    simp only [defCells, List.flatMap_cons] at ih ⊢
    rw [List.getElem?_append_right (by simp; omega), show (i + 1) * 2 + j - [Value.string (bs a.1.1), a.2].length = i * 2 + j by simp; omega]
    exact ih
theorem def_at {w : World} {F : Nat → Prop} {T : Tab} {Y : List ((List UInt8 × List Fl) × Value)} {g dc : Nat} {la : Option Addr} {lc : Nat} (h : RefX w F T Y la lc (some ⟨g, 0, none⟩) dc) {i : Nat} {y : (List UInt8 × List Fl) × Value} (hi : Y[i]? = some y) :
    w.cell? ⟨g, i * 2, none⟩ = some (.string (bs y.1.1)) ∧ w.cell? ⟨g, i * 2 + 1, none⟩ = some y.2 := by
  have hc := h.rowD.cells (g := g) rfl
  have c : ∀ j, j < 2 → ∀ u, [Value.string (bs y.1.1), y.2][j]? = some u → w.cell? ⟨g, i * 2 + j, none⟩ = some u := fun j hj u hu => by
    have := hc (i * 2 + j) u (by rw [defCells_at Y i j y hi hj]; exact hu)
    rwa [add_off] at this
  exact ⟨c 0 (by omega) _ rfl, c 1 (by omega) _ rfl⟩
def refV (la : Option Addr) (ln lc : Nat) (da : Option Addr) (dn dc : Nat) : Value := .agg #[.slice la ln lc, .slice da dn dc]
theorem own_built {w : World} {e : TypeId} {cs : Array Value} {xs : List Value} {n size : Nat} (hc : cs.toList = xs) (hl : xs.length = n * size) (hn : n ≤ 100000) : (w.alloc (.cells cs e)).ownsRow 0 e size (.slice (some ⟨w.heap.size, 0, none⟩) n n) n xs := by
  refine ⟨hl, .inr ⟨w.heap.size, n, cs, rfl, Nat.zero_le _, heap_alloc_new w _, Nat.le_refl _, by unfold maxLen; omega, ?_, ?_⟩⟩
  · rw [← Array.length_toList, hc, hl]
  · rw [hc, ← hl, List.take_length]
theorem r_new (w : World) : Calls Tryd.prog 12 #[] w fun e w' => ∃ g, e = .returned (refV (some ⟨g, 0, none⟩) 4 4 none 0 0) ∧ w.heap.size ≤ g ∧ RefX w' (fun g => w.heap.size ≤ g) newT [] (some ⟨g, 0, none⟩) 4 none 0 ∧ Below w.heap.size w w' := by
  go_enter Tryd.func12, Tryd.ntmps12
  go_wp2
  have ho := own_built (w := w.alloc (.cells #[.slice (some ⟨w.heap.size + 1, 0, none⟩) 4 4, .slice none 0 0] 30)) (e := 41) (cs := #[.int .i64 0, .int .i64 0, .int .i64 0, .string ⟨#[]⟩, .int .i64 1, .int .i64 0, .int .i64 0, .string ⟨#[]⟩, .int .i64 2, .int .i64 0, .int .i64 0, .string ⟨#[]⟩, .int .i64 3, .int .i64 0, .int .i64 0, .string ⟨#[]⟩]) (xs := tyCells newT) (n := 4) (size := 4) rfl rfl (by omega)
  rw [show (w.alloc (.cells #[.slice (some ⟨w.heap.size + 1, 0, none⟩) 4 4, .slice none 0 0] 30)).heap.size = w.heap.size + 1 by simp] at ho
  exact bodyPost_ret (v := refV (some ⟨w.heap.size + 1, 0, none⟩) 4 4 none 0 0) (by simp [results, Tryd.results12, go_sem]; rfl) rfl
    ⟨w.heap.size + 1, rfl, by omega, ⟨ho, fun g hg => by injection hg with hg; have hg : w.heap.size + 1 = g := hg; omega, World.ownsRow_nil _ _ _ _, by simp [Value.ownBlock], fun y hy => by cases hy⟩, ((Below.refl _ _).alloc (Nat.le_refl _) _).alloc (by simp) _⟩
end Go.Proofs.YtemnlkgjgalipaaDoor
