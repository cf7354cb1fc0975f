/-
  Rows of numbers.
-/
import Derived.Test.YtgnpbodhjmappaaPNJ
set_option linter.unusedVariables false
set_option linter.unusedSimpArgs false
namespace Go.Proofs.Ytgnpbodhjmappaa
open Go.RowKit Cd
def IntsAt (w : World) (a : Option Addr) (l : List Int) : Prop := RowAt w w.heap.size a (l.map (Value.int .i64))
theorem IntsAt.below {w w' : World} {a : Option Addr} {l : List Int} (h : IntsAt w a l) (hb : Below w.heap.size w w') : IntsAt w' a l := RowAt.mono (RowAt.below h hb) hb.size (Nat.le_refl _)
theorem IntsAt.at {w : World} {a : Option Addr} {l : List Int} {k : Nat} {x : Int} (h : IntsAt w a l) (hk : l[k]? = some x) : ∃ b off, a = some ⟨b, off, none⟩ ∧ b < w.heap.size ∧ w.cell? ⟨b, off + k, none⟩ = some (.int .i64 x) := by
  have hlt := (List.getElem?_eq_some_iff.1 hk).1
  obtain ⟨b, off, ha, hb, _, hc⟩ := h (by rw [List.length_map]; omega)
  exact ⟨b, off, ha, hb, hc k _ (by rw [List.getElem?_map, hk]; rfl)⟩
theorem IntsAt.of_own {w : World} {B n c : Nat} {a : Option Addr} {l : List Int} (h : w.ownsRow B 3 1 (.slice a n c) n (l.map (Value.int .i64))) : IntsAt w a l := fun h0 => by
  rw [List.length_map] at h0
  obtain ⟨x, hx⟩ : ∃ x, l[0]? = some x := ⟨_, List.getElem?_eq_getElem h0⟩
  obtain ⟨g, rfl, _, hg, _⟩ := own_int h hx
  refine ⟨g, 0, rfl, hg, Nat.le_refl _, fun j u hu => ?_⟩
  rw [List.getElem?_map] at hu
  cases hj : l[j]? with
  | none => rw [hj] at hu; cases hu
  | some y =>
    rw [hj] at hu
    injection hu with hu
    obtain ⟨g', hg', _, _, hc⟩ := own_int h hj
    injection hg' with hg'
    injection hg' with hg' _ _
    subst hg' hu
    rw [Nat.zero_add]; exact hc
end Go.Proofs.Ytgnpbodhjmappaa
namespace Go.Proofs.Ytgnpbodhjmappaa
set_option maxRecDepth 100000
open Go.RowKit Cd
theorem list_one {w w' : World} {x : Int} {b : Nat} {o : Obj} (hb : b = w.heap.size + 1) (hw : w' = (w.alloc o).alloc (.cells #[.int .i64 x] 3)) : ListPost [x] w (.returned (.slice (some ⟨b, 0, none⟩) 1 1)) w' := by
  subst hb hw
  refine ⟨_, rfl, ⟨rfl, .inr ⟨_, 1, #[.int .i64 x], rfl, by omega, ?_, Nat.le_refl _, by unfold maxLen; omega, rfl, rfl⟩⟩, ((Below.refl _ _).alloc (Nat.le_refl _) _).alloc (by simp) _⟩
  have := heap_alloc_new (w.alloc o) (.cells #[.int .i64 x] 3)
  rw [World.size_alloc] at this
  exact this
theorem list_two {w w' : World} {x y : Int} {b : Nat} {o : Obj} (hb : b = w.heap.size + 1) (hw : w' = (w.alloc o).alloc (.cells #[.int .i64 x, .int .i64 y] 3)) : ListPost [x, y] w (.returned (.slice (some ⟨b, 0, none⟩) 2 2)) w' := by
  subst hb hw
  refine ⟨_, rfl, ⟨rfl, .inr ⟨_, 2, #[.int .i64 x, .int .i64 y], rfl, by omega, ?_, Nat.le_refl _, by unfold maxLen; omega, rfl, rfl⟩⟩, ((Below.refl _ _).alloc (Nat.le_refl _) _).alloc (by simp) _⟩
  have := heap_alloc_new (w.alloc o) (.cells #[.int .i64 x, .int .i64 y] 3)
  rw [World.size_alloc] at this
  exact this
end Go.Proofs.Ytgnpbodhjmappaa
