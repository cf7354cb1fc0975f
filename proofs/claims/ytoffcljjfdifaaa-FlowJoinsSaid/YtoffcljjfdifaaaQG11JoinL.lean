/-
  Layer 11: the laws of joining; a value among the arguments opened.
-/
import Derived.Test.YtoffcljjfdifaaaQG11Mem
import Derived.Test.YtoffcljjfdifaaaQLN
namespace Go.Proofs.Ytoffcljjfdifaaa
set_option maxRecDepth 100000
open Go.RowKit Go.ChangeShapes Go.WideShapes Go.Deep Cd
set_option linter.unusedVariables false
set_option linter.unusedSimpArgs false

/-- A value that the law lets through. -/
def Cd.OkP (a : Val) : Prop := a = ⟨0, 0⟩ ∨ a = ⟨2, 0⟩ ∨ ∃ n, a = ⟨1, n⟩
theorem jp_comm {a b : Val} (ha : OkP a) (hb : OkP b) : joinP b a = joinP a b := by
  rcases ha with rfl | rfl | ⟨n, rfl⟩ <;> rcases hb with rfl | rfl | ⟨m, rfl⟩ <;> simp [joinP, plainV]
  by_cases h : n = m
  · subst h; simp
  · simp [h, Ne.symm h]
theorem jp_same {a : Val} (ha : OkP a) : joinP a a = a := by
  rcases ha with rfl | rfl | ⟨n, rfl⟩ <;> simp [joinP, plainV]
theorem jp_never {a : Val} (ha : OkP a) : joinP a ⟨0, 0⟩ = a := by
  rcases ha with rfl | rfl | ⟨n, rfl⟩ <;> simp [joinP, plainV]
theorem jp_assoc {a b c : Val} (ha : OkP a) (hb : OkP b) (hc : OkP c) : joinP a (joinP b c) = joinP (joinP a b) c := by
  rcases ha with rfl | rfl | ⟨n, rfl⟩ <;> rcases hb with rfl | rfl | ⟨m, rfl⟩ <;> rcases hc with rfl | rfl | ⟨k, rfl⟩ <;> simp [joinP, plainV] <;>
    first
      | done
      | (by_cases h : n = m <;> by_cases h2 : m = k <;> simp_all)
      | (by_cases h : n = m <;> simp_all)
      | (by_cases h : m = k <;> simp_all)
      | (by_cases h : n = k <;> simp_all)
theorem jp_any {a b : Val} (ha : OkP a) (hb : OkP b) (h : a ≠ b) (h1 : a.kind ≠ 0) (h2 : b.kind ≠ 0) : joinP a b = ⟨2, 0⟩ := by
  rcases ha with rfl | rfl | ⟨n, rfl⟩ <;> rcases hb with rfl | rfl | ⟨m, rfl⟩ <;> simp_all [joinP, plainV]
theorem jp_okP {a b : Val} (ha : OkP a) (hb : OkP b) : OkP (joinP a b) := by
  rcases ha with rfl | rfl | ⟨n, rfl⟩ <;> rcases hb with rfl | rfl | ⟨m, rfl⟩ <;> simp [joinP, plainV, OkP]
  by_cases h : n = m
  · subst h; simp
  · simp [h]
theorem okP_of {x : Val} (h0 : ¬ x.kind < 0) (h2 : ¬ 2 < x.kind) (hn : x.kind ≠ 1 → x.n = 0) : OkP x := by
  obtain ⟨k, n⟩ := x
  have h0' : ¬ k < 0 := h0
  have h2' : ¬ 2 < k := h2
  rcases (by omega : k = 0 ∨ k = 1 ∨ k = 2) with rfl | rfl | rfl
  · have := hn (show (0 : Int) ≠ 1 by decide); exact .inl (by simpa using this)
  · exact .inr (.inr ⟨n, rfl⟩)
  · have := hn (show (2 : Int) ≠ 1 by decide); exact .inr (.inl (by simpa using this))
section
variable {H : Type} {enc : TypeId × Value → H} {w : World} {base : Nat} {spare : Nat → Bool} {held : Bool}
theorem open_vl {fuel : Nat} {cs : List Value} {x : DataW H × List MemPlace} (h : DataW.trod enc Try.prog w base spare held fuel 58 cs = some x) : ∃ v : Val, cs = vlCells v := by
  obtain ⟨ys, n, _, _, hl, hyl, hf⟩ := DataW.trod_struct Try.underlying58 h
  have hC : Try.prog.cellsOf 58 = 2 := by kernel_rfl
  have hc3 : Try.prog.cellsOf 3 = 1 := by kernel_rfl
  rw [hC] at hl
  have hy : ∀ j, j < 2 → ∃ y, ys[j]? = some y := fun j hj => ⟨_, List.getElem?_eq_getElem (by rw [hyl]; exact hj)⟩
  match cs, hl with
  | [c0, c1], _ =>
    have h0 := hf 0 _ rfl
    simp [hc3] at h0
    have h1 := hf 1 _ rfl
    simp [hc3] at h1
    obtain ⟨z0, rfl⟩ := one_int Try.underlying3 h0 (hy 0 (by omega))
    obtain ⟨z1, rfl⟩ := one_int Try.underlying3 h1 (hy 1 (by omega))
    exact ⟨⟨z0, z1⟩, rfl⟩
end
end Go.Proofs.Ytoffcljjfdifaaa
