/-
  Contract of doppelref07's Next.
-/
import Derived.Test.YtpajndeongcjbaaR7Uses
namespace Go.Proofs.Ytpajndeongcjbaa
set_option maxRecDepth 100000
open Go.RowKit Cd
set_option linter.unusedVariables false
theorem list_one {w w' : World} {x : Int} {b : Nat} {o : Obj} (hb : b = w.heap.size + 1) (hw : w' = (w.alloc o).alloc (.cells #[.int .i64 x] 3)) : ListPost [x] w (.returned (.slice (some ⟨b, 0, none⟩) 1 1)) w' := by
  subst hb hw
  refine ⟨_, rfl, ⟨rfl, .inr ⟨_, 1, #[.int .i64 x], rfl, by omega, ?_, Nat.le_refl _, by unfold maxLen; omega, rfl, rfl⟩⟩, ((Below.refl _ _).alloc (Nat.le_refl _) _).alloc (by simp) _⟩
  have := heap_alloc_new (w.alloc o) (.cells #[.int .i64 x] 3)
  rw [World.size_alloc] at this
  exact this
theorem list_two {w w' : World} {x y : Int} {b : Nat} {o : Obj} (hb : b = w.heap.size + 1) (hw : w' = (w.alloc o).alloc (.cells #[.int .i64 x, .int .i64 y] 3)) : ListPost [x, y] w (.returned (.slice (some ⟨b, 0, none⟩) 2 2)) w' := by
  subst hb hw
  refine ⟨_, rfl, ⟨rfl, .inr ⟨_, 2, #[.int .i64 x, .int .i64 y], rfl, by omega, ?_, Nat.le_refl _, by unfold maxLen; omega, rfl, rfl⟩⟩, ((Below.refl _ _).alloc (Nat.le_refl _) _).alloc (by simp) _⟩
  have := heap_alloc_new (w.alloc o) (.cells #[.int .i64 x, .int .i64 y] 3)
  rw [World.size_alloc] at this
  exact this
theorem next_any (i : Ins) (p : Int) (hp : 0 ≤ p ∧ p ≤ 1000000) (w : World) : Calls Try.prog 37 #[inV i, .int .i64 p] w (ListPost (next i p) w) := by
  obtain ⟨hp0, hp1⟩ := hp
  by_cases h11 : i.kind = 11
  · have e : next i p = [i.dest] := if_pos h11
    rw [e]; clear e
    go_enter Try.func37, Try.ntmps37
    go_wp2
    go_ret
    exact list_one (by simp) rfl
  · by_cases h12 : i.kind = 12
    · have e : next i p = [i.dest, i.els] := by unfold next; rw [if_neg h11, if_pos h12]
      rw [e]; clear e h11
      go_enter Try.func37, Try.ntmps37
      go_wp2
      go_ret
      exact list_two (by simp) rfl
    · by_cases h13 : i.kind = 13
      · have e : next i p = [] := by unfold next; rw [if_neg h11, if_neg h12, if_pos h13]
        rw [e]; clear e h11 h12
        go_enter Try.func37, Try.ntmps37
        go_wp2
        go_ret
        exact list_nil ((Below.refl _ _).alloc (Nat.le_refl _) _)
      · have e : next i p = [p + 1] := by unfold next; rw [if_neg h11, if_neg h12, if_neg h13]
        rw [e]; clear e
        have g11 : ((i.kind : Int) == 11) = false := by simp; omega
        have g12 : ((i.kind : Int) == 12) = false := by simp; omega
        have g13 : ((i.kind : Int) == 13) = false := by simp; omega
        go_enter Try.func37, Try.ntmps37
        go_wp2
        go_ret
        exact list_one (by simp) rfl
end Go.Proofs.Ytpajndeongcjbaa
