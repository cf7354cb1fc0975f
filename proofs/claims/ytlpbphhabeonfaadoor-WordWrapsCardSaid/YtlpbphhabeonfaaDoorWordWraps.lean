/-
  The walk of WordWraps.
-/
import Derived.Test.YtlpbphhabeonfaaDoorLaid
import Derived.Test.YtlpbphhabeonfaaDoorFacts
import Derived.LoopN
import Derived.Test.YtlpbphhabeonfaaDoorRef
namespace Go.Proofs.YtlpbphhabeonfaaDoor.wordWraps
open Go.RowKit
set_option maxHeartbeats 1000000 in
theorem walk (a0 : Int) (_w0 : (Lit.int .i64 a0).wf = true) (w : World) (hL : laidMetH Tryd.prog seatLaid w) :
    Calls Tryd.prog 4 #[.int .i64 a0] w fun e w' => e = .returned (.bool true) ∧ Grown w w' := by
  have hc := shru_at hL
  have hw := wrap32_bd a0
  have hcase : (wrap32 a0 = a0 ∧ -2147483648 ≤ a0 ∧ a0 < 2147483648) ∨ (wrap32 a0 ≠ a0 ∧ a0 < -2147483648) ∨ (wrap32 a0 ≠ a0 ∧ 2147483648 ≤ a0) := by
    unfold wrap32; omega
  clear hL _w0
  rcases hcase with ⟨h1, h2, h3⟩ | ⟨h1, h2⟩ | ⟨h1, h2⟩
  · have e1 : (wrap32 a0 == a0) = true := by rw [beq_iff_eq]; exact h1
    have d1 : decide (-2147483648 ≤ a0) = true := by simp; omega
    have d2 : decide (a0 < 2147483648) = true := by simp; omega
    clear h1 hw
    go_enter Tryd.func4, Tryd.ntmps4
    go_wp2_with (first | ((with_reducible refine (wrap_any _ _).mono ?_); rintro e w' ⟨rfl, rfl⟩) | ((with_reducible refine (refWrap_any _ _).mono ?_); rintro e w' ⟨rfl, rfl⟩) | ((with_reducible refine (plain_any _ _).mono ?_); rintro e w' ⟨rfl, rfl⟩) | ((with_reducible refine (refPlain_any _ _).mono ?_); rintro e w' ⟨rfl, rfl⟩) | ((with_reducible refine (is_any _ _).mono ?_); rintro e w' ⟨rfl, rfl⟩) | ((with_reducible refine (awake_any _ hc).mono ?_); rintro e w' ⟨rfl, rfl⟩))
    go_ret
    exact ⟨rfl, Grown.refl _⟩
  · have e1 : (wrap32 a0 == a0) = false := by rw [beq_eq_false_iff_ne]; exact h1
    have d1 : decide (-2147483648 ≤ a0) = false := by simp; omega
    clear h1 hw
    go_enter Tryd.func4, Tryd.ntmps4
    go_wp2_with (first | ((with_reducible refine (wrap_any _ _).mono ?_); rintro e w' ⟨rfl, rfl⟩) | ((with_reducible refine (refWrap_any _ _).mono ?_); rintro e w' ⟨rfl, rfl⟩) | ((with_reducible refine (plain_any _ _).mono ?_); rintro e w' ⟨rfl, rfl⟩) | ((with_reducible refine (refPlain_any _ _).mono ?_); rintro e w' ⟨rfl, rfl⟩) | ((with_reducible refine (is_any _ _).mono ?_); rintro e w' ⟨rfl, rfl⟩) | ((with_reducible refine (awake_any _ hc).mono ?_); rintro e w' ⟨rfl, rfl⟩))
    go_ret
    exact ⟨rfl, Grown.refl _⟩
  · have e1 : (wrap32 a0 == a0) = false := by rw [beq_eq_false_iff_ne]; exact h1
    have d1 : decide (-2147483648 ≤ a0) = true := by simp; omega
    have d2 : decide (a0 < 2147483648) = false := by simp; omega
    clear h1 hw
    go_enter Tryd.func4, Tryd.ntmps4
    go_wp2_with (first | ((with_reducible refine (wrap_any _ _).mono ?_); rintro e w' ⟨rfl, rfl⟩) | ((with_reducible refine (refWrap_any _ _).mono ?_); rintro e w' ⟨rfl, rfl⟩) | ((with_reducible refine (plain_any _ _).mono ?_); rintro e w' ⟨rfl, rfl⟩) | ((with_reducible refine (refPlain_any _ _).mono ?_); rintro e w' ⟨rfl, rfl⟩) | ((with_reducible refine (is_any _ _).mono ?_); rintro e w' ⟨rfl, rfl⟩) | ((with_reducible refine (awake_any _ hc).mono ?_); rintro e w' ⟨rfl, rfl⟩))
    go_ret
    exact ⟨rfl, Grown.refl _⟩
end Go.Proofs.YtlpbphhabeonfaaDoor.wordWraps
