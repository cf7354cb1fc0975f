/-
  The walk of WordShifts.
-/
import Derived.Test.YtlpbphhabeonfaaDoorLaid
import Derived.Test.YtlpbphhabeonfaaDoorFacts
import Derived.LoopN
namespace Go.Proofs.YtlpbphhabeonfaaDoor.wordShifts
open Go.RowKit
set_option maxHeartbeats 4000000 in
theorem walk (a0 : Int) (_w0 : (Lit.int .i64 a0).wf = true) (a1 : Int) (_w1 : (Lit.int .i64 a1).wf = true) (w : World) (hL : laidMetH Tryd.prog seatLaid w) :
    Calls Tryd.prog 8 #[.int .i64 a0, .int .i64 a1] w fun e w' => e = .returned (.bool true) ∧ Grown w w' := by
  have hc := shru_at hL
  have hk : 0 ≤ a1 % 32 ∧ a1 % 32 ≤ 31 := by omega
  have e31 := bits_and31 a1
  have e1 : (doV 11 a0 (a1 % 32) == doV 11 a0 (a1 % 32 + 32)) = true := by rw [beq_iff_eq]; exact shifts1 a0 (a1 % 32) hk
  have e2 : (doV 13 (doV 11 a0 (a1 % 32)) (a1 % 32) == doV 8 a0 (doV 13 (-1) (a1 % 32))) = true := by rw [beq_iff_eq]; exact shifts2 a0 (a1 % 32)
  clear hk
  clear hL _w0 _w1
  go_enter Tryd.func8, Tryd.ntmps8
  go_wp2_with (first | ((with_reducible refine (do_any _ _ _ _).mono ?_); rintro e w' ⟨rfl, rfl⟩) | ((with_reducible refine (awake_any _ hc).mono ?_); rintro e w' ⟨rfl, rfl⟩))
  go_ret
  exact ⟨rfl, Grown.refl _⟩
end Go.Proofs.YtlpbphhabeonfaaDoor.wordShifts
