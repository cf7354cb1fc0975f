/-
  The walk of WordOrders.
-/
import Derived.Test.YtlpbphhabeonfaaDoorLaid
import Derived.Test.YtlpbphhabeonfaaDoorFacts
import Derived.LoopN
namespace Go.Proofs.YtlpbphhabeonfaaDoor.wordOrders
open Go.RowKit
set_option maxHeartbeats 4000000 in
theorem walk (a0 : Int) (_w0 : (Lit.int .i64 a0).wf = true) (a1 : Int) (_w1 : (Lit.int .i64 a1).wf = true) (w : World) (hL : laidMetH Tryd.prog seatLaid w) :
    Calls Tryd.prog 7 #[.int .i64 a0, .int .i64 a1] w fun e w' => e = .returned (.bool true) ∧ Grown w w' := by
  have hc := shru_at hL
  have b1 := doV_bd 16 a0 a1
  have b2 := doV_bd 16 a1 a0
  have b3 := doV_bd 14 a0 a1
  have e1 : (doV 16 a0 a1 + doV 16 a1 a0 + doV 14 a0 a1 == 1) = true := by rw [beq_iff_eq]; exact orders1 a0 a1
  have e2 : (doV 17 a0 a1 == 1 - doV 16 a1 a0) = true := by rw [beq_iff_eq]; exact orders2 a0 a1
  have e3 : (doV 18 a0 a1 == doV 16 (doV 1 a0 (-2147483648)) (doV 1 a1 (-2147483648))) = true := by rw [beq_iff_eq]; exact orders3 a0 a1
  clear hL _w0 _w1
  go_enter Tryd.func7, Tryd.ntmps7
  go_wp2_with (first | ((with_reducible refine (do_any _ _ _ _).mono ?_); rintro e w' ⟨rfl, rfl⟩) | ((with_reducible refine (awake_any _ hc).mono ?_); rintro e w' ⟨rfl, rfl⟩))
  go_ret
  exact ⟨rfl, Grown.refl _⟩
end Go.Proofs.YtlpbphhabeonfaaDoor.wordOrders
