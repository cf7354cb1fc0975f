/-
  The walk of WordTwice.
-/
import Derived.Test.YtlpbphhabeonfaaDoorLaid
import Derived.Test.YtlpbphhabeonfaaDoorFacts
import Derived.LoopN
namespace Go.Proofs.YtlpbphhabeonfaaDoor.wordTwice
open Go.RowKit
theorem do1 (op x y : Int) (w : World) :
    Calls Tryd.prog 27 #[.int .i64 op, .int .i64 x, .int .i64 y] w fun e w' => e = .returned (.int .i64 (doV op x y)) ∧ w = w' := by
  go_enter Tryd.func27, Tryd.ntmps27
  go_wp2_with ((with_reducible refine (do_any _ _ _ _).mono ?_); rintro e w' ⟨rfl, rfl⟩)
  go_ret
  exact ⟨rfl, rfl⟩
set_option maxHeartbeats 4000000 in
theorem walk (a0 : Int) (_w0 : (Lit.int .i64 a0).wf = true) (w : World) (hL : laidMetH Tryd.prog seatLaid w) :
    Calls Tryd.prog 10 #[.int .i64 a0] w fun e w' => e = .returned (.bool true) ∧ Grown w w' := by
  have hc := shru_at hL
  have e1 : (doV 11 a0 1 == doV 1 a0 a0) = true := by rw [beq_iff_eq]; exact twice1 a0
  have e2 : (doV 20 a0 0 == doV 1 (doV 21 a0 0) 1) = true := by rw [beq_iff_eq]; exact twice2 a0
  have e3 : (doV 22 a0 0 == doV 7 a0 256) = true := by rw [beq_iff_eq]; exact twice3 a0
  have e4 : (doV 23 a0 0 == doV 14 a0 0) = true := by rw [beq_iff_eq]; exact twice4 a0
  have e5 : (doV 3 a0 65536 == doV 11 a0 16) = true := by rw [beq_iff_eq]; exact twice5 a0
  clear hL _w0
  go_enter Tryd.func10, Tryd.ntmps10
  go_wp2_with (first | ((with_reducible refine (do1 _ _ _ _).mono ?_); rintro e w' ⟨rfl, rfl⟩) | ((with_reducible refine (awake_any _ hc).mono ?_); rintro e w' ⟨rfl, rfl⟩))
  go_ret
  exact ⟨rfl, Grown.refl _⟩
end Go.Proofs.YtlpbphhabeonfaaDoor.wordTwice
