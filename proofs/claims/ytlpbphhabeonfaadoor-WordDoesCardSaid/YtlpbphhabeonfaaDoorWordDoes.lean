/-
  The walk of WordDoes.
-/
import Derived.Test.YtlpbphhabeonfaaDoorLaid
import Derived.Test.YtlpbphhabeonfaaDoorFacts
import Derived.LoopN
import Derived.Test.YtlpbphhabeonfaaDoorRefAll
namespace Go.Proofs.YtlpbphhabeonfaaDoor.wordDoes
open Go.RowKit
theorem grown_drewN {W w' : World} (h : Grown W w') (n : Nat) : Grown W (w'.drewN n) := h
set_option maxHeartbeats 1000000 in
theorem walk (a0 : Int) (_w0 : (Lit.int .i64 a0).wf = true) (a1 : Int) (_w1 : (Lit.int .i64 a1).wf = true) (a2 : Int) (_w2 : (Lit.int .i64 a2).wf = true) (w : World) (hL : laidMetH Tryd.prog seatLaid w) :
    Calls Tryd.prog 3 #[.int .i64 a0, .int .i64 a1, .int .i64 a2] w fun e w' => e = .returned (.bool true) ∧ Grown w w' := by
  have hc := shru_at hL
  have e1 : (wrap32 (doV a0 a1 a2) == doV a0 a1 a2) = true := by rw [beq_iff_eq]; exact doV_word _ _ _
  clear hL _w0 _w1 _w2
  go_enter Tryd.func3, Tryd.ntmps3
  go_wp2_with (first | ((with_reducible refine (do_any _ _ _ _).mono ?_); rintro e w' ⟨rfl, rfl⟩) | ((with_reducible refine (refDo_any _ _ _ _).mono ?_); rintro e w' ⟨rfl, n, rfl⟩) | ((with_reducible refine (is_any _ _).mono ?_); rintro e w' ⟨rfl, rfl⟩) | ((with_reducible refine (awake_any _ (by simpa using hc)).mono ?_); rintro e w' ⟨rfl, rfl⟩))
  go_ret
  exact ⟨rfl, grown_drewN (Grown.refl _) _⟩
end Go.Proofs.YtlpbphhabeonfaaDoor.wordDoes
