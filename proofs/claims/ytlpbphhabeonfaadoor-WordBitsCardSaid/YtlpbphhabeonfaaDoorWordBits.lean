/-
  The walk of WordBits.
-/
import Derived.Test.YtlpbphhabeonfaaDoorLaid
import Derived.Test.YtlpbphhabeonfaaDoorFacts
import Derived.LoopN
import Derived.Laws.EntriesVeiled
import Derived.Deep.QuietTactic
import Derived.BigQuiet
namespace Go.Proofs.YtlpbphhabeonfaaDoor.wordBits
open Go.RowKit
theorem do1 (op x y : Int) (w : World) :
    Calls Tryd.prog 25 #[.int .i64 op, .int .i64 x, .int .i64 y] w fun e w' => e = .returned (.int .i64 (doV op x y)) ∧ w = w' := by
  go_enter Tryd.func25, Tryd.ntmps25
  go_wp2_with ((with_reducible refine (do_any _ _ _ _).mono ?_); rintro e w' ⟨rfl, rfl⟩)
  go_ret
  exact ⟨rfl, rfl⟩
theorem not1 (x : Int) (a : Addr) (w : World) (hf : w.cell? a = some (.func (.func 25) #[] #[])) :
    Calls Tryd.prog 26 #[.int .i64 x, .pointer (some a)] w fun e w' => e = .returned (.int .i64 (doV 21 x 0)) ∧ w = w' := by
  go_enter Tryd.func26, Tryd.ntmps26
  go_wp2_with ((with_reducible refine (do1 _ _ _ _).mono ?_); rintro e w' ⟨rfl, rfl⟩)
  go_ret
  exact ⟨rfl, rfl⟩
set_option maxHeartbeats 4000000 in
theorem walk (a0 : Int) (_w0 : (Lit.int .i64 a0).wf = true) (a1 : Int) (_w1 : (Lit.int .i64 a1).wf = true) (w : World) (hL : laidMetH Tryd.prog seatLaid w) :
    Calls Tryd.prog 9 #[.int .i64 a0, .int .i64 a1] w fun e w' => e = .returned (.bool true) ∧ Grown w w' := by
  have hc := shru_at hL
  have e1 : (doV 21 (doV 8 a0 a1) 0 == doV 9 (doV 21 a0 0) (doV 21 a1 0)) = true := by rw [beq_iff_eq]; exact wbits1 a0 a1
  have e2 : (doV 10 a0 a0 == 0) = true := by rw [beq_iff_eq]; exact wbits2 a0
  have e3 : (doV 8 a0 a0 == wrap32 a0) = true := by rw [beq_iff_eq]; exact wbits3 a0
  have e4 : (doV 9 a0 a0 == wrap32 a0) = true := by rw [beq_iff_eq]; exact wbits4 a0
  have e5 : (doV 21 (doV 21 a0 0) 0 == wrap32 a0) = true := by rw [beq_iff_eq]; exact wbits5 a0
  have e6 : (doV 10 (doV 10 a0 a1) a1 == wrap32 a0) = true := by rw [beq_iff_eq]; exact wbits6 a0 a1
  clear hL _w0 _w1
  go_enter Tryd.func9, Tryd.ntmps9
  go_wp2_with ((with_reducible refine (wrap_any _ _).mono ?_); rintro e w' ⟨rfl, rfl⟩)
  go_quiet ((first | (go_at_call 25; exact Calls.quiet_of_same ((do1 _ _ _ _).mono fun _ _ h => ⟨h.1, h.2.symm⟩)) | (go_at_call 26; exact Calls.quiet_of_same ((not1 _ _ _ (by go_cell)).mono fun _ _ h => ⟨h.1, h.2.symm⟩)) | (go_at_call 14; exact Calls.quiet_of_same ((awake_any _ (by first | exact cell_alloc hc _ | (simp only [go_sem]; exact cell_alloc hc _))).mono fun _ _ h => ⟨h.1, h.2.symm⟩))))
  go_wp2
  go_ret
  exact ⟨rfl, by repeat (first | exact Grown.refl _ | apply Grown.drew | apply Grown.alloc)⟩
end Go.Proofs.YtlpbphhabeonfaaDoor.wordBits
