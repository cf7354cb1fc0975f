/-
  The walk of WordLaws.
-/
import Derived.Test.YtlpbphhabeonfaaDoorLaid
import Derived.Test.YtlpbphhabeonfaaDoorFacts
import Derived.LoopN
namespace Go.Proofs.YtlpbphhabeonfaaDoor.wordLaws
open Go.RowKit
set_option maxHeartbeats 4000000 in
theorem walk0 (a0 a1 : Int) (w : World) (hc : w.cell? ⟨0, 13, none⟩ = some (.string shruS)) (hb : wrap32 a1 = 0) :
    Calls Tryd.prog 6 #[.int .i64 a0, .int .i64 a1] w fun e w' => e = .returned (.bool true) ∧ Grown w w' := by
  have e1 : (doV 1 a0 a1 != doV 1 a1 a0) = false := by rw [bne_eq_false_iff_eq]; exact laws1 a0 a1
  have e2 : (doV 3 a0 a1 != doV 3 a1 a0) = false := by rw [bne_eq_false_iff_eq]; exact laws2 a0 a1
  have e3 : (doV 8 a0 a1 != doV 8 a1 a0) = false := by rw [bne_eq_false_iff_eq]; exact laws3 a0 a1
  have e4 : (doV 9 a0 a1 != doV 9 a1 a0) = false := by rw [bne_eq_false_iff_eq]; exact laws4 a0 a1
  have e5 : (doV 10 a0 a1 != doV 10 a1 a0) = false := by rw [bne_eq_false_iff_eq]; exact laws5 a0 a1
  have e6 : (doV 14 a0 a1 != doV 14 a1 a0) = false := by rw [bne_eq_false_iff_eq]; exact laws6 a0 a1
  have e7 : (doV 15 a0 a1 != doV 15 a1 a0) = false := by rw [bne_eq_false_iff_eq]; exact laws7 a0 a1
  have e8 : (doV 1 (doV 2 a0 a1) a1 != wrap32 a0) = false := by rw [bne_eq_false_iff_eq]; exact laws8 a0 a1
  have b4 : doB 4 a1 = false := by unfold doB; simp [hb]
  have b5 : doB 5 a1 = false := by unfold doB; simp [hb]
  have b6 : doB 6 a1 = false := by unfold doB; simp [hb]
  have b7 : doB 7 a1 = false := by unfold doB; simp [hb]
  have hz : (wrap32 a1 != 0) = false := by simp [hb]
  clear hb
  go_enter Tryd.func6, Tryd.ntmps6
  go_wp2_with (first | ((with_reducible refine (do_any _ _ _ _).mono ?_); rintro e w' ⟨rfl, rfl⟩) | ((with_reducible refine (wrap_any _ _).mono ?_); rintro e w' ⟨rfl, rfl⟩))
  refine wp_loop_rounds 8 ?_
  iterate 8 (any_goals (rw [rounds_succ]; go_wp2_with (first | ((with_reducible refine (do_any _ _ _ _).mono ?_); rintro e w' ⟨rfl, rfl⟩) | ((with_reducible refine (wrap_any _ _).mono ?_); rintro e w' ⟨rfl, rfl⟩))))
  refine wp_loop_rounds 3 ?_
  iterate 3 (any_goals (rw [rounds_succ]; go_wp2_with (first | ((with_reducible refine (do_any _ _ _ _).mono ?_); rintro e w' ⟨rfl, rfl⟩) | ((with_reducible refine (wrap_any _ _).mono ?_); rintro e w' ⟨rfl, rfl⟩) | ((with_reducible refine (awake_any _ (cell_alloc (cell_alloc hc _) _)).mono ?_); rintro e w' ⟨rfl, rfl⟩))))
  go_ret
  exact ⟨rfl, by repeat (first | exact Grown.refl _ | apply Grown.drew | apply Grown.alloc)⟩
set_option maxHeartbeats 4000000 in
theorem walk1 (a0 a1 : Int) (w : World) (hc : w.cell? ⟨0, 13, none⟩ = some (.string shruS)) (hb : wrap32 a1 ≠ 0) :
    Calls Tryd.prog 6 #[.int .i64 a0, .int .i64 a1] w fun e w' => e = .returned (.bool true) ∧ Grown w w' := by
  have e1 : (doV 1 a0 a1 != doV 1 a1 a0) = false := by rw [bne_eq_false_iff_eq]; exact laws1 a0 a1
  have e2 : (doV 3 a0 a1 != doV 3 a1 a0) = false := by rw [bne_eq_false_iff_eq]; exact laws2 a0 a1
  have e3 : (doV 8 a0 a1 != doV 8 a1 a0) = false := by rw [bne_eq_false_iff_eq]; exact laws3 a0 a1
  have e4 : (doV 9 a0 a1 != doV 9 a1 a0) = false := by rw [bne_eq_false_iff_eq]; exact laws4 a0 a1
  have e5 : (doV 10 a0 a1 != doV 10 a1 a0) = false := by rw [bne_eq_false_iff_eq]; exact laws5 a0 a1
  have e6 : (doV 14 a0 a1 != doV 14 a1 a0) = false := by rw [bne_eq_false_iff_eq]; exact laws6 a0 a1
  have e7 : (doV 15 a0 a1 != doV 15 a1 a0) = false := by rw [bne_eq_false_iff_eq]; exact laws7 a0 a1
  have e8 : (doV 1 (doV 2 a0 a1) a1 != wrap32 a0) = false := by rw [bne_eq_false_iff_eq]; exact laws8 a0 a1
  have b4 : doB 4 a1 = true := by unfold doB; simp [hb]
  have b5 : doB 5 a1 = true := by unfold doB; simp [hb]
  have b6 : doB 6 a1 = true := by unfold doB; simp [hb]
  have b7 : doB 7 a1 = true := by unfold doB; simp [hb]
  have hz : (wrap32 a1 != 0) = true := by simp [hb]
  have e9 : (doV 1 (doV 3 (doV 4 a0 a1) a1) (doV 5 a0 a1) != wrap32 a0) = false := by rw [bne_eq_false_iff_eq]; exact laws9 a0 a1 hb
  have e10 : (doV 1 (doV 3 (doV 6 a0 a1) a1) (doV 7 a0 a1) != wrap32 a0) = false := by rw [bne_eq_false_iff_eq]; exact laws10 a0 a1 hb
  clear hb
  go_enter Tryd.func6, Tryd.ntmps6
  go_wp2_with (first | ((with_reducible refine (do_any _ _ _ _).mono ?_); rintro e w' ⟨rfl, rfl⟩) | ((with_reducible refine (wrap_any _ _).mono ?_); rintro e w' ⟨rfl, rfl⟩))
  refine wp_loop_rounds 8 ?_
  iterate 8 (any_goals (rw [rounds_succ]; go_wp2_with (first | ((with_reducible refine (do_any _ _ _ _).mono ?_); rintro e w' ⟨rfl, rfl⟩) | ((with_reducible refine (wrap_any _ _).mono ?_); rintro e w' ⟨rfl, rfl⟩))))
  refine wp_loop_rounds 3 ?_
  iterate 3 (any_goals (rw [rounds_succ]; go_wp2_with (first | ((with_reducible refine (do_any _ _ _ _).mono ?_); rintro e w' ⟨rfl, rfl⟩) | ((with_reducible refine (wrap_any _ _).mono ?_); rintro e w' ⟨rfl, rfl⟩) | ((with_reducible refine (awake_any _ (cell_alloc (cell_alloc hc _) _)).mono ?_); rintro e w' ⟨rfl, rfl⟩))))
  go_ret
  exact ⟨rfl, by repeat (first | exact Grown.refl _ | apply Grown.drew | apply Grown.alloc)⟩
theorem walk (a0 : Int) (_w0 : (Lit.int .i64 a0).wf = true) (a1 : Int) (_w1 : (Lit.int .i64 a1).wf = true) (w : World) (hL : laidMetH Tryd.prog seatLaid w) :
    Calls Tryd.prog 6 #[.int .i64 a0, .int .i64 a1] w fun e w' => e = .returned (.bool true) ∧ Grown w w' := by
  by_cases hb : wrap32 a1 = 0
  · exact walk0 a0 a1 w (shru_at hL) hb
  · exact walk1 a0 a1 w (shru_at hL) hb
end Go.Proofs.YtlpbphhabeonfaaDoor.wordLaws
