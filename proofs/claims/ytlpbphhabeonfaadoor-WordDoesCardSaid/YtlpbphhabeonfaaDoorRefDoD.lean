/-
  doppelref01's Do tells what word's Do tells: the walks.
-/
import Derived.Test.YtlpbphhabeonfaaDoorRefLem
import Derived.Deep.Light
namespace Go.Proofs.YtlpbphhabeonfaaDoor
open Go.RowKit (wrap32 wrap64 intOf)

set_option maxRecDepth 100000 in
set_option maxHeartbeats 1000000 in
theorem refDo_19 (x y : Int) (w : World) :
    Calls Tryd.prog 12 #[.int .i64 19, .int .i64 x, .int .i64 y] w fun e w' => e = .returned (.tuple #[.int .i64 (doV 19 x y), .bool true]) ∧ w = w' := by
  have hA := wrap32_bd x
  have hB := wrap32_bd y
  have hK := pw_pos (wrap32 y % 32).toNat
  have hK2 : pw (wrap32 y % 32).toNat ≤ 4294967296 := Int.le_trans (pw_le _ 32 (by omega)) (by decide +kernel)
  have hK0 : 1 ≤ pw 0 := pw_pos 0
  have hK1 : pw 0 ≤ 4294967296 := by decide +kernel
  go_enter Tryd.func12, Tryd.ntmps12
  go_wp2_with (first | ((with_reducible refine (refWrap_any _ _).mono ?_); rintro e w' ⟨rfl, rfl⟩) | ((with_reducible refine (refPlain_any _ _).mono ?_); rintro e w' ⟨rfl, rfl⟩) | ((with_reducible refine (refPower_int _ (by omega) _).mono ?_); rintro e w' ⟨rfl, rfl⟩) | ((with_reducible refine (refTruth_any _ _).mono ?_); rintro e w' ⟨rfl, rfl⟩) | ((with_reducible refine (refBits_any _ _ _ _ (by decide)).mono ?_); rintro e w' ⟨rfl, rfl⟩) | ((with_reducible refine (refDown_any _ _ _ hA (by assumption)).mono ?_); rintro e w' ⟨rfl, rfl⟩))
  all_goals
    go_ret2
    go_light
    refine ⟨ret2 ?_, rfl⟩
    first
      | exact lem_19 x y
      | (have L := lem_19 x y; have z : wrap64 0 = 0 := (by decide +kernel); simp_all)
set_option maxRecDepth 100000 in
set_option maxHeartbeats 1000000 in
theorem refDo_20 (x y : Int) (w : World) :
    Calls Tryd.prog 12 #[.int .i64 20, .int .i64 x, .int .i64 y] w fun e w' => e = .returned (.tuple #[.int .i64 (doV 20 x y), .bool true]) ∧ w = w' := by
  have hA := wrap32_bd x
  have hB := wrap32_bd y
  have hK := pw_pos (wrap32 y % 32).toNat
  have hK2 : pw (wrap32 y % 32).toNat ≤ 4294967296 := Int.le_trans (pw_le _ 32 (by omega)) (by decide +kernel)
  have hK0 : 1 ≤ pw 0 := pw_pos 0
  have hK1 : pw 0 ≤ 4294967296 := by decide +kernel
  go_enter Tryd.func12, Tryd.ntmps12
  go_wp2_with (first | ((with_reducible refine (refWrap_any _ _).mono ?_); rintro e w' ⟨rfl, rfl⟩) | ((with_reducible refine (refPlain_any _ _).mono ?_); rintro e w' ⟨rfl, rfl⟩) | ((with_reducible refine (refPower_int _ (by omega) _).mono ?_); rintro e w' ⟨rfl, rfl⟩) | ((with_reducible refine (refTruth_any _ _).mono ?_); rintro e w' ⟨rfl, rfl⟩) | ((with_reducible refine (refBits_any _ _ _ _ (by decide)).mono ?_); rintro e w' ⟨rfl, rfl⟩) | ((with_reducible refine (refDown_any _ _ _ hA (by assumption)).mono ?_); rintro e w' ⟨rfl, rfl⟩))
  all_goals
    go_ret2
    go_light
    refine ⟨ret2 ?_, rfl⟩
    first
      | exact lem_20 x y
      | (have L := lem_20 x y; have z : wrap64 0 = 0 := (by decide +kernel); simp_all)
set_option maxRecDepth 100000 in
set_option maxHeartbeats 1000000 in
theorem refDo_21 (x y : Int) (w : World) :
    Calls Tryd.prog 12 #[.int .i64 21, .int .i64 x, .int .i64 y] w fun e w' => e = .returned (.tuple #[.int .i64 (doV 21 x y), .bool true]) ∧ w = w' := by
  have hA := wrap32_bd x
  have hB := wrap32_bd y
  have hK := pw_pos (wrap32 y % 32).toNat
  have hK2 : pw (wrap32 y % 32).toNat ≤ 4294967296 := Int.le_trans (pw_le _ 32 (by omega)) (by decide +kernel)
  have hK0 : 1 ≤ pw 0 := pw_pos 0
  have hK1 : pw 0 ≤ 4294967296 := by decide +kernel
  go_enter Tryd.func12, Tryd.ntmps12
  go_wp2_with (first | ((with_reducible refine (refWrap_any _ _).mono ?_); rintro e w' ⟨rfl, rfl⟩) | ((with_reducible refine (refPlain_any _ _).mono ?_); rintro e w' ⟨rfl, rfl⟩) | ((with_reducible refine (refPower_int _ (by omega) _).mono ?_); rintro e w' ⟨rfl, rfl⟩) | ((with_reducible refine (refTruth_any _ _).mono ?_); rintro e w' ⟨rfl, rfl⟩) | ((with_reducible refine (refBits_any _ _ _ _ (by decide)).mono ?_); rintro e w' ⟨rfl, rfl⟩) | ((with_reducible refine (refDown_any _ _ _ hA (by assumption)).mono ?_); rintro e w' ⟨rfl, rfl⟩))
  all_goals
    go_ret2
    go_light
    refine ⟨ret2 ?_, rfl⟩
    first
      | exact lem_21 x y
      | (have L := lem_21 x y; have z : wrap64 0 = 0 := (by decide +kernel); simp_all)
set_option maxRecDepth 100000 in
set_option maxHeartbeats 1000000 in
theorem refDo_22 (x y : Int) (w : World) :
    Calls Tryd.prog 12 #[.int .i64 22, .int .i64 x, .int .i64 y] w fun e w' => e = .returned (.tuple #[.int .i64 (doV 22 x y), .bool true]) ∧ w = w' := by
  have hA := wrap32_bd x
  have hB := wrap32_bd y
  have hK := pw_pos (wrap32 y % 32).toNat
  have hK2 : pw (wrap32 y % 32).toNat ≤ 4294967296 := Int.le_trans (pw_le _ 32 (by omega)) (by decide +kernel)
  have hK0 : 1 ≤ pw 0 := pw_pos 0
  have hK1 : pw 0 ≤ 4294967296 := by decide +kernel
  go_enter Tryd.func12, Tryd.ntmps12
  go_wp2_with (first | ((with_reducible refine (refWrap_any _ _).mono ?_); rintro e w' ⟨rfl, rfl⟩) | ((with_reducible refine (refPlain_any _ _).mono ?_); rintro e w' ⟨rfl, rfl⟩) | ((with_reducible refine (refPower_int _ (by omega) _).mono ?_); rintro e w' ⟨rfl, rfl⟩) | ((with_reducible refine (refTruth_any _ _).mono ?_); rintro e w' ⟨rfl, rfl⟩) | ((with_reducible refine (refBits_any _ _ _ _ (by decide)).mono ?_); rintro e w' ⟨rfl, rfl⟩) | ((with_reducible refine (refDown_any _ _ _ hA (by assumption)).mono ?_); rintro e w' ⟨rfl, rfl⟩))
  all_goals
    go_ret2
    go_light
    refine ⟨ret2 ?_, rfl⟩
    first
      | exact lem_22 x y
      | (have L := lem_22 x y; have z : wrap64 0 = 0 := (by decide +kernel); simp_all)
set_option maxRecDepth 100000 in
set_option maxHeartbeats 1000000 in
theorem refDo_23 (x y : Int) (w : World) :
    Calls Tryd.prog 12 #[.int .i64 23, .int .i64 x, .int .i64 y] w fun e w' => e = .returned (.tuple #[.int .i64 (doV 23 x y), .bool true]) ∧ w = w' := by
  have hA := wrap32_bd x
  have hB := wrap32_bd y
  have hK := pw_pos (wrap32 y % 32).toNat
  have hK2 : pw (wrap32 y % 32).toNat ≤ 4294967296 := Int.le_trans (pw_le _ 32 (by omega)) (by decide +kernel)
  have hK0 : 1 ≤ pw 0 := pw_pos 0
  have hK1 : pw 0 ≤ 4294967296 := by decide +kernel
  go_enter Tryd.func12, Tryd.ntmps12
  go_wp2_with (first | ((with_reducible refine (refWrap_any _ _).mono ?_); rintro e w' ⟨rfl, rfl⟩) | ((with_reducible refine (refPlain_any _ _).mono ?_); rintro e w' ⟨rfl, rfl⟩) | ((with_reducible refine (refPower_int _ (by omega) _).mono ?_); rintro e w' ⟨rfl, rfl⟩) | ((with_reducible refine (refTruth_any _ _).mono ?_); rintro e w' ⟨rfl, rfl⟩) | ((with_reducible refine (refBits_any _ _ _ _ (by decide)).mono ?_); rintro e w' ⟨rfl, rfl⟩) | ((with_reducible refine (refDown_any _ _ _ hA (by assumption)).mono ?_); rintro e w' ⟨rfl, rfl⟩))
  all_goals
    go_ret2
    go_light
    refine ⟨ret2 ?_, rfl⟩
    first
      | exact lem_23 x y
      | (have L := lem_23 x y; have z : wrap64 0 = 0 := (by decide +kernel); simp_all)
end Go.Proofs.YtlpbphhabeonfaaDoor
