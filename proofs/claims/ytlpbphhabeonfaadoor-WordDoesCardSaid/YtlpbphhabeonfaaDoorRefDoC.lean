/-
  doppelref01's Do tells what word's Do tells: the walks.
-/
import Derived.Test.YtlpbphhabeonfaaDoorRefLem
import Derived.Deep.Light
namespace Go.Proofs.YtlpbphhabeonfaaDoor
open Go.RowKit (wrap32 wrap64 intOf)

set_option maxRecDepth 100000 in
set_option maxHeartbeats 1000000 in
theorem refDo_14 (x y : Int) (w : World) :
    Calls Tryd.prog 12 #[.int .i64 14, .int .i64 x, .int .i64 y] w fun e w' => e = .returned (.tuple #[.int .i64 (doV 14 x y), .bool true]) ∧ w = w' := by
  have hA := wrap32_bd x
  have hB := wrap32_bd y
  have hK := pw_pos (wrap32 y % 32).toNat
  have hK2 : pw (wrap32 y % 32).toNat ≤ 4294967296 := Int.le_trans (pw_le _ 32 (by omega)) (by decide +kernel)
  have hK0 : 1 ≤ pw 0 := pw_pos 0
  have hK1 : pw 0 ≤ 4294967296 := by decide +kernel
  go_enter Tryd.func12, Tryd.ntmps12
  go_wp2_with (first | ((with_reducible refine (refWrap_any _ _).mono ?_); rintro e w' ⟨rfl, rfl⟩) | ((with_reducible refine (refPlain_any _ _).mono ?_); rintro e w' ⟨rfl, rfl⟩) | ((with_reducible refine (refPower_int _ (by omega) _).mono ?_); rintro e w' ⟨rfl, rfl⟩) | ((with_reducible refine (refTruth_any _ _).mono ?_); rintro e w' ⟨rfl, rfl⟩) | ((with_reducible refine (refBits_any _ _ _ _ (by decide)).mono ?_); rintro e w' ⟨rfl, rfl⟩) | ((with_reducible refine (refDown_any _ _ _ hA (by assumption)).mono ?_); rintro e w' ⟨rfl, rfl⟩))
  all_goals
    go_ret2
    go_light
    refine ⟨ret2 ?_, rfl⟩
    first
      | exact lem_14 x y
      | (have L := lem_14 x y; have z : wrap64 0 = 0 := (by decide +kernel); simp_all)
set_option maxRecDepth 100000 in
set_option maxHeartbeats 1000000 in
theorem refDo_15 (x y : Int) (w : World) :
    Calls Tryd.prog 12 #[.int .i64 15, .int .i64 x, .int .i64 y] w fun e w' => e = .returned (.tuple #[.int .i64 (doV 15 x y), .bool true]) ∧ w = w' := by
  have hA := wrap32_bd x
  have hB := wrap32_bd y
  have hK := pw_pos (wrap32 y % 32).toNat
  have hK2 : pw (wrap32 y % 32).toNat ≤ 4294967296 := Int.le_trans (pw_le _ 32 (by omega)) (by decide +kernel)
  have hK0 : 1 ≤ pw 0 := pw_pos 0
  have hK1 : pw 0 ≤ 4294967296 := by decide +kernel
  go_enter Tryd.func12, Tryd.ntmps12
  go_wp2_with (first | ((with_reducible refine (refWrap_any _ _).mono ?_); rintro e w' ⟨rfl, rfl⟩) | ((with_reducible refine (refPlain_any _ _).mono ?_); rintro e w' ⟨rfl, rfl⟩) | ((with_reducible refine (refPower_int _ (by omega) _).mono ?_); rintro e w' ⟨rfl, rfl⟩) | ((with_reducible refine (refTruth_any _ _).mono ?_); rintro e w' ⟨rfl, rfl⟩) | ((with_reducible refine (refBits_any _ _ _ _ (by decide)).mono ?_); rintro e w' ⟨rfl, rfl⟩) | ((with_reducible refine (refDown_any _ _ _ hA (by assumption)).mono ?_); rintro e w' ⟨rfl, rfl⟩))
  all_goals
    go_ret2
    go_light
    refine ⟨ret2 ?_, rfl⟩
    first
      | exact lem_15 x y
      | (have L := lem_15 x y; have z : wrap64 0 = 0 := (by decide +kernel); simp_all)
set_option maxRecDepth 100000 in
set_option maxHeartbeats 1000000 in
theorem refDo_16 (x y : Int) (w : World) :
    Calls Tryd.prog 12 #[.int .i64 16, .int .i64 x, .int .i64 y] w fun e w' => e = .returned (.tuple #[.int .i64 (doV 16 x y), .bool true]) ∧ w = w' := by
  have hA := wrap32_bd x
  have hB := wrap32_bd y
  have hK := pw_pos (wrap32 y % 32).toNat
  have hK2 : pw (wrap32 y % 32).toNat ≤ 4294967296 := Int.le_trans (pw_le _ 32 (by omega)) (by decide +kernel)
  have hK0 : 1 ≤ pw 0 := pw_pos 0
  have hK1 : pw 0 ≤ 4294967296 := by decide +kernel
  go_enter Tryd.func12, Tryd.ntmps12
  go_wp2_with (first | ((with_reducible refine (refWrap_any _ _).mono ?_); rintro e w' ⟨rfl, rfl⟩) | ((with_reducible refine (refPlain_any _ _).mono ?_); rintro e w' ⟨rfl, rfl⟩) | ((with_reducible refine (refPower_int _ (by omega) _).mono ?_); rintro e w' ⟨rfl, rfl⟩) | ((with_reducible refine (refTruth_any _ _).mono ?_); rintro e w' ⟨rfl, rfl⟩) | ((with_reducible refine (refBits_any _ _ _ _ (by decide)).mono ?_); rintro e w' ⟨rfl, rfl⟩) | ((with_reducible refine (refDown_any _ _ _ hA (by assumption)).mono ?_); rintro e w' ⟨rfl, rfl⟩))
  all_goals
    go_ret2
    go_light
    refine ⟨ret2 ?_, rfl⟩
    first
      | exact lem_16 x y
      | (have L := lem_16 x y; have z : wrap64 0 = 0 := (by decide +kernel); simp_all)
set_option maxRecDepth 100000 in
set_option maxHeartbeats 1000000 in
theorem refDo_17 (x y : Int) (w : World) :
    Calls Tryd.prog 12 #[.int .i64 17, .int .i64 x, .int .i64 y] w fun e w' => e = .returned (.tuple #[.int .i64 (doV 17 x y), .bool true]) ∧ w = w' := by
  have hA := wrap32_bd x
  have hB := wrap32_bd y
  have hK := pw_pos (wrap32 y % 32).toNat
  have hK2 : pw (wrap32 y % 32).toNat ≤ 4294967296 := Int.le_trans (pw_le _ 32 (by omega)) (by decide +kernel)
  have hK0 : 1 ≤ pw 0 := pw_pos 0
  have hK1 : pw 0 ≤ 4294967296 := by decide +kernel
  go_enter Tryd.func12, Tryd.ntmps12
  go_wp2_with (first | ((with_reducible refine (refWrap_any _ _).mono ?_); rintro e w' ⟨rfl, rfl⟩) | ((with_reducible refine (refPlain_any _ _).mono ?_); rintro e w' ⟨rfl, rfl⟩) | ((with_reducible refine (refPower_int _ (by omega) _).mono ?_); rintro e w' ⟨rfl, rfl⟩) | ((with_reducible refine (refTruth_any _ _).mono ?_); rintro e w' ⟨rfl, rfl⟩) | ((with_reducible refine (refBits_any _ _ _ _ (by decide)).mono ?_); rintro e w' ⟨rfl, rfl⟩) | ((with_reducible refine (refDown_any _ _ _ hA (by assumption)).mono ?_); rintro e w' ⟨rfl, rfl⟩))
  all_goals
    go_ret2
    go_light
    refine ⟨ret2 ?_, rfl⟩
    first
      | exact lem_17 x y
      | (rw [doV_cmp _ _ _ (by omega), num_bd]; show _ = num (decide (wrap32 x ≤ wrap32 y)); congr 1; simp; omega)
      | (have L := lem_17 x y; simp_all)
set_option maxRecDepth 100000 in
set_option maxHeartbeats 1000000 in
theorem refDo_18 (x y : Int) (w : World) :
    Calls Tryd.prog 12 #[.int .i64 18, .int .i64 x, .int .i64 y] w fun e w' => e = .returned (.tuple #[.int .i64 (doV 18 x y), .bool true]) ∧ w = w' := by
  have hA := wrap32_bd x
  have hB := wrap32_bd y
  have hK := pw_pos (wrap32 y % 32).toNat
  have hK2 : pw (wrap32 y % 32).toNat ≤ 4294967296 := Int.le_trans (pw_le _ 32 (by omega)) (by decide +kernel)
  have hK0 : 1 ≤ pw 0 := pw_pos 0
  have hK1 : pw 0 ≤ 4294967296 := by decide +kernel
  go_enter Tryd.func12, Tryd.ntmps12
  go_wp2_with (first | ((with_reducible refine (refWrap_any _ _).mono ?_); rintro e w' ⟨rfl, rfl⟩) | ((with_reducible refine (refPlain_any _ _).mono ?_); rintro e w' ⟨rfl, rfl⟩) | ((with_reducible refine (refPower_int _ (by omega) _).mono ?_); rintro e w' ⟨rfl, rfl⟩) | ((with_reducible refine (refTruth_any _ _).mono ?_); rintro e w' ⟨rfl, rfl⟩) | ((with_reducible refine (refBits_any _ _ _ _ (by decide)).mono ?_); rintro e w' ⟨rfl, rfl⟩) | ((with_reducible refine (refDown_any _ _ _ hA (by assumption)).mono ?_); rintro e w' ⟨rfl, rfl⟩))
  all_goals
    go_ret2
    go_light
    refine ⟨ret2 ?_, rfl⟩
    first
      | exact lem_18 x y
      | (have L := lem_18 x y; have z : wrap64 0 = 0 := (by decide +kernel); simp_all)
end Go.Proofs.YtlpbphhabeonfaaDoor
