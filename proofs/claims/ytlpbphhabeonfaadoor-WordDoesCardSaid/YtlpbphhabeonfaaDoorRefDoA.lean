/-
  doppelref01's Do tells what word's Do tells: the walks.
-/
import Derived.Test.YtlpbphhabeonfaaDoorRefLem
import Derived.Deep.Light
namespace Go.Proofs.YtlpbphhabeonfaaDoor
open Go.RowKit (wrap32 wrap64 intOf)

set_option maxRecDepth 100000 in
set_option maxHeartbeats 1000000 in
theorem refDo_1 (x y : Int) (w : World) :
    Calls Tryd.prog 12 #[.int .i64 1, .int .i64 x, .int .i64 y] w fun e w' => e = .returned (.tuple #[.int .i64 (doV 1 x y), .bool true]) ∧ w = w' := by
  have hA := wrap32_bd x
  have hB := wrap32_bd y
  have hK := pw_pos (wrap32 y % 32).toNat
  have hK2 : pw (wrap32 y % 32).toNat ≤ 4294967296 := Int.le_trans (pw_le _ 32 (by omega)) (by decide +kernel)
  have hK0 : 1 ≤ pw 0 := pw_pos 0
  have hK1 : pw 0 ≤ 4294967296 := by decide +kernel
  go_enter Tryd.func12, Tryd.ntmps12
  go_wp2_with (first | ((with_reducible refine (refWrap_any _ _).mono ?_); rintro e w' ⟨rfl, rfl⟩) | ((with_reducible refine (refPlain_any _ _).mono ?_); rintro e w' ⟨rfl, rfl⟩) | ((with_reducible refine (refPower_int _ (by omega) _).mono ?_); rintro e w' ⟨rfl, rfl⟩) | ((with_reducible refine (refTruth_any _ _).mono ?_); rintro e w' ⟨rfl, rfl⟩) | ((with_reducible refine (refBits_any _ _ _ _ (by decide)).mono ?_); rintro e w' ⟨rfl, rfl⟩) | ((with_reducible refine (refDown_any _ _ _ hA (by assumption)).mono ?_); rintro e w' ⟨rfl, rfl⟩))
  all_goals
    go_ret2
    go_light
    refine ⟨ret2 ?_, rfl⟩
    first
      | exact lem_1 x y
      | (have L := lem_1 x y; have z : wrap64 0 = 0 := (by decide +kernel); simp_all)
set_option maxRecDepth 100000 in
set_option maxHeartbeats 1000000 in
theorem refDo_2 (x y : Int) (w : World) :
    Calls Tryd.prog 12 #[.int .i64 2, .int .i64 x, .int .i64 y] w fun e w' => e = .returned (.tuple #[.int .i64 (doV 2 x y), .bool true]) ∧ w = w' := by
  have hA := wrap32_bd x
  have hB := wrap32_bd y
  have hK := pw_pos (wrap32 y % 32).toNat
  have hK2 : pw (wrap32 y % 32).toNat ≤ 4294967296 := Int.le_trans (pw_le _ 32 (by omega)) (by decide +kernel)
  have hK0 : 1 ≤ pw 0 := pw_pos 0
  have hK1 : pw 0 ≤ 4294967296 := by decide +kernel
  go_enter Tryd.func12, Tryd.ntmps12
  go_wp2_with (first | ((with_reducible refine (refWrap_any _ _).mono ?_); rintro e w' ⟨rfl, rfl⟩) | ((with_reducible refine (refPlain_any _ _).mono ?_); rintro e w' ⟨rfl, rfl⟩) | ((with_reducible refine (refPower_int _ (by omega) _).mono ?_); rintro e w' ⟨rfl, rfl⟩) | ((with_reducible refine (refTruth_any _ _).mono ?_); rintro e w' ⟨rfl, rfl⟩) | ((with_reducible refine (refBits_any _ _ _ _ (by decide)).mono ?_); rintro e w' ⟨rfl, rfl⟩) | ((with_reducible refine (refDown_any _ _ _ hA (by assumption)).mono ?_); rintro e w' ⟨rfl, rfl⟩))
  all_goals
    go_ret2
    go_light
    refine ⟨ret2 ?_, rfl⟩
    first
      | exact lem_2 x y
      | (have L := lem_2 x y; have z : wrap64 0 = 0 := (by decide +kernel); simp_all)
set_option maxRecDepth 100000 in
set_option maxHeartbeats 1000000 in
theorem refDo_3 (x y : Int) (w : World) :
    Calls Tryd.prog 12 #[.int .i64 3, .int .i64 x, .int .i64 y] w fun e w' => e = .returned (.tuple #[.int .i64 (doV 3 x y), .bool true]) ∧ w = w' := by
  have hA := wrap32_bd x
  have hB := wrap32_bd y
  have hK := pw_pos (wrap32 y % 32).toNat
  have hK2 : pw (wrap32 y % 32).toNat ≤ 4294967296 := Int.le_trans (pw_le _ 32 (by omega)) (by decide +kernel)
  have hK0 : 1 ≤ pw 0 := pw_pos 0
  have hK1 : pw 0 ≤ 4294967296 := by decide +kernel
  go_enter Tryd.func12, Tryd.ntmps12
  go_wp2_with (first | ((with_reducible refine (refWrap_any _ _).mono ?_); rintro e w' ⟨rfl, rfl⟩) | ((with_reducible refine (refPlain_any _ _).mono ?_); rintro e w' ⟨rfl, rfl⟩) | ((with_reducible refine (refPower_int _ (by omega) _).mono ?_); rintro e w' ⟨rfl, rfl⟩) | ((with_reducible refine (refTruth_any _ _).mono ?_); rintro e w' ⟨rfl, rfl⟩) | ((with_reducible refine (refBits_any _ _ _ _ (by decide)).mono ?_); rintro e w' ⟨rfl, rfl⟩) | ((with_reducible refine (refDown_any _ _ _ hA (by assumption)).mono ?_); rintro e w' ⟨rfl, rfl⟩))
  all_goals
    go_ret2
    go_light
    refine ⟨ret2 ?_, rfl⟩
    first
      | exact lem_3 x y
      | (have L := lem_3 x y; have z : wrap64 0 = 0 := (by decide +kernel); simp_all)
set_option maxRecDepth 100000 in
set_option maxHeartbeats 1000000 in
theorem refDo_4z (x y : Int) (w : World) (hb : wrap32 y = 0) :
    Calls Tryd.prog 12 #[.int .i64 4, .int .i64 x, .int .i64 y] w fun e w' => e = .returned (.tuple #[.int .i64 0, .bool false]) ∧ w = w' := by
  have hA := wrap32_bd x
  have hB := wrap32_bd y
  have hK := pw_pos (wrap32 y % 32).toNat
  have hK2 : pw (wrap32 y % 32).toNat ≤ 4294967296 := Int.le_trans (pw_le _ 32 (by omega)) (by decide +kernel)
  have hK0 : 1 ≤ pw 0 := pw_pos 0
  have hK1 : pw 0 ≤ 4294967296 := by decide +kernel
  have hb0 : (wrap32 y == 0) = true := by simp [hb]
  go_enter Tryd.func12, Tryd.ntmps12
  go_wp2_with (first | ((with_reducible refine (refWrap_any _ _).mono ?_); rintro e w' ⟨rfl, rfl⟩) | ((with_reducible refine (refPlain_any _ _).mono ?_); rintro e w' ⟨rfl, rfl⟩) | ((with_reducible refine (refPower_int _ (by omega) _).mono ?_); rintro e w' ⟨rfl, rfl⟩) | ((with_reducible refine (refTruth_any _ _).mono ?_); rintro e w' ⟨rfl, rfl⟩) | ((with_reducible refine (refBits_any _ _ _ _ (by decide)).mono ?_); rintro e w' ⟨rfl, rfl⟩) | ((with_reducible refine (refDown_any _ _ _ hA (by assumption)).mono ?_); rintro e w' ⟨rfl, rfl⟩))
  go_ret2
  exact ⟨rfl, rfl⟩
set_option maxRecDepth 100000 in
set_option maxHeartbeats 1000000 in
theorem refDo_4 (x y : Int) (w : World) (hb : ¬ wrap32 y = 0) :
    Calls Tryd.prog 12 #[.int .i64 4, .int .i64 x, .int .i64 y] w fun e w' => e = .returned (.tuple #[.int .i64 (doV 4 x y), .bool true]) ∧ w = w' := by
  have hA := wrap32_bd x
  have hB := wrap32_bd y
  have hK := pw_pos (wrap32 y % 32).toNat
  have hK2 : pw (wrap32 y % 32).toNat ≤ 4294967296 := Int.le_trans (pw_le _ 32 (by omega)) (by decide +kernel)
  have hK0 : 1 ≤ pw 0 := pw_pos 0
  have hK1 : pw 0 ≤ 4294967296 := by decide +kernel
  have hb0 : (wrap32 y == 0) = false := by simp [hb]
  have hq0 : ¬ wrap32 y % 4294967296 = 0 := by omega
  go_enter Tryd.func12, Tryd.ntmps12
  go_wp2_with (first | ((with_reducible refine (refWrap_any _ _).mono ?_); rintro e w' ⟨rfl, rfl⟩) | ((with_reducible refine (refPlain_any _ _).mono ?_); rintro e w' ⟨rfl, rfl⟩) | ((with_reducible refine (refPower_int _ (by omega) _).mono ?_); rintro e w' ⟨rfl, rfl⟩) | ((with_reducible refine (refTruth_any _ _).mono ?_); rintro e w' ⟨rfl, rfl⟩) | ((with_reducible refine (refBits_any _ _ _ _ (by decide)).mono ?_); rintro e w' ⟨rfl, rfl⟩) | ((with_reducible refine (refDown_any _ _ _ hA (by assumption)).mono ?_); rintro e w' ⟨rfl, rfl⟩))
  all_goals
    go_ret2
    go_light
    refine ⟨ret2 ?_, rfl⟩
    first
      | exact lem_4 x y hb
      | (have L := lem_4 x y hb; have z : wrap64 0 = 0 := (by decide +kernel); simp_all)
set_option maxRecDepth 100000 in
set_option maxHeartbeats 1000000 in
theorem refDo_5z (x y : Int) (w : World) (hb : wrap32 y = 0) :
    Calls Tryd.prog 12 #[.int .i64 5, .int .i64 x, .int .i64 y] w fun e w' => e = .returned (.tuple #[.int .i64 0, .bool false]) ∧ w = w' := by
  have hA := wrap32_bd x
  have hB := wrap32_bd y
  have hK := pw_pos (wrap32 y % 32).toNat
  have hK2 : pw (wrap32 y % 32).toNat ≤ 4294967296 := Int.le_trans (pw_le _ 32 (by omega)) (by decide +kernel)
  have hK0 : 1 ≤ pw 0 := pw_pos 0
  have hK1 : pw 0 ≤ 4294967296 := by decide +kernel
  have hb0 : (wrap32 y == 0) = true := by simp [hb]
  go_enter Tryd.func12, Tryd.ntmps12
  go_wp2_with (first | ((with_reducible refine (refWrap_any _ _).mono ?_); rintro e w' ⟨rfl, rfl⟩) | ((with_reducible refine (refPlain_any _ _).mono ?_); rintro e w' ⟨rfl, rfl⟩) | ((with_reducible refine (refPower_int _ (by omega) _).mono ?_); rintro e w' ⟨rfl, rfl⟩) | ((with_reducible refine (refTruth_any _ _).mono ?_); rintro e w' ⟨rfl, rfl⟩) | ((with_reducible refine (refBits_any _ _ _ _ (by decide)).mono ?_); rintro e w' ⟨rfl, rfl⟩) | ((with_reducible refine (refDown_any _ _ _ hA (by assumption)).mono ?_); rintro e w' ⟨rfl, rfl⟩))
  go_ret2
  exact ⟨rfl, rfl⟩
set_option maxRecDepth 100000 in
set_option maxHeartbeats 1000000 in
theorem refDo_5 (x y : Int) (w : World) (hb : ¬ wrap32 y = 0) :
    Calls Tryd.prog 12 #[.int .i64 5, .int .i64 x, .int .i64 y] w fun e w' => e = .returned (.tuple #[.int .i64 (doV 5 x y), .bool true]) ∧ w = w' := by
  have hA := wrap32_bd x
  have hB := wrap32_bd y
  have hK := pw_pos (wrap32 y % 32).toNat
  have hK2 : pw (wrap32 y % 32).toNat ≤ 4294967296 := Int.le_trans (pw_le _ 32 (by omega)) (by decide +kernel)
  have hK0 : 1 ≤ pw 0 := pw_pos 0
  have hK1 : pw 0 ≤ 4294967296 := by decide +kernel
  have hb0 : (wrap32 y == 0) = false := by simp [hb]
  have hq0 : ¬ wrap32 y % 4294967296 = 0 := by omega
  go_enter Tryd.func12, Tryd.ntmps12
  go_wp2_with (first | ((with_reducible refine (refWrap_any _ _).mono ?_); rintro e w' ⟨rfl, rfl⟩) | ((with_reducible refine (refPlain_any _ _).mono ?_); rintro e w' ⟨rfl, rfl⟩) | ((with_reducible refine (refPower_int _ (by omega) _).mono ?_); rintro e w' ⟨rfl, rfl⟩) | ((with_reducible refine (refTruth_any _ _).mono ?_); rintro e w' ⟨rfl, rfl⟩) | ((with_reducible refine (refBits_any _ _ _ _ (by decide)).mono ?_); rintro e w' ⟨rfl, rfl⟩) | ((with_reducible refine (refDown_any _ _ _ hA (by assumption)).mono ?_); rintro e w' ⟨rfl, rfl⟩))
  all_goals
    go_ret2
    go_light
    refine ⟨ret2 ?_, rfl⟩
    first
      | exact lem_5 x y hb
      | (have L := lem_5 x y hb; have z : wrap64 0 = 0 := (by decide +kernel); simp_all)
set_option maxRecDepth 100000 in
set_option maxHeartbeats 1000000 in
theorem refDo_6z (x y : Int) (w : World) (hb : wrap32 y = 0) :
    Calls Tryd.prog 12 #[.int .i64 6, .int .i64 x, .int .i64 y] w fun e w' => e = .returned (.tuple #[.int .i64 0, .bool false]) ∧ w = w' := by
  have hA := wrap32_bd x
  have hB := wrap32_bd y
  have hK := pw_pos (wrap32 y % 32).toNat
  have hK2 : pw (wrap32 y % 32).toNat ≤ 4294967296 := Int.le_trans (pw_le _ 32 (by omega)) (by decide +kernel)
  have hK0 : 1 ≤ pw 0 := pw_pos 0
  have hK1 : pw 0 ≤ 4294967296 := by decide +kernel
  have hb0 : (wrap32 y == 0) = true := by simp [hb]
  go_enter Tryd.func12, Tryd.ntmps12
  go_wp2_with (first | ((with_reducible refine (refWrap_any _ _).mono ?_); rintro e w' ⟨rfl, rfl⟩) | ((with_reducible refine (refPlain_any _ _).mono ?_); rintro e w' ⟨rfl, rfl⟩) | ((with_reducible refine (refPower_int _ (by omega) _).mono ?_); rintro e w' ⟨rfl, rfl⟩) | ((with_reducible refine (refTruth_any _ _).mono ?_); rintro e w' ⟨rfl, rfl⟩) | ((with_reducible refine (refBits_any _ _ _ _ (by decide)).mono ?_); rintro e w' ⟨rfl, rfl⟩) | ((with_reducible refine (refDown_any _ _ _ hA (by assumption)).mono ?_); rintro e w' ⟨rfl, rfl⟩))
  go_ret2
  exact ⟨rfl, rfl⟩
set_option maxRecDepth 100000 in
set_option maxHeartbeats 1000000 in
theorem refDo_6 (x y : Int) (w : World) (hb : ¬ wrap32 y = 0) :
    Calls Tryd.prog 12 #[.int .i64 6, .int .i64 x, .int .i64 y] w fun e w' => e = .returned (.tuple #[.int .i64 (doV 6 x y), .bool true]) ∧ w = w' := by
  have hA := wrap32_bd x
  have hB := wrap32_bd y
  have hK := pw_pos (wrap32 y % 32).toNat
  have hK2 : pw (wrap32 y % 32).toNat ≤ 4294967296 := Int.le_trans (pw_le _ 32 (by omega)) (by decide +kernel)
  have hK0 : 1 ≤ pw 0 := pw_pos 0
  have hK1 : pw 0 ≤ 4294967296 := by decide +kernel
  have hb0 : (wrap32 y == 0) = false := by simp [hb]
  have hq0 : ¬ wrap32 y % 4294967296 = 0 := by omega
  go_enter Tryd.func12, Tryd.ntmps12
  go_wp2_with (first | ((with_reducible refine (refWrap_any _ _).mono ?_); rintro e w' ⟨rfl, rfl⟩) | ((with_reducible refine (refPlain_any _ _).mono ?_); rintro e w' ⟨rfl, rfl⟩) | ((with_reducible refine (refPower_int _ (by omega) _).mono ?_); rintro e w' ⟨rfl, rfl⟩) | ((with_reducible refine (refTruth_any _ _).mono ?_); rintro e w' ⟨rfl, rfl⟩) | ((with_reducible refine (refBits_any _ _ _ _ (by decide)).mono ?_); rintro e w' ⟨rfl, rfl⟩) | ((with_reducible refine (refDown_any _ _ _ hA (by assumption)).mono ?_); rintro e w' ⟨rfl, rfl⟩))
  all_goals
    go_ret2
    go_light
    refine ⟨ret2 ?_, rfl⟩
    first
      | exact lem_6 x y hb
      | (have L := lem_6 x y hb; have z : wrap64 0 = 0 := (by decide +kernel); simp_all)
set_option maxRecDepth 100000 in
set_option maxHeartbeats 1000000 in
theorem refDo_7z (x y : Int) (w : World) (hb : wrap32 y = 0) :
    Calls Tryd.prog 12 #[.int .i64 7, .int .i64 x, .int .i64 y] w fun e w' => e = .returned (.tuple #[.int .i64 0, .bool false]) ∧ w = w' := by
  have hA := wrap32_bd x
  have hB := wrap32_bd y
  have hK := pw_pos (wrap32 y % 32).toNat
  have hK2 : pw (wrap32 y % 32).toNat ≤ 4294967296 := Int.le_trans (pw_le _ 32 (by omega)) (by decide +kernel)
  have hK0 : 1 ≤ pw 0 := pw_pos 0
  have hK1 : pw 0 ≤ 4294967296 := by decide +kernel
  have hb0 : (wrap32 y == 0) = true := by simp [hb]
  go_enter Tryd.func12, Tryd.ntmps12
  go_wp2_with (first | ((with_reducible refine (refWrap_any _ _).mono ?_); rintro e w' ⟨rfl, rfl⟩) | ((with_reducible refine (refPlain_any _ _).mono ?_); rintro e w' ⟨rfl, rfl⟩) | ((with_reducible refine (refPower_int _ (by omega) _).mono ?_); rintro e w' ⟨rfl, rfl⟩) | ((with_reducible refine (refTruth_any _ _).mono ?_); rintro e w' ⟨rfl, rfl⟩) | ((with_reducible refine (refBits_any _ _ _ _ (by decide)).mono ?_); rintro e w' ⟨rfl, rfl⟩) | ((with_reducible refine (refDown_any _ _ _ hA (by assumption)).mono ?_); rintro e w' ⟨rfl, rfl⟩))
  go_ret2
  exact ⟨rfl, rfl⟩
set_option maxRecDepth 100000 in
set_option maxHeartbeats 1000000 in
theorem refDo_7 (x y : Int) (w : World) (hb : ¬ wrap32 y = 0) :
    Calls Tryd.prog 12 #[.int .i64 7, .int .i64 x, .int .i64 y] w fun e w' => e = .returned (.tuple #[.int .i64 (doV 7 x y), .bool true]) ∧ ∃ n, w' = w.drewN n := by
  have hA := wrap32_bd x
  have hB := wrap32_bd y
  have hK := pw_pos (wrap32 y % 32).toNat
  have hK2 : pw (wrap32 y % 32).toNat ≤ 4294967296 := Int.le_trans (pw_le _ 32 (by omega)) (by decide +kernel)
  have hK0 : 1 ≤ pw 0 := pw_pos 0
  have hK1 : pw 0 ≤ 4294967296 := by decide +kernel
  have hb0 : (wrap32 y == 0) = false := by simp [hb]
  have hq0 : ¬ wrap32 y % 4294967296 = 0 := by omega
  go_enter Tryd.func12, Tryd.ntmps12
  go_wp2_with (first | ((with_reducible refine (refWrap_any _ _).mono ?_); rintro e w' ⟨rfl, rfl⟩) | ((with_reducible refine (refPlain_any _ _).mono ?_); rintro e w' ⟨rfl, rfl⟩) | ((with_reducible refine (refPower_int _ (by omega) _).mono ?_); rintro e w' ⟨rfl, rfl⟩) | ((with_reducible refine (refTruth_any _ _).mono ?_); rintro e w' ⟨rfl, rfl⟩) | ((with_reducible refine (refBits_any _ _ _ _ (by decide)).mono ?_); rintro e w' ⟨rfl, rfl⟩) | ((with_reducible refine (refDown_any _ _ _ hA (by assumption)).mono ?_); rintro e w' ⟨rfl, rfl⟩))
  go_quiet ((go_at_call 18; exact Calls.quiet_of_same ((refPlain_any _ _).mono fun _ _ h => ⟨h.1, h.2.symm⟩)))
  go_wp2_with (first | ((with_reducible refine (refWrap_any _ _).mono ?_); rintro e w' ⟨rfl, rfl⟩))
  all_goals
    go_ret2
    go_light
    refine ⟨ret2 ?_, _, rfl⟩
    first
      | exact lem_7 x y hb
      | (have L := lem_7 x y hb; have z : wrap64 0 = 0 := (by decide +kernel); simp_all)
set_option maxRecDepth 100000 in
theorem refDo_none (op x y : Int) (w : World) (h : op < 1 ∨ 23 < op) :
    Calls Tryd.prog 12 #[.int .i64 op, .int .i64 x, .int .i64 y] w fun e w' => e = .returned (.tuple #[.int .i64 0, .bool false]) ∧ w = w' := by
  have hA := wrap32_bd x
  have hB := wrap32_bd y
  rcases h with h | h
  all_goals
    go_enter Tryd.func12, Tryd.ntmps12
    go_wp2_with (first | ((with_reducible refine (refWrap_any _ _).mono ?_); rintro e w' ⟨rfl, rfl⟩) | ((with_reducible refine (refPlain_any _ _).mono ?_); rintro e w' ⟨rfl, rfl⟩) | ((with_reducible refine (refPower_int _ (by omega) _).mono ?_); rintro e w' ⟨rfl, rfl⟩))
    all_goals
      go_ret2
      exact ⟨rfl, rfl⟩
end Go.Proofs.YtlpbphhabeonfaaDoor
