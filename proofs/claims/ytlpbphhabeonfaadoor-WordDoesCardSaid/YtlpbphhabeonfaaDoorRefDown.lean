/-
  doppelref01's Do tells what word's Do tells, operation by operation.
-/
import Derived.Test.YtlpbphhabeonfaaDoorRefBits
import Derived.Deep.QuietTactic
import Derived.BigQuiet
namespace Go.Proofs.YtlpbphhabeonfaaDoor
open Go.RowKit (wrap32 wrap64 intOf)

theorem refPower_int (n : Int) (h : 0 ≤ n ∧ n ≤ 62) (w : World) :
    Calls Tryd.prog 31 #[.int .i64 n] w fun e w' => e = .returned (.int .i64 (pw n.toNat)) ∧ w = w' := by
  obtain ⟨k, rfl⟩ := Int.eq_ofNat_of_zero_le h.1
  exact refPower_any k (by omega) w
theorem down_facts (a y : Int) (ha : -2147483648 ≤ a ∧ a ≤ 2147483647) (hy : 1 ≤ y) :
    -2147483648 ≤ a.tdiv y ∧ a.tdiv y ≤ 2147483647 ∧ (0 ≤ a → a.tdiv y = a / y) ∧ (a < 0 → a.tdiv y * y = a → a.tdiv y = a / y) ∧ (a < 0 → a.tdiv y * y ≠ a → a.tdiv y - 1 = a / y) ∧ -2147483648 ≤ a.tdiv y * y ∧ a.tdiv y * y ≤ 2147483647 := by
  have hy0 : y ≠ 0 := by omega
  by_cases h : 0 ≤ a
  · have e := Int.tdiv_eq_ediv_of_nonneg (b := y) h
    have h1 := Int.ediv_nonneg h (by omega : 0 ≤ y)
    have h2 := Int.ediv_le_self y h
    have h3 := Int.mul_ediv_add_emod a y
    have h4 := Int.emod_nonneg a hy0
    have h5 : 0 ≤ y * (a / y) := Int.mul_nonneg (by omega) h1
    rw [e, Int.mul_comm]
    refine ⟨by omega, by omega, fun _ => rfl, fun _ => by omega, fun _ => by omega, by omega, by omega⟩
  · obtain ⟨m, rfl⟩ : ∃ m, a = -m := ⟨-a, by omega⟩
    have e : (-m).tdiv y = -(m / y) := by rw [Int.neg_tdiv, Int.tdiv_eq_ediv_of_nonneg (by omega)]
    have h1 := Int.ediv_nonneg (by omega : 0 ≤ m) (by omega : 0 ≤ y)
    have h2 := Int.ediv_le_self y (by omega : 0 ≤ m)
    have h3 := Int.mul_ediv_add_emod m y
    have h4 := Int.emod_nonneg m hy0
    have h4' := Int.emod_lt_of_pos m (by omega : 0 < y)
    have h5 : 0 ≤ y * (m / y) := Int.mul_nonneg (by omega) h1
    have hmul : -(m / y) * y = -(y * (m / y)) := by rw [Int.neg_mul, Int.mul_comm]
    rw [e, hmul]
    refine ⟨by omega, by omega, fun _ => by omega, fun _ hh => ?_, fun _ hh => ?_, by omega, by omega⟩
    · have hz : m % y = 0 := by omega
      have : -m = -(m / y) * y := by rw [hmul]; omega
      rw [this, Int.mul_ediv_cancel _ hy0]
    · have hz : m % y ≠ 0 := by omega
      have : -m = (y - m % y) + (-(m / y) - 1) * y := by rw [Int.sub_mul, hmul, Int.one_mul]; omega
      rw [this, Int.add_mul_ediv_right _ _ hy0, Int.ediv_eq_zero_of_lt (a := y - m % y) (b := y) (by omega) (by omega)]; omega
theorem refDown_any (a y : Int) (w : World) (ha : -2147483648 ≤ a ∧ a ≤ 2147483647) (hy : 1 ≤ y) :
    Calls Tryd.prog 33 #[.int .i64 a, .int .i64 y] w fun e w' => e = .returned (.int .i64 (a / y)) ∧ w = w' := by
  obtain ⟨f1, f2, f3, f4, f5, f6, f7⟩ := down_facts a y ha hy
  have hy0 : ¬ y = 0 := by omega
  have hyb : (y == 0) = false := by simp [hy0]
  have F3 := Lib.hid f3
  have F4 := Lib.hid f4
  have F5 := Lib.hid f5
  clear f3 f4 f5
  by_cases h : 0 ≤ a
  · have hd : decide (a < 0) = false := by simp; omega
    go_enter Tryd.func33, Tryd.ntmps33
    go_wp2
    go_ret
    exact ⟨ret_int (F3.out h), rfl⟩
  · by_cases h2 : a.tdiv y * y = a
    · have hb : (a.tdiv y * y != a) = false := by simp [h2]
      have H2 := Lib.hid h2
      clear h2
      go_enter Tryd.func33, Tryd.ntmps33
      go_wp2
      go_ret
      exact ⟨ret_int (F4.out (by omega) H2.out), rfl⟩
    · have hb : (a.tdiv y * y != a) = true := by simp [h2]
      go_enter Tryd.func33, Tryd.ntmps33
      go_wp2
      go_ret
      exact ⟨ret_int (F5.out (by omega) h2), rfl⟩
end Go.Proofs.YtlpbphhabeonfaaDoor
