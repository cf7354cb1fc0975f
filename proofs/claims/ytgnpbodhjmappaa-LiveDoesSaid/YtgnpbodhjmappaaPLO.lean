/-
  Contracts of doppelref01's functions.
-/
import Derived.Test.YtgnpbodhjmappaaPNL
import Derived.Deep.QuietTactic
import Derived.BigQuiet
import Derived.Deep.Light
set_option linter.unusedVariables false
set_option linter.unusedSimpArgs false
namespace Go.Proofs.Ytgnpbodhjmappaa
open Go.RowKit (wrap32 wrap64 intOf)

theorem tmod_cases (n : Int) : n.tmod 4294967296 = if 0 ≤ n then n % 4294967296 else -((-n) % 4294967296) := by
  split
  · exact Int.tmod_eq_emod_of_nonneg ‹_›
  · have h : n = -(-n) := by omega
    rw [h, Int.neg_tmod, Int.tmod_eq_emod_of_nonneg (by omega), Int.neg_neg]
theorem refWrap_any (n : Int) (w : World) :
    Calls Try.prog 101 #[.int .i64 n] w fun e w' => e = .returned (.int .i64 (wrap32 n)) ∧ w = w' := by
  have ht := tmod_cases n
  generalize hr : n.tmod 4294967296 = r at *
  have h1 : -4294967296 < r ∧ r < 4294967296 := by split at ht <;> omega
  have h2 : r % 4294967296 = n % 4294967296 := by split at ht <;> omega
  clear ht
  have H := Lib.hid h2
  clear h2
  go_enter Try.func101, Try.ntmps101
  go_wp2
  all_goals
    go_ret
    go_light
    refine ⟨ret_int ?_, rfl⟩
    have h2 := H.out
    unfold wrap32
    omega
theorem refPlain_any (n : Int) (w : World) :
    Calls Try.prog 70 #[.int .i64 n] w fun e w' => e = .returned (.int .i64 (n % 4294967296)) ∧ w = w' := by
  have hb := wrap32_bd n
  go_enter Try.func70, Try.ntmps70
  go_wp2_with ((with_reducible refine (refWrap_any _ _).mono ?_); rintro e w' ⟨rfl, rfl⟩)
  all_goals
    go_ret
    go_light
    refine ⟨ret_int ?_, rfl⟩
    unfold wrap32 at *
    omega
theorem refTruth_any (b : Bool) (w : World) :
    Calls Try.prog 105 #[.bool b] w fun e w' => e = .returned (.int .i64 (num b)) ∧ w = w' := by
  cases b
  all_goals
    go_enter Try.func105, Try.ntmps105
    go_wp2
    go_ret
    exact ⟨rfl, rfl⟩
def pw (k : Nat) : Int := ((2 ^ k : Nat) : Int)
theorem pw_succ (k : Nat) : pw (k + 1) = pw k * 2 := by unfold pw; rw [Nat.pow_succ]; omega
theorem pw_pos (k : Nat) : 1 ≤ pw k := by unfold pw; have : 0 < 2 ^ k := Nat.pow_pos (by omega); omega
theorem pw_le (k j : Nat) (h : k ≤ j) : pw k ≤ pw j := by unfold pw; have : 2 ^ k ≤ 2 ^ j := Nat.pow_le_pow_right (by omega) h; omega
theorem pw_62 : pw 62 = 4611686018427387904 := by decide +kernel
theorem refPower_any (k : Nat) (hk : k ≤ 62) (w : World) :
    Calls Try.prog 102 #[.int .i64 k] w fun e w' => e = .returned (.int .i64 (pw k)) ∧ w = w' := by
  go_enter Try.func102, Try.ntmps102
  go_wp2
  go_loop [3, 4] (fun p i => ∃ j : Nat, j ≤ k ∧ i = .int .i64 j ∧ p = .int .i64 (pw j)) (fun _ i => k - (intOf i).toNat)
  case atStart => exact ⟨0, Nat.zero_le _, rfl, rfl⟩
  case round =>
    obtain ⟨j, hj, rfl, rfl⟩ := hrel
    have h1 := pw_pos j
    have h2 : pw j ≤ 4611686018427387904 := pw_62 ▸ pw_le j 62 (by omega)
    by_cases hlt : j < k
    · have h3 : pw j ≤ 2305843009213693952 := by
        have := pw_le (j + 1) 62 (by omega)
        rw [pw_succ, pw_62] at this; omega
      go_wp2
      go_round
      case rel => exact ⟨j + 1, by omega, by go_num, by rw [pw_succ]⟩
      case measure => simp [intOf]; omega
    · go_wp2
      go_ret
      exact ⟨ret_int (by rw [show j = k from by omega]), rfl⟩
end Go.Proofs.Ytgnpbodhjmappaa
namespace Go.Proofs.Ytgnpbodhjmappaa
open Go.RowKit (wrap32 wrap64 intOf)

def wordN (a : Int) : Nat := (a % 4294967296).toNat
theorem wordN_cast (a : Int) : ((wordN a : Nat) : Int) = a % 4294967296 := by unfold wordN; omega
theorem wordN_lt (a : Int) : wordN a < 2 ^ 32 := by unfold wordN; simp only [Nat.reducePow]; omega
def shN (a : Int) (j : Nat) : Nat := wordN a / 2 ^ j
theorem shN_zero (a : Int) : ((shN a 0 : Nat) : Int) = a % 4294967296 := by unfold shN; rw [Nat.pow_zero, Nat.div_one, wordN_cast]
theorem shN_succ (a : Int) (j : Nat) : shN a (j + 1) = shN a j / 2 := by unfold shN; rw [Nat.pow_succ, Nat.div_div_eq_div_mul]
theorem shN_lt (a : Int) (j : Nat) : shN a j < 4294967296 := Nat.lt_of_le_of_lt (Nat.div_le_self _ _) (wordN_lt a)
def bitN (a : Int) (k : Nat) : Nat := shN a k % 2
theorem bitN_lt (a : Int) (k : Nat) : bitN a k < 2 := by unfold bitN; omega
theorem refBit_any (a : Int) (k : Nat) (w : World) (hk : k ≤ 62) :
    Calls Try.prog 119 #[.int .i64 a, .int .i64 k] w fun e w' => e = .returned (.int .i64 (bitN a k : Nat)) ∧ w = w' := by
  go_enter Try.func119, Try.ntmps119
  go_wp2_with ((with_reducible refine (refPlain_any _ _).mono ?_); rintro e w' ⟨rfl, rfl⟩)
  go_loop [5, 6] (fun p i => ∃ j : Nat, j ≤ k ∧ i = .int .i64 j ∧ p = .int .i64 ((shN a j : Nat) : Int)) (fun _ i => k - (intOf i).toNat)
  case atStart => exact ⟨0, Nat.zero_le _, rfl, by rw [shN_zero]⟩
  case round =>
    obtain ⟨j, hj, rfl, rfl⟩ := hrel
    have h0 := shN_lt a j
    have Es := Lib.hid (shN_succ a j)
    by_cases hlt : j < k
    · go_wp2
      go_round
      case rel => exact ⟨j + 1, by omega, by go_num, by rw [Es.out]; go_num⟩
      case measure => simp [intOf]; omega
    · go_wp2
      go_ret
      exact ⟨ret_int (by rw [show j = k from by omega]; unfold bitN; omega), rfl⟩
def opN (kind : Int) (x y : Nat) : Nat := if kind = 0 then x &&& y else if kind = 1 then x ||| y else x ^^^ y
def oneB' (kind : Int) (x y : Nat) : Bool := if kind = 0 then decide (x * y = 1) else if kind = 1 then decide (x + y > 0) else decide (x + y = 1)
def partN (kind : Int) (a b : Int) (k : Nat) : Nat := opN kind (wordN a) (wordN b) % 2 ^ k
theorem partN_zero (kind a b : Int) : partN kind a b 0 = 0 := by unfold partN; rw [Nat.pow_zero, Nat.mod_one]
theorem testBit_div (x k : Nat) : x.testBit k = decide (x / 2 ^ k % 2 = 1) := Nat.testBit_eq_decide_div_mod_eq
theorem partN_succ (kind a b : Int) (k : Nat) : partN kind a b (k + 1) = partN kind a b k + if oneB' kind (bitN a k) (bitN b k) then 2 ^ k else 0 := by
  unfold partN
  rw [Nat.mod_pow_succ]
  congr 1
  have e : opN kind (wordN a) (wordN b) / 2 ^ k % 2 = if oneB' kind (bitN a k) (bitN b k) then 1 else 0 := by
    have h : (opN kind (wordN a) (wordN b)).testBit k = oneB' kind (bitN a k) (bitN b k) := by
      have ha : (wordN a).testBit k = decide (bitN a k = 1) := by rw [testBit_div]; rfl
      have hb : (wordN b).testBit k = decide (bitN b k = 1) := by rw [testBit_div]; rfl
      unfold opN oneB'
      have h1 := bitN_lt a k
      have h2 := bitN_lt b k
      generalize bitN a k = x at *
      generalize bitN b k = y at *
      rcases (by omega : x = 0 ∨ x = 1) with rfl | rfl <;> rcases (by omega : y = 0 ∨ y = 1) with rfl | rfl <;> (split; · rw [Nat.testBit_and, ha, hb]; rfl) <;> (split; · rw [Nat.testBit_or, ha, hb]; rfl) <;> (rw [Nat.testBit_xor, ha, hb]; rfl)
    rw [testBit_div] at h
    rw [← h]
    by_cases hh : opN kind (wordN a) (wordN b) / 2 ^ k % 2 = 1
    · simp [hh]
    · simp [hh]; omega
  rw [e]; split <;> simp
theorem partN_lt (kind a b : Int) (k : Nat) (hk : k ≤ 32) : partN kind a b k < 4294967296 := by
  have h1 : partN kind a b k < 2 ^ k := Nat.mod_lt _ (Nat.pow_pos (by omega))
  have h2 : 2 ^ k ≤ 2 ^ 32 := Nat.pow_le_pow_right (by omega) hk
  simp only [Nat.reducePow] at h2
  omega
set_option maxHeartbeats 1000000 in
theorem refBits_0 (a b : Int) (w : World) :
    Calls Try.prog 103 #[.int .i64 a, .int .i64 b, .int .i64 0] w fun e w' => e = .returned (.int .i64 (partN 0 a b 32 : Nat)) ∧ w = w' := by
  go_enter Try.func103, Try.ntmps103
  go_wp2
  go_loop [7, 8] (fun n i => ∃ j : Nat, j ≤ 32 ∧ i = .int .i64 j ∧ n = .int .i64 ((partN 0 a b j : Nat) : Int)) (fun _ i => 32 - (intOf i).toNat)
  case atStart => exact ⟨0, Nat.zero_le _, rfl, by rw [partN_zero]; rfl⟩
  case round =>
    obtain ⟨j, hj, rfl, rfl⟩ := hrel
    by_cases hlt : j < 32
    · have Es := Lib.hid (partN_succ 0 a b j)
      have h0 := partN_lt 0 a b j hj
      have h3 : pw j ≤ 4294967296 := Int.le_trans (pw_le j 32 (by omega)) (by decide +kernel)
      have h4 := pw_pos j
      have hx := bitN_lt a j
      have hy := bitN_lt b j
      rcases (by omega : bitN a j = 0 ∨ bitN a j = 1) with hx | hx <;> rcases (by omega : bitN b j = 0 ∨ bitN b j = 1) with hy | hy
      all_goals
        go_wp2_with (first | ((with_reducible refine (refBit_any _ _ _ (by omega)).mono ?_); rintro e w' ⟨rfl, rfl⟩) | ((with_reducible refine (refPower_any _ (by omega) _).mono ?_); rintro e w' ⟨rfl, rfl⟩))
        go_round
        case rel => exact ⟨j + 1, by omega, by go_num, by rw [Es.out, hx, hy]; simp [oneB', pw]⟩
        case measure => simp [intOf]; omega
    · go_wp2
      go_ret
      exact ⟨ret_int (by rw [show j = 32 from by omega]), rfl⟩
set_option maxHeartbeats 1000000 in
theorem refBits_1 (a b : Int) (w : World) :
    Calls Try.prog 103 #[.int .i64 a, .int .i64 b, .int .i64 1] w fun e w' => e = .returned (.int .i64 (partN 1 a b 32 : Nat)) ∧ w = w' := by
  go_enter Try.func103, Try.ntmps103
  go_wp2
  go_loop [7, 8] (fun n i => ∃ j : Nat, j ≤ 32 ∧ i = .int .i64 j ∧ n = .int .i64 ((partN 1 a b j : Nat) : Int)) (fun _ i => 32 - (intOf i).toNat)
  case atStart => exact ⟨0, Nat.zero_le _, rfl, by rw [partN_zero]; rfl⟩
  case round =>
    obtain ⟨j, hj, rfl, rfl⟩ := hrel
    by_cases hlt : j < 32
    · have Es := Lib.hid (partN_succ 1 a b j)
      have h0 := partN_lt 1 a b j hj
      have h3 : pw j ≤ 4294967296 := Int.le_trans (pw_le j 32 (by omega)) (by decide +kernel)
      have h4 := pw_pos j
      have hx := bitN_lt a j
      have hy := bitN_lt b j
      rcases (by omega : bitN a j = 0 ∨ bitN a j = 1) with hx | hx <;> rcases (by omega : bitN b j = 0 ∨ bitN b j = 1) with hy | hy
      all_goals
        go_wp2_with (first | ((with_reducible refine (refBit_any _ _ _ (by omega)).mono ?_); rintro e w' ⟨rfl, rfl⟩) | ((with_reducible refine (refPower_any _ (by omega) _).mono ?_); rintro e w' ⟨rfl, rfl⟩))
        go_round
        case rel => exact ⟨j + 1, by omega, by go_num, by rw [Es.out, hx, hy]; simp [oneB', pw]⟩
        case measure => simp [intOf]; omega
    · go_wp2
      go_ret
      exact ⟨ret_int (by rw [show j = 32 from by omega]), rfl⟩
set_option maxHeartbeats 1000000 in
theorem refBits_2 (a b : Int) (w : World) :
    Calls Try.prog 103 #[.int .i64 a, .int .i64 b, .int .i64 2] w fun e w' => e = .returned (.int .i64 (partN 2 a b 32 : Nat)) ∧ w = w' := by
  go_enter Try.func103, Try.ntmps103
  go_wp2
  go_loop [7, 8] (fun n i => ∃ j : Nat, j ≤ 32 ∧ i = .int .i64 j ∧ n = .int .i64 ((partN 2 a b j : Nat) : Int)) (fun _ i => 32 - (intOf i).toNat)
  case atStart => exact ⟨0, Nat.zero_le _, rfl, by rw [partN_zero]; rfl⟩
  case round =>
    obtain ⟨j, hj, rfl, rfl⟩ := hrel
    by_cases hlt : j < 32
    · have Es := Lib.hid (partN_succ 2 a b j)
      have h0 := partN_lt 2 a b j hj
      have h3 : pw j ≤ 4294967296 := Int.le_trans (pw_le j 32 (by omega)) (by decide +kernel)
      have h4 := pw_pos j
      have hx := bitN_lt a j
      have hy := bitN_lt b j
      rcases (by omega : bitN a j = 0 ∨ bitN a j = 1) with hx | hx <;> rcases (by omega : bitN b j = 0 ∨ bitN b j = 1) with hy | hy
      all_goals
        go_wp2_with (first | ((with_reducible refine (refBit_any _ _ _ (by omega)).mono ?_); rintro e w' ⟨rfl, rfl⟩) | ((with_reducible refine (refPower_any _ (by omega) _).mono ?_); rintro e w' ⟨rfl, rfl⟩))
        go_round
        case rel => exact ⟨j + 1, by omega, by go_num, by rw [Es.out, hx, hy]; simp [oneB', pw]⟩
        case measure => simp [intOf]; omega
    · go_wp2
      go_ret
      exact ⟨ret_int (by rw [show j = 32 from by omega]), rfl⟩
theorem refBits_any (a b kind : Int) (w : World) (hk : kind = 0 ∨ kind = 1 ∨ kind = 2) :
    Calls Try.prog 103 #[.int .i64 a, .int .i64 b, .int .i64 kind] w fun e w' => e = .returned (.int .i64 (partN kind a b 32 : Nat)) ∧ w = w' := by
  rcases hk with rfl | rfl | rfl
  · exact refBits_0 a b w
  · exact refBits_1 a b w
  · exact refBits_2 a b w
end Go.Proofs.Ytgnpbodhjmappaa
namespace Go.Proofs.Ytgnpbodhjmappaa
open Go.RowKit (wrap32 wrap64 intOf)

theorem refPower_int (n : Int) (h : 0 ≤ n ∧ n ≤ 62) (w : World) :
    Calls Try.prog 102 #[.int .i64 n] w fun e w' => e = .returned (.int .i64 (pw n.toNat)) ∧ w = w' := by
  obtain ⟨k, rfl⟩ := Int.eq_ofNat_of_zero_le h.1
  exact refPower_any k (by omega) w
theorem down_facts (a y : Int) (ha : -2147483648 ≤ a ∧ a ≤ 2147483647) (hy : 1 ≤ y) :
    -2147483648 ≤ a.tdiv y ∧ a.tdiv y ≤ 2147483647 ∧ (0 ≤ a → a.tdiv y = a / y) ∧ (a < 0 → a.tdiv y * y = a → a.tdiv y = a / y) ∧ (a < 0 → a.tdiv y * y ≠ a → a.tdiv y - 1 = a / y) ∧ -2147483648 ≤ a.tdiv y * y ∧ a.tdiv y * y ≤ 2147483647 := by
  have hy0 : y ≠ 0 := by omega
  by_cases h : 0 ≤ a
  · have e := Int.tdiv_eq_ediv_of_nonneg (b := y) h
    have h1 := Int.ediv_nonneg h (by omega : 0 ≤ y)
    have h2 := Int.ediv_le_self y h
    have h3 := Int.mul_ediv_add_emod a y
    have h4 := Int.emod_nonneg a hy0
    have h5 : 0 ≤ y * (a / y) := Int.mul_nonneg (by omega) h1
    rw [e, Int.mul_comm]
    refine ⟨by omega, by omega, fun _ => rfl, fun _ => by omega, fun _ => by omega, by omega, by omega⟩
  · obtain ⟨m, rfl⟩ : ∃ m, a = -m := ⟨-a, by omega⟩
    have e : (-m).tdiv y = -(m / y) := by rw [Int.neg_tdiv, Int.tdiv_eq_ediv_of_nonneg (by omega)]
    have h1 := Int.ediv_nonneg (by omega : 0 ≤ m) (by omega : 0 ≤ y)
    have h2 := Int.ediv_le_self y (by omega : 0 ≤ m)
    have h3 := Int.mul_ediv_add_emod m y
    have h4 := Int.emod_nonneg m hy0
    have h4' := Int.emod_lt_of_pos m (by omega : 0 < y)
    have h5 : 0 ≤ y * (m / y) := Int.mul_nonneg (by omega) h1
    have hmul : -(m / y) * y = -(y * (m / y)) := by rw [Int.neg_mul, Int.mul_comm]
    rw [e, hmul]
    refine ⟨by omega, by omega, fun _ => by omega, fun _ hh => ?_, fun _ hh => ?_, by omega, by omega⟩
    · have hz : m % y = 0 := by omega
      have : -m = -(m / y) * y := by rw [hmul]; omega
      rw [this, Int.mul_ediv_cancel _ hy0]
    · have hz : m % y ≠ 0 := by omega
      have : -m = (y - m % y) + (-(m / y) - 1) * y := by rw [Int.sub_mul, hmul, Int.one_mul]; omega
      rw [this, Int.add_mul_ediv_right _ _ hy0, Int.ediv_eq_zero_of_lt (a := y - m % y) (b := y) (by omega) (by omega)]; omega
theorem refDown_any (a y : Int) (w : World) (ha : -2147483648 ≤ a ∧ a ≤ 2147483647) (hy : 1 ≤ y) :
    Calls Try.prog 104 #[.int .i64 a, .int .i64 y] w fun e w' => e = .returned (.int .i64 (a / y)) ∧ w = w' := by
  obtain ⟨f1, f2, f3, f4, f5, f6, f7⟩ := down_facts a y ha hy
  have hy0 : ¬ y = 0 := by omega
  have hyb : (y == 0) = false := by simp [hy0]
  have F3 := Lib.hid f3
  have F4 := Lib.hid f4
  have F5 := Lib.hid f5
  clear f3 f4 f5
  by_cases h : 0 ≤ a
  · have hd : decide (a < 0) = false := by simp; omega
    go_enter Try.func104, Try.ntmps104
    go_wp2
    go_ret
    exact ⟨ret_int (F3.out h), rfl⟩
  · by_cases h2 : a.tdiv y * y = a
    · have hb : (a.tdiv y * y != a) = false := by simp [h2]
      have H2 := Lib.hid h2
      clear h2
      go_enter Try.func104, Try.ntmps104
      go_wp2
      go_ret
      exact ⟨ret_int (F4.out (by omega) H2.out), rfl⟩
    · have hb : (a.tdiv y * y != a) = true := by simp [h2]
      go_enter Try.func104, Try.ntmps104
      go_wp2
      go_ret
      exact ⟨ret_int (F5.out (by omega) h2), rfl⟩
end Go.Proofs.Ytgnpbodhjmappaa
namespace Go.Proofs.Ytgnpbodhjmappaa
open Go.RowKit (wrap32 wrap64 intOf)

theorem ret2 {k : IntKind} {a b : Int} {c : Bool} (h : a = b) : Ending.returned (.tuple #[.int k a, .bool c]) = .returned (.tuple #[.int k b, .bool c]) := by rw [h]
theorem pw_eq (k : Nat) : pw k = (2 : Int) ^ k := by unfold pw; simp
theorem lem_1 (x y : Int) : wrap32 (wrap32 x + wrap32 y) = doV 1 x y := by rw [doV_two _ _ _ (by omega)]; rfl
theorem lem_2 (x y : Int) : wrap32 (wrap32 x - wrap32 y) = doV 2 x y := by rw [doV_two _ _ _ (by omega)]; rfl
theorem lem_3 (x y : Int) : wrap32 (wrap64 (wrap32 x * wrap32 y)) = doV 3 x y := by rw [doV_two _ _ _ (by omega)]; rfl
theorem lem_4 (x y : Int) (hb : ¬ wrap32 y = 0) : wrap32 (wrap64 ((wrap32 x).tdiv (wrap32 y))) = doV 4 x y := by rw [doV_div _ _ _ (by omega) hb]; rfl
theorem lem_5 (x y : Int) (hb : ¬ wrap32 y = 0) : wrap32 (wrap64 (wrap32 x - wrap64 (wrap64 ((wrap32 x).tdiv (wrap32 y)) * wrap32 y))) = doV 5 x y := by
  rw [doV_div _ _ _ (by omega) hb]
  show _ = wrap32 ((wrap32 x).tmod (wrap32 y))
  rw [wrap32_eq_iff, bv_wrap64, bv_sub, bv_wrap64, bv_mul, bv_wrap64, ← bv_mul, ← bv_sub]
  congr 1
  have := Int.mul_tdiv_add_tmod (wrap32 x) (wrap32 y)
  rw [Int.mul_comm] at this; omega
theorem lem_6 (x y : Int) (hb : ¬ wrap32 y = 0) : wrap32 (wrap32 x % 4294967296 / (wrap32 y % 4294967296)) = doV 6 x y := by rw [doV_div _ _ _ (by omega) hb]; rfl
theorem lem_7 (x y : Int) (hb : ¬ wrap32 y = 0) : wrap32 (wrap64 (wrap32 x % 4294967296 - wrap64 (wrap32 x % 4294967296 / (wrap32 y % 4294967296) * (wrap32 y % 4294967296)))) = doV 7 x y := by
  rw [doV_div _ _ _ (by omega) hb]
  show _ = wrap32 (wrap32 x % 4294967296 % (wrap32 y % 4294967296))
  rw [wrap32_eq_iff, bv_wrap64, bv_sub, bv_wrap64, ← bv_sub]
  congr 1
  have := Int.mul_ediv_add_emod (wrap32 x % 4294967296) (wrap32 y % 4294967296)
  rw [Int.mul_comm] at this; omega
theorem wordN_bv (a : Int) : wordN a = (bv a).toNat := by have := bv_toNat a; have := wordN_cast a; omega
theorem bv_nat (n : Nat) (h : n < 2 ^ 32) : (bv (n : Int)).toNat = n := by
  have := bv_toNat (n : Int); simp only [Nat.reducePow] at h; omega
theorem part32 (kind a b : Int) (h : opN kind (wordN a) (wordN b) < 2 ^ 32) : partN kind a b 32 = opN kind (wordN a) (wordN b) := Nat.mod_eq_of_lt h
theorem lem_8 (x y : Int) : wrap32 ((partN 0 (wrap32 x) (wrap32 y) 32 : Nat) : Int) = doV 8 x y := by
  refine (eq_wrap ?_).symm
  have h : opN 0 (wordN (wrap32 x)) (wordN (wrap32 y)) = (bv x &&& bv y).toNat := by
    rw [wordN_bv, wordN_bv, bv_wrap, bv_wrap, BitVec.toNat_and]; rfl
  have h2 : opN 0 (wordN (wrap32 x)) (wordN (wrap32 y)) < 2 ^ 32 := by rw [h]; exact (bv x &&& bv y).isLt
  rw [doV_and, part32 _ _ _ h2]
  apply BitVec.eq_of_toNat_eq
  rw [bv_nat _ h2, h]
theorem lem_9 (x y : Int) : wrap32 ((partN 1 (wrap32 x) (wrap32 y) 32 : Nat) : Int) = doV 9 x y := by
  refine (eq_wrap ?_).symm
  have h : opN 1 (wordN (wrap32 x)) (wordN (wrap32 y)) = (bv x ||| bv y).toNat := by
    rw [wordN_bv, wordN_bv, bv_wrap, bv_wrap, BitVec.toNat_or]; rfl
  have h2 : opN 1 (wordN (wrap32 x)) (wordN (wrap32 y)) < 2 ^ 32 := by rw [h]; exact (bv x ||| bv y).isLt
  rw [doV_or, part32 _ _ _ h2]
  apply BitVec.eq_of_toNat_eq
  rw [bv_nat _ h2, h]
theorem lem_10 (x y : Int) : wrap32 ((partN 2 (wrap32 x) (wrap32 y) 32 : Nat) : Int) = doV 10 x y := by
  refine (eq_wrap ?_).symm
  have h : opN 2 (wordN (wrap32 x)) (wordN (wrap32 y)) = (bv x ^^^ bv y).toNat := by
    rw [wordN_bv, wordN_bv, bv_wrap, bv_wrap, BitVec.toNat_xor]; rfl
  have h2 : opN 2 (wordN (wrap32 x)) (wordN (wrap32 y)) < 2 ^ 32 := by rw [h]; exact (bv x ^^^ bv y).isLt
  rw [doV_xor, part32 _ _ _ h2]
  apply BitVec.eq_of_toNat_eq
  rw [bv_nat _ h2, h]
theorem lem_11 (x y : Int) : wrap32 (wrap64 (wrap32 x * pw (wrap32 y % 32).toNat)) = doV 11 x y := by rw [doV_two _ _ _ (by omega), pw_eq]; rfl
theorem lem_12 (x y : Int) : wrap32 (wrap32 x / pw (wrap32 y % 32).toNat) = doV 12 x y := by rw [doV_two _ _ _ (by omega), pw_eq]; rfl
theorem lem_13 (x y : Int) : wrap32 (wrap32 x % 4294967296 / pw (wrap32 y % 32).toNat) = doV 13 x y := by rw [doV_two _ _ _ (by omega), pw_eq]; rfl
theorem lem_14 (x y : Int) : wrap32 (num (wrap32 x == wrap32 y)) = doV 14 x y := by rw [doV_two _ _ _ (by omega)]; rfl
theorem lem_15 (x y : Int) : wrap32 (num (wrap32 x != wrap32 y)) = doV 15 x y := by rw [doV_two _ _ _ (by omega)]; rfl
theorem lem_16 (x y : Int) : wrap32 (num (decide (wrap32 x < wrap32 y))) = doV 16 x y := by rw [doV_two _ _ _ (by omega)]; rfl
theorem lem_17 (x y : Int) : wrap32 (num (decide (wrap32 x < wrap32 y) || wrap32 x == wrap32 y)) = doV 17 x y := by
  rw [doV_cmp _ _ _ (by omega), num_bd]
  show _ = num (decide (wrap32 x ≤ wrap32 y))
  congr 1
  rw [Bool.eq_iff_iff]; simp; omega
theorem lem_18 (x y : Int) : wrap32 (num (decide (wrap32 x % 4294967296 < wrap32 y % 4294967296))) = doV 18 x y := by rw [doV_two _ _ _ (by omega)]; rfl
theorem lem_19 (x y : Int) : wrap32 (num (decide (wrap32 x % 4294967296 ≤ wrap32 y % 4294967296))) = doV 19 x y := by rw [doV_two _ _ _ (by omega)]; rfl
theorem lem_20 (x y : Int) : wrap32 (- wrap32 x) = doV 20 x y := by rw [doV_one _ _ _ (by omega)]; rfl
theorem lem_21 (x y : Int) : wrap32 (- wrap32 x - 1) = doV 21 x y := by
  refine (eq_wrap ?_).symm
  rw [doV_not, bv_not, bv_wrap]
theorem lem_22 (x y : Int) : wrap32 (wrap32 x % 256) = doV 22 x y := by rw [doV_one _ _ _ (by omega)]; rfl
theorem lem_23 (x y : Int) : wrap32 (num (wrap32 x == 0)) = doV 23 x y := by rw [doV_one _ _ _ (by omega)]; rfl
end Go.Proofs.Ytgnpbodhjmappaa
namespace Go.Proofs.Ytgnpbodhjmappaa
open Go.RowKit (wrap32 wrap64 intOf)

set_option maxRecDepth 100000 in
set_option maxHeartbeats 1000000 in
theorem refDo_1 (x y : Int) (w : World) :
    Calls Try.prog 69 #[.int .i64 1, .int .i64 x, .int .i64 y] w fun e w' => e = .returned (.tuple #[.int .i64 (doV 1 x y), .bool true]) ∧ w = w' := by
  have hA := wrap32_bd x
  have hB := wrap32_bd y
  have hK := pw_pos (wrap32 y % 32).toNat
  have hK2 : pw (wrap32 y % 32).toNat ≤ 4294967296 := Int.le_trans (pw_le _ 32 (by omega)) (by decide +kernel)
  have hK0 : 1 ≤ pw 0 := pw_pos 0
  have hK1 : pw 0 ≤ 4294967296 := by decide +kernel
  go_enter Try.func69, Try.ntmps69
  go_wp2_with (first | ((with_reducible refine (refWrap_any _ _).mono ?_); rintro e w' ⟨rfl, rfl⟩) | ((with_reducible refine (refPlain_any _ _).mono ?_); rintro e w' ⟨rfl, rfl⟩) | ((with_reducible refine (refPower_int _ (by omega) _).mono ?_); rintro e w' ⟨rfl, rfl⟩) | ((with_reducible refine (refTruth_any _ _).mono ?_); rintro e w' ⟨rfl, rfl⟩) | ((with_reducible refine (refBits_any _ _ _ _ (by decide)).mono ?_); rintro e w' ⟨rfl, rfl⟩) | ((with_reducible refine (refDown_any _ _ _ hA (by assumption)).mono ?_); rintro e w' ⟨rfl, rfl⟩))
  all_goals
    go_ret2
    go_light
    refine ⟨ret2 ?_, rfl⟩
    first
      | exact lem_1 x y
      | (have L := lem_1 x y; have z : wrap64 0 = 0 := (by decide +kernel); simp_all)
set_option maxRecDepth 100000 in
set_option maxHeartbeats 1000000 in
theorem refDo_2 (x y : Int) (w : World) :
    Calls Try.prog 69 #[.int .i64 2, .int .i64 x, .int .i64 y] w fun e w' => e = .returned (.tuple #[.int .i64 (doV 2 x y), .bool true]) ∧ w = w' := by
  have hA := wrap32_bd x
  have hB := wrap32_bd y
  have hK := pw_pos (wrap32 y % 32).toNat
  have hK2 : pw (wrap32 y % 32).toNat ≤ 4294967296 := Int.le_trans (pw_le _ 32 (by omega)) (by decide +kernel)
  have hK0 : 1 ≤ pw 0 := pw_pos 0
  have hK1 : pw 0 ≤ 4294967296 := by decide +kernel
  go_enter Try.func69, Try.ntmps69
  go_wp2_with (first | ((with_reducible refine (refWrap_any _ _).mono ?_); rintro e w' ⟨rfl, rfl⟩) | ((with_reducible refine (refPlain_any _ _).mono ?_); rintro e w' ⟨rfl, rfl⟩) | ((with_reducible refine (refPower_int _ (by omega) _).mono ?_); rintro e w' ⟨rfl, rfl⟩) | ((with_reducible refine (refTruth_any _ _).mono ?_); rintro e w' ⟨rfl, rfl⟩) | ((with_reducible refine (refBits_any _ _ _ _ (by decide)).mono ?_); rintro e w' ⟨rfl, rfl⟩) | ((with_reducible refine (refDown_any _ _ _ hA (by assumption)).mono ?_); rintro e w' ⟨rfl, rfl⟩))
  all_goals
    go_ret2
    go_light
    refine ⟨ret2 ?_, rfl⟩
    first
      | exact lem_2 x y
      | (have L := lem_2 x y; have z : wrap64 0 = 0 := (by decide +kernel); simp_all)
set_option maxRecDepth 100000 in
set_option maxHeartbeats 1000000 in
theorem refDo_3 (x y : Int) (w : World) :
    Calls Try.prog 69 #[.int .i64 3, .int .i64 x, .int .i64 y] w fun e w' => e = .returned (.tuple #[.int .i64 (doV 3 x y), .bool true]) ∧ w = w' := by
  have hA := wrap32_bd x
  have hB := wrap32_bd y
  have hK := pw_pos (wrap32 y % 32).toNat
  have hK2 : pw (wrap32 y % 32).toNat ≤ 4294967296 := Int.le_trans (pw_le _ 32 (by omega)) (by decide +kernel)
  have hK0 : 1 ≤ pw 0 := pw_pos 0
  have hK1 : pw 0 ≤ 4294967296 := by decide +kernel
  go_enter Try.func69, Try.ntmps69
  go_wp2_with (first | ((with_reducible refine (refWrap_any _ _).mono ?_); rintro e w' ⟨rfl, rfl⟩) | ((with_reducible refine (refPlain_any _ _).mono ?_); rintro e w' ⟨rfl, rfl⟩) | ((with_reducible refine (refPower_int _ (by omega) _).mono ?_); rintro e w' ⟨rfl, rfl⟩) | ((with_reducible refine (refTruth_any _ _).mono ?_); rintro e w' ⟨rfl, rfl⟩) | ((with_reducible refine (refBits_any _ _ _ _ (by decide)).mono ?_); rintro e w' ⟨rfl, rfl⟩) | ((with_reducible refine (refDown_any _ _ _ hA (by assumption)).mono ?_); rintro e w' ⟨rfl, rfl⟩))
  all_goals
    go_ret2
    go_light
    refine ⟨ret2 ?_, rfl⟩
    first
      | exact lem_3 x y
      | (have L := lem_3 x y; have z : wrap64 0 = 0 := (by decide +kernel); simp_all)
set_option maxRecDepth 100000 in
set_option maxHeartbeats 1000000 in
theorem refDo_4z (x y : Int) (w : World) (hb : wrap32 y = 0) :
    Calls Try.prog 69 #[.int .i64 4, .int .i64 x, .int .i64 y] w fun e w' => e = .returned (.tuple #[.int .i64 0, .bool false]) ∧ w = w' := by
  have hA := wrap32_bd x
  have hB := wrap32_bd y
  have hK := pw_pos (wrap32 y % 32).toNat
  have hK2 : pw (wrap32 y % 32).toNat ≤ 4294967296 := Int.le_trans (pw_le _ 32 (by omega)) (by decide +kernel)
  have hK0 : 1 ≤ pw 0 := pw_pos 0
  have hK1 : pw 0 ≤ 4294967296 := by decide +kernel
  have hb0 : (wrap32 y == 0) = true := by simp [hb]
  go_enter Try.func69, Try.ntmps69
  go_wp2_with (first | ((with_reducible refine (refWrap_any _ _).mono ?_); rintro e w' ⟨rfl, rfl⟩) | ((with_reducible refine (refPlain_any _ _).mono ?_); rintro e w' ⟨rfl, rfl⟩) | ((with_reducible refine (refPower_int _ (by omega) _).mono ?_); rintro e w' ⟨rfl, rfl⟩) | ((with_reducible refine (refTruth_any _ _).mono ?_); rintro e w' ⟨rfl, rfl⟩) | ((with_reducible refine (refBits_any _ _ _ _ (by decide)).mono ?_); rintro e w' ⟨rfl, rfl⟩) | ((with_reducible refine (refDown_any _ _ _ hA (by assumption)).mono ?_); rintro e w' ⟨rfl, rfl⟩))
  go_ret2
  exact ⟨rfl, rfl⟩
set_option maxRecDepth 100000 in
set_option maxHeartbeats 1000000 in
theorem refDo_4 (x y : Int) (w : World) (hb : ¬ wrap32 y = 0) :
    Calls Try.prog 69 #[.int .i64 4, .int .i64 x, .int .i64 y] w fun e w' => e = .returned (.tuple #[.int .i64 (doV 4 x y), .bool true]) ∧ w = w' := by
  have hA := wrap32_bd x
  have hB := wrap32_bd y
  have hK := pw_pos (wrap32 y % 32).toNat
  have hK2 : pw (wrap32 y % 32).toNat ≤ 4294967296 := Int.le_trans (pw_le _ 32 (by omega)) (by decide +kernel)
  have hK0 : 1 ≤ pw 0 := pw_pos 0
  have hK1 : pw 0 ≤ 4294967296 := by decide +kernel
  have hb0 : (wrap32 y == 0) = false := by simp [hb]
  have hq0 : ¬ wrap32 y % 4294967296 = 0 := by omega
  go_enter Try.func69, Try.ntmps69
  go_wp2_with (first | ((with_reducible refine (refWrap_any _ _).mono ?_); rintro e w' ⟨rfl, rfl⟩) | ((with_reducible refine (refPlain_any _ _).mono ?_); rintro e w' ⟨rfl, rfl⟩) | ((with_reducible refine (refPower_int _ (by omega) _).mono ?_); rintro e w' ⟨rfl, rfl⟩) | ((with_reducible refine (refTruth_any _ _).mono ?_); rintro e w' ⟨rfl, rfl⟩) | ((with_reducible refine (refBits_any _ _ _ _ (by decide)).mono ?_); rintro e w' ⟨rfl, rfl⟩) | ((with_reducible refine (refDown_any _ _ _ hA (by assumption)).mono ?_); rintro e w' ⟨rfl, rfl⟩))
  all_goals
    go_ret2
    go_light
    refine ⟨ret2 ?_, rfl⟩
    first
      | exact lem_4 x y hb
      | (have L := lem_4 x y hb; have z : wrap64 0 = 0 := (by decide +kernel); simp_all)
set_option maxRecDepth 100000 in
set_option maxHeartbeats 1000000 in
theorem refDo_5z (x y : Int) (w : World) (hb : wrap32 y = 0) :
    Calls Try.prog 69 #[.int .i64 5, .int .i64 x, .int .i64 y] w fun e w' => e = .returned (.tuple #[.int .i64 0, .bool false]) ∧ w = w' := by
  have hA := wrap32_bd x
  have hB := wrap32_bd y
  have hK := pw_pos (wrap32 y % 32).toNat
  have hK2 : pw (wrap32 y % 32).toNat ≤ 4294967296 := Int.le_trans (pw_le _ 32 (by omega)) (by decide +kernel)
  have hK0 : 1 ≤ pw 0 := pw_pos 0
  have hK1 : pw 0 ≤ 4294967296 := by decide +kernel
  have hb0 : (wrap32 y == 0) = true := by simp [hb]
  go_enter Try.func69, Try.ntmps69
  go_wp2_with (first | ((with_reducible refine (refWrap_any _ _).mono ?_); rintro e w' ⟨rfl, rfl⟩) | ((with_reducible refine (refPlain_any _ _).mono ?_); rintro e w' ⟨rfl, rfl⟩) | ((with_reducible refine (refPower_int _ (by omega) _).mono ?_); rintro e w' ⟨rfl, rfl⟩) | ((with_reducible refine (refTruth_any _ _).mono ?_); rintro e w' ⟨rfl, rfl⟩) | ((with_reducible refine (refBits_any _ _ _ _ (by decide)).mono ?_); rintro e w' ⟨rfl, rfl⟩) | ((with_reducible refine (refDown_any _ _ _ hA (by assumption)).mono ?_); rintro e w' ⟨rfl, rfl⟩))
  go_ret2
  exact ⟨rfl, rfl⟩
set_option maxRecDepth 100000 in
set_option maxHeartbeats 1000000 in
theorem refDo_5 (x y : Int) (w : World) (hb : ¬ wrap32 y = 0) :
    Calls Try.prog 69 #[.int .i64 5, .int .i64 x, .int .i64 y] w fun e w' => e = .returned (.tuple #[.int .i64 (doV 5 x y), .bool true]) ∧ w = w' := by
  have hA := wrap32_bd x
  have hB := wrap32_bd y
  have hK := pw_pos (wrap32 y % 32).toNat
  have hK2 : pw (wrap32 y % 32).toNat ≤ 4294967296 := Int.le_trans (pw_le _ 32 (by omega)) (by decide +kernel)
  have hK0 : 1 ≤ pw 0 := pw_pos 0
  have hK1 : pw 0 ≤ 4294967296 := by decide +kernel
  have hb0 : (wrap32 y == 0) = false := by simp [hb]
  have hq0 : ¬ wrap32 y % 4294967296 = 0 := by omega
  go_enter Try.func69, Try.ntmps69
  go_wp2_with (first | ((with_reducible refine (refWrap_any _ _).mono ?_); rintro e w' ⟨rfl, rfl⟩) | ((with_reducible refine (refPlain_any _ _).mono ?_); rintro e w' ⟨rfl, rfl⟩) | ((with_reducible refine (refPower_int _ (by omega) _).mono ?_); rintro e w' ⟨rfl, rfl⟩) | ((with_reducible refine (refTruth_any _ _).mono ?_); rintro e w' ⟨rfl, rfl⟩) | ((with_reducible refine (refBits_any _ _ _ _ (by decide)).mono ?_); rintro e w' ⟨rfl, rfl⟩) | ((with_reducible refine (refDown_any _ _ _ hA (by assumption)).mono ?_); rintro e w' ⟨rfl, rfl⟩))
  all_goals
    go_ret2
    go_light
    refine ⟨ret2 ?_, rfl⟩
    first
      | exact lem_5 x y hb
      | (have L := lem_5 x y hb; have z : wrap64 0 = 0 := (by decide +kernel); simp_all)
set_option maxRecDepth 100000 in
set_option maxHeartbeats 1000000 in
theorem refDo_6z (x y : Int) (w : World) (hb : wrap32 y = 0) :
    Calls Try.prog 69 #[.int .i64 6, .int .i64 x, .int .i64 y] w fun e w' => e = .returned (.tuple #[.int .i64 0, .bool false]) ∧ w = w' := by
  have hA := wrap32_bd x
  have hB := wrap32_bd y
  have hK := pw_pos (wrap32 y % 32).toNat
  have hK2 : pw (wrap32 y % 32).toNat ≤ 4294967296 := Int.le_trans (pw_le _ 32 (by omega)) (by decide +kernel)
  have hK0 : 1 ≤ pw 0 := pw_pos 0
  have hK1 : pw 0 ≤ 4294967296 := by decide +kernel
  have hb0 : (wrap32 y == 0) = true := by simp [hb]
  go_enter Try.func69, Try.ntmps69
  go_wp2_with (first | ((with_reducible refine (refWrap_any _ _).mono ?_); rintro e w' ⟨rfl, rfl⟩) | ((with_reducible refine (refPlain_any _ _).mono ?_); rintro e w' ⟨rfl, rfl⟩) | ((with_reducible refine (refPower_int _ (by omega) _).mono ?_); rintro e w' ⟨rfl, rfl⟩) | ((with_reducible refine (refTruth_any _ _).mono ?_); rintro e w' ⟨rfl, rfl⟩) | ((with_reducible refine (refBits_any _ _ _ _ (by decide)).mono ?_); rintro e w' ⟨rfl, rfl⟩) | ((with_reducible refine (refDown_any _ _ _ hA (by assumption)).mono ?_); rintro e w' ⟨rfl, rfl⟩))
  go_ret2
  exact ⟨rfl, rfl⟩
set_option maxRecDepth 100000 in
set_option maxHeartbeats 1000000 in
theorem refDo_6 (x y : Int) (w : World) (hb : ¬ wrap32 y = 0) :
    Calls Try.prog 69 #[.int .i64 6, .int .i64 x, .int .i64 y] w fun e w' => e = .returned (.tuple #[.int .i64 (doV 6 x y), .bool true]) ∧ w = w' := by
  have hA := wrap32_bd x
  have hB := wrap32_bd y
  have hK := pw_pos (wrap32 y % 32).toNat
  have hK2 : pw (wrap32 y % 32).toNat ≤ 4294967296 := Int.le_trans (pw_le _ 32 (by omega)) (by decide +kernel)
  have hK0 : 1 ≤ pw 0 := pw_pos 0
  have hK1 : pw 0 ≤ 4294967296 := by decide +kernel
  have hb0 : (wrap32 y == 0) = false := by simp [hb]
  have hq0 : ¬ wrap32 y % 4294967296 = 0 := by omega
  go_enter Try.func69, Try.ntmps69
  go_wp2_with (first | ((with_reducible refine (refWrap_any _ _).mono ?_); rintro e w' ⟨rfl, rfl⟩) | ((with_reducible refine (refPlain_any _ _).mono ?_); rintro e w' ⟨rfl, rfl⟩) | ((with_reducible refine (refPower_int _ (by omega) _).mono ?_); rintro e w' ⟨rfl, rfl⟩) | ((with_reducible refine (refTruth_any _ _).mono ?_); rintro e w' ⟨rfl, rfl⟩) | ((with_reducible refine (refBits_any _ _ _ _ (by decide)).mono ?_); rintro e w' ⟨rfl, rfl⟩) | ((with_reducible refine (refDown_any _ _ _ hA (by assumption)).mono ?_); rintro e w' ⟨rfl, rfl⟩))
  all_goals
    go_ret2
    go_light
    refine ⟨ret2 ?_, rfl⟩
    first
      | exact lem_6 x y hb
      | (have L := lem_6 x y hb; have z : wrap64 0 = 0 := (by decide +kernel); simp_all)
set_option maxRecDepth 100000 in
set_option maxHeartbeats 1000000 in
theorem refDo_7z (x y : Int) (w : World) (hb : wrap32 y = 0) :
    Calls Try.prog 69 #[.int .i64 7, .int .i64 x, .int .i64 y] w fun e w' => e = .returned (.tuple #[.int .i64 0, .bool false]) ∧ w = w' := by
  have hA := wrap32_bd x
  have hB := wrap32_bd y
  have hK := pw_pos (wrap32 y % 32).toNat
  have hK2 : pw (wrap32 y % 32).toNat ≤ 4294967296 := Int.le_trans (pw_le _ 32 (by omega)) (by decide +kernel)
  have hK0 : 1 ≤ pw 0 := pw_pos 0
  have hK1 : pw 0 ≤ 4294967296 := by decide +kernel
  have hb0 : (wrap32 y == 0) = true := by simp [hb]
  go_enter Try.func69, Try.ntmps69
  go_wp2_with (first | ((with_reducible refine (refWrap_any _ _).mono ?_); rintro e w' ⟨rfl, rfl⟩) | ((with_reducible refine (refPlain_any _ _).mono ?_); rintro e w' ⟨rfl, rfl⟩) | ((with_reducible refine (refPower_int _ (by omega) _).mono ?_); rintro e w' ⟨rfl, rfl⟩) | ((with_reducible refine (refTruth_any _ _).mono ?_); rintro e w' ⟨rfl, rfl⟩) | ((with_reducible refine (refBits_any _ _ _ _ (by decide)).mono ?_); rintro e w' ⟨rfl, rfl⟩) | ((with_reducible refine (refDown_any _ _ _ hA (by assumption)).mono ?_); rintro e w' ⟨rfl, rfl⟩))
  go_ret2
  exact ⟨rfl, rfl⟩
set_option maxRecDepth 100000 in
set_option maxHeartbeats 1000000 in
theorem refDo_7 (x y : Int) (w : World) (hb : ¬ wrap32 y = 0) :
    Calls Try.prog 69 #[.int .i64 7, .int .i64 x, .int .i64 y] w fun e w' => e = .returned (.tuple #[.int .i64 (doV 7 x y), .bool true]) ∧ ∃ n, w' = w.drewN n := by
  have hA := wrap32_bd x
  have hB := wrap32_bd y
  have hK := pw_pos (wrap32 y % 32).toNat
  have hK2 : pw (wrap32 y % 32).toNat ≤ 4294967296 := Int.le_trans (pw_le _ 32 (by omega)) (by decide +kernel)
  have hK0 : 1 ≤ pw 0 := pw_pos 0
  have hK1 : pw 0 ≤ 4294967296 := by decide +kernel
  have hb0 : (wrap32 y == 0) = false := by simp [hb]
  have hq0 : ¬ wrap32 y % 4294967296 = 0 := by omega
  go_enter Try.func69, Try.ntmps69
  go_wp2_with (first | ((with_reducible refine (refWrap_any _ _).mono ?_); rintro e w' ⟨rfl, rfl⟩) | ((with_reducible refine (refPlain_any _ _).mono ?_); rintro e w' ⟨rfl, rfl⟩) | ((with_reducible refine (refPower_int _ (by omega) _).mono ?_); rintro e w' ⟨rfl, rfl⟩) | ((with_reducible refine (refTruth_any _ _).mono ?_); rintro e w' ⟨rfl, rfl⟩) | ((with_reducible refine (refBits_any _ _ _ _ (by decide)).mono ?_); rintro e w' ⟨rfl, rfl⟩) | ((with_reducible refine (refDown_any _ _ _ hA (by assumption)).mono ?_); rintro e w' ⟨rfl, rfl⟩))
  go_quiet ((go_at_call 70; exact Calls.quiet_of_same ((refPlain_any _ _).mono fun _ _ h => ⟨h.1, h.2.symm⟩)))
  go_wp2_with (first | ((with_reducible refine (refWrap_any _ _).mono ?_); rintro e w' ⟨rfl, rfl⟩))
  all_goals
    go_ret2
    go_light
    refine ⟨ret2 ?_, _, rfl⟩
    first
      | exact lem_7 x y hb
      | (have L := lem_7 x y hb; have z : wrap64 0 = 0 := (by decide +kernel); simp_all)
set_option maxRecDepth 100000 in
theorem refDo_none (op x y : Int) (w : World) (h : op < 1 ∨ 23 < op) :
    Calls Try.prog 69 #[.int .i64 op, .int .i64 x, .int .i64 y] w fun e w' => e = .returned (.tuple #[.int .i64 0, .bool false]) ∧ w = w' := by
  have hA := wrap32_bd x
  have hB := wrap32_bd y
  rcases h with h | h
  all_goals
    go_enter Try.func69, Try.ntmps69
    go_wp2_with (first | ((with_reducible refine (refWrap_any _ _).mono ?_); rintro e w' ⟨rfl, rfl⟩) | ((with_reducible refine (refPlain_any _ _).mono ?_); rintro e w' ⟨rfl, rfl⟩) | ((with_reducible refine (refPower_int _ (by omega) _).mono ?_); rintro e w' ⟨rfl, rfl⟩))
    all_goals
      go_ret2
      exact ⟨rfl, rfl⟩
end Go.Proofs.Ytgnpbodhjmappaa
namespace Go.Proofs.Ytgnpbodhjmappaa
open Go.RowKit (wrap32 wrap64 intOf)

set_option maxRecDepth 100000 in
set_option maxHeartbeats 1000000 in
theorem refDo_8 (x y : Int) (w : World) :
    Calls Try.prog 69 #[.int .i64 8, .int .i64 x, .int .i64 y] w fun e w' => e = .returned (.tuple #[.int .i64 (doV 8 x y), .bool true]) ∧ w = w' := by
  have hA := wrap32_bd x
  have hB := wrap32_bd y
  have hK := pw_pos (wrap32 y % 32).toNat
  have hK2 : pw (wrap32 y % 32).toNat ≤ 4294967296 := Int.le_trans (pw_le _ 32 (by omega)) (by decide +kernel)
  have hK0 : 1 ≤ pw 0 := pw_pos 0
  have hK1 : pw 0 ≤ 4294967296 := by decide +kernel
  go_enter Try.func69, Try.ntmps69
  go_wp2_with (first | ((with_reducible refine (refWrap_any _ _).mono ?_); rintro e w' ⟨rfl, rfl⟩) | ((with_reducible refine (refPlain_any _ _).mono ?_); rintro e w' ⟨rfl, rfl⟩) | ((with_reducible refine (refPower_int _ (by omega) _).mono ?_); rintro e w' ⟨rfl, rfl⟩) | ((with_reducible refine (refTruth_any _ _).mono ?_); rintro e w' ⟨rfl, rfl⟩) | ((with_reducible refine (refBits_any _ _ _ _ (by decide)).mono ?_); rintro e w' ⟨rfl, rfl⟩) | ((with_reducible refine (refDown_any _ _ _ hA (by assumption)).mono ?_); rintro e w' ⟨rfl, rfl⟩))
  all_goals
    go_ret2
    go_light
    refine ⟨ret2 ?_, rfl⟩
    first
      | exact lem_8 x y
      | (have L := lem_8 x y; have z : wrap64 0 = 0 := (by decide +kernel); simp_all)
set_option maxRecDepth 100000 in
set_option maxHeartbeats 1000000 in
theorem refDo_9 (x y : Int) (w : World) :
    Calls Try.prog 69 #[.int .i64 9, .int .i64 x, .int .i64 y] w fun e w' => e = .returned (.tuple #[.int .i64 (doV 9 x y), .bool true]) ∧ w = w' := by
  have hA := wrap32_bd x
  have hB := wrap32_bd y
  have hK := pw_pos (wrap32 y % 32).toNat
  have hK2 : pw (wrap32 y % 32).toNat ≤ 4294967296 := Int.le_trans (pw_le _ 32 (by omega)) (by decide +kernel)
  have hK0 : 1 ≤ pw 0 := pw_pos 0
  have hK1 : pw 0 ≤ 4294967296 := by decide +kernel
  go_enter Try.func69, Try.ntmps69
  go_wp2_with (first | ((with_reducible refine (refWrap_any _ _).mono ?_); rintro e w' ⟨rfl, rfl⟩) | ((with_reducible refine (refPlain_any _ _).mono ?_); rintro e w' ⟨rfl, rfl⟩) | ((with_reducible refine (refPower_int _ (by omega) _).mono ?_); rintro e w' ⟨rfl, rfl⟩) | ((with_reducible refine (refTruth_any _ _).mono ?_); rintro e w' ⟨rfl, rfl⟩) | ((with_reducible refine (refBits_any _ _ _ _ (by decide)).mono ?_); rintro e w' ⟨rfl, rfl⟩) | ((with_reducible refine (refDown_any _ _ _ hA (by assumption)).mono ?_); rintro e w' ⟨rfl, rfl⟩))
  all_goals
    go_ret2
    go_light
    refine ⟨ret2 ?_, rfl⟩
    first
      | exact lem_9 x y
      | (have L := lem_9 x y; have z : wrap64 0 = 0 := (by decide +kernel); simp_all)
set_option maxRecDepth 100000 in
set_option maxHeartbeats 1000000 in
theorem refDo_10 (x y : Int) (w : World) :
    Calls Try.prog 69 #[.int .i64 10, .int .i64 x, .int .i64 y] w fun e w' => e = .returned (.tuple #[.int .i64 (doV 10 x y), .bool true]) ∧ w = w' := by
  have hA := wrap32_bd x
  have hB := wrap32_bd y
  have hK := pw_pos (wrap32 y % 32).toNat
  have hK2 : pw (wrap32 y % 32).toNat ≤ 4294967296 := Int.le_trans (pw_le _ 32 (by omega)) (by decide +kernel)
  have hK0 : 1 ≤ pw 0 := pw_pos 0
  have hK1 : pw 0 ≤ 4294967296 := by decide +kernel
  go_enter Try.func69, Try.ntmps69
  go_wp2_with (first | ((with_reducible refine (refWrap_any _ _).mono ?_); rintro e w' ⟨rfl, rfl⟩) | ((with_reducible refine (refPlain_any _ _).mono ?_); rintro e w' ⟨rfl, rfl⟩) | ((with_reducible refine (refPower_int _ (by omega) _).mono ?_); rintro e w' ⟨rfl, rfl⟩) | ((with_reducible refine (refTruth_any _ _).mono ?_); rintro e w' ⟨rfl, rfl⟩) | ((with_reducible refine (refBits_any _ _ _ _ (by decide)).mono ?_); rintro e w' ⟨rfl, rfl⟩) | ((with_reducible refine (refDown_any _ _ _ hA (by assumption)).mono ?_); rintro e w' ⟨rfl, rfl⟩))
  all_goals
    go_ret2
    go_light
    refine ⟨ret2 ?_, rfl⟩
    first
      | exact lem_10 x y
      | (have L := lem_10 x y; have z : wrap64 0 = 0 := (by decide +kernel); simp_all)
set_option maxRecDepth 100000 in
set_option maxHeartbeats 1000000 in
theorem refDo_11 (x y : Int) (w : World) :
    Calls Try.prog 69 #[.int .i64 11, .int .i64 x, .int .i64 y] w fun e w' => e = .returned (.tuple #[.int .i64 (doV 11 x y), .bool true]) ∧ w = w' := by
  have hA := wrap32_bd x
  have hB := wrap32_bd y
  have hK := pw_pos (wrap32 y % 32).toNat
  have hK2 : pw (wrap32 y % 32).toNat ≤ 4294967296 := Int.le_trans (pw_le _ 32 (by omega)) (by decide +kernel)
  have hK0 : 1 ≤ pw 0 := pw_pos 0
  have hK1 : pw 0 ≤ 4294967296 := by decide +kernel
  go_enter Try.func69, Try.ntmps69
  go_wp2_with (first | ((with_reducible refine (refWrap_any _ _).mono ?_); rintro e w' ⟨rfl, rfl⟩) | ((with_reducible refine (refPlain_any _ _).mono ?_); rintro e w' ⟨rfl, rfl⟩) | ((with_reducible refine (refPower_int _ (by omega) _).mono ?_); rintro e w' ⟨rfl, rfl⟩) | ((with_reducible refine (refTruth_any _ _).mono ?_); rintro e w' ⟨rfl, rfl⟩) | ((with_reducible refine (refBits_any _ _ _ _ (by decide)).mono ?_); rintro e w' ⟨rfl, rfl⟩) | ((with_reducible refine (refDown_any _ _ _ hA (by assumption)).mono ?_); rintro e w' ⟨rfl, rfl⟩))
  all_goals
    go_ret2
    go_light
    refine ⟨ret2 ?_, rfl⟩
    first
      | exact lem_11 x y
      | (have L := lem_11 x y; have z : wrap64 0 = 0 := (by decide +kernel); simp_all)
set_option maxRecDepth 100000 in
set_option maxHeartbeats 1000000 in
theorem refDo_12 (x y : Int) (w : World) :
    Calls Try.prog 69 #[.int .i64 12, .int .i64 x, .int .i64 y] w fun e w' => e = .returned (.tuple #[.int .i64 (doV 12 x y), .bool true]) ∧ w = w' := by
  have hA := wrap32_bd x
  have hB := wrap32_bd y
  have hK := pw_pos (wrap32 y % 32).toNat
  have hK2 : pw (wrap32 y % 32).toNat ≤ 4294967296 := Int.le_trans (pw_le _ 32 (by omega)) (by decide +kernel)
  have hK0 : 1 ≤ pw 0 := pw_pos 0
  have hK1 : pw 0 ≤ 4294967296 := by decide +kernel
  go_enter Try.func69, Try.ntmps69
  go_wp2_with (first | ((with_reducible refine (refWrap_any _ _).mono ?_); rintro e w' ⟨rfl, rfl⟩) | ((with_reducible refine (refPlain_any _ _).mono ?_); rintro e w' ⟨rfl, rfl⟩) | ((with_reducible refine (refPower_int _ (by omega) _).mono ?_); rintro e w' ⟨rfl, rfl⟩) | ((with_reducible refine (refTruth_any _ _).mono ?_); rintro e w' ⟨rfl, rfl⟩) | ((with_reducible refine (refBits_any _ _ _ _ (by decide)).mono ?_); rintro e w' ⟨rfl, rfl⟩) | ((with_reducible refine (refDown_any _ _ _ hA (by assumption)).mono ?_); rintro e w' ⟨rfl, rfl⟩))
  all_goals
    go_ret2
    go_light
    refine ⟨ret2 ?_, rfl⟩
    first
      | exact lem_12 x y
      | (have L := lem_12 x y; have z : wrap64 0 = 0 := (by decide +kernel); simp_all)
set_option maxRecDepth 100000 in
set_option maxHeartbeats 1000000 in
theorem refDo_13 (x y : Int) (w : World) :
    Calls Try.prog 69 #[.int .i64 13, .int .i64 x, .int .i64 y] w fun e w' => e = .returned (.tuple #[.int .i64 (doV 13 x y), .bool true]) ∧ w = w' := by
  have hA := wrap32_bd x
  have hB := wrap32_bd y
  have hK := pw_pos (wrap32 y % 32).toNat
  have hK2 : pw (wrap32 y % 32).toNat ≤ 4294967296 := Int.le_trans (pw_le _ 32 (by omega)) (by decide +kernel)
  have hK0 : 1 ≤ pw 0 := pw_pos 0
  have hK1 : pw 0 ≤ 4294967296 := by decide +kernel
  go_enter Try.func69, Try.ntmps69
  go_wp2_with (first | ((with_reducible refine (refWrap_any _ _).mono ?_); rintro e w' ⟨rfl, rfl⟩) | ((with_reducible refine (refPlain_any _ _).mono ?_); rintro e w' ⟨rfl, rfl⟩) | ((with_reducible refine (refPower_int _ (by omega) _).mono ?_); rintro e w' ⟨rfl, rfl⟩) | ((with_reducible refine (refTruth_any _ _).mono ?_); rintro e w' ⟨rfl, rfl⟩) | ((with_reducible refine (refBits_any _ _ _ _ (by decide)).mono ?_); rintro e w' ⟨rfl, rfl⟩) | ((with_reducible refine (refDown_any _ _ _ hA (by assumption)).mono ?_); rintro e w' ⟨rfl, rfl⟩))
  all_goals
    go_ret2
    go_light
    refine ⟨ret2 ?_, rfl⟩
    first
      | exact lem_13 x y
      | (have L := lem_13 x y; have z : wrap64 0 = 0 := (by decide +kernel); simp_all)
end Go.Proofs.Ytgnpbodhjmappaa
namespace Go.Proofs.Ytgnpbodhjmappaa
open Go.RowKit (wrap32 wrap64 intOf)

set_option maxRecDepth 100000 in
set_option maxHeartbeats 1000000 in
theorem refDo_14 (x y : Int) (w : World) :
    Calls Try.prog 69 #[.int .i64 14, .int .i64 x, .int .i64 y] w fun e w' => e = .returned (.tuple #[.int .i64 (doV 14 x y), .bool true]) ∧ w = w' := by
  have hA := wrap32_bd x
  have hB := wrap32_bd y
  have hK := pw_pos (wrap32 y % 32).toNat
  have hK2 : pw (wrap32 y % 32).toNat ≤ 4294967296 := Int.le_trans (pw_le _ 32 (by omega)) (by decide +kernel)
  have hK0 : 1 ≤ pw 0 := pw_pos 0
  have hK1 : pw 0 ≤ 4294967296 := by decide +kernel
  go_enter Try.func69, Try.ntmps69
  go_wp2_with (first | ((with_reducible refine (refWrap_any _ _).mono ?_); rintro e w' ⟨rfl, rfl⟩) | ((with_reducible refine (refPlain_any _ _).mono ?_); rintro e w' ⟨rfl, rfl⟩) | ((with_reducible refine (refPower_int _ (by omega) _).mono ?_); rintro e w' ⟨rfl, rfl⟩) | ((with_reducible refine (refTruth_any _ _).mono ?_); rintro e w' ⟨rfl, rfl⟩) | ((with_reducible refine (refBits_any _ _ _ _ (by decide)).mono ?_); rintro e w' ⟨rfl, rfl⟩) | ((with_reducible refine (refDown_any _ _ _ hA (by assumption)).mono ?_); rintro e w' ⟨rfl, rfl⟩))
  all_goals
    go_ret2
    go_light
    refine ⟨ret2 ?_, rfl⟩
    first
      | exact lem_14 x y
      | (have L := lem_14 x y; have z : wrap64 0 = 0 := (by decide +kernel); simp_all)
set_option maxRecDepth 100000 in
set_option maxHeartbeats 1000000 in
theorem refDo_15 (x y : Int) (w : World) :
    Calls Try.prog 69 #[.int .i64 15, .int .i64 x, .int .i64 y] w fun e w' => e = .returned (.tuple #[.int .i64 (doV 15 x y), .bool true]) ∧ w = w' := by
  have hA := wrap32_bd x
  have hB := wrap32_bd y
  have hK := pw_pos (wrap32 y % 32).toNat
  have hK2 : pw (wrap32 y % 32).toNat ≤ 4294967296 := Int.le_trans (pw_le _ 32 (by omega)) (by decide +kernel)
  have hK0 : 1 ≤ pw 0 := pw_pos 0
  have hK1 : pw 0 ≤ 4294967296 := by decide +kernel
  go_enter Try.func69, Try.ntmps69
  go_wp2_with (first | ((with_reducible refine (refWrap_any _ _).mono ?_); rintro e w' ⟨rfl, rfl⟩) | ((with_reducible refine (refPlain_any _ _).mono ?_); rintro e w' ⟨rfl, rfl⟩) | ((with_reducible refine (refPower_int _ (by omega) _).mono ?_); rintro e w' ⟨rfl, rfl⟩) | ((with_reducible refine (refTruth_any _ _).mono ?_); rintro e w' ⟨rfl, rfl⟩) | ((with_reducible refine (refBits_any _ _ _ _ (by decide)).mono ?_); rintro e w' ⟨rfl, rfl⟩) | ((with_reducible refine (refDown_any _ _ _ hA (by assumption)).mono ?_); rintro e w' ⟨rfl, rfl⟩))
  all_goals
    go_ret2
    go_light
    refine ⟨ret2 ?_, rfl⟩
    first
      | exact lem_15 x y
      | (have L := lem_15 x y; have z : wrap64 0 = 0 := (by decide +kernel); simp_all)
set_option maxRecDepth 100000 in
set_option maxHeartbeats 1000000 in
theorem refDo_16 (x y : Int) (w : World) :
    Calls Try.prog 69 #[.int .i64 16, .int .i64 x, .int .i64 y] w fun e w' => e = .returned (.tuple #[.int .i64 (doV 16 x y), .bool true]) ∧ w = w' := by
  have hA := wrap32_bd x
  have hB := wrap32_bd y
  have hK := pw_pos (wrap32 y % 32).toNat
  have hK2 : pw (wrap32 y % 32).toNat ≤ 4294967296 := Int.le_trans (pw_le _ 32 (by omega)) (by decide +kernel)
  have hK0 : 1 ≤ pw 0 := pw_pos 0
  have hK1 : pw 0 ≤ 4294967296 := by decide +kernel
  go_enter Try.func69, Try.ntmps69
  go_wp2_with (first | ((with_reducible refine (refWrap_any _ _).mono ?_); rintro e w' ⟨rfl, rfl⟩) | ((with_reducible refine (refPlain_any _ _).mono ?_); rintro e w' ⟨rfl, rfl⟩) | ((with_reducible refine (refPower_int _ (by omega) _).mono ?_); rintro e w' ⟨rfl, rfl⟩) | ((with_reducible refine (refTruth_any _ _).mono ?_); rintro e w' ⟨rfl, rfl⟩) | ((with_reducible refine (refBits_any _ _ _ _ (by decide)).mono ?_); rintro e w' ⟨rfl, rfl⟩) | ((with_reducible refine (refDown_any _ _ _ hA (by assumption)).mono ?_); rintro e w' ⟨rfl, rfl⟩))
  all_goals
    go_ret2
    go_light
    refine ⟨ret2 ?_, rfl⟩
    first
      | exact lem_16 x y
      | (have L := lem_16 x y; have z : wrap64 0 = 0 := (by decide +kernel); simp_all)
set_option maxRecDepth 100000 in
set_option maxHeartbeats 1000000 in
theorem refDo_17 (x y : Int) (w : World) :
    Calls Try.prog 69 #[.int .i64 17, .int .i64 x, .int .i64 y] w fun e w' => e = .returned (.tuple #[.int .i64 (doV 17 x y), .bool true]) ∧ w = w' := by
  have hA := wrap32_bd x
  have hB := wrap32_bd y
  have hK := pw_pos (wrap32 y % 32).toNat
  have hK2 : pw (wrap32 y % 32).toNat ≤ 4294967296 := Int.le_trans (pw_le _ 32 (by omega)) (by decide +kernel)
  have hK0 : 1 ≤ pw 0 := pw_pos 0
  have hK1 : pw 0 ≤ 4294967296 := by decide +kernel
  go_enter Try.func69, Try.ntmps69
  go_wp2_with (first | ((with_reducible refine (refWrap_any _ _).mono ?_); rintro e w' ⟨rfl, rfl⟩) | ((with_reducible refine (refPlain_any _ _).mono ?_); rintro e w' ⟨rfl, rfl⟩) | ((with_reducible refine (refPower_int _ (by omega) _).mono ?_); rintro e w' ⟨rfl, rfl⟩) | ((with_reducible refine (refTruth_any _ _).mono ?_); rintro e w' ⟨rfl, rfl⟩) | ((with_reducible refine (refBits_any _ _ _ _ (by decide)).mono ?_); rintro e w' ⟨rfl, rfl⟩) | ((with_reducible refine (refDown_any _ _ _ hA (by assumption)).mono ?_); rintro e w' ⟨rfl, rfl⟩))
  all_goals
    go_ret2
    go_light
    refine ⟨ret2 ?_, rfl⟩
    first
      | exact lem_17 x y
      | (rw [doV_cmp _ _ _ (by omega), num_bd]; show _ = num (decide (wrap32 x ≤ wrap32 y)); congr 1; simp; omega)
      | (have L := lem_17 x y; simp_all)
set_option maxRecDepth 100000 in
set_option maxHeartbeats 1000000 in
theorem refDo_18 (x y : Int) (w : World) :
    Calls Try.prog 69 #[.int .i64 18, .int .i64 x, .int .i64 y] w fun e w' => e = .returned (.tuple #[.int .i64 (doV 18 x y), .bool true]) ∧ w = w' := by
  have hA := wrap32_bd x
  have hB := wrap32_bd y
  have hK := pw_pos (wrap32 y % 32).toNat
  have hK2 : pw (wrap32 y % 32).toNat ≤ 4294967296 := Int.le_trans (pw_le _ 32 (by omega)) (by decide +kernel)
  have hK0 : 1 ≤ pw 0 := pw_pos 0
  have hK1 : pw 0 ≤ 4294967296 := by decide +kernel
  go_enter Try.func69, Try.ntmps69
  go_wp2_with (first | ((with_reducible refine (refWrap_any _ _).mono ?_); rintro e w' ⟨rfl, rfl⟩) | ((with_reducible refine (refPlain_any _ _).mono ?_); rintro e w' ⟨rfl, rfl⟩) | ((with_reducible refine (refPower_int _ (by omega) _).mono ?_); rintro e w' ⟨rfl, rfl⟩) | ((with_reducible refine (refTruth_any _ _).mono ?_); rintro e w' ⟨rfl, rfl⟩) | ((with_reducible refine (refBits_any _ _ _ _ (by decide)).mono ?_); rintro e w' ⟨rfl, rfl⟩) | ((with_reducible refine (refDown_any _ _ _ hA (by assumption)).mono ?_); rintro e w' ⟨rfl, rfl⟩))
  all_goals
    go_ret2
    go_light
    refine ⟨ret2 ?_, rfl⟩
    first
      | exact lem_18 x y
      | (have L := lem_18 x y; have z : wrap64 0 = 0 := (by decide +kernel); simp_all)
end Go.Proofs.Ytgnpbodhjmappaa
namespace Go.Proofs.Ytgnpbodhjmappaa
open Go.RowKit (wrap32 wrap64 intOf)

set_option maxRecDepth 100000 in
set_option maxHeartbeats 1000000 in
theorem refDo_19 (x y : Int) (w : World) :
    Calls Try.prog 69 #[.int .i64 19, .int .i64 x, .int .i64 y] w fun e w' => e = .returned (.tuple #[.int .i64 (doV 19 x y), .bool true]) ∧ w = w' := by
  have hA := wrap32_bd x
  have hB := wrap32_bd y
  have hK := pw_pos (wrap32 y % 32).toNat
  have hK2 : pw (wrap32 y % 32).toNat ≤ 4294967296 := Int.le_trans (pw_le _ 32 (by omega)) (by decide +kernel)
  have hK0 : 1 ≤ pw 0 := pw_pos 0
  have hK1 : pw 0 ≤ 4294967296 := by decide +kernel
  go_enter Try.func69, Try.ntmps69
  go_wp2_with (first | ((with_reducible refine (refWrap_any _ _).mono ?_); rintro e w' ⟨rfl, rfl⟩) | ((with_reducible refine (refPlain_any _ _).mono ?_); rintro e w' ⟨rfl, rfl⟩) | ((with_reducible refine (refPower_int _ (by omega) _).mono ?_); rintro e w' ⟨rfl, rfl⟩) | ((with_reducible refine (refTruth_any _ _).mono ?_); rintro e w' ⟨rfl, rfl⟩) | ((with_reducible refine (refBits_any _ _ _ _ (by decide)).mono ?_); rintro e w' ⟨rfl, rfl⟩) | ((with_reducible refine (refDown_any _ _ _ hA (by assumption)).mono ?_); rintro e w' ⟨rfl, rfl⟩))
  all_goals
    go_ret2
    go_light
    refine ⟨ret2 ?_, rfl⟩
    first
      | exact lem_19 x y
      | (have L := lem_19 x y; have z : wrap64 0 = 0 := (by decide +kernel); simp_all)
set_option maxRecDepth 100000 in
set_option maxHeartbeats 1000000 in
theorem refDo_20 (x y : Int) (w : World) :
    Calls Try.prog 69 #[.int .i64 20, .int .i64 x, .int .i64 y] w fun e w' => e = .returned (.tuple #[.int .i64 (doV 20 x y), .bool true]) ∧ w = w' := by
  have hA := wrap32_bd x
  have hB := wrap32_bd y
  have hK := pw_pos (wrap32 y % 32).toNat
  have hK2 : pw (wrap32 y % 32).toNat ≤ 4294967296 := Int.le_trans (pw_le _ 32 (by omega)) (by decide +kernel)
  have hK0 : 1 ≤ pw 0 := pw_pos 0
  have hK1 : pw 0 ≤ 4294967296 := by decide +kernel
  go_enter Try.func69, Try.ntmps69
  go_wp2_with (first | ((with_reducible refine (refWrap_any _ _).mono ?_); rintro e w' ⟨rfl, rfl⟩) | ((with_reducible refine (refPlain_any _ _).mono ?_); rintro e w' ⟨rfl, rfl⟩) | ((with_reducible refine (refPower_int _ (by omega) _).mono ?_); rintro e w' ⟨rfl, rfl⟩) | ((with_reducible refine (refTruth_any _ _).mono ?_); rintro e w' ⟨rfl, rfl⟩) | ((with_reducible refine (refBits_any _ _ _ _ (by decide)).mono ?_); rintro e w' ⟨rfl, rfl⟩) | ((with_reducible refine (refDown_any _ _ _ hA (by assumption)).mono ?_); rintro e w' ⟨rfl, rfl⟩))
  all_goals
    go_ret2
    go_light
    refine ⟨ret2 ?_, rfl⟩
    first
      | exact lem_20 x y
      | (have L := lem_20 x y; have z : wrap64 0 = 0 := (by decide +kernel); simp_all)
set_option maxRecDepth 100000 in
set_option maxHeartbeats 1000000 in
theorem refDo_21 (x y : Int) (w : World) :
    Calls Try.prog 69 #[.int .i64 21, .int .i64 x, .int .i64 y] w fun e w' => e = .returned (.tuple #[.int .i64 (doV 21 x y), .bool true]) ∧ w = w' := by
  have hA := wrap32_bd x
  have hB := wrap32_bd y
  have hK := pw_pos (wrap32 y % 32).toNat
  have hK2 : pw (wrap32 y % 32).toNat ≤ 4294967296 := Int.le_trans (pw_le _ 32 (by omega)) (by decide +kernel)
  have hK0 : 1 ≤ pw 0 := pw_pos 0
  have hK1 : pw 0 ≤ 4294967296 := by decide +kernel
  go_enter Try.func69, Try.ntmps69
  go_wp2_with (first | ((with_reducible refine (refWrap_any _ _).mono ?_); rintro e w' ⟨rfl, rfl⟩) | ((with_reducible refine (refPlain_any _ _).mono ?_); rintro e w' ⟨rfl, rfl⟩) | ((with_reducible refine (refPower_int _ (by omega) _).mono ?_); rintro e w' ⟨rfl, rfl⟩) | ((with_reducible refine (refTruth_any _ _).mono ?_); rintro e w' ⟨rfl, rfl⟩) | ((with_reducible refine (refBits_any _ _ _ _ (by decide)).mono ?_); rintro e w' ⟨rfl, rfl⟩) | ((with_reducible refine (refDown_any _ _ _ hA (by assumption)).mono ?_); rintro e w' ⟨rfl, rfl⟩))
  all_goals
    go_ret2
    go_light
    refine ⟨ret2 ?_, rfl⟩
    first
      | exact lem_21 x y
      | (have L := lem_21 x y; have z : wrap64 0 = 0 := (by decide +kernel); simp_all)
set_option maxRecDepth 100000 in
set_option maxHeartbeats 1000000 in
theorem refDo_22 (x y : Int) (w : World) :
    Calls Try.prog 69 #[.int .i64 22, .int .i64 x, .int .i64 y] w fun e w' => e = .returned (.tuple #[.int .i64 (doV 22 x y), .bool true]) ∧ w = w' := by
  have hA := wrap32_bd x
  have hB := wrap32_bd y
  have hK := pw_pos (wrap32 y % 32).toNat
  have hK2 : pw (wrap32 y % 32).toNat ≤ 4294967296 := Int.le_trans (pw_le _ 32 (by omega)) (by decide +kernel)
  have hK0 : 1 ≤ pw 0 := pw_pos 0
  have hK1 : pw 0 ≤ 4294967296 := by decide +kernel
  go_enter Try.func69, Try.ntmps69
  go_wp2_with (first | ((with_reducible refine (refWrap_any _ _).mono ?_); rintro e w' ⟨rfl, rfl⟩) | ((with_reducible refine (refPlain_any _ _).mono ?_); rintro e w' ⟨rfl, rfl⟩) | ((with_reducible refine (refPower_int _ (by omega) _).mono ?_); rintro e w' ⟨rfl, rfl⟩) | ((with_reducible refine (refTruth_any _ _).mono ?_); rintro e w' ⟨rfl, rfl⟩) | ((with_reducible refine (refBits_any _ _ _ _ (by decide)).mono ?_); rintro e w' ⟨rfl, rfl⟩) | ((with_reducible refine (refDown_any _ _ _ hA (by assumption)).mono ?_); rintro e w' ⟨rfl, rfl⟩))
  all_goals
    go_ret2
    go_light
    refine ⟨ret2 ?_, rfl⟩
    first
      | exact lem_22 x y
      | (have L := lem_22 x y; have z : wrap64 0 = 0 := (by decide +kernel); simp_all)
set_option maxRecDepth 100000 in
set_option maxHeartbeats 1000000 in
theorem refDo_23 (x y : Int) (w : World) :
    Calls Try.prog 69 #[.int .i64 23, .int .i64 x, .int .i64 y] w fun e w' => e = .returned (.tuple #[.int .i64 (doV 23 x y), .bool true]) ∧ w = w' := by
  have hA := wrap32_bd x
  have hB := wrap32_bd y
  have hK := pw_pos (wrap32 y % 32).toNat
  have hK2 : pw (wrap32 y % 32).toNat ≤ 4294967296 := Int.le_trans (pw_le _ 32 (by omega)) (by decide +kernel)
  have hK0 : 1 ≤ pw 0 := pw_pos 0
  have hK1 : pw 0 ≤ 4294967296 := by decide +kernel
  go_enter Try.func69, Try.ntmps69
  go_wp2_with (first | ((with_reducible refine (refWrap_any _ _).mono ?_); rintro e w' ⟨rfl, rfl⟩) | ((with_reducible refine (refPlain_any _ _).mono ?_); rintro e w' ⟨rfl, rfl⟩) | ((with_reducible refine (refPower_int _ (by omega) _).mono ?_); rintro e w' ⟨rfl, rfl⟩) | ((with_reducible refine (refTruth_any _ _).mono ?_); rintro e w' ⟨rfl, rfl⟩) | ((with_reducible refine (refBits_any _ _ _ _ (by decide)).mono ?_); rintro e w' ⟨rfl, rfl⟩) | ((with_reducible refine (refDown_any _ _ _ hA (by assumption)).mono ?_); rintro e w' ⟨rfl, rfl⟩))
  all_goals
    go_ret2
    go_light
    refine ⟨ret2 ?_, rfl⟩
    first
      | exact lem_23 x y
      | (have L := lem_23 x y; have z : wrap64 0 = 0 := (by decide +kernel); simp_all)
end Go.Proofs.Ytgnpbodhjmappaa
namespace Go.Proofs.Ytgnpbodhjmappaa
open Go.RowKit (wrap32 wrap64 intOf)
theorem refDo_any (op x y : Int) (w : World) :
    Calls Try.prog 69 #[.int .i64 op, .int .i64 x, .int .i64 y] w fun e w' => e = .returned (.tuple #[.int .i64 (doV op x y), .bool (doB op y)]) ∧ ∃ n, w' = w.drewN n := by
  have up : ∀ {v : Value}, Calls Try.prog 69 #[.int .i64 op, .int .i64 x, .int .i64 y] w (fun e w' => e = .returned v ∧ w = w') →
      Calls Try.prog 69 #[.int .i64 op, .int .i64 x, .int .i64 y] w (fun e w' => e = .returned v ∧ ∃ n, w' = w.drewN n) :=
    fun h => h.mono fun _ _ ⟨he, hw⟩ => ⟨he, 0, hw.symm⟩
  by_cases h1 : op < 1 ∨ 23 < op
  · have hB : doB op y = false := by unfold doB; simp; omega
    rw [doV, if_pos hB, hB]; exact up (refDo_none op x y w h1)
  · by_cases h2 : (4 ≤ op ∧ op ≤ 7) ∧ wrap32 y = 0
    · have hB : doB op y = false := by unfold doB; simp; omega
      rw [doV, if_pos hB, hB]
      rcases (by omega : op = 4 ∨ op = 5 ∨ op = 6 ∨ op = 7) with rfl | rfl | rfl | rfl
      · exact up (refDo_4z x y w h2.2)
      · exact up (refDo_5z x y w h2.2)
      · exact up (refDo_6z x y w h2.2)
      · exact up (refDo_7z x y w h2.2)
    · have hB : doB op y = true := by unfold doB; simp; omega
      rw [hB]
      rcases (by omega : op = 1 ∨ op = 2 ∨ op = 3 ∨ op = 4 ∨ op = 5 ∨ op = 6 ∨ op = 7 ∨ op = 8 ∨ op = 9 ∨ op = 10 ∨ op = 11 ∨ op = 12 ∨ op = 13 ∨ op = 14 ∨ op = 15 ∨ op = 16 ∨ op = 17 ∨ op = 18 ∨ op = 19 ∨ op = 20 ∨ op = 21 ∨ op = 22 ∨ op = 23) with rfl | rfl | rfl | rfl | rfl | rfl | rfl | rfl | rfl | rfl | rfl | rfl | rfl | rfl | rfl | rfl | rfl | rfl | rfl | rfl | rfl | rfl | rfl
      · exact up (refDo_1 x y w)
      · exact up (refDo_2 x y w)
      · exact up (refDo_3 x y w)
      · exact up (refDo_4 x y w (by omega))
      · exact up (refDo_5 x y w (by omega))
      · exact up (refDo_6 x y w (by omega))
      · exact refDo_7 x y w (by omega)
      · exact up (refDo_8 x y w)
      · exact up (refDo_9 x y w)
      · exact up (refDo_10 x y w)
      · exact up (refDo_11 x y w)
      · exact up (refDo_12 x y w)
      · exact up (refDo_13 x y w)
      · exact up (refDo_14 x y w)
      · exact up (refDo_15 x y w)
      · exact up (refDo_16 x y w)
      · exact up (refDo_17 x y w)
      · exact up (refDo_18 x y w)
      · exact up (refDo_19 x y w)
      · exact up (refDo_20 x y w)
      · exact up (refDo_21 x y w)
      · exact up (refDo_22 x y w)
      · exact up (refDo_23 x y w)
end Go.Proofs.Ytgnpbodhjmappaa
