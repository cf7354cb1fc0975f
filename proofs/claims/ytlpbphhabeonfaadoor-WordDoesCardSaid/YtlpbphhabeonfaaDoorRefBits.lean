/-
  Contracts of doppelref01's bit, bits and down.
-/
import Derived.Test.YtlpbphhabeonfaaDoorRef
namespace Go.Proofs.YtlpbphhabeonfaaDoor
open Go.RowKit (wrap32 wrap64 intOf)

def wordN (a : Int) : Nat := (a % 4294967296).toNat
theorem wordN_cast (a : Int) : ((wordN a : Nat) : Int) = a % 4294967296 := by unfold wordN; omega
theorem wordN_lt (a : Int) : wordN a < 2 ^ 32 := by unfold wordN; simp only [Nat.reducePow]; omega
def shN (a : Int) (j : Nat) : Nat := wordN a / 2 ^ j
theorem shN_zero (a : Int) : ((shN a 0 : Nat) : Int) = a % 4294967296 := by unfold shN; rw [Nat.pow_zero, Nat.div_one, wordN_cast]
theorem shN_succ (a : Int) (j : Nat) : shN a (j + 1) = shN a j / 2 := by unfold shN; rw [Nat.pow_succ, Nat.div_div_eq_div_mul]
theorem shN_lt (a : Int) (j : Nat) : shN a j < 4294967296 := Nat.lt_of_le_of_lt (Nat.div_le_self _ _) (wordN_lt a)
def bitN (a : Int) (k : Nat) : Nat := shN a k % 2
theorem bitN_lt (a : Int) (k : Nat) : bitN a k < 2 := by unfold bitN; omega
theorem refBit_any (a : Int) (k : Nat) (w : World) (hk : k ≤ 62) :
    Calls Tryd.prog 37 #[.int .i64 a, .int .i64 k] w fun e w' => e = .returned (.int .i64 (bitN a k : Nat)) ∧ w = w' := by
  go_enter Tryd.func37, Tryd.ntmps37
  go_wp2_with ((with_reducible refine (refPlain_any _ _).mono ?_); rintro e w' ⟨rfl, rfl⟩)
  go_loop [5, 6] (fun p i => ∃ j : Nat, j ≤ k ∧ i = .int .i64 j ∧ p = .int .i64 ((shN a j : Nat) : Int)) (fun _ i => k - (intOf i).toNat)
  case atStart => exact ⟨0, Nat.zero_le _, rfl, by rw [shN_zero]⟩
  case round =>
    obtain ⟨j, hj, rfl, rfl⟩ := hrel
    have h0 := shN_lt a j
    have Es := Lib.hid (shN_succ a j)
    by_cases hlt : j < k
    · go_wp2
      go_round
      case rel => exact ⟨j + 1, by omega, by go_num, by rw [Es.out]; go_num⟩
      case measure => simp [intOf]; omega
    · go_wp2
      go_ret
      exact ⟨ret_int (by rw [show j = k from by omega]; unfold bitN; omega), rfl⟩
/-- The bits of kind 0 (and), 1 (or), 2 (xor). -/
def opN (kind : Int) (x y : Nat) : Nat := if kind = 0 then x &&& y else if kind = 1 then x ||| y else x ^^^ y
def oneB' (kind : Int) (x y : Nat) : Bool := if kind = 0 then decide (x * y = 1) else if kind = 1 then decide (x + y > 0) else decide (x + y = 1)
def partN (kind : Int) (a b : Int) (k : Nat) : Nat := opN kind (wordN a) (wordN b) % 2 ^ k
theorem partN_zero (kind a b : Int) : partN kind a b 0 = 0 := by unfold partN; rw [Nat.pow_zero, Nat.mod_one]
theorem testBit_div (x k : Nat) : x.testBit k = decide (x / 2 ^ k % 2 = 1) := Nat.testBit_eq_decide_div_mod_eq
theorem partN_succ (kind a b : Int) (k : Nat) : partN kind a b (k + 1) = partN kind a b k + if oneB' kind (bitN a k) (bitN b k) then 2 ^ k else 0 := by
  unfold partN
  rw [Nat.mod_pow_succ]
  congr 1
  have e : opN kind (wordN a) (wordN b) / 2 ^ k % 2 = if oneB' kind (bitN a k) (bitN b k) then 1 else 0 := by
    have h : (opN kind (wordN a) (wordN b)).testBit k = oneB' kind (bitN a k) (bitN b k) := by
      have ha : (wordN a).testBit k = decide (bitN a k = 1) := by rw [testBit_div]; rfl
      have hb : (wordN b).testBit k = decide (bitN b k = 1) := by rw [testBit_div]; rfl
      unfold opN oneB'
      have h1 := bitN_lt a k
      have h2 := bitN_lt b k
      generalize bitN a k = x at *
      generalize bitN b k = y at *
      rcases (by omega : x = 0 ∨ x = 1) with rfl | rfl <;> rcases (by omega : y = 0 ∨ y = 1) with rfl | rfl <;> (split; · rw [Nat.testBit_and, ha, hb]; rfl) <;> (split; · rw [Nat.testBit_or, ha, hb]; rfl) <;> (rw [Nat.testBit_xor, ha, hb]; rfl)
    rw [testBit_div] at h
    rw [← h]
    by_cases hh : opN kind (wordN a) (wordN b) / 2 ^ k % 2 = 1
    · simp [hh]
    · simp [hh]; omega
  rw [e]; split <;> simp
theorem partN_lt (kind a b : Int) (k : Nat) (hk : k ≤ 32) : partN kind a b k < 4294967296 := by
  have h1 : partN kind a b k < 2 ^ k := Nat.mod_lt _ (Nat.pow_pos (by omega))
  have h2 : 2 ^ k ≤ 2 ^ 32 := Nat.pow_le_pow_right (by omega) hk
  simp only [Nat.reducePow] at h2
  omega
set_option maxHeartbeats 1000000 in
theorem refBits_0 (a b : Int) (w : World) :
    Calls Tryd.prog 32 #[.int .i64 a, .int .i64 b, .int .i64 0] w fun e w' => e = .returned (.int .i64 (partN 0 a b 32 : Nat)) ∧ w = w' := by
  go_enter Tryd.func32, Tryd.ntmps32
  go_wp2
  go_loop [7, 8] (fun n i => ∃ j : Nat, j ≤ 32 ∧ i = .int .i64 j ∧ n = .int .i64 ((partN 0 a b j : Nat) : Int)) (fun _ i => 32 - (intOf i).toNat)
  case atStart => exact ⟨0, Nat.zero_le _, rfl, by rw [partN_zero]; rfl⟩
  case round =>
    obtain ⟨j, hj, rfl, rfl⟩ := hrel
    by_cases hlt : j < 32
    · have Es := Lib.hid (partN_succ 0 a b j)
      have h0 := partN_lt 0 a b j hj
      have h3 : pw j ≤ 4294967296 := Int.le_trans (pw_le j 32 (by omega)) (by decide +kernel)
      have h4 := pw_pos j
      have hx := bitN_lt a j
      have hy := bitN_lt b j
      rcases (by omega : bitN a j = 0 ∨ bitN a j = 1) with hx | hx <;> rcases (by omega : bitN b j = 0 ∨ bitN b j = 1) with hy | hy
      all_goals
        go_wp2_with (first | ((with_reducible refine (refBit_any _ _ _ (by omega)).mono ?_); rintro e w' ⟨rfl, rfl⟩) | ((with_reducible refine (refPower_any _ (by omega) _).mono ?_); rintro e w' ⟨rfl, rfl⟩))
        go_round
        case rel => exact ⟨j + 1, by omega, by go_num, by rw [Es.out, hx, hy]; simp [oneB', pw]⟩
        case measure => simp [intOf]; omega
    · go_wp2
      go_ret
      exact ⟨ret_int (by rw [show j = 32 from by omega]), rfl⟩
set_option maxHeartbeats 1000000 in
theorem refBits_1 (a b : Int) (w : World) :
    Calls Tryd.prog 32 #[.int .i64 a, .int .i64 b, .int .i64 1] w fun e w' => e = .returned (.int .i64 (partN 1 a b 32 : Nat)) ∧ w = w' := by
  go_enter Tryd.func32, Tryd.ntmps32
  go_wp2
  go_loop [7, 8] (fun n i => ∃ j : Nat, j ≤ 32 ∧ i = .int .i64 j ∧ n = .int .i64 ((partN 1 a b j : Nat) : Int)) (fun _ i => 32 - (intOf i).toNat)
  case atStart => exact ⟨0, Nat.zero_le _, rfl, by rw [partN_zero]; rfl⟩
  case round =>
    obtain ⟨j, hj, rfl, rfl⟩ := hrel
    by_cases hlt : j < 32
    · have Es := Lib.hid (partN_succ 1 a b j)
      have h0 := partN_lt 1 a b j hj
      have h3 : pw j ≤ 4294967296 := Int.le_trans (pw_le j 32 (by omega)) (by decide +kernel)
      have h4 := pw_pos j
      have hx := bitN_lt a j
      have hy := bitN_lt b j
      rcases (by omega : bitN a j = 0 ∨ bitN a j = 1) with hx | hx <;> rcases (by omega : bitN b j = 0 ∨ bitN b j = 1) with hy | hy
      all_goals
        go_wp2_with (first | ((with_reducible refine (refBit_any _ _ _ (by omega)).mono ?_); rintro e w' ⟨rfl, rfl⟩) | ((with_reducible refine (refPower_any _ (by omega) _).mono ?_); rintro e w' ⟨rfl, rfl⟩))
        go_round
        case rel => exact ⟨j + 1, by omega, by go_num, by rw [Es.out, hx, hy]; simp [oneB', pw]⟩
        case measure => simp [intOf]; omega
    · go_wp2
      go_ret
      exact ⟨ret_int (by rw [show j = 32 from by omega]), rfl⟩
set_option maxHeartbeats 1000000 in
theorem refBits_2 (a b : Int) (w : World) :
    Calls Tryd.prog 32 #[.int .i64 a, .int .i64 b, .int .i64 2] w fun e w' => e = .returned (.int .i64 (partN 2 a b 32 : Nat)) ∧ w = w' := by
  go_enter Tryd.func32, Tryd.ntmps32
  go_wp2
  go_loop [7, 8] (fun n i => ∃ j : Nat, j ≤ 32 ∧ i = .int .i64 j ∧ n = .int .i64 ((partN 2 a b j : Nat) : Int)) (fun _ i => 32 - (intOf i).toNat)
  case atStart => exact ⟨0, Nat.zero_le _, rfl, by rw [partN_zero]; rfl⟩
  case round =>
    obtain ⟨j, hj, rfl, rfl⟩ := hrel
    by_cases hlt : j < 32
    · have Es := Lib.hid (partN_succ 2 a b j)
      have h0 := partN_lt 2 a b j hj
      have h3 : pw j ≤ 4294967296 := Int.le_trans (pw_le j 32 (by omega)) (by decide +kernel)
      have h4 := pw_pos j
      have hx := bitN_lt a j
      have hy := bitN_lt b j
      rcases (by omega : bitN a j = 0 ∨ bitN a j = 1) with hx | hx <;> rcases (by omega : bitN b j = 0 ∨ bitN b j = 1) with hy | hy
      all_goals
        go_wp2_with (first | ((with_reducible refine (refBit_any _ _ _ (by omega)).mono ?_); rintro e w' ⟨rfl, rfl⟩) | ((with_reducible refine (refPower_any _ (by omega) _).mono ?_); rintro e w' ⟨rfl, rfl⟩))
        go_round
        case rel => exact ⟨j + 1, by omega, by go_num, by rw [Es.out, hx, hy]; simp [oneB', pw]⟩
        case measure => simp [intOf]; omega
    · go_wp2
      go_ret
      exact ⟨ret_int (by rw [show j = 32 from by omega]), rfl⟩
theorem refBits_any (a b kind : Int) (w : World) (hk : kind = 0 ∨ kind = 1 ∨ kind = 2) :
    Calls Tryd.prog 32 #[.int .i64 a, .int .i64 b, .int .i64 kind] w fun e w' => e = .returned (.int .i64 (partN kind a b 32 : Nat)) ∧ w = w' := by
  rcases hk with rfl | rfl | rfl
  · exact refBits_0 a b w
  · exact refBits_1 a b w
  · exact refBits_2 a b w
end Go.Proofs.YtlpbphhabeonfaaDoor
