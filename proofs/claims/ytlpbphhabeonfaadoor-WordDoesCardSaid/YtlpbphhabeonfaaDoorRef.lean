/-
  Contracts of doppelref01's functions.
-/
import Derived.Test.YtlpbphhabeonfaaDoorFacts
namespace Go.Proofs.YtlpbphhabeonfaaDoor
open Go.RowKit (wrap32 wrap64 intOf)

theorem tmod_cases (n : Int) : n.tmod 4294967296 = if 0 ≤ n then n % 4294967296 else -((-n) % 4294967296) := by
  split
  · exact Int.tmod_eq_emod_of_nonneg ‹_›
  · have h : n = -(-n) := by omega
    rw [h, Int.neg_tmod, Int.tmod_eq_emod_of_nonneg (by omega), Int.neg_neg]
theorem refWrap_any (n : Int) (w : World) :
    Calls Tryd.prog 16 #[.int .i64 n] w fun e w' => e = .returned (.int .i64 (wrap32 n)) ∧ w = w' := by
  have ht := tmod_cases n
  generalize hr : n.tmod 4294967296 = r at *
  have h1 : -4294967296 < r ∧ r < 4294967296 := by split at ht <;> omega
  have h2 : r % 4294967296 = n % 4294967296 := by split at ht <;> omega
  clear ht
  have H := Lib.hid h2
  clear h2
  go_enter Tryd.func16, Tryd.ntmps16
  go_wp2
  all_goals
    go_ret
    go_light
    refine ⟨ret_int ?_, rfl⟩
    have h2 := H.out
    unfold wrap32
    omega
theorem refPlain_any (n : Int) (w : World) :
    Calls Tryd.prog 18 #[.int .i64 n] w fun e w' => e = .returned (.int .i64 (n % 4294967296)) ∧ w = w' := by
  have hb := wrap32_bd n
  go_enter Tryd.func18, Tryd.ntmps18
  go_wp2_with ((with_reducible refine (refWrap_any _ _).mono ?_); rintro e w' ⟨rfl, rfl⟩)
  all_goals
    go_ret
    go_light
    refine ⟨ret_int ?_, rfl⟩
    unfold wrap32 at *
    omega
theorem refTruth_any (b : Bool) (w : World) :
    Calls Tryd.prog 34 #[.bool b] w fun e w' => e = .returned (.int .i64 (num b)) ∧ w = w' := by
  cases b
  all_goals
    go_enter Tryd.func34, Tryd.ntmps34
    go_wp2
    go_ret
    exact ⟨rfl, rfl⟩
def pw (k : Nat) : Int := ((2 ^ k : Nat) : Int)
theorem pw_succ (k : Nat) : pw (k + 1) = pw k * 2 := by unfold pw; rw [Nat.pow_succ]; omega
theorem pw_pos (k : Nat) : 1 ≤ pw k := by unfold pw; have : 0 < 2 ^ k := Nat.pow_pos (by omega); omega
theorem pw_le (k j : Nat) (h : k ≤ j) : pw k ≤ pw j := by unfold pw; have : 2 ^ k ≤ 2 ^ j := Nat.pow_le_pow_right (by omega) h; omega
theorem pw_62 : pw 62 = 4611686018427387904 := by decide +kernel
theorem refPower_any (k : Nat) (hk : k ≤ 62) (w : World) :
    Calls Tryd.prog 31 #[.int .i64 k] w fun e w' => e = .returned (.int .i64 (pw k)) ∧ w = w' := by
  go_enter Tryd.func31, Tryd.ntmps31
  go_wp2
  go_loop [3, 4] (fun p i => ∃ j : Nat, j ≤ k ∧ i = .int .i64 j ∧ p = .int .i64 (pw j)) (fun _ i => k - (intOf i).toNat)
  case atStart => exact ⟨0, Nat.zero_le _, rfl, rfl⟩
  case round =>
    obtain ⟨j, hj, rfl, rfl⟩ := hrel
    have h1 := pw_pos j
    have h2 : pw j ≤ 4611686018427387904 := pw_62 ▸ pw_le j 62 (by omega)
    by_cases hlt : j < k
    · have h3 : pw j ≤ 2305843009213693952 := by
        have := pw_le (j + 1) 62 (by omega)
        rw [pw_succ, pw_62] at this; omega
      go_wp2
      go_round
      case rel => exact ⟨j + 1, by omega, by go_num, by rw [pw_succ]⟩
      case measure => simp [intOf]; omega
    · go_wp2
      go_ret
      exact ⟨ret_int (by rw [show j = k from by omega]), rfl⟩
end Go.Proofs.YtlpbphhabeonfaaDoor
