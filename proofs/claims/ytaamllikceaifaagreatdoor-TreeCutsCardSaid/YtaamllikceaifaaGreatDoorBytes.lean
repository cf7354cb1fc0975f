/-
  Contracts of lex's isLetter, isDigit, letters and Is; the world stays as it was.
-/
import Derived.Test.YtaamllikceaifaaGreatDoorProg
import Derived.Test.YtaamllikceaifaaGreatDoorPure
import Derived.ProofKit
import Derived.WalkKit
import Derived.WalkSpells
import Derived.Outline
import Derived.LoopTactic
import Derived.Below
import Derived.Lib.Hide
namespace Go.Proofs.YtaamllikceaifaaGreatDoor
open Go.RowKit Sp

theorem ret_int {k : IntKind} {a b : Int} (h : a = b) : Ending.returned (.int k a) = .returned (.int k b) := by rw [h]
theorem ret_bool {a b : Bool} (h : a = b) : Ending.returned (.bool a) = .returned (.bool b) := by rw [h]
theorem digit_any (c : UInt8) (w : World) :
    Calls Tryz.prog 44 #[.int .u8 c.toNat] w fun e w' => e = .returned (.bool (isDig c)) ∧ w = w' := by
  go_enter Tryz.func44, Tryz.ntmps44
  go_wp2
  all_goals (go_ret; exact ⟨ret_bool (by unfold isDig; rw [Bool.eq_iff_iff]; simp; omega), rfl⟩)
theorem letter_any (c : UInt8) (w : World) :
    Calls Tryz.prog 42 #[.int .u8 c.toNat] w fun e w' => e = .returned (.bool (isLet c)) ∧ w = w' := by
  go_enter Tryz.func42, Tryz.ntmps42
  go_wp2
  all_goals (go_ret; exact ⟨ret_bool (by unfold isLet; rw [Bool.eq_iff_iff]; simp; omega), rfl⟩)
theorem lets_at (s : ByteArray) (k : Nat) (h : k < s.size) : (lets (s.data.toList.drop k)).length = if isLD s[k] then (lets (s.data.toList.drop (k + 1))).length + 1 else 0 := by
  have e : s.data.toList.drop k = s[k] :: s.data.toList.drop (k + 1) := by
    rw [List.drop_eq_getElem_cons (by simpa using h)]; rfl
  rw [e]
  unfold lets
  rw [List.takeWhile_cons]
  split <;> simp_all
def letsN (s : ByteArray) (k : Nat) : Nat := (lets (s.data.toList.drop k)).length
set_option maxHeartbeats 400000 in
theorem letters_any (s : ByteArray) (w : World) (hs : s.size ≤ maxLen) :
    Calls Tryz.prog 65 #[.string s] w fun e w' => e = .returned (.int .i64 (lets s.data.toList).length) ∧ w = w' := by
  unfold maxLen at hs
  go_enter Tryz.func65, Tryz.ntmps65
  go_wp2
  go_loop [3] (fun i => ∃ k : Nat, k ≤ s.size ∧ Hid ((lets s.data.toList).length = k + letsN s k) ∧ i = .int .i64 k) (fun i => s.size - (intOf i).toNat)
  case atStart => exact ⟨0, Nat.zero_le _, by unfold letsN Hid; simp, rfl⟩
  case round =>
    obtain ⟨k, hk, HS, rfl⟩ := hrel
    by_cases hlt : k < s.size
    · have hl : Hid (letsN s k = if isLD s[k] then letsN s (k + 1) + 1 else 0) := lets_at s k hlt
      cases hL : isLet s[k] with
      | true =>
        go_wp2_with (first | ((with_reducible refine (letter_any _ _).mono ?_); rintro e w' ⟨rfl, rfl⟩) | ((with_reducible refine (digit_any _ _).mono ?_); rintro e w' ⟨rfl, rfl⟩))
        all_goals
          go_round
          case rel => exact ⟨k + 1, by omega, by have h1 := HS.out; have h2 := hl.out; unfold isLD at h2; rw [hL] at h2; unfold Hid; simp at h2; omega, by go_num⟩
          case measure => simp [intOf]; omega
      | false =>
        cases hD : isDig s[k] with
        | true =>
          go_wp2_with (first | ((with_reducible refine (letter_any _ _).mono ?_); rintro e w' ⟨rfl, rfl⟩) | ((with_reducible refine (digit_any _ _).mono ?_); rintro e w' ⟨rfl, rfl⟩))
          all_goals
            go_round
            case rel => exact ⟨k + 1, by omega, by have h1 := HS.out; have h2 := hl.out; unfold isLD at h2; rw [hL, hD] at h2; unfold Hid; simp at h2; omega, by go_num⟩
            case measure => simp [intOf]; omega
        | false =>
          go_wp2_with (first | ((with_reducible refine (letter_any _ _).mono ?_); rintro e w' ⟨rfl, rfl⟩) | ((with_reducible refine (digit_any _ _).mono ?_); rintro e w' ⟨rfl, rfl⟩))
          go_ret
          exact ⟨ret_int (by have h1 := HS.out; have h2 := hl.out; unfold isLD at h2; rw [hL, hD] at h2; simp at h2; omega), rfl⟩
    · have h0 : letsN s k = 0 := by unfold letsN; rw [List.drop_eq_nil_of_le (by simp; omega)]; rfl
      have H0 := Lib.hid h0; clear h0
      go_wp2_with (first | ((with_reducible refine (letter_any _ _).mono ?_); rintro e w' ⟨rfl, rfl⟩) | ((with_reducible refine (digit_any _ _).mono ?_); rintro e w' ⟨rfl, rfl⟩))
      go_ret
      exact ⟨ret_int (by have h1 := HS.out; have h2 := H0.out; omega), rfl⟩
theorem is_eq (s : ByteArray) : isWord s.data.toList = wordsL.contains s.toList := by rw [ByteArray.toList_eq]; rfl
theorem is_any (s : ByteArray) (w : World) :
    Calls Tryz.prog 66 #[.string s] w fun e w' => e = .returned (.bool (isWord s.data.toList)) ∧ w = w' := by
  go_enter Tryz.func66, Tryz.ntmps66
  go_wp2
  all_goals (go_ret; exact ⟨ret_bool (by rw [is_eq]; unfold wordsL; simp_all), rfl⟩)
end Go.Proofs.YtaamllikceaifaaGreatDoor
