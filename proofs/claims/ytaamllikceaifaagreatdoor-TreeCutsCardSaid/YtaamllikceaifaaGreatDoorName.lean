/-
  Contracts of lex's name and sign.
-/
import Derived.Test.YtaamllikceaifaaGreatDoorBytes
namespace Go.Proofs.YtaamllikceaifaaGreatDoor
open Go.RowKit Sp

theorem ext_list (s : ByteArray) (a b : Nat) : (s.extract a b).data.toList = (s.data.toList.take b).drop a := by
  rw [ByteArray.data_extract]
  simp [List.drop_take]
theorem ext_to (s : ByteArray) (b : Nat) : (s.extract 0 b).data.toList = s.data.toList.take b := by rw [ext_list]; rfl
theorem ext_from (s : ByteArray) (a : Nat) : (s.extract a s.size).data.toList = s.data.toList.drop a := by
  rw [ext_list]
  congr 1
  exact List.take_of_length_le (by simp)
def pieceV (k len n : Int) : Value := .agg #[.int .i64 k, .int .i64 len, .int .i64 n]
theorem name_any (s : ByteArray) (w : World) (hs : s.size ≤ maxLen) :
    Calls Tryz.prog 43 #[.string s] w fun e w' => e = .returned (pieceV (if isWord (lets s.data.toList) then 2 else 1) (lets s.data.toList).length 0) ∧ Below w.heap.size w w' := by
  have hle := lets_le s.data.toList
  have hls : (lets s.data.toList).length ≤ s.size := by simpa using hle
  clear hle
  cases hw : isWord (lets s.data.toList) with
  | true =>
    have hb : isWord (List.take (lets s.data.toList).length s.data.toList) = true := by rw [take_lets]; exact hw
    clear hw
    go_enter Tryz.func43, Tryz.ntmps43
    go_wp2_with (first | ((with_reducible refine (letters_any _ _ hs).mono ?_); rintro e w' ⟨rfl, rfl⟩) | ((with_reducible refine (is_any _ _).mono ?_); rintro e w' ⟨rfl, rfl⟩))
    exact bodyPost_ret (v := .agg #[.int .i64 2, .int .i64 (lets s.data.toList).length, .int .i64 0]) (by simp [results, Tryz.results43, go_sem]) rfl ⟨rfl, (Below.refl _ _).alloc (Nat.le_refl _) _⟩
  | false =>
    have hb : isWord (List.take (lets s.data.toList).length s.data.toList) = false := by rw [take_lets]; exact hw
    clear hw
    go_enter Tryz.func43, Tryz.ntmps43
    go_wp2_with (first | ((with_reducible refine (letters_any _ _ hs).mono ?_); rintro e w' ⟨rfl, rfl⟩) | ((with_reducible refine (is_any _ _).mono ?_); rintro e w' ⟨rfl, rfl⟩))
    exact bodyPost_ret (v := .agg #[.int .i64 1, .int .i64 (lets s.data.toList).length, .int .i64 0]) (by simp [results, Tryz.results43, go_sem]) rfl ⟨rfl, (Below.refl _ _).alloc (Nat.le_refl _) _⟩
end Go.Proofs.YtaamllikceaifaaGreatDoor
