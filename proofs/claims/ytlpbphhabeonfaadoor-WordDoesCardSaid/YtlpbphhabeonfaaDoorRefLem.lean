/-
  doppelref01's Do tells what word's Do tells, operation by operation.
-/
import Derived.Test.YtlpbphhabeonfaaDoorRefDown
namespace Go.Proofs.YtlpbphhabeonfaaDoor
open Go.RowKit (wrap32 wrap64 intOf)

theorem ret2 {k : IntKind} {a b : Int} {c : Bool} (h : a = b) : Ending.returned (.tuple #[.int k a, .bool c]) = .returned (.tuple #[.int k b, .bool c]) := by rw [h]
theorem pw_eq (k : Nat) : pw k = (2 : Int) ^ k := by unfold pw; simp
theorem lem_1 (x y : Int) : wrap32 (wrap32 x + wrap32 y) = doV 1 x y := by rw [doV_two _ _ _ (by omega)]; rfl
theorem lem_2 (x y : Int) : wrap32 (wrap32 x - wrap32 y) = doV 2 x y := by rw [doV_two _ _ _ (by omega)]; rfl
theorem lem_3 (x y : Int) : wrap32 (wrap64 (wrap32 x * wrap32 y)) = doV 3 x y := by rw [doV_two _ _ _ (by omega)]; rfl
theorem lem_4 (x y : Int) (hb : ¬ wrap32 y = 0) : wrap32 (wrap64 ((wrap32 x).tdiv (wrap32 y))) = doV 4 x y := by rw [doV_div _ _ _ (by omega) hb]; rfl
theorem lem_5 (x y : Int) (hb : ¬ wrap32 y = 0) : wrap32 (wrap64 (wrap32 x - wrap64 (wrap64 ((wrap32 x).tdiv (wrap32 y)) * wrap32 y))) = doV 5 x y := by
  rw [doV_div _ _ _ (by omega) hb]
  show _ = wrap32 ((wrap32 x).tmod (wrap32 y))
  rw [wrap32_eq_iff, bv_wrap64, bv_sub, bv_wrap64, bv_mul, bv_wrap64, ← bv_mul, ← bv_sub]
  congr 1
  have := Int.mul_tdiv_add_tmod (wrap32 x) (wrap32 y)
  rw [Int.mul_comm] at this; omega
theorem lem_6 (x y : Int) (hb : ¬ wrap32 y = 0) : wrap32 (wrap32 x % 4294967296 / (wrap32 y % 4294967296)) = doV 6 x y := by rw [doV_div _ _ _ (by omega) hb]; rfl
theorem lem_7 (x y : Int) (hb : ¬ wrap32 y = 0) : wrap32 (wrap64 (wrap32 x % 4294967296 - wrap64 (wrap32 x % 4294967296 / (wrap32 y % 4294967296) * (wrap32 y % 4294967296)))) = doV 7 x y := by
  rw [doV_div _ _ _ (by omega) hb]
  show _ = wrap32 (wrap32 x % 4294967296 % (wrap32 y % 4294967296))
  rw [wrap32_eq_iff, bv_wrap64, bv_sub, bv_wrap64, ← bv_sub]
  congr 1
  have := Int.mul_ediv_add_emod (wrap32 x % 4294967296) (wrap32 y % 4294967296)
  rw [Int.mul_comm] at this; omega
theorem wordN_bv (a : Int) : wordN a = (bv a).toNat := by have := bv_toNat a; have := wordN_cast a; omega
theorem bv_nat (n : Nat) (h : n < 2 ^ 32) : (bv (n : Int)).toNat = n := by
  have := bv_toNat (n : Int); simp only [Nat.reducePow] at h; omega
theorem part32 (kind a b : Int) (h : opN kind (wordN a) (wordN b) < 2 ^ 32) : partN kind a b 32 = opN kind (wordN a) (wordN b) := Nat.mod_eq_of_lt h
theorem lem_8 (x y : Int) : wrap32 ((partN 0 (wrap32 x) (wrap32 y) 32 : Nat) : Int) = doV 8 x y := by
  refine (eq_wrap ?_).symm
  have h : opN 0 (wordN (wrap32 x)) (wordN (wrap32 y)) = (bv x &&& bv y).toNat := by
    rw [wordN_bv, wordN_bv, bv_wrap, bv_wrap, BitVec.toNat_and]; rfl
  have h2 : opN 0 (wordN (wrap32 x)) (wordN (wrap32 y)) < 2 ^ 32 := by rw [h]; exact (bv x &&& bv y).isLt
  rw [doV_and, part32 _ _ _ h2]
  apply BitVec.eq_of_toNat_eq
  rw [bv_nat _ h2, h]
theorem lem_9 (x y : Int) : wrap32 ((partN 1 (wrap32 x) (wrap32 y) 32 : Nat) : Int) = doV 9 x y := by
  refine (eq_wrap ?_).symm
  have h : opN 1 (wordN (wrap32 x)) (wordN (wrap32 y)) = (bv x ||| bv y).toNat := by
    rw [wordN_bv, wordN_bv, bv_wrap, bv_wrap, BitVec.toNat_or]; rfl
  have h2 : opN 1 (wordN (wrap32 x)) (wordN (wrap32 y)) < 2 ^ 32 := by rw [h]; exact (bv x ||| bv y).isLt
  rw [doV_or, part32 _ _ _ h2]
  apply BitVec.eq_of_toNat_eq
  rw [bv_nat _ h2, h]
theorem lem_10 (x y : Int) : wrap32 ((partN 2 (wrap32 x) (wrap32 y) 32 : Nat) : Int) = doV 10 x y := by
  refine (eq_wrap ?_).symm
  have h : opN 2 (wordN (wrap32 x)) (wordN (wrap32 y)) = (bv x ^^^ bv y).toNat := by
    rw [wordN_bv, wordN_bv, bv_wrap, bv_wrap, BitVec.toNat_xor]; rfl
  have h2 : opN 2 (wordN (wrap32 x)) (wordN (wrap32 y)) < 2 ^ 32 := by rw [h]; exact (bv x ^^^ bv y).isLt
  rw [doV_xor, part32 _ _ _ h2]
  apply BitVec.eq_of_toNat_eq
  rw [bv_nat _ h2, h]
theorem lem_11 (x y : Int) : wrap32 (wrap64 (wrap32 x * pw (wrap32 y % 32).toNat)) = doV 11 x y := by rw [doV_two _ _ _ (by omega), pw_eq]; rfl
theorem lem_12 (x y : Int) : wrap32 (wrap32 x / pw (wrap32 y % 32).toNat) = doV 12 x y := by rw [doV_two _ _ _ (by omega), pw_eq]; rfl
theorem lem_13 (x y : Int) : wrap32 (wrap32 x % 4294967296 / pw (wrap32 y % 32).toNat) = doV 13 x y := by rw [doV_two _ _ _ (by omega), pw_eq]; rfl
theorem lem_14 (x y : Int) : wrap32 (num (wrap32 x == wrap32 y)) = doV 14 x y := by rw [doV_two _ _ _ (by omega)]; rfl
theorem lem_15 (x y : Int) : wrap32 (num (wrap32 x != wrap32 y)) = doV 15 x y := by rw [doV_two _ _ _ (by omega)]; rfl
theorem lem_16 (x y : Int) : wrap32 (num (decide (wrap32 x < wrap32 y))) = doV 16 x y := by rw [doV_two _ _ _ (by omega)]; rfl
theorem lem_17 (x y : Int) : wrap32 (num (decide (wrap32 x < wrap32 y) || wrap32 x == wrap32 y)) = doV 17 x y := by
  rw [doV_cmp _ _ _ (by omega), num_bd]
  show _ = num (decide (wrap32 x ≤ wrap32 y))
  congr 1
  rw [Bool.eq_iff_iff]; simp; omega
theorem lem_18 (x y : Int) : wrap32 (num (decide (wrap32 x % 4294967296 < wrap32 y % 4294967296))) = doV 18 x y := by rw [doV_two _ _ _ (by omega)]; rfl
theorem lem_19 (x y : Int) : wrap32 (num (decide (wrap32 x % 4294967296 ≤ wrap32 y % 4294967296))) = doV 19 x y := by rw [doV_two _ _ _ (by omega)]; rfl
theorem lem_20 (x y : Int) : wrap32 (- wrap32 x) = doV 20 x y := by rw [doV_one _ _ _ (by omega)]; rfl
theorem lem_21 (x y : Int) : wrap32 (- wrap32 x - 1) = doV 21 x y := by
  refine (eq_wrap ?_).symm
  rw [doV_not, bv_not, bv_wrap]
theorem lem_22 (x y : Int) : wrap32 (wrap32 x % 256) = doV 22 x y := by rw [doV_one _ _ _ (by omega)]; rfl
theorem lem_23 (x y : Int) : wrap32 (num (wrap32 x == 0)) = doV 23 x y := by rw [doV_one _ _ _ (by omega)]; rfl
end Go.Proofs.YtlpbphhabeonfaaDoor
