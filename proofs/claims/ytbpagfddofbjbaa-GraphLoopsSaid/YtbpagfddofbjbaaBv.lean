/-
  Plain facts on words of 32 bits: a wrapped number is a bit vector's number; sums, products and bits go through.
-/
import Derived.WalkKit
namespace Go.Proofs.Ytbpagfddofbjbaa
open Go.RowKit (wrap32 wrap64)

def bv (n : Int) : BitVec 32 := BitVec.ofInt 32 n
theorem wrap32_bv (n : Int) : wrap32 n = (bv n).toInt := by
  unfold wrap32 bv
  rw [BitVec.toInt_ofInt, Int.bmod_def]
  simp
  split <;> omega
theorem bv_wrap (n : Int) : bv (wrap32 n) = bv n := by rw [wrap32_bv, bv, BitVec.ofInt_toInt, bv]
theorem wrap32_wrap32 (n : Int) : wrap32 (wrap32 n) = wrap32 n := by rw [wrap32_bv (wrap32 n), bv_wrap, ← wrap32_bv]
theorem bv_wrap64 (n : Int) : bv (wrap64 n) = bv n := by
  apply BitVec.eq_of_toInt_eq
  rw [← wrap32_bv, ← wrap32_bv]; unfold wrap32 wrap64; omega
theorem bv_add (a b : Int) : bv (a + b) = bv a + bv b := BitVec.ofInt_add _ _
theorem bv_mul (a b : Int) : bv (a * b) = bv a * bv b := BitVec.ofInt_mul _ _
theorem bv_neg (a : Int) : bv (-a) = - bv a := BitVec.ofInt_neg
theorem bv_sub (a b : Int) : bv (a - b) = bv a - bv b := by rw [Int.sub_eq_add_neg, bv_add, bv_neg, BitVec.sub_eq_add_neg]
theorem wrap32_eq_iff (a b : Int) : wrap32 a = wrap32 b ↔ bv a = bv b := by
  rw [wrap32_bv, wrap32_bv]; exact BitVec.toInt_inj
theorem bv_toNat64 (x : BitVec 64) : bv (x.toNat : Int) = x.setWidth 32 := by
  apply BitVec.eq_of_toNat_eq
  simp [bv, BitVec.toNat_setWidth]
theorem ofInt64_setWidth (a : Int) : (BitVec.ofInt 64 a).setWidth 32 = bv a := by
  apply BitVec.eq_of_toNat_eq
  simp [bv, BitVec.toNat_setWidth, BitVec.toNat_ofInt]
  omega
theorem bits_bv (x : BitVec 64) : bv (IntKind.i64.wrap (x.toNat : Int)) = x.setWidth 32 := by
  rw [IntWalk.i64_left, bv_wrap64, bv_toNat64]
theorem bv_and (a b : Int) : bv (bits .and .i64 a b) = bv a &&& bv b := by
  show bv (IntKind.i64.wrap ((BitVec.ofInt 64 a &&& BitVec.ofInt 64 b).toNat : Int)) = _
  rw [bits_bv, BitVec.setWidth_and, ofInt64_setWidth, ofInt64_setWidth]
theorem bv_or (a b : Int) : bv (bits .or .i64 a b) = bv a ||| bv b := by
  show bv (IntKind.i64.wrap ((BitVec.ofInt 64 a ||| BitVec.ofInt 64 b).toNat : Int)) = _
  rw [bits_bv, BitVec.setWidth_or, ofInt64_setWidth, ofInt64_setWidth]
theorem bv_xor (a b : Int) : bv (bits .xor .i64 a b) = bv a ^^^ bv b := by
  show bv (IntKind.i64.wrap ((BitVec.ofInt 64 a ^^^ BitVec.ofInt 64 b).toNat : Int)) = _
  rw [bits_bv, BitVec.setWidth_xor, ofInt64_setWidth, ofInt64_setWidth]
theorem bits_mask (b : Int) (k : Nat) (hk : k < 63) : bits .and .i64 b ((2 ^ k - 1 : Nat) : Int) = b % ((2 ^ k : Nat) : Int) := by
  show IntKind.i64.wrap ((BitVec.ofInt 64 b &&& BitVec.ofInt 64 ((2 ^ k - 1 : Nat) : Int)).toNat : Int) = _
  have hp : (2 : Nat) ^ k < 2 ^ 63 := Nat.pow_lt_pow_right (by omega) hk
  have hq : 0 < (2 : Nat) ^ k := Nat.pow_pos (by omega)
  have e1 : (BitVec.ofInt 64 ((2 ^ k - 1 : Nat) : Int)).toNat = 2 ^ k - 1 := by
    rw [BitVec.toNat_ofInt]; simp only [Nat.reducePow] at *; omega
  have e2 : ((BitVec.ofInt 64 b).toNat : Int) = b % 18446744073709551616 := by
    rw [BitVec.toNat_ofInt]; simp only [Nat.reducePow]; omega
  rw [BitVec.toNat_and, e1, Nat.and_two_pow_sub_one_eq_mod]
  have e3 : (((BitVec.ofInt 64 b).toNat % 2 ^ k : Nat) : Int) = b % ((2 ^ k : Nat) : Int) := by
    rw [Int.natCast_emod, e2]
    refine Int.emod_emod_of_dvd _ ?_
    have : (2 : Nat) ^ k ∣ 2 ^ 64 := Nat.pow_dvd_pow 2 (by omega)
    exact Int.natCast_dvd_natCast.2 this
  rw [e3]
  have h1 := Int.emod_nonneg b (b := ((2 ^ k : Nat) : Int)) (by omega)
  have h2 := Int.emod_lt_of_pos b (b := ((2 ^ k : Nat) : Int)) (by omega)
  exact IntWalk.i64_in _ (by simp only [Nat.reducePow] at *; omega)
theorem bits_and31 (b : Int) : bits .and .i64 b 31 = b % 32 := bits_mask b 5 (by omega)
theorem bits_and255 (b : Int) : bits .and .i64 b 255 = b % 256 := bits_mask b 8 (by omega)
theorem bv_not (a : Int) : bv (-a - 1) = ~~~ bv a := by
  rw [bv_sub, bv_neg]
  show - bv a - 1#32 = _
  rw [BitVec.neg_eq_not_add, BitVec.add_sub_cancel]
end Go.Proofs.Ytbpagfddofbjbaa
