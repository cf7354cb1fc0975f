/-
  What Do gives at each operation, as bit vectors.
-/
import Derived.Test.YtpajndeongcjbaaQLB
namespace Go.Proofs.Ytpajndeongcjbaa
open Go.RowKit (wrap32 wrap64)
theorem doV_eq_of_bv {op a b op' a' b' : Int} (h : bv (doV op a b) = bv (doV op' a' b')) : doV op a b = doV op' a' b' := by
  rw [← doV_word op, ← doV_word op', wrap32_eq_iff]; exact h
theorem doV_two (op a b : Int) (h : 1 ≤ op ∧ op ≤ 3 ∨ 8 ≤ op ∧ op ≤ 19) : doV op a b = wrap32 (twoV op (wrap32 a) (wrap32 b)) := by
  have hB : doB op b = true := by unfold doB; simp; omega
  rw [doV, if_neg (by rw [hB]; simp), if_neg (by omega), if_pos (by omega)]
theorem doV_one (op a b : Int) (h : 20 ≤ op ∧ op ≤ 23) : doV op a b = wrap32 (oneV op (wrap32 a)) := by
  have hB : doB op b = true := by unfold doB; simp; omega
  rw [doV, if_neg (by rw [hB]; simp), if_neg (by omega), if_neg (by omega)]
theorem doV_div (op a b : Int) (h : 4 ≤ op ∧ op ≤ 7) (hb : wrap32 b ≠ 0) : doV op a b = divV op a b := by
  have hB : doB op b = true := by unfold doB; simp; omega
  rw [doV, if_neg (by rw [hB]; simp), if_pos (by omega)]
theorem doV_add (a b : Int) : bv (doV 1 a b) = bv a + bv b := by
  rw [doV_two _ _ _ (by omega), bv_wrap]; show bv (wrap32 a + wrap32 b) = _; rw [bv_add, bv_wrap, bv_wrap]
theorem doV_sub (a b : Int) : bv (doV 2 a b) = bv a - bv b := by
  rw [doV_two _ _ _ (by omega), bv_wrap]; show bv (wrap32 a - wrap32 b) = _; rw [bv_sub, bv_wrap, bv_wrap]
theorem doV_mul (a b : Int) : bv (doV 3 a b) = bv a * bv b := by
  rw [doV_two _ _ _ (by omega), bv_wrap]; show bv (wrap64 (wrap32 a * wrap32 b)) = _; rw [bv_wrap64, bv_mul, bv_wrap, bv_wrap]
theorem doV_and (a b : Int) : bv (doV 8 a b) = bv a &&& bv b := by
  rw [doV_two _ _ _ (by omega), bv_wrap]; show bv (bits .and .i64 (wrap32 a) (wrap32 b)) = _; rw [bv_and, bv_wrap, bv_wrap]
theorem doV_or (a b : Int) : bv (doV 9 a b) = bv a ||| bv b := by
  rw [doV_two _ _ _ (by omega), bv_wrap]; show bv (bits .or .i64 (wrap32 a) (wrap32 b)) = _; rw [bv_or, bv_wrap, bv_wrap]
theorem doV_xor (a b : Int) : bv (doV 10 a b) = bv a ^^^ bv b := by
  rw [doV_two _ _ _ (by omega), bv_wrap]; show bv (bits .xor .i64 (wrap32 a) (wrap32 b)) = _; rw [bv_xor, bv_wrap, bv_wrap]
theorem doV_shl (a b : Int) : bv (doV 11 a b) = bv a * BitVec.ofInt 32 (2 ^ (wrap32 b % 32).toNat) := by
  rw [doV_two _ _ _ (by omega), bv_wrap]; show bv (wrap64 (wrap32 a * 2 ^ (wrap32 b % 32).toNat)) = _; rw [bv_wrap64, bv_mul, bv_wrap]; rfl
theorem doV_neg (a b : Int) : bv (doV 20 a b) = - bv a := by
  rw [doV_one _ _ _ (by omega), bv_wrap]; show bv (- wrap32 a) = _; rw [bv_neg, bv_wrap]
theorem doV_not (a b : Int) : bv (doV 21 a b) = ~~~ bv a := by
  rw [doV_one _ _ _ (by omega), bv_wrap]; show bv (bits .xor .i64 (-1) (wrap32 a)) = _; rw [bv_xor, bv_wrap]
  show BitVec.ofInt 32 (-1) ^^^ bv a = _
  rw [show BitVec.ofInt 32 (-1) = BitVec.allOnes 32 from by decide, BitVec.allOnes_xor]
theorem num_bd (b : Bool) : wrap32 (num b) = num b := by cases b <;> simp [num, wrap32]
theorem doV_cmp (op a b : Int) (h : 14 ≤ op ∧ op ≤ 19) : doV op a b = num (cmpB op (wrap32 a) (wrap32 b)) := by
  rw [doV_two _ _ _ (by omega), twoV, if_neg (by omega), if_neg (by omega), if_neg (by omega), if_neg (by omega), if_neg (by omega), if_neg (by omega), if_neg (by omega), if_neg (by omega), if_neg (by omega), num_bd]
theorem doV_zero (a b : Int) : doV 23 a b = num (wrap32 a == 0) := by
  rw [doV_one _ _ _ (by omega)]; show wrap32 (num (wrap32 a == 0)) = _; rw [num_bd]
theorem doV_low (a b : Int) : doV 22 a b = wrap32 a % 256 := by
  rw [doV_one _ _ _ (by omega)]; show wrap32 (wrap32 a % 256) = _; unfold wrap32; omega
theorem wrap32_self (a : Int) (h : -2147483648 ≤ a ∧ a ≤ 2147483647) : wrap32 a = a := by unfold wrap32; omega
theorem bv_shl (a : Int) (k : Nat) : bv a * BitVec.ofInt 32 (2 ^ k) = bv a <<< k := by
  rw [BitVec.shiftLeft_eq_mul_twoPow]
  congr 1
  apply BitVec.eq_of_toNat_eq
  rw [BitVec.toNat_ofInt, BitVec.toNat_twoPow]
  have : ((2 : Int) ^ k) % ((2 ^ 32 : Nat) : Int) = (((2 ^ k) % 2 ^ 32 : Nat) : Int) := by simp
  rw [this, Int.toNat_natCast]
theorem doV_shl' (a b : Int) : bv (doV 11 a b) = bv a <<< (wrap32 b % 32).toNat := by rw [doV_shl, bv_shl]
theorem bv_toNat (a : Int) : ((bv a).toNat : Int) = a % 4294967296 := by
  unfold bv; rw [BitVec.toNat_ofInt]; simp only [Nat.reducePow]; omega
theorem doV_shru (a b : Int) : bv (doV 13 a b) = bv a >>> (wrap32 b % 32).toNat := by
  rw [doV_two _ _ _ (by omega), bv_wrap]
  show bv (wrap32 a % 4294967296 / 2 ^ (wrap32 b % 32).toNat) = _
  generalize (wrap32 b % 32).toNat = k
  apply BitVec.eq_of_toNat_eq
  have e : wrap32 a % 4294967296 = ((bv a).toNat : Int) := by rw [bv_toNat]; unfold wrap32; omega
  rw [e, BitVec.toNat_ushiftRight, Nat.shiftRight_eq_div_pow]
  have e2 : (((bv a).toNat : Int) / 2 ^ k) = (((bv a).toNat / 2 ^ k : Nat) : Int) := by simp
  rw [e2]
  have hlt : (bv a).toNat / 2 ^ k < 4294967296 := Nat.lt_of_le_of_lt (Nat.div_le_self _ _) (bv a).isLt
  have h3 := bv_toNat (((bv a).toNat / 2 ^ k : Nat) : Int)
  generalize (bv a).toNat / 2 ^ k = m at *
  omega

-- WordTwice
theorem twice1 (a : Int) : doV 11 a 1 = doV 1 a a := by
  apply doV_eq_of_bv
  rw [doV_shl', doV_add, wrap32_self 1 (by omega)]
  show bv a <<< 1 = _
  rw [BitVec.shiftLeft_eq_mul_twoPow]
  show bv a * 2#32 = _
  rw [BitVec.mul_two]
theorem twice2 (a : Int) : doV 20 a 0 = doV 1 (doV 21 a 0) 1 := by
  apply doV_eq_of_bv
  rw [doV_neg, doV_add, doV_not, BitVec.neg_eq_not_add]; rfl
theorem twice3 (a : Int) : doV 22 a 0 = doV 7 a 256 := by
  rw [doV_low, doV_div _ _ _ (by omega) (by simp [wrap32])]
  show _ = wrap32 (wrap32 a % 4294967296 % (wrap32 256 % 4294967296))
  rw [show wrap32 256 % 4294967296 = 256 from by simp [wrap32]]
  unfold wrap32; omega
theorem twice4 (a : Int) : doV 23 a 0 = doV 14 a 0 := by
  rw [doV_zero, doV_cmp _ _ _ (by omega), wrap32_self 0 (by omega)]; rfl
theorem twice5 (a : Int) : doV 3 a 65536 = doV 11 a 16 := by
  apply doV_eq_of_bv
  rw [doV_mul, doV_shl', wrap32_self 16 (by omega)]
  show _ = bv a <<< 16
  rw [BitVec.shiftLeft_eq_mul_twoPow]
  congr 1
-- WordBits
theorem eq_wrap {a b op : Int} {x : Int} (h : bv (doV op a b) = bv x) : doV op a b = wrap32 x := by
  rw [← doV_word op, wrap32_eq_iff]; exact h
theorem wbits1 (a b : Int) : doV 21 (doV 8 a b) 0 = doV 9 (doV 21 a 0) (doV 21 b 0) := by
  apply doV_eq_of_bv
  rw [doV_not, doV_or, doV_not, doV_not, doV_and, BitVec.not_and]
theorem wbits2 (a : Int) : doV 10 a a = 0 := by
  have := eq_wrap (x := 0) (show bv (doV 10 a a) = bv 0 by rw [doV_xor, BitVec.xor_self]; rfl)
  rw [this]; simp [wrap32]
theorem wbits3 (a : Int) : doV 8 a a = wrap32 a := eq_wrap (by rw [doV_and, BitVec.and_self])
theorem wbits4 (a : Int) : doV 9 a a = wrap32 a := eq_wrap (by rw [doV_or, BitVec.or_self])
theorem wbits5 (a : Int) : doV 21 (doV 21 a 0) 0 = wrap32 a := eq_wrap (by rw [doV_not, doV_not, BitVec.not_not])
theorem wbits6 (a b : Int) : doV 10 (doV 10 a b) b = wrap32 a := eq_wrap (by rw [doV_xor, doV_xor, BitVec.xor_assoc, BitVec.xor_self, BitVec.xor_zero])
-- WordLaws
theorem laws1 (a b : Int) : doV 1 a b = doV 1 b a := doV_eq_of_bv (by rw [doV_add, doV_add, BitVec.add_comm])
theorem laws2 (a b : Int) : doV 3 a b = doV 3 b a := doV_eq_of_bv (by rw [doV_mul, doV_mul, BitVec.mul_comm])
theorem laws3 (a b : Int) : doV 8 a b = doV 8 b a := doV_eq_of_bv (by rw [doV_and, doV_and, BitVec.and_comm])
theorem laws4 (a b : Int) : doV 9 a b = doV 9 b a := doV_eq_of_bv (by rw [doV_or, doV_or, BitVec.or_comm])
theorem laws5 (a b : Int) : doV 10 a b = doV 10 b a := doV_eq_of_bv (by rw [doV_xor, doV_xor, BitVec.xor_comm])
theorem laws6 (a b : Int) : doV 14 a b = doV 14 b a := by
  rw [doV_cmp _ _ _ (by omega), doV_cmp _ _ _ (by omega)]
  show num (wrap32 a == wrap32 b) = num (wrap32 b == wrap32 a)
  rw [Bool.beq_comm]
theorem laws7 (a b : Int) : doV 15 a b = doV 15 b a := by
  rw [doV_cmp _ _ _ (by omega), doV_cmp _ _ _ (by omega)]
  show num (wrap32 a != wrap32 b) = num (wrap32 b != wrap32 a)
  rw [bne_comm]
theorem laws8 (a b : Int) : doV 1 (doV 2 a b) b = wrap32 a := eq_wrap (by rw [doV_add, doV_sub, BitVec.sub_add_cancel])
theorem laws9 (a b : Int) (hb : wrap32 b ≠ 0) : doV 1 (doV 3 (doV 4 a b) b) (doV 5 a b) = wrap32 a := by
  apply eq_wrap
  rw [doV_add, doV_mul, doV_div 4 _ _ (by omega) hb, doV_div 5 _ _ (by omega) hb]
  show bv (wrap32 (wrap64 ((wrap32 a).tdiv (wrap32 b)))) * bv b + bv (wrap32 ((wrap32 a).tmod (wrap32 b))) = _
  rw [bv_wrap, bv_wrap64, bv_wrap, ← bv_wrap b, ← bv_mul, ← bv_add, Int.mul_comm, Int.mul_tdiv_add_tmod, bv_wrap]
theorem laws10 (a b : Int) (hb : wrap32 b ≠ 0) : doV 1 (doV 3 (doV 6 a b) b) (doV 7 a b) = wrap32 a := by
  apply eq_wrap
  rw [doV_add, doV_mul, doV_div 6 _ _ (by omega) hb, doV_div 7 _ _ (by omega) hb]
  show bv (wrap32 (wrap32 a % 4294967296 / (wrap32 b % 4294967296))) * bv b + bv (wrap32 (wrap32 a % 4294967296 % (wrap32 b % 4294967296))) = _
  have eu : ∀ x : Int, bv (wrap32 x % 4294967296) = bv x := fun x => by
    rw [← wrap32_eq_iff]; unfold wrap32; omega
  rw [bv_wrap, bv_wrap, ← eu b, ← bv_mul, ← bv_add, Int.mul_comm, Int.mul_ediv_add_emod, eu]
-- WordOrders
theorem orders1 (a b : Int) : doV 16 a b + doV 16 b a + doV 14 a b = 1 := by
  rw [doV_cmp 16 _ _ (by omega), doV_cmp 16 _ _ (by omega), doV_cmp 14 _ _ (by omega)]
  show num (decide (wrap32 a < wrap32 b)) + num (decide (wrap32 b < wrap32 a)) + num (wrap32 a == wrap32 b) = 1
  generalize wrap32 a = x; generalize wrap32 b = y
  by_cases h1 : x < y
  · have h2 : ¬ y < x := by omega
    have h3 : (x == y) = false := by simp; omega
    simp [h1, h2, h3, num]
  · by_cases h2 : y < x
    · have h3 : (x == y) = false := by simp; omega
      simp [h1, h2, h3, num]
    · have h3 : (x == y) = true := by simp; omega
      simp [h1, h2, h3, num]
theorem orders2 (a b : Int) : doV 17 a b = 1 - doV 16 b a := by
  rw [doV_cmp 16 _ _ (by omega), doV_cmp 17 _ _ (by omega)]
  show num (decide (wrap32 a ≤ wrap32 b)) = 1 - num (decide (wrap32 b < wrap32 a))
  generalize wrap32 a = x; generalize wrap32 b = y
  by_cases h1 : x ≤ y
  · have h2 : ¬ y < x := by omega
    simp [h1, h2, num]
  · have h2 : y < x := by omega
    simp [h1, h2, num]
theorem orders3 (a b : Int) : doV 18 a b = doV 16 (doV 1 a (-2147483648)) (doV 1 b (-2147483648)) := by
  rw [doV_cmp 18 _ _ (by omega), doV_cmp 16 _ _ (by omega), doV_word, doV_word]
  have e : ∀ x, doV 1 x (-2147483648) = wrap32 x % 4294967296 - 2147483648 := fun x => by
    rw [doV_two _ _ _ (by omega)]
    show wrap32 (wrap32 x + wrap32 (-2147483648)) = _
    unfold wrap32; omega
  rw [e, e]
  show num (decide (wrap32 a % 4294967296 < wrap32 b % 4294967296)) = num (decide (_ < _))
  congr 2
  simp only [eq_iff_iff]; omega
-- WordShifts
theorem shifts1 (a k : Int) (hk : 0 ≤ k ∧ k ≤ 31) : doV 11 a k = doV 11 a (k + 32) := by
  apply doV_eq_of_bv
  rw [doV_shl', doV_shl', wrap32_self k (by omega), wrap32_self (k + 32) (by omega)]
  congr 1
  omega
theorem shifts2 (a k : Int) : doV 13 (doV 11 a k) k = doV 8 a (doV 13 (-1) k) := by
  apply doV_eq_of_bv
  rw [doV_shru, doV_and, doV_shl', doV_shru]
  generalize (wrap32 k % 32).toNat = j
  show _ = bv a &&& BitVec.allOnes 32 >>> j
  apply BitVec.eq_of_getLsbD_eq
  intro i hi
  rw [BitVec.getLsbD_ushiftRight, BitVec.getLsbD_shiftLeft, BitVec.getLsbD_and, BitVec.getLsbD_ushiftRight, BitVec.getLsbD_allOnes]
  by_cases h : j + i < 32
  · have e : j + i - j = i := by omega
    have e2 : ¬ j + i < j := by omega
    simp [h, e, e2]
  · simp [h]
end Go.Proofs.Ytpajndeongcjbaa
