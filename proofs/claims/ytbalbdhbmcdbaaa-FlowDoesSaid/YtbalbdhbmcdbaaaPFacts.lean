/-
  What Do gives at each operation, as bit vectors.
-/
import Derived.Test.YtbalbdhbmcdbaaaPLB
set_option linter.unusedVariables false
set_option linter.unusedSimpArgs false
namespace Go.Proofs.Ytbalbdhbmcdbaaa
open Go.RowKit (wrap32 wrap64)
theorem doV_two (op a b : Int) (h : 1 ≤ op ∧ op ≤ 3 ∨ 8 ≤ op ∧ op ≤ 19) : doV op a b = wrap32 (twoV op (wrap32 a) (wrap32 b)) := by
  have hB : doB op b = true := by unfold doB; simp; omega
  rw [doV, if_neg (by rw [hB]; simp), if_neg (by omega), if_pos (by omega)]
theorem doV_one (op a b : Int) (h : 20 ≤ op ∧ op ≤ 23) : doV op a b = wrap32 (oneV op (wrap32 a)) := by
  have hB : doB op b = true := by unfold doB; simp; omega
  rw [doV, if_neg (by rw [hB]; simp), if_neg (by omega), if_neg (by omega)]
theorem doV_div (op a b : Int) (h : 4 ≤ op ∧ op ≤ 7) (hb : wrap32 b ≠ 0) : doV op a b = divV op a b := by
  have hB : doB op b = true := by unfold doB; simp; omega
  rw [doV, if_neg (by rw [hB]; simp), if_pos (by omega)]
theorem doV_and (a b : Int) : bv (doV 8 a b) = bv a &&& bv b := by
  rw [doV_two _ _ _ (by omega), bv_wrap]; show bv (bits .and .i64 (wrap32 a) (wrap32 b)) = _; rw [bv_and, bv_wrap, bv_wrap]
theorem doV_or (a b : Int) : bv (doV 9 a b) = bv a ||| bv b := by
  rw [doV_two _ _ _ (by omega), bv_wrap]; show bv (bits .or .i64 (wrap32 a) (wrap32 b)) = _; rw [bv_or, bv_wrap, bv_wrap]
theorem doV_xor (a b : Int) : bv (doV 10 a b) = bv a ^^^ bv b := by
  rw [doV_two _ _ _ (by omega), bv_wrap]; show bv (bits .xor .i64 (wrap32 a) (wrap32 b)) = _; rw [bv_xor, bv_wrap, bv_wrap]
theorem doV_not (a b : Int) : bv (doV 21 a b) = ~~~ bv a := by
  rw [doV_one _ _ _ (by omega), bv_wrap]; show bv (bits .xor .i64 (-1) (wrap32 a)) = _; rw [bv_xor, bv_wrap]
  show BitVec.ofInt 32 (-1) ^^^ bv a = _
  rw [show BitVec.ofInt 32 (-1) = BitVec.allOnes 32 from by decide, BitVec.allOnes_xor]
theorem num_bd (b : Bool) : wrap32 (num b) = num b := by cases b <;> simp [num, wrap32]
theorem doV_cmp (op a b : Int) (h : 14 ≤ op ∧ op ≤ 19) : doV op a b = num (cmpB op (wrap32 a) (wrap32 b)) := by
  rw [doV_two _ _ _ (by omega), twoV, if_neg (by omega), if_neg (by omega), if_neg (by omega), if_neg (by omega), if_neg (by omega), if_neg (by omega), if_neg (by omega), if_neg (by omega), if_neg (by omega), num_bd]
theorem bv_toNat (a : Int) : ((bv a).toNat : Int) = a % 4294967296 := by
  unfold bv; rw [BitVec.toNat_ofInt]; simp only [Nat.reducePow]; omega
theorem eq_wrap {a b op : Int} {x : Int} (h : bv (doV op a b) = bv x) : doV op a b = wrap32 x := by
  rw [← doV_word op, wrap32_eq_iff]; exact h
end Go.Proofs.Ytbalbdhbmcdbaaa
