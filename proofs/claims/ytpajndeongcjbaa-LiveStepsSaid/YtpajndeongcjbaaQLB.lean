/-
  Plain facts on words of 32 bits: a wrapped number is a bit vector's number; sums, products and bits go through.
  Contracts of package word's functions: what each call returns, whatever its arguments; the world stays as it was.
  Contracts of package word's functions: what each call returns, whatever its arguments; the world stays as it was.
  Contracts of word.Do: what it returns at each operation, whatever the numbers; the world stays as it was.
  What a unit does, step by step, on lists.
  What is known of registers, on lists; a unit whose functions are folded by what is known does what it did.
-/
import Derived.WalkKit
import Derived.Test.YtpajndeongcjbaaRows
import Derived.Deep.Light
import Derived.WalkMore
import Derived.ScopeJumps
import Derived.WalkSpells
import Derived.WalkLawsBesides
import Derived.Lib.Hide
import Derived.Test.YtpajndeongcjbaaR7Spec
import Derived.Test.YtpajndeongcjbaaR9Spec
namespace Go.Proofs.Ytpajndeongcjbaa
open Go.RowKit (wrap32 wrap64)

def bv (n : Int) : BitVec 32 := BitVec.ofInt 32 n
theorem wrap32_bv (n : Int) : wrap32 n = (bv n).toInt := by
  unfold wrap32 bv
  rw [BitVec.toInt_ofInt, Int.bmod_def]
  simp
  split <;> omega
theorem bv_wrap (n : Int) : bv (wrap32 n) = bv n := by rw [wrap32_bv, bv, BitVec.ofInt_toInt, bv]
theorem wrap32_wrap32 (n : Int) : wrap32 (wrap32 n) = wrap32 n := by rw [wrap32_bv (wrap32 n), bv_wrap, ← wrap32_bv]
theorem bv_wrap64 (n : Int) : bv (wrap64 n) = bv n := by
  apply BitVec.eq_of_toInt_eq
  rw [← wrap32_bv, ← wrap32_bv]; unfold wrap32 wrap64; omega
theorem bv_add (a b : Int) : bv (a + b) = bv a + bv b := BitVec.ofInt_add _ _
theorem bv_mul (a b : Int) : bv (a * b) = bv a * bv b := BitVec.ofInt_mul _ _
theorem bv_neg (a : Int) : bv (-a) = - bv a := BitVec.ofInt_neg
theorem bv_sub (a b : Int) : bv (a - b) = bv a - bv b := by rw [Int.sub_eq_add_neg, bv_add, bv_neg, BitVec.sub_eq_add_neg]
theorem wrap32_eq_iff (a b : Int) : wrap32 a = wrap32 b ↔ bv a = bv b := by
  rw [wrap32_bv, wrap32_bv]; exact BitVec.toInt_inj
theorem bv_toNat64 (x : BitVec 64) : bv (x.toNat : Int) = x.setWidth 32 := by
  apply BitVec.eq_of_toNat_eq
  simp [bv, BitVec.toNat_setWidth]
theorem ofInt64_setWidth (a : Int) : (BitVec.ofInt 64 a).setWidth 32 = bv a := by
  apply BitVec.eq_of_toNat_eq
  simp [bv, BitVec.toNat_setWidth, BitVec.toNat_ofInt]
  omega
theorem bits_bv (x : BitVec 64) : bv (IntKind.i64.wrap (x.toNat : Int)) = x.setWidth 32 := by
  rw [IntWalk.i64_left, bv_wrap64, bv_toNat64]
theorem bv_and (a b : Int) : bv (bits .and .i64 a b) = bv a &&& bv b := by
  show bv (IntKind.i64.wrap ((BitVec.ofInt 64 a &&& BitVec.ofInt 64 b).toNat : Int)) = _
  rw [bits_bv, BitVec.setWidth_and, ofInt64_setWidth, ofInt64_setWidth]
theorem bv_or (a b : Int) : bv (bits .or .i64 a b) = bv a ||| bv b := by
  show bv (IntKind.i64.wrap ((BitVec.ofInt 64 a ||| BitVec.ofInt 64 b).toNat : Int)) = _
  rw [bits_bv, BitVec.setWidth_or, ofInt64_setWidth, ofInt64_setWidth]
theorem bv_xor (a b : Int) : bv (bits .xor .i64 a b) = bv a ^^^ bv b := by
  show bv (IntKind.i64.wrap ((BitVec.ofInt 64 a ^^^ BitVec.ofInt 64 b).toNat : Int)) = _
  rw [bits_bv, BitVec.setWidth_xor, ofInt64_setWidth, ofInt64_setWidth]
theorem bits_mask (b : Int) (k : Nat) (hk : k < 63) : bits .and .i64 b ((2 ^ k - 1 : Nat) : Int) = b % ((2 ^ k : Nat) : Int) := by
  show IntKind.i64.wrap ((BitVec.ofInt 64 b &&& BitVec.ofInt 64 ((2 ^ k - 1 : Nat) : Int)).toNat : Int) = _
  have hp : (2 : Nat) ^ k < 2 ^ 63 := Nat.pow_lt_pow_right (by omega) hk
  have hq : 0 < (2 : Nat) ^ k := Nat.pow_pos (by omega)
  have e1 : (BitVec.ofInt 64 ((2 ^ k - 1 : Nat) : Int)).toNat = 2 ^ k - 1 := by
    rw [BitVec.toNat_ofInt]; simp only [Nat.reducePow] at *; omega
  have e2 : ((BitVec.ofInt 64 b).toNat : Int) = b % 18446744073709551616 := by
    rw [BitVec.toNat_ofInt]; simp only [Nat.reducePow]; omega
  rw [BitVec.toNat_and, e1, Nat.and_two_pow_sub_one_eq_mod]
  have e3 : (((BitVec.ofInt 64 b).toNat % 2 ^ k : Nat) : Int) = b % ((2 ^ k : Nat) : Int) := by
    rw [Int.natCast_emod, e2]
    refine Int.emod_emod_of_dvd _ ?_
    have : (2 : Nat) ^ k ∣ 2 ^ 64 := Nat.pow_dvd_pow 2 (by omega)
    exact Int.natCast_dvd_natCast.2 this
  rw [e3]
  have h1 := Int.emod_nonneg b (b := ((2 ^ k : Nat) : Int)) (by omega)
  have h2 := Int.emod_lt_of_pos b (b := ((2 ^ k : Nat) : Int)) (by omega)
  exact IntWalk.i64_in _ (by simp only [Nat.reducePow] at *; omega)
theorem bits_and31 (b : Int) : bits .and .i64 b 31 = b % 32 := bits_mask b 5 (by omega)
theorem bits_and255 (b : Int) : bits .and .i64 b 255 = b % 256 := bits_mask b 8 (by omega)
theorem bv_not (a : Int) : bv (-a - 1) = ~~~ bv a := by
  rw [bv_sub, bv_neg]
  show - bv a - 1#32 = _
  rw [BitVec.neg_eq_not_add, BitVec.add_sub_cancel]
end Go.Proofs.Ytpajndeongcjbaa
namespace Go.Proofs.Ytpajndeongcjbaa
open Go.RowKit (wrap32 wrap64)

theorem ret_int {k : IntKind} {a b : Int} (h : a = b) : Ending.returned (.int k a) = .returned (.int k b) := by rw [h]
theorem ret_bool {a b : Bool} (h : a = b) : Ending.returned (.bool a) = .returned (.bool b) := by rw [h]
theorem wrap32_bd (n : Int) : -2147483648 ≤ wrap32 n ∧ wrap32 n ≤ 2147483647 := by unfold wrap32; omega
theorem wrap_any (n : Int) (w : World) :
    Calls Try.prog 144 #[.int .i64 n] w fun e w' => e = .returned (.int .i64 (wrap32 n)) ∧ w = w' := by
  have hb := wrap32_bd n
  go_enter Try.func144, Try.ntmps144
  go_wp2
  go_ret
  exact ⟨rfl, rfl⟩
theorem is_any (n : Int) (w : World) :
    Calls Try.prog 115 #[.int .i64 n] w fun e w' => e = .returned (.bool (wrap32 n == n)) ∧ w = w' := by
  go_enter Try.func115, Try.ntmps115
  go_wp2_with ((with_reducible refine (wrap_any _ _).mono ?_); rintro e w' ⟨rfl, rfl⟩)
  go_ret
  exact ⟨rfl, rfl⟩
def twoB (op : Int) : Bool := decide (1 ≤ op ∧ op ≤ 19)
def oneB (op : Int) : Bool := decide (20 ≤ op ∧ op ≤ 23)
theorem two_any (op : Int) (w : World) :
    Calls Try.prog 102 #[.int .i64 op] w fun e w' => e = .returned (.bool (twoB op)) ∧ w = w' := by
  by_cases h : 1 ≤ op
  all_goals
    go_enter Try.func102, Try.ntmps102
    go_wp2
    go_ret
    exact ⟨ret_bool (by unfold twoB; simp; omega), rfl⟩
theorem one_any (op : Int) (w : World) :
    Calls Try.prog 101 #[.int .i64 op] w fun e w' => e = .returned (.bool (oneB op)) ∧ w = w' := by
  by_cases h : 20 ≤ op
  all_goals
    go_enter Try.func101, Try.ntmps101
    go_wp2
    go_ret
    exact ⟨ret_bool (by unfold oneB; simp; omega), rfl⟩
end Go.Proofs.Ytpajndeongcjbaa
namespace Go.Proofs.Ytpajndeongcjbaa
open Go.RowKit (wrap32 wrap64)

theorem plain_any (n : Int) (w : World) :
    Calls Try.prog 159 #[.int .i64 n] w fun e w' => e = .returned (.int .i64 (n % 4294967296)) ∧ w = w' := by
  go_enter Try.func159, Try.ntmps159
  go_wp2
  go_ret
  exact ⟨rfl, rfl⟩
def num (b : Bool) : Int := if b then 1 else 0
theorem number_any (b : Bool) (w : World) :
    Calls Try.prog 164 #[.bool b] w fun e w' => e = .returned (.int .i64 (num b)) ∧ w = w' := by
  cases b
  all_goals
    go_enter Try.func164, Try.ntmps164
    go_wp2
    go_ret
    exact ⟨rfl, rfl⟩
def cmpB (op a b : Int) : Bool :=
  if op = 14 then a == b else if op = 15 then a != b else if op = 16 then decide (a < b) else if op = 17 then decide (a ≤ b)
  else if op = 18 then decide (a % 4294967296 < b % 4294967296) else decide (a % 4294967296 ≤ b % 4294967296)
theorem compare_any (op a b : Int) (w : World) :
    Calls Try.prog 165 #[.int .i64 op, .int .i64 a, .int .i64 b] w fun e w' => e = .returned (.bool (cmpB op a b)) ∧ w = w' := by
  go_enter Try.func165, Try.ntmps165
  go_wp2_with ((with_reducible refine (plain_any _ _).mono ?_); rintro e w' ⟨rfl, rfl⟩)
  all_goals
    go_ret
    go_light
    refine ⟨ret_bool ?_, rfl⟩
    simp only [beq_iff_eq, beq_eq_false_iff_ne, ne_eq] at *
    simp [cmpB, *]
/-- The number that ofTwo gives, before it is wrapped. -/
def twoV (op a b : Int) : Int :=
  if op = 1 then a + b else if op = 2 then a - b else if op = 3 then wrap64 (a * b) else if op = 8 then bits .and .i64 a b
  else if op = 9 then bits .or .i64 a b else if op = 10 then bits .xor .i64 a b else if op = 11 then wrap64 (a * 2 ^ (b % 32).toNat)
  else if op = 12 then a / 2 ^ (b % 32).toNat else if op = 13 then a % 4294967296 / 2 ^ (b % 32).toNat else num (cmpB op a b)
theorem ofTwo_any (op a b : Int) (w : World) (ha : -2147483648 ≤ a ∧ a ≤ 2147483647) (hb : -2147483648 ≤ b ∧ b ≤ 2147483647) :
    Calls Try.prog 160 #[.int .i64 op, .int .i64 a, .int .i64 b] w fun e w' => e = .returned (.int .i64 (twoV op a b)) ∧ w = w' := by
  have e31 := bits_and31 b
  go_enter Try.func160, Try.ntmps160
  go_wp2_with (first | ((with_reducible refine (plain_any _ _).mono ?_); rintro e w' ⟨rfl, rfl⟩) | ((with_reducible refine (compare_any _ _ _ _).mono ?_); rintro e w' ⟨rfl, rfl⟩) | ((with_reducible refine (number_any _ _).mono ?_); rintro e w' ⟨rfl, rfl⟩))
  all_goals
    go_ret
    go_light
    refine ⟨ret_int ?_, rfl⟩
    simp only [beq_iff_eq, beq_eq_false_iff_ne, ne_eq] at *
    simp [twoV, *]
def oneV (op a : Int) : Int :=
  if op = 20 then -a else if op = 21 then bits .xor .i64 (-1) a else if op = 22 then a % 256 else num (a == 0)
theorem ofOne_any (op a : Int) (w : World) (ha : -2147483648 ≤ a ∧ a ≤ 2147483647) :
    Calls Try.prog 161 #[.int .i64 op, .int .i64 a] w fun e w' => e = .returned (.int .i64 (oneV op a)) ∧ w = w' := by
  have e255 := bits_and255 a
  go_enter Try.func161, Try.ntmps161
  go_wp2_with ((with_reducible refine (number_any _ _).mono ?_); rintro e w' ⟨rfl, rfl⟩)
  all_goals
    go_ret
    go_light
    refine ⟨ret_int ?_, rfl⟩
    simp only [beq_iff_eq, beq_eq_false_iff_ne, ne_eq] at *
    simp [oneV, *]
theorem result_any (n : Int) (w : World) :
    Calls Try.prog 158 #[.int .i64 n] w fun e w' => e = .returned (.tuple #[.int .i64 (wrap32 n), .bool true]) ∧ w = w' := by
  go_enter Try.func158, Try.ntmps158
  go_wp2_with ((with_reducible refine (wrap_any _ _).mono ?_); rintro e w' ⟨rfl, rfl⟩)
  go_ret2
  exact ⟨rfl, rfl⟩
end Go.Proofs.Ytpajndeongcjbaa
namespace Go.Proofs.Ytpajndeongcjbaa
open Go.RowKit (wrap32 wrap64)

theorem do_two (op a b : Int) (w : World) (h : 1 ≤ op ∧ op ≤ 3 ∨ 8 ≤ op ∧ op ≤ 19) :
    Calls Try.prog 143 #[.int .i64 op, .int .i64 a, .int .i64 b] w fun e w' => e = .returned (.tuple #[.int .i64 (wrap32 (twoV op (wrap32 a) (wrap32 b))), .bool true]) ∧ w = w' := by
  have h4 : ((op : Int) == 4) = false := by simp; omega
  have h5 : ((op : Int) == 5) = false := by simp; omega
  have h6 : ((op : Int) == 6) = false := by simp; omega
  have h7 : ((op : Int) == 7) = false := by simp; omega
  have ht : twoB op = true := by unfold twoB; simp; omega
  go_enter Try.func143, Try.ntmps143
  go_wp2
  go_step3
  go_wp2_with (first | ((with_reducible refine (wrap_any _ _).mono ?_); rintro e w' ⟨rfl, rfl⟩) | ((with_reducible refine (two_any _ _).mono ?_); rintro e w' ⟨rfl, rfl⟩) | ((with_reducible refine (ofTwo_any _ _ _ _ (wrap32_bd _) (wrap32_bd _)).mono ?_); rintro e w' ⟨rfl, rfl⟩) | ((with_reducible refine (result_any _ _).mono ?_); rintro e w' ⟨rfl, rfl⟩))
  rw [Exit.noGoto_ret]
  go_ret2
  exact ⟨rfl, rfl⟩
theorem do_one (op a b : Int) (w : World) (h : 20 ≤ op ∧ op ≤ 23) :
    Calls Try.prog 143 #[.int .i64 op, .int .i64 a, .int .i64 b] w fun e w' => e = .returned (.tuple #[.int .i64 (wrap32 (oneV op (wrap32 a))), .bool true]) ∧ w = w' := by
  have h4 : ((op : Int) == 4) = false := by simp; omega
  have h5 : ((op : Int) == 5) = false := by simp; omega
  have h6 : ((op : Int) == 6) = false := by simp; omega
  have h7 : ((op : Int) == 7) = false := by simp; omega
  have ht : twoB op = false := by unfold twoB; simp; omega
  have h1 : oneB op = true := by unfold oneB; simp; omega
  go_enter Try.func143, Try.ntmps143
  go_wp2
  go_step3
  go_wp2_with (first | ((with_reducible refine (wrap_any _ _).mono ?_); rintro e w' ⟨rfl, rfl⟩) | ((with_reducible refine (two_any _ _).mono ?_); rintro e w' ⟨rfl, rfl⟩) | ((with_reducible refine (one_any _ _).mono ?_); rintro e w' ⟨rfl, rfl⟩) | ((with_reducible refine (ofOne_any _ _ _ (wrap32_bd _)).mono ?_); rintro e w' ⟨rfl, rfl⟩) | ((with_reducible refine (result_any _ _).mono ?_); rintro e w' ⟨rfl, rfl⟩))
  rw [Exit.noGoto_ret]
  go_ret2
  exact ⟨rfl, rfl⟩
theorem do_none (op a b : Int) (w : World) (h : op < 1 ∨ 23 < op) :
    Calls Try.prog 143 #[.int .i64 op, .int .i64 a, .int .i64 b] w fun e w' => e = .returned (.tuple #[.int .i64 0, .bool false]) ∧ w = w' := by
  have h4 : ((op : Int) == 4) = false := by simp; omega
  have h5 : ((op : Int) == 5) = false := by simp; omega
  have h6 : ((op : Int) == 6) = false := by simp; omega
  have h7 : ((op : Int) == 7) = false := by simp; omega
  have ht : twoB op = false := by unfold twoB; simp; omega
  have h1 : oneB op = false := by unfold oneB; simp; omega
  go_enter Try.func143, Try.ntmps143
  go_wp2
  go_step3
  go_wp2_with (first | ((with_reducible refine (wrap_any _ _).mono ?_); rintro e w' ⟨rfl, rfl⟩) | ((with_reducible refine (two_any _ _).mono ?_); rintro e w' ⟨rfl, rfl⟩) | ((with_reducible refine (one_any _ _).mono ?_); rintro e w' ⟨rfl, rfl⟩))
  rw [Exit.noGoto_ret]
  go_ret2
  exact ⟨rfl, rfl⟩
section
variable {P : Program} {a : Act} {w : World} {Q : Exit → Act → World → Prop}
theorem wp_scope_forward {c rest : Code} (l : Nat) (hf : findLabel c l = some rest)
    (first : c.wp P (Exit.jump l (fun a' w' => rest.wp P (Exit.noGoto Q) a' w') Q) a w) : (Code.scope c).wp P Q a w :=
  wp_scope_jumps l _ (fun _ _ => 0) hf first fun _ _ h => Code.wp_mono (fun e _ _ hq => by
    cases e <;> first | exact hq | exact hq.elim) h
end
def divV (op a b : Int) : Int :=
  if op = 4 then wrap32 (wrap64 ((wrap32 a).tdiv (wrap32 b))) else if op = 5 then wrap32 ((wrap32 a).tmod (wrap32 b))
  else if op = 6 then wrap32 (wrap32 a % 4294967296 / (wrap32 b % 4294967296)) else wrap32 (wrap32 a % 4294967296 % (wrap32 b % 4294967296))
theorem do_div (a b : Int) (w : World) (hb : wrap32 b ≠ 0) :
    Calls Try.prog 143 #[.int .i64 4, .int .i64 a, .int .i64 b] w fun e w' => e = .returned (.tuple #[.int .i64 (divV 4 a b), .bool true]) ∧ w = w' := by
  have hb0 : (wrap32 b == 0) = false := by simp; omega
  have hb2 : ¬ (wrap32 b = 0) := hb
  clear hb
  go_enter Try.func143, Try.ntmps143
  go_wp2
  refine wp_scope_forward 0 rfl ?_
  go_wp2_with (first | ((with_reducible refine (wrap_any _ _).mono ?_); rintro e w' ⟨rfl, rfl⟩) | ((with_reducible refine (plain_any _ _).mono ?_); rintro e w' ⟨rfl, rfl⟩) | ((with_reducible refine (result_any _ _).mono ?_); rintro e w' ⟨rfl, rfl⟩))
  go_step3
  refine ⟨rfl, ?_⟩
  show Code.wp _ _ _ _ _
  go_wp2_with ((with_reducible refine (result_any _ _).mono ?_); rintro e w' ⟨rfl, rfl⟩)
  rw [Exit.noGoto_ret]
  go_ret2
  exact ⟨rfl, rfl⟩
theorem do_div0 (a b : Int) (w : World) (hb : wrap32 b = 0) :
    Calls Try.prog 143 #[.int .i64 4, .int .i64 a, .int .i64 b] w fun e w' => e = .returned (.tuple #[.int .i64 0, .bool false]) ∧ w = w' := by
  have hb0 : (wrap32 b == 0) = true := by simp; omega
  clear hb
  go_enter Try.func143, Try.ntmps143
  go_wp2
  refine wp_scope_forward 0 rfl ?_
  go_wp2_with (first | ((with_reducible refine (wrap_any _ _).mono ?_); rintro e w' ⟨rfl, rfl⟩) | ((with_reducible refine (plain_any _ _).mono ?_); rintro e w' ⟨rfl, rfl⟩) | ((with_reducible refine (result_any _ _).mono ?_); rintro e w' ⟨rfl, rfl⟩))
  go_step3
  refine ⟨rfl, ?_⟩
  show Code.wp _ _ _ _ _
  go_wp2_with ((with_reducible refine (result_any _ _).mono ?_); rintro e w' ⟨rfl, rfl⟩)
  rw [Exit.noGoto_ret]
  go_ret2
  exact ⟨rfl, rfl⟩
theorem do_rem (a b : Int) (w : World) (hb : wrap32 b ≠ 0) :
    Calls Try.prog 143 #[.int .i64 5, .int .i64 a, .int .i64 b] w fun e w' => e = .returned (.tuple #[.int .i64 (divV 5 a b), .bool true]) ∧ w = w' := by
  have hb0 : (wrap32 b == 0) = false := by simp; omega
  have hb2 : ¬ (wrap32 b = 0) := hb
  clear hb
  go_enter Try.func143, Try.ntmps143
  go_wp2
  refine wp_scope_forward 0 rfl ?_
  go_wp2_with (first | ((with_reducible refine (wrap_any _ _).mono ?_); rintro e w' ⟨rfl, rfl⟩) | ((with_reducible refine (plain_any _ _).mono ?_); rintro e w' ⟨rfl, rfl⟩) | ((with_reducible refine (result_any _ _).mono ?_); rintro e w' ⟨rfl, rfl⟩))
  go_step3
  refine ⟨rfl, ?_⟩
  show Code.wp _ _ _ _ _
  go_wp2_with ((with_reducible refine (result_any _ _).mono ?_); rintro e w' ⟨rfl, rfl⟩)
  rw [Exit.noGoto_ret]
  go_ret2
  exact ⟨rfl, rfl⟩
theorem do_rem0 (a b : Int) (w : World) (hb : wrap32 b = 0) :
    Calls Try.prog 143 #[.int .i64 5, .int .i64 a, .int .i64 b] w fun e w' => e = .returned (.tuple #[.int .i64 0, .bool false]) ∧ w = w' := by
  have hb0 : (wrap32 b == 0) = true := by simp; omega
  clear hb
  go_enter Try.func143, Try.ntmps143
  go_wp2
  refine wp_scope_forward 0 rfl ?_
  go_wp2_with (first | ((with_reducible refine (wrap_any _ _).mono ?_); rintro e w' ⟨rfl, rfl⟩) | ((with_reducible refine (plain_any _ _).mono ?_); rintro e w' ⟨rfl, rfl⟩) | ((with_reducible refine (result_any _ _).mono ?_); rintro e w' ⟨rfl, rfl⟩))
  go_step3
  refine ⟨rfl, ?_⟩
  show Code.wp _ _ _ _ _
  go_wp2_with ((with_reducible refine (result_any _ _).mono ?_); rintro e w' ⟨rfl, rfl⟩)
  rw [Exit.noGoto_ret]
  go_ret2
  exact ⟨rfl, rfl⟩
theorem do_divu (a b : Int) (w : World) (hb : wrap32 b ≠ 0) :
    Calls Try.prog 143 #[.int .i64 6, .int .i64 a, .int .i64 b] w fun e w' => e = .returned (.tuple #[.int .i64 (divV 6 a b), .bool true]) ∧ w = w' := by
  have hbd := wrap32_bd b
  have hb0 : (wrap32 b % 4294967296 == 0) = false := by simp; omega
  have hb2 : ¬ (wrap32 b % 4294967296 = 0) := by omega
  clear hb hbd
  go_enter Try.func143, Try.ntmps143
  go_wp2
  refine wp_scope_forward 0 rfl ?_
  go_wp2_with (first | ((with_reducible refine (wrap_any _ _).mono ?_); rintro e w' ⟨rfl, rfl⟩) | ((with_reducible refine (plain_any _ _).mono ?_); rintro e w' ⟨rfl, rfl⟩) | ((with_reducible refine (result_any _ _).mono ?_); rintro e w' ⟨rfl, rfl⟩))
  go_step3
  refine ⟨rfl, ?_⟩
  show Code.wp _ _ _ _ _
  go_wp2_with ((with_reducible refine (result_any _ _).mono ?_); rintro e w' ⟨rfl, rfl⟩)
  rw [Exit.noGoto_ret]
  go_ret2
  exact ⟨rfl, rfl⟩
theorem do_divu0 (a b : Int) (w : World) (hb : wrap32 b = 0) :
    Calls Try.prog 143 #[.int .i64 6, .int .i64 a, .int .i64 b] w fun e w' => e = .returned (.tuple #[.int .i64 0, .bool false]) ∧ w = w' := by
  have hbd := wrap32_bd b
  have hb0 : (wrap32 b % 4294967296 == 0) = true := by simp; omega
  clear hb hbd
  go_enter Try.func143, Try.ntmps143
  go_wp2
  refine wp_scope_forward 0 rfl ?_
  go_wp2_with (first | ((with_reducible refine (wrap_any _ _).mono ?_); rintro e w' ⟨rfl, rfl⟩) | ((with_reducible refine (plain_any _ _).mono ?_); rintro e w' ⟨rfl, rfl⟩) | ((with_reducible refine (result_any _ _).mono ?_); rintro e w' ⟨rfl, rfl⟩))
  go_step3
  refine ⟨rfl, ?_⟩
  show Code.wp _ _ _ _ _
  go_wp2_with ((with_reducible refine (result_any _ _).mono ?_); rintro e w' ⟨rfl, rfl⟩)
  rw [Exit.noGoto_ret]
  go_ret2
  exact ⟨rfl, rfl⟩
theorem do_remu (a b : Int) (w : World) (hb : wrap32 b ≠ 0) :
    Calls Try.prog 143 #[.int .i64 7, .int .i64 a, .int .i64 b] w fun e w' => e = .returned (.tuple #[.int .i64 (divV 7 a b), .bool true]) ∧ w = w' := by
  have hbd := wrap32_bd b
  have hb0 : (wrap32 b % 4294967296 == 0) = false := by simp; omega
  have hb2 : ¬ (wrap32 b % 4294967296 = 0) := by omega
  clear hb hbd
  go_enter Try.func143, Try.ntmps143
  go_wp2
  refine wp_scope_forward 0 rfl ?_
  go_wp2_with (first | ((with_reducible refine (wrap_any _ _).mono ?_); rintro e w' ⟨rfl, rfl⟩) | ((with_reducible refine (plain_any _ _).mono ?_); rintro e w' ⟨rfl, rfl⟩) | ((with_reducible refine (result_any _ _).mono ?_); rintro e w' ⟨rfl, rfl⟩))
  go_step3
  refine ⟨rfl, ?_⟩
  show Code.wp _ _ _ _ _
  go_wp2_with ((with_reducible refine (result_any _ _).mono ?_); rintro e w' ⟨rfl, rfl⟩)
  rw [Exit.noGoto_ret]
  go_ret2
  exact ⟨rfl, rfl⟩
theorem do_remu0 (a b : Int) (w : World) (hb : wrap32 b = 0) :
    Calls Try.prog 143 #[.int .i64 7, .int .i64 a, .int .i64 b] w fun e w' => e = .returned (.tuple #[.int .i64 0, .bool false]) ∧ w = w' := by
  have hbd := wrap32_bd b
  have hb0 : (wrap32 b % 4294967296 == 0) = true := by simp; omega
  clear hb hbd
  go_enter Try.func143, Try.ntmps143
  go_wp2
  refine wp_scope_forward 0 rfl ?_
  go_wp2_with (first | ((with_reducible refine (wrap_any _ _).mono ?_); rintro e w' ⟨rfl, rfl⟩) | ((with_reducible refine (plain_any _ _).mono ?_); rintro e w' ⟨rfl, rfl⟩) | ((with_reducible refine (result_any _ _).mono ?_); rintro e w' ⟨rfl, rfl⟩))
  go_step3
  refine ⟨rfl, ?_⟩
  show Code.wp _ _ _ _ _
  go_wp2_with ((with_reducible refine (result_any _ _).mono ?_); rintro e w' ⟨rfl, rfl⟩)
  rw [Exit.noGoto_ret]
  go_ret2
  exact ⟨rfl, rfl⟩

/-- Whether there is a result, and which. -/
def doB (op b : Int) : Bool := decide ((1 ≤ op ∧ op ≤ 23) ∧ ¬ ((4 ≤ op ∧ op ≤ 7) ∧ wrap32 b = 0))
def doV (op a b : Int) : Int :=
  if doB op b = false then 0 else if 4 ≤ op ∧ op ≤ 7 then divV op a b else if op ≤ 19 then wrap32 (twoV op (wrap32 a) (wrap32 b)) else wrap32 (oneV op (wrap32 a))
theorem do_any (op a b : Int) (w : World) :
    Calls Try.prog 143 #[.int .i64 op, .int .i64 a, .int .i64 b] w fun e w' => e = .returned (.tuple #[.int .i64 (doV op a b), .bool (doB op b)]) ∧ w = w' := by
  by_cases h1 : op < 1 ∨ 23 < op
  · have hB : doB op b = false := by unfold doB; simp; omega
    rw [doV, if_pos hB, hB]; exact do_none op a b w h1
  · by_cases h2 : 4 ≤ op ∧ op ≤ 7
    · by_cases h3 : wrap32 b = 0
      · have hB : doB op b = false := by unfold doB; simp; omega
        rw [doV, if_pos hB, hB]
        rcases (by omega : op = 4 ∨ op = 5 ∨ op = 6 ∨ op = 7) with rfl | rfl | rfl | rfl
        · exact do_div0 a b w h3
        · exact do_rem0 a b w h3
        · exact do_divu0 a b w h3
        · exact do_remu0 a b w h3
      · have hB : doB op b = true := by unfold doB; simp; omega
        rw [doV, if_neg (by rw [hB]; simp), if_pos h2, hB]
        rcases (by omega : op = 4 ∨ op = 5 ∨ op = 6 ∨ op = 7) with rfl | rfl | rfl | rfl
        · exact do_div a b w h3
        · exact do_rem a b w h3
        · exact do_divu a b w h3
        · exact do_remu a b w h3
    · have hB : doB op b = true := by unfold doB; simp; omega
      rw [doV, if_neg (by rw [hB]; simp), if_neg h2, hB]
      by_cases h4 : op ≤ 19
      · rw [if_pos h4]; exact do_two op a b w (by omega)
      · rw [if_neg h4]; exact do_one op a b w (by omega)
theorem doV_word (op a b : Int) : wrap32 (doV op a b) = doV op a b := by
  unfold doV divV
  repeat' split
  all_goals first | exact wrap32_wrap32 _ | simp [wrap32]
theorem doV_bd (op a b : Int) : -2147483648 ≤ doV op a b ∧ doV op a b ≤ 2147483647 := by rw [← doV_word]; exact wrap32_bd _
end Go.Proofs.Ytpajndeongcjbaa
namespace Go.Proofs.Ytpajndeongcjbaa.Cd

/-- A call that goes on: which function, where its frame is, where it stands, where its caller wants the answer, its registers. -/
structure Frm where
  k : Nat
  base : Int
  pos : Int
  dst : Int
  regs : List Int
/-- What came of a run. -/
structure Rsu where
  fin : Int
  code : Int
  out : List UInt8
/-- How far a run is: the innermost call first. -/
structure Sta where
  mem : List Int
  out : List UInt8
  inp : List UInt8
  stack : List Frm
def reg (f : Frm) (r : Int) : Int := f.regs.getD r.toNat 0
def byteOf (n : Int) : UInt8 := UInt8.ofNat (n % 256).toNat
/-- The call behind an instruction that tells v, and goes on at p. -/
def went (f : Frm) (i : Ins) (v p : Int) : Frm := { f with pos := p, regs := if 0 ≤ sets i then f.regs.set i.dst.toNat v else f.regs }
def addr (f : Frm) (i : Ins) : Int := reg f i.a % 4294967296
/-- What an operation has as its second number. -/
def valB (f : Frm) (i : Ins) : Int := if i.kind = 3 then reg f i.b else 0
/-- A step by an instruction: the end, or how far it is then. -/
def stepI (u : Uni) (g : Fnc) (i : Ins) (f : Frm) (rest : List Frm) (s : Sta) : Rsu ⊕ Sta :=
  if i.kind = 1 then .inr { s with stack := went f i i.n (f.pos + 1) :: rest }
  else if i.kind = 2 ∨ i.kind = 3 then
    if doB i.op (valB f i) = true then .inr { s with stack := went f i (doV i.op (reg f i.a) (valB f i)) (f.pos + 1) :: rest } else .inl ⟨2, 2, s.out⟩
  else if i.kind = 4 then .inr { s with stack := went f i (reg f i.a) (f.pos + 1) :: rest }
  else if i.kind = 5 then .inr { s with stack := went f i (f.base + i.n) (f.pos + 1) :: rest }
  else if i.kind = 6 ∨ i.kind = 7 then
    if 1 ≤ addr f i ∧ addr f i < 4096 then
      (if i.kind = 6 then .inr { s with stack := went f i (s.mem.getD (addr f i).toNat 0) (f.pos + 1) :: rest }
       else .inr { s with mem := s.mem.set (addr f i).toNat (reg f i.b), stack := went f i 0 (f.pos + 1) :: rest })
    else .inl ⟨2, 1, s.out⟩
  else if i.kind = 8 then
    match findN u.funcs i.text with
    | none => .inl ⟨4, 0, s.out⟩
    | some k => match u.funcs[k]? with
      | none => .inl ⟨4, 0, s.out⟩
      | some h =>
        if f.base + g.frame + h.frame > 4096 then .inl ⟨3, 0, s.out⟩
        else .inr { s with stack := ⟨k, f.base + g.frame, 0, i.dst, (uses i).map (reg f) ++ List.replicate (h.regs.toNat - (uses i).length) 0⟩ :: { f with pos := f.pos + 1 } :: rest }
  else if i.kind = 9 then
    match s.inp with
    | [] => .inr { s with stack := went f i (-1) (f.pos + 1) :: rest }
    | c :: cs => .inr { s with inp := cs, stack := went f i c.toNat (f.pos + 1) :: rest }
  else if i.kind = 10 then .inr { s with out := s.out ++ [byteOf (reg f i.a)], stack := went f i 0 (f.pos + 1) :: rest }
  else if i.kind = 11 then .inr { s with stack := went f i 0 i.dest :: rest }
  else if i.kind = 12 then .inr { s with stack := went f i 0 (if reg f i.a ≠ 0 then i.dest else i.els) :: rest }
  else match rest with
    | [] => .inl ⟨1, reg f i.a, s.out⟩
    | p :: ps => .inr { s with stack := (if 0 ≤ f.dst then { p with regs := p.regs.set f.dst.toNat (reg f i.a) } else p) :: ps }
def step (u : Uni) (s : Sta) : Rsu ⊕ Sta :=
  match s.stack with
  | [] => .inl ⟨4, 0, s.out⟩
  | f :: rest => match u.funcs[f.k]? with
    | none => .inl ⟨4, 0, s.out⟩
    | some g => match g.code[f.pos.toNat]? with
      | none => .inl ⟨4, 0, s.out⟩
      | some i => stepI u g i f rest s
def runS (u : Uni) : Nat → Sta → Rsu
  | 0, s => ⟨4, 0, s.out⟩
  | n + 1, s => match step u s with
    | .inl r => r
    | .inr s' => runS u n s'
def wMain : List UInt8 := [109, 97, 105, 110]
def memOf : List Glo → List Int → List Int
  | [], m => m
  | g :: gs, m => memOf gs (if g.pos < 4096 then m.set g.pos.toNat g.init else m)
def mem0 (u : Uni) : List Int := memOf u.globals (List.replicate 4096 0)
def fuelOf (n : Int) : Nat := if n > 1000000 then 1000000 else n.toNat
/-- What comes of a unit. -/
def runU (u : Uni) (inp : List UInt8) (fuel : Int) : Rsu :=
  match findN u.funcs wMain with
  | none => ⟨4, 0, []⟩
  | some m => match u.funcs[m]? with
    | none => ⟨4, 0, []⟩
    | some g =>
      if rightU u = false ∨ g.params > 0 then ⟨4, 0, []⟩
      else if u.top + g.frame > 4096 then ⟨3, 0, []⟩
      else runS u (fuelOf fuel) ⟨mem0 u, [], inp, [⟨m, u.top, 0, -1, List.replicate g.regs.toNat 0⟩]⟩
end Go.Proofs.Ytpajndeongcjbaa.Cd
namespace Go.Proofs.Ytpajndeongcjbaa.Cd

/-- A value: never 0, known 1, any 2. -/
structure Val where
  kind : Int
  n : Int
theorem Val.ext_iff' (a b : Val) : (a.kind = b.kind ∧ a.n = b.n) ↔ a = b := by cases a; cases b; simp
instance : DecidableEq Val := fun a b => decidable_of_iff _ (Val.ext_iff' a b)
def joinV (a b : Val) : Val := if a.kind = 0 then b else if b.kind = 0 then a else if a = b then a else ⟨2, 0⟩
/-- What an instruction sets, by what is known ahead; none: nothing goes on behind it. -/
def behV (i : Ins) (v : List Val) : Option Val :=
  if i.kind = 1 then some ⟨1, i.n⟩
  else if i.kind = 4 then some (v.getD i.a.toNat ⟨0, 0⟩)
  else if i.kind = 2 ∨ i.kind = 3 then
    let a := v.getD i.a.toNat ⟨0, 0⟩
    let b := if i.kind = 3 then v.getD i.b.toNat ⟨0, 0⟩ else ⟨1, 0⟩
    if a.kind ≠ 1 ∨ b.kind ≠ 1 then some ⟨2, 0⟩
    else if doB i.op b.n = true then some ⟨1, doV i.op a.n b.n⟩ else none
  else some ⟨2, 0⟩
def setV (i : Ins) (v : List Val) (x : Val) : List Val := if 0 ≤ sets i then v.set (sets i).toNat x else v
/-- The edges that can be gone. -/
def goesV (i : Ins) (v : List Val) (p : Int) : List Int :=
  if i.kind = 12 ∧ (v.getD i.a.toNat ⟨0, 0⟩).kind = 1 then [if (v.getD i.a.toNat ⟨0, 0⟩).n ≠ 0 then i.dest else i.els] else next i p
def withinV (a b : Val) : Prop := joinV a b = b
def withinL (v w : List Val) : Prop := v.length = w.length ∧ ∀ (r : Nat) (a b : Val), v[r]? = some a → w[r]? = some b → withinV a b
def firstV (g : Fnc) (r : Nat) : Val := if (r : Int) < g.params then ⟨2, 0⟩ else ⟨1, 0⟩
def fullV (v : List Val) : Prop := ∀ a ∈ v, a.kind ≠ 0
/-- What is known holds together. -/
structure SolV (g : Fnc) (A : List (List Val)) : Prop where
  len : A.length = g.code.length
  regs : ∀ v ∈ A, (v.length : Int) = g.regs
  first : ∀ v r a, A[0]? = some v → v[r]? = some a → withinV (firstV g r) a
  edge : ∀ (k : Nat) (i : Ins) (v : List Val) (x : Val), g.code[k]? = some i → A[k]? = some v → fullV v → behV i v = some x → ∀ p ∈ goesV i (setV i v x) k, ∀ w, A[p.toNat]? = some w → withinL (setV i v x) w
def constI (d n : Int) : Ins := ⟨1, 0, d, 0, 0, n, [], 0, 0, 0, 0, 0, 0, 0, -1⟩
def jumpI (p : Int) : Ins := ⟨11, 0, -1, 0, 0, 0, [], 0, 0, 0, 0, 0, 0, p, -1⟩
/-- An instruction, folded by what is known ahead of it. -/
def foldI (i : Ins) (v : List Val) : Ins :=
  if v.any (fun a => a.kind == 0) then i
  else if i.kind = 2 ∨ i.kind = 3 ∨ i.kind = 4 then
    match behV i v with
    | some x => if x.kind = 1 then constI i.dst x.n else i
    | none => i
  else if i.kind = 12 ∧ (v.getD i.a.toNat ⟨0, 0⟩).kind = 1 then jumpI (if (v.getD i.a.toNat ⟨0, 0⟩).n ≠ 0 then i.dest else i.els)
  else i
def foldF (A : List (List Val)) (g : Fnc) : Fnc := { g with code := List.zipWith foldI g.code A }

/-- Words as what is known tells. -/
def FitV (v : List Val) (regs : List Int) : Prop := v.length = regs.length ∧ ∀ (r : Nat) (a : Val) (x : Int), v[r]? = some a → regs[r]? = some x → a.kind ≠ 0 ∧ (a.kind = 1 → x = a.n)
theorem FitV.full {v : List Val} {regs : List Int} (h : FitV v regs) : fullV v := by
  intro a ha
  obtain ⟨r, hr, he⟩ := List.getElem_of_mem ha
  have hr' : r < regs.length := by rw [← h.1]; exact hr
  exact (h.2 r a regs[r] (by rw [List.getElem?_eq_getElem hr, he]) (List.getElem?_eq_getElem hr')).1
theorem fullV_any {v : List Val} (h : fullV v) : v.any (fun a => a.kind == 0) = false := by
  rw [List.any_eq_false]
  intro a ha
  simpa using h a ha
theorem withinV_fit {a b : Val} {x : Int} (h : withinV a b) (hf : a.kind ≠ 0 ∧ (a.kind = 1 → x = a.n)) : b.kind ≠ 0 ∧ (b.kind = 1 → x = b.n) := by
  unfold withinV joinV at h
  rw [if_neg hf.1] at h
  by_cases hb : b.kind = 0
  · rw [if_pos hb] at h; subst h; exact absurd hb hf.1
  · rw [if_neg hb] at h
    by_cases he : a = b
    · subst he; exact hf
    · rw [if_neg he] at h; subst h; exact ⟨by simp, by simp⟩
theorem FitV.within {v w : List Val} {regs : List Int} (h : FitV v regs) (hw : withinL v w) : FitV w regs := by
  refine ⟨hw.1.symm.trans h.1, fun r b x hb hx => ?_⟩
  have hr : r < v.length := by rw [hw.1]; exact (List.getElem?_eq_some_iff.1 hb).1
  exact withinV_fit (hw.2 r v[r] b (List.getElem?_eq_getElem hr) hb) (h.2 r v[r] x (List.getElem?_eq_getElem hr) hx)
theorem FitV.at {v : List Val} {f : Frm} (h : FitV v f.regs) {r : Int} (h0 : 0 ≤ r) (h1 : r < f.regs.length) : (v.getD r.toNat ⟨0, 0⟩).kind = 1 → reg f r = (v.getD r.toNat ⟨0, 0⟩).n := by
  have hr : r.toNat < f.regs.length := by omega
  have hv : r.toNat < v.length := by rw [h.1]; exact hr
  unfold reg
  rw [List.getD_eq_getElem?_getD, List.getD_eq_getElem?_getD, List.getElem?_eq_getElem hr, List.getElem?_eq_getElem hv]
  simp only [Option.getD_some]
  exact (h.2 r.toNat v[r.toNat] f.regs[r.toNat] (List.getElem?_eq_getElem hv) (List.getElem?_eq_getElem hr)).2
theorem FitV.kind {v : List Val} {f : Frm} (h : FitV v f.regs) {r : Int} (h0 : 0 ≤ r) (h1 : r < f.regs.length) : (v.getD r.toNat ⟨0, 0⟩).kind ≠ 0 := by
  have hv : r.toNat < v.length := by rw [h.1]; omega
  rw [List.getD_eq_getElem?_getD, List.getElem?_eq_getElem hv]
  exact h.full _ (List.getElem_mem hv)
theorem FitV.set {v : List Val} {regs : List Int} (h : FitV v regs) (d : Nat) {a : Val} {x : Int} (ha : a.kind ≠ 0) (hx : a.kind = 1 → x = a.n) : FitV (v.set d a) (regs.set d x) := by
  refine ⟨by simp [h.1], fun r b y hb hy => ?_⟩
  rw [List.getElem?_set] at hb hy
  by_cases hd : d = r
  · rw [if_pos hd] at hb hy
    split at hb
    · split at hy
      · injection hb with hb; injection hy with hy; subst hb hy; exact ⟨ha, hx⟩
      · cases hy
    · cases hb
  · rw [if_neg hd] at hb hy
    exact h.2 r b y hb hy

/-- What holds of a run's calls: the innermost stands where its words fit, the others behind a call, whatever it tells. -/
def TopV (u : Uni) (As : List (List (List Val))) (f : Frm) : Prop :=
  ∃ g A v, u.funcs[f.k]? = some g ∧ As[f.k]? = some A ∧ 0 ≤ f.pos ∧ A[f.pos.toNat]? = some v ∧ FitV v f.regs
def WaitV (u : Uni) (As : List (List (List Val))) (d : Int) (f : Frm) : Prop :=
  ∀ x : Int, TopV u As (if 0 ≤ d then { f with regs := f.regs.set d.toNat x } else f)
def RestV (u : Uni) (As : List (List (List Val))) : Int → List Frm → Prop
  | _, [] => True
  | d, f :: l => WaitV u As d f ∧ RestV u As f.dst l
def StkV (u : Uni) (As : List (List (List Val))) : List Frm → Prop
  | [] => True
  | f :: l => TopV u As f ∧ RestV u As f.dst l
/-- What holds of a unit and what is known of its functions. -/
structure AllV (u : Uni) (As : List (List (List Val))) : Prop where
  len : As.length = u.funcs.length
  right : ∀ (k : Nat) (g : Fnc), u.funcs[k]? = some g → RightF g
  sol : ∀ (k : Nat) (g : Fnc) (A : List (List Val)), u.funcs[k]? = some g → As[k]? = some A → SolV g A
def foldU (As : List (List (List Val))) (u : Uni) : Uni := { u with funcs := List.zipWith foldF As u.funcs }

theorem fold_funcs {u : Uni} {As : List (List (List Val))} {k : Nat} {g : Fnc} {A : List (List Val)} (hg : u.funcs[k]? = some g) (hA : As[k]? = some A) : (foldU As u).funcs[k]? = some (foldF A g) := by
  unfold foldU
  simp only [List.getElem?_zipWith, hg, hA]
theorem findN_names : ∀ (fs gs : List Fnc) (s : List UInt8), fs.map (·.name) = gs.map (·.name) → findN fs s = findN gs s
  | [], [], _, _ => rfl
  | [], _ :: _, _, h => by cases h
  | _ :: _, [], _, h => by cases h
  | f :: fs, g :: gs, s, h => by
    simp only [List.map_cons, List.cons.injEq] at h
    unfold findN
    rw [h.1, findN_names fs gs s h.2]
theorem fold_names (u : Uni) (As : List (List (List Val))) (h : As.length = u.funcs.length) : (foldU As u).funcs.map (·.name) = u.funcs.map (·.name) := by
  unfold foldU
  simp only
  apply List.ext_getElem?
  intro k
  simp only [List.getElem?_map, List.getElem?_zipWith]
  cases hg : u.funcs[k]? with
  | none =>
    have : As[k]? = none := by rw [List.getElem?_eq_none_iff] at hg ⊢; omega
    rw [this]
  | some g =>
    have hk := (List.getElem?_eq_some_iff.1 hg).1
    rw [List.getElem?_eq_getElem (show k < As.length by omega)]
    simp [foldF]
/-- A step by an instruction hangs on a unit by its functions' names, frames and registers alone. -/
theorem stepI_unit {u v : Uni} {g g' : Fnc} {i : Ins} {f : Frm} {rest : List Frm} {s : Sta} (hn : findN v.funcs i.text = findN u.funcs i.text) (hf : g'.frame = g.frame)
    (hh : ∀ k : Nat, (v.funcs[k]?).map (fun h => (h.frame, h.regs)) = (u.funcs[k]?).map (fun h => (h.frame, h.regs))) : stepI v g' i f rest s = stepI u g i f rest s := by
  unfold stepI
  rw [hn, hf]
  cases hk : findN u.funcs i.text with
  | none => rfl
  | some k =>
    have hk := hh k
    cases h1 : v.funcs[k]? with
    | none =>
      rw [h1] at hk
      cases h2 : u.funcs[k]? with
      | none => simp only [h1, h2]
      | some b => rw [h2] at hk; cases hk
    | some a =>
      rw [h1] at hk
      cases h2 : u.funcs[k]? with
      | none => rw [h2] at hk; cases hk
      | some b =>
        rw [h2] at hk
        simp only [Option.map_some, Option.some.injEq, Prod.mk.injEq] at hk
        simp only [h1, h2, hk.1, hk.2]
/-- An instruction that is folded does what it did, where the words fit. -/
theorem stepI_fold {u : Uni} {g : Fnc} {i : Ins} {f : Frm} {rest : List Frm} {s : Sta} {v : List Val} (hr : RightI i g.regs g.frame g.code.length) (hl : (f.regs.length : Int) = g.regs) (hv : FitV v f.regs) :
    stepI u g (foldI i v) f rest s = stepI u g i f rest s := by
  have hu := hr.uses
  unfold foldI
  rw [fullV_any hv.full]
  simp only [Bool.false_eq_true, if_false]
  by_cases h2 : i.kind = 2 ∨ i.kind = 3 ∨ i.kind = 4
  · rw [if_pos h2]
    cases hb : behV i v with
    | none => rfl
    | some x =>
      simp only
      by_cases hx : x.kind = 1
      · rw [if_pos hx]
        have hd : sets i = i.dst := by unfold sets; rw [if_pos (by omega)]
        have hw : ∀ y p, went f (constI i.dst x.n) y p = went f i y p := by
          intro y p
          unfold went
          rw [hd]
          rfl
        unfold behV at hb
        rw [if_neg (by omega)] at hb
        unfold stepI
        rw [if_pos (show (constI i.dst x.n).kind = 1 from rfl), if_neg (show ¬ i.kind = 1 by omega)]
        by_cases h4 : i.kind = 4
        · rw [if_pos h4] at hb
          injection hb with hb
          rw [if_neg (by omega), if_pos h4, hw]
          have ha := hu i.a (by unfold uses readsA; simp [h4])
          rw [hv.at ha.1 (by omega) (by rw [hb]; exact hx), hb]
          rfl
        · rw [if_neg h4, if_pos (show i.kind = 2 ∨ i.kind = 3 by omega)] at hb
          rw [if_pos (show i.kind = 2 ∨ i.kind = 3 by omega)]
          have ha := hu i.a (by unfold uses readsA; rcases (show i.kind = 2 ∨ i.kind = 3 by omega) with h | h <;> simp [h])
          simp only at hb
          by_cases hn : (v.getD i.a.toNat ⟨0, 0⟩).kind ≠ 1 ∨ (if i.kind = 3 then v.getD i.b.toNat ⟨0, 0⟩ else (⟨1, 0⟩ : Val)).kind ≠ 1
          · rw [if_pos hn] at hb
            injection hb with hb
            subst hb
            exact absurd hx (by simp)
          · rw [if_neg hn] at hb
            have hA : (v.getD i.a.toNat ⟨0, 0⟩).kind = 1 := by
              by_cases h : (v.getD i.a.toNat ⟨0, 0⟩).kind = 1
              · exact h
              · exact absurd (.inl h) hn
            have hB : (if i.kind = 3 then v.getD i.b.toNat ⟨0, 0⟩ else (⟨1, 0⟩ : Val)).kind = 1 := by
              by_cases h : (if i.kind = 3 then v.getD i.b.toNat ⟨0, 0⟩ else (⟨1, 0⟩ : Val)).kind = 1
              · exact h
              · exact absurd (.inr h) hn
            have eA := hv.at ha.1 (by omega) hA
            have eB : valB f i = (if i.kind = 3 then v.getD i.b.toNat ⟨0, 0⟩ else (⟨1, 0⟩ : Val)).n := by
              unfold valB
              by_cases h3 : i.kind = 3
              · rw [if_pos h3] at hB ⊢
                rw [if_pos h3]
                have hb3 := hu i.b (by unfold uses readsA readsB; simp [h3])
                exact hv.at hb3.1 (by omega) hB
              · rw [if_neg h3, if_neg h3]
            rw [← eA, ← eB] at hb
            by_cases hD : doB i.op (valB f i) = true
            · rw [if_pos hD] at hb ⊢
              injection hb with hb
              rw [hw, ← hb]
              rfl
            · rw [if_neg hD] at hb
              cases hb
      · rw [if_neg hx]
  · rw [if_neg h2]
    by_cases h12 : i.kind = 12 ∧ (v.getD i.a.toNat ⟨0, 0⟩).kind = 1
    · rw [if_pos h12]
      have ha := hu i.a (by unfold uses readsA; simp [h12.1])
      have e := hv.at ha.1 (by omega) h12.2
      have hw : ∀ p q : Int, went f (jumpI q) 0 p = went f i 0 p := by
        intro p q
        unfold went
        have hd : sets i = -1 := by unfold sets; rw [if_neg (by omega)]
        rw [hd]
        rfl
      have k := h12.1
      unfold stepI
      rw [if_neg (show ¬ i.kind = 1 by omega), if_neg (show ¬ (i.kind = 2 ∨ i.kind = 3) by omega), if_neg (show ¬ i.kind = 4 by omega), if_neg (show ¬ i.kind = 5 by omega), if_neg (show ¬ (i.kind = 6 ∨ i.kind = 7) by omega), if_neg (show ¬ i.kind = 8 by omega), if_neg (show ¬ i.kind = 9 by omega), if_neg (show ¬ i.kind = 10 by omega), if_neg (show ¬ i.kind = 11 by omega), if_pos k]
      rw [if_neg (show ¬ (jumpI _).kind = 1 by simp [jumpI]), if_neg (show ¬ ((jumpI _).kind = 2 ∨ (jumpI _).kind = 3) by simp [jumpI]), if_neg (show ¬ (jumpI _).kind = 4 by simp [jumpI]), if_neg (show ¬ (jumpI _).kind = 5 by simp [jumpI]), if_neg (show ¬ ((jumpI _).kind = 6 ∨ (jumpI _).kind = 7) by simp [jumpI]), if_neg (show ¬ (jumpI _).kind = 8 by simp [jumpI]), if_neg (show ¬ (jumpI _).kind = 9 by simp [jumpI]), if_neg (show ¬ (jumpI _).kind = 10 by simp [jumpI]), if_pos (show (jumpI _).kind = 11 by simp [jumpI])]
      rw [hw, e]
      rfl
    · rw [if_neg h12]
/-- The innermost call goes on where its words fit again. -/
theorem TopV.went {u : Uni} {As : List (List (List Val))} (hA : AllV u As) {f : Frm} {g : Fnc} {A : List (List Val)} {v : List Val} {i : Ins} {y p : Int} {x : Val} (hg : u.funcs[f.k]? = some g) (hAk : As[f.k]? = some A) (h0 : 0 ≤ f.pos) (hv : A[f.pos.toNat]? = some v) (hf : FitV v f.regs) (hi : g.code[f.pos.toNat]? = some i)
    (hx : behV i v = some x) (hx0 : x.kind ≠ 0) (hx1 : x.kind = 1 → y = x.n) (hp : p ∈ goesV i (setV i v x) f.pos) (hp2 : p ∈ next i f.pos) : TopV u As (went f i y p) := by
  have hS := hA.sol _ _ _ hg hAk
  have hpr := closed_of (hA.right _ _ hg) f.pos ⟨h0, by have := (List.getElem?_eq_some_iff.1 hi).1; omega⟩ p (by rw [nexts_at hi]; exact hp2)
  have hlt : p.toNat < A.length := by rw [hS.len]; have := hpr.1; have := hpr.2; omega
  refine ⟨g, A, A[p.toNat], hg, hAk, hpr.1, List.getElem?_eq_getElem hlt, ?_⟩
  have he := hS.edge f.pos.toNat i v x hi hv hf.full hx p (by rw [show ((f.pos.toNat : Nat) : Int) = f.pos by omega]; exact hp) A[p.toNat] (List.getElem?_eq_getElem hlt)
  refine FitV.within ?_ he
  unfold setV Cd.went
  simp only
  by_cases hs : 0 ≤ sets i
  · rw [if_pos hs, if_pos hs]
    have : sets i = i.dst := by
      unfold sets at hs ⊢
      split
      · rfl
      · rename_i hn; rw [if_neg hn] at hs; omega
    rw [this]
    exact hf.set _ hx0 hx1
  · rw [if_neg hs, if_neg hs]; exact hf
/-- Where there is one behind, or none, of a kind: it is gone. -/
theorem goes_plain {i : Ins} {v : List Val} {p q : Int} (h : i.kind ≠ 12) (hq : q ∈ next i p) : q ∈ goesV i v p := by
  unfold goesV
  rw [if_neg (fun e => h e.1)]
  exact hq
def KeepV (u : Uni) (As : List (List (List Val))) : Rsu ⊕ Sta → Prop
  | .inl _ => True
  | .inr s' => StkV u As s'.stack
theorem firstV_fit {u : Uni} {As : List (List (List Val))} (hA : AllV u As) {k : Nat} {h : Fnc} (hh : u.funcs[k]? = some h) {base dst : Int} (l : List Int) (hl : (l.length : Int) = h.params) :
    TopV u As ⟨k, base, 0, dst, l ++ List.replicate (h.regs.toNat - l.length) 0⟩ := by
  have hk := (List.getElem?_eq_some_iff.1 hh).1
  obtain ⟨A, hAk⟩ : ∃ A, As[k]? = some A := ⟨_, List.getElem?_eq_getElem (by rw [hA.len]; exact hk)⟩
  have hS := hA.sol _ _ _ hh hAk
  have hR := hA.right _ _ hh
  have h0 : 0 < A.length := by rw [hS.len]; exact hR.code.1
  have hreg := hS.regs A[0] (List.getElem_mem h0)
  have hp := hR.params
  have hr := hR.regs
  refine ⟨h, A, A[0], hh, hAk, Int.le_refl _, List.getElem?_eq_getElem h0, ⟨?_, fun r a x ha hx => ?_⟩⟩
  · simp only [List.length_append, List.length_replicate]; omega
  · have hw := hS.first A[0] r a (List.getElem?_eq_getElem h0) ha
    refine withinV_fit hw ?_
    unfold firstV
    by_cases hlt : (r : Int) < h.params
    · rw [if_pos hlt]; simp
    · rw [if_neg hlt]
      simp only at hx
      rw [List.getElem?_append_right (by omega), List.getElem?_replicate] at hx
      split at hx
      · injection hx with hx; subst hx; simp
      · cases hx
theorem stepI_fits {u : Uni} {As : List (List (List Val))} (hA : AllV u As) {f : Frm} {g : Fnc} {A : List (List Val)} {v : List Val} {i : Ins} {rest : List Frm} {s : Sta} (hg : u.funcs[f.k]? = some g) (hAk : As[f.k]? = some A) (h0 : 0 ≤ f.pos) (hv : A[f.pos.toNat]? = some v) (hf : FitV v f.regs) (hi : g.code[f.pos.toNat]? = some i) (hrest : RestV u As f.dst rest)
    (hcall : i.kind = 8 → ∀ k h, findN u.funcs i.text = some k → u.funcs[k]? = some h → (((uses i).map (reg f)).length : Int) = h.params) : KeepV u As (stepI u g i f rest s) := by
  have hR := (hA.right _ _ hg).all i (List.mem_of_getElem? hi)
  have hu := hR.uses
  have hS := hA.sol _ _ _ hg hAk
  have hlen : (f.regs.length : Int) = g.regs := by rw [← hf.1]; exact hS.regs v (List.mem_of_getElem? hv)
  have hlo := hR.low
  have hhi := hR.high
  have one : ∀ (y : Int) (x : Val), behV i v = some x → x.kind ≠ 0 → (x.kind = 1 → y = x.n) → i.kind ≠ 11 → i.kind ≠ 12 → i.kind ≠ 13 → StkV u As (went f i y (f.pos + 1) :: rest) := by
    intro y x hx hx0 hx1 a b c
    have hn : f.pos + 1 ∈ next i f.pos := by unfold next; rw [if_neg a, if_neg b, if_neg c]; simp
    exact ⟨TopV.went hA hg hAk h0 hv hf hi hx hx0 hx1 (goes_plain b hn) hn, hrest⟩
  have any : i.kind ≠ 1 → i.kind ≠ 2 → i.kind ≠ 3 → i.kind ≠ 4 → behV i v = some ⟨2, 0⟩ := by
    intro a b c d
    unfold behV
    rw [if_neg a, if_neg d, if_neg (by omega)]
  unfold stepI
  by_cases h1 : i.kind = 1
  · rw [if_pos h1]; exact one _ ⟨1, i.n⟩ (by unfold behV; rw [if_pos h1]) (by simp) (fun _ => rfl) (by omega) (by omega) (by omega)
  rw [if_neg h1]
  by_cases h2 : i.kind = 2 ∨ i.kind = 3
  · rw [if_pos h2]
    by_cases hb : doB i.op (valB f i) = true
    · rw [if_pos hb]
      have ha := hu i.a (by unfold uses readsA; rcases h2 with h | h <;> simp [h])
      by_cases hn : (v.getD i.a.toNat ⟨0, 0⟩).kind ≠ 1 ∨ (if i.kind = 3 then v.getD i.b.toNat ⟨0, 0⟩ else (⟨1, 0⟩ : Val)).kind ≠ 1
      · exact one _ ⟨2, 0⟩ (by unfold behV; rw [if_neg h1, if_neg (by omega), if_pos h2]; simp only; rw [if_pos hn]) (by simp) (by simp) (by omega) (by omega) (by omega)
      · have hA' : (v.getD i.a.toNat ⟨0, 0⟩).kind = 1 := by
          by_cases h : (v.getD i.a.toNat ⟨0, 0⟩).kind = 1
          · exact h
          · exact absurd (.inl h) hn
        have hB : (if i.kind = 3 then v.getD i.b.toNat ⟨0, 0⟩ else (⟨1, 0⟩ : Val)).kind = 1 := by
          by_cases h : (if i.kind = 3 then v.getD i.b.toNat ⟨0, 0⟩ else (⟨1, 0⟩ : Val)).kind = 1
          · exact h
          · exact absurd (.inr h) hn
        have eA := hf.at ha.1 (by omega) hA'
        have eB : valB f i = (if i.kind = 3 then v.getD i.b.toNat ⟨0, 0⟩ else (⟨1, 0⟩ : Val)).n := by
          unfold valB
          by_cases h3 : i.kind = 3
          · rw [if_pos h3] at hB ⊢
            rw [if_pos h3]
            have hb3 := hu i.b (by unfold uses readsA readsB; simp [h3])
            exact hf.at hb3.1 (by omega) hB
          · rw [if_neg h3, if_neg h3]
        exact one _ ⟨1, doV i.op (reg f i.a) (valB f i)⟩ (by unfold behV; rw [if_neg h1, if_neg (by omega), if_pos h2]; simp only; rw [if_neg hn, ← eA, ← eB, if_pos hb]) (by simp) (fun _ => rfl) (by omega) (by omega) (by omega)
    · rw [if_neg hb]; trivial
  rw [if_neg h2]
  by_cases h4 : i.kind = 4
  · rw [if_pos h4]
    have ha := hu i.a (by unfold uses readsA; simp [h4])
    exact one _ _ (by unfold behV; rw [if_neg h1, if_pos h4]) (hf.kind ha.1 (by omega)) (fun h => hf.at ha.1 (by omega) h) (by omega) (by omega) (by omega)
  rw [if_neg h4]
  have hany := any h1 (by omega) (by omega) h4
  by_cases h5 : i.kind = 5
  · rw [if_pos h5]; exact one _ _ hany (by simp) (by simp) (by omega) (by omega) (by omega)
  rw [if_neg h5]
  by_cases h6 : i.kind = 6 ∨ i.kind = 7
  · rw [if_pos h6]
    by_cases ha : 1 ≤ addr f i ∧ addr f i < 4096
    · rw [if_pos ha]
      by_cases hl : i.kind = 6
      · rw [if_pos hl]; exact one _ _ hany (by simp) (by simp) (by omega) (by omega) (by omega)
      · rw [if_neg hl]; exact one _ _ hany (by simp) (by simp) (by omega) (by omega) (by omega)
    · rw [if_neg ha]; trivial
  rw [if_neg h6]
  by_cases h8 : i.kind = 8
  · rw [if_pos h8]
    cases hk : findN u.funcs i.text with
    | none => trivial
    | some k =>
      simp only
      cases hh : u.funcs[k]? with
      | none => trivial
      | some h' =>
        simp only
        by_cases hb : f.base + g.frame + h'.frame > 4096
        · rw [if_pos hb]; trivial
        · rw [if_neg hb]
          have hc := hcall h8 k h' hk hh
          have ft := firstV_fit hA hh (base := f.base + g.frame) (dst := i.dst) ((uses i).map (reg f)) hc
          rw [List.length_map] at ft
          refine ⟨ft, ?_, hrest⟩
          intro x
          have hn : f.pos + 1 ∈ next i f.pos := by unfold next; rw [if_neg (by omega), if_neg (by omega), if_neg (by omega)]; simp
          have ht := TopV.went hA hg hAk h0 hv hf hi (y := x) hany (by simp) (by simp) (goes_plain (by omega) hn) hn
          have hd : sets i = i.dst := by unfold sets; rw [if_pos (by omega)]
          unfold Cd.went at ht
          rw [hd] at ht
          by_cases hd0 : 0 ≤ i.dst
          · rw [if_pos hd0] at ht ⊢; exact ht
          · rw [if_neg hd0] at ht ⊢; exact ht
  rw [if_neg h8]
  by_cases h9 : i.kind = 9
  · rw [if_pos h9]
    cases s.inp <;> exact one _ _ hany (by simp) (by simp) (by omega) (by omega) (by omega)
  rw [if_neg h9]
  by_cases h10 : i.kind = 10
  · rw [if_pos h10]; exact one _ _ hany (by simp) (by simp) (by omega) (by omega) (by omega)
  rw [if_neg h10]
  by_cases h11 : i.kind = 11
  · rw [if_pos h11]
    have hn : i.dest ∈ next i f.pos := by unfold next; rw [if_pos h11]; simp
    exact ⟨TopV.went hA hg hAk h0 hv hf hi hany (by simp) (by simp) (goes_plain (by omega) hn) hn, hrest⟩
  rw [if_neg h11]
  by_cases h12 : i.kind = 12
  · rw [if_pos h12]
    have hn : (if reg f i.a ≠ 0 then i.dest else i.els) ∈ next i f.pos := by
      unfold next
      rw [if_neg h11, if_pos h12]
      split <;> simp
    refine ⟨TopV.went hA hg hAk h0 hv hf hi hany (by simp) (by simp) ?_ hn, hrest⟩
    have hs : setV i v ⟨2, 0⟩ = v := by
      unfold setV
      rw [if_neg]
      unfold sets
      rw [if_neg (by omega)]
      omega
    rw [hs]
    unfold goesV
    by_cases hk : (v.getD i.a.toNat ⟨0, 0⟩).kind = 1
    · rw [if_pos ⟨h12, hk⟩]
      have ha := hu i.a (by unfold uses readsA; simp [h12])
      rw [hf.at ha.1 (by omega) hk]
      simp
    · rw [if_neg (fun e => hk e.2)]; exact hn
  rw [if_neg h12]
  cases rest with
  | nil => trivial
  | cons p ps =>
    obtain ⟨hw, hps⟩ := hrest
    have := hw (reg f i.a)
    by_cases hd : 0 ≤ f.dst
    · rw [if_pos hd] at this
      show StkV u As ((if 0 ≤ f.dst then { p with regs := p.regs.set f.dst.toNat (reg f i.a) } else p) :: ps)
      rw [if_pos hd]
      exact ⟨this, hps⟩
    · rw [if_neg hd] at this
      show StkV u As ((if 0 ≤ f.dst then { p with regs := p.regs.set f.dst.toNat (reg f i.a) } else p) :: ps)
      rw [if_neg hd]
      exact ⟨this, hps⟩
/-- Each call has as many registers as its function takes. -/
def CallsOk (u : Uni) : Prop := ∀ (k : Nat) (g : Fnc) (i : Ins), u.funcs[k]? = some g → i ∈ g.code → i.kind = 8 → ∀ k' h, findN u.funcs i.text = some k' → u.funcs[k']? = some h → ((uses i).length : Int) = h.params
theorem fold_shape {u : Uni} {As : List (List (List Val))} (hA : AllV u As) (k : Nat) : ((foldU As u).funcs[k]?).map (fun h => (h.frame, h.regs)) = (u.funcs[k]?).map (fun h => (h.frame, h.regs)) := by
  cases hg : u.funcs[k]? with
  | none =>
    have : (foldU As u).funcs[k]? = none := by
      unfold foldU
      simp only [List.getElem?_zipWith, hg]
      cases As[k]? <;> rfl
    rw [this]
  | some g =>
    have hk := (List.getElem?_eq_some_iff.1 hg).1
    rw [fold_funcs hg (List.getElem?_eq_getElem (show k < As.length by rw [hA.len]; exact hk))]
    rfl
theorem runS_fold {u : Uni} {As : List (List (List Val))} (hA : AllV u As) (hC : CallsOk u) : ∀ (n : Nat) (s : Sta), StkV u As s.stack → runS (foldU As u) n s = runS u n s
  | 0, _, _ => rfl
  | n + 1, s, hs => by
    have key : step (foldU As u) s = step u s ∧ KeepV u As (step u s) := by
      cases hst : s.stack with
      | nil => unfold step; rw [hst]; exact ⟨rfl, trivial⟩
      | cons f rest =>
        rw [hst] at hs
        obtain ⟨⟨g, A, v, hg, hAk, h0, hv, hf⟩, hrest⟩ := hs
        have hS := hA.sol _ _ _ hg hAk
        have hlt : f.pos.toNat < g.code.length := by rw [← hS.len]; exact (List.getElem?_eq_some_iff.1 hv).1
        obtain ⟨i, hi⟩ : ∃ i, g.code[f.pos.toNat]? = some i := ⟨_, List.getElem?_eq_getElem hlt⟩
        have hi' : (foldF A g).code[f.pos.toNat]? = some (foldI i v) := by
          unfold foldF
          simp only [List.getElem?_zipWith, hi, hv]
        have e1 : step u s = stepI u g i f rest s := by unfold step; rw [hst]; simp only [hg, hi]
        have e2 : step (foldU As u) s = stepI (foldU As u) (foldF A g) (foldI i v) f rest s := by unfold step; rw [hst]; simp only [fold_funcs hg hAk, hi']
        have hR := (hA.right _ _ hg).all i (List.mem_of_getElem? hi)
        rw [e1, e2]
        refine ⟨?_, stepI_fits hA hg hAk h0 hv hf hi hrest (fun h8 k' h hk hh => by rw [List.length_map]; exact hC _ _ _ hg (List.mem_of_getElem? hi) h8 k' h hk hh)⟩
        rw [stepI_unit (g := g) (g' := foldF A g) (u := u) (findN_names _ _ _ (fold_names u As hA.len)) rfl (fold_shape hA), stepI_fold hR (by rw [← hf.1]; exact hS.regs v (List.mem_of_getElem? hv)) hf]
    unfold runS
    rw [key.1]
    cases hs' : step u s with
    | inl r => rfl
    | inr s' =>
      have := key.2
      rw [hs'] at this
      exact runS_fold hA hC n s' this
/-- A unit whose functions are folded by what is known does what it did. -/
theorem runU_fold {u : Uni} {As : List (List (List Val))} (hA : AllV u As) (hC : CallsOk u) (hr : rightU u = true) (hr' : rightU (foldU As u) = true) (inp : List UInt8) (fuel : Int) : runU (foldU As u) inp fuel = runU u inp fuel := by
  unfold runU
  rw [findN_names _ _ _ (fold_names u As hA.len)]
  cases hm : findN u.funcs wMain with
  | none => rfl
  | some m =>
    simp only
    cases hg : u.funcs[m]? with
    | none =>
      have : (foldU As u).funcs[m]? = none := by
        unfold foldU
        simp only [List.getElem?_zipWith, hg]
        cases As[m]? <;> rfl
      rw [this]
    | some g =>
      have hk := (List.getElem?_eq_some_iff.1 hg).1
      obtain ⟨A, hAk⟩ : ∃ A, As[m]? = some A := ⟨_, List.getElem?_eq_getElem (by rw [hA.len]; exact hk)⟩
      rw [fold_funcs hg hAk]
      simp only [hr, hr']
      have e1 : (foldF A g).params = g.params := rfl
      have e2 : (foldF A g).frame = g.frame := rfl
      have e3 : (foldF A g).regs = g.regs := rfl
      have e4 : (foldU As u).top = u.top := rfl
      have e5 : mem0 (foldU As u) = mem0 u := rfl
      rw [e1, e2, e3, e4, e5]
      by_cases hp : g.params > 0
      · rw [if_pos (.inr hp), if_pos (.inr hp)]
      · have hq : ¬ (true = false ∨ g.params > 0) := by
          rintro (h | h)
          · cases h
          · exact hp h
        rw [if_neg hq, if_neg hq]
        by_cases hb : u.top + g.frame > 4096
        · rw [if_pos hb, if_pos hb]
        · rw [if_neg hb, if_neg hb]
          refine runS_fold hA hC _ _ (show TopV u As _ ∧ True from ⟨?_, trivial⟩)
          have hpar := (hA.right _ _ hg).params
          have := firstV_fit hA hg (base := u.top) (dst := -1) [] (by simp; omega)
          simpa using this
end Go.Proofs.Ytpajndeongcjbaa.Cd
