/-
  Contracts of package word's functions: what each call returns, whatever its arguments; the world stays as it was.
-/
import Derived.Test.YtlpbphhabeonfaaDoorRows
import Derived.Test.YtlpbphhabeonfaaDoorBv
import Derived.Deep.Light
import Derived.WalkMore
import Derived.ScopeJumps
import Derived.WalkKit
import Derived.WalkSpells
import Derived.WalkLawsBesides
import Derived.Lib.Hide
namespace Go.Proofs.YtlpbphhabeonfaaDoor
open Go.RowKit (wrap32 wrap64)

theorem ret_int {k : IntKind} {a b : Int} (h : a = b) : Ending.returned (.int k a) = .returned (.int k b) := by rw [h]
theorem ret_bool {a b : Bool} (h : a = b) : Ending.returned (.bool a) = .returned (.bool b) := by rw [h]
theorem wrap32_bd (n : Int) : -2147483648 ≤ wrap32 n ∧ wrap32 n ≤ 2147483647 := by unfold wrap32; omega
theorem wrap_any (n : Int) (w : World) :
    Calls Tryd.prog 15 #[.int .i64 n] w fun e w' => e = .returned (.int .i64 (wrap32 n)) ∧ w = w' := by
  have hb := wrap32_bd n
  go_enter Tryd.func15, Tryd.ntmps15
  go_wp2
  go_ret
  exact ⟨rfl, rfl⟩
theorem plain_any (n : Int) (w : World) :
    Calls Tryd.prog 17 #[.int .i64 n] w fun e w' => e = .returned (.int .i64 (n % 4294967296)) ∧ w = w' := by
  go_enter Tryd.func17, Tryd.ntmps17
  go_wp2
  go_ret
  exact ⟨rfl, rfl⟩
theorem is_any (n : Int) (w : World) :
    Calls Tryd.prog 13 #[.int .i64 n] w fun e w' => e = .returned (.bool (wrap32 n == n)) ∧ w = w' := by
  go_enter Tryd.func13, Tryd.ntmps13
  go_wp2_with ((with_reducible refine (wrap_any _ _).mono ?_); rintro e w' ⟨rfl, rfl⟩)
  go_ret
  exact ⟨rfl, rfl⟩
def twoB (op : Int) : Bool := decide (1 ≤ op ∧ op ≤ 19)
def oneB (op : Int) : Bool := decide (20 ≤ op ∧ op ≤ 23)
theorem two_any (op : Int) (w : World) :
    Calls Tryd.prog 21 #[.int .i64 op] w fun e w' => e = .returned (.bool (twoB op)) ∧ w = w' := by
  by_cases h : 1 ≤ op
  all_goals
    go_enter Tryd.func21, Tryd.ntmps21
    go_wp2
    go_ret
    exact ⟨ret_bool (by unfold twoB; simp; omega), rfl⟩
theorem one_any (op : Int) (w : World) :
    Calls Tryd.prog 22 #[.int .i64 op] w fun e w' => e = .returned (.bool (oneB op)) ∧ w = w' := by
  by_cases h : 20 ≤ op
  all_goals
    go_enter Tryd.func22, Tryd.ntmps22
    go_wp2
    go_ret
    exact ⟨ret_bool (by unfold oneB; simp; omega), rfl⟩
def num (b : Bool) : Int := if b then 1 else 0
theorem number_any (b : Bool) (w : World) :
    Calls Tryd.prog 35 #[.bool b] w fun e w' => e = .returned (.int .i64 (num b)) ∧ w = w' := by
  cases b
  all_goals
    go_enter Tryd.func35, Tryd.ntmps35
    go_wp2
    go_ret
    exact ⟨rfl, rfl⟩
def cmpB (op a b : Int) : Bool :=
  if op = 14 then a == b else if op = 15 then a != b else if op = 16 then decide (a < b) else if op = 17 then decide (a ≤ b)
  else if op = 18 then decide (a % 4294967296 < b % 4294967296) else decide (a % 4294967296 ≤ b % 4294967296)
theorem compare_any (op a b : Int) (w : World) :
    Calls Tryd.prog 36 #[.int .i64 op, .int .i64 a, .int .i64 b] w fun e w' => e = .returned (.bool (cmpB op a b)) ∧ w = w' := by
  go_enter Tryd.func36, Tryd.ntmps36
  go_wp2_with ((with_reducible refine (plain_any _ _).mono ?_); rintro e w' ⟨rfl, rfl⟩)
  all_goals
    go_ret
    go_light
    refine ⟨ret_bool ?_, rfl⟩
    simp only [beq_iff_eq, beq_eq_false_iff_ne, ne_eq] at *
    simp [cmpB, *]
/-- The number that ofTwo gives, before it is wrapped. -/
def twoV (op a b : Int) : Int :=
  if op = 1 then a + b else if op = 2 then a - b else if op = 3 then wrap64 (a * b) else if op = 8 then bits .and .i64 a b
  else if op = 9 then bits .or .i64 a b else if op = 10 then bits .xor .i64 a b else if op = 11 then wrap64 (a * 2 ^ (b % 32).toNat)
  else if op = 12 then a / 2 ^ (b % 32).toNat else if op = 13 then a % 4294967296 / 2 ^ (b % 32).toNat else num (cmpB op a b)
theorem ofTwo_any (op a b : Int) (w : World) (ha : -2147483648 ≤ a ∧ a ≤ 2147483647) (hb : -2147483648 ≤ b ∧ b ≤ 2147483647) :
    Calls Tryd.prog 29 #[.int .i64 op, .int .i64 a, .int .i64 b] w fun e w' => e = .returned (.int .i64 (twoV op a b)) ∧ w = w' := by
  have e31 := bits_and31 b
  go_enter Tryd.func29, Tryd.ntmps29
  go_wp2_with (first | ((with_reducible refine (plain_any _ _).mono ?_); rintro e w' ⟨rfl, rfl⟩) | ((with_reducible refine (compare_any _ _ _ _).mono ?_); rintro e w' ⟨rfl, rfl⟩) | ((with_reducible refine (number_any _ _).mono ?_); rintro e w' ⟨rfl, rfl⟩))
  all_goals
    go_ret
    go_light
    refine ⟨ret_int ?_, rfl⟩
    simp only [beq_iff_eq, beq_eq_false_iff_ne, ne_eq] at *
    simp [twoV, *]
def oneV (op a : Int) : Int :=
  if op = 20 then -a else if op = 21 then bits .xor .i64 (-1) a else if op = 22 then a % 256 else num (a == 0)
theorem ofOne_any (op a : Int) (w : World) (ha : -2147483648 ≤ a ∧ a ≤ 2147483647) :
    Calls Tryd.prog 30 #[.int .i64 op, .int .i64 a] w fun e w' => e = .returned (.int .i64 (oneV op a)) ∧ w = w' := by
  have e255 := bits_and255 a
  go_enter Tryd.func30, Tryd.ntmps30
  go_wp2_with ((with_reducible refine (number_any _ _).mono ?_); rintro e w' ⟨rfl, rfl⟩)
  all_goals
    go_ret
    go_light
    refine ⟨ret_int ?_, rfl⟩
    simp only [beq_iff_eq, beq_eq_false_iff_ne, ne_eq] at *
    simp [oneV, *]
theorem result_any (n : Int) (w : World) :
    Calls Tryd.prog 28 #[.int .i64 n] w fun e w' => e = .returned (.tuple #[.int .i64 (wrap32 n), .bool true]) ∧ w = w' := by
  go_enter Tryd.func28, Tryd.ntmps28
  go_wp2_with ((with_reducible refine (wrap_any _ _).mono ?_); rintro e w' ⟨rfl, rfl⟩)
  go_ret2
  exact ⟨rfl, rfl⟩
end Go.Proofs.YtlpbphhabeonfaaDoor
