/-
  Contracts of package word's functions: what each call returns, whatever its arguments; the world stays as it was.
-/
import Derived.Test.YtbpagfddofbjbaaRows
import Derived.Test.YtbpagfddofbjbaaBv
import Derived.Deep.Light
import Derived.WalkMore
import Derived.ScopeJumps
import Derived.WalkKit
import Derived.WalkSpells
import Derived.WalkLawsBesides
import Derived.Lib.Hide
namespace Go.Proofs.Ytbpagfddofbjbaa
open Go.RowKit (wrap32 wrap64)

theorem ret_int {k : IntKind} {a b : Int} (h : a = b) : Ending.returned (.int k a) = .returned (.int k b) := by rw [h]
theorem ret_bool {a b : Bool} (h : a = b) : Ending.returned (.bool a) = .returned (.bool b) := by rw [h]
theorem wrap32_bd (n : Int) : -2147483648 ≤ wrap32 n ∧ wrap32 n ≤ 2147483647 := by unfold wrap32; omega
theorem wrap_any (n : Int) (w : World) :
    Calls Try.prog 143 #[.int .i64 n] w fun e w' => e = .returned (.int .i64 (wrap32 n)) ∧ w = w' := by
  have hb := wrap32_bd n
  go_enter Try.func143, Try.ntmps143
  go_wp2
  go_ret
  exact ⟨rfl, rfl⟩
theorem is_any (n : Int) (w : World) :
    Calls Try.prog 124 #[.int .i64 n] w fun e w' => e = .returned (.bool (wrap32 n == n)) ∧ w = w' := by
  go_enter Try.func124, Try.ntmps124
  go_wp2_with ((with_reducible refine (wrap_any _ _).mono ?_); rintro e w' ⟨rfl, rfl⟩)
  go_ret
  exact ⟨rfl, rfl⟩
def twoB (op : Int) : Bool := decide (1 ≤ op ∧ op ≤ 19)
def oneB (op : Int) : Bool := decide (20 ≤ op ∧ op ≤ 23)
theorem two_any (op : Int) (w : World) :
    Calls Try.prog 107 #[.int .i64 op] w fun e w' => e = .returned (.bool (twoB op)) ∧ w = w' := by
  by_cases h : 1 ≤ op
  all_goals
    go_enter Try.func107, Try.ntmps107
    go_wp2
    go_ret
    exact ⟨ret_bool (by unfold twoB; simp; omega), rfl⟩
theorem one_any (op : Int) (w : World) :
    Calls Try.prog 106 #[.int .i64 op] w fun e w' => e = .returned (.bool (oneB op)) ∧ w = w' := by
  by_cases h : 20 ≤ op
  all_goals
    go_enter Try.func106, Try.ntmps106
    go_wp2
    go_ret
    exact ⟨ret_bool (by unfold oneB; simp; omega), rfl⟩
end Go.Proofs.Ytbpagfddofbjbaa
