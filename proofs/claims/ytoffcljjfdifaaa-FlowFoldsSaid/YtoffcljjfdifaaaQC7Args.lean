/-
  Layer 7: arguments.
-/
import Derived.Test.YtoffcljjfdifaaaQC7In
import Derived.Deep.RegionHeld3
namespace Go.Proofs.Ytoffcljjfdifaaa
set_option maxRecDepth 100000
open Go.RowKit Cd
set_option linter.unusedVariables false
set_option linter.unusedSimpArgs false

/-- How many arguments are read. -/
def argN (n : Int) : Nat := if n < 0 then 0 else if 6 < n then 6 else n.toNat
theorem arguments_8 (n : Int) (cb co : Nat) (w : World) (c0 : w.cell? ⟨cb, co, none⟩ = some (.int .i64 8)) (c5 : w.cell? ⟨cb, co + 5, none⟩ = some (.int .i64 n)) :
    Calls Try.prog 119 #[.pointer (some ⟨cb, co, none⟩)] w fun e w' => e = .returned (.slice (some ⟨cb, co + 7, none⟩) (argN n) 6) ∧ w' = w.drew := by
  unfold argN
  by_cases h1 : n < 0
  · rw [if_pos h1]
    go_enter Try.func119, Try.ntmps119
    go_wp2
    go_region_held3 (fun w' => w'.cell? ⟨cb, co, none⟩ = some (.int .i64 8) ∧ w'.cell? ⟨cb, co + 5, none⟩ = some (.int .i64 n)) (go_keep) (fail)
    all_goals go_wp2
    all_goals go_ret
    all_goals exact ⟨rfl, rfl⟩
  rw [if_neg h1]
  by_cases h2 : 6 < n
  · rw [if_pos h2]
    have g1 : (0 : Int) ≤ n := by omega
    have e1 : (n < (0 : Int)) = False := eq_false h1
    have e3 : ((0 : Int) > n) = False := eq_false h1
    have e2 : ((6 : Int) < n) = True := eq_true h2
    have hmax : ∀ ts t W, (Builtin.max_ ts t #[.int .i64 n, .int .i64 0]).run Try.prog W = .ok (.int .i64 n) W := fun ts t W => by rw [run_max_int2, if_neg h1]
    have hmin : ∀ ts t W, (Builtin.min_ ts t #[.int .i64 n, .int .i64 6]).run Try.prog W = .ok (.int .i64 6) W := fun ts t W => by rw [run_min_int2, if_pos h2]
    go_enter Try.func119, Try.ntmps119
    go_wp2
    go_region_held3 (fun w' => w'.cell? ⟨cb, co, none⟩ = some (.int .i64 8) ∧ w'.cell? ⟨cb, co + 5, none⟩ = some (.int .i64 n)) (go_keep) (fail)
    all_goals go_wp2
    all_goals go_ret
    all_goals exact ⟨rfl, rfl⟩
  rw [if_neg h2]
  obtain ⟨m, rfl⟩ : ∃ m : Nat, n = m := ⟨n.toNat, by omega⟩
  have p0 : (0 : Int) ≤ (m : Int) := Int.natCast_nonneg _
  have p1 : (m : Int) ≤ 6 := by omega
  have hmax : ∀ ts t W, (Builtin.max_ ts t #[.int .i64 m, .int .i64 0]).run Try.prog W = .ok (.int .i64 m) W := fun ts t W => by rw [run_max_int2, if_neg h1]
  have hmin : ∀ ts t W, (Builtin.min_ ts t #[.int .i64 m, .int .i64 6]).run Try.prog W = .ok (.int .i64 m) W := fun ts t W => by rw [run_min_int2, if_neg h2]
  go_enter Try.func119, Try.ntmps119
  go_wp2
  go_region_held3 (fun w' => w'.cell? ⟨cb, co, none⟩ = some (.int .i64 8) ∧ w'.cell? ⟨cb, co + 5, none⟩ = some (.int .i64 m)) (go_keep) (fail)
  all_goals go_wp2
  all_goals go_ret
  all_goals exact ⟨rfl, rfl⟩
theorem text_ne {text : List UInt8} (h : text ≠ []) (W : World) : (binOp .neq 9 (.string (sb text)) (.string ⟨#[]⟩)).run Try.prog W = .ok (.bool true) W := by
  have u9 := Try.underlying9
  go_simp
theorem text_eq (W : World) : (binOp .neq 9 (.string (sb [])) (.string ⟨#[]⟩)).run Try.prog W = .ok (.bool false) W := by
  have u9 := Try.underlying9
  go_simp
variable {w0 w : World} {z bn bf b6 cb co : Nat} {i : Ins} {r : FnR} {R : Bool}
theorem InSt.arg {o : Ins} (h : InSt w0 w z bn bf b6 cb co i o r R) {k : Nat} (hk : k < 6) : w.cell? ⟨cb, co + 7 + k, none⟩ = some (.int .i64 ([i.x0, i.x1, i.x2, i.x3, i.x4, i.x5].getD k 0)) := by
  have := h.hi (7 + k) (.int .i64 ([i.x0, i.x1, i.x2, i.x3, i.x4, i.x5].getD k 0)) (by
    match k, hk with
    | 0, _ => rfl
    | 1, _ => rfl
    | 2, _ => rfl
    | 3, _ => rfl
    | 4, _ => rfl
    | 5, _ => rfl)
  rwa [← Nat.add_assoc] at this
theorem InSt.arg6 {o : Ins} (h : InSt w0 w z bn bf b6 cb co i o r R) {k : Nat} (hk : k < 6) : ∃ x, w.cell? ⟨b6, 7 + k, none⟩ = some x := by
  rw [cell_of_row w b6 _ _ _ _ h.h6]
  match k, hk with
  | 0, _ => exact ⟨_, rfl⟩
  | 1, _ => exact ⟨_, rfl⟩
  | 2, _ => exact ⟨_, rfl⟩
  | 3, _ => exact ⟨_, rfl⟩
  | 4, _ => exact ⟨_, rfl⟩
  | 5, _ => exact ⟨_, rfl⟩
theorem InSt.put8 {dst n : Int} {text : List UInt8} {x0 x1 x2 x3 x4 x5 x : Int} {k : Nat} (h : InSt w0 w z bn bf b6 cb co i (o8 dst n text x0 x1 x2 x3 x4 x5 k) r R) (hk : k < 6) (hx : [x0, x1, x2, x3, x4, x5].getD k 0 = x) :
    InSt w0 (w.setCell ⟨b6, 7 + k, none⟩ (.int .i64 x)) z bn bf b6 cb co i (o8 dst n text x0 x1 x2 x3 x4 x5 (k + 1)) r R := by
  subst hx
  refine h.put _ _ ?_
  match k, hk with
  | 0, _ => rfl
  | 1, _ => rfl
  | 2, _ => rfl
  | 3, _ => rfl
  | 4, _ => rfl
  | 5, _ => rfl
theorem all_next {x0 x1 x2 x3 x4 x5 x regs : Int} {k : Nat} (hk : k < 6) (hx : [x0, x1, x2, x3, x4, x5].getD k 0 = x) : ([x0, x1, x2, x3, x4, x5].take (k + 1)).all (regOk regs) = (([x0, x1, x2, x3, x4, x5].take k).all (regOk regs) && regOk regs x) := by
  subst hx
  rw [List.take_add_one, List.all_append]
  congr 1
  match k, hk with
  | 0, _ => simp
  | 1, _ => simp
  | 2, _ => simp
  | 3, _ => simp
  | 4, _ => simp
  | 5, _ => simp
end Go.Proofs.Ytoffcljjfdifaaa
