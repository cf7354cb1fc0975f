/-
  Two types compared.
-/
import Derived.Test.YtemnlkgjgalipaaDoorRefField
import Derived.Laws.StructEq
namespace Go.Proofs.YtemnlkgjgalipaaDoor
open Go.RowKit Go.Maps Tp
set_option linter.unusedVariables false

theorem ty_eql (a b : Ty) (W : World) : (binOp .eql 41 (.agg #[.int .i64 a.kind, .int .i64 a.elem, .int .i64 a.n, .string (bs a.name)]) (.agg #[.int .i64 b.kind, .int .i64 b.elem, .int .i64 b.n, .string (bs b.name)])).run Tryd.prog W = .ok (.bool (decide (a = b))) W := by
  have hS : Tryd.prog.underlying 41 = some (.struct (Tryd.prog.fieldsOf 41)) := by kernel_rfl
  have hp : Tryd.prog.stoodInHeld 41 = false := by kernel_rfl
  rw [run_eql_struct, show (10000 : Nat) = 9999 + 1 from rfl, run_equalIn_agg W 9999 41 _ _ hS hp]
  have e : decide (a = b) = (a.kind == b.kind && a.elem == b.elem && a.n == b.n && a.name == b.name) := by
    rw [Bool.eq_iff_iff]
    simp only [decide_eq_true_eq, Bool.and_eq_true, beq_iff_eq]
    rw [← Ty.ext_iff']
    constructor
    · rintro ⟨h1, h2, h3, h4⟩; exact ⟨⟨⟨h1, h2⟩, h3⟩, h4⟩
    · rintro ⟨⟨⟨h1, h2⟩, h3⟩, h4⟩; exact ⟨h1, h2, h3, h4⟩
  rw [e]
  have u3 := Tryd.underlying3
  have a3 := Tryd.isAgg3
  have z3 := Tryd.sizeOf3
  have u9 := Tryd.underlying9
  have a9 := Tryd.isAgg9
  have z9 := Tryd.sizeOf9
  simp only [Program.fieldsOf, Tryd.underlying41]
  go_simp
  by_cases h1 : a.kind = b.kind <;> by_cases h2 : a.elem = b.elem <;> by_cases h3 : a.n = b.n <;> by_cases h4 : a.name = b.name <;> simp [h1, h2, h3, h4]
end Go.Proofs.YtemnlkgjgalipaaDoor
