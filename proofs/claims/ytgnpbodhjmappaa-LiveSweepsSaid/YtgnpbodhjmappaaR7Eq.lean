/-
  Two instructions compared.
-/
import Derived.Test.YtgnpbodhjmappaaR7Mem
import Derived.Laws.StructEq
import Derived.ChangeKeysEq
namespace Go.Proofs.Ytgnpbodhjmappaa
set_option maxRecDepth 100000
open Go.RowKit Cd
set_option linter.unusedVariables false

theorem args_eql (a b : Ins) (W : World) : (Op.equalIn 9999 44 (.agg #[.int .i64 a.x0, .int .i64 a.x1, .int .i64 a.x2, .int .i64 a.x3, .int .i64 a.x4, .int .i64 a.x5]) (.agg #[.int .i64 b.x0, .int .i64 b.x1, .int .i64 b.x2, .int .i64 b.x3, .int .i64 b.x4, .int .i64 b.x5])).run Try.prog W = .ok (decide (a.args = b.args)) W := by
  obtain ⟨i0, hi0, hz0, hz1, hz2⟩ := info_parts infoInt
  have hC : Try.prog.cellsOf 3 = 1 := by kernel_rfl
  have u3 := Try.underlying3
  have a3 := Try.isAgg3
  have z3 := Try.sizeOf3
  have hr : List.range 6 = [0, 1, 2, 3, 4, 5] := by decide
  rw [show (9999 : Nat) = 9998 + 1 from rfl, run_equalIn_array W 9998 _ _ Try.underlying44 hi0, hC, hr]
  simp only [Op.eqItems]
  go_simp
  unfold Ins.args
  by_cases h0 : a.x0 = b.x0 <;> simp [h0]
  by_cases h1 : a.x1 = b.x1 <;> simp [h1]
  by_cases h2 : a.x2 = b.x2 <;> simp [h2]
  by_cases h3 : a.x3 = b.x3 <;> simp [h3]
  by_cases h4 : a.x4 = b.x4 <;> simp [h4]
  by_cases h5 : a.x5 = b.x5 <;> simp [h5]
theorem in_eql (a b : Ins) (W : World) : (binOp .eql 46 (inV a) (inV b)).run Try.prog W = .ok (.bool (decide (a = b))) W := by
  have hS : Try.prog.underlying 46 = some (.struct (Try.prog.fieldsOf 46)) := by kernel_rfl
  have hp : Try.prog.stoodInHeld 46 = false := by kernel_rfl
  rw [run_eql_struct, show (10000 : Nat) = 9999 + 1 from rfl, run_equalIn_agg W 9999 46 _ _ hS hp]
  have u3 := Try.underlying3
  have a3 := Try.isAgg3
  have z3 := Try.sizeOf3
  have u9 := Try.underlying9
  have a9 := Try.isAgg9
  have z9 := Try.sizeOf9
  have uo := Try.underlying43
  have ao := Try.isAgg43
  have zo := Try.sizeOf43
  have hA := args_eql a b W
  have aa := Try.isAgg44
  have za := Try.sizeOf44
  simp only [Program.fieldsOf, Try.underlying46]
  go_simp
  have e : (a = b) = (a.kind = b.kind ∧ a.op = b.op ∧ a.dst = b.dst ∧ a.a = b.a ∧ a.b = b.b ∧ a.n = b.n ∧ a.text = b.text ∧ a.args = b.args ∧ a.dest = b.dest ∧ a.els = b.els) := by
    rw [← Ins.ext_iff']
    unfold Ins.args
    simp
    grind
  simp only [e]
  by_cases h0 : a.kind = b.kind <;> simp only [h0, if_true, if_false, true_and, false_and, decide_false]
  by_cases h1 : a.op = b.op <;> simp only [h1, if_true, if_false, true_and, false_and, decide_false]
  by_cases h2 : a.dst = b.dst <;> simp only [h2, if_true, if_false, true_and, false_and, decide_false]
  by_cases h3 : a.a = b.a <;> simp only [h3, if_true, if_false, true_and, false_and, decide_false]
  by_cases h4 : a.b = b.b <;> simp only [h4, if_true, if_false, true_and, false_and, decide_false]
  by_cases h5 : a.n = b.n <;> simp only [h5, if_true, if_false, true_and, false_and, decide_false]
  by_cases h6 : a.text = b.text <;> simp only [h6, if_true, if_false, true_and, false_and, decide_false]
  by_cases h7 : a.args = b.args <;> simp [h7]
  by_cases h8 : a.dest = b.dest <;> simp [h8]
  by_cases h9 : a.els = b.els <;> simp [h9]
theorem in_eqlV (k o d a b n x0 x1 x2 x3 x4 x5 u v k' o' d' a' b' n' x0' x1' x2' x3' x4' x5' u' v' : Int) (t t' : List UInt8) (W : World) : (binOp .eql 46 (.agg #[.int .i64 k, .int .i64 o, .int .i64 d, .int .i64 a, .int .i64 b, .int .i64 n, .string (sb t), .int .i64 x0, .int .i64 x1, .int .i64 x2, .int .i64 x3, .int .i64 x4, .int .i64 x5, .int .i64 u, .int .i64 v]) (.agg #[.int .i64 k', .int .i64 o', .int .i64 d', .int .i64 a', .int .i64 b', .int .i64 n', .string (sb t'), .int .i64 x0', .int .i64 x1', .int .i64 x2', .int .i64 x3', .int .i64 x4', .int .i64 x5', .int .i64 u', .int .i64 v'])).run Try.prog W = .ok (.bool (decide ((⟨k, o, d, a, b, n, t, x0, x1, x2, x3, x4, x5, u, v⟩ : Ins) = ⟨k', o', d', a', b', n', t', x0', x1', x2', x3', x4', x5', u', v'⟩))) W := in_eql ⟨k, o, d, a, b, n, t, x0, x1, x2, x3, x4, x5, u, v⟩ ⟨k', o', d', a', b', n', t', x0', x1', x2', x3', x4', x5', u', v'⟩ W
theorem cells_set {w : World} {b : Nat} {cs : Array Value} {t : TypeId} {fr : Nat × Nat} (h : w.heap[b]? = some (.cells cs t fr)) (j : Nat) (u : Value) : (w.setCell ⟨b, j, none⟩ u).heap[b]? = some (.cells (cs.setIfInBounds j u) t fr) := by
  simp only [World.setCell, Array.getElem?_modify, if_true, h, Option.map_some]; rfl
end Go.Proofs.Ytgnpbodhjmappaa
