/-
  GraphEdges is true, whatever the function.
-/
import Derived.Test.YtaccaeelembboaaQGraphEdgesB
import Derived.Test.YtaccaeelembboaaQGraphEdgesC
namespace Go.Proofs.Ytaccaeelembboaa
open Go.RowKit Cd Go.Maps
set_option linter.unusedVariables false
theorem edges_any (r : FnR) (W : World) (hc : CodeAt W W.heap.size r) (hl : r.f.code.length ≤ maxLen) : Calls Try.prog 3 #[fnV r] W (RPost (.bool true) W) := by
  cases hf : few9 r.f with
  | false => exact edges_few r W ⟨hc, hl⟩ hf
  | true =>
    cases hr : rightF r.f with
    | false => exact edges_no r W ⟨hc, hl⟩ hf hr
    | true => exact edges_yes r W ⟨hc, hl⟩ hf (rightF_iff.1 hr) _ rfl
end Go.Proofs.Ytaccaeelembboaa
