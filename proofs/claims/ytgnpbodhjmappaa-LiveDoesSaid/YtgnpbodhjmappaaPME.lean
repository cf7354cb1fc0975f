/-
  Layer 9: where each instruction may go on (follows).
-/
import Derived.Test.YtgnpbodhjmappaaPLH
import Derived.Test.YtgnpbodhjmappaaPNE
import Derived.Test.YtgnpbodhjmappaaPNB
import Derived.Test.YtgnpbodhjmappaaPLA
set_option linter.unusedVariables false
set_option linter.unusedSimpArgs false
namespace Go.Proofs.Ytgnpbodhjmappaa
set_option maxRecDepth 100000
open Go.RowKit Cd
theorem rightF_v (r : FnR) (b : Bool) (B : Nat) (w : World) (hc : CodeAt w B r) (hB : B ≤ w.heap.size) (hl : r.f.code.length ≤ maxLen) (h : rightF r.f = b) : Calls Try.prog 34 #[fnV r] w (RPost (.bool b) w) :=
  h ▸ rightFunc_c r B w hc hB hl
end Go.Proofs.Ytgnpbodhjmappaa
namespace Go.Proofs.Ytgnpbodhjmappaa.Cd
theorem path_reach {c : List Ins} (hc : Closed c) (h0 : 0 < c.length) {no x : Int} : Path (nextG c) no [0] x ↔ Reach c no 0 x := by
  constructor
  · intro h
    have : Reach c no 0 x ∧ 0 ≤ x := by
      induction h with
      | start h1 h2 =>
        obtain rfl := List.mem_singleton.1 h1
        exact ⟨.start h2, Int.le_refl _⟩
      | more _ hy hn ih =>
        rw [egs_nextG c ih.2] at hy
        have := ih.1.inside hc (zero_inside h0)
        exact ⟨.more ih.1 hy hn, (hc _ this _ hy).1⟩
    exact this.1
  · intro h
    induction h with
    | start h1 => exact .start (by simp) h1
    | more h1 hy hn ih =>
      have := h1.inside hc (zero_inside h0)
      exact .more ih (by rw [egs_nextG c this.1]; exact hy) hn
end Go.Proofs.Ytgnpbodhjmappaa.Cd
