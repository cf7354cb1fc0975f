/-
  No cell of these rows narrows 'for every input' (looked for: loops, veiled, ifaces, maps, wideKeys, modest, calm, conditions, laid).
  DERIVED. THE GIVEN ROWS OF THIS SEAT. 12 by the template 'for every input the law returns true; each argument reads behind the call as it read before'; 0 by the template 'total and deterministic' (their statements: YtbpagfddofbjbaaTotals.lean).
  GIVEN WITH THE SEED: the statements are not yours to turn. If you find one false, say at which input.
  Laid BY PROGRAM, IN A SANDBOX (cutbox-rows.mjs): the forced cells as the released guide's own fill.sh prints them over the translation cbf329c3cc629d07… (all of the seat's roots in one cut). By AI agents, Wed Nov 11 2026. No macro, syntax, notation, axiom, sorry.
-/
import Derived.Test.YtbpagfddofbjbaaChecked
import GoSem.Claim
import GoSem.ClaimJoined
import GoSem.ClaimMapViews
import Derived.JoinedTies
import Derived.KernelRfl
namespace Go.Proofs.Ytbpagfddofbjbaa
/- THE CELL 'sum', in the pinned program and in every row, IS THE sha256 OF THE DUMP (.gsa) THAT YtbpagfddofbjbaaProg.lean LOADS. Nothing in Lean hashes anything: it is a label: what it is worth is what the hold of that sum in a sandbox is worth. -/
noncomputable def Try.pinned : Pinned := { name := "ytbpagfddofbjbaa", sum := "cbf329c3cc629d078afe4f44bdde9e57b06193aeb328dcaf233350ad77599a37", checked := Try.checked }
namespace Rows
def none {H : Type} : Left H := { results := [], args := [] }

/-- 'doppellaw09.GraphEdges': WHATEVER THE INPUT: true; the input reads as it did. -/
def graphEdgesSpec : ChangeSpec := { name := "graphEdges", fn := fun _ => fun
  | [d] => { results := [.lit (.bool true)], args := [d] }
  | _ => none }
def graphEdgesRow : OpenClaim := { program := "ytbpagfddofbjbaa", sum := "cbf329c3cc629d078afe4f44bdde9e57b06193aeb328dcaf233350ad77599a37", func := "doppel/doppellaw09.GraphEdges", spec := "graphEdges", unfollowed := true, recurses := true, apart := false }
def GraphEdgesSaid : Prop := graphEdgesRow.holds Try.pinned (OpenSpec.ofChange graphEdgesSpec)

/-- ITS FALSE NEIGHBOUR: 'it returns false'. Refute it at one input. -/
def graphEdgesWrong : ChangeSpec := { name := "graphEdges", fn := fun _ => fun
  | [d] => { results := [.lit (.bool false)], args := [d] }
  | _ => none }
def GraphEdgesWrongFalsely : Prop := graphEdgesRow.holds Try.pinned (OpenSpec.ofChange graphEdgesWrong)

/-- 'doppellaw09.GraphDominates': WHATEVER THE INPUT: true; the input reads as it did. -/
def graphDominatesSpec : ChangeSpec := { name := "graphDominates", fn := fun _ => fun
  | [d1, d2, d3] => { results := [.lit (.bool true)], args := [d1, d2, d3] }
  | _ => none }
def graphDominatesRow : OpenClaim := { program := "ytbpagfddofbjbaa", sum := "cbf329c3cc629d078afe4f44bdde9e57b06193aeb328dcaf233350ad77599a37", func := "doppel/doppellaw09.GraphDominates", spec := "graphDominates", unfollowed := true, recurses := true, apart := false }
def GraphDominatesSaid : Prop := graphDominatesRow.holds Try.pinned (OpenSpec.ofChange graphDominatesSpec)

/-- ITS FALSE NEIGHBOUR: 'it returns false'. Refute it at one input. -/
def graphDominatesWrong : ChangeSpec := { name := "graphDominates", fn := fun _ => fun
  | [d1, d2, d3] => { results := [.lit (.bool false)], args := [d1, d2, d3] }
  | _ => none }
def GraphDominatesWrongFalsely : Prop := graphDominatesRow.holds Try.pinned (OpenSpec.ofChange graphDominatesWrong)

/-- 'doppellaw09.GraphLoops': WHATEVER THE INPUT: true; the input reads as it did. -/
def graphLoopsSpec : ChangeSpec := { name := "graphLoops", fn := fun _ => fun
  | [d1, d2] => { results := [.lit (.bool true)], args := [d1, d2] }
  | _ => none }
def graphLoopsRow : OpenClaim := { program := "ytbpagfddofbjbaa", sum := "cbf329c3cc629d078afe4f44bdde9e57b06193aeb328dcaf233350ad77599a37", func := "doppel/doppellaw09.GraphLoops", spec := "graphLoops", unfollowed := true, recurses := true, apart := false }
def GraphLoopsSaid : Prop := graphLoopsRow.holds Try.pinned (OpenSpec.ofChange graphLoopsSpec)

/-- ITS FALSE NEIGHBOUR: 'it returns false'. Refute it at one input. -/
def graphLoopsWrong : ChangeSpec := { name := "graphLoops", fn := fun _ => fun
  | [d1, d2] => { results := [.lit (.bool false)], args := [d1, d2] }
  | _ => none }
def GraphLoopsWrongFalsely : Prop := graphLoopsRow.holds Try.pinned (OpenSpec.ofChange graphLoopsWrong)

/-- 'doppellaw09.GraphLine': WHATEVER THE INPUT: true; the input reads as it did. -/
def graphLineSpec : ChangeSpec := { name := "graphLine", fn := fun _ => fun
  | [d1, d2, d3, d4] => { results := [.lit (.bool true)], args := [d1, d2, d3, d4] }
  | _ => none }
def graphLineRow : OpenClaim := { program := "ytbpagfddofbjbaa", sum := "cbf329c3cc629d078afe4f44bdde9e57b06193aeb328dcaf233350ad77599a37", func := "doppel/doppellaw09.GraphLine", spec := "graphLine", unfollowed := true, recurses := true, apart := false }
def GraphLineSaid : Prop := graphLineRow.holds Try.pinned (OpenSpec.ofChange graphLineSpec)

/-- ITS FALSE NEIGHBOUR: 'it returns false'. Refute it at one input. -/
def graphLineWrong : ChangeSpec := { name := "graphLine", fn := fun _ => fun
  | [d1, d2, d3, d4] => { results := [.lit (.bool false)], args := [d1, d2, d3, d4] }
  | _ => none }
def GraphLineWrongFalsely : Prop := graphLineRow.holds Try.pinned (OpenSpec.ofChange graphLineWrong)

/-- 'doppellaw09.GraphHeads': WHATEVER THE INPUT: true; the input reads as it did. -/
def graphHeadsSpec : ChangeSpec := { name := "graphHeads", fn := fun _ => fun
  | [d] => { results := [.lit (.bool true)], args := [d] }
  | _ => none }
def graphHeadsRow : OpenClaim := { program := "ytbpagfddofbjbaa", sum := "cbf329c3cc629d078afe4f44bdde9e57b06193aeb328dcaf233350ad77599a37", func := "doppel/doppellaw09.GraphHeads", spec := "graphHeads", unfollowed := true, recurses := true, apart := false }
def GraphHeadsSaid : Prop := graphHeadsRow.holds Try.pinned (OpenSpec.ofChange graphHeadsSpec)

/-- ITS FALSE NEIGHBOUR: 'it returns false'. Refute it at one input. -/
def graphHeadsWrong : ChangeSpec := { name := "graphHeads", fn := fun _ => fun
  | [d] => { results := [.lit (.bool false)], args := [d] }
  | _ => none }
def GraphHeadsWrongFalsely : Prop := graphHeadsRow.holds Try.pinned (OpenSpec.ofChange graphHeadsWrong)

/-- 'doppellaw09.GraphWalk': WHATEVER THE INPUT: true; the input reads as it did. -/
def graphWalkSpec : ChangeSpec := { name := "graphWalk", fn := fun _ => fun
  | [d] => { results := [.lit (.bool true)], args := [d] }
  | _ => none }
def graphWalkRow : OpenClaim := { program := "ytbpagfddofbjbaa", sum := "cbf329c3cc629d078afe4f44bdde9e57b06193aeb328dcaf233350ad77599a37", func := "doppel/doppellaw09.GraphWalk", spec := "graphWalk", unfollowed := true, recurses := true, apart := false }
def GraphWalkSaid : Prop := graphWalkRow.holds Try.pinned (OpenSpec.ofChange graphWalkSpec)

/-- ITS FALSE NEIGHBOUR: 'it returns false'. Refute it at one input. -/
def graphWalkWrong : ChangeSpec := { name := "graphWalk", fn := fun _ => fun
  | [d] => { results := [.lit (.bool false)], args := [d] }
  | _ => none }
def GraphWalkWrongFalsely : Prop := graphWalkRow.holds Try.pinned (OpenSpec.ofChange graphWalkWrong)

/-- 'doppellaw10.LiveRegisters': WHATEVER THE INPUT: true; the input reads as it did. -/
def liveRegistersSpec : ChangeSpec := { name := "liveRegisters", fn := fun _ => fun
  | [d] => { results := [.lit (.bool true)], args := [d] }
  | _ => none }
def liveRegistersRow : OpenClaim := { program := "ytbpagfddofbjbaa", sum := "cbf329c3cc629d078afe4f44bdde9e57b06193aeb328dcaf233350ad77599a37", func := "doppel/doppellaw10.LiveRegisters", spec := "liveRegisters", unfollowed := true, recurses := true, apart := false }
def LiveRegistersSaid : Prop := liveRegistersRow.holds Try.pinned (OpenSpec.ofChange liveRegistersSpec)

/-- ITS FALSE NEIGHBOUR: 'it returns false'. Refute it at one input. -/
def liveRegistersWrong : ChangeSpec := { name := "liveRegisters", fn := fun _ => fun
  | [d] => { results := [.lit (.bool false)], args := [d] }
  | _ => none }
def LiveRegistersWrongFalsely : Prop := liveRegistersRow.holds Try.pinned (OpenSpec.ofChange liveRegistersWrong)

/-- 'doppellaw10.LiveDead': WHATEVER THE INPUT: true; the input reads as it did. -/
def liveDeadSpec : ChangeSpec := { name := "liveDead", fn := fun _ => fun
  | [d1, d2] => { results := [.lit (.bool true)], args := [d1, d2] }
  | _ => none }
def liveDeadRow : OpenClaim := { program := "ytbpagfddofbjbaa", sum := "cbf329c3cc629d078afe4f44bdde9e57b06193aeb328dcaf233350ad77599a37", func := "doppel/doppellaw10.LiveDead", spec := "liveDead", unfollowed := true, recurses := true, apart := false }
def LiveDeadSaid : Prop := liveDeadRow.holds Try.pinned (OpenSpec.ofChange liveDeadSpec)

/-- ITS FALSE NEIGHBOUR: 'it returns false'. Refute it at one input. -/
def liveDeadWrong : ChangeSpec := { name := "liveDead", fn := fun _ => fun
  | [d1, d2] => { results := [.lit (.bool false)], args := [d1, d2] }
  | _ => none }
def LiveDeadWrongFalsely : Prop := liveDeadRow.holds Try.pinned (OpenSpec.ofChange liveDeadWrong)

/-- 'doppellaw10.LiveSweeps': WHATEVER THE INPUT: true; the input reads as it did. -/
def liveSweepsSpec : ChangeSpec := { name := "liveSweeps", fn := fun _ => fun
  | [d] => { results := [.lit (.bool true)], args := [d] }
  | _ => none }
def liveSweepsRow : OpenClaim := { program := "ytbpagfddofbjbaa", sum := "cbf329c3cc629d078afe4f44bdde9e57b06193aeb328dcaf233350ad77599a37", func := "doppel/doppellaw10.LiveSweeps", spec := "liveSweeps", unfollowed := true, recurses := true, apart := false }
def LiveSweepsSaid : Prop := liveSweepsRow.holds Try.pinned (OpenSpec.ofChange liveSweepsSpec)

/-- ITS FALSE NEIGHBOUR: 'it returns false'. Refute it at one input. -/
def liveSweepsWrong : ChangeSpec := { name := "liveSweeps", fn := fun _ => fun
  | [d] => { results := [.lit (.bool false)], args := [d] }
  | _ => none }
def LiveSweepsWrongFalsely : Prop := liveSweepsRow.holds Try.pinned (OpenSpec.ofChange liveSweepsWrong)

/-- 'doppellaw10.LiveDoes': WHATEVER THE INPUT: true; the input reads as it did. -/
def liveDoesSpec : ChangeSpec := { name := "liveDoes", fn := fun _ => fun
  | [d1, d2, d3] => { results := [.lit (.bool true)], args := [d1, d2, d3] }
  | _ => none }
def liveDoesRow : OpenClaim := { program := "ytbpagfddofbjbaa", sum := "cbf329c3cc629d078afe4f44bdde9e57b06193aeb328dcaf233350ad77599a37", func := "doppel/doppellaw10.LiveDoes", spec := "liveDoes", unfollowed := true, recurses := true, apart := false }
def LiveDoesSaid : Prop := liveDoesRow.holds Try.pinned (OpenSpec.ofChange liveDoesSpec)

/-- ITS FALSE NEIGHBOUR: 'it returns false'. Refute it at one input. -/
def liveDoesWrong : ChangeSpec := { name := "liveDoes", fn := fun _ => fun
  | [d1, d2, d3] => { results := [.lit (.bool false)], args := [d1, d2, d3] }
  | _ => none }
def LiveDoesWrongFalsely : Prop := liveDoesRow.holds Try.pinned (OpenSpec.ofChange liveDoesWrong)

/-- 'doppellaw10.LiveSteps': WHATEVER THE INPUT: true; the input reads as it did. -/
def liveStepsSpec : ChangeSpec := { name := "liveSteps", fn := fun _ => fun
  | [d] => { results := [.lit (.bool true)], args := [d] }
  | _ => none }
def liveStepsRow : OpenClaim := { program := "ytbpagfddofbjbaa", sum := "cbf329c3cc629d078afe4f44bdde9e57b06193aeb328dcaf233350ad77599a37", func := "doppel/doppellaw10.LiveSteps", spec := "liveSteps", unfollowed := true, recurses := true, apart := false }
def LiveStepsSaid : Prop := liveStepsRow.holds Try.pinned (OpenSpec.ofChange liveStepsSpec)

/-- ITS FALSE NEIGHBOUR: 'it returns false'. Refute it at one input. -/
def liveStepsWrong : ChangeSpec := { name := "liveSteps", fn := fun _ => fun
  | [d] => { results := [.lit (.bool false)], args := [d] }
  | _ => none }
def LiveStepsWrongFalsely : Prop := liveStepsRow.holds Try.pinned (OpenSpec.ofChange liveStepsWrong)

/-- 'doppellaw10.LiveStays': WHATEVER THE INPUT: true; the input reads as it did. -/
def liveStaysSpec : ChangeSpec := { name := "liveStays", fn := fun _ => fun
  | [d] => { results := [.lit (.bool true)], args := [d] }
  | _ => none }
def liveStaysRow : OpenClaim := { program := "ytbpagfddofbjbaa", sum := "cbf329c3cc629d078afe4f44bdde9e57b06193aeb328dcaf233350ad77599a37", func := "doppel/doppellaw10.LiveStays", spec := "liveStays", unfollowed := true, recurses := true, apart := false }
def LiveStaysSaid : Prop := liveStaysRow.holds Try.pinned (OpenSpec.ofChange liveStaysSpec)

/-- ITS FALSE NEIGHBOUR: 'it returns false'. Refute it at one input. -/
def liveStaysWrong : ChangeSpec := { name := "liveStays", fn := fun _ => fun
  | [d] => { results := [.lit (.bool false)], args := [d] }
  | _ => none }
def LiveStaysWrongFalsely : Prop := liveStaysRow.holds Try.pinned (OpenSpec.ofChange liveStaysWrong)

/- THE SECOND FORM. 'bulk': how many values and letters a reading holds, each counted each time it is reached (what is shared counts as often as it is met; a slice's spare places count too). A statement '..UptoSaid' is the law's where the arguments, and the package variables that the reading takes, are together of bulk at most 1048576: NARROWER than '..Said'. Prove '..Said' where nothing that the law and all that it calls make is longer than what came in: it says more and counts as full. Else prove '..UptoSaid'. A law counts once. -/
mutual
def uptoBulk {H : Type} : DataW H → Nat
  | .lit (.string bytes) => bytes.length + 1
  | .lit _ => 1
  | .nil => 1
  | .ptr d => uptoBulk d + 1
  | .slice elems spare => uptoBulkAll elems + uptoBulkAll spare + 1
  | .agg parts => uptoBulkAll parts + 1
  | .iface _ d => uptoBulk d + 1
  | .map entries => uptoBulkEntries entries + 1
  | .held _ => 1
def uptoBulkAll {H : Type} : List (DataW H) → Nat
  | [] => 0
  | d :: r => uptoBulk d + uptoBulkAll r
def uptoBulkEntries {H : Type} : List (Lit × DataW H) → Nat
  | [] => 0
  | x :: r => uptoBulkEntry x + uptoBulkEntries r
def uptoBulkEntry {H : Type} : Lit × DataW H → Nat
  | (.string bytes, d) => bytes.length + uptoBulk d + 1
  | (_, d) => uptoBulk d + 1
 end
def uptoSmall : (H : Type) → List (DataW H) → Bool := fun _ ds => decide (uptoBulkAll ds ≤ 1048576)
def OpenSpec.upto (s : _root_.Go.ChangeSpec) : _root_.Go.OpenSpec := { _root_.Go.OpenSpec.ofChange s with cond := some uptoSmall }

/-- 'doppellaw09.GraphEdges', WHERE WHAT IT READS IS OF BULK AT MOST 1048576: true; the input reads as it did. -/
def graphEdgesUptoRow : OpenClaim := { program := "ytbpagfddofbjbaa", sum := "cbf329c3cc629d078afe4f44bdde9e57b06193aeb328dcaf233350ad77599a37", func := "doppel/doppellaw09.GraphEdges", spec := "graphEdges", unfollowed := true, recurses := true, apart := false, narrowed := true }
def GraphEdgesUptoSaid : Prop := graphEdgesUptoRow.holds Try.pinned (OpenSpec.upto graphEdgesSpec)

/-- 'doppellaw09.GraphDominates', WHERE WHAT IT READS IS OF BULK AT MOST 1048576: true; the input reads as it did. -/
def graphDominatesUptoRow : OpenClaim := { program := "ytbpagfddofbjbaa", sum := "cbf329c3cc629d078afe4f44bdde9e57b06193aeb328dcaf233350ad77599a37", func := "doppel/doppellaw09.GraphDominates", spec := "graphDominates", unfollowed := true, recurses := true, apart := false, narrowed := true }
def GraphDominatesUptoSaid : Prop := graphDominatesUptoRow.holds Try.pinned (OpenSpec.upto graphDominatesSpec)

/-- 'doppellaw09.GraphLoops', WHERE WHAT IT READS IS OF BULK AT MOST 1048576: true; the input reads as it did. -/
def graphLoopsUptoRow : OpenClaim := { program := "ytbpagfddofbjbaa", sum := "cbf329c3cc629d078afe4f44bdde9e57b06193aeb328dcaf233350ad77599a37", func := "doppel/doppellaw09.GraphLoops", spec := "graphLoops", unfollowed := true, recurses := true, apart := false, narrowed := true }
def GraphLoopsUptoSaid : Prop := graphLoopsUptoRow.holds Try.pinned (OpenSpec.upto graphLoopsSpec)

/-- 'doppellaw09.GraphLine', WHERE WHAT IT READS IS OF BULK AT MOST 1048576: true; the input reads as it did. -/
def graphLineUptoRow : OpenClaim := { program := "ytbpagfddofbjbaa", sum := "cbf329c3cc629d078afe4f44bdde9e57b06193aeb328dcaf233350ad77599a37", func := "doppel/doppellaw09.GraphLine", spec := "graphLine", unfollowed := true, recurses := true, apart := false, narrowed := true }
def GraphLineUptoSaid : Prop := graphLineUptoRow.holds Try.pinned (OpenSpec.upto graphLineSpec)

/-- 'doppellaw09.GraphHeads', WHERE WHAT IT READS IS OF BULK AT MOST 1048576: true; the input reads as it did. -/
def graphHeadsUptoRow : OpenClaim := { program := "ytbpagfddofbjbaa", sum := "cbf329c3cc629d078afe4f44bdde9e57b06193aeb328dcaf233350ad77599a37", func := "doppel/doppellaw09.GraphHeads", spec := "graphHeads", unfollowed := true, recurses := true, apart := false, narrowed := true }
def GraphHeadsUptoSaid : Prop := graphHeadsUptoRow.holds Try.pinned (OpenSpec.upto graphHeadsSpec)

/-- 'doppellaw09.GraphWalk', WHERE WHAT IT READS IS OF BULK AT MOST 1048576: true; the input reads as it did. -/
def graphWalkUptoRow : OpenClaim := { program := "ytbpagfddofbjbaa", sum := "cbf329c3cc629d078afe4f44bdde9e57b06193aeb328dcaf233350ad77599a37", func := "doppel/doppellaw09.GraphWalk", spec := "graphWalk", unfollowed := true, recurses := true, apart := false, narrowed := true }
def GraphWalkUptoSaid : Prop := graphWalkUptoRow.holds Try.pinned (OpenSpec.upto graphWalkSpec)

/-- 'doppellaw10.LiveRegisters', WHERE WHAT IT READS IS OF BULK AT MOST 1048576: true; the input reads as it did. -/
def liveRegistersUptoRow : OpenClaim := { program := "ytbpagfddofbjbaa", sum := "cbf329c3cc629d078afe4f44bdde9e57b06193aeb328dcaf233350ad77599a37", func := "doppel/doppellaw10.LiveRegisters", spec := "liveRegisters", unfollowed := true, recurses := true, apart := false, narrowed := true }
def LiveRegistersUptoSaid : Prop := liveRegistersUptoRow.holds Try.pinned (OpenSpec.upto liveRegistersSpec)

/-- 'doppellaw10.LiveDead', WHERE WHAT IT READS IS OF BULK AT MOST 1048576: true; the input reads as it did. -/
def liveDeadUptoRow : OpenClaim := { program := "ytbpagfddofbjbaa", sum := "cbf329c3cc629d078afe4f44bdde9e57b06193aeb328dcaf233350ad77599a37", func := "doppel/doppellaw10.LiveDead", spec := "liveDead", unfollowed := true, recurses := true, apart := false, narrowed := true }
def LiveDeadUptoSaid : Prop := liveDeadUptoRow.holds Try.pinned (OpenSpec.upto liveDeadSpec)

/-- 'doppellaw10.LiveSweeps', WHERE WHAT IT READS IS OF BULK AT MOST 1048576: true; the input reads as it did. -/
def liveSweepsUptoRow : OpenClaim := { program := "ytbpagfddofbjbaa", sum := "cbf329c3cc629d078afe4f44bdde9e57b06193aeb328dcaf233350ad77599a37", func := "doppel/doppellaw10.LiveSweeps", spec := "liveSweeps", unfollowed := true, recurses := true, apart := false, narrowed := true }
def LiveSweepsUptoSaid : Prop := liveSweepsUptoRow.holds Try.pinned (OpenSpec.upto liveSweepsSpec)

/-- 'doppellaw10.LiveDoes', WHERE WHAT IT READS IS OF BULK AT MOST 1048576: true; the input reads as it did. -/
def liveDoesUptoRow : OpenClaim := { program := "ytbpagfddofbjbaa", sum := "cbf329c3cc629d078afe4f44bdde9e57b06193aeb328dcaf233350ad77599a37", func := "doppel/doppellaw10.LiveDoes", spec := "liveDoes", unfollowed := true, recurses := true, apart := false, narrowed := true }
def LiveDoesUptoSaid : Prop := liveDoesUptoRow.holds Try.pinned (OpenSpec.upto liveDoesSpec)

/-- 'doppellaw10.LiveSteps', WHERE WHAT IT READS IS OF BULK AT MOST 1048576: true; the input reads as it did. -/
def liveStepsUptoRow : OpenClaim := { program := "ytbpagfddofbjbaa", sum := "cbf329c3cc629d078afe4f44bdde9e57b06193aeb328dcaf233350ad77599a37", func := "doppel/doppellaw10.LiveSteps", spec := "liveSteps", unfollowed := true, recurses := true, apart := false, narrowed := true }
def LiveStepsUptoSaid : Prop := liveStepsUptoRow.holds Try.pinned (OpenSpec.upto liveStepsSpec)

/-- 'doppellaw10.LiveStays', WHERE WHAT IT READS IS OF BULK AT MOST 1048576: true; the input reads as it did. -/
def liveStaysUptoRow : OpenClaim := { program := "ytbpagfddofbjbaa", sum := "cbf329c3cc629d078afe4f44bdde9e57b06193aeb328dcaf233350ad77599a37", func := "doppel/doppellaw10.LiveStays", spec := "liveStays", unfollowed := true, recurses := true, apart := false, narrowed := true }
def LiveStaysUptoSaid : Prop := liveStaysUptoRow.holds Try.pinned (OpenSpec.upto liveStaysSpec)

end Rows
end Go.Proofs.Ytbpagfddofbjbaa
