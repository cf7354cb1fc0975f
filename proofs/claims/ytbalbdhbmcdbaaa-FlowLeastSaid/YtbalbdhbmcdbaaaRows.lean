/-
  No cell of these rows narrows 'for every input' (looked for: loops, veiled, ifaces, maps, wideKeys, modest, calm, conditions, laid).
  DERIVED. THE GIVEN ROWS OF THIS SEAT. 19 by the template 'for every input the law returns true; each argument reads behind the call as it read before'; 0 by the template 'total and deterministic' (their statements: YtbalbdhbmcdbaaaTotals.lean).
  GIVEN WITH THE SEED: the statements are not yours to turn. If you find one false, say at which input.
  Laid BY PROGRAM, IN A SANDBOX (cutbox-rows.mjs): the forced cells as the released guide's own fill.sh prints them over the translation 717d271a89315133… (all of the seat's roots in one cut). By AI agents, Wed Nov 11 2026. No macro, syntax, notation, axiom, sorry.
-/
import Derived.Test.YtbalbdhbmcdbaaaChecked
import GoSem.Claim
import GoSem.ClaimJoined
import GoSem.ClaimMapViews
import Derived.JoinedTies
import Derived.KernelRfl
namespace Go.Proofs.Ytbalbdhbmcdbaaa
/- THE CELL 'sum', in the pinned program and in every row, IS THE sha256 OF THE DUMP (.gsa) THAT YtbalbdhbmcdbaaaProg.lean LOADS. Nothing in Lean hashes anything: it is a label: what it is worth is what the hold of that sum in a sandbox is worth. -/
noncomputable def Try.pinned : Pinned := { name := "ytbalbdhbmcdbaaa", sum := "717d271a89315133204b4e013263b4f1dad1e4e7643a06bcdd28a922b553b6ba", checked := Try.checked }
namespace Rows
def none {H : Type} : Left H := { results := [], args := [] }

/-- 'doppellaw10.LiveRegisters': WHATEVER THE INPUT: true; the input reads as it did. -/
def liveRegistersSpec : ChangeSpec := { name := "liveRegisters", fn := fun _ => fun
  | [d] => { results := [.lit (.bool true)], args := [d] }
  | _ => none }
def liveRegistersRow : OpenClaim := { program := "ytbalbdhbmcdbaaa", sum := "717d271a89315133204b4e013263b4f1dad1e4e7643a06bcdd28a922b553b6ba", func := "doppel/doppellaw10.LiveRegisters", spec := "liveRegisters", unfollowed := true, recurses := true, plainKeys := false, apart := false }
def LiveRegistersSaid : Prop := liveRegistersRow.holds Try.pinned (OpenSpec.ofChange liveRegistersSpec)

/-- ITS FALSE NEIGHBOUR: 'it returns false'. Refute it at one input. -/
def liveRegistersWrong : ChangeSpec := { name := "liveRegisters", fn := fun _ => fun
  | [d] => { results := [.lit (.bool false)], args := [d] }
  | _ => none }
def LiveRegistersWrongFalsely : Prop := liveRegistersRow.holds Try.pinned (OpenSpec.ofChange liveRegistersWrong)

/-- 'doppellaw10.LiveDead': WHATEVER THE INPUT: true; the input reads as it did. -/
def liveDeadSpec : ChangeSpec := { name := "liveDead", fn := fun _ => fun
  | [d1, d2] => { results := [.lit (.bool true)], args := [d1, d2] }
  | _ => none }
def liveDeadRow : OpenClaim := { program := "ytbalbdhbmcdbaaa", sum := "717d271a89315133204b4e013263b4f1dad1e4e7643a06bcdd28a922b553b6ba", func := "doppel/doppellaw10.LiveDead", spec := "liveDead", unfollowed := true, recurses := true, plainKeys := false, apart := false }
def LiveDeadSaid : Prop := liveDeadRow.holds Try.pinned (OpenSpec.ofChange liveDeadSpec)

/-- ITS FALSE NEIGHBOUR: 'it returns false'. Refute it at one input. -/
def liveDeadWrong : ChangeSpec := { name := "liveDead", fn := fun _ => fun
  | [d1, d2] => { results := [.lit (.bool false)], args := [d1, d2] }
  | _ => none }
def LiveDeadWrongFalsely : Prop := liveDeadRow.holds Try.pinned (OpenSpec.ofChange liveDeadWrong)

/-- 'doppellaw10.LiveSweeps': WHATEVER THE INPUT: true; the input reads as it did. -/
def liveSweepsSpec : ChangeSpec := { name := "liveSweeps", fn := fun _ => fun
  | [d] => { results := [.lit (.bool true)], args := [d] }
  | _ => none }
def liveSweepsRow : OpenClaim := { program := "ytbalbdhbmcdbaaa", sum := "717d271a89315133204b4e013263b4f1dad1e4e7643a06bcdd28a922b553b6ba", func := "doppel/doppellaw10.LiveSweeps", spec := "liveSweeps", unfollowed := true, recurses := true, plainKeys := false, apart := false }
def LiveSweepsSaid : Prop := liveSweepsRow.holds Try.pinned (OpenSpec.ofChange liveSweepsSpec)

/-- ITS FALSE NEIGHBOUR: 'it returns false'. Refute it at one input. -/
def liveSweepsWrong : ChangeSpec := { name := "liveSweeps", fn := fun _ => fun
  | [d] => { results := [.lit (.bool false)], args := [d] }
  | _ => none }
def LiveSweepsWrongFalsely : Prop := liveSweepsRow.holds Try.pinned (OpenSpec.ofChange liveSweepsWrong)

/-- 'doppellaw10.LiveDoes': WHATEVER THE INPUT: true; the input reads as it did. -/
def liveDoesSpec : ChangeSpec := { name := "liveDoes", fn := fun _ => fun
  | [d1, d2, d3] => { results := [.lit (.bool true)], args := [d1, d2, d3] }
  | _ => none }
def liveDoesRow : OpenClaim := { program := "ytbalbdhbmcdbaaa", sum := "717d271a89315133204b4e013263b4f1dad1e4e7643a06bcdd28a922b553b6ba", func := "doppel/doppellaw10.LiveDoes", spec := "liveDoes", unfollowed := true, recurses := true, plainKeys := false, apart := false }
def LiveDoesSaid : Prop := liveDoesRow.holds Try.pinned (OpenSpec.ofChange liveDoesSpec)

/-- ITS FALSE NEIGHBOUR: 'it returns false'. Refute it at one input. -/
def liveDoesWrong : ChangeSpec := { name := "liveDoes", fn := fun _ => fun
  | [d1, d2, d3] => { results := [.lit (.bool false)], args := [d1, d2, d3] }
  | _ => none }
def LiveDoesWrongFalsely : Prop := liveDoesRow.holds Try.pinned (OpenSpec.ofChange liveDoesWrong)

/-- 'doppellaw10.LiveSteps': WHATEVER THE INPUT: true; the input reads as it did. -/
def liveStepsSpec : ChangeSpec := { name := "liveSteps", fn := fun _ => fun
  | [d] => { results := [.lit (.bool true)], args := [d] }
  | _ => none }
def liveStepsRow : OpenClaim := { program := "ytbalbdhbmcdbaaa", sum := "717d271a89315133204b4e013263b4f1dad1e4e7643a06bcdd28a922b553b6ba", func := "doppel/doppellaw10.LiveSteps", spec := "liveSteps", unfollowed := true, recurses := true, plainKeys := false, apart := false }
def LiveStepsSaid : Prop := liveStepsRow.holds Try.pinned (OpenSpec.ofChange liveStepsSpec)

/-- ITS FALSE NEIGHBOUR: 'it returns false'. Refute it at one input. -/
def liveStepsWrong : ChangeSpec := { name := "liveSteps", fn := fun _ => fun
  | [d] => { results := [.lit (.bool false)], args := [d] }
  | _ => none }
def LiveStepsWrongFalsely : Prop := liveStepsRow.holds Try.pinned (OpenSpec.ofChange liveStepsWrong)

/-- 'doppellaw10.LiveStays': WHATEVER THE INPUT: true; the input reads as it did. -/
def liveStaysSpec : ChangeSpec := { name := "liveStays", fn := fun _ => fun
  | [d] => { results := [.lit (.bool true)], args := [d] }
  | _ => none }
def liveStaysRow : OpenClaim := { program := "ytbalbdhbmcdbaaa", sum := "717d271a89315133204b4e013263b4f1dad1e4e7643a06bcdd28a922b553b6ba", func := "doppel/doppellaw10.LiveStays", spec := "liveStays", unfollowed := true, recurses := true, plainKeys := false, apart := false }
def LiveStaysSaid : Prop := liveStaysRow.holds Try.pinned (OpenSpec.ofChange liveStaysSpec)

/-- ITS FALSE NEIGHBOUR: 'it returns false'. Refute it at one input. -/
def liveStaysWrong : ChangeSpec := { name := "liveStays", fn := fun _ => fun
  | [d] => { results := [.lit (.bool false)], args := [d] }
  | _ => none }
def LiveStaysWrongFalsely : Prop := liveStaysRow.holds Try.pinned (OpenSpec.ofChange liveStaysWrong)

/-- 'doppellaw11.FlowJoins': WHATEVER THE INPUT: true; the input reads as it did. -/
def flowJoinsSpec : ChangeSpec := { name := "flowJoins", fn := fun _ => fun
  | [d1, d2, d3] => { results := [.lit (.bool true)], args := [d1, d2, d3] }
  | _ => none }
def flowJoinsRow : OpenClaim := { program := "ytbalbdhbmcdbaaa", sum := "717d271a89315133204b4e013263b4f1dad1e4e7643a06bcdd28a922b553b6ba", func := "doppel/doppellaw11.FlowJoins", spec := "flowJoins", unfollowed := true, recurses := true, plainKeys := false, apart := false }
def FlowJoinsSaid : Prop := flowJoinsRow.holds Try.pinned (OpenSpec.ofChange flowJoinsSpec)

/-- ITS FALSE NEIGHBOUR: 'it returns false'. Refute it at one input. -/
def flowJoinsWrong : ChangeSpec := { name := "flowJoins", fn := fun _ => fun
  | [d1, d2, d3] => { results := [.lit (.bool false)], args := [d1, d2, d3] }
  | _ => none }
def FlowJoinsWrongFalsely : Prop := flowJoinsRow.holds Try.pinned (OpenSpec.ofChange flowJoinsWrong)

/-- 'doppellaw11.FlowHolds': WHATEVER THE INPUT: true; the input reads as it did. -/
def flowHoldsSpec : ChangeSpec := { name := "flowHolds", fn := fun _ => fun
  | [d] => { results := [.lit (.bool true)], args := [d] }
  | _ => none }
def flowHoldsRow : OpenClaim := { program := "ytbalbdhbmcdbaaa", sum := "717d271a89315133204b4e013263b4f1dad1e4e7643a06bcdd28a922b553b6ba", func := "doppel/doppellaw11.FlowHolds", spec := "flowHolds", unfollowed := true, recurses := true, plainKeys := false, apart := false }
def FlowHoldsSaid : Prop := flowHoldsRow.holds Try.pinned (OpenSpec.ofChange flowHoldsSpec)

/-- ITS FALSE NEIGHBOUR: 'it returns false'. Refute it at one input. -/
def flowHoldsWrong : ChangeSpec := { name := "flowHolds", fn := fun _ => fun
  | [d] => { results := [.lit (.bool false)], args := [d] }
  | _ => none }
def FlowHoldsWrongFalsely : Prop := flowHoldsRow.holds Try.pinned (OpenSpec.ofChange flowHoldsWrong)

/-- 'doppellaw11.FlowLeast': WHATEVER THE INPUT: true; the input reads as it did. -/
def flowLeastSpec : ChangeSpec := { name := "flowLeast", fn := fun _ => fun
  | [d] => { results := [.lit (.bool true)], args := [d] }
  | _ => none }
def flowLeastRow : OpenClaim := { program := "ytbalbdhbmcdbaaa", sum := "717d271a89315133204b4e013263b4f1dad1e4e7643a06bcdd28a922b553b6ba", func := "doppel/doppellaw11.FlowLeast", spec := "flowLeast", unfollowed := true, recurses := true, plainKeys := false, apart := false }
def FlowLeastSaid : Prop := flowLeastRow.holds Try.pinned (OpenSpec.ofChange flowLeastSpec)

/-- ITS FALSE NEIGHBOUR: 'it returns false'. Refute it at one input. -/
def flowLeastWrong : ChangeSpec := { name := "flowLeast", fn := fun _ => fun
  | [d] => { results := [.lit (.bool false)], args := [d] }
  | _ => none }
def FlowLeastWrongFalsely : Prop := flowLeastRow.holds Try.pinned (OpenSpec.ofChange flowLeastWrong)

/-- 'doppellaw11.FlowFolds': WHATEVER THE INPUT: true; the input reads as it did. -/
def flowFoldsSpec : ChangeSpec := { name := "flowFolds", fn := fun _ => fun
  | [d] => { results := [.lit (.bool true)], args := [d] }
  | _ => none }
def flowFoldsRow : OpenClaim := { program := "ytbalbdhbmcdbaaa", sum := "717d271a89315133204b4e013263b4f1dad1e4e7643a06bcdd28a922b553b6ba", func := "doppel/doppellaw11.FlowFolds", spec := "flowFolds", unfollowed := true, recurses := true, plainKeys := false, apart := false }
def FlowFoldsSaid : Prop := flowFoldsRow.holds Try.pinned (OpenSpec.ofChange flowFoldsSpec)

/-- ITS FALSE NEIGHBOUR: 'it returns false'. Refute it at one input. -/
def flowFoldsWrong : ChangeSpec := { name := "flowFolds", fn := fun _ => fun
  | [d] => { results := [.lit (.bool false)], args := [d] }
  | _ => none }
def FlowFoldsWrongFalsely : Prop := flowFoldsRow.holds Try.pinned (OpenSpec.ofChange flowFoldsWrong)

/-- 'doppellaw11.FlowDoes': WHATEVER THE INPUT: true; the input reads as it did. -/
def flowDoesSpec : ChangeSpec := { name := "flowDoes", fn := fun _ => fun
  | [d1, d2, d3] => { results := [.lit (.bool true)], args := [d1, d2, d3] }
  | _ => none }
def flowDoesRow : OpenClaim := { program := "ytbalbdhbmcdbaaa", sum := "717d271a89315133204b4e013263b4f1dad1e4e7643a06bcdd28a922b553b6ba", func := "doppel/doppellaw11.FlowDoes", spec := "flowDoes", unfollowed := true, recurses := true, plainKeys := false, apart := false }
def FlowDoesSaid : Prop := flowDoesRow.holds Try.pinned (OpenSpec.ofChange flowDoesSpec)

/-- ITS FALSE NEIGHBOUR: 'it returns false'. Refute it at one input. -/
def flowDoesWrong : ChangeSpec := { name := "flowDoes", fn := fun _ => fun
  | [d1, d2, d3] => { results := [.lit (.bool false)], args := [d1, d2, d3] }
  | _ => none }
def FlowDoesWrongFalsely : Prop := flowDoesRow.holds Try.pinned (OpenSpec.ofChange flowDoesWrong)

/-- 'doppellaw11.FlowParams': WHATEVER THE INPUT: true; the input reads as it did. -/
def flowParamsSpec : ChangeSpec := { name := "flowParams", fn := fun _ => fun
  | [d] => { results := [.lit (.bool true)], args := [d] }
  | _ => none }
def flowParamsRow : OpenClaim := { program := "ytbalbdhbmcdbaaa", sum := "717d271a89315133204b4e013263b4f1dad1e4e7643a06bcdd28a922b553b6ba", func := "doppel/doppellaw11.FlowParams", spec := "flowParams", unfollowed := true, recurses := true, plainKeys := false, apart := false }
def FlowParamsSaid : Prop := flowParamsRow.holds Try.pinned (OpenSpec.ofChange flowParamsSpec)

/-- ITS FALSE NEIGHBOUR: 'it returns false'. Refute it at one input. -/
def flowParamsWrong : ChangeSpec := { name := "flowParams", fn := fun _ => fun
  | [d] => { results := [.lit (.bool false)], args := [d] }
  | _ => none }
def FlowParamsWrongFalsely : Prop := flowParamsRow.holds Try.pinned (OpenSpec.ofChange flowParamsWrong)

/-- 'doppellaw11.FlowStraight': WHATEVER THE INPUT: true; the input reads as it did. -/
def flowStraightSpec : ChangeSpec := { name := "flowStraight", fn := fun _ => fun
  | [d] => { results := [.lit (.bool true)], args := [d] }
  | _ => none }
def flowStraightRow : OpenClaim := { program := "ytbalbdhbmcdbaaa", sum := "717d271a89315133204b4e013263b4f1dad1e4e7643a06bcdd28a922b553b6ba", func := "doppel/doppellaw11.FlowStraight", spec := "flowStraight", unfollowed := true, recurses := true, plainKeys := false, apart := false }
def FlowStraightSaid : Prop := flowStraightRow.holds Try.pinned (OpenSpec.ofChange flowStraightSpec)

/-- ITS FALSE NEIGHBOUR: 'it returns false'. Refute it at one input. -/
def flowStraightWrong : ChangeSpec := { name := "flowStraight", fn := fun _ => fun
  | [d] => { results := [.lit (.bool false)], args := [d] }
  | _ => none }
def FlowStraightWrongFalsely : Prop := flowStraightRow.holds Try.pinned (OpenSpec.ofChange flowStraightWrong)

/-- 'doppellaw12.ShareFirsts': WHATEVER THE INPUT: true; the input reads as it did. -/
def shareFirstsSpec : ChangeSpec := { name := "shareFirsts", fn := fun _ => fun
  | [d] => { results := [.lit (.bool true)], args := [d] }
  | _ => none }
def shareFirstsRow : OpenClaim := { program := "ytbalbdhbmcdbaaa", sum := "717d271a89315133204b4e013263b4f1dad1e4e7643a06bcdd28a922b553b6ba", func := "doppel/doppellaw12.ShareFirsts", spec := "shareFirsts", unfollowed := true, recurses := true, plainKeys := false, apart := false }
def ShareFirstsSaid : Prop := shareFirstsRow.holds Try.pinned (OpenSpec.ofChange shareFirstsSpec)

/-- ITS FALSE NEIGHBOUR: 'it returns false'. Refute it at one input. -/
def shareFirstsWrong : ChangeSpec := { name := "shareFirsts", fn := fun _ => fun
  | [d] => { results := [.lit (.bool false)], args := [d] }
  | _ => none }
def ShareFirstsWrongFalsely : Prop := shareFirstsRow.holds Try.pinned (OpenSpec.ofChange shareFirstsWrong)

/-- 'doppellaw12.ShareKeeps': WHATEVER THE INPUT: true; the input reads as it did. -/
def shareKeepsSpec : ChangeSpec := { name := "shareKeeps", fn := fun _ => fun
  | [d] => { results := [.lit (.bool true)], args := [d] }
  | _ => none }
def shareKeepsRow : OpenClaim := { program := "ytbalbdhbmcdbaaa", sum := "717d271a89315133204b4e013263b4f1dad1e4e7643a06bcdd28a922b553b6ba", func := "doppel/doppellaw12.ShareKeeps", spec := "shareKeeps", unfollowed := true, recurses := true, plainKeys := false, apart := false }
def ShareKeepsSaid : Prop := shareKeepsRow.holds Try.pinned (OpenSpec.ofChange shareKeepsSpec)

/-- ITS FALSE NEIGHBOUR: 'it returns false'. Refute it at one input. -/
def shareKeepsWrong : ChangeSpec := { name := "shareKeeps", fn := fun _ => fun
  | [d] => { results := [.lit (.bool false)], args := [d] }
  | _ => none }
def ShareKeepsWrongFalsely : Prop := shareKeepsRow.holds Try.pinned (OpenSpec.ofChange shareKeepsWrong)

/-- 'doppellaw12.ShareDoes': WHATEVER THE INPUT: true; the input reads as it did. -/
def shareDoesSpec : ChangeSpec := { name := "shareDoes", fn := fun _ => fun
  | [d1, d2, d3] => { results := [.lit (.bool true)], args := [d1, d2, d3] }
  | _ => none }
def shareDoesRow : OpenClaim := { program := "ytbalbdhbmcdbaaa", sum := "717d271a89315133204b4e013263b4f1dad1e4e7643a06bcdd28a922b553b6ba", func := "doppel/doppellaw12.ShareDoes", spec := "shareDoes", unfollowed := true, recurses := true, plainKeys := false, apart := false }
def ShareDoesSaid : Prop := shareDoesRow.holds Try.pinned (OpenSpec.ofChange shareDoesSpec)

/-- ITS FALSE NEIGHBOUR: 'it returns false'. Refute it at one input. -/
def shareDoesWrong : ChangeSpec := { name := "shareDoes", fn := fun _ => fun
  | [d1, d2, d3] => { results := [.lit (.bool false)], args := [d1, d2, d3] }
  | _ => none }
def ShareDoesWrongFalsely : Prop := shareDoesRow.holds Try.pinned (OpenSpec.ofChange shareDoesWrong)

/-- 'doppellaw12.ShareAll': WHATEVER THE INPUT: true; the input reads as it did. -/
def shareAllSpec : ChangeSpec := { name := "shareAll", fn := fun _ => fun
  | [d1, d2, d3] => { results := [.lit (.bool true)], args := [d1, d2, d3] }
  | _ => none }
def shareAllRow : OpenClaim := { program := "ytbalbdhbmcdbaaa", sum := "717d271a89315133204b4e013263b4f1dad1e4e7643a06bcdd28a922b553b6ba", func := "doppel/doppellaw12.ShareAll", spec := "shareAll", unfollowed := true, recurses := true, plainKeys := false, apart := false }
def ShareAllSaid : Prop := shareAllRow.holds Try.pinned (OpenSpec.ofChange shareAllSpec)

/-- ITS FALSE NEIGHBOUR: 'it returns false'. Refute it at one input. -/
def shareAllWrong : ChangeSpec := { name := "shareAll", fn := fun _ => fun
  | [d1, d2, d3] => { results := [.lit (.bool false)], args := [d1, d2, d3] }
  | _ => none }
def ShareAllWrongFalsely : Prop := shareAllRow.holds Try.pinned (OpenSpec.ofChange shareAllWrong)

/-- 'doppellaw12.ShareOnce': WHATEVER THE INPUT: true; the input reads as it did. -/
def shareOnceSpec : ChangeSpec := { name := "shareOnce", fn := fun _ => fun
  | [d] => { results := [.lit (.bool true)], args := [d] }
  | _ => none }
def shareOnceRow : OpenClaim := { program := "ytbalbdhbmcdbaaa", sum := "717d271a89315133204b4e013263b4f1dad1e4e7643a06bcdd28a922b553b6ba", func := "doppel/doppellaw12.ShareOnce", spec := "shareOnce", unfollowed := true, recurses := true, plainKeys := false, apart := false }
def ShareOnceSaid : Prop := shareOnceRow.holds Try.pinned (OpenSpec.ofChange shareOnceSpec)

/-- ITS FALSE NEIGHBOUR: 'it returns false'. Refute it at one input. -/
def shareOnceWrong : ChangeSpec := { name := "shareOnce", fn := fun _ => fun
  | [d] => { results := [.lit (.bool false)], args := [d] }
  | _ => none }
def ShareOnceWrongFalsely : Prop := shareOnceRow.holds Try.pinned (OpenSpec.ofChange shareOnceWrong)

/-- 'doppellaw12.ShareAgain': WHATEVER THE INPUT: true; the input reads as it did. -/
def shareAgainSpec : ChangeSpec := { name := "shareAgain", fn := fun _ => fun
  | [d1, d2, d3] => { results := [.lit (.bool true)], args := [d1, d2, d3] }
  | _ => none }
def shareAgainRow : OpenClaim := { program := "ytbalbdhbmcdbaaa", sum := "717d271a89315133204b4e013263b4f1dad1e4e7643a06bcdd28a922b553b6ba", func := "doppel/doppellaw12.ShareAgain", spec := "shareAgain", unfollowed := true, recurses := true, plainKeys := false, apart := false }
def ShareAgainSaid : Prop := shareAgainRow.holds Try.pinned (OpenSpec.ofChange shareAgainSpec)

/-- ITS FALSE NEIGHBOUR: 'it returns false'. Refute it at one input. -/
def shareAgainWrong : ChangeSpec := { name := "shareAgain", fn := fun _ => fun
  | [d1, d2, d3] => { results := [.lit (.bool false)], args := [d1, d2, d3] }
  | _ => none }
def ShareAgainWrongFalsely : Prop := shareAgainRow.holds Try.pinned (OpenSpec.ofChange shareAgainWrong)

/- THE SECOND FORM. 'bulk': how many values and letters a reading holds, each counted each time it is reached (what is shared counts as often as it is met; a slice's spare places count too). A statement '..UptoSaid' is the law's where the arguments, and the package variables that the reading takes, are together of bulk at most 1048576: NARROWER than '..Said'. Prove '..Said' where nothing that the law and all that it calls make is longer than what came in: it says more and counts as full. Else prove '..UptoSaid'. A law counts once. -/
mutual
def uptoBulk {H : Type} : DataW H → Nat
  | .lit (.string bytes) => bytes.length + 1
  | .lit _ => 1
  | .nil => 1
  | .ptr d => uptoBulk d + 1
  | .slice elems spare => uptoBulkAll elems + uptoBulkAll spare + 1
  | .agg parts => uptoBulkAll parts + 1
  | .iface _ d => uptoBulk d + 1
  | .map entries => uptoBulkEntries entries + 1
  | .held _ => 1
def uptoBulkAll {H : Type} : List (DataW H) → Nat
  | [] => 0
  | d :: r => uptoBulk d + uptoBulkAll r
def uptoBulkEntries {H : Type} : List (Lit × DataW H) → Nat
  | [] => 0
  | x :: r => uptoBulkEntry x + uptoBulkEntries r
def uptoBulkEntry {H : Type} : Lit × DataW H → Nat
  | (.string bytes, d) => bytes.length + uptoBulk d + 1
  | (_, d) => uptoBulk d + 1
 end
def uptoSmall : (H : Type) → List (DataW H) → Bool := fun _ ds => decide (uptoBulkAll ds ≤ 1048576)
def OpenSpec.upto (s : _root_.Go.ChangeSpec) : _root_.Go.OpenSpec := { _root_.Go.OpenSpec.ofChange s with cond := some uptoSmall }

/-- 'doppellaw10.LiveRegisters', WHERE WHAT IT READS IS OF BULK AT MOST 1048576: true; the input reads as it did. -/
def liveRegistersUptoRow : OpenClaim := { program := "ytbalbdhbmcdbaaa", sum := "717d271a89315133204b4e013263b4f1dad1e4e7643a06bcdd28a922b553b6ba", func := "doppel/doppellaw10.LiveRegisters", spec := "liveRegisters", unfollowed := true, recurses := true, plainKeys := false, apart := false, narrowed := true }
def LiveRegistersUptoSaid : Prop := liveRegistersUptoRow.holds Try.pinned (OpenSpec.upto liveRegistersSpec)

/-- 'doppellaw10.LiveDead', WHERE WHAT IT READS IS OF BULK AT MOST 1048576: true; the input reads as it did. -/
def liveDeadUptoRow : OpenClaim := { program := "ytbalbdhbmcdbaaa", sum := "717d271a89315133204b4e013263b4f1dad1e4e7643a06bcdd28a922b553b6ba", func := "doppel/doppellaw10.LiveDead", spec := "liveDead", unfollowed := true, recurses := true, plainKeys := false, apart := false, narrowed := true }
def LiveDeadUptoSaid : Prop := liveDeadUptoRow.holds Try.pinned (OpenSpec.upto liveDeadSpec)

/-- 'doppellaw10.LiveSweeps', WHERE WHAT IT READS IS OF BULK AT MOST 1048576: true; the input reads as it did. -/
def liveSweepsUptoRow : OpenClaim := { program := "ytbalbdhbmcdbaaa", sum := "717d271a89315133204b4e013263b4f1dad1e4e7643a06bcdd28a922b553b6ba", func := "doppel/doppellaw10.LiveSweeps", spec := "liveSweeps", unfollowed := true, recurses := true, plainKeys := false, apart := false, narrowed := true }
def LiveSweepsUptoSaid : Prop := liveSweepsUptoRow.holds Try.pinned (OpenSpec.upto liveSweepsSpec)

/-- 'doppellaw10.LiveDoes', WHERE WHAT IT READS IS OF BULK AT MOST 1048576: true; the input reads as it did. -/
def liveDoesUptoRow : OpenClaim := { program := "ytbalbdhbmcdbaaa", sum := "717d271a89315133204b4e013263b4f1dad1e4e7643a06bcdd28a922b553b6ba", func := "doppel/doppellaw10.LiveDoes", spec := "liveDoes", unfollowed := true, recurses := true, plainKeys := false, apart := false, narrowed := true }
def LiveDoesUptoSaid : Prop := liveDoesUptoRow.holds Try.pinned (OpenSpec.upto liveDoesSpec)

/-- 'doppellaw10.LiveSteps', WHERE WHAT IT READS IS OF BULK AT MOST 1048576: true; the input reads as it did. -/
def liveStepsUptoRow : OpenClaim := { program := "ytbalbdhbmcdbaaa", sum := "717d271a89315133204b4e013263b4f1dad1e4e7643a06bcdd28a922b553b6ba", func := "doppel/doppellaw10.LiveSteps", spec := "liveSteps", unfollowed := true, recurses := true, plainKeys := false, apart := false, narrowed := true }
def LiveStepsUptoSaid : Prop := liveStepsUptoRow.holds Try.pinned (OpenSpec.upto liveStepsSpec)

/-- 'doppellaw10.LiveStays', WHERE WHAT IT READS IS OF BULK AT MOST 1048576: true; the input reads as it did. -/
def liveStaysUptoRow : OpenClaim := { program := "ytbalbdhbmcdbaaa", sum := "717d271a89315133204b4e013263b4f1dad1e4e7643a06bcdd28a922b553b6ba", func := "doppel/doppellaw10.LiveStays", spec := "liveStays", unfollowed := true, recurses := true, plainKeys := false, apart := false, narrowed := true }
def LiveStaysUptoSaid : Prop := liveStaysUptoRow.holds Try.pinned (OpenSpec.upto liveStaysSpec)

/-- 'doppellaw11.FlowJoins', WHERE WHAT IT READS IS OF BULK AT MOST 1048576: true; the input reads as it did. -/
def flowJoinsUptoRow : OpenClaim := { program := "ytbalbdhbmcdbaaa", sum := "717d271a89315133204b4e013263b4f1dad1e4e7643a06bcdd28a922b553b6ba", func := "doppel/doppellaw11.FlowJoins", spec := "flowJoins", unfollowed := true, recurses := true, plainKeys := false, apart := false, narrowed := true }
def FlowJoinsUptoSaid : Prop := flowJoinsUptoRow.holds Try.pinned (OpenSpec.upto flowJoinsSpec)

/-- 'doppellaw11.FlowHolds', WHERE WHAT IT READS IS OF BULK AT MOST 1048576: true; the input reads as it did. -/
def flowHoldsUptoRow : OpenClaim := { program := "ytbalbdhbmcdbaaa", sum := "717d271a89315133204b4e013263b4f1dad1e4e7643a06bcdd28a922b553b6ba", func := "doppel/doppellaw11.FlowHolds", spec := "flowHolds", unfollowed := true, recurses := true, plainKeys := false, apart := false, narrowed := true }
def FlowHoldsUptoSaid : Prop := flowHoldsUptoRow.holds Try.pinned (OpenSpec.upto flowHoldsSpec)

/-- 'doppellaw11.FlowLeast', WHERE WHAT IT READS IS OF BULK AT MOST 1048576: true; the input reads as it did. -/
def flowLeastUptoRow : OpenClaim := { program := "ytbalbdhbmcdbaaa", sum := "717d271a89315133204b4e013263b4f1dad1e4e7643a06bcdd28a922b553b6ba", func := "doppel/doppellaw11.FlowLeast", spec := "flowLeast", unfollowed := true, recurses := true, plainKeys := false, apart := false, narrowed := true }
def FlowLeastUptoSaid : Prop := flowLeastUptoRow.holds Try.pinned (OpenSpec.upto flowLeastSpec)

/-- 'doppellaw11.FlowFolds', WHERE WHAT IT READS IS OF BULK AT MOST 1048576: true; the input reads as it did. -/
def flowFoldsUptoRow : OpenClaim := { program := "ytbalbdhbmcdbaaa", sum := "717d271a89315133204b4e013263b4f1dad1e4e7643a06bcdd28a922b553b6ba", func := "doppel/doppellaw11.FlowFolds", spec := "flowFolds", unfollowed := true, recurses := true, plainKeys := false, apart := false, narrowed := true }
def FlowFoldsUptoSaid : Prop := flowFoldsUptoRow.holds Try.pinned (OpenSpec.upto flowFoldsSpec)

/-- 'doppellaw11.FlowDoes', WHERE WHAT IT READS IS OF BULK AT MOST 1048576: true; the input reads as it did. -/
def flowDoesUptoRow : OpenClaim := { program := "ytbalbdhbmcdbaaa", sum := "717d271a89315133204b4e013263b4f1dad1e4e7643a06bcdd28a922b553b6ba", func := "doppel/doppellaw11.FlowDoes", spec := "flowDoes", unfollowed := true, recurses := true, plainKeys := false, apart := false, narrowed := true }
def FlowDoesUptoSaid : Prop := flowDoesUptoRow.holds Try.pinned (OpenSpec.upto flowDoesSpec)

/-- 'doppellaw11.FlowParams', WHERE WHAT IT READS IS OF BULK AT MOST 1048576: true; the input reads as it did. -/
def flowParamsUptoRow : OpenClaim := { program := "ytbalbdhbmcdbaaa", sum := "717d271a89315133204b4e013263b4f1dad1e4e7643a06bcdd28a922b553b6ba", func := "doppel/doppellaw11.FlowParams", spec := "flowParams", unfollowed := true, recurses := true, plainKeys := false, apart := false, narrowed := true }
def FlowParamsUptoSaid : Prop := flowParamsUptoRow.holds Try.pinned (OpenSpec.upto flowParamsSpec)

/-- 'doppellaw11.FlowStraight', WHERE WHAT IT READS IS OF BULK AT MOST 1048576: true; the input reads as it did. -/
def flowStraightUptoRow : OpenClaim := { program := "ytbalbdhbmcdbaaa", sum := "717d271a89315133204b4e013263b4f1dad1e4e7643a06bcdd28a922b553b6ba", func := "doppel/doppellaw11.FlowStraight", spec := "flowStraight", unfollowed := true, recurses := true, plainKeys := false, apart := false, narrowed := true }
def FlowStraightUptoSaid : Prop := flowStraightUptoRow.holds Try.pinned (OpenSpec.upto flowStraightSpec)

/-- 'doppellaw12.ShareFirsts', WHERE WHAT IT READS IS OF BULK AT MOST 1048576: true; the input reads as it did. -/
def shareFirstsUptoRow : OpenClaim := { program := "ytbalbdhbmcdbaaa", sum := "717d271a89315133204b4e013263b4f1dad1e4e7643a06bcdd28a922b553b6ba", func := "doppel/doppellaw12.ShareFirsts", spec := "shareFirsts", unfollowed := true, recurses := true, plainKeys := false, apart := false, narrowed := true }
def ShareFirstsUptoSaid : Prop := shareFirstsUptoRow.holds Try.pinned (OpenSpec.upto shareFirstsSpec)

/-- 'doppellaw12.ShareKeeps', WHERE WHAT IT READS IS OF BULK AT MOST 1048576: true; the input reads as it did. -/
def shareKeepsUptoRow : OpenClaim := { program := "ytbalbdhbmcdbaaa", sum := "717d271a89315133204b4e013263b4f1dad1e4e7643a06bcdd28a922b553b6ba", func := "doppel/doppellaw12.ShareKeeps", spec := "shareKeeps", unfollowed := true, recurses := true, plainKeys := false, apart := false, narrowed := true }
def ShareKeepsUptoSaid : Prop := shareKeepsUptoRow.holds Try.pinned (OpenSpec.upto shareKeepsSpec)

/-- 'doppellaw12.ShareDoes', WHERE WHAT IT READS IS OF BULK AT MOST 1048576: true; the input reads as it did. -/
def shareDoesUptoRow : OpenClaim := { program := "ytbalbdhbmcdbaaa", sum := "717d271a89315133204b4e013263b4f1dad1e4e7643a06bcdd28a922b553b6ba", func := "doppel/doppellaw12.ShareDoes", spec := "shareDoes", unfollowed := true, recurses := true, plainKeys := false, apart := false, narrowed := true }
def ShareDoesUptoSaid : Prop := shareDoesUptoRow.holds Try.pinned (OpenSpec.upto shareDoesSpec)

/-- 'doppellaw12.ShareAll', WHERE WHAT IT READS IS OF BULK AT MOST 1048576: true; the input reads as it did. -/
def shareAllUptoRow : OpenClaim := { program := "ytbalbdhbmcdbaaa", sum := "717d271a89315133204b4e013263b4f1dad1e4e7643a06bcdd28a922b553b6ba", func := "doppel/doppellaw12.ShareAll", spec := "shareAll", unfollowed := true, recurses := true, plainKeys := false, apart := false, narrowed := true }
def ShareAllUptoSaid : Prop := shareAllUptoRow.holds Try.pinned (OpenSpec.upto shareAllSpec)

/-- 'doppellaw12.ShareOnce', WHERE WHAT IT READS IS OF BULK AT MOST 1048576: true; the input reads as it did. -/
def shareOnceUptoRow : OpenClaim := { program := "ytbalbdhbmcdbaaa", sum := "717d271a89315133204b4e013263b4f1dad1e4e7643a06bcdd28a922b553b6ba", func := "doppel/doppellaw12.ShareOnce", spec := "shareOnce", unfollowed := true, recurses := true, plainKeys := false, apart := false, narrowed := true }
def ShareOnceUptoSaid : Prop := shareOnceUptoRow.holds Try.pinned (OpenSpec.upto shareOnceSpec)

/-- 'doppellaw12.ShareAgain', WHERE WHAT IT READS IS OF BULK AT MOST 1048576: true; the input reads as it did. -/
def shareAgainUptoRow : OpenClaim := { program := "ytbalbdhbmcdbaaa", sum := "717d271a89315133204b4e013263b4f1dad1e4e7643a06bcdd28a922b553b6ba", func := "doppel/doppellaw12.ShareAgain", spec := "shareAgain", unfollowed := true, recurses := true, plainKeys := false, apart := false, narrowed := true }
def ShareAgainUptoSaid : Prop := shareAgainUptoRow.holds Try.pinned (OpenSpec.upto shareAgainSpec)

end Rows
end Go.Proofs.Ytbalbdhbmcdbaaa
