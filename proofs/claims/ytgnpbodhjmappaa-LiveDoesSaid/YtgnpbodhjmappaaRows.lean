/-
  No cell of these rows narrows 'for every input' (looked for: loops, veiled, ifaces, maps, wideKeys, modest, calm, conditions, laid).
  DERIVED. THE GIVEN ROWS OF THIS SEAT. 8 by the template 'for every input the law returns true; each argument reads behind the call as it read before'; 0 by the template 'total and deterministic' (their statements: YtgnpbodhjmappaaTotals.lean).
  GIVEN WITH THE SEED: the statements are not yours to turn. If you find one false, say at which input.
  Laid BY PROGRAM, IN A SANDBOX (cutbox-rows.mjs): the forced cells as the released guide's own fill.sh prints them over the translation 24080260543679d0… (all of the seat's roots in one cut). By AI agents, Wed Nov 11 2026. No macro, syntax, notation, axiom, sorry.
-/
import Derived.Test.YtgnpbodhjmappaaChecked
import GoSem.Claim
import GoSem.ClaimJoined
import GoSem.ClaimMapViews
import Derived.JoinedTies
import Derived.KernelRfl
namespace Go.Proofs.Ytgnpbodhjmappaa
/- THE CELL 'sum', in the pinned program and in every row, IS THE sha256 OF THE DUMP (.gsa) THAT YtgnpbodhjmappaaProg.lean LOADS. Nothing in Lean hashes anything: it is a label: what it is worth is what the hold of that sum in a sandbox is worth. -/
noncomputable def Try.pinned : Pinned := { name := "ytgnpbodhjmappaa", sum := "24080260543679d08928cb2b4ffc75df43d3f00796dbf72412bd8864a7a42957", checked := Try.checked }
namespace Rows
def none {H : Type} : Left H := { results := [], args := [] }

/-- 'doppellaw10.LiveSweeps': WHATEVER THE INPUT: true; the input reads as it did. -/
def liveSweepsSpec : ChangeSpec := { name := "liveSweeps", fn := fun _ => fun
  | [d] => { results := [.lit (.bool true)], args := [d] }
  | _ => none }
def liveSweepsRow : OpenClaim := { program := "ytgnpbodhjmappaa", sum := "24080260543679d08928cb2b4ffc75df43d3f00796dbf72412bd8864a7a42957", func := "doppel/doppellaw10.LiveSweeps", spec := "liveSweeps", unfollowed := true, recurses := true, apart := false }
def LiveSweepsSaid : Prop := liveSweepsRow.holds Try.pinned (OpenSpec.ofChange liveSweepsSpec)

/-- ITS FALSE NEIGHBOUR: 'it returns false'. Refute it at one input. -/
def liveSweepsWrong : ChangeSpec := { name := "liveSweeps", fn := fun _ => fun
  | [d] => { results := [.lit (.bool false)], args := [d] }
  | _ => none }
def LiveSweepsWrongFalsely : Prop := liveSweepsRow.holds Try.pinned (OpenSpec.ofChange liveSweepsWrong)

/-- 'doppellaw10.LiveDoes': WHATEVER THE INPUT: true; the input reads as it did. -/
def liveDoesSpec : ChangeSpec := { name := "liveDoes", fn := fun _ => fun
  | [d1, d2, d3] => { results := [.lit (.bool true)], args := [d1, d2, d3] }
  | _ => none }
def liveDoesRow : OpenClaim := { program := "ytgnpbodhjmappaa", sum := "24080260543679d08928cb2b4ffc75df43d3f00796dbf72412bd8864a7a42957", func := "doppel/doppellaw10.LiveDoes", spec := "liveDoes", unfollowed := true, recurses := true, apart := false }
def LiveDoesSaid : Prop := liveDoesRow.holds Try.pinned (OpenSpec.ofChange liveDoesSpec)

/-- ITS FALSE NEIGHBOUR: 'it returns false'. Refute it at one input. -/
def liveDoesWrong : ChangeSpec := { name := "liveDoes", fn := fun _ => fun
  | [d1, d2, d3] => { results := [.lit (.bool false)], args := [d1, d2, d3] }
  | _ => none }
def LiveDoesWrongFalsely : Prop := liveDoesRow.holds Try.pinned (OpenSpec.ofChange liveDoesWrong)

/-- 'doppellaw10.LiveStays': WHATEVER THE INPUT: true; the input reads as it did. -/
def liveStaysSpec : ChangeSpec := { name := "liveStays", fn := fun _ => fun
  | [d] => { results := [.lit (.bool true)], args := [d] }
  | _ => none }
def liveStaysRow : OpenClaim := { program := "ytgnpbodhjmappaa", sum := "24080260543679d08928cb2b4ffc75df43d3f00796dbf72412bd8864a7a42957", func := "doppel/doppellaw10.LiveStays", spec := "liveStays", unfollowed := true, recurses := true, apart := false }
def LiveStaysSaid : Prop := liveStaysRow.holds Try.pinned (OpenSpec.ofChange liveStaysSpec)

/-- ITS FALSE NEIGHBOUR: 'it returns false'. Refute it at one input. -/
def liveStaysWrong : ChangeSpec := { name := "liveStays", fn := fun _ => fun
  | [d] => { results := [.lit (.bool false)], args := [d] }
  | _ => none }
def LiveStaysWrongFalsely : Prop := liveStaysRow.holds Try.pinned (OpenSpec.ofChange liveStaysWrong)

/-- 'doppellaw13.InlineSmall': WHATEVER THE INPUT: true; the input reads as it did. -/
def inlineSmallSpec : ChangeSpec := { name := "inlineSmall", fn := fun _ => fun
  | [d] => { results := [.lit (.bool true)], args := [d] }
  | _ => none }
def inlineSmallRow : OpenClaim := { program := "ytgnpbodhjmappaa", sum := "24080260543679d08928cb2b4ffc75df43d3f00796dbf72412bd8864a7a42957", func := "doppel/doppellaw13.InlineSmall", spec := "inlineSmall", unfollowed := true, recurses := true, apart := false }
def InlineSmallSaid : Prop := inlineSmallRow.holds Try.pinned (OpenSpec.ofChange inlineSmallSpec)

/-- ITS FALSE NEIGHBOUR: 'it returns false'. Refute it at one input. -/
def inlineSmallWrong : ChangeSpec := { name := "inlineSmall", fn := fun _ => fun
  | [d] => { results := [.lit (.bool false)], args := [d] }
  | _ => none }
def InlineSmallWrongFalsely : Prop := inlineSmallRow.holds Try.pinned (OpenSpec.ofChange inlineSmallWrong)

/-- 'doppellaw13.InlineCounts': WHATEVER THE INPUT: true; the input reads as it did. -/
def inlineCountsSpec : ChangeSpec := { name := "inlineCounts", fn := fun _ => fun
  | [d1, d2] => { results := [.lit (.bool true)], args := [d1, d2] }
  | _ => none }
def inlineCountsRow : OpenClaim := { program := "ytgnpbodhjmappaa", sum := "24080260543679d08928cb2b4ffc75df43d3f00796dbf72412bd8864a7a42957", func := "doppel/doppellaw13.InlineCounts", spec := "inlineCounts", unfollowed := true, recurses := true, apart := false }
def InlineCountsSaid : Prop := inlineCountsRow.holds Try.pinned (OpenSpec.ofChange inlineCountsSpec)

/-- ITS FALSE NEIGHBOUR: 'it returns false'. Refute it at one input. -/
def inlineCountsWrong : ChangeSpec := { name := "inlineCounts", fn := fun _ => fun
  | [d1, d2] => { results := [.lit (.bool false)], args := [d1, d2] }
  | _ => none }
def InlineCountsWrongFalsely : Prop := inlineCountsRow.holds Try.pinned (OpenSpec.ofChange inlineCountsWrong)

/-- 'doppellaw13.InlineDoes': WHATEVER THE INPUT: true; the input reads as it did. -/
def inlineDoesSpec : ChangeSpec := { name := "inlineDoes", fn := fun _ => fun
  | [d1, d2, d3] => { results := [.lit (.bool true)], args := [d1, d2, d3] }
  | _ => none }
def inlineDoesRow : OpenClaim := { program := "ytgnpbodhjmappaa", sum := "24080260543679d08928cb2b4ffc75df43d3f00796dbf72412bd8864a7a42957", func := "doppel/doppellaw13.InlineDoes", spec := "inlineDoes", unfollowed := true, recurses := true, apart := false }
def InlineDoesSaid : Prop := inlineDoesRow.holds Try.pinned (OpenSpec.ofChange inlineDoesSpec)

/-- ITS FALSE NEIGHBOUR: 'it returns false'. Refute it at one input. -/
def inlineDoesWrong : ChangeSpec := { name := "inlineDoes", fn := fun _ => fun
  | [d1, d2, d3] => { results := [.lit (.bool false)], args := [d1, d2, d3] }
  | _ => none }
def InlineDoesWrongFalsely : Prop := inlineDoesRow.holds Try.pinned (OpenSpec.ofChange inlineDoesWrong)

/-- 'doppellaw13.InlineOnly': WHATEVER THE INPUT: true; the input reads as it did. -/
def inlineOnlySpec : ChangeSpec := { name := "inlineOnly", fn := fun _ => fun
  | [d] => { results := [.lit (.bool true)], args := [d] }
  | _ => none }
def inlineOnlyRow : OpenClaim := { program := "ytgnpbodhjmappaa", sum := "24080260543679d08928cb2b4ffc75df43d3f00796dbf72412bd8864a7a42957", func := "doppel/doppellaw13.InlineOnly", spec := "inlineOnly", unfollowed := true, recurses := true, apart := false }
def InlineOnlySaid : Prop := inlineOnlyRow.holds Try.pinned (OpenSpec.ofChange inlineOnlySpec)

/-- ITS FALSE NEIGHBOUR: 'it returns false'. Refute it at one input. -/
def inlineOnlyWrong : ChangeSpec := { name := "inlineOnly", fn := fun _ => fun
  | [d] => { results := [.lit (.bool false)], args := [d] }
  | _ => none }
def InlineOnlyWrongFalsely : Prop := inlineOnlyRow.holds Try.pinned (OpenSpec.ofChange inlineOnlyWrong)

/-- 'doppellaw13.InlineTwice': WHATEVER THE INPUT: true; the input reads as it did. -/
def inlineTwiceSpec : ChangeSpec := { name := "inlineTwice", fn := fun _ => fun
  | [d1, d2, d3] => { results := [.lit (.bool true)], args := [d1, d2, d3] }
  | _ => none }
def inlineTwiceRow : OpenClaim := { program := "ytgnpbodhjmappaa", sum := "24080260543679d08928cb2b4ffc75df43d3f00796dbf72412bd8864a7a42957", func := "doppel/doppellaw13.InlineTwice", spec := "inlineTwice", unfollowed := true, recurses := true, apart := false }
def InlineTwiceSaid : Prop := inlineTwiceRow.holds Try.pinned (OpenSpec.ofChange inlineTwiceSpec)

/-- ITS FALSE NEIGHBOUR: 'it returns false'. Refute it at one input. -/
def inlineTwiceWrong : ChangeSpec := { name := "inlineTwice", fn := fun _ => fun
  | [d1, d2, d3] => { results := [.lit (.bool false)], args := [d1, d2, d3] }
  | _ => none }
def InlineTwiceWrongFalsely : Prop := inlineTwiceRow.holds Try.pinned (OpenSpec.ofChange inlineTwiceWrong)

/- THE SECOND FORM. 'bulk': how many values and letters a reading holds, each counted each time it is reached (what is shared counts as often as it is met; a slice's spare places count too). A statement '..UptoSaid' is the law's where the arguments, and the package variables that the reading takes, are together of bulk at most 1048576: NARROWER than '..Said'. Prove '..Said' where nothing that the law and all that it calls make is longer than what came in: it says more and counts as full. Else prove '..UptoSaid'. A law counts once. -/
mutual
def uptoBulk {H : Type} : DataW H → Nat
  | .lit (.string bytes) => bytes.length + 1
  | .lit _ => 1
  | .nil => 1
  | .ptr d => uptoBulk d + 1
  | .slice elems spare => uptoBulkAll elems + uptoBulkAll spare + 1
  | .agg parts => uptoBulkAll parts + 1
  | .iface _ d => uptoBulk d + 1
  | .map entries => uptoBulkEntries entries + 1
  | .held _ => 1
def uptoBulkAll {H : Type} : List (DataW H) → Nat
  | [] => 0
  | d :: r => uptoBulk d + uptoBulkAll r
def uptoBulkEntries {H : Type} : List (Lit × DataW H) → Nat
  | [] => 0
  | x :: r => uptoBulkEntry x + uptoBulkEntries r
def uptoBulkEntry {H : Type} : Lit × DataW H → Nat
  | (.string bytes, d) => bytes.length + uptoBulk d + 1
  | (_, d) => uptoBulk d + 1
 end
def uptoSmall : (H : Type) → List (DataW H) → Bool := fun _ ds => decide (uptoBulkAll ds ≤ 1048576)
def OpenSpec.upto (s : _root_.Go.ChangeSpec) : _root_.Go.OpenSpec := { _root_.Go.OpenSpec.ofChange s with cond := some uptoSmall }

/-- 'doppellaw10.LiveSweeps', WHERE WHAT IT READS IS OF BULK AT MOST 1048576: true; the input reads as it did. -/
def liveSweepsUptoRow : OpenClaim := { program := "ytgnpbodhjmappaa", sum := "24080260543679d08928cb2b4ffc75df43d3f00796dbf72412bd8864a7a42957", func := "doppel/doppellaw10.LiveSweeps", spec := "liveSweeps", unfollowed := true, recurses := true, apart := false, narrowed := true }
def LiveSweepsUptoSaid : Prop := liveSweepsUptoRow.holds Try.pinned (OpenSpec.upto liveSweepsSpec)

/-- 'doppellaw10.LiveDoes', WHERE WHAT IT READS IS OF BULK AT MOST 1048576: true; the input reads as it did. -/
def liveDoesUptoRow : OpenClaim := { program := "ytgnpbodhjmappaa", sum := "24080260543679d08928cb2b4ffc75df43d3f00796dbf72412bd8864a7a42957", func := "doppel/doppellaw10.LiveDoes", spec := "liveDoes", unfollowed := true, recurses := true, apart := false, narrowed := true }
def LiveDoesUptoSaid : Prop := liveDoesUptoRow.holds Try.pinned (OpenSpec.upto liveDoesSpec)

/-- 'doppellaw10.LiveStays', WHERE WHAT IT READS IS OF BULK AT MOST 1048576: true; the input reads as it did. -/
def liveStaysUptoRow : OpenClaim := { program := "ytgnpbodhjmappaa", sum := "24080260543679d08928cb2b4ffc75df43d3f00796dbf72412bd8864a7a42957", func := "doppel/doppellaw10.LiveStays", spec := "liveStays", unfollowed := true, recurses := true, apart := false, narrowed := true }
def LiveStaysUptoSaid : Prop := liveStaysUptoRow.holds Try.pinned (OpenSpec.upto liveStaysSpec)

/-- 'doppellaw13.InlineSmall', WHERE WHAT IT READS IS OF BULK AT MOST 1048576: true; the input reads as it did. -/
def inlineSmallUptoRow : OpenClaim := { program := "ytgnpbodhjmappaa", sum := "24080260543679d08928cb2b4ffc75df43d3f00796dbf72412bd8864a7a42957", func := "doppel/doppellaw13.InlineSmall", spec := "inlineSmall", unfollowed := true, recurses := true, apart := false, narrowed := true }
def InlineSmallUptoSaid : Prop := inlineSmallUptoRow.holds Try.pinned (OpenSpec.upto inlineSmallSpec)

/-- 'doppellaw13.InlineCounts', WHERE WHAT IT READS IS OF BULK AT MOST 1048576: true; the input reads as it did. -/
def inlineCountsUptoRow : OpenClaim := { program := "ytgnpbodhjmappaa", sum := "24080260543679d08928cb2b4ffc75df43d3f00796dbf72412bd8864a7a42957", func := "doppel/doppellaw13.InlineCounts", spec := "inlineCounts", unfollowed := true, recurses := true, apart := false, narrowed := true }
def InlineCountsUptoSaid : Prop := inlineCountsUptoRow.holds Try.pinned (OpenSpec.upto inlineCountsSpec)

/-- 'doppellaw13.InlineDoes', WHERE WHAT IT READS IS OF BULK AT MOST 1048576: true; the input reads as it did. -/
def inlineDoesUptoRow : OpenClaim := { program := "ytgnpbodhjmappaa", sum := "24080260543679d08928cb2b4ffc75df43d3f00796dbf72412bd8864a7a42957", func := "doppel/doppellaw13.InlineDoes", spec := "inlineDoes", unfollowed := true, recurses := true, apart := false, narrowed := true }
def InlineDoesUptoSaid : Prop := inlineDoesUptoRow.holds Try.pinned (OpenSpec.upto inlineDoesSpec)

/-- 'doppellaw13.InlineOnly', WHERE WHAT IT READS IS OF BULK AT MOST 1048576: true; the input reads as it did. -/
def inlineOnlyUptoRow : OpenClaim := { program := "ytgnpbodhjmappaa", sum := "24080260543679d08928cb2b4ffc75df43d3f00796dbf72412bd8864a7a42957", func := "doppel/doppellaw13.InlineOnly", spec := "inlineOnly", unfollowed := true, recurses := true, apart := false, narrowed := true }
def InlineOnlyUptoSaid : Prop := inlineOnlyUptoRow.holds Try.pinned (OpenSpec.upto inlineOnlySpec)

/-- 'doppellaw13.InlineTwice', WHERE WHAT IT READS IS OF BULK AT MOST 1048576: true; the input reads as it did. -/
def inlineTwiceUptoRow : OpenClaim := { program := "ytgnpbodhjmappaa", sum := "24080260543679d08928cb2b4ffc75df43d3f00796dbf72412bd8864a7a42957", func := "doppel/doppellaw13.InlineTwice", spec := "inlineTwice", unfollowed := true, recurses := true, apart := false, narrowed := true }
def InlineTwiceUptoSaid : Prop := inlineTwiceUptoRow.holds Try.pinned (OpenSpec.upto inlineTwiceSpec)

end Rows
end Go.Proofs.Ytgnpbodhjmappaa
