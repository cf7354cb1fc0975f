/-
  No cell of these rows narrows 'for every input' (looked for: loops, veiled, ifaces, maps, wideKeys, modest, calm, conditions, laid).
  DERIVED. THE GIVEN ROWS OF THIS SEAT. 4 by the template 'for every input the law returns true; each argument reads behind the call as it read before'; 0 by the template 'total and deterministic' (their statements: YtmcpfjhdeplgmaaTotals.lean).
  GIVEN WITH THE SEED: the statements are not yours to turn. If you find one false, say at which input.
  Laid BY PROGRAM, IN A SANDBOX (cutbox-rows.mjs): the forced cells as the released guide's own fill.sh prints them over the translation bb799b43f5ec72b9… (all of the seat's roots in one cut). By AI agents, Wed Nov 11 2026. No macro, syntax, notation, axiom, sorry.
-/
import Derived.Test.YtmcpfjhdeplgmaaChecked
import GoSem.Claim
import GoSem.ClaimJoined
import GoSem.ClaimMapViews
import Derived.JoinedTies
import Derived.KernelRfl
namespace Go.Proofs.Ytmcpfjhdeplgmaa
/- THE CELL 'sum', in the pinned program and in every row, IS THE sha256 OF THE DUMP (.gsa) THAT YtmcpfjhdeplgmaaProg.lean LOADS. Nothing in Lean hashes anything: it is a label: what it is worth is what the hold of that sum in a sandbox is worth. -/
noncomputable def Try.pinned : Pinned := { name := "ytmcpfjhdeplgmaa", sum := "bb799b43f5ec72b90c9701220101404e8c800e1877dd2e41ad71116eac0cd00e", checked := Try.checked }
namespace Rows
def none {H : Type} : Left H := { results := [], args := [] }

/-- 'doppellaw07.CodeRights': WHATEVER THE INPUT: true; the input reads as it did. -/
def codeRightsSpec : ChangeSpec := { name := "codeRights", fn := fun _ => fun
  | [d1, d2] => { results := [.lit (.bool true)], args := [d1, d2] }
  | _ => none }
def codeRightsRow : OpenClaim := { program := "ytmcpfjhdeplgmaa", sum := "bb799b43f5ec72b90c9701220101404e8c800e1877dd2e41ad71116eac0cd00e", func := "doppel/doppellaw07.CodeRights", spec := "codeRights", unfollowed := true, recurses := true, apart := false }
def CodeRightsSaid : Prop := codeRightsRow.holds Try.pinned (OpenSpec.ofChange codeRightsSpec)

/-- ITS FALSE NEIGHBOUR: 'it returns false'. Refute it at one input. -/
def codeRightsWrong : ChangeSpec := { name := "codeRights", fn := fun _ => fun
  | [d1, d2] => { results := [.lit (.bool false)], args := [d1, d2] }
  | _ => none }
def CodeRightsWrongFalsely : Prop := codeRightsRow.holds Try.pinned (OpenSpec.ofChange codeRightsWrong)

/-- 'doppellaw07.CodeFuel': WHATEVER THE INPUT: true; the input reads as it did. -/
def codeFuelSpec : ChangeSpec := { name := "codeFuel", fn := fun _ => fun
  | [d1, d2, d3, d4] => { results := [.lit (.bool true)], args := [d1, d2, d3, d4] }
  | _ => none }
def codeFuelRow : OpenClaim := { program := "ytmcpfjhdeplgmaa", sum := "bb799b43f5ec72b90c9701220101404e8c800e1877dd2e41ad71116eac0cd00e", func := "doppel/doppellaw07.CodeFuel", spec := "codeFuel", unfollowed := true, recurses := true, apart := false }
def CodeFuelSaid : Prop := codeFuelRow.holds Try.pinned (OpenSpec.ofChange codeFuelSpec)

/-- ITS FALSE NEIGHBOUR: 'it returns false'. Refute it at one input. -/
def codeFuelWrong : ChangeSpec := { name := "codeFuel", fn := fun _ => fun
  | [d1, d2, d3, d4] => { results := [.lit (.bool false)], args := [d1, d2, d3, d4] }
  | _ => none }
def CodeFuelWrongFalsely : Prop := codeFuelRow.holds Try.pinned (OpenSpec.ofChange codeFuelWrong)

/-- 'doppellaw07.CodeOrder': WHATEVER THE INPUT: true; the input reads as it did. -/
def codeOrderSpec : ChangeSpec := { name := "codeOrder", fn := fun _ => fun
  | [d1, d2, d3, d4] => { results := [.lit (.bool true)], args := [d1, d2, d3, d4] }
  | _ => none }
def codeOrderRow : OpenClaim := { program := "ytmcpfjhdeplgmaa", sum := "bb799b43f5ec72b90c9701220101404e8c800e1877dd2e41ad71116eac0cd00e", func := "doppel/doppellaw07.CodeOrder", spec := "codeOrder", unfollowed := true, recurses := true, apart := false }
def CodeOrderSaid : Prop := codeOrderRow.holds Try.pinned (OpenSpec.ofChange codeOrderSpec)

/-- ITS FALSE NEIGHBOUR: 'it returns false'. Refute it at one input. -/
def codeOrderWrong : ChangeSpec := { name := "codeOrder", fn := fun _ => fun
  | [d1, d2, d3, d4] => { results := [.lit (.bool false)], args := [d1, d2, d3, d4] }
  | _ => none }
def CodeOrderWrongFalsely : Prop := codeOrderRow.holds Try.pinned (OpenSpec.ofChange codeOrderWrong)

/-- 'doppellaw07.CodeInput': WHATEVER THE INPUT: true; the input reads as it did. -/
def codeInputSpec : ChangeSpec := { name := "codeInput", fn := fun _ => fun
  | [d1, d2, d3] => { results := [.lit (.bool true)], args := [d1, d2, d3] }
  | _ => none }
def codeInputRow : OpenClaim := { program := "ytmcpfjhdeplgmaa", sum := "bb799b43f5ec72b90c9701220101404e8c800e1877dd2e41ad71116eac0cd00e", func := "doppel/doppellaw07.CodeInput", spec := "codeInput", unfollowed := true, recurses := true, apart := false }
def CodeInputSaid : Prop := codeInputRow.holds Try.pinned (OpenSpec.ofChange codeInputSpec)

/-- ITS FALSE NEIGHBOUR: 'it returns false'. Refute it at one input. -/
def codeInputWrong : ChangeSpec := { name := "codeInput", fn := fun _ => fun
  | [d1, d2, d3] => { results := [.lit (.bool false)], args := [d1, d2, d3] }
  | _ => none }
def CodeInputWrongFalsely : Prop := codeInputRow.holds Try.pinned (OpenSpec.ofChange codeInputWrong)

/- THE SECOND FORM. 'bulk': how many values and letters a reading holds, each counted each time it is reached (what is shared counts as often as it is met; a slice's spare places count too). A statement '..UptoSaid' is the law's where the arguments, and the package variables that the reading takes, are together of bulk at most 1048576: NARROWER than '..Said'. Prove '..Said' where nothing that the law and all that it calls make is longer than what came in: it says more and counts as full. Else prove '..UptoSaid'. A law counts once. -/
mutual
def uptoBulk {H : Type} : DataW H → Nat
  | .lit (.string bytes) => bytes.length + 1
  | .lit _ => 1
  | .nil => 1
  | .ptr d => uptoBulk d + 1
  | .slice elems spare => uptoBulkAll elems + uptoBulkAll spare + 1
  | .agg parts => uptoBulkAll parts + 1
  | .iface _ d => uptoBulk d + 1
  | .map entries => uptoBulkEntries entries + 1
  | .held _ => 1
def uptoBulkAll {H : Type} : List (DataW H) → Nat
  | [] => 0
  | d :: r => uptoBulk d + uptoBulkAll r
def uptoBulkEntries {H : Type} : List (Lit × DataW H) → Nat
  | [] => 0
  | x :: r => uptoBulkEntry x + uptoBulkEntries r
def uptoBulkEntry {H : Type} : Lit × DataW H → Nat
  | (.string bytes, d) => bytes.length + uptoBulk d + 1
  | (_, d) => uptoBulk d + 1
 end
def uptoSmall : (H : Type) → List (DataW H) → Bool := fun _ ds => decide (uptoBulkAll ds ≤ 1048576)
def OpenSpec.upto (s : _root_.Go.ChangeSpec) : _root_.Go.OpenSpec := { _root_.Go.OpenSpec.ofChange s with cond := some uptoSmall }

/-- 'doppellaw07.CodeRights', WHERE WHAT IT READS IS OF BULK AT MOST 1048576: true; the input reads as it did. -/
def codeRightsUptoRow : OpenClaim := { program := "ytmcpfjhdeplgmaa", sum := "bb799b43f5ec72b90c9701220101404e8c800e1877dd2e41ad71116eac0cd00e", func := "doppel/doppellaw07.CodeRights", spec := "codeRights", unfollowed := true, recurses := true, apart := false, narrowed := true }
def CodeRightsUptoSaid : Prop := codeRightsUptoRow.holds Try.pinned (OpenSpec.upto codeRightsSpec)

/-- 'doppellaw07.CodeFuel', WHERE WHAT IT READS IS OF BULK AT MOST 1048576: true; the input reads as it did. -/
def codeFuelUptoRow : OpenClaim := { program := "ytmcpfjhdeplgmaa", sum := "bb799b43f5ec72b90c9701220101404e8c800e1877dd2e41ad71116eac0cd00e", func := "doppel/doppellaw07.CodeFuel", spec := "codeFuel", unfollowed := true, recurses := true, apart := false, narrowed := true }
def CodeFuelUptoSaid : Prop := codeFuelUptoRow.holds Try.pinned (OpenSpec.upto codeFuelSpec)

/-- 'doppellaw07.CodeOrder', WHERE WHAT IT READS IS OF BULK AT MOST 1048576: true; the input reads as it did. -/
def codeOrderUptoRow : OpenClaim := { program := "ytmcpfjhdeplgmaa", sum := "bb799b43f5ec72b90c9701220101404e8c800e1877dd2e41ad71116eac0cd00e", func := "doppel/doppellaw07.CodeOrder", spec := "codeOrder", unfollowed := true, recurses := true, apart := false, narrowed := true }
def CodeOrderUptoSaid : Prop := codeOrderUptoRow.holds Try.pinned (OpenSpec.upto codeOrderSpec)

/-- 'doppellaw07.CodeInput', WHERE WHAT IT READS IS OF BULK AT MOST 1048576: true; the input reads as it did. -/
def codeInputUptoRow : OpenClaim := { program := "ytmcpfjhdeplgmaa", sum := "bb799b43f5ec72b90c9701220101404e8c800e1877dd2e41ad71116eac0cd00e", func := "doppel/doppellaw07.CodeInput", spec := "codeInput", unfollowed := true, recurses := true, apart := false, narrowed := true }
def CodeInputUptoSaid : Prop := codeInputUptoRow.holds Try.pinned (OpenSpec.upto codeInputSpec)

end Rows
end Go.Proofs.Ytmcpfjhdeplgmaa
