/-
  Contract of doppelref09's Without.
-/
import Derived.Test.YtgnpbodhjmappaaPNB
import Derived.Test.YtgnpbodhjmappaaPND
import Derived.Test.YtgnpbodhjmappaaPNA
import Derived.Test.YtgnpbodhjmappaaPLast
set_option linter.unusedVariables false
set_option linter.unusedSimpArgs false
namespace Go.Proofs.Ytgnpbodhjmappaa
set_option maxRecDepth 100000
open Go.RowKit Cd
theorem drW {B : Nat} {a w : World} (h : Below B a w) : Below B a w.drew := ⟨h.os, h.tape, h.output, h.size, h.block⟩
theorem region_lastS {P : Program} {ops : Array Oper} {Q : Exit → Act → World → Prop} {id : Nat} {a : Act} {w : World} (S : World → Prop) (m : Nat) (hm : P.follows .mixedOrders = true) (hS : S w.drew)
    (h : S w.drew → anyL P .any ops Q S m ops.size (Array.replicate ops.size false) a w.drew) : (Code.region id ops true).wp P Q a w := region_last S m hm (h hS)
theorem nexts_len (i : Ins) (p : Int) : (next i p).length ≤ 2 := by
  unfold next; split
  · simp
  · split
    · simp
    · split <;> simp
end Go.Proofs.Ytgnpbodhjmappaa
namespace Go.Proofs.Ytgnpbodhjmappaa.Cd

theorem zero_inside {c : List Ins} (h : 0 < c.length) : Inside c 0 := ⟨Int.le_refl _, by omega⟩
end Go.Proofs.Ytgnpbodhjmappaa.Cd
