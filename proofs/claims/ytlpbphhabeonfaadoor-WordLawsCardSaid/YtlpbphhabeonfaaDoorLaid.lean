/-
  What the listed variable's reading gives the walks: each cell of the table of names.
-/
import Derived.Test.YtlpbphhabeonfaaDoorTie
import Derived.Test.YtlpbphhabeonfaaDoorAwake
import Derived.ProofKit
import Derived.LaidMore
import Derived.OpenShut
import Derived.Stop.Joined
import Derived.FnData
namespace Go.Proofs.YtlpbphhabeonfaaDoor
open Go.ChangeShapes Go.WideShapes Go.ChangeAt Go.RowKit

theorem own : ownKnob Tryd.prog.godebug = none := by kernel_rfl
def namesL : List (List UInt8) := [[], [97, 100, 100], [115, 117, 98], [109, 117, 108], [100, 105, 118], [114, 101, 109], [100, 105, 118, 117], [114, 101, 109, 117], [97, 110, 100], [111, 114], [120, 111, 114], [115, 104, 108], [115, 104, 114], [115, 104, 114, 117], [101, 113], [110, 101], [108, 116], [108, 101], [108, 116, 117], [108, 101, 117], [110, 101, 103], [110, 111, 116], [108, 111, 119], [122, 101, 114, 111]]
abbrev seatLaid : List (String × DataW Unit) := [("doppel/word.names", Rows.laid_doppel_word_names)]
theorem door_met (os : Os) (args : Array Value) : laidMetH Tryd.prog seatLaid ((World.doorLaid Tryd.prog 4000 os).forCall (fun _ _ => 0) ⟨#[], args, []⟩).memory :=
  laidMetH_of_parts3 (fuel := 8) (laidMet_of_run' 8 (by kernel_rfl) (by kernel_rfl)) (by kernel_rfl) (by kernel_rfl)

/-- A listed array of strings: cell by cell. Of whatever program. -/
theorem strs_of_laid {P : Program} {W : World} {name : String} {g : Nat} {t e : TypeId} {n : Nat} {D : List (List UInt8)}
    (h : laidMetH P [(name, .agg (D.map fun s => .lit (.string s)))] W)
    (hg : P.globalNamed name = some g) (ht : (P.globals[g]?).map (·.type) = some t) (hu : P.underlying t = some (.array n e)) (he : P.underlying e = some .string) (hc : P.cellsOf e = 1) (hct : P.cellsOf t = n) (hD : D.length = n) :
    ∀ i, i < n → ∃ s : ByteArray, W.cell? ⟨g, i, none⟩ = some (.string s) ∧ s.data.toList = D.getD i [] := by
  rw [MakeChecks.laidMetH_plain _ _ _ (by rfl)] at h
  obtain ⟨ps, ⟨g0, t0, cs0, f0, p0, q0, hg0, ht0, hv0, hd0, _, _⟩, _, _⟩ := h
  obtain rfl := Option.some.inj (hg.symm.trans hg0)
  obtain rfl := Option.some.inj (ht.symm.trans ht0)
  obtain ⟨xs, m, rfl, hx, hlen, hn, hel⟩ := DataW.trod_array hu hd0
  intro i hi
  have h1 := hel i hi
  rw [hc, hct] at *
  have hxs : xs[i]? = some xs[i] := by simp
  rw [hxs, Nat.mul_one] at h1
  obtain ⟨s, hcs, hys, _⟩ := DataW.trod_string he h1
  refine ⟨s, ?_, ?_⟩
  · rw [World.var?_cell hg0 hv0 i]
    have h2 := congrArg (fun l => l[0]?) hcs
    simp only [List.getElem?_take, List.getElem?_drop] at h2
    simpa using h2
  · simp only [Prod.mk.injEq, DataW.agg.injEq] at hx
    have h2 := congrArg (fun l => l[i]?) hx.1
    have hD2 : D[i]? = some D[i] := by simp
    simp [hxs, hys, hD2] at h2
    simp [hD2, h2]
theorem names_at {W : World} (h : laidMetH Tryd.prog seatLaid W) :
    ∀ i, i < 24 → ∃ s : ByteArray, W.cell? ⟨0, i, none⟩ = some (.string s) ∧ s.data.toList = namesL.getD i [] :=
  strs_of_laid (D := namesL) h (by kernel_rfl) (by kernel_rfl) Tryd.underlying45 Tryd.underlying9 (by kernel_rfl) (by kernel_rfl) (by rfl)
theorem shru_at {W : World} (h : laidMetH Tryd.prog seatLaid W) : W.cell? ⟨0, 13, none⟩ = some (.string shruS) := by
  obtain ⟨s, hc, hs⟩ := names_at h 13 (by omega)
  have : s = shruS := by
    apply ByteArray.ext; apply Array.toList_inj.1; rw [hs]; rfl
  rw [hc, this]
end Go.Proofs.YtlpbphhabeonfaaDoor
