/-
  Contracts of word.Name at one operation, and of the statements' own 'awake'.
-/
import Derived.Test.YtlpbphhabeonfaaDoorDo
namespace Go.Proofs.YtlpbphhabeonfaaDoor
open Go.RowKit (wrap32 wrap64)

theorem cell_alloc {w : World} {a : Addr} {v : Value} (h : w.cell? a = some v) (o : Obj) : (w.alloc o).cell? a = some v :=
  (World.cell?_alloc_lt _ _ _ (World.block_lt_of_cell? _ _ h)).trans h
def shruS : ByteArray := ⟨#[115, 104, 114, 117]⟩
theorem name_shru (w : World) (hc : w.cell? ⟨0, 13, none⟩ = some (.string shruS)) :
    Calls Tryd.prog 24 #[.int .i64 13] w fun e w' => e = .returned (.string shruS) ∧ w = w' := by
  have h1 : oneB 13 = false := by decide +kernel
  have h2 : twoB 13 = true := by decide +kernel
  go_enter Tryd.func24, Tryd.ntmps24
  go_wp2_with (first | ((with_reducible refine (two_any _ _).mono ?_); rintro e w' ⟨rfl, rfl⟩) | ((with_reducible refine (one_any _ _).mono ?_); rintro e w' ⟨rfl, rfl⟩))
  go_ret
  exact ⟨rfl, rfl⟩
theorem awake_any (w : World) (hc : w.cell? ⟨0, 13, none⟩ = some (.string shruS)) :
    Calls Tryd.prog 14 #[] w fun e w' => e = .returned (.bool true) ∧ w = w' := by
  have e1 : doV 1 2147483647 1 = -2147483648 := by decide +kernel
  have e2 : doV 5 (-7) 2 = -1 := by decide +kernel
  have b1 : doB 1 1 = true := by decide +kernel
  have b2 : doB 5 2 = true := by decide +kernel
  have b3 : doB 6 0 = false := by decide +kernel
  have es : (shruS.toList == [115, 104, 114, 117]) = true := by decide +kernel
  go_enter Tryd.func14, Tryd.ntmps14
  go_wp2_with (first | ((with_reducible refine (do_any _ _ _ _).mono ?_); rintro e w' ⟨rfl, rfl⟩) | ((with_reducible refine (name_shru _ (by assumption)).mono ?_); rintro e w' ⟨rfl, rfl⟩))
  go_ret
  exact ⟨rfl, rfl⟩
end Go.Proofs.YtlpbphhabeonfaaDoor
