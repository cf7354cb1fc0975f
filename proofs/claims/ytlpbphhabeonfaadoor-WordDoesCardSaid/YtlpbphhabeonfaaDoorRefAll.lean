/-
  doppelref01's Do tells what word's Do tells, at every operation; but for draws the world stays as it was.
-/
import Derived.Test.YtlpbphhabeonfaaDoorRefDoA
import Derived.Test.YtlpbphhabeonfaaDoorRefDoB
import Derived.Test.YtlpbphhabeonfaaDoorRefDoC
import Derived.Test.YtlpbphhabeonfaaDoorRefDoD
namespace Go.Proofs.YtlpbphhabeonfaaDoor
open Go.RowKit (wrap32 wrap64 intOf)
theorem refDo_any (op x y : Int) (w : World) :
    Calls Tryd.prog 12 #[.int .i64 op, .int .i64 x, .int .i64 y] w fun e w' => e = .returned (.tuple #[.int .i64 (doV op x y), .bool (doB op y)]) ∧ ∃ n, w' = w.drewN n := by
  have up : ∀ {v : Value}, Calls Tryd.prog 12 #[.int .i64 op, .int .i64 x, .int .i64 y] w (fun e w' => e = .returned v ∧ w = w') →
      Calls Tryd.prog 12 #[.int .i64 op, .int .i64 x, .int .i64 y] w (fun e w' => e = .returned v ∧ ∃ n, w' = w.drewN n) :=
    fun h => h.mono fun _ _ ⟨he, hw⟩ => ⟨he, 0, hw.symm⟩
  by_cases h1 : op < 1 ∨ 23 < op
  · have hB : doB op y = false := by unfold doB; simp; omega
    rw [doV, if_pos hB, hB]; exact up (refDo_none op x y w h1)
  · by_cases h2 : (4 ≤ op ∧ op ≤ 7) ∧ wrap32 y = 0
    · have hB : doB op y = false := by unfold doB; simp; omega
      rw [doV, if_pos hB, hB]
      rcases (by omega : op = 4 ∨ op = 5 ∨ op = 6 ∨ op = 7) with rfl | rfl | rfl | rfl
      · exact up (refDo_4z x y w h2.2)
      · exact up (refDo_5z x y w h2.2)
      · exact up (refDo_6z x y w h2.2)
      · exact up (refDo_7z x y w h2.2)
    · have hB : doB op y = true := by unfold doB; simp; omega
      rw [hB]
      rcases (by omega : op = 1 ∨ op = 2 ∨ op = 3 ∨ op = 4 ∨ op = 5 ∨ op = 6 ∨ op = 7 ∨ op = 8 ∨ op = 9 ∨ op = 10 ∨ op = 11 ∨ op = 12 ∨ op = 13 ∨ op = 14 ∨ op = 15 ∨ op = 16 ∨ op = 17 ∨ op = 18 ∨ op = 19 ∨ op = 20 ∨ op = 21 ∨ op = 22 ∨ op = 23) with rfl | rfl | rfl | rfl | rfl | rfl | rfl | rfl | rfl | rfl | rfl | rfl | rfl | rfl | rfl | rfl | rfl | rfl | rfl | rfl | rfl | rfl | rfl
      · exact up (refDo_1 x y w)
      · exact up (refDo_2 x y w)
      · exact up (refDo_3 x y w)
      · exact up (refDo_4 x y w (by omega))
      · exact up (refDo_5 x y w (by omega))
      · exact up (refDo_6 x y w (by omega))
      · exact refDo_7 x y w (by omega)
      · exact up (refDo_8 x y w)
      · exact up (refDo_9 x y w)
      · exact up (refDo_10 x y w)
      · exact up (refDo_11 x y w)
      · exact up (refDo_12 x y w)
      · exact up (refDo_13 x y w)
      · exact up (refDo_14 x y w)
      · exact up (refDo_15 x y w)
      · exact up (refDo_16 x y w)
      · exact up (refDo_17 x y w)
      · exact up (refDo_18 x y w)
      · exact up (refDo_19 x y w)
      · exact up (refDo_20 x y w)
      · exact up (refDo_21 x y w)
      · exact up (refDo_22 x y w)
      · exact up (refDo_23 x y w)
end Go.Proofs.YtlpbphhabeonfaaDoor
