/-
  What the listed table of the library's TrailingZeros64 gives the walk of LexNumbers.
-/
import Derived.Test.YtbafkkifdfmldaaDoorLaid
import Derived.Test.YtbafkkifdfmldaaDoorHex
namespace Go.Proofs.YtbafkkifdfmldaaDoor
open Go.ChangeShapes Go.WideShapes Go.ChangeAt Go.RowKit Sp

def zs64 : List Int := [0, 1, 56, 2, 57, 49, 28, 3, 61, 58, 42, 50, 38, 29, 17, 4, 62, 47, 59, 36, 45, 43, 51, 22, 53, 39, 33, 30, 24, 18, 12, 5, 63, 55, 48, 27, 60, 41, 37, 16, 46, 35, 44, 21, 52, 32, 23, 11, 54, 26, 40, 15, 34, 20, 31, 10, 25, 14, 19, 9, 13, 8, 7, 6]
theorem tab_of_laid {W : World} (hL : laidMetH Tryd.prog seatLaid W) : Tab4 W := by
  rw [MakeChecks.laidMetH_plain _ _ _ (by kernel_rfl)] at hL
  have hP := Lib.tabIs_of_head (zs := zs64) (k := .u8) (g := 4) (by kernel_rfl) (by kernel_rfl) Tryd.underlying86 Tryd.underlying5 (by kernel_rfl) (by kernel_rfl) hL.tail
  unfold Tab4
  have := World.var?_cell (P := Tryd.prog) (g := 4) (by kernel_rfl) hP 15
  rw [this]
  rfl
end Go.Proofs.YtbafkkifdfmldaaDoor
