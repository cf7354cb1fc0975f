/-
  Contract of doppelref07's right, at whatever instruction.
-/
import Derived.Test.YtpajndeongcjbaaR7RightB
import Derived.Test.YtpajndeongcjbaaR7RightC
import Derived.Test.YtpajndeongcjbaaR7RightD
import Derived.Test.YtpajndeongcjbaaR7RightE
import Derived.Test.YtpajndeongcjbaaR7RightG
import Derived.Test.YtpajndeongcjbaaR7RightH
namespace Go.Proofs.Ytpajndeongcjbaa
open Go.RowKit Cd
theorem right_any (i : Ins) (r : FnR) (hreg : 0 ≤ r.f.regs) (w : World) :
    Calls Try.prog 55 #[inV i, fnV r] w (RPost (.bool (rightI i r.f.regs r.f.frame r.f.code.length)) w) := by
  by_cases h : i.kind < 1 ∨ 13 < i.kind
  · exact right_low i r w h
  · obtain ⟨kind, op, dst, a, b, n, text, x0, x1, x2, x3, x4, x5, dest, els⟩ := i
    simp only at h
    rcases (by omega : kind = 1 ∨ kind = 2 ∨ kind = 3 ∨ kind = 4 ∨ kind = 5 ∨ kind = 6 ∨ kind = 7 ∨ kind = 8 ∨ kind = 9 ∨ kind = 10 ∨ kind = 11 ∨ kind = 12 ∨ kind = 13) with rfl | rfl | rfl | rfl | rfl | rfl | rfl | rfl | rfl | rfl | rfl | rfl | rfl
    · exact right_1 _ _ _ _ _ _ _ _ _ _ _ _ _ _ r hreg w
    · exact right_2 _ _ _ _ _ _ _ _ _ _ _ _ _ _ r hreg w
    · exact right_3 _ _ _ _ _ _ _ _ _ _ _ _ _ _ r hreg w
    · exact right_4 _ _ _ _ _ _ _ _ _ _ _ _ _ _ r hreg w
    · exact right_5 _ _ _ _ _ _ _ _ _ _ _ _ _ _ r hreg w
    · exact right_6 _ _ _ _ _ _ _ _ _ _ _ _ _ _ r hreg w
    · exact right_7 _ _ _ _ _ _ _ _ _ _ _ _ _ _ r hreg w
    · by_cases z0 : dst = -1
      · subst z0; exact right_8a _ _ _ _ _ _ _ _ _ _ _ _ _ r hreg w
      · by_cases z1 : 0 ≤ dst ∧ dst < r.f.regs
        · exact right_8b _ _ _ _ _ _ _ _ _ _ _ _ _ _ r hreg z1.1 z1.2 w
        · exact right_8c _ _ _ _ _ _ _ _ _ _ _ _ _ _ r hreg z0 z1 w
    · exact right_9 _ _ _ _ _ _ _ _ _ _ _ _ _ _ r hreg w
    · exact right_10 _ _ _ _ _ _ _ _ _ _ _ _ _ _ r hreg w
    · exact right_11 _ _ _ _ _ _ _ _ _ _ _ _ _ _ r hreg w
    · exact right_12 _ _ _ _ _ _ _ _ _ _ _ _ _ _ r hreg w
    · exact right_13 _ _ _ _ _ _ _ _ _ _ _ _ _ _ r hreg w
end Go.Proofs.Ytpajndeongcjbaa
