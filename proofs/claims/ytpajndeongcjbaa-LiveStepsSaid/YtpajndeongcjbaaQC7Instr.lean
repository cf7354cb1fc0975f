/-
  Layer 7: what instruction needs of any instruction.
-/
import Derived.Test.YtpajndeongcjbaaQLD
import Derived.Test.YtpajndeongcjbaaQLE
import Derived.Test.YtpajndeongcjbaaQC7I8a
import Derived.Test.YtpajndeongcjbaaQC7I8b
import Derived.Test.YtpajndeongcjbaaQLF
namespace Go.Proofs.Ytpajndeongcjbaa
open Go.RowKit Cd
set_option linter.unusedVariables false

theorem instr_any (i : Ins) (r : FnR) (hr0 : 0 ≤ r.f.regs) (hr1 : r.f.regs ≤ 4096) (hlen : r.f.code.length ≤ 1000000) (z cb co : Nat) (R : Bool) (w : World) (hz : w.heap[z]? = some (bxB R)) (hi : ∀ (j : Nat) (u : Value), (inCells i)[j]? = some u → w.cell? ⟨cb, co + j, none⟩ = some u) (hcb : cb < w.heap.size) (hne : z ≠ cb) :
    Calls Try.prog 95 #[fnV r, .pointer (some ⟨cb, co, none⟩), needV z] w (InPost z (R && rightI i r.f.regs r.f.frame r.f.code.length) w) := by
  obtain ⟨k, op, dst, a, b, n, text, x0, x1, x2, x3, x4, x5, dest, els⟩ := i
  by_cases hk : k < 1 ∨ 13 < k
  · exact instr_low k op dst a b n text x0 x1 x2 x3 x4 x5 dest els hk r z cb co R w hz hi hcb hne
  · rcases (by omega : k = 1 ∨ k = 2 ∨ k = 3 ∨ k = 4 ∨ k = 5 ∨ k = 6 ∨ k = 7 ∨ k = 8 ∨ k = 9 ∨ k = 10 ∨ k = 11 ∨ k = 12 ∨ k = 13) with rfl | rfl | rfl | rfl | rfl | rfl | rfl | rfl | rfl | rfl | rfl | rfl | rfl
    · exact instr_1 op dst a b n text x0 x1 x2 x3 x4 x5 dest els r hr0 hr1 hlen z cb co R w hz hi hcb hne
    · exact instr_2 op dst a b n text x0 x1 x2 x3 x4 x5 dest els r hr0 hr1 hlen z cb co R w hz hi hcb hne
    · exact instr_3 op dst a b n text x0 x1 x2 x3 x4 x5 dest els r hr0 hr1 hlen z cb co R w hz hi hcb hne
    · exact instr_4 op dst a b n text x0 x1 x2 x3 x4 x5 dest els r hr0 hr1 hlen z cb co R w hz hi hcb hne
    · exact instr_5 op dst a b n text x0 x1 x2 x3 x4 x5 dest els r hr0 hr1 hlen z cb co R w hz hi hcb hne
    · exact instr_6 op dst a b n text x0 x1 x2 x3 x4 x5 dest els r hr0 hr1 hlen z cb co R w hz hi hcb hne
    · exact instr_7 op dst a b n text x0 x1 x2 x3 x4 x5 dest els r hr0 hr1 hlen z cb co R w hz hi hcb hne
    · by_cases hd : dst = -1
      · subst hd
        exact instr_8a op a b n text x0 x1 x2 x3 x4 x5 dest els r hr0 hr1 z cb co R w hz hi hcb hne
      · exact instr_8b op dst a b n text x0 x1 x2 x3 x4 x5 dest els r hr0 hr1 hd z cb co R w hz hi hcb hne
    · exact instr_9 op dst a b n text x0 x1 x2 x3 x4 x5 dest els r hr0 hr1 hlen z cb co R w hz hi hcb hne
    · exact instr_10 op dst a b n text x0 x1 x2 x3 x4 x5 dest els r hr0 hr1 hlen z cb co R w hz hi hcb hne
    · exact instr_11 op dst a b n text x0 x1 x2 x3 x4 x5 dest els r hr0 hr1 hlen z cb co R w hz hi hcb hne
    · exact instr_12 op dst a b n text x0 x1 x2 x3 x4 x5 dest els r hr0 hr1 hlen z cb co R w hz hi hcb hne
    · exact instr_13 op dst a b n text x0 x1 x2 x3 x4 x5 dest els r hr0 hr1 hlen z cb co R w hz hi hcb hne
end Go.Proofs.Ytpajndeongcjbaa
