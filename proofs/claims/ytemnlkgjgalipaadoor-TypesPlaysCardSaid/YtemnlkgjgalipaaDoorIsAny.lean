/-
  The law's is tells true of both tables, of any number and name.
-/
import Derived.Test.YtemnlkgjgalipaaDoorIsLow
import Derived.Test.YtemnlkgjgalipaaDoorIsMid
import Derived.Test.YtemnlkgjgalipaaDoorIsUp
namespace Go.Proofs.YtemnlkgjgalipaaDoor
open Go.RowKit Go.Maps Tp Go.Sort
set_option linter.unusedVariables false

theorem is_any {w : World} {B t : Nat} {v : Value} {T : Tab} {Y : List ((List UInt8 × List Fl) × Value)} {la da : Option Addr} {lc dc : Nat} (h : Both w B t v T Y la lc da dc) (hY : Y.length ≤ 900) (henv : Env w) (n : Int) (nm : List UInt8) (hnm : nm.length ≤ 100) :
    Calls Tryd.prog 14 #[.pointer (some ⟨t, 0, none⟩), .agg #[.slice la T.length lc, .slice da Y.length dc], .int .i64 n, .string (bs nm)] w fun e w' => e = .returned (.bool true) ∧ Below w.heap.size w w' := by
  cases hn : ent T n with
  | none => exact is_out h hY henv n nm hnm hn
  | some e =>
    obtain ⟨i, rfl, _, hi⟩ := ent_some hn
    by_cases h1 : e.self.kind < 1
    · exact is_inLow h hY henv i e hi nm hnm h1
    · by_cases h4 : e.self.kind ≤ 4
      · exact is_inMid h hY henv i e hi nm hnm ⟨by omega, h4⟩
      · exact is_inUp h hY henv i e hi nm hnm (by omega)
end Go.Proofs.YtemnlkgjgalipaaDoor
