/-
  The walk of LexScans.
-/
import Derived.Test.YtbafkkifdfmldaaDoorRefScan
import Derived.Test.YtbafkkifdfmldaaDoorSame
namespace Go.Proofs.YtbafkkifdfmldaaDoor.lexScans
open Go.RowKit Sp
set_option linter.unusedVariables false

set_option maxHeartbeats 4000000 in
set_option maxRecDepth 100000 in
theorem walk (a0 : ByteArray) (_w0 : a0.size ≤ maxLen) (w : World) (henv : Env w) :
    Calls Tryd.prog 3 #[.string a0] w fun e w' => e = .returned (.bool true) ∧ Below w.heap.size w w' := by
  have HM := Lib.hid _w0
  unfold maxLen at _w0
  have HE := Lib.hid henv; clear henv
  by_cases hl : 4000 < a0.size ∧ a0.size ≤ 32768
  · obtain ⟨h1, h2⟩ := hl
    go_enter Tryd.func3, Tryd.ntmps3
    go_wp2_with ((with_reducible refine (awake_any _ HE.out).mono ?_); rintro e w1 ⟨rfl, hb⟩)
    go_ret
    exact ⟨rfl, hb⟩
  · have hd1 : (decide ((4000 : Int) < (a0.size : Int)) && decide ((a0.size : Int) ≤ 32768)) = false := by simp; omega
    have hn : a0.size ≤ 4000 ∨ 32768 < a0.size := by omega
    cases hsc : Sp.scan a0.data.toList with
    | error x =>
      obtain ⟨p, x⟩ := x
      have HSC := Lib.hid hsc
      clear hsc hl
      rcases hn with hn | hn
      all_goals
        go_enter Tryd.func3, Tryd.ntmps3
        go_wp2_with (first | ((with_reducible refine (scan_err _ p x _ HE.out HM.out HSC.out).mono ?_); rintro e w1 ⟨rfl, hb⟩; have HB := Lib.hid hb; have HE1 : Hid (Env w1) := Lib.hid (HE.out.below hb HE.out.sz); clear hb) | ((with_reducible refine (r_scan_err _ p x _ HM.out HSC.out).mono ?_); rintro e w2 ⟨rfl, hb2⟩; have HB2 := Lib.hid (HB.out.trans (hb2.mono HB.out.size)); have HE2 : Hid (Env w2) := Lib.hid (HE1.out.below hb2 HE1.out.sz); clear hb2) | ((with_reducible refine (same_nil _).mono ?_); rintro e w3 ⟨rfl, hb3⟩; have HB3 := Lib.hid (HB2.out.trans (hb3.mono HB2.out.size)); have HE3 : Hid (Env w3) := Lib.hid (HE2.out.below hb3 HE2.out.sz); clear hb3) | ((with_reducible refine (awake_any _ HE3.out).mono ?_); rintro e w4 ⟨rfl, hb4⟩))
        go_ret
        exact ⟨rfl, HB3.out.trans (hb4.mono HB3.out.size)⟩
    | ok ts =>
      have HSC := Lib.hid hsc
      have hts : ts.length ≤ 8193 := scan_few hsc
      have hs4 : a0.size ≤ 4000 := by
        rcases hn with h | h
        · exact h
        · exfalso
          unfold Sp.scan at hsc
          rw [if_pos (by simpa using h)] at hsc
          injection hsc
      clear hsc hl hn
      go_enter Tryd.func3, Tryd.ntmps3
      go_wp2_with (first | ((with_reducible refine (scan_ok _ ts _ HE.out HM.out HSC.out).mono ?_); rintro e w1 ⟨g, cap, rfl, ht, hb⟩; have HT := Lib.hid ht; have HB := Lib.hid hb; have HE1 : Hid (Env w1) := Lib.hid (HE.out.below hb HE.out.sz); clear ht hb) | ((with_reducible refine (r_scan_ok _ ts _ HM.out HSC.out).mono ?_); rintro e w2 ⟨g2, cap2, rfl, ht2, hb2⟩; have HT2 := Lib.hid ht2; have HT1 := Lib.hid (HT.out.below hb2 (Nat.le_refl _)); have HB2 := Lib.hid (HB.out.trans (hb2.mono HB.out.size)); have HE2 : Hid (Env w2) := Lib.hid (HE1.out.below hb2 HE1.out.sz); clear ht2 hb2) | ((with_reducible refine (same_true g cap _ g2 cap2 _ ts _ ts.length ts.length HT1.out HT2.out hts rfl rfl).mono ?_); rintro e w3 ⟨rfl, hb3⟩; have HB3 := Lib.hid (HB2.out.trans (hb3.mono HB2.out.size)); have HE3 : Hid (Env w3) := Lib.hid (HE2.out.below hb3 HE2.out.sz); clear hb3) | ((with_reducible refine (awake_any _ HE3.out).mono ?_); rintro e w4 ⟨rfl, hb4⟩))
      go_ret
      exact ⟨rfl, HB3.out.trans (hb4.mono HB3.out.size)⟩
end Go.Proofs.YtbafkkifdfmldaaDoor.lexScans
