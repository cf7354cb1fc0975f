/-
  GraphEdges, where the function is not right.
-/
import Derived.Test.YtaccaeelembboaaQGraphEdges
namespace Go.Proofs.Ytaccaeelembboaa
open Go.RowKit Cd Go.Maps
set_option linter.unusedVariables false
set_option linter.unusedSimpArgs false
set_option maxRecDepth 100000 in
set_option maxHeartbeats 16000000 in
theorem edges_no (r : FnR) (W : World) (h : FnOk W r) (hf : few9 r.f = true) (hr : rightF r.f = false) : Calls Try.prog 3 #[fnV r] W (RPost (.bool true) W) := by
  have HOK : Hid (∀ V, Below W.heap.size W V → FnOk V r) := Lib.hid (fun V hb => h.below hb)
  have HF := Lib.hid hf; have HR := Lib.hid hr
  have HB0 := Lib.hid (bx1_below W r)
  have HU0 := Lib.hid (heap_alloc_new W (fnO r))
  clear h hf hr
  obtain ⟨x0, x1, x2, x3, x4⟩ := nv5 HU0.out
  go_enter Try.func3, Try.ntmps3
  go_upto_region 3 with ((with_reducible refine (few_c r _ (HOK.out _ HB0.out) true HF.out).mono ?_); rintro e w1 ⟨rfl, hb1⟩; have HU1 := Lib.hid ((hb1.block W.heap.size (by simp)).trans HU0.out); have HB1 := Lib.hid (HB0.out.trans (hb1.mono HB0.out.size)); clear hb1 x0 x1 x2 x3 x4; obtain ⟨x0, x1, x2, x3, x4⟩ := nv5 HU1.out)
  go_cut [3, 4, 5] from 3 to 16 (fun s3 s4 s5 wx => ∃ ba bc ra rc oa oc, s3 = .slice ba 0 bc ∧ s4 = .slice ra 0 rc ∧ s5 = .slice oa 0 oc ∧ Hid (Below W.heap.size W wx) ∧ Hid (wx.heap[W.heap.size]? = some (fnO r)))
  case first =>
    go_region_with (first | ((with_reducible refine (before_no r _ (HOK.out _ (drW HB1.out)) HR.out).mono ?_); rintro e w2 ⟨ba, bc, rfl, hb2⟩; have HU2 := Lib.hid ((hb2.block W.heap.size (lt_heap HU1.out)).trans HU1.out); have HB2 := Lib.hid ((drW HB1.out).trans (hb2.mono HB1.out.size)); clear hb2 x0 x1 x2 x3 x4; obtain ⟨x0, x1, x2, x3, x4⟩ := nv5 HU2.out) | ((with_reducible refine (reached_no r _ (HOK.out _ HB2.out) HR.out).mono ?_); rintro e w3 ⟨ra, rc, rfl, hb3⟩; have HU3 := Lib.hid ((hb3.block W.heap.size (lt_heap HU2.out)).trans HU2.out); have HB3 := Lib.hid (HB2.out.trans (hb3.mono HB2.out.size)); clear hb3 x0 x1 x2 x3 x4; obtain ⟨x0, x1, x2, x3, x4⟩ := nv5 HU3.out) | ((with_reducible refine (order_no r _ (HOK.out _ HB3.out) HR.out).mono ?_); rintro e w4 ⟨oa, oc, rfl, _, hb4⟩; have HU4 := Lib.hid ((hb4.block W.heap.size (lt_heap HU3.out)).trans HU3.out); have HB4 := Lib.hid (HB3.out.trans (hb4.mono HB3.out.size)); clear hb4 x0 x1 x2 x3 x4; obtain ⟨x0, x1, x2, x3, x4⟩ := nv5 HU4.out))
    all_goals (go_wp2; go_meet; case rel => exact ⟨_, _, _, _, _, _, rfl, rfl, rfl, HB4, HU4⟩)
  case rest =>
    obtain ⟨ba, bc, ra, rc, oa, oc, rfl, rfl, rfl, HB4, HU4⟩ := hcut
    clear x0 x1 x2 x3 x4
    obtain ⟨x0, x1, x2, x3, x4⟩ := nv5 HU4.out
    go_wp2_with (first | ((with_reducible refine (rightc_l r _ (HOK.out _ HB4.out) false HR.out).mono ?_); rintro e w5 ⟨rfl, hb5⟩; have HB5 := Lib.hid (HB4.out.trans (hb5.mono HB4.out.size)); clear hb5) | ((with_reducible refine (awake9_any _).mono ?_); rintro e w6 ⟨rfl, hb6⟩; have HB6 := Lib.hid (HB5.out.trans (hb6.mono HB5.out.size)); clear hb6))
    go_ret
    exact ⟨rfl, HB6.out⟩
end Go.Proofs.Ytaccaeelembboaa
