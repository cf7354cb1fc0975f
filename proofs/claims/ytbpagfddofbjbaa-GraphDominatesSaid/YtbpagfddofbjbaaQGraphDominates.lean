/-
  GraphDominates: what dominates what, and next above, is the document's.
-/
import Derived.Test.YtbpagfddofbjbaaQG9AboveC
import Derived.Test.YtbpagfddofbjbaaQG9J
namespace Go.Proofs.Ytbpagfddofbjbaa
set_option maxRecDepth 100000
open Go.RowKit Cd Go.Maps
set_option linter.unusedVariables false
set_option linter.unusedSimpArgs false

def Cd.aboveL (c : List Ins) : List Int := (List.range c.length).map (fun x : Nat => aboveN c (x : Int))
theorem aboveL_len (c : List Ins) : (aboveL c).length = c.length := by simp [aboveL]
theorem aboveL_at {c : List Ins} {k : Nat} (hk : k < c.length) : (aboveL c)[k]? = some (aboveN c (k : Int)) := by
  unfold aboveL
  rw [List.getElem?_map, List.getElem?_range hk]; rfl
theorem above_is (r : FnR) (w : World) (h : FnOk w r) (hr : RightF r.f) (n : Nat) (hn : r.f.code.length = n) : Calls Try.prog 25 #[fnV r] w (fun e w' => ∃ b, e = .returned (.slice (some ⟨b, 0, none⟩) n n) ∧ IRow w' b (aboveL r.f.code) ∧ Below w.heap.size w w') := by
  refine (above_g r w h _ (followG_is hr)).mono ?_
  rintro e w' ⟨s, h1, b, rfl, h2, h3⟩
  rw [nextG_len] at h2
  refine ⟨b, by rw [nextG_len, hn], ?_, h3⟩
  have e1 := (h1.fin hr.code.1 (closed_of hr)).ups (closed_of hr) hr.code.1
  unfold aboveL
  rw [← e1]
  exact h2
theorem above_no (r : FnR) (w : World) (h : FnOk w r) (hr : rightF r.f = false) : Calls Try.prog 25 #[fnV r] w (fun e w' => ∃ a c, e = .returned (.slice a 0 c) ∧ Below w.heap.size w w') := by
  refine (above_g r w h _ (followG_not hr)).mono ?_
  rintro e w' ⟨s, h1, b, rfl, h2, h3⟩
  exact ⟨_, _, rfl, h3⟩
theorem doms_no (r : FnR) (a b : Int) (w : World) (h : FnOk w r) (hr : rightF r.f = false) : Calls Try.prog 26 #[fnV r, .int .i64 a, .int .i64 b] w (RPost (.bool false) w) :=
  dominates_g r a b w h [] (followG_not hr) false (domR_nil a b)
theorem doms_is (r : FnR) (a b : Int) (w : World) (h : FnOk w r) (hr : RightF r.f) (m : Bool) (hm : domB r.f.code a b = m) : Calls Try.prog 26 #[fnV r, .int .i64 a, .int .i64 b] w (RPost (.bool m) w) :=
  dominates_g r a b w h _ (followG_is hr) m ((domR_domB (closed_of hr) hr.code.1 a b).trans hm)
theorem refdom_is (r : FnR) (a b : Int) (w : World) (h : FnOk w r) (hr : RightF r.f) (m : Bool) (hm : domB r.f.code a b = m) : Calls Try.prog 27 #[fnV r, .int .i64 a, .int .i64 b] w (RPost (.bool m) w) :=
  dom_v r a b m w.heap.size w h.code hr (Nat.le_refl _) hm
theorem refabove_is (r : FnR) (n : Int) (w : World) (h : FnOk w r) (hr : RightF r.f) (x : Int) (hx : aboveN r.f.code n = x) : Calls Try.prog 28 #[fnV r, .int .i64 n] w (RPost (.int .i64 x) w) := by
  subst hx
  exact aboveW r n w.heap.size w h.code hr (Nat.le_refl _)
set_option maxHeartbeats 8000000 in
theorem doms_few (r : FnR) (a b : Int) (W : World) (h : FnOk W r) (hf : few9 r.f = false) : Calls Try.prog 4 #[fnV r, .int .i64 a, .int .i64 b] W (RPost (.bool true) W) := by
  have H := Lib.hid (h.below (bx1_below W r)); have HF := Lib.hid hf
  clear h hf
  obtain ⟨x0, x1, x2, x3, x4⟩ := nv5 (heap_alloc_new W (fnO r))
  go_enter Try.func4, Try.ntmps4
  go_wp2_with (first | ((with_reducible refine (few_c r _ H.out false HF.out).mono ?_); rintro e w1 ⟨rfl, hb1⟩; have HB1 := Lib.hid ((bx1_below W r).trans (hb1.mono (by simp))); clear hb1) | ((with_reducible refine (awake9_any _).mono ?_); rintro e w2 ⟨rfl, hb2⟩; have HB2 := Lib.hid (HB1.out.trans (hb2.mono HB1.out.size)); clear hb2))
  go_ret
  exact ⟨rfl, HB2.out⟩
set_option maxHeartbeats 16000000 in
theorem domsL_no (r : FnR) (a b : Int) (W : World) (h : FnOk W r) (hf : few9 r.f = true) (hr : rightF r.f = false) : Calls Try.prog 4 #[fnV r, .int .i64 a, .int .i64 b] W (RPost (.bool true) W) := by
  have HOK : Hid (∀ V, Below W.heap.size W V → FnOk V r) := Lib.hid (fun V hb => h.below hb)
  have HF := Lib.hid hf; have HR := Lib.hid hr
  have HB0 := Lib.hid (bx1_below W r)
  have HU0 := Lib.hid (heap_alloc_new W (fnO r))
  clear h hf hr
  obtain ⟨x0, x1, x2, x3, x4⟩ := nv5 HU0.out
  go_enter Try.func4, Try.ntmps4
  go_wp2_with (first | ((with_reducible refine (few_c r _ (HOK.out _ HB0.out) true HF.out).mono ?_); rintro e w1 ⟨rfl, hb1⟩; have HU1 := Lib.hid ((hb1.block W.heap.size (by simp)).trans HU0.out); have HB1 := Lib.hid (HB0.out.trans (hb1.mono HB0.out.size)); clear hb1 x0 x1 x2 x3 x4; obtain ⟨x0, x1, x2, x3, x4⟩ := nv5 HU1.out) | ((with_reducible refine (above_no r _ (HOK.out _ HB1.out) HR.out).mono ?_); rintro e w2 ⟨ha, hc, rfl, hb2⟩; have HU2 := Lib.hid ((hb2.block W.heap.size (lt_heap HU1.out)).trans HU1.out); have HB2 := Lib.hid (HB1.out.trans (hb2.mono HB1.out.size)); clear hb2 x0 x1 x2 x3 x4; obtain ⟨x0, x1, x2, x3, x4⟩ := nv5 HU2.out) | ((with_reducible refine (rightc_h r _ (HOK.out _ HB2.out) false HR.out).mono ?_); rintro e w3 ⟨rfl, hb3⟩; have HU3 := Lib.hid ((hb3.block W.heap.size (lt_heap HU2.out)).trans HU2.out); have HB3 := Lib.hid (HB2.out.trans (hb3.mono HB2.out.size)); clear hb3 x0 x1 x2 x3 x4; obtain ⟨x0, x1, x2, x3, x4⟩ := nv5 HU3.out) | ((with_reducible refine (doms_no r a b _ (HOK.out _ HB3.out) HR.out).mono ?_); rintro e w4 ⟨rfl, hb4⟩; have HU4 := Lib.hid ((hb4.block W.heap.size (lt_heap HU3.out)).trans HU3.out); have HB4 := Lib.hid (HB3.out.trans (hb4.mono HB3.out.size)); clear hb4 x0 x1 x2 x3 x4; obtain ⟨x0, x1, x2, x3, x4⟩ := nv5 HU4.out) | ((with_reducible refine (awake9_any _).mono ?_); rintro e w5 ⟨rfl, hb5⟩; have HB5 := Lib.hid (HB4.out.trans (hb5.mono HB4.out.size)); clear hb5))
  go_ret
  exact ⟨rfl, HB5.out⟩
set_option maxHeartbeats 16000000 in
theorem domsL_yes (r : FnR) (a b : Int) (W : World) (h : FnOk W r) (hf : few9 r.f = true) (hr : RightF r.f) : Calls Try.prog 4 #[fnV r, .int .i64 a, .int .i64 b] W (RPost (.bool true) W) := by
  have HOK : Hid (∀ V, Below W.heap.size W V → FnOk V r) := Lib.hid (fun V hb => h.below hb)
  have HF := Lib.hid hf; have HR := Lib.hid hr
  have HRB := Lib.hid (rightF_iff.2 hr)
  have HB0 := Lib.hid (bx1_below W r)
  have HU0 := Lib.hid (heap_alloc_new W (fnO r))
  have hcl := hr.code.2
  obtain ⟨m, hm⟩ : ∃ m, domB r.f.code a b = m := ⟨_, rfl⟩
  have HM := Lib.hid hm
  clear h hf hr hm
  obtain ⟨x0, x1, x2, x3, x4⟩ := nv5 HU0.out
  go_enter Try.func4, Try.ntmps4
  go_wp2_with (first | ((with_reducible refine (few_c r _ (HOK.out _ HB0.out) true HF.out).mono ?_); rintro e w1 ⟨rfl, hb1⟩; have HU1 := Lib.hid ((hb1.block W.heap.size (by simp)).trans HU0.out); have HB1 := Lib.hid (HB0.out.trans (hb1.mono HB0.out.size)); clear hb1 x0 x1 x2 x3 x4; obtain ⟨x0, x1, x2, x3, x4⟩ := nv5 HU1.out) | ((with_reducible refine (above_is r _ (HOK.out _ HB1.out) HR.out _ rfl).mono ?_); rintro e w2 ⟨ub, rfl, hi, hb2⟩; have HI2 := Lib.hid hi; have HU2 := Lib.hid ((hb2.block W.heap.size (lt_heap HU1.out)).trans HU1.out); have HB2 := Lib.hid (HB1.out.trans (hb2.mono HB1.out.size)); clear hi hb2 x0 x1 x2 x3 x4; obtain ⟨x0, x1, x2, x3, x4⟩ := nv5 HU2.out) | ((with_reducible refine (rightc_h r _ (HOK.out _ HB2.out) true HRB.out).mono ?_); rintro e w3 ⟨rfl, hb3⟩; have HI3 := Lib.hid (VRow.below HI2.out hb3 HI2.out.lt); have HU3 := Lib.hid ((hb3.block W.heap.size (lt_heap HU2.out)).trans HU2.out); have HB3 := Lib.hid (HB2.out.trans (hb3.mono HB2.out.size)); clear hb3 x0 x1 x2 x3 x4; obtain ⟨x0, x1, x2, x3, x4⟩ := nv5 HU3.out))
  have hzu := lt_heap HU3.out
  go_cut [47] from 31 to 47 (fun s47 wc => s47 = .bool false ∧ Hid (Below w3.heap.size w3 wc))
  case first =>
    go_region_with (first | ((with_reducible refine (doms_is r a b _ (HOK.out _ (drW HB3.out)) HR.out m HM.out).mono ?_); rintro e w4 ⟨rfl, hb4⟩; have HC4 : Hid (Below w3.heap.size w3 w4) := Lib.hid ((drW (Below.refl w3.heap.size w3)).trans hb4); have HU4 := Lib.hid ((HC4.out.block W.heap.size hzu).trans HU3.out); clear hb4; obtain ⟨z0, z1, z2, z3, z4⟩ := nv5 HU4.out) | ((with_reducible refine (refdom_is r a b _ (HOK.out _ (HB3.out.trans (HC4.out.mono HB3.out.size))) HR.out m HM.out).mono ?_); rintro e w5 ⟨rfl, hb5⟩; have HC5 := Lib.hid (HC4.out.trans (hb5.mono HC4.out.size)); clear hb5))
    all_goals (go_wp2; go_meet; case rel => exact ⟨by cases m <;> rfl, HC5⟩)
  case rest =>
    obtain ⟨rfl, HC5⟩ := hcut
    have HIC : Hid (IRow wc ub (aboveL r.f.code)) := Lib.hid (VRow.below HI3.out HC5.out HI3.out.lt)
    have HBC := Lib.hid (HB3.out.trans (HC5.out.mono HB3.out.size))
    have HUC := Lib.hid ((HC5.out.block W.heap.size hzu).trans HU3.out)
    have hzc := lt_heap HUC.out
    have hubc := HIC.out.lt
    clear x0 x1 x2 x3 x4
    obtain ⟨x0, x1, x2, x3, x4⟩ := nv5 HUC.out
    go_wp2
    go_loopw [51] (fun s51 wr => ∃ k : Nat, k ≤ r.f.code.length ∧ s51 = .int .i64 (k : Int) ∧ Hid (Below wc.heap.size wc wr)) (fun s51 wr => r.f.code.length - (intOf s51).toNat)
    case atStart => exact ⟨0, by omega, rfl, Lib.hid (Below.refl _ _)⟩
    case round =>
      obtain ⟨k, hk, rfl, HBR⟩ := hrel
      have HBW := Lib.hid (HBC.out.trans (HBR.out.mono HBC.out.size))
      have HUR := Lib.hid ((HBR.out.block W.heap.size hzc).trans HUC.out)
      clear x0 x1 x2 x3 x4
      obtain ⟨y0, y1, y2, y3, y4⟩ := nv5 HUR.out
      have k0 : (0 : Int) ≤ (k : Int) := Int.natCast_nonneg _
      by_cases hlt : k < r.f.code.length
      · have k1 : (k : Int) < (r.f.code.length : Int) := by omega
        obtain ⟨x, hx⟩ : ∃ x, aboveN r.f.code (k : Int) = x := ⟨_, rfl⟩
        have ca : wr.cell? ⟨ub, k, none⟩ = some (.int .i64 x) := (HBR.out.cell (p := ⟨ub, k, none⟩) hubc).trans (IRow.cell HIC.out (by rw [aboveL_at hlt, hx]))
        have hub : ub < wr.heap.size := by have := HBR.out.size; omega
        have HX := Lib.hid hx; have HLT := Lib.hid hlt
        clear hx hlt
        go_upto_region 11 with fail
        go_cut [61] from 54 to 61 (fun s61 wx => s61 = .bool false ∧ Hid (Below wc.heap.size wc wx))
        case first =>
          go_region_with ((with_reducible refine (refabove_is r (k : Int) _ (HOK.out _ (drW HBW.out)) HR.out x HX.out).mono ?_); rintro e w6 ⟨rfl, hb6⟩; have HC6 : Hid (Below wr.heap.size wr w6) := Lib.hid ((drW (Below.refl wr.heap.size wr)).trans hb6); have ca6 := (HC6.out.cell (p := ⟨ub, k, none⟩) hub).trans ca; clear hb6)
          all_goals (go_wp2; go_meet; case rel => exact ⟨by simp, Lib.hid (HBR.out.trans (HC6.out.mono HBR.out.size))⟩)
        case rest =>
          obtain ⟨rfl, HBX⟩ := hcut
          go_wp2
          go_roundw
          case rel => exact ⟨k + 1, HLT.out, by go_num, HBX⟩
          case measure => have := HLT.out; simp [intOf]; omega
      · obtain rfl : k = r.f.code.length := by omega
        go_wp2_with ((with_reducible refine (awake9_any _).mono ?_); rintro e w9 ⟨rfl, hb9⟩; have HB9 := Lib.hid (HBW.out.trans (hb9.mono HBW.out.size)); clear hb9)
        go_ret
        exact ⟨rfl, HB9.out⟩
theorem doms_any (r : FnR) (W : World) (hc : CodeAt W W.heap.size r) (hl : r.f.code.length ≤ maxLen) (a b : Int) : Calls Try.prog 4 #[fnV r, .int .i64 a, .int .i64 b] W (RPost (.bool true) W) := by
  cases hf : few9 r.f with
  | false => exact doms_few r a b W ⟨hc, hl⟩ hf
  | true =>
    cases hr : rightF r.f with
    | false => exact domsL_no r a b W ⟨hc, hl⟩ hf hr
    | true => exact domsL_yes r a b W ⟨hc, hl⟩ hf (rightF_iff.1 hr)
end Go.Proofs.Ytbpagfddofbjbaa
