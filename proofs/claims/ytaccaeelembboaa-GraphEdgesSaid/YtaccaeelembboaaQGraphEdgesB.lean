/-
  GraphEdges, where the function is gone through.
-/
import Derived.Test.YtaccaeelembboaaQGraphEdges
namespace Go.Proofs.Ytaccaeelembboaa
open Go.RowKit Cd Go.Maps
set_option linter.unusedVariables false
set_option linter.unusedSimpArgs false
theorem orderN_len {f : Fnc} (hf : RightF f) : (orderN f.code).length ≤ 100000 := by
  have hlen := hf.code.2
  have hg0 : LGood f.code (([], []) : LP) := ⟨by simp, by simp, by simp⟩
  obtain ⟨hg, hgr⟩ := leaveF_good (closed_of hf) f.code.length 0 ([], []) hg0 (zero_inside hf.code.1) (by simp)
  have h1 := hg.le
  have h2 := hg.len
  unfold orderN
  rw [List.length_reverse]
  omega
theorem beforeN_len {f : Fnc} (hf : RightF f) (n : Int) : (beforeN f.code n).length ≤ 100000 := by
  have hlen := hf.code.2
  have h1 := List.length_filter_le (fun k => (nexts f.code k).contains n) ((List.range f.code.length).map Int.ofNat)
  rw [List.length_map, List.length_range] at h1
  unfold beforeN
  omega
set_option maxRecDepth 100000 in
set_option maxHeartbeats 16000000 in
theorem edges_yes (r : FnR) (W : World) (h : FnOk W r) (hf : few9 r.f = true) (hr : RightF r.f) (o : List Int) (ho : orderN r.f.code = o) : Calls Try.prog 3 #[fnV r] W (RPost (.bool true) W) := by
  have HOK : Hid (∀ V, Below W.heap.size W V → FnOk V r) := Lib.hid (fun V hb => h.below hb)
  have HF := Lib.hid hf; have HR := Lib.hid hr; have HO := Lib.hid ho
  have HC := Lib.hid (closed_of hr); have H0 := Lib.hid hr.code.1
  have HOL : Hid (o.length ≤ 100000) := Lib.hid (ho ▸ orderN_len hr)
  have hn2 : r.f.code.length ≤ 10000 := by have := hr.code.2; omega
  have HB0 := Lib.hid (bx1_below W r)
  have HU0 := Lib.hid (heap_alloc_new W (fnO r))
  clear h hf hr ho
  obtain ⟨x0, x1, x2, x3, x4⟩ := nv5 HU0.out
  go_enter Try.func3, Try.ntmps3
  go_upto_region 3 with ((with_reducible refine (few_c r _ (HOK.out _ HB0.out) true HF.out).mono ?_); rintro e w1 ⟨rfl, hb1⟩; have HU1 := Lib.hid ((hb1.block W.heap.size (by simp)).trans HU0.out); have HB1 := Lib.hid (HB0.out.trans (hb1.mono HB0.out.size)); clear hb1 x0 x1 x2 x3 x4; obtain ⟨x0, x1, x2, x3, x4⟩ := nv5 HU1.out)
  go_cut [3, 4, 5] from 3 to 16 (fun s3 s4 s5 wx => ∃ ba bc ra rc oa oc, s3 = .slice ba r.f.code.length bc ∧ s4 = .slice ra r.f.code.length rc ∧ s5 = .slice oa o.length oc ∧ Hid (Below W.heap.size W wx) ∧ Hid (wx.heap[W.heap.size]? = some (fnO r)) ∧ Hid (RowsAt wx wx.heap.size ba (turned (nextG r.f.code))) ∧ Hid (RowAt wx wx.heap.size ra (bools (reachL (nextG r.f.code)))) ∧ Hid (IntsAt wx oa o))
  case first =>
    go_region_with (first | ((with_reducible refine (before_l r _ (HOK.out _ (drW HB1.out)) HR.out _ rfl).mono ?_); rintro e w2 ⟨ba, bc, rfl, hba, hb2⟩; have HBA2 := Lib.hid hba; have HU2 := Lib.hid ((hb2.block W.heap.size (lt_heap HU1.out)).trans HU1.out); have HB2 := Lib.hid ((drW HB1.out).trans (hb2.mono HB1.out.size)); clear hb2 hba x0 x1 x2 x3 x4; obtain ⟨x0, x1, x2, x3, x4⟩ := nv5 HU2.out) | ((with_reducible refine (reached_l r _ (HOK.out _ HB2.out) HR.out _ rfl).mono ?_); rintro e w3 ⟨ra, rc, rfl, hra, hb3⟩; have HRA3 := Lib.hid hra.row; have HBA3 := Lib.hid (RowsAt.mono (HBA2.out.below hb3) hb3.size (Nat.le_refl _)); have HU3 := Lib.hid ((hb3.block W.heap.size (lt_heap HU2.out)).trans HU2.out); have HB3 := Lib.hid (HB2.out.trans (hb3.mono HB2.out.size)); clear hb3 hra x0 x1 x2 x3 x4; obtain ⟨x0, x1, x2, x3, x4⟩ := nv5 HU3.out) | ((with_reducible refine (order_l r _ (HOK.out _ HB3.out) HR.out o HO.out).mono ?_); rintro e w4 ⟨oa, oc, rfl, hoa, hb4⟩; have HOA4 := Lib.hid hoa; have HBA4 := Lib.hid (RowsAt.mono (HBA3.out.below hb4) hb4.size (Nat.le_refl _)); have HRA4 := Lib.hid (RowAt.mono (HRA3.out.below hb4) hb4.size (Nat.le_refl _)); have HU4 := Lib.hid ((hb4.block W.heap.size (lt_heap HU3.out)).trans HU3.out); have HB4 := Lib.hid (HB3.out.trans (hb4.mono HB3.out.size)); clear hb4 hoa x0 x1 x2 x3 x4; obtain ⟨x0, x1, x2, x3, x4⟩ := nv5 HU4.out))
    all_goals (go_wp2; go_meet; case rel => exact ⟨_, _, _, _, _, _, rfl, rfl, rfl, HB4, HU4, HBA4, HRA4, HOA4⟩)
  case rest =>
    obtain ⟨ba, bc, ra, rc, oa, oc, rfl, rfl, rfl, HB4, HU4, HBA, HRA, HOA⟩ := hcut
    clear x0 x1 x2 x3 x4
    obtain ⟨x0, x1, x2, x3, x4⟩ := nv5 HU4.out
    go_wp2_with (first | ((with_reducible refine (rightc_l r _ (HOK.out _ HB4.out) true (rightF_iff.2 HR.out)).mono ?_); rintro e w5 ⟨rfl, hb5⟩; have HU5 := Lib.hid ((hb5.block W.heap.size (lt_heap HU4.out)).trans HU4.out); have HS5 := Lib.hid hb5; have HB5 := Lib.hid (HB4.out.trans (hb5.mono HB4.out.size)); clear hb5 x0 x1 x2 x3 x4; obtain ⟨x0, x1, x2, x3, x4⟩ := nv5 HU5.out) | ((with_reducible refine (reforder_l r _ (HOK.out _ HB5.out) HR.out o HO.out).mono ?_); rintro e w6 ⟨qa, qc, rfl, hq, hb6⟩; have HU6 := Lib.hid ((hb6.block W.heap.size (lt_heap HU5.out)).trans HU5.out); have HQ6 := Lib.hid hq; have HS6 := Lib.hid (HS5.out.trans (hb6.mono HS5.out.size)); have HB6 := Lib.hid (HB5.out.trans (hb6.mono HB5.out.size)); clear hb6 hq x0 x1 x2 x3 x4; obtain ⟨x0, x1, x2, x3, x4⟩ := nv5 HU6.out) | ((with_reducible refine (same_c o o oa qa oc qc true (by simp) _ (HOA.out.below HS6.out) HQ6.out HOL.out HOL.out).mono ?_); rintro e w7 ⟨rfl, hb7⟩; have HU7 := Lib.hid ((hb7.block W.heap.size (lt_heap HU6.out)).trans HU6.out); have HS7 := Lib.hid (HS6.out.trans (hb7.mono HS6.out.size)); have HB7 := Lib.hid (HB6.out.trans (hb7.mono HB6.out.size)); clear hb7 x0 x1 x2 x3 x4; obtain ⟨x0, x1, x2, x3, x4⟩ := nv5 HU7.out))
    clear x0 x1 x2 x3 x4
    have hz7 := lt_heap HU7.out
    have HRA7 := Lib.hid (HRA.out.below HS7.out)
    go_loopg [56] r.f.code.length (fun g s56 wr => ∃ k : Nat, g = r.f.code.length - k ∧ k ≤ r.f.code.length ∧ s56 = .int .i64 (k : Int) ∧ Hid (Below w7.heap.size w7 wr))
    case atStart => exact ⟨0, rfl, Nat.zero_le _, rfl, Lib.hid (Below.refl _ _)⟩
    case round =>
      obtain ⟨k, rfl, hk, rfl, HBR⟩ := hrel
      have HBW := Lib.hid (HB7.out.trans (HBR.out.mono HB7.out.size))
      have HSW := Lib.hid (HS7.out.trans (HBR.out.mono HS7.out.size))
      have HUR := Lib.hid ((HBR.out.block _ hz7).trans HU7.out)
      obtain ⟨x0, x1, x2, x3, x4⟩ := nv5 HUR.out
      have hzr := lt_heap HUR.out
      have k0 : (0 : Int) ≤ (k : Int) := Int.natCast_nonneg _
      by_cases hlt : k < r.f.code.length
      · have k1 : (k : Int) < (r.f.code.length : Int) := by omega
        obtain ⟨l, hl⟩ : ∃ l, beforeN r.f.code (k : Int) = l := ⟨_, rfl⟩
        obtain ⟨b0, hb0⟩ : ∃ b0, reachedB r.f.code (k : Int) = b0 := ⟨_, rfl⟩
        obtain ⟨bb, boff, la, lc, rfl, hbb1, hbb2, hbcell, hrow, _, _⟩ := (HBA.out.below HSW.out).at (turned_before HC.out hlt)
        obtain ⟨rb, roff, rfl, hrb1, hrb2, hrc⟩ := (HRA.out.below HSW.out) (by rw [List.length_map, reachL_len2 H0.out]; exact H0.out)
        have hrcell := hrc k (.bool b0) (by rw [List.getElem?_map, reachL_at2 HC.out H0.out hlt, hb0]; rfl)
        rw [hl] at hbcell hrow
        have HLL : Hid (l.length ≤ 100000) := Lib.hid (hl ▸ beforeN_len HR.out (k : Int))
        have HIL : Hid (IntsAt wr la l) := Lib.hid (RowAt.mono hrow hbb2 (Nat.le_refl _))
        have HLE := Lib.hid hl; have HBE := Lib.hid hb0; have HLT := Lib.hid hlt
        have HRB : Hid (rb < wr.heap.size) := Lib.hid (by omega)
        have HBB : Hid (bb < wr.heap.size) := Lib.hid (by omega)
        clear hl hb0 hrow hrc hbb1 hbb2 hrb1 hrb2
        go_upto_region 11 with fail
        go_cut [77] from 59 to 77 (fun s77 wx => s77 = .bool false ∧ Hid (Below w7.heap.size w7 wx))
        case first =>
          go_region_with (first | ((with_reducible refine (refbefore_l r (k : Int) _ (HOK.out _ (drW HBW.out)) HR.out l HLE.out).mono ?_); rintro e w8 ⟨qa, qc, rfl, hq, hb8⟩; have HQ8 := Lib.hid hq; have HS8 : Hid (Below wr.heap.size wr w8) := Lib.hid ((drW (Below.refl wr.heap.size wr)).trans hb8); have HU8 := Lib.hid ((HS8.out.block W.heap.size hzr).trans HUR.out); have HB8 := Lib.hid (HBW.out.trans (HS8.out.mono HBW.out.size)); have hrcell8 := (HS8.out.cell (p := ⟨rb, roff + k, none⟩) HRB.out).trans hrcell; have hbcell8 := (HS8.out.cell (p := ⟨bb, boff + k, none⟩) HBB.out).trans hbcell; clear hb8 hq; obtain ⟨y0, y1, y2, y3, y4⟩ := nv5 HU8.out) | ((with_reducible refine (same_c l l la qa lc qc true (by simp) _ (HIL.out.below HS8.out) HQ8.out HLL.out HLL.out).mono ?_); rintro e w9 ⟨rfl, hb9⟩; have HS9 := Lib.hid (HS8.out.trans (hb9.mono HS8.out.size)); have HU9 := Lib.hid ((HS9.out.block W.heap.size hzr).trans HUR.out); have HB9 := Lib.hid (HBW.out.trans (HS9.out.mono HBW.out.size)); have hrcell9 := (HS9.out.cell (p := ⟨rb, roff + k, none⟩) HRB.out).trans hrcell; clear hb9; obtain ⟨z0, z1, z2, z3, z4⟩ := nv5 HU9.out) | ((with_reducible refine (refreached_l r (k : Int) _ (HOK.out _ HB9.out) HR.out b0 HBE.out).mono ?_); rintro e w10 ⟨rfl, hb10⟩; have HS10 := Lib.hid (HS9.out.trans (hb10.mono HS9.out.size)); have hrcell10 := (HS10.out.cell (p := ⟨rb, roff + k, none⟩) HRB.out).trans hrcell; clear hb10))
          all_goals (go_wp2; go_meet; case rel => exact ⟨by cases b0 <;> rfl, Lib.hid (HBR.out.trans (HS10.out.mono HBR.out.size))⟩)
        case rest =>
          obtain ⟨rfl, HBX⟩ := hcut
          go_wp2
          go_roundg (r.f.code.length - (k + 1))
          case measure => have := HLT.out; omega
          case rel => exact ⟨k + 1, rfl, HLT.out, by first | rfl | (simp; done) | go_num, HBX⟩
      · obtain rfl : k = r.f.code.length := by omega
        go_wp2_with ((with_reducible refine (awake9_any _).mono ?_); rintro e w9 ⟨rfl, hb9⟩; have HB9 := Lib.hid (HBW.out.trans (hb9.mono HBW.out.size)); clear hb9)
        go_ret
        exact ⟨rfl, HB9.out⟩
end Go.Proofs.Ytaccaeelembboaa
