/-
  GraphHeads: a head dominates all of its loop, and its loop goes on at it.
  Contract of the laws' same: are two lists.
  GraphLoops: all heads, and their loops, are the document's.
-/
import Derived.Test.YtbpagfddofbjbaaQG9F
import Derived.Test.YtbpagfddofbjbaaQG9G
import Derived.Test.YtbpagfddofbjbaaQR9A
import Derived.Test.YtbpagfddofbjbaaQG9A
namespace Go.Proofs.Ytbpagfddofbjbaa
set_option maxRecDepth 100000
open Go.RowKit Cd Go.Maps
set_option linter.unusedVariables false
set_option linter.unusedSimpArgs false

theorem any_more {p : Int → Bool} {l : List Int} {k : Nat} {x : Int} (h : l[k]? = some x) : (l.take (k + 1)).any p = ((l.take k).any p || p x) := by
  rw [take_more h, List.any_append]; simp
/-- A list as the program hands it back. -/
def LPost (l : List Int) (w : World) (e : Ending) (w' : World) : Prop := ∃ a c, e = .returned (.slice a l.length c) ∧ IntsAt w' a l ∧ Below w.heap.size w w'
theorem LPost.of {l : List Int} {w w' : World} {e : Ending} (h : ListPost l w e w') : LPost l w e w' := by
  obtain ⟨v, rfl, ho, hb⟩ := h
  obtain ⟨a, c, rfl⟩ := row_slice ho
  exact ⟨a, c, rfl, IntsAt.of_own ho, hb⟩
theorem loop_l (r : FnR) (x : Int) (w : World) (h : FnOk w r) (G : List (List Int)) (hG : followG r.f = G) (hx : 0 ≤ x ∧ x < (G.length : Int)) (L : List Int) (hL : loopR G x = L) : Calls Try.prog 30 #[fnV r, .int .i64 x] w (LPost L w) := by
  have := loop_g r x w h G hG
  rw [if_pos hx, hL] at this
  exact this.mono fun _ _ h => LPost.of h
theorem heads_l (r : FnR) (w : World) (h : FnOk w r) (G : List (List Int)) (hG : followG r.f = G) : Calls Try.prog 29 #[fnV r] w (fun e w' => ∃ s, Ended G s ∧ LPost (headsOf G s) w e w') :=
  (heads_g r w h G hG).mono fun _ _ ⟨s, h1, h2⟩ => ⟨s, h1, LPost.of h2⟩
set_option maxHeartbeats 8000000 in
theorem headsL_no (r : FnR) (W : World) (h : FnOk W r) (hf : few9 r.f = false) : Calls Try.prog 7 #[fnV r] W (RPost (.bool true) W) := by
  have H := Lib.hid (h.below (bx1_below W r)); have HF := Lib.hid hf
  clear h hf
  obtain ⟨x0, x1, x2, x3, x4⟩ := nv5 (heap_alloc_new W (fnO r))
  go_enter Try.func7, Try.ntmps7
  go_wp2_with (first | ((with_reducible refine (few_c r _ H.out false HF.out).mono ?_); rintro e w1 ⟨rfl, hb1⟩; have HB1 := Lib.hid ((bx1_below W r).trans (hb1.mono (by simp))); clear hb1) | ((with_reducible refine (awake9_any _).mono ?_); rintro e w2 ⟨rfl, hb2⟩; have HB2 := Lib.hid (HB1.out.trans (hb2.mono HB1.out.size)); clear hb2))
  go_ret
  exact ⟨rfl, HB2.out⟩
set_option maxHeartbeats 16000000 in
theorem headsL_yes (name : List UInt8) (params regs frame : Int) (code : List Ins) (ca : Option Addr) (cc : Nat) (W : World) (h : FnOk W ⟨⟨name, params, regs, frame, code⟩, ca, cc⟩) (hf : few9 ⟨name, params, regs, frame, code⟩ = true) : Calls Try.prog 7 #[fnV ⟨⟨name, params, regs, frame, code⟩, ca, cc⟩] W (RPost (.bool true) W) := by
  have HOK : Hid (∀ V, Below W.heap.size W V → FnOk V ⟨⟨name, params, regs, frame, code⟩, ca, cc⟩) := Lib.hid (fun V hb => h.below hb)
  have HF := Lib.hid hf
  obtain ⟨G, hG⟩ : ∃ G, followG ⟨name, params, regs, frame, code⟩ = G := ⟨_, rfl⟩
  have HG := Lib.hid hG
  have HGL : Hid (G.length ≤ 10000) := Lib.hid (by have hok := followG_ok ⟨name, params, regs, frame, code⟩; rw [hG] at hok; have := hok.2.1; omega)
  have HFACT : Hid (∀ s, Ended G s → ∀ x, x ∈ headsOf G s → RightF ⟨name, params, regs, frame, code⟩ ∧ (0 ≤ x ∧ x < (G.length : Int)) ∧ (loopR G x).length ≤ G.length ∧ (∀ y ∈ loopR G x, 0 ≤ y ∧ y < (code.length : Int) ∧ domR G x y = true) ∧ (loopR G x).any (fun y => (nexts code y).contains x) = true) := Lib.hid (fun s hs x hx => heads_facts hG hs hx)
  have HB0 := Lib.hid (bx1_below W ⟨⟨name, params, regs, frame, code⟩, ca, cc⟩)
  have HU0 := Lib.hid (heap_alloc_new W (fnO ⟨⟨name, params, regs, frame, code⟩, ca, cc⟩))
  clear h hf hG
  obtain ⟨x0, x1, x2, x3, x4⟩ := nv5 HU0.out
  go_enter Try.func7, Try.ntmps7
  go_wp2_with (first | ((with_reducible refine (few_c _ _ (HOK.out _ HB0.out) true HF.out).mono ?_); rintro e w1 ⟨rfl, hb1⟩; have HU1 := Lib.hid ((hb1.block W.heap.size (by simp)).trans HU0.out); have HB1 := Lib.hid (HB0.out.trans (hb1.mono HB0.out.size)); clear hb1 x0 x1 x2 x3 x4; obtain ⟨x0, x1, x2, x3, x4⟩ := nv5 HU1.out) | ((with_reducible refine (heads_l _ _ (HOK.out _ HB1.out) G HG.out).mono ?_); rintro e w2 ⟨s, hs, ha, hc, rfl, hi, hb2⟩; have HS := Lib.hid hs; have HI := Lib.hid hi; have HU2 := Lib.hid ((hb2.block W.heap.size (lt_heap HU1.out)).trans HU1.out); have HB2 := Lib.hid (HB1.out.trans (hb2.mono HB1.out.size)); clear hs hi hb2 x0 x1 x2 x3 x4))
  have HHL : Hid ((headsOf G s).length ≤ 10000) := Lib.hid (by have := headsOf_len G s; have := HGL.out; omega)
  have HHF : Hid (∀ x, x ∈ headsOf G s → RightF ⟨name, params, regs, frame, code⟩ ∧ (0 ≤ x ∧ x < (G.length : Int)) ∧ (loopR G x).length ≤ G.length ∧ (∀ y ∈ loopR G x, 0 ≤ y ∧ y < (code.length : Int) ∧ domR G x y = true) ∧ (loopR G x).any (fun y => (nexts code y).contains x) = true) := Lib.hid (HFACT.out s HS.out)
  obtain ⟨H, hH⟩ : ∃ H, headsOf G s = H := ⟨_, rfl⟩
  rw [hH] at HI HHL HHF ⊢
  clear hH HFACT
  have hz2 := lt_heap HU2.out
  go_loopw [15] (fun s15 wr => ∃ k : Nat, k ≤ H.length ∧ s15 = .int .i64 (k : Int) ∧ Hid (Below w2.heap.size w2 wr)) (fun s15 wr => H.length - (intOf s15).toNat)
  case atStart => exact ⟨0, by omega, rfl, Lib.hid (Below.refl _ _)⟩
  case round =>
    obtain ⟨k, hk, rfl, HBR⟩ := hrel
    have HBW := Lib.hid (HB2.out.trans (HBR.out.mono HB2.out.size))
    have HUR := Lib.hid ((HBR.out.block _ hz2).trans HU2.out)
    obtain ⟨y0, y1, y2, y3, y4⟩ := nv5 HUR.out
    have hzr := lt_heap HUR.out
    have k0 : (0 : Int) ≤ (k : Int) := Int.natCast_nonneg _
    by_cases hlt : k < H.length
    · have k1 : (k : Int) < (H.length : Int) := by omega
      obtain ⟨x, hx⟩ : ∃ x, H[k]? = some x := ⟨_, List.getElem?_eq_getElem hlt⟩
      obtain ⟨hb, hoff, rfl, hhb, hcell⟩ := (HI.out.below HBR.out).at hx
      obtain ⟨hr, hxr, hll, hdom, hback⟩ := HHF.out x (List.mem_of_getElem? hx)
      obtain ⟨L, hL⟩ : ∃ L, loopR G x = L := ⟨_, rfl⟩
      rw [hL] at hll hdom hback
      have hLl : L.length ≤ 10000 := by have := HGL.out; omega
      have HR := Lib.hid hr; have HDOM := Lib.hid hdom; have HBK := Lib.hid hback; have HL := Lib.hid hL; have HXR := Lib.hid hxr; have HLT := Lib.hid hlt
      have hcl := hr.code.2
      simp only at hcl
      obtain ⟨P, hP⟩ : ∃ P : Int → Bool, P = fun y => (nexts code y).contains x := ⟨_, rfl⟩
      rw [← hP] at HBK
      have HP := Lib.hid hP
      clear hr hdom hback hL hxr hlt hP hll hx
      go_wp2_with ((with_reducible refine (loop_l _ x _ (HOK.out _ HBW.out) G HG.out HXR.out L HL.out).mono ?_); rintro e w3 ⟨la, lc, rfl, hil, hb3⟩; have HIL := Lib.hid hil; have HB3 := Lib.hid (HBR.out.trans (hb3.mono HBR.out.size)); clear hil hb3 y0 y1 y2 y3 y4)
      go_loopw [5, 23] (fun s5 s23 wr => ∃ j : Nat, j ≤ L.length ∧ s23 = .int .i64 (j : Int) ∧ s5 = .bool ((L.take j).any P) ∧ Hid (Below w2.heap.size w2 wr) ∧ Hid (IntsAt wr la L)) (fun _ s23 wr => L.length - (intOf s23).toNat)
      case atStart => exact ⟨0, by omega, rfl, (by first | rfl | trivial), HB3, HIL⟩
      case round =>
        clear HBR HBW HUR
        obtain ⟨j, hj, rfl, rfl, HBR, HIJ⟩ := hrel
        have HBW := Lib.hid (HB2.out.trans (HBR.out.mono HB2.out.size))
        have HUR := Lib.hid ((HBR.out.block _ hz2).trans HU2.out)
        obtain ⟨y0, y1, y2, y3, y4⟩ := nv5 HUR.out
        have hzr := lt_heap HUR.out
        have j0 : (0 : Int) ≤ (j : Int) := Int.natCast_nonneg _
        by_cases hjl : j < L.length
        · have j1 : (j : Int) < (L.length : Int) := by omega
          obtain ⟨y, hy⟩ : ∃ y, L[j]? = some y := ⟨_, List.getElem?_eq_getElem hjl⟩
          obtain ⟨lb, loff, rfl, hlb, hcel2⟩ := HIJ.out.at hy
          obtain ⟨hya, hyb, hyd⟩ := HDOM.out y (List.mem_of_getElem? hy)
          have HYD := Lib.hid hyd; have HAM := Lib.hid (any_more (p := P) hy); have HJL := Lib.hid hjl
          obtain ⟨q, rfl⟩ : ∃ q : Nat, y = (q : Int) := ⟨y.toNat, by omega⟩
          obtain ⟨z, hz⟩ : ∃ z, code[q]? = some z := ⟨_, List.getElem?_eq_getElem (by omega)⟩
          have HOKR := HOK.out _ HBW.out
          obtain ⟨b, off, hca, hb, hBw2, q0, q1, q2, q3, q4, q5, q6, q7, q8, q9, q10, q11, q12, q13, q14⟩ := HOKR.code.cells hz
          simp only at hca
          subst hca
          obtain ⟨ns, hns⟩ : ∃ ns, next z q = ns := ⟨_, rfl⟩
          have hnl := nexts_len z q
          rw [hns] at hnl
          obtain ⟨v, hv⟩ : ∃ v, ns.contains x = v := ⟨_, rfl⟩
          have HPQ : Hid (P (q : Int) = v) := Lib.hid (by rw [HP.out]; simp only; rw [nexts_at (i := z) (by rw [Int.toNat_natCast]; exact hz), hns, hv])
          have HNS := Lib.hid hns; have HV := Lib.hid hv
          obtain ⟨g, hg⟩ : ∃ g, (L.take j).any P = g := ⟨_, rfl⟩
          rw [hg] at HAM ⊢
          clear hyd hy hz hns hv hg hjl
          have HBL : Hid (b < wr.heap.size) := Lib.hid hb
          have j00 : (0 : Int) ≤ (q : Int) := Int.natCast_nonneg _
          have j01 : (q : Int) ≤ 1000000 := by omega
          have j02 : (q : Int) < (code.length : Int) := hyb
          cases g with
          | true =>
            go_wp2_with ((with_reducible refine (dominates_g _ x (q : Int) _ (HOK.out _ HBW.out) G HG.out true HYD.out).mono ?_); rintro e w4 ⟨rfl, hb4⟩; have HB4 := Lib.hid (HBR.out.trans (hb4.mono HBR.out.size)); have HU4 := Lib.hid ((hb4.block W.heap.size hzr).trans HUR.out); have HI4 := Lib.hid (HIJ.out.below hb4); have HC4 := Lib.hid hb4; clear hb4 y0 y1 y2 y3 y4; obtain ⟨y0, y1, y2, y3, y4⟩ := nv5 HU4.out)
            go_roundw
            case rel => exact ⟨j + 1, HJL.out, by go_num, by rw [HAM.out]; rfl, HB4, HI4⟩
            case measure => have := HJL.out; simp [intOf]; omega
          | false =>
            go_wp2_with (first | (((with_reducible refine (dominates_g _ x (q : Int) _ (HOK.out _ HBW.out) G HG.out true HYD.out).mono ?_); rintro e w4 ⟨rfl, hb4⟩; have HB4 := Lib.hid (HBR.out.trans (hb4.mono HBR.out.size)); have HU4 := Lib.hid ((hb4.block W.heap.size hzr).trans HUR.out); have HI4 := Lib.hid (HIJ.out.below hb4); have HC4 := Lib.hid hb4; clear hb4 y0 y1 y2 y3 y4; obtain ⟨y0, y1, y2, y3, y4⟩ := nv5 HU4.out); have q0 := (HC4.out.cell (p := ⟨b, off + q * 15, none⟩) HBL.out).trans q0; have q1 := (HC4.out.cell (p := ⟨b, off + q * 15 + 1, none⟩) HBL.out).trans q1; have q2 := (HC4.out.cell (p := ⟨b, off + q * 15 + 2, none⟩) HBL.out).trans q2; have q3 := (HC4.out.cell (p := ⟨b, off + q * 15 + 3, none⟩) HBL.out).trans q3; have q4 := (HC4.out.cell (p := ⟨b, off + q * 15 + 4, none⟩) HBL.out).trans q4; have q5 := (HC4.out.cell (p := ⟨b, off + q * 15 + 5, none⟩) HBL.out).trans q5; have q6 := (HC4.out.cell (p := ⟨b, off + q * 15 + 6, none⟩) HBL.out).trans q6; have q7 := (HC4.out.cell (p := ⟨b, off + q * 15 + 7, none⟩) HBL.out).trans q7; have q8 := (HC4.out.cell (p := ⟨b, off + q * 15 + 8, none⟩) HBL.out).trans q8; have q9 := (HC4.out.cell (p := ⟨b, off + q * 15 + 9, none⟩) HBL.out).trans q9; have q10 := (HC4.out.cell (p := ⟨b, off + q * 15 + 10, none⟩) HBL.out).trans q10; have q11 := (HC4.out.cell (p := ⟨b, off + q * 15 + 11, none⟩) HBL.out).trans q11; have q12 := (HC4.out.cell (p := ⟨b, off + q * 15 + 12, none⟩) HBL.out).trans q12; have q13 := (HC4.out.cell (p := ⟨b, off + q * 15 + 13, none⟩) HBL.out).trans q13; have q14 := (HC4.out.cell (p := ⟨b, off + q * 15 + 14, none⟩) HBL.out).trans q14; clear HC4) | ((with_reducible refine (next_c z (q : Int) ns ⟨j00, j01⟩ HNS.out _).mono ?_); rintro e w5 ⟨na, nc, rfl, hin, hb5⟩; have HIN := Lib.hid hin; have HB5 := Lib.hid (HB4.out.trans (hb5.mono HB4.out.size)); have HI5 := Lib.hid (HI4.out.below hb5); clear hin hb5) | ((with_reducible refine (in_v ns na nc x v _ HIN.out (by unfold maxLen; omega) HV.out).mono ?_); rintro e w6 ⟨rfl, rfl⟩))
            go_roundw
            case rel => exact ⟨j + 1, HJL.out, by go_num, by rw [HAM.out, HPQ.out]; cases v <;> rfl, HB5, HI5⟩
            case measure => have := HJL.out; simp [intOf]; omega
        · obtain rfl : j = L.length := by omega
          have HALL : Hid ((L.take L.length).any P = true) := Lib.hid (by rw [List.take_length]; exact HBK.out)
          rw [HALL.out]
          go_wp2
          go_roundw
          case rel => exact ⟨k + 1, HLT.out, by have h1 := HHL.out; have h2 := HLT.out; rw [show wrap64 ((k : Int) + 1) = ((k + 1 : Nat) : Int) by unfold wrap64; omega], HBR⟩
          case measure => have h2 := HLT.out; have h1 := HHL.out; rw [show wrap64 ((k : Int) + 1) = ((k + 1 : Nat) : Int) by unfold wrap64; omega]; simp [intOf]; omega
    · obtain rfl : k = H.length := by omega
      go_wp2_with ((with_reducible refine (awake9_any _).mono ?_); rintro e w9 ⟨rfl, hb9⟩; have HB9 := Lib.hid (HBW.out.trans (hb9.mono HBW.out.size)); clear hb9)
      go_ret
      exact ⟨rfl, HB9.out⟩
theorem headsL_any (r : FnR) (W : World) (hc : CodeAt W W.heap.size r) (hl : r.f.code.length ≤ maxLen) : Calls Try.prog 7 #[fnV r] W (RPost (.bool true) W) := by
  cases hf : few9 r.f with
  | false => exact headsL_no r W ⟨hc, hl⟩ hf
  | true => exact headsL_yes r.f.name r.f.params r.f.regs r.f.frame r.f.code r.ca r.cc W ⟨hc, hl⟩ hf
end Go.Proofs.Ytbpagfddofbjbaa
namespace Go.Proofs.Ytbpagfddofbjbaa
set_option maxRecDepth 100000
open Go.RowKit Cd
set_option linter.unusedVariables false
set_option linter.unusedSimpArgs false

theorem same_len {l m : List Int} (h : l.length = m.length) (t : l.take l.length = m.take l.length) : l = m := by
  rw [List.take_length] at t
  rw [t, h, List.take_length]
theorem same_more {l m : List Int} {k : Nat} {x : Int} (t : l.take k = m.take k) (h1 : l[k]? = some x) (h2 : m[k]? = some x) : l.take (k + 1) = m.take (k + 1) := by
  rw [take_more h1, take_more h2, t]
set_option maxHeartbeats 2000000 in
theorem same_c (l m : List Int) (a b : Option Addr) (ca cb : Nat) (v : Bool) (hv : (decide (l = m)) = v) (w : World) (h1 : IntsAt w a l) (h2 : IntsAt w b m) (hl : l.length ≤ 100000) (hm : m.length ≤ 100000) :
    Calls Try.prog 21 #[.slice a l.length ca, .slice b m.length cb] w (RPost (.bool v) w) := by
  subst hv
  have H1 := Lib.hid h1; have H2 := Lib.hid h2; clear h1 h2
  go_enter Try.func21, Try.ntmps21
  by_cases hlen : (l.length : Int) = (m.length : Int)
  · have t0 : ((l.length : Int) == (m.length : Int)) = true := by simpa using hlen
    have HLN := Lib.hid (show l.length = m.length by omega)
    clear hlen
    go_wp2
    go_loopw [13] (fun s5 wr => ∃ k : Nat, k ≤ l.length ∧ s5 = .int .i64 k ∧ Hid (Below w.heap.size w wr) ∧ Hid (l.take k = m.take k)) (fun i wr => l.length - (intOf i).toNat)
    case atStart => exact ⟨0, by omega, rfl, Lib.hid (Below.refl _ _), Lib.hid (by simp)⟩
    case round =>
      obtain ⟨k, hk, rfl, HB, HN⟩ := hrel
      by_cases hlt : k < l.length
      · have hltm : k < m.length := by have := HLN.out; omega
        obtain ⟨x, hx⟩ : ∃ x, l[k]? = some x := ⟨_, List.getElem?_eq_getElem hlt⟩
        obtain ⟨y, hy⟩ : ∃ y, m[k]? = some y := ⟨_, List.getElem?_eq_getElem hltm⟩
        obtain ⟨ab, aoff, rfl, hab, hac⟩ := (H1.out.below HB.out).at hx
        obtain ⟨bb, boff, rfl, hbb, hbc⟩ := (H2.out.below HB.out).at hy
        have p0 : (0 : Int) ≤ (k : Int) := Int.natCast_nonneg _
        have p1 : (k : Int) < (l.length : Int) := by omega
        have p2 : (k : Int) < (m.length : Int) := by omega
        have HX := Lib.hid hx; have HY := Lib.hid hy; clear hx hy
        by_cases hxn : x = y
        · have t1 : (x == y) = true := by simpa using hxn
          have HN2 := Lib.hid (show l.take (k + 1) = m.take (k + 1) from same_more HN.out HX.out (hxn ▸ HY.out))
          clear hxn
          go_wp2
          go_quiet (fail)
          go_wp2
          go_roundw
          case rel => exact ⟨k + 1, by omega, by go_num, Lib.hid (drN HB.out _), HN2⟩
          case measure => simp [intOf]; omega
        · have t1 : (x == y) = false := by simpa using hxn
          have E := Lib.hid (show decide (l = m) = false from decide_eq_false fun q => hxn (by have h3 := HX.out; rw [q, HY.out] at h3; exact (Option.some.inj h3).symm))
          clear hxn
          go_wp2
          go_quiet (fail)
          go_wp2
          go_ret
          exact ⟨by rw [E.out]; rfl, drN HB.out _⟩
      · obtain rfl : k = l.length := by omega
        have E := Lib.hid (show decide (l = m) = true from decide_eq_true (same_len HLN.out HN.out))
        go_wp2
        go_ret
        exact ⟨by rw [E.out]; rfl, HB.out⟩
  · have t0 : ((l.length : Int) == (m.length : Int)) = false := by simpa using hlen
    have E := Lib.hid (show decide (l = m) = false from decide_eq_false fun q => hlen (by rw [q]))
    clear hlen
    go_wp2
    go_ret
    exact ⟨by rw [E.out]; rfl, Below.refl _ _⟩
end Go.Proofs.Ytbpagfddofbjbaa
namespace Go.Proofs.Ytbpagfddofbjbaa
set_option maxRecDepth 100000
open Go.RowKit Cd Go.Maps
set_option linter.unusedVariables false
set_option linter.unusedSimpArgs false

theorem rightc_h (r : FnR) (w : World) (h : FnOk w r) (b : Bool) (hb : rightF r.f = b) : Calls Try.prog 20 #[fnV r] w (RPost (.bool b) w) := by
  subst hb
  exact rightFunc_any r w.heap.size w h.code h.len
theorem followG_not {f : Fnc} (h : rightF f = false) : followG f = [] := by unfold followG; rw [if_neg (by rw [h]; simp)]
theorem followG_is {f : Fnc} (h : RightF f) : followG f = nextG f.code := by unfold followG; rw [if_pos (rightF_iff.2 h)]
theorem heads_no (r : FnR) (w : World) (h : FnOk w r) (hr : rightF r.f = false) : Calls Try.prog 29 #[fnV r] w (LPost [] w) := by
  refine (heads_l r w h [] (followG_not hr)).mono ?_
  rintro e w' ⟨s, _, h2⟩
  exact h2
theorem heads_is (r : FnR) (w : World) (h : FnOk w r) (hr : RightF r.f) (H : List Int) (hH : headsN r.f.code = H) : Calls Try.prog 29 #[fnV r] w (LPost H w) := by
  refine (heads_l r w h _ (followG_is hr)).mono ?_
  rintro e w' ⟨s, h1, h2⟩
  rw [headsOf_doc hr.code.1 (closed_of hr) h1, hH] at h2
  exact h2
theorem loop_no (r : FnR) (x : Int) (w : World) (h : FnOk w r) (hr : rightF r.f = false) : Calls Try.prog 30 #[fnV r, .int .i64 x] w (LPost [] w) := by
  have := loop_g r x w h [] (followG_not hr)
  rw [if_neg (by simp <;> omega)] at this
  exact this.mono fun _ _ h => LPost.of h
theorem loop_off (r : FnR) (x : Int) (w : World) (h : FnOk w r) (hr : RightF r.f) (hx : ¬ (0 ≤ x ∧ x < (r.f.code.length : Int))) : Calls Try.prog 30 #[fnV r, .int .i64 x] w (LPost [] w) := by
  have := loop_g r x w h _ (followG_is hr)
  rw [if_neg (by rw [nextG_len]; exact hx)] at this
  exact this.mono fun _ _ h => LPost.of h
theorem loop_is (r : FnR) (k : Nat) (w : World) (h : FnOk w r) (hr : RightF r.f) (hk : k < r.f.code.length) (L : List Int) (hL : loopN r.f.code (k : Int) = L) : Calls Try.prog 30 #[fnV r, .int .i64 (k : Int)] w (LPost L w) :=
  loop_l r (k : Int) w h _ (followG_is hr) ⟨Int.natCast_nonneg _, by rw [nextG_len]; omega⟩ L ((loopR_loopN (closed_of hr) hr.code.1 hk).trans hL)
/-- A list of its own. -/
def NPost (l : List Int) (w : World) (e : Ending) (w' : World) : Prop := ∃ a c, e = .returned (.slice a l.length c) ∧ LiesIn w' w.heap.size a (ints l) ∧ Below w.heap.size w w'
theorem LiesIn.ia {w : World} {lo : Nat} {a : Option Addr} {l : List Int} (h : LiesIn w lo a (ints l)) : IntsAt w a l := h.row
theorem NPost.of {l : List Int} {w w' : World} {e : Ending} (h : ListPost l w e w') : NPost l w e w' := by
  obtain ⟨v, rfl, ho, hb⟩ := h
  obtain ⟨a, c, rfl⟩ := row_slice ho
  exact ⟨a, c, rfl, LiesIn.of_own ho, hb⟩
theorem refloop_is (r : FnR) (k : Nat) (w : World) (h : FnOk w r) (hr : RightF r.f) (L : List Int) (hL : loopN r.f.code (k : Int) = L) : Calls Try.prog 31 #[fnV r, .int .i64 (k : Int)] w (NPost L w) := by
  have := loop_any r (k : Int) w.heap.size w h.code hr (Nat.le_refl _)
  rw [hL] at this
  exact this.mono fun _ _ h => NPost.of h
theorem loopN_len (c : List Ins) (x : Int) : (loopN c x).length ≤ c.length := by
  unfold loopN
  split
  · exact Nat.zero_le _
  · have := List.length_filter_le (inLoop c x) ((List.range c.length).map Int.ofNat)
    simpa using this
/-- The heads of the first k. -/
def Cd.headsK (c : List Ins) (k : Nat) : List Int := ((List.range k).map Int.ofNat).filter (fun n => decide (loopN c n ≠ []))
theorem headsK_more (c : List Ins) (k : Nat) : headsK c (k + 1) = headsK c k ++ (if loopN c (k : Int) ≠ [] then [(k : Int)] else []) := by
  unfold headsK
  rw [range_filter_succ]
  congr 1
  by_cases h : loopN c (k : Int) = [] <;> simp [h]
theorem headsK_len (c : List Ins) (k : Nat) : (headsK c k).length ≤ k := by
  unfold headsK
  have := List.length_filter_le (fun n => decide (loopN c n ≠ [])) ((List.range k).map Int.ofNat)
  simpa using this
theorem headsK_all (c : List Ins) : headsK c c.length = headsN c := rfl
set_option maxHeartbeats 8000000 in
theorem loops_few (r : FnR) (hd : Int) (W : World) (h : FnOk W r) (hf : few9 r.f = false) : Calls Try.prog 5 #[fnV r, .int .i64 hd] W (RPost (.bool true) W) := by
  have H := Lib.hid (h.below (bx1_below W r)); have HF := Lib.hid hf
  clear h hf
  obtain ⟨x0, x1, x2, x3, x4⟩ := nv5 (heap_alloc_new W (fnO r))
  go_enter Try.func5, Try.ntmps5
  go_wp2_with (first | ((with_reducible refine (few_c r _ H.out false HF.out).mono ?_); rintro e w1 ⟨rfl, hb1⟩; have HB1 := Lib.hid ((bx1_below W r).trans (hb1.mono (by simp))); clear hb1) | ((with_reducible refine (awake9_any _).mono ?_); rintro e w2 ⟨rfl, hb2⟩; have HB2 := Lib.hid (HB1.out.trans (hb2.mono HB1.out.size)); clear hb2))
  go_ret
  exact ⟨rfl, HB2.out⟩
set_option maxHeartbeats 16000000 in
theorem loops_no (r : FnR) (hd : Int) (W : World) (h : FnOk W r) (hf : few9 r.f = true) (hr : rightF r.f = false) : Calls Try.prog 5 #[fnV r, .int .i64 hd] W (RPost (.bool true) W) := by
  have HOK : Hid (∀ V, Below W.heap.size W V → FnOk V r) := Lib.hid (fun V hb => h.below hb)
  have HF := Lib.hid hf; have HR := Lib.hid hr
  have HB0 := Lib.hid (bx1_below W r)
  have HU0 := Lib.hid (heap_alloc_new W (fnO r))
  clear h hf hr
  obtain ⟨x0, x1, x2, x3, x4⟩ := nv5 HU0.out
  go_enter Try.func5, Try.ntmps5
  go_wp2_with (first | ((with_reducible refine (few_c r _ (HOK.out _ HB0.out) true HF.out).mono ?_); rintro e w1 ⟨rfl, hb1⟩; have HU1 := Lib.hid ((hb1.block W.heap.size (by simp)).trans HU0.out); have HB1 := Lib.hid (HB0.out.trans (hb1.mono HB0.out.size)); clear hb1 x0 x1 x2 x3 x4; obtain ⟨x0, x1, x2, x3, x4⟩ := nv5 HU1.out) | ((with_reducible refine (heads_no r _ (HOK.out _ HB1.out) HR.out).mono ?_); rintro e w2 ⟨ha, hc, rfl, _, hb2⟩; have HU2 := Lib.hid ((hb2.block W.heap.size (lt_heap HU1.out)).trans HU1.out); have HB2 := Lib.hid (HB1.out.trans (hb2.mono HB1.out.size)); clear hb2 x0 x1 x2 x3 x4; obtain ⟨x0, x1, x2, x3, x4⟩ := nv5 HU2.out) | ((with_reducible refine (rightc_h r _ (HOK.out _ HB2.out) false HR.out).mono ?_); rintro e w3 ⟨rfl, hb3⟩; have HU3 := Lib.hid ((hb3.block W.heap.size (lt_heap HU2.out)).trans HU2.out); have HB3 := Lib.hid (HB2.out.trans (hb3.mono HB2.out.size)); clear hb3 x0 x1 x2 x3 x4; obtain ⟨x0, x1, x2, x3, x4⟩ := nv5 HU3.out) | ((with_reducible refine (loop_no r hd _ (HOK.out _ HB3.out) HR.out).mono ?_); rintro e w4 ⟨la, lc, rfl, _, hb4⟩; have HU4 := Lib.hid ((hb4.block W.heap.size (lt_heap HU3.out)).trans HU3.out); have HB4 := Lib.hid (HB3.out.trans (hb4.mono HB3.out.size)); clear hb4 x0 x1 x2 x3 x4; obtain ⟨x0, x1, x2, x3, x4⟩ := nv5 HU4.out) | ((with_reducible refine (awake9_any _).mono ?_); rintro e w5 ⟨rfl, hb5⟩; have HB5 := Lib.hid (HB4.out.trans (hb5.mono HB4.out.size)); clear hb5))
  go_ret
  exact ⟨rfl, HB5.out⟩
set_option maxHeartbeats 16000000 in
theorem loops_yes (r : FnR) (hd : Int) (hwf : (Lit.int .i64 hd).wf = true) (W : World) (h : FnOk W r) (hf : few9 r.f = true) (hr : RightF r.f) : Calls Try.prog 5 #[fnV r, .int .i64 hd] W (RPost (.bool true) W) := by
  have HOK : Hid (∀ V, Below W.heap.size W V → FnOk V r) := Lib.hid (fun V hb => h.below hb)
  have HF := Lib.hid hf; have HR := Lib.hid hr
  have HRB := Lib.hid (rightF_iff.2 hr)
  have HB0 := Lib.hid (bx1_below W r)
  have HU0 := Lib.hid (heap_alloc_new W (fnO r))
  have hcl := hr.code.2
  obtain ⟨H, hH⟩ : ∃ H, headsN r.f.code = H := ⟨_, rfl⟩
  have HH := Lib.hid hH
  clear h hf hr hH
  obtain ⟨x0, x1, x2, x3, x4⟩ := nv5 HU0.out
  go_enter Try.func5, Try.ntmps5
  go_wp2_with (first | ((with_reducible refine (few_c r _ (HOK.out _ HB0.out) true HF.out).mono ?_); rintro e w1 ⟨rfl, hb1⟩; have HU1 := Lib.hid ((hb1.block W.heap.size (by simp)).trans HU0.out); have HB1 := Lib.hid (HB0.out.trans (hb1.mono HB0.out.size)); clear hb1 x0 x1 x2 x3 x4; obtain ⟨x0, x1, x2, x3, x4⟩ := nv5 HU1.out) | ((with_reducible refine (heads_is r _ (HOK.out _ HB1.out) HR.out H HH.out).mono ?_); rintro e w2 ⟨ha, hc, rfl, hi, hb2⟩; have HI2 := Lib.hid hi; have HU2 := Lib.hid ((hb2.block W.heap.size (lt_heap HU1.out)).trans HU1.out); have HB2 := Lib.hid (HB1.out.trans (hb2.mono HB1.out.size)); clear hi hb2 x0 x1 x2 x3 x4; obtain ⟨x0, x1, x2, x3, x4⟩ := nv5 HU2.out) | ((with_reducible refine (rightc_h r _ (HOK.out _ HB2.out) true HRB.out).mono ?_); rintro e w3 ⟨rfl, hb3⟩; have HI3 := Lib.hid (HI2.out.below hb3); have HU3 := Lib.hid ((hb3.block W.heap.size (lt_heap HU2.out)).trans HU2.out); have HB3 := Lib.hid (HB2.out.trans (hb3.mono HB2.out.size)); clear hb3 x0 x1 x2 x3 x4; obtain ⟨x0, x1, x2, x3, x4⟩ := nv5 HU3.out))
  have hz3 : W.heap.size ≤ w3.heap.size := HB3.out.size
  have hzu := lt_heap HU3.out
  obtain ⟨i0, hi0, hz0, hz1, hz2⟩ := info_parts infoInt
  go_loopw [6, 34] (fun s6 s34 wr => ∃ (k : Nat) (l : List Int), k ≤ r.f.code.length ∧ s34 = .int .i64 (k : Int) ∧ Hid (headsK r.f.code k = l) ∧ l.length ≤ k ∧ Hid (wr.ownsRow w3.heap.size 3 1 s6 l.length (ints l)) ∧ Hid (Below w3.heap.size w3 wr)) (fun _ s34 wr => r.f.code.length - (intOf s34).toNat)
  case atStart => exact ⟨0, [], by omega, rfl, Lib.hid rfl, by simp, Lib.hid (World.ownsRow_nil _ _ _ _), Lib.hid (Below.refl _ _)⟩
  case round =>
    obtain ⟨k, l, hk, rfl, HK, hlk, HO, HBR⟩ := hrel
    obtain ⟨a6, c6, rfl⟩ := row_slice HO.out
    have HBW := Lib.hid (HB3.out.trans (HBR.out.mono hz3))
    have HUR := Lib.hid ((HBR.out.block _ hzu).trans HU3.out)
    clear x0 x1 x2 x3 x4
    obtain ⟨y0, y1, y2, y3, y4⟩ := nv5 HUR.out
    have hzr := lt_heap HUR.out
    have hsr := HBR.out.size
    have k0 : (0 : Int) ≤ (k : Int) := Int.natCast_nonneg _
    by_cases hlt : k < r.f.code.length
    · have k1 : (k : Int) < (r.f.code.length : Int) := by omega
      obtain ⟨L, hL⟩ : ∃ L, loopN r.f.code (k : Int) = L := ⟨_, rfl⟩
      have HLL : Hid (L.length ≤ 100000) := Lib.hid (by have := loopN_len r.f.code (k : Int); rw [hL] at this; omega)
      have hmore := headsK_more r.f.code k
      rw [hL, HK.out] at hmore
      have HL := Lib.hid hL; have HLT := Lib.hid hlt
      clear hL hlt
      by_cases hL0 : L = []
      · have t0 : decide ((L.length : Int) > 0) = false := by subst hL0; rfl
        have t1 : decide ((0 : Int) < (L.length : Int)) = false := by subst hL0; rfl
        have HM : Hid (headsK r.f.code (k + 1) = l) := Lib.hid (by rw [hmore, if_neg (fun q => q hL0)]; simp)
        have t2 : decide (0 < L.length) = false := by subst hL0; rfl
        clear hmore hL0
        go_wp2_with (first | ((with_reducible refine (refloop_is r k _ (HOK.out _ HBW.out) HR.out L HL.out).mono ?_); rintro e w4 ⟨la, lc, rfl, hil, hb4⟩; have HIL := Lib.hid hil; have HU4 := Lib.hid ((hb4.block W.heap.size hzr).trans HUR.out); have HO4 := Lib.hid (own_keep (w' := w4) HO.out (fun g hg => hb4.block g (HO.out.lt g hg).2)); have HB4 := Lib.hid (HBR.out.trans (hb4.mono HBR.out.size)); have hz4 : wr.heap.size ≤ w4.heap.size := hb4.size; clear hil hb4 y0 y1 y2 y3 y4; obtain ⟨y0, y1, y2, y3, y4⟩ := nv5 HU4.out) | ((with_reducible refine (loop_is r k _ (HOK.out _ (HB3.out.trans (HB4.out.mono hz3))) HR.out HLT.out L HL.out).mono ?_); rintro e w6 ⟨ga, gc, rfl, hig, hb6⟩; have HIG := Lib.hid hig; have HIL6 := Lib.hid ((LiesIn.ia HIL.out).below hb6); have HB6 := Lib.hid (HB4.out.trans (hb6.mono HB4.out.size)); have HO6 := Lib.hid (own_keep (w' := w6) HO4.out (fun g hg => hb6.block g (HO4.out.lt g hg).2)); clear hig hb6) | ((with_reducible refine (same_c L L ga la gc lc true (by simp) _ HIG.out HIL6.out HLL.out HLL.out).mono ?_); rintro e w7 ⟨rfl, hb7⟩; have HB7 := Lib.hid (HB6.out.trans (hb7.mono HB6.out.size)); have HO7 := Lib.hid (own_keep (w' := w7) HO6.out (fun g hg => hb7.block g (HO6.out.lt g hg).2)); clear hb7))
        go_roundw
        case rel => exact ⟨k + 1, l, HLT.out, by go_num, HM, by omega, HO7, HB7⟩
        case measure => have := HLT.out; simp [intOf]; omega
      · have hLp : 0 < L.length := List.length_pos_iff.2 hL0
        have t0 : decide ((L.length : Int) > 0) = true := decide_eq_true (by omega)
        have t1 : decide ((0 : Int) < (L.length : Int)) = true := decide_eq_true (by omega)
        have HM : Hid (headsK r.f.code (k + 1) = l ++ [(k : Int)]) := Lib.hid (by rw [hmore, if_pos hL0])
        clear hmore hL0
        go_wp2_with (first | ((with_reducible refine (refloop_is r k _ (HOK.out _ HBW.out) HR.out L HL.out).mono ?_); rintro e w4 ⟨la, lc, rfl, hil, hb4⟩; have HIL := Lib.hid hil; have HU4 := Lib.hid ((hb4.block W.heap.size hzr).trans HUR.out); have HO4 := Lib.hid (own_keep (w' := w4) HO.out (fun g hg => hb4.block g (HO.out.lt g hg).2)); have HB4 := Lib.hid (HBR.out.trans (hb4.mono HBR.out.size)); have hz4 : wr.heap.size ≤ w4.heap.size := hb4.size; clear hil hb4 y0 y1 y2 y3 y4; obtain ⟨y0, y1, y2, y3, y4⟩ := nv5 HU4.out) | (at_builtin; go_loud (refine wpList_append_lies _ rfl (.tmp 43) (.tmp 45) 31 rfl w3.heap.size 3 i0 (.int .i64 0) 1 8 Try.underlying31 hi0 hz0 hz1 hz2 rfl (by decide) (.slice a6 l.length c6) l.length (ints l) rfl (HO4.out.alloc _) _ 1 1 [.int .i64 (k : Int)] rfl rfl (cell_new1 _ _ _ _ (by simp)) (by simp [Value.oneCell']) (by omega) (by unfold maxLen; omega) (by omega) (by simp <;> omega) (w4.heap.size + 1) (by simp) ?_; intro g9 cap9 w5 hown hgrow hat hlt9; have HO5 := Lib.hid hown; have HB5 := Lib.hid ((HB4.out.alloc (by omega) _).grown hgrow (by simp <;> omega) (fun q e => by have := (HO4.out.lt q e).1; omega)); have HU5 := Lib.hid ((hgrow.block W.heap.size (by simp <;> omega) (fun e => by have := (HO4.out.lt _ e.symm).1; omega)).trans ((Below.heap_alloc _ _ _ (by omega)).trans HU4.out)); have HIL5 := Lib.hid (LiesIn.keep (w' := w5) HIL.out (by have := hgrow.size; simp at this; omega) (fun g q1 q2 => (hgrow.block g (by simp; omega) (fun e => by have := (HO.out.lt g (by rw [e])).2; omega)).trans (Below.heap_alloc _ _ _ (by omega)))); clear hown hgrow hat hlt9 y0 y1 y2 y3 y4; obtain ⟨y0, y1, y2, y3, y4⟩ := nv5 HU5.out)) | ((with_reducible refine (loop_is r k _ (HOK.out _ (HB3.out.trans (HB5.out.mono hz3))) HR.out HLT.out L HL.out).mono ?_); rintro e w6 ⟨ga, gc, rfl, hig, hb6⟩; have HIG := Lib.hid hig; have HIL6 := Lib.hid ((LiesIn.ia HIL5.out).below hb6); have HB6 := Lib.hid (HB5.out.trans (hb6.mono HB5.out.size)); have HO6 := Lib.hid (own_keep (w' := w6) HO5.out (fun g hg => hb6.block g (HO5.out.lt g hg).2)); clear hig hb6) | ((with_reducible refine (same_c L L ga la gc lc true (by simp) _ HIG.out HIL6.out HLL.out HLL.out).mono ?_); rintro e w7 ⟨rfl, hb7⟩; have HB7 := Lib.hid (HB6.out.trans (hb7.mono HB6.out.size)); have HO7 := Lib.hid (own_keep (w' := w7) HO6.out (fun g hg => hb7.block g (HO6.out.lt g hg).2)); clear hb7))
        go_roundw
        case rel => exact ⟨k + 1, l ++ [(k : Int)], HLT.out, by go_num, HM, by simp; omega, Lib.hid (by simpa using HO7.out), HB7⟩
        case measure => have := HLT.out; simp [intOf]; omega
    · obtain rfl : k = r.f.code.length := by omega
      obtain rfl : H = l := by rw [← HH.out, ← HK.out]; rfl
      have HIH := Lib.hid (HI3.out.below HBR.out)
      have HIW := Lib.hid (IntsAt.of_own HO.out)
      have HHL : Hid (H.length ≤ 100000) := Lib.hid (by omega)
      by_cases h0 : 0 ≤ hd
      · have t0 : decide (hd ≥ 0) = true := decide_eq_true h0
        have t1 : decide (0 ≤ hd) = true := decide_eq_true h0
        by_cases h1 : hd < (r.f.code.length : Int)
        · go_wp2_with (first | ((with_reducible refine (same_c H H ha a6 hc c6 true (by simp) _ HIH.out HIW.out HHL.out HHL.out).mono ?_); rintro e w4 ⟨rfl, hb4⟩; have HU4 := Lib.hid ((hb4.block W.heap.size hzr).trans HUR.out); have HB4 := Lib.hid (HBW.out.trans (hb4.mono HBW.out.size)); clear hb4 y0 y1 y2 y3 y4; obtain ⟨y0, y1, y2, y3, y4⟩ := nv5 HU4.out) | ((with_reducible refine (awake9_any _).mono ?_); rintro e w9 ⟨rfl, hb9⟩; have HB9 := Lib.hid (HB4.out.trans (hb9.mono HB4.out.size)); clear hb9))
          go_ret
          exact ⟨rfl, HB9.out⟩
        · have t2 : decide (hd < (r.f.code.length : Int)) = false := decide_eq_false h1
          have HOUT := Lib.hid (show ¬ (0 ≤ hd ∧ hd < (r.f.code.length : Int)) from fun q => h1 q.2)
          clear h1
          go_wp2_with (first | ((with_reducible refine (same_c H H ha a6 hc c6 true (by simp) _ HIH.out HIW.out HHL.out HHL.out).mono ?_); rintro e w4 ⟨rfl, hb4⟩; have HU4 := Lib.hid ((hb4.block W.heap.size hzr).trans HUR.out); have HB4 := Lib.hid (HBW.out.trans (hb4.mono HBW.out.size)); clear hb4 y0 y1 y2 y3 y4; obtain ⟨y0, y1, y2, y3, y4⟩ := nv5 HU4.out) | ((with_reducible refine (loop_off r hd _ (HOK.out _ HB4.out) HR.out HOUT.out).mono ?_); rintro e w5 ⟨ga, gc, rfl, _, hb5⟩; have HB5 := Lib.hid (HB4.out.trans (hb5.mono HB4.out.size)); clear hb5) | ((with_reducible refine (awake9_any _).mono ?_); rintro e w9 ⟨rfl, hb9⟩; have HB9 := Lib.hid (HB5.out.trans (hb9.mono HB5.out.size)); clear hb9))
          go_ret
          exact ⟨rfl, HB9.out⟩
      · have t0 : decide (hd ≥ 0) = false := decide_eq_false h0
        have t1 : decide (0 ≤ hd) = false := decide_eq_false h0
        have HOUT := Lib.hid (show ¬ (0 ≤ hd ∧ hd < (r.f.code.length : Int)) from fun q => h0 q.1)
        clear h0
        go_wp2_with (first | ((with_reducible refine (same_c H H ha a6 hc c6 true (by simp) _ HIH.out HIW.out HHL.out HHL.out).mono ?_); rintro e w4 ⟨rfl, hb4⟩; have HU4 := Lib.hid ((hb4.block W.heap.size hzr).trans HUR.out); have HB4 := Lib.hid (HBW.out.trans (hb4.mono HBW.out.size)); clear hb4 y0 y1 y2 y3 y4; obtain ⟨y0, y1, y2, y3, y4⟩ := nv5 HU4.out) | ((with_reducible refine (loop_off r hd _ (HOK.out _ HB4.out) HR.out HOUT.out).mono ?_); rintro e w5 ⟨ga, gc, rfl, _, hb5⟩; have HB5 := Lib.hid (HB4.out.trans (hb5.mono HB4.out.size)); clear hb5) | ((with_reducible refine (awake9_any _).mono ?_); rintro e w9 ⟨rfl, hb9⟩; have HB9 := Lib.hid (HB5.out.trans (hb9.mono HB5.out.size)); clear hb9))
        go_ret
        exact ⟨rfl, HB9.out⟩
theorem loops_any (r : FnR) (W : World) (hc : CodeAt W W.heap.size r) (hl : r.f.code.length ≤ maxLen) (hd : Int) (hwf : (Lit.int .i64 hd).wf = true) : Calls Try.prog 5 #[fnV r, .int .i64 hd] W (RPost (.bool true) W) := by
  cases hf : few9 r.f with
  | false => exact loops_few r hd W ⟨hc, hl⟩ hf
  | true =>
    cases hr : rightF r.f with
    | false => exact loops_no r hd W ⟨hc, hl⟩ hf hr
    | true => exact loops_yes r hd hwf W ⟨hc, hl⟩ hf (rightF_iff.1 hr)
end Go.Proofs.Ytbpagfddofbjbaa
