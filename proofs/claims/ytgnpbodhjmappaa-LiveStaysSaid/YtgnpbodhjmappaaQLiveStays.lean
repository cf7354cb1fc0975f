/-
  LiveStays: a function without a pure instruction, all of which is reached, is swept to itself; what is swept keeps all that is not pure and is reached.
-/
import Derived.Test.YtgnpbodhjmappaaQLiveSweeps
import Derived.Test.YtgnpbodhjmappaaQG10Stays
import Derived.Test.YtgnpbodhjmappaaQMJ
namespace Go.Proofs.Ytgnpbodhjmappaa
set_option maxRecDepth 100000
open Go.RowKit Cd
set_option linter.unusedVariables false
set_option linter.unusedSimpArgs false

theorem pure_v (i : Ins) (q : Bool) (hq : pureI i = q) (w : World) : Calls Try.prog 23 #[inV i] w (RPost (.bool q) w) := hq ▸ pure_any i w
set_option maxHeartbeats 8000000 in
theorem lst_few (name : List UInt8) (params regs frame : Int) (code : List Ins) (ca : Option Addr) (cc : Nat) (W : World) (h : LvK W ⟨⟨name, params, regs, frame, code⟩, ca, cc⟩) (hf : few10 ⟨name, params, regs, frame, code⟩ = false) : Calls Try.prog 5 #[fnV ⟨⟨name, params, regs, frame, code⟩, ca, cc⟩] W (RPost (.bool true) W) := by
  have HF := Lib.hid hf
  have HB0 := Lib.hid (box_lv W ⟨⟨name, params, regs, frame, code⟩, ca, cc⟩)
  have HK := Lib.hid (h.below HB0.out)
  obtain ⟨x0, x1, x2, x3, x4⟩ := nv5 (heap_alloc_new W (fnO ⟨⟨name, params, regs, frame, code⟩, ca, cc⟩))
  clear h hf
  go_enter Try.func5, Try.ntmps5
  go_wp2_with (first | ((with_reducible refine (few10_c ⟨⟨name, params, regs, frame, code⟩, ca, cc⟩ _ HK.out false HF.out).mono ?_); rintro e w1 ⟨rfl, hb1⟩; have HB1 := Lib.hid (HB0.out.trans (hb1.mono HB0.out.size)); clear hb1) | ((with_reducible refine (awake10_any _).mono ?_); rintro e w2 ⟨rfl, hb2⟩; have HB2 := Lib.hid (HB1.out.trans (hb2.mono HB1.out.size)); clear hb2))
  go_ret
  exact ⟨rfl, HB2.out⟩
set_option maxHeartbeats 8000000 in
theorem lst_no (name : List UInt8) (params regs frame : Int) (code : List Ins) (ca : Option Addr) (cc : Nat) (W : World) (h : LvK W ⟨⟨name, params, regs, frame, code⟩, ca, cc⟩) (hf : few10 ⟨name, params, regs, frame, code⟩ = true) (hr : rightF ⟨name, params, regs, frame, code⟩ = false) : Calls Try.prog 5 #[fnV ⟨⟨name, params, regs, frame, code⟩, ca, cc⟩] W (RPost (.bool true) W) := by
  have HF := Lib.hid hf; have HR := Lib.hid hr
  have hl25 := few10_lenL hf
  simp only at hl25
  have hmx : code.length ≤ maxLen := by unfold maxLen; omega
  have HB0 := Lib.hid (box_lv W ⟨⟨name, params, regs, frame, code⟩, ca, cc⟩)
  have HK := Lib.hid (h.below HB0.out)
  have HX := Lib.hid (heap_alloc_new W (fnO ⟨⟨name, params, regs, frame, code⟩, ca, cc⟩))
  have HC := Lib.hid (h.code.below HB0.out)
  obtain ⟨x0, x1, x2, x3, x4⟩ := nv5 HX.out
  clear h hf hr
  go_enter Try.func5, Try.ntmps5
  go_wp2_with (first | ((with_reducible refine (few10_c ⟨⟨name, params, regs, frame, code⟩, ca, cc⟩ _ HK.out true HF.out).mono ?_); rintro e w1 ⟨rfl, hb1⟩; have HB1 := Lib.hid (HB0.out.trans (hb1.mono HB0.out.size)); have HX1 := Lib.hid ((hb1.block _ (lt_heap HX.out)).trans HX.out); have HC1 := Lib.hid (code_up (HC.out.below (hb1.mono HB0.out.size)) (Nat.le_trans HB0.out.size hb1.size)); clear hb1 x0 x1 x2 x3 x4; obtain ⟨x0, x1, x2, x3, x4⟩ := nv5 HX1.out) | ((with_reducible refine (refR HC1.out hmx false HR.out).mono ?_); rintro e w4 ⟨rfl, hb4⟩; have HB4 := Lib.hid (HB1.out.trans (hb4.mono HB1.out.size)); clear hb4 x0 x1 x2 x3 x4) | ((with_reducible refine (awake10_any _).mono ?_); rintro e w6 ⟨rfl, hb6⟩; have HB6 := Lib.hid (HB4.out.trans (hb6.mono HB4.out.size)); clear hb6))
  go_ret
  exact ⟨rfl, HB6.out⟩
set_option maxHeartbeats 16000000 in
theorem lst_yes (name : List UInt8) (params regs frame : Int) (code : List Ins) (ca : Option Addr) (cc : Nat) (W : World) (h : LvK W ⟨⟨name, params, regs, frame, code⟩, ca, cc⟩) (hf : few10 ⟨name, params, regs, frame, code⟩ = true) (hr : RightF ⟨name, params, regs, frame, code⟩) (gc : List Ins) (hg : sweepF ⟨name, params, regs, frame, code⟩ = ⟨name, params, regs, frame, gc⟩) : Calls Try.prog 5 #[fnV ⟨⟨name, params, regs, frame, code⟩, ca, cc⟩] W (RPost (.bool true) W) := by
  have HF := Lib.hid hf; have HR := Lib.hid hr; have HG := Lib.hid hg
  have hl25 := few10_lenL hf
  simp only at hl25
  have hmx : code.length ≤ maxLen := by unfold maxLen; omega
  have hgl : gc.length ≤ code.length := by have := sweepF_len ⟨name, params, regs, frame, code⟩; rw [hg] at this; exact this
  have hgm : gc.length ≤ maxLen := by unfold maxLen; omega
  have hcn := sweep_counts hr
  rw [hg] at hcn
  have HCN := Lib.hid hcn
  have HSM : Hid ((bothL code).countP isGone = 0 → (bothL code).countP isPure = 0 → gc = code) := Lib.hid (fun a b => by
    have := sweep_same hr a b
    rw [hg] at this
    injection this)
  have HB0 := Lib.hid (box_lv W ⟨⟨name, params, regs, frame, code⟩, ca, cc⟩)
  have HK := Lib.hid (h.below HB0.out)
  have HX := Lib.hid (heap_alloc_new W (fnO ⟨⟨name, params, regs, frame, code⟩, ca, cc⟩))
  have HC := Lib.hid (h.code.below HB0.out)
  have hbl := bothL_len code
  have HBLN := Lib.hid hbl
  obtain ⟨x0, x1, x2, x3, x4⟩ := nv5 HX.out
  clear h hf hr hg hcn hbl
  go_enter Try.func5, Try.ntmps5
  go_upto_region 5 with (first | ((with_reducible refine (few10_c ⟨⟨name, params, regs, frame, code⟩, ca, cc⟩ _ HK.out true HF.out).mono ?_); rintro e w1 ⟨rfl, hb1⟩; have HB1 := Lib.hid (HB0.out.trans (hb1.mono HB0.out.size)); have HX1 := Lib.hid ((hb1.block _ (lt_heap HX.out)).trans HX.out); have HC1 := Lib.hid (HC.out.below (hb1.mono HB0.out.size)); clear hb1 x0 x1 x2 x3 x4; obtain ⟨x0, x1, x2, x3, x4⟩ := nv5 HX1.out) | ((with_reducible refine (refR (code_up HC1.out HB1.out.size) hmx true (rightF_iff.2 HR.out)).mono ?_); rintro e w4 ⟨rfl, hb4⟩; have HB4 := Lib.hid (HB1.out.trans (hb4.mono HB1.out.size)); have HX4 := Lib.hid ((hb4.block _ (lt_heap HX1.out)).trans HX1.out); have HC4 := Lib.hid (HC1.out.below (hb4.mono HB1.out.size)); clear hb4 x0 x1 x2 x3 x4; obtain ⟨x0, x1, x2, x3, x4⟩ := nv5 HX4.out) | ((with_reducible refine (sweep_g ⟨name, params, regs, frame, code⟩ ⟨name, params, regs, frame, gc⟩ HG.out ca cc _ (code_up HC4.out HB4.out.size) (by show code.length ≤ 10000; omega)).mono ?_); rintro e w2 ⟨cg, c9, rfl, q1, q2, q3, q4⟩; have HS := Lib.hid (S2.first (w := W) (cc := c9) HX4.out HC4.out HB4.out q4 q2 q3); clear q1 q2 q3 q4 x0 x1 x2 x3 x4))
  generalize w2.alloc (fnO ⟨⟨name, params, regs, frame, gc⟩, some ⟨cg, 0, none⟩, c9⟩) = w3 at *
  generalize w2.heap.size = G at *
  obtain ⟨x0, x1, x2, x3, x4⟩ := nv5 HS.out.fb
  go_wp2
  clear x0 x1 x2 x3 x4
  go_loopw [5, 6, 7, 29] (fun s5 s6 s7 s29 wr => ∃ k a b c : Nat, k ≤ code.length ∧ s29 = .int .i64 (k : Int) ∧ s5 = .int .i64 (a : Int) ∧ s6 = .int .i64 (b : Int) ∧ s7 = .int .i64 (c : Int) ∧ a ≤ k ∧ b ≤ k ∧ c ≤ k ∧ Hid (((bothL code).take k).countP isPure = a ∧ ((bothL code).take k).countP isGone = b ∧ ((bothL code).take k).countP isKept = c) ∧ Hid (S2 W wr ⟨⟨name, params, regs, frame, code⟩, ca, cc⟩ ⟨name, params, regs, frame, gc⟩ G cg c9)) (fun _ _ _ s29 wr => code.length - (Go.RowKit.intOf s29).toNat)
  case atStart => exact ⟨0, 0, 0, 0, by omega, rfl, rfl, rfl, rfl, by omega, by omega, by omega, Lib.hid ⟨rfl, rfl, rfl⟩, HS⟩
  case round =>
    clear HS
    obtain ⟨k, a, b, c, hk, rfl, rfl, rfl, rfl, ha, hb, hc, HCT, HSK⟩ := hrel
    have k0 : (0 : Int) ≤ (k : Int) := Int.natCast_nonneg _
    have a0 : (0 : Int) ≤ (a : Int) := Int.natCast_nonneg _
    have b0 : (0 : Int) ≤ (b : Int) := Int.natCast_nonneg _
    have c0 : (0 : Int) ≤ (c : Int) := Int.natCast_nonneg _
    by_cases hlt : k < code.length
    · have k1 : (k : Int) < (code.length : Int) := by omega
      obtain ⟨i, hi⟩ : ∃ i, code[k]? = some i := ⟨_, List.getElem?_eq_getElem hlt⟩
      have hcm := fun (f : Bool × Ins → Bool) => count_more f (bothL_at hi)
      have HCM := Lib.hid hcm
      obtain ⟨b1, off, hca, hb1, hBw, q0, q1, q2, q3, q4, q5, q6, q7, q8, q9, q10, q11, q12, q13, q14⟩ := HSK.out.c0.cells hi
      simp only at hca
      subst hca
      have HLT := Lib.hid hlt
      clear hlt hi hcm
      go_upto_region 8 with fail
      have hba := (Below.refl wr.heap.size wr).alloc (Nat.le_refl _) (inO i)
      have HSA := Lib.hid (HSK.out.below hba)
      have HP := Lib.hid (heap_alloc_new wr (inO i))
      clear hba q0 q1 q2 q3 q4 q5 q6 q7 q8 q9 q10 q11 q12 q13 q14
      obtain ⟨wa, hwa⟩ : ∃ wa, wr.alloc (inO i) = wa := ⟨_, rfl⟩
      obtain ⟨Y, hY⟩ : ∃ Y, wr.heap.size = Y := ⟨_, rfl⟩
      rw [hwa] at HP HSA ⊢
      rw [hY] at HP ⊢
      clear hwa hY HSK
      obtain ⟨x0, x1, x2, x3, x4⟩ := nv5 HSA.out.fb
      obtain ⟨rb, hrb⟩ : ∃ rb, reachedB code (k : Int) = rb := ⟨_, rfl⟩
      obtain ⟨pb, hpb⟩ : ∃ pb, pureI i = pb := ⟨_, rfl⟩
      have HRB := Lib.hid hrb; have HPB := Lib.hid hpb
      clear hrb hpb
      cases rb with
      | false =>
        have HCT1 : Hid (((bothL code).take (k + 1)).countP isPure = a ∧ ((bothL code).take (k + 1)).countP isGone = b + 1 ∧ ((bothL code).take (k + 1)).countP isKept = c) := Lib.hid (by
          obtain ⟨h1, h2, h3⟩ := HCT.out
          rw [HCM.out, HCM.out, HCM.out, h1, h2, h3]
          simp [isPure, isGone, isKept, HRB.out])
        go_wp2_with ((with_reducible refine (reachR HSA.out.f HR.out (k : Int) false HRB.out).mono ?_); rintro e w7 ⟨rfl, hb7⟩; have HS7 := Lib.hid (HSA.out.below hb7); clear hb7 x0 x1 x2 x3 x4)
        go_roundw
        case rel => exact ⟨k + 1, a, b + 1, c, HLT.out, by go_num, rfl, by go_num, rfl, by omega, by omega, by omega, HCT1, HS7⟩
        case measure => have := HLT.out; simp [Go.RowKit.intOf]; omega
      | true =>
        cases pb with
        | true =>
          have HCT1 : Hid (((bothL code).take (k + 1)).countP isPure = a + 1 ∧ ((bothL code).take (k + 1)).countP isGone = b ∧ ((bothL code).take (k + 1)).countP isKept = c) := Lib.hid (by
            obtain ⟨h1, h2, h3⟩ := HCT.out
            rw [HCM.out, HCM.out, HCM.out, h1, h2, h3]
            simp [isPure, isGone, isKept, HRB.out, HPB.out])
          go_wp2_with (first | ((with_reducible refine (reachR HSA.out.f HR.out (k : Int) true HRB.out).mono ?_); rintro e w7 ⟨rfl, hb7⟩; have HS7 := Lib.hid (HSA.out.below hb7); have HP7 := Lib.hid ((hb7.block _ (lt_heap HP.out)).trans HP.out); clear hb7 x0 x1 x2 x3 x4; obtain ⟨d0, d1, d2, d3, d4, d5, d6, d7, d8, d9, d10, d11, d12, d13, d14⟩ := nv15 HP7.out) | ((with_reducible refine (pure_v i true HPB.out _).mono ?_); rintro e w8 ⟨rfl, hb8⟩; have HS8 := Lib.hid (HS7.out.below hb8); clear hb8 d0 d1 d2 d3 d4 d5 d6 d7 d8 d9 d10 d11 d12 d13 d14))
          go_roundw
          case rel => exact ⟨k + 1, a + 1, b, c, HLT.out, by go_num, by go_num, rfl, rfl, by omega, by omega, by omega, HCT1, HS8⟩
          case measure => have := HLT.out; simp [Go.RowKit.intOf]; omega
        | false =>
          have HCT1 : Hid (((bothL code).take (k + 1)).countP isPure = a ∧ ((bothL code).take (k + 1)).countP isGone = b ∧ ((bothL code).take (k + 1)).countP isKept = c + 1) := Lib.hid (by
            obtain ⟨h1, h2, h3⟩ := HCT.out
            rw [HCM.out, HCM.out, HCM.out, h1, h2, h3]
            simp [isPure, isGone, isKept, HRB.out, HPB.out])
          go_wp2_with (first | ((with_reducible refine (reachR HSA.out.f HR.out (k : Int) true HRB.out).mono ?_); rintro e w7 ⟨rfl, hb7⟩; have HS7 := Lib.hid (HSA.out.below hb7); have HP7 := Lib.hid ((hb7.block _ (lt_heap HP.out)).trans HP.out); clear hb7 x0 x1 x2 x3 x4; obtain ⟨d0, d1, d2, d3, d4, d5, d6, d7, d8, d9, d10, d11, d12, d13, d14⟩ := nv15 HP7.out) | ((with_reducible refine (pure_v i false HPB.out _).mono ?_); rintro e w8 ⟨rfl, hb8⟩; have HS8 := Lib.hid (HS7.out.below hb8); clear hb8 d0 d1 d2 d3 d4 d5 d6 d7 d8 d9 d10 d11 d12 d13 d14))
          go_roundw
          case rel => exact ⟨k + 1, a, b, c + 1, HLT.out, by go_num, rfl, rfl, by go_num, by omega, by omega, by omega, HCT1, HS8⟩
          case measure => have := HLT.out; simp [Go.RowKit.intOf]; omega
    · obtain rfl : k = code.length := by omega
      have hct := HCT.out
      rw [← HBLN.out, List.take_length] at hct
      obtain ⟨h1, h2, h3⟩ := hct
      obtain ⟨g1, g2, g3⟩ := HCN.out
      have HN1 := Lib.hid h1; have HN2 := Lib.hid h2
      have HKC : Hid (gc.countP (fun i => !pureI i) = c) := Lib.hid (by rw [← h3]; exact g1)
      have m1 : b + gc.length ≤ code.length := by rw [← h2]; exact g2
      have m2 : code.length ≤ b + a + gc.length := by rw [← h2, ← h1]; exact g3
      obtain ⟨y0, y1, y2, y3, y4⟩ := nv5 HSK.out.gb
      clear h1 h2 h3 g1 g2 g3
      go_wp2
      clear y0 y1 y2 y3 y4
      go_loopw [7, 50] (fun s7 s50 wr => ∃ q d : Nat, q ≤ gc.length ∧ s50 = .int .i64 (q : Int) ∧ s7 = .int .i64 ((c : Int) - (d : Int)) ∧ d ≤ q ∧ Hid ((gc.take q).countP (fun i => !pureI i) = d) ∧ Hid (S2 W wr ⟨⟨name, params, regs, frame, code⟩, ca, cc⟩ ⟨name, params, regs, frame, gc⟩ G cg c9)) (fun _ s50 wr => gc.length - (Go.RowKit.intOf s50).toNat)
      case atStart => exact ⟨0, 0, by omega, rfl, by simp, by omega, Lib.hid rfl, HSK⟩
      case round =>
        clear HSK HCT
        obtain ⟨q, d, hq, rfl, rfl, hd, HD, HSQ⟩ := hrel
        have q0 : (0 : Int) ≤ (q : Int) := Int.natCast_nonneg _
        by_cases hlt : q < gc.length
        · have q1 : (q : Int) < (gc.length : Int) := by omega
          obtain ⟨i, hi⟩ : ∃ i, gc[q]? = some i := ⟨_, List.getElem?_eq_getElem hlt⟩
          have HCM := Lib.hid (count_more (fun i => !pureI i) hi)
          obtain ⟨b1, off, hca, hb1, hBw, p0, p1, p2, p3, p4, p5, p6, p7, p8, p9, p10, p11, p12, p13, p14⟩ := HSQ.out.fg.cells hi
          simp only [Option.some.injEq, Addr.mk.injEq] at hca
          obtain ⟨rfl, rfl, _⟩ := hca
          simp only [Nat.zero_add] at p0 p1 p2 p3 p4 p5 p6 p7 p8 p9 p10 p11 p12 p13 p14
          have HLT := Lib.hid hlt
          obtain ⟨pb, hpb⟩ : ∃ pb, pureI i = pb := ⟨_, rfl⟩
          have HPB := Lib.hid hpb
          clear hlt hi hpb
          go_upto_region 17 with fail
          have hba := (Below.refl wr.heap.size wr).alloc (Nat.le_refl _) (inO i)
          have HSA := Lib.hid (HSQ.out.below hba)
          have HP := Lib.hid (heap_alloc_new wr (inO i))
          clear hba p0 p1 p2 p3 p4 p5 p6 p7 p8 p9 p10 p11 p12 p13 p14
          obtain ⟨wa, hwa⟩ : ∃ wa, wr.alloc (inO i) = wa := ⟨_, rfl⟩
          obtain ⟨Y, hY⟩ : ∃ Y, wr.heap.size = Y := ⟨_, rfl⟩
          rw [hwa] at HP HSA ⊢
          rw [hY] at HP ⊢
          clear hwa hY HSQ
          obtain ⟨d0, d1, d2, d3, d4, d5, d6, d7, d8, d9, d10, d11, d12, d13, d14⟩ := nv15 HP.out
          cases pb with
          | true =>
            have HD1 : Hid ((gc.take (q + 1)).countP (fun i => !pureI i) = d) := Lib.hid (by rw [HCM.out, HD.out, HPB.out]; simp)
            go_wp2_with ((with_reducible refine (pure_v i true HPB.out _).mono ?_); rintro e w8 ⟨rfl, hb8⟩; have HS8 := Lib.hid (HSA.out.below hb8); clear hb8 d0 d1 d2 d3 d4 d5 d6 d7 d8 d9 d10 d11 d12 d13 d14)
            go_roundw
            case rel => exact ⟨q + 1, d, HLT.out, by go_num, rfl, by omega, HD1, HS8⟩
            case measure => have := HLT.out; simp [Go.RowKit.intOf]; omega
          | false =>
            have HD1 : Hid ((gc.take (q + 1)).countP (fun i => !pureI i) = d + 1) := Lib.hid (by rw [HCM.out, HD.out, HPB.out]; simp)
            go_wp2_with ((with_reducible refine (pure_v i false HPB.out _).mono ?_); rintro e w8 ⟨rfl, hb8⟩; have HS8 := Lib.hid (HSA.out.below hb8); clear hb8 d0 d1 d2 d3 d4 d5 d6 d7 d8 d9 d10 d11 d12 d13 d14)
            go_roundw
            case rel => exact ⟨q + 1, d + 1, HLT.out, by go_num, by rw [show (c : Int) - (d : Int) - 1 = (c : Int) - ((d + 1 : Nat) : Int) by omega], by omega, HD1, HS8⟩
            case measure => have := HLT.out; simp [Go.RowKit.intOf]; omega
        · obtain rfl : q = gc.length := by omega
          have hdc : d = c := by have h1 := HD.out; rw [List.take_length, HKC.out] at h1; exact h1.symm
          subst hdc
          have t1 : (d : Int) - (d : Int) = 0 := by omega
          have t2 : decide ((b : Int) ≤ (code.length : Int) - (gc.length : Int)) = true := by rw [decide_eq_true_eq]; omega
          have t3 : wrap64 ((b : Int) + (a : Int)) = (b : Int) + (a : Int) := by unfold wrap64; omega
          have t4 : decide ((code.length : Int) - (gc.length : Int) ≤ (b : Int) + (a : Int)) = true := by rw [decide_eq_true_eq]; omega
          have t5 : wrap64 ((a : Int) + (b : Int)) = (a : Int) + (b : Int) := by unfold wrap64; omega
          obtain ⟨x0, x1, x2, x3, x4⟩ := nv5 HSQ.out.fb
          obtain ⟨y0, y1, y2, y3, y4⟩ := nv5 HSQ.out.gb
          by_cases hz : a + b = 0
          · have ha0 : a = 0 := by omega
            have hb0 : b = 0 := by omega
            have hgc := HSM.out (by rw [HN2.out, hb0]) (by rw [HN1.out, ha0])
            subst ha0 hb0
            subst hgc
            clear t3 t5
            have t6 : decide ((0 : Int) ≤ (gc.length : Int) - (gc.length : Int)) = true := by rw [decide_eq_true_eq]; omega
            have t7 : decide ((gc.length : Int) - (gc.length : Int) ≤ 0) = true := by rw [decide_eq_true_eq]; omega
            go_wp2_with (first | ((with_reducible refine (same_c ⟨name, params, regs, frame, gc⟩ ca (some ⟨cg, 0, none⟩) cc c9 _ HSQ.out.f HSQ.out.fg hgm).mono ?_); rintro e w8 ⟨rfl, hb8⟩; have HS8 := Lib.hid (HSQ.out.below hb8); clear hb8 x0 x1 x2 x3 x4 y0 y1 y2 y3 y4) | ((with_reducible refine (awake10_any _).mono ?_); rintro e w9 ⟨rfl, hb9⟩; have HS9 := Lib.hid (HS8.out.below hb9); clear hb9))
            go_ret
            exact ⟨rfl, HS9.out.hb⟩
          · have t6 : decide ((a : Int) + (b : Int) > 0) = true := by rw [decide_eq_true_eq]; omega
            have t7 : decide ((0 : Int) < (a : Int) + (b : Int)) = true := t6
            have t8 : (0 : Int) < (a : Int) + (b : Int) := by omega
            go_wp2_with ((with_reducible refine (awake10_any _).mono ?_); rintro e w9 ⟨rfl, hb9⟩; have HS9 := Lib.hid (HSQ.out.below hb9); clear hb9)
            go_ret
            exact ⟨rfl, HS9.out.hb⟩
theorem lst_any (r : FnR) (W : World) (h : LvK W r) : Calls Try.prog 5 #[fnV r] W (RPost (.bool true) W) := by
  obtain ⟨⟨name, params, regs, frame, code⟩, ca, cc⟩ := r
  by_cases hf : few10 ⟨name, params, regs, frame, code⟩ = true
  · by_cases hr : RightF ⟨name, params, regs, frame, code⟩
    · obtain ⟨h1, h2, h3, h4⟩ := sweepF_heads ⟨name, params, regs, frame, code⟩
      refine lst_yes name params regs frame code ca cc W h hf hr (sweepF ⟨name, params, regs, frame, code⟩).code ?_
      generalize sweepF ⟨name, params, regs, frame, code⟩ = g at *
      obtain ⟨n, p, r, f, c⟩ := g
      simp only at h1 h2 h3 h4
      subst h1 h2 h3 h4
      rfl
    · exact lst_no name params regs frame code ca cc W h hf (by rw [← Bool.not_eq_true, rightF_iff]; exact hr)
  · exact lst_few name params regs frame code ca cc W h (by simpa using hf)
end Go.Proofs.Ytgnpbodhjmappaa
