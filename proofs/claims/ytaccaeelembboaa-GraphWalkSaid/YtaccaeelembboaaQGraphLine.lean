/-
  GraphLine: of two that dominate a third one, one dominates the other one; the first instruction dominates all that are reached.
-/
import Derived.Test.YtaccaeelembboaaQG9G
import Derived.Deep.CutRange
import Derived.Deep.DeepCutAuto
namespace Go.Proofs.Ytaccaeelembboaa
open Go.RowKit Cd Go.Maps
set_option linter.unusedVariables false
set_option linter.unusedSimpArgs false

theorem line_or {f : Fnc} {a b c : Int} (h1 : domR (followG f) a c = true) (h2 : domR (followG f) b c = true) : domR (followG f) a b = true ∨ domR (followG f) b a = true := by
  unfold followG at *
  by_cases hf : rightF f = true
  · rw [if_pos hf] at *
    have hr := rightF_iff.1 hf
    have hc := closed_of hr
    have h0 := hr.code.1
    exact (dom_line ((domR_dom hc h0 _ _).1 h1) ((domR_dom hc h0 _ _).1 h2)).imp (domR_dom hc h0 _ _).2 (domR_dom hc h0 _ _).2
  · rw [if_neg hf, domR_nil] at h1
    cases h1
theorem reachL_at {G : List (List Int)} {k : Nat} {b : Bool} (h : (reachL G)[k]? = some b) : k < G.length ∧ domR G 0 (k : Int) = b ∧ domR G (k : Int) (k : Int) = b := by
  unfold reachL at h
  split at h
  · simp at h
  · have hk := (List.getElem?_eq_some_iff.1 h).1
    rw [foundB_len] at hk
    have hv := foundB_v hk h
    refine ⟨hk, ?_, ?_⟩
    · rw [Bool.eq_iff_iff, domR_iff, hv]
      constructor
      · exact fun q => q.2.2.2.2.1
      · intro q
        refine ⟨Int.le_refl _, Int.natCast_nonneg _, by omega, by omega, q, fun p => ?_⟩
        have key : ∀ {x : Int}, Path G 0 [0] x → False := fun {x} p => by
          induction p with
          | start h1 h2 => exact h2 (List.mem_singleton.1 h1)
          | more _ _ _ ih => exact ih
        exact key p
    · rw [Bool.eq_iff_iff, domR_iff, hv]
      constructor
      · exact fun q => q.2.2.2.2.1
      · exact fun q => ⟨Int.natCast_nonneg _, Int.natCast_nonneg _, by omega, by omega, q, fun p => p.not rfl⟩
set_option maxRecDepth 100000 in
set_option maxHeartbeats 8000000 in
theorem line_no (r : FnR) (a b c : Int) (W : World) (h : FnOk W r) (hf : few9 r.f = false) : Calls Try.prog 6 #[fnV r, .int .i64 a, .int .i64 b, .int .i64 c] W (RPost (.bool true) W) := by
  have H := Lib.hid (h.below (bx1_below W r)); have HF := Lib.hid hf
  clear h hf
  obtain ⟨x0, x1, x2, x3, x4⟩ := nv5 (heap_alloc_new W (fnO r))
  go_enter Try.func6, Try.ntmps6
  go_wp2_with (first | ((with_reducible refine (few_c r _ H.out false HF.out).mono ?_); rintro e w1 ⟨rfl, hb1⟩; have HB1 := Lib.hid ((bx1_below W r).trans (hb1.mono (by simp))); clear hb1) | ((with_reducible refine (awake9_any _).mono ?_); rintro e w2 ⟨rfl, hb2⟩; have HB2 := Lib.hid (HB1.out.trans (hb2.mono HB1.out.size)); clear hb2))
  go_ret
  exact ⟨rfl, HB2.out⟩
set_option maxRecDepth 100000 in
set_option maxHeartbeats 16000000 in
theorem line_yes (r : FnR) (a b c : Int) (W : World) (h : FnOk W r) (hf : few9 r.f = true) : Calls Try.prog 6 #[fnV r, .int .i64 a, .int .i64 b, .int .i64 c] W (RPost (.bool true) W) := by
  have HOK : Hid (∀ V, Below W.heap.size W V → FnOk V r) := Lib.hid (fun V hb => h.below hb)
  have HF := Lib.hid hf
  obtain ⟨G, hG⟩ : ∃ G, followG r.f = G := ⟨_, rfl⟩
  have HG := Lib.hid hG
  have HLINE : Hid (domR G a c = true → domR G b c = true → domR G a b = true ∨ domR G b a = true) := Lib.hid (hG ▸ line_or)
  have HGL : Hid (G.length ≤ 10000) := Lib.hid (by have hok := followG_ok r.f; rw [hG] at hok; have := hok.2.1; omega)
  have HB0 := Lib.hid (bx1_below W r)
  have HU0 := Lib.hid (heap_alloc_new W (fnO r))
  clear h hf hG
  obtain ⟨x0, x1, x2, x3, x4⟩ := nv5 HU0.out
  go_enter Try.func6, Try.ntmps6
  go_upto_region 3 with ((with_reducible refine (few_c r _ (HOK.out _ HB0.out) true HF.out).mono ?_); rintro e w1 ⟨rfl, hb1⟩; have HU1 := Lib.hid ((hb1.block W.heap.size (by simp)).trans HU0.out); have HB1 := Lib.hid (HB0.out.trans (hb1.mono HB0.out.size)); clear hb1 x0 x1 x2 x3 x4; obtain ⟨x0, x1, x2, x3, x4⟩ := nv5 HU1.out)
  go_cut [38] from 15 to 38 (fun s38 wx => s38 = .bool false ∧ Hid (Below W.heap.size W wx) ∧ Hid (wx.heap[W.heap.size]? = some (fnO r)))
  case first =>
    have hz1 := lt_heap HU1.out
    cases h1 : domR G a c with
    | false =>
      have H1 := Lib.hid h1
      clear h1
      go_wp2_with ((with_reducible refine (dominates_g r a c _ (HOK.out _ HB1.out) G HG.out _ H1.out).mono ?_); rintro e w2 ⟨rfl, hb2⟩; have HU2 := Lib.hid ((hb2.block W.heap.size (lt_heap HU1.out)).trans HU1.out); have HB2 := Lib.hid (HB1.out.trans (hb2.mono HB1.out.size)); clear hb2 x0 x1 x2 x3 x4; obtain ⟨x0, x1, x2, x3, x4⟩ := nv5 HU2.out)
      go_meet
      case rel => exact ⟨rfl, HB2, HU2⟩
    | true =>
      cases h2 : domR G b c with
      | false =>
        have H1 := Lib.hid h1; have H2 := Lib.hid h2
        clear h1 h2
        go_wp2_with (first | ((with_reducible refine (dominates_g r a c _ (HOK.out _ HB1.out) G HG.out _ H1.out).mono ?_); rintro e w2 ⟨rfl, hb2⟩; have HU2 := Lib.hid ((hb2.block W.heap.size (lt_heap HU1.out)).trans HU1.out); have HB2 := Lib.hid (HB1.out.trans (hb2.mono HB1.out.size)); clear hb2 x0 x1 x2 x3 x4; obtain ⟨x0, x1, x2, x3, x4⟩ := nv5 HU2.out) | ((with_reducible refine (dominates_g r b c _ (HOK.out _ HB2.out) G HG.out _ H2.out).mono ?_); rintro e w3 ⟨rfl, hb3⟩; have HU3 := Lib.hid ((hb3.block W.heap.size (lt_heap HU2.out)).trans HU2.out); have HB3 := Lib.hid (HB2.out.trans (hb3.mono HB2.out.size)); clear hb3 x0 x1 x2 x3 x4; obtain ⟨x0, x1, x2, x3, x4⟩ := nv5 HU3.out))
        go_meet
        case rel => exact ⟨rfl, HB3, HU3⟩
      | true =>
        cases h3 : domR G a b with
        | true =>
          have H1 := Lib.hid h1; have H2 := Lib.hid h2; have H3 := Lib.hid h3
          clear h1 h2 h3
          go_wp2_with (first | ((with_reducible refine (dominates_g r a c _ (HOK.out _ HB1.out) G HG.out _ H1.out).mono ?_); rintro e w2 ⟨rfl, hb2⟩; have HU2 := Lib.hid ((hb2.block W.heap.size (lt_heap HU1.out)).trans HU1.out); have HB2 := Lib.hid (HB1.out.trans (hb2.mono HB1.out.size)); clear hb2 x0 x1 x2 x3 x4; obtain ⟨x0, x1, x2, x3, x4⟩ := nv5 HU2.out) | ((with_reducible refine (dominates_g r b c _ (HOK.out _ HB2.out) G HG.out _ H2.out).mono ?_); rintro e w3 ⟨rfl, hb3⟩; have HU3 := Lib.hid ((hb3.block W.heap.size (lt_heap HU2.out)).trans HU2.out); have HB3 := Lib.hid (HB2.out.trans (hb3.mono HB2.out.size)); clear hb3 x0 x1 x2 x3 x4; obtain ⟨x0, x1, x2, x3, x4⟩ := nv5 HU3.out) | ((with_reducible refine (dominates_g r a b _ (HOK.out _ HB3.out) G HG.out _ H3.out).mono ?_); rintro e w4 ⟨rfl, hb4⟩; have HU4 := Lib.hid ((hb4.block W.heap.size (lt_heap HU3.out)).trans HU3.out); have HB4 := Lib.hid (HB3.out.trans (hb4.mono HB3.out.size)); clear hb4 x0 x1 x2 x3 x4; obtain ⟨x0, x1, x2, x3, x4⟩ := nv5 HU4.out))
          go_meet
          case rel => exact ⟨rfl, HB4, HU4⟩
        | false =>
          have h4 : domR G b a = true := (HLINE.out h1 h2).resolve_left (by rw [h3]; simp)
          have H1 := Lib.hid h1; have H2 := Lib.hid h2; have H3 := Lib.hid h3; have H4 := Lib.hid h4
          clear h1 h2 h3 h4
          go_wp2_with (first | ((with_reducible refine (dominates_g r a c _ (HOK.out _ HB1.out) G HG.out _ H1.out).mono ?_); rintro e w2 ⟨rfl, hb2⟩; have HU2 := Lib.hid ((hb2.block W.heap.size (lt_heap HU1.out)).trans HU1.out); have HB2 := Lib.hid (HB1.out.trans (hb2.mono HB1.out.size)); clear hb2 x0 x1 x2 x3 x4; obtain ⟨x0, x1, x2, x3, x4⟩ := nv5 HU2.out) | ((with_reducible refine (dominates_g r b c _ (HOK.out _ HB2.out) G HG.out _ H2.out).mono ?_); rintro e w3 ⟨rfl, hb3⟩; have HU3 := Lib.hid ((hb3.block W.heap.size (lt_heap HU2.out)).trans HU2.out); have HB3 := Lib.hid (HB2.out.trans (hb3.mono HB2.out.size)); clear hb3 x0 x1 x2 x3 x4; obtain ⟨x0, x1, x2, x3, x4⟩ := nv5 HU3.out) | ((with_reducible refine (dominates_g r a b _ (HOK.out _ HB3.out) G HG.out _ H3.out).mono ?_); rintro e w4 ⟨rfl, hb4⟩; have HU4 := Lib.hid ((hb4.block W.heap.size (lt_heap HU3.out)).trans HU3.out); have HB4 := Lib.hid (HB3.out.trans (hb4.mono HB3.out.size)); clear hb4 x0 x1 x2 x3 x4; obtain ⟨x0, x1, x2, x3, x4⟩ := nv5 HU4.out) | ((with_reducible refine (dominates_g r b a _ (HOK.out _ HB4.out) G HG.out _ H4.out).mono ?_); rintro e w5 ⟨rfl, hb5⟩; have HU5 := Lib.hid ((hb5.block W.heap.size (lt_heap HU4.out)).trans HU4.out); have HB5 := Lib.hid (HB4.out.trans (hb5.mono HB4.out.size)); clear hb5 x0 x1 x2 x3 x4; obtain ⟨x0, x1, x2, x3, x4⟩ := nv5 HU5.out))
          go_meet
          case rel => exact ⟨rfl, HB5, HU5⟩
  case rest =>
    obtain ⟨rfl, HBX, HUX⟩ := hcut
    clear x0 x1 x2 x3 x4
    obtain ⟨x0, x1, x2, x3, x4⟩ := nv5 HUX.out
    have hzx := lt_heap HUX.out
    go_wp2_with ((with_reducible refine (reached_g r _ (HOK.out _ HBX.out) G HG.out).mono ?_); rintro e w6 ⟨ra, rc, rfl, hl, hb6⟩; have HL := Lib.hid hl; have HU6 := Lib.hid ((hb6.block W.heap.size hzx).trans HUX.out); have HB6 := Lib.hid (HBX.out.trans (hb6.mono HBX.out.size)); clear hl hb6)
    have hz6 := lt_heap HU6.out
    obtain ⟨L, hLe⟩ : ∃ L, reachL G = L := ⟨_, rfl⟩
    have HLE := Lib.hid hLe
    rw [hLe] at HL ⊢
    clear hLe
    go_loopw [42] (fun s42 wr => ∃ k : Nat, k ≤ L.length ∧ s42 = .int .i64 (k : Int) ∧ Hid (Below w6.heap.size w6 wr)) (fun s42 wr => L.length - (intOf s42).toNat)
    case atStart => exact ⟨0, by omega, rfl, Lib.hid (Below.refl _ _)⟩
    case round =>
      obtain ⟨k, hk, rfl, HBR⟩ := hrel
      have HBW := Lib.hid (HB6.out.trans (HBR.out.mono HB6.out.size))
      have HUR := Lib.hid ((HBR.out.block _ hz6).trans HU6.out)
      obtain ⟨y0, y1, y2, y3, y4⟩ := nv5 HUR.out
      have hzr := lt_heap HUR.out
      have k0 : (0 : Int) ≤ (k : Int) := Int.natCast_nonneg _
      by_cases hlt : k < L.length
      · have k1 : (k : Int) < (L.length : Int) := by omega
        obtain ⟨b0, hb0⟩ : ∃ b0, L[k]? = some b0 := ⟨_, List.getElem?_eq_getElem hlt⟩
        obtain ⟨hkG, hd0, hdk⟩ := reachL_at (HLE.out ▸ hb0)
        obtain ⟨lb, loff, rfl, hlb1, hlb2, hlc⟩ := (HL.out.below HBR.out) (by rw [List.length_map]; omega)
        have hcell := hlc k (.bool b0) (by rw [List.getElem?_map, hb0]; rfl)
        have HD0 := Lib.hid hd0; have HDK := Lib.hid hdk; have HLT := Lib.hid hlt; have HKL := Lib.hid hkG
        clear hb0 hd0 hdk hlc
        cases b0 with
        | true =>
          go_wp2_with (first | ((with_reducible refine (dominates_g r 0 (k : Int) _ (HOK.out _ HBW.out) G HG.out _ HD0.out).mono ?_); rintro e w7 ⟨rfl, hb7⟩; have HC1 := Lib.hid hb7; have HUC := Lib.hid ((hb7.block W.heap.size hzr).trans HUR.out); have HBC := Lib.hid (HBW.out.trans (hb7.mono HBW.out.size)); have hcell7 := (hb7.cell (p := ⟨lb, loff + k, none⟩) hlb2).trans hcell; clear hb7 y0 y1 y2 y3 y4; obtain ⟨y0, y1, y2, y3, y4⟩ := nv5 HUC.out) | ((with_reducible refine (dominates_g r (k : Int) (k : Int) _ (HOK.out _ HBC.out) G HG.out _ HDK.out).mono ?_); rintro e w8 ⟨rfl, hb8⟩; have HC2 := Lib.hid hb8; clear hb8))
          go_roundw
          case rel => exact ⟨k + 1, HLT.out, by have := HKL.out; have := HGL.out; rw [show wrap64 ((k : Int) + 1) = ((k + 1 : Nat) : Int) by unfold wrap64; omega], Lib.hid ((HBR.out.trans (HC1.out.mono HBR.out.size)).trans (HC2.out.mono (by have := HBR.out.size; have := HC1.out.size; omega)))⟩
          case measure => have hq := HLT.out; have := HKL.out; have := HGL.out; rw [show wrap64 ((k : Int) + 1) = ((k + 1 : Nat) : Int) by unfold wrap64; omega]; simp [intOf]; omega
        | false =>
          go_wp2_with (first | ((with_reducible refine (dominates_g r 0 (k : Int) _ (HOK.out _ HBW.out) G HG.out _ HD0.out).mono ?_); rintro e w7 ⟨rfl, hb7⟩; have HC1 := Lib.hid hb7; have HUC := Lib.hid ((hb7.block W.heap.size hzr).trans HUR.out); have HBC := Lib.hid (HBW.out.trans (hb7.mono HBW.out.size)); have hcell7 := (hb7.cell (p := ⟨lb, loff + k, none⟩) hlb2).trans hcell; clear hb7 y0 y1 y2 y3 y4; obtain ⟨y0, y1, y2, y3, y4⟩ := nv5 HUC.out) | ((with_reducible refine (dominates_g r (k : Int) (k : Int) _ (HOK.out _ HBC.out) G HG.out _ HDK.out).mono ?_); rintro e w8 ⟨rfl, hb8⟩; have HC2 := Lib.hid hb8; clear hb8))
          go_roundw
          case rel => exact ⟨k + 1, HLT.out, by have := HKL.out; have := HGL.out; rw [show wrap64 ((k : Int) + 1) = ((k + 1 : Nat) : Int) by unfold wrap64; omega], Lib.hid ((HBR.out.trans (HC1.out.mono HBR.out.size)).trans (HC2.out.mono (by have := HBR.out.size; have := HC1.out.size; omega)))⟩
          case measure => have hq := HLT.out; have := HKL.out; have := HGL.out; rw [show wrap64 ((k : Int) + 1) = ((k + 1 : Nat) : Int) by unfold wrap64; omega]; simp [intOf]; omega
      · obtain rfl : k = L.length := by omega
        go_wp2_with ((with_reducible refine (awake9_any _).mono ?_); rintro e w9 ⟨rfl, hb9⟩; have HB9 := Lib.hid (HBW.out.trans (hb9.mono HBW.out.size)); clear hb9)
        go_ret
        exact ⟨rfl, HB9.out⟩
theorem line_any (r : FnR) (W : World) (hc : CodeAt W W.heap.size r) (hl : r.f.code.length ≤ maxLen) (a b c : Int) : Calls Try.prog 6 #[fnV r, .int .i64 a, .int .i64 b, .int .i64 c] W (RPost (.bool true) W) := by
  cases hf : few9 r.f with
  | false => exact line_no r a b c W ⟨hc, hl⟩ hf
  | true => exact line_yes r a b c W ⟨hc, hl⟩ hf
end Go.Proofs.Ytaccaeelembboaa
