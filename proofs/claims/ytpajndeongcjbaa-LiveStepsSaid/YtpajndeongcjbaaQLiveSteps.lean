/-
  LiveSteps: what is live ahead of an instruction is what it reads, and what is live behind it that it does not set; behind it, what is ahead of one of the next.
-/
import Derived.Test.YtpajndeongcjbaaQG10LawR
namespace Go.Proofs.Ytpajndeongcjbaa
set_option maxRecDepth 100000
open Go.RowKit Cd
set_option linter.unusedVariables false
set_option linter.unusedSimpArgs false

theorem regsL_has {n : Nat} {p : Int → Bool} {k : Nat} (hk : k < n) : (regsL n p).contains (k : Int) = p (k : Int) := by
  rw [Bool.eq_iff_iff, List.contains_iff_mem, regsL_mem]
  exact ⟨fun h => h.2.2, fun h => ⟨by omega, by omega, h⟩⟩
theorem ahead_step {f : Fnc} (hR : RightF f) {p : Nat} {i : Ins} (hi : f.code[p]? = some i) (r : Int) : aheadR f.code (p : Int) r = ((uses i).contains r || (behindR f.code (p : Int) r && (sets i != r))) := by
  have hc := closed_of hR
  have hin : Inside f.code (p : Int) := by unfold Inside; have := (List.getElem?_eq_some_iff.1 hi).1; omega
  rw [Bool.eq_iff_iff, ahead_iff hc hin, Bool.or_eq_true, Bool.and_eq_true, List.contains_iff_mem]
  have hb : behindR f.code (p : Int) r = true ↔ ∃ y ∈ next i (p : Int), Live f.code r y := by
    unfold behindR
    rw [List.any_eq_true, nexts_at (by simpa using hi)]
    constructor
    · rintro ⟨y, h1, h2⟩
      exact ⟨y, h1, (ahead_iff hc (hc (p : Int) hin y (by rw [nexts_at (by simpa using hi)]; exact h1))).1 h2⟩
    · rintro ⟨y, h1, h2⟩
      exact ⟨y, h1, (ahead_iff hc (hc (p : Int) hin y (by rw [nexts_at (by simpa using hi)]; exact h1))).2 h2⟩
  rw [hb]
  constructor
  · intro h
    cases h with
    | here h1 h2 =>
      rw [Int.toNat_natCast, hi] at h1
      injection h1 with h1
      subst h1
      exact .inl h2
    | on h1 h2 h3 h4 =>
      rw [Int.toNat_natCast, hi] at h1
      injection h1 with h1
      subst h1
      exact .inr ⟨⟨_, h3, h4⟩, by simpa using h2⟩
  · rintro (h | ⟨⟨y, h1, h2⟩, h3⟩)
    · exact .here (by simpa using hi) h
    · exact .on (by simpa using hi) (by simpa using h3) h1 h2
theorem in_b (l : List Int) (a : Option Addr) (cap : Nat) (n : Int) (b : Bool) (w : World) (h : RowAt w w.heap.size a (ints l)) (hl : l.length ≤ maxLen) (hb : l.contains n = b) :
    Calls Try.prog 34 #[.slice a l.length cap, .int .i64 n] w fun e w' => e = .returned (.bool b) ∧ w = w' := hb ▸ in_any l a cap n w h hl
set_option maxHeartbeats 8000000 in
theorem lsteps_few (r : FnR) (W : World) (h : LvK W r) (hf : few10 r.f = false) : Calls Try.prog 7 #[fnV r] W (RPost (.bool true) W) := by
  have HS0 := Lib.hid (LfSt.first W r h)
  have HF := Lib.hid hf
  obtain ⟨x0, x1, x2, x3, x4⟩ := nv5 HS0.out.fb
  clear h hf
  go_enter Try.func7, Try.ntmps7
  go_wp2_with (first | ((with_reducible refine (few10_c r _ HS0.out.k false HF.out).mono ?_); rintro e w1 ⟨rfl, hb1⟩; have HS1 := Lib.hid (HS0.out.below hb1); clear hb1) | ((with_reducible refine (awake10_any _).mono ?_); rintro e w2 ⟨rfl, hb2⟩; have HS2 := Lib.hid (HS1.out.below hb2); clear hb2))
  go_ret
  exact ⟨rfl, HS2.out.hb⟩
set_option maxHeartbeats 8000000 in
theorem lsteps_no (r : FnR) (W : World) (h : LvK W r) (hf : few10 r.f = true) (hr : rightF r.f = false) : Calls Try.prog 7 #[fnV r] W (RPost (.bool true) W) := by
  have HS0 := Lib.hid (LfSt.first W r h)
  have HF := Lib.hid hf; have HR := Lib.hid hr
  obtain ⟨x0, x1, x2, x3, x4⟩ := nv5 HS0.out.fb
  clear h hf hr
  go_enter Try.func7, Try.ntmps7
  go_wp2_with (first | ((with_reducible refine (few10_c r _ HS0.out.k true HF.out).mono ?_); rintro e w1 ⟨rfl, hb1⟩; have HS1 := Lib.hid (HS0.out.below hb1); clear hb1 x0 x1 x2 x3 x4; obtain ⟨x0, x1, x2, x3, x4⟩ := nv5 HS1.out.fb) | ((with_reducible refine (lrright HS1.out.k false HR.out).mono ?_); rintro e w2 ⟨rfl, hb2⟩; have HS2 := Lib.hid (HS1.out.below hb2); clear hb2 x0 x1 x2 x3 x4) | ((with_reducible refine (awake10_any _).mono ?_); rintro e w5 ⟨rfl, hb5⟩; have HS5 := Lib.hid (HS2.out.below hb5); clear hb5))
  go_ret
  exact ⟨rfl, HS5.out.hb⟩
set_option maxHeartbeats 16000000 in
theorem lsteps_v (name : List UInt8) (params regs frame : Int) (code : List Ins) (ca : Option Addr) (cc : Nat) (W : World) (h : LvK W ⟨⟨name, params, regs, frame, code⟩, ca, cc⟩) (hf : few10 ⟨name, params, regs, frame, code⟩ = true) (hr : RightF ⟨name, params, regs, frame, code⟩) : Calls Try.prog 7 #[fnV ⟨⟨name, params, regs, frame, code⟩, ca, cc⟩] W (RPost (.bool true) W) := by
  obtain ⟨i0, hi0, hz0, hz1, hz2⟩ := info_parts infoInt
  have HS0 := Lib.hid (LfSt.first W ⟨⟨name, params, regs, frame, code⟩, ca, cc⟩ h)
  have HF := Lib.hid hf; have HR := Lib.hid hr
  have hn : code.length ≤ 8192 := hr.code.2
  have hrg : 0 ≤ regs ∧ regs ≤ 4096 := by have h1 := hr.regs; have h2 := hr.params; simp only at h1 h2; omega
  obtain ⟨N, hN⟩ : ∃ N : Nat, regs = (N : Int) := ⟨regs.toNat, by omega⟩
  subst hN
  have hN4 : N ≤ 4096 := by omega
  obtain ⟨x0, x1, x2, x3, x4⟩ := nv5 HS0.out.fb
  clear h hf hr
  go_enter Try.func7, Try.ntmps7
  go_upto_region 3 with (first | ((with_reducible refine (few10_c ⟨⟨name, params, (N : Int), frame, code⟩, ca, cc⟩ _ HS0.out.k true HF.out).mono ?_); rintro e w1 ⟨rfl, hb1⟩; have HS1 := Lib.hid (HS0.out.below hb1); clear hb1 x0 x1 x2 x3 x4; obtain ⟨x0, x1, x2, x3, x4⟩ := nv5 HS1.out.fb) | ((with_reducible refine (lrright HS1.out.k true (rightF_iff.2 HR.out)).mono ?_); rintro e w2 ⟨rfl, hb2⟩; have HS2 := Lib.hid (HS1.out.below hb2); clear hb2 x0 x1 x2 x3 x4))
  go_cut [3, 4] from 21 to 24 (fun s3 s4 wc => ∃ ga gb : Nat, s3 = .slice (some ⟨ga, 0, none⟩) code.length code.length ∧ s4 = .slice (some ⟨gb, 0, none⟩) code.length code.length ∧ Hid (LfSt W wc ⟨⟨name, params, (N : Int), frame, code⟩, ca, cc⟩) ∧ Hid (RowsAt wc wc.heap.size (some ⟨ga, 0, none⟩) ((List.range code.length).map (fun a : Nat => regsL N (fun x => aheadR code (a : Int) x)))) ∧ Hid (RowsAt wc wc.heap.size (some ⟨gb, 0, none⟩) ((List.range code.length).map (fun a : Nat => regsL N (fun x => behindR code (a : Int) x)))))
  case first =>
    have HSR := Lib.hid (LfSt.drew HS2.out)
    obtain ⟨x0, x1, x2, x3, x4⟩ := nv5 HSR.out.fb
    go_region_with (first | ((with_reducible refine (ahead_f ⟨⟨name, params, (N : Int), frame, code⟩, ca, cc⟩ _ HSR.out.k.code HSR.out.len HR.out).mono ?_); rintro e u ⟨ga, rfl, hta, hbu⟩; have HSR := Lib.hid (HSR.out.below hbu); have HTA := Lib.hid hta; (try have HTB := Lib.hid ((HTB.out.below hbu).mono hbu.size (Nat.le_refl _))); clear hbu hta x0 x1 x2 x3 x4; obtain ⟨x0, x1, x2, x3, x4⟩ := nv5 HSR.out.fb) | ((with_reducible refine (behind_f ⟨⟨name, params, (N : Int), frame, code⟩, ca, cc⟩ _ HSR.out.k.code HSR.out.len HR.out).mono ?_); rintro e u ⟨gb, rfl, htb, hbu⟩; have HSR := Lib.hid (HSR.out.below hbu); have HTB := Lib.hid htb; (try have HTA := Lib.hid ((HTA.out.below hbu).mono hbu.size (Nat.le_refl _))); clear hbu htb x0 x1 x2 x3 x4; obtain ⟨x0, x1, x2, x3, x4⟩ := nv5 HSR.out.fb))
    all_goals
      go_wp2
      go_meet
      case rel => exact ⟨ga, gb, rfl, rfl, HSR, HTA, HTB⟩
  case rest =>
    rename World => wT
    obtain ⟨ga, gb, rfl, rfl, HS4, HTA, HTB⟩ := hcut
    obtain ⟨x0, x1, x2, x3, x4⟩ := nv5 HS4.out.fb
    have hWT := HS4.out.lt
    go_wp2
    clear x0 x1 x2 x3 x4
    go_loopw [42] (fun s42 wr => ∃ at_ : Nat, at_ ≤ code.length ∧ s42 = .int .i64 (at_ : Int) ∧ Hid (LfSt W wr ⟨⟨name, params, (N : Int), frame, code⟩, ca, cc⟩) ∧ Hid (Below wT.heap.size wT wr)) (fun s42 wr => code.length - (intOf s42).toNat)
    case atStart => exact ⟨0, by omega, rfl, HS4, Lib.hid (Below.refl _ _)⟩
    case round =>
      obtain ⟨at_, hat_, rfl, HSA, HBA⟩ := hrel
      have a0 : (0 : Int) ≤ (at_ : Int) := Int.natCast_nonneg _
      by_cases hlt : at_ < code.length
      · have a1 : (at_ : Int) < (code.length : Int) := by omega
        obtain ⟨i, hi⟩ : ∃ i, code[at_]? = some i := ⟨_, List.getElem?_eq_getElem hlt⟩
        have HATC := Lib.hid hlt
        obtain ⟨b', off, hca, hb', hBw', q0, q1, q2, q3, q4, q5, q6, q7, q8, q9, q10, q11, q12, q13, q14⟩ := HSA.out.k.code.cells hi
        simp only at hca
        subst hca
        have HI := Lib.hid hi
        have hns := next_any i (at_ : Int) ⟨a0, by omega⟩
        have HNX := Lib.hid hns
        clear hlt hi hns
        go_upto_region 9 with fail
        have HBX := Lib.hid ((Below.refl wr.heap.size wr).alloc (Nat.le_refl _) (inO i))
        have hp := heap_alloc_new wr (inO i)
        obtain ⟨p, hpp⟩ : ∃ p, wr.heap.size = p := ⟨_, rfl⟩
        have hTp : wT.heap.size ≤ p := by rw [← hpp]; exact HBA.out.size
        have HSB := Lib.hid (HSA.out.below HBX.out)
        have HBB := Lib.hid (HBA.out.trans (HBX.out.mono HBA.out.size))
        obtain ⟨wa, hwa⟩ : ∃ wa, wr.alloc (inO i) = wa := ⟨_, rfl⟩
        rw [hwa] at hp HSB HBB ⊢
        rw [hpp] at hp ⊢
        have HP := Lib.hid hp
        clear HBX hwa HSA HBA q0 q1 q2 q3 q4 q5 q6 q7 q8 q9 q10 q11 q12 q13 q14 hp
        obtain ⟨x0, x1, x2, x3, x4⟩ := nv5 HSB.out.fb
        have hsB := HSB.out.lt
        go_wp2
        clear x0 x1 x2 x3 x4
        go_loopw [49] (fun s49 wr => ∃ k : Nat, k ≤ N ∧ s49 = .int .i64 (k : Int) ∧ Hid (LfSt W wr ⟨⟨name, params, (N : Int), frame, code⟩, some ⟨b', off, none⟩, cc⟩) ∧ Hid (Below wT.heap.size wT wr) ∧ Hid (wr.heap[p]? = some (inO i))) (fun s49 wr => N - (intOf s49).toNat)
        case atStart => exact ⟨0, by omega, rfl, HSB, HBB, HP⟩
        case round =>
          clear HSB HBB HP hsB
          obtain ⟨k, hk, rfl, HS, HB, HP⟩ := hrel
          have k0 : (0 : Int) ≤ (k : Int) := Int.natCast_nonneg _
          have hatc := HATC.out
          by_cases hltk : k < N
          · have k1 : (k : Int) < (N : Int) := by omega
            have HLT := Lib.hid hltk
            obtain ⟨ub, hub⟩ : ∃ ub, (uses i).contains (k : Int) = ub := ⟨_, rfl⟩
            obtain ⟨bb, hbb⟩ : ∃ bb, behindR code (at_ : Int) (k : Int) = bb := ⟨_, rfl⟩
            obtain ⟨sb9, hsb⟩ : ∃ sb9, (sets i != (k : Int)) = sb9 := ⟨_, rfl⟩
            have HAQ : Hid (aheadR code (at_ : Int) (k : Int) = (ub || (bb && sb9))) := Lib.hid (by rw [ahead_step HR.out HI.out, hub, hbb, hsb])
            have HUB := Lib.hid hub; have HBQ := Lib.hid hbb; have HSQ := Lib.hid hsb
            clear hltk hub hbb hsb
            go_upto_region 12 with fail
            go_cut [8] from 52 to 69 (fun s8 wc => s8 = .bool (ub || (bb && sb9)) ∧ Hid (LfSt W wc ⟨⟨name, params, (N : Int), frame, code⟩, some ⟨b', off, none⟩, cc⟩) ∧ Hid (Below wT.heap.size wT wc) ∧ Hid (wc.heap[p]? = some (inO i)))
            case first =>
              have hul : (uses i).length ≤ maxLen := by have := uses_len8 i; unfold maxLen; omega
              have hrl : (regsL N (fun x => behindR code (at_ : Int) x)).length ≤ maxLen := by have := regsL_len N (fun x => behindR code (at_ : Int) x); unfold maxLen; omega
              have HBC : Hid ((regsL N (fun x => behindR code (at_ : Int) x)).contains (k : Int) = bb) := Lib.hid (by rw [regsL_has (by have := HLT.out; omega)]; exact HBQ.out)
              obtain ⟨d0, d1, d2, d3, d4, d5, d6, d7, d8, d9, d10, d11, d12, d13, d14⟩ := nv15 HP.out
              cases ub with
              | true =>
                go_wp2_with (first | ((with_reducible refine (uses_any i _).mono ?_); rintro e u ⟨vu, rfl, hou, hbu⟩; obtain ⟨au, cu, rfl⟩ := row_slice hou; have HOU := Lib.hid (LiesIn.row (LiesIn.of_own hou)); have HP := Lib.hid ((hbu.block p (lt_heap HP.out)).trans HP.out); have HB := Lib.hid (HB.out.trans (hbu.mono HB.out.size)); have HS := Lib.hid (HS.out.below hbu); clear hbu hou d0 d1 d2 d3 d4 d5 d6 d7 d8 d9 d10 d11 d12 d13 d14; obtain ⟨d0, d1, d2, d3, d4, d5, d6, d7, d8, d9, d10, d11, d12, d13, d14⟩ := nv15 HP.out) | ((with_reducible refine (in_b (uses i) au cu (k : Int) _ _ HOU.out hul HUB.out).mono ?_); rintro e v ⟨rfl, hv⟩; subst hv))
                go_meet
                case rel => exact ⟨by simp, HS, HB, HP⟩
              | false =>
                obtain ⟨tb, td, hgb, hcb, hrb⟩ := rrow_at HTB.out hatc
                have HCB := Lib.hid hcb; have HRT := Lib.hid hrb
                clear hcb hrb
                cases bb with
                | false =>
                  go_wp2_with (first | ((with_reducible refine (uses_any i _).mono ?_); rintro e u ⟨vu, rfl, hou, hbu⟩; obtain ⟨au, cu, rfl⟩ := row_slice hou; have HOU := Lib.hid (LiesIn.row (LiesIn.of_own hou)); have HP := Lib.hid ((hbu.block p (lt_heap HP.out)).trans HP.out); have HB := Lib.hid (HB.out.trans (hbu.mono HB.out.size)); have HS := Lib.hid (HS.out.below hbu); clear hbu hou d0 d1 d2 d3 d4 d5 d6 d7 d8 d9 d10 d11 d12 d13 d14; obtain ⟨d0, d1, d2, d3, d4, d5, d6, d7, d8, d9, d10, d11, d12, d13, d14⟩ := nv15 HP.out; have hcb := (HB.out.cell (p := ⟨gb, at_, none⟩) hgb).trans HCB.out; have HRB := Lib.hid (RowAt.mono (HRT.out.below HB.out) HB.out.size (Nat.le_refl _)); have hgbw := Nat.lt_of_lt_of_le hgb HB.out.size) | ((with_reducible refine (in_b (uses i) au cu (k : Int) _ _ HOU.out hul HUB.out).mono ?_); rintro e v ⟨rfl, hv⟩; subst hv) | ((with_reducible refine (in_b (regsL N (fun x => behindR code (at_ : Int) x)) tb td (k : Int) _ _ HRB.out hrl HBC.out).mono ?_); rintro e v ⟨rfl, hv⟩; subst hv))
                  go_meet
                  case rel => exact ⟨by simp, HS, HB, HP⟩
                | true =>
                  cases sb9 with
                  | false =>
                    have hsq : ¬ sets i ≠ (k : Int) := by have := HSQ.out; simpa using this
                    have hsq2 : sets i = (k : Int) := by omega
                    go_wp2_with (first | ((with_reducible refine (uses_any i _).mono ?_); rintro e u ⟨vu, rfl, hou, hbu⟩; obtain ⟨au, cu, rfl⟩ := row_slice hou; have HOU := Lib.hid (LiesIn.row (LiesIn.of_own hou)); have HP := Lib.hid ((hbu.block p (lt_heap HP.out)).trans HP.out); have HB := Lib.hid (HB.out.trans (hbu.mono HB.out.size)); have HS := Lib.hid (HS.out.below hbu); clear hbu hou d0 d1 d2 d3 d4 d5 d6 d7 d8 d9 d10 d11 d12 d13 d14; obtain ⟨d0, d1, d2, d3, d4, d5, d6, d7, d8, d9, d10, d11, d12, d13, d14⟩ := nv15 HP.out; have hcb := (HB.out.cell (p := ⟨gb, at_, none⟩) hgb).trans HCB.out; have HRB := Lib.hid (RowAt.mono (HRT.out.below HB.out) HB.out.size (Nat.le_refl _)); have hgbw := Nat.lt_of_lt_of_le hgb HB.out.size) | ((with_reducible refine (in_b (uses i) au cu (k : Int) _ _ HOU.out hul HUB.out).mono ?_); rintro e v ⟨rfl, hv⟩; subst hv) | ((with_reducible refine (in_b (regsL N (fun x => behindR code (at_ : Int) x)) tb td (k : Int) _ _ HRB.out hrl HBC.out).mono ?_); rintro e v ⟨rfl, hv⟩; subst hv) | ((with_reducible refine (sets_any i _).mono ?_); rintro e v ⟨rfl, hbu⟩; have HP := Lib.hid ((hbu.block p (lt_heap HP.out)).trans HP.out); have HB := Lib.hid (HB.out.trans (hbu.mono HB.out.size)); have HS := Lib.hid (HS.out.below hbu); clear hbu d0 d1 d2 d3 d4 d5 d6 d7 d8 d9 d10 d11 d12 d13 d14))
                    go_meet
                    case rel => exact ⟨by simp [hsq2], HS, HB, HP⟩
                  | true =>
                    have hsq : sets i ≠ (k : Int) := by have := HSQ.out; simpa using this
                    go_wp2_with (first | ((with_reducible refine (uses_any i _).mono ?_); rintro e u ⟨vu, rfl, hou, hbu⟩; obtain ⟨au, cu, rfl⟩ := row_slice hou; have HOU := Lib.hid (LiesIn.row (LiesIn.of_own hou)); have HP := Lib.hid ((hbu.block p (lt_heap HP.out)).trans HP.out); have HB := Lib.hid (HB.out.trans (hbu.mono HB.out.size)); have HS := Lib.hid (HS.out.below hbu); clear hbu hou d0 d1 d2 d3 d4 d5 d6 d7 d8 d9 d10 d11 d12 d13 d14; obtain ⟨d0, d1, d2, d3, d4, d5, d6, d7, d8, d9, d10, d11, d12, d13, d14⟩ := nv15 HP.out; have hcb := (HB.out.cell (p := ⟨gb, at_, none⟩) hgb).trans HCB.out; have HRB := Lib.hid (RowAt.mono (HRT.out.below HB.out) HB.out.size (Nat.le_refl _)); have hgbw := Nat.lt_of_lt_of_le hgb HB.out.size) | ((with_reducible refine (in_b (uses i) au cu (k : Int) _ _ HOU.out hul HUB.out).mono ?_); rintro e v ⟨rfl, hv⟩; subst hv) | ((with_reducible refine (in_b (regsL N (fun x => behindR code (at_ : Int) x)) tb td (k : Int) _ _ HRB.out hrl HBC.out).mono ?_); rintro e v ⟨rfl, hv⟩; subst hv) | ((with_reducible refine (sets_any i _).mono ?_); rintro e v ⟨rfl, hbu⟩; have HP := Lib.hid ((hbu.block p (lt_heap HP.out)).trans HP.out); have HB := Lib.hid (HB.out.trans (hbu.mono HB.out.size)); have HS := Lib.hid (HS.out.below hbu); clear hbu d0 d1 d2 d3 d4 d5 d6 d7 d8 d9 d10 d11 d12 d13 d14))
                    go_meet
                    case rel => exact ⟨by simp [hsq], HS, HB, HP⟩
            case rest =>
              rename World => wv
              obtain ⟨rfl, HS, HB, HP⟩ := hcut
              obtain ⟨d0, d1, d2, d3, d4, d5, d6, d7, d8, d9, d10, d11, d12, d13, d14⟩ := nv15 HP.out
              have hNXc : behindR code (at_ : Int) (k : Int) = (next i (at_ : Int)).any (fun y => aheadR code y (k : Int)) := by unfold behindR; rw [nexts_at (by simpa using HI.out)]
              have HNC := Lib.hid hNXc
              have HNI : Hid (∀ y ∈ next i (at_ : Int), Inside code y) := Lib.hid (fun y hy => closed_of HR.out (at_ : Int) (by show 0 ≤ (at_ : Int) ∧ (at_ : Int) < (code.length : Int); omega) y (by rw [nexts_at (by simpa using HI.out)]; exact hy))
              have hnl2 := next_len2 i (at_ : Int)
              obtain ⟨ns, hns⟩ : ∃ ns, next i (at_ : Int) = ns := ⟨_, rfl⟩
              rw [hns] at HNC HNI hnl2
              have HNX2 : Hid (∀ w, Calls Try.prog 37 #[inV i, .int .i64 (at_ : Int)] w (ListPost ns w)) := Lib.hid (fun w => hns ▸ HNX.out w)
              clear hNXc hns
              go_wp2_with ((with_reducible refine (HNX2.out _).mono ?_); rintro e u ⟨vn, rfl, hon, hbu⟩; obtain ⟨an, cn, rfl⟩ := row_slice hon; have HON := Lib.hid (LiesIn.of_own hon); have HP := Lib.hid ((hbu.block p (lt_heap HP.out)).trans HP.out); have HB := Lib.hid (HB.out.trans (hbu.mono HB.out.size)); have HS := Lib.hid (HS.out.below hbu); clear hbu hon d0 d1 d2 d3 d4 d5 d6 d7 d8 d9 d10 d11 d12 d13 d14)
              go_loopw [9, 74] (fun s9 s74 wr => ∃ j : Nat, j ≤ ns.length ∧ s74 = .int .i64 (j : Int) ∧ s9 = .bool ((ns.take j).any (fun y => aheadR code y (k : Int))) ∧ Hid (LfSt W wr ⟨⟨name, params, (N : Int), frame, code⟩, some ⟨b', off, none⟩, cc⟩) ∧ Hid (Below wT.heap.size wT wr) ∧ Hid (wr.heap[p]? = some (inO i)) ∧ Hid (Below u.heap.size u wr)) (fun _ s74 wr => ns.length - (intOf s74).toNat)
              case atStart => exact ⟨0, by omega, rfl, by simp, HS, HB, HP, Lib.hid (Below.refl _ _)⟩
              case round =>
                clear HS HB HP
                obtain ⟨j, hj, rfl, rfl, HS, HB, HP, HBU⟩ := hrel
                have j0 : (0 : Int) ≤ (j : Int) := Int.natCast_nonneg _
                by_cases hjl : j < ns.length
                · have j1 : (j : Int) < (ns.length : Int) := by omega
                  obtain ⟨y, hy⟩ : ∃ y, ns[j]? = some y := ⟨_, List.getElem?_eq_getElem hjl⟩
                  obtain ⟨bn, on, rfl, hbn, hbnw, hcn⟩ := IntsAt.cellsB (LiesIn.row (HON.out.below HBU.out)) hy
                  have hyin := HNI.out y (List.mem_of_getElem? hy)
                  unfold Inside at hyin
                  obtain ⟨yn, rfl⟩ : ∃ yn : Nat, y = (yn : Int) := ⟨y.toNat, by omega⟩
                  have hyl : yn < code.length := by omega
                  have y0 : (0 : Int) ≤ (yn : Int) := Int.natCast_nonneg _
                  have y1 : (yn : Int) < (code.length : Int) := by omega
                  have hmore : (ns.take (j + 1)).any (fun y => aheadR code y (k : Int)) = ((ns.take j).any (fun y => aheadR code y (k : Int)) || aheadR code (yn : Int) (k : Int)) := by rw [take_more hy, List.any_append]; simp
                  have HMO := Lib.hid hmore
                  have HJL := Lib.hid hjl
                  obtain ⟨pb, hpb⟩ : ∃ pb, (ns.take j).any (fun y => aheadR code y (k : Int)) = pb := ⟨_, rfl⟩
                  rw [hpb] at HMO ⊢
                  clear hmore hy hjl hpb
                  cases pb with
                  | true =>
                    go_wp2
                    go_roundw
                    case rel => exact ⟨j + 1, HJL.out, by go_num, by rw [HMO.out]; rfl, HS, HB, HP, HBU⟩
                    case measure => have := HJL.out; simp [intOf]; omega
                  | false =>
                    obtain ⟨ta, tc, hga, hca2, hra⟩ := rrow_at (HTA.out.below HB.out) hyl
                    have HRA := Lib.hid (RowAt.mono hra HB.out.size (Nat.le_refl _))
                    obtain ⟨ab, hab⟩ : ∃ ab, aheadR code (yn : Int) (k : Int) = ab := ⟨_, rfl⟩
                    have HAC : Hid ((regsL N (fun x => aheadR code (yn : Int) x)).contains (k : Int) = ab) := Lib.hid (by rw [regsL_has (by have := HLT.out; omega)]; exact hab)
                    have hra2 : (regsL N (fun x => aheadR code (yn : Int) x)).length ≤ maxLen := by have := regsL_len N (fun x => aheadR code (yn : Int) x); unfold maxLen; omega
                    have hgw := Nat.lt_of_lt_of_le hga HB.out.size
                    rw [hab] at HMO
                    clear hra hab
                    go_wp2_with ((with_reducible refine (in_b (regsL N (fun x => aheadR code (yn : Int) x)) ta tc (k : Int) ab _ HRA.out hra2 HAC.out).mono ?_); rintro e v ⟨rfl, hv⟩; subst hv)
                    go_roundw
                    case rel => exact ⟨j + 1, HJL.out, by go_num, by rw [HMO.out]; simp, HS, HB, HP, HBU⟩
                    case measure => have := HJL.out; simp [intOf]; omega
                · obtain rfl : j = ns.length := by omega
                  have HNV : Hid ((ns.take ns.length).any (fun y => aheadR code y (k : Int)) = bb) := Lib.hid (by rw [List.take_length, ← HNC.out]; exact HBQ.out)
                  rw [HNV.out]
                  obtain ⟨ta, tc, hga, hca2, hra⟩ := rrow_at (HTA.out.below HB.out) hatc
                  obtain ⟨tb, td, hgb, hcb2, hrb⟩ := rrow_at (HTB.out.below HB.out) hatc
                  have HRA := Lib.hid (RowAt.mono hra HB.out.size (Nat.le_refl _)); have HRB := Lib.hid (RowAt.mono hrb HB.out.size (Nat.le_refl _))
                  have hga2 := Nat.lt_of_lt_of_le hga HB.out.size
                  have hgb2 := Nat.lt_of_lt_of_le hgb HB.out.size
                  have hra2 : (regsL N (fun x => aheadR code (at_ : Int) x)).length ≤ maxLen := by have := regsL_len N (fun x => aheadR code (at_ : Int) x); unfold maxLen; omega
                  have hrb2 : (regsL N (fun x => behindR code (at_ : Int) x)).length ≤ maxLen := by have := regsL_len N (fun x => behindR code (at_ : Int) x); unfold maxLen; omega
                  obtain ⟨qv, hqv⟩ : ∃ qv, (ub || (bb && sb9)) = qv := ⟨_, rfl⟩
                  have HCA : Hid ((regsL N (fun x => aheadR code (at_ : Int) x)).contains (k : Int) = qv) := Lib.hid (by rw [regsL_has (by have := HLT.out; omega)]; exact HAQ.out.trans hqv)
                  have HCB : Hid ((regsL N (fun x => behindR code (at_ : Int) x)).contains (k : Int) = bb) := Lib.hid (by rw [regsL_has (by have := HLT.out; omega)]; exact HBQ.out)
                  have hq1 : (qv != qv) = false := by simp
                  have hq2 : (bb != bb) = false := by simp
                  rw [hqv]
                  clear hra hrb hqv
                  go_wp2_with (first | ((with_reducible refine (in_b (regsL N (fun x => aheadR code (at_ : Int) x)) ta tc (k : Int) qv _ HRA.out hra2 HCA.out).mono ?_); rintro e v ⟨rfl, hv⟩; subst hv) | ((with_reducible refine (in_b (regsL N (fun x => behindR code (at_ : Int) x)) tb td (k : Int) bb _ HRB.out hrb2 HCB.out).mono ?_); rintro e v ⟨rfl, hv⟩; subst hv))
                  go_roundw
                  case rel => exact ⟨k + 1, HLT.out, by go_num, HS, HB, HP⟩
                  case measure => have := HLT.out; simp [intOf]; omega
          · obtain rfl : N = k := by omega
            go_wp2
            go_roundw
            case rel => exact ⟨at_ + 1, hatc, by go_num, HS, HB⟩
            case measure => simp [intOf]; omega
      · obtain rfl : at_ = code.length := by omega
        go_wp2_with ((with_reducible refine (awake10_any _).mono ?_); rintro e v ⟨rfl, hbv⟩; have HSV := Lib.hid (HSA.out.below hbv); clear hbv)
        go_ret
        exact ⟨rfl, HSV.out.hb⟩
theorem lsteps_any (r : FnR) (W : World) (h : LvK W r) : Calls Try.prog 7 #[fnV r] W (RPost (.bool true) W) := by
  by_cases hf : few10 r.f = true
  · by_cases hr : RightF r.f
    · obtain ⟨⟨name, params, regs, frame, code⟩, ca, cc⟩ := r
      exact lsteps_v name params regs frame code ca cc W h hf hr
    · exact lsteps_no r W h hf (by rw [← Bool.not_eq_true, rightF_iff]; exact hr)
  · exact lsteps_few r W h (by simpa using hf)
end Go.Proofs.Ytpajndeongcjbaa
