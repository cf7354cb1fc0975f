/-
  LiveRegisters: which registers are live ahead of, and behind, each instruction is the document's.
-/
import Derived.Test.YtpajndeongcjbaaQG10LawR
namespace Go.Proofs.Ytpajndeongcjbaa
set_option maxRecDepth 100000
open Go.RowKit Cd
set_option linter.unusedVariables false
set_option linter.unusedSimpArgs false

set_option maxHeartbeats 16000000 in
theorem lregs_v (name : List UInt8) (params regs frame : Int) (code : List Ins) (ca : Option Addr) (cc : Nat) (W : World) (h : LvK W ⟨⟨name, params, regs, frame, code⟩, ca, cc⟩) (hf : few10 ⟨name, params, regs, frame, code⟩ = true) (hr : RightF ⟨name, params, regs, frame, code⟩) : Calls Try.prog 3 #[fnV ⟨⟨name, params, regs, frame, code⟩, ca, cc⟩] W (RPost (.bool true) W) := by
  obtain ⟨i0, hi0, hz0, hz1, hz2⟩ := info_parts infoInt
  have HS0 := Lib.hid (LfSt.first W ⟨⟨name, params, regs, frame, code⟩, ca, cc⟩ h)
  have HF := Lib.hid hf; have HR := Lib.hid hr
  have hn : code.length ≤ 8192 := hr.code.2
  have hrg : 0 ≤ regs ∧ regs ≤ 4096 := by have h1 := hr.regs; have h2 := hr.params; simp only at h1 h2; omega
  obtain ⟨N, hN⟩ : ∃ N : Nat, regs = (N : Int) := ⟨regs.toNat, by omega⟩
  subst hN
  have hN4 : N ≤ 4096 := by omega
  obtain ⟨x0, x1, x2, x3, x4⟩ := nv5 HS0.out.fb
  clear h hf hr
  go_enter Try.func3, Try.ntmps3
  go_upto_region 3 with ((with_reducible refine (few10_c ⟨⟨name, params, (N : Int), frame, code⟩, ca, cc⟩ _ HS0.out.k true HF.out).mono ?_); rintro e w1 ⟨rfl, hb1⟩; have HS1 := Lib.hid (HS0.out.below hb1); clear hb1 x0 x1 x2 x3 x4)
  go_cut [3, 4] from 13 to 16 (fun s3 s4 wc => ∃ ga gb : Nat, s3 = .slice (some ⟨ga, 0, none⟩) code.length code.length ∧ s4 = .slice (some ⟨gb, 0, none⟩) code.length code.length ∧ Hid (LfSt W wc ⟨⟨name, params, (N : Int), frame, code⟩, ca, cc⟩) ∧ Hid (RowsAt wc wc.heap.size (some ⟨ga, 0, none⟩) ((List.range code.length).map (fun a : Nat => regsL N (fun x => aheadR code (a : Int) x)))) ∧ Hid (RowsAt wc wc.heap.size (some ⟨gb, 0, none⟩) ((List.range code.length).map (fun a : Nat => regsL N (fun x => behindR code (a : Int) x)))))
  case first =>
    have HSR := Lib.hid (LfSt.drew HS1.out)
    obtain ⟨x0, x1, x2, x3, x4⟩ := nv5 HSR.out.fb
    go_region_with (first | ((with_reducible refine (ahead_f ⟨⟨name, params, (N : Int), frame, code⟩, ca, cc⟩ _ HSR.out.k.code HSR.out.len HR.out).mono ?_); rintro e u ⟨ga, rfl, hta, hbu⟩; have HSR := Lib.hid (HSR.out.below hbu); have HTA := Lib.hid hta; (try have HTB := Lib.hid ((HTB.out.below hbu).mono hbu.size (Nat.le_refl _))); clear hbu hta x0 x1 x2 x3 x4; obtain ⟨x0, x1, x2, x3, x4⟩ := nv5 HSR.out.fb) | ((with_reducible refine (behind_f ⟨⟨name, params, (N : Int), frame, code⟩, ca, cc⟩ _ HSR.out.k.code HSR.out.len HR.out).mono ?_); rintro e u ⟨gb, rfl, htb, hbu⟩; have HSR := Lib.hid (HSR.out.below hbu); have HTB := Lib.hid htb; (try have HTA := Lib.hid ((HTA.out.below hbu).mono hbu.size (Nat.le_refl _))); clear hbu htb x0 x1 x2 x3 x4; obtain ⟨x0, x1, x2, x3, x4⟩ := nv5 HSR.out.fb))
    all_goals
      go_wp2
      go_meet
      case rel => exact ⟨ga, gb, rfl, rfl, HSR, HTA, HTB⟩
  case rest =>
    rename World => w3
    obtain ⟨ga, gb, rfl, rfl, HS3, HTA3, HTB3⟩ := hcut
    obtain ⟨x0, x1, x2, x3, x4⟩ := nv5 HS3.out.fb
    go_wp2_with ((with_reducible refine (lrright HS3.out.k true (rightF_iff.2 HR.out)).mono ?_); rintro e wT ⟨rfl, hb4⟩; have HS4 := Lib.hid (HS3.out.below hb4); have HTA := Lib.hid ((HTA3.out.below hb4).mono hb4.size (Nat.le_refl _)); have HTB := Lib.hid ((HTB3.out.below hb4).mono hb4.size (Nat.le_refl _)); clear hb4 x0 x1 x2 x3 x4; obtain ⟨x0, x1, x2, x3, x4⟩ := nv5 HS4.out.fb)
    clear x0 x1 x2 x3 x4 HS3 HTA3 HTB3
    have hWT := HS4.out.lt
    go_loopw [46] (fun s46 wr => ∃ at_ : Nat, at_ ≤ code.length ∧ s46 = .int .i64 (at_ : Int) ∧ Hid (LfSt W wr ⟨⟨name, params, (N : Int), frame, code⟩, ca, cc⟩) ∧ Hid (Below wT.heap.size wT wr)) (fun s46 wr => code.length - (intOf s46).toNat)
    case atStart => exact ⟨0, by omega, rfl, HS4, Lib.hid (Below.refl _ _)⟩
    case round =>
      obtain ⟨at_, hat_, rfl, HSA, HBA⟩ := hrel
      have a0 : (0 : Int) ≤ (at_ : Int) := Int.natCast_nonneg _
      by_cases hlt : at_ < code.length
      · have a1 : (at_ : Int) < (code.length : Int) := by omega
        have HATC := Lib.hid hlt
        clear hlt
        obtain ⟨x0, x1, x2, x3, x4⟩ := nv5 HSA.out.fb
        have hsA := HSA.out.lt
        go_wp2
        clear x0 x1 x2 x3 x4
        obtain ⟨LO, hLOe⟩ : ∃ LO, wr.heap.size = LO := ⟨_, rfl⟩
        have hTL : wT.heap.size ≤ LO := by rw [← hLOe]; exact HBA.out.size
        have hWL : W.heap.size + 1 ≤ LO := by omega
        go_loopw [6, 7, 51] (fun s6 s7 s51 wr => ∃ k : Nat, k ≤ N ∧ s51 = .int .i64 (k : Int) ∧ Hid (TwoR wr LO s6 (regsL k (fun x => aheadR code (at_ : Int) x)) s7 (regsL k (fun x => behindR code (at_ : Int) x))) ∧ Hid (LfSt W wr ⟨⟨name, params, (N : Int), frame, code⟩, ca, cc⟩) ∧ Hid (Below wT.heap.size wT wr) ∧ LO ≤ wr.heap.size) (fun _ _ s51 wr => N - (intOf s51).toNat)
        case atStart => exact ⟨0, by omega, rfl, Lib.hid ⟨World.ownsRow_nil _ _ _ _, World.ownsRow_nil _ _ _ _, fun g h => (by cases h)⟩, HSA, HBA, by omega⟩
        case round =>
          clear HSA HBA hsA
          obtain ⟨k, hk, rfl, HT, HS, HB, hLO⟩ := hrel
          have k0 : (0 : Int) ≤ (k : Int) := Int.natCast_nonneg _
          obtain ⟨ax, cx, rfl⟩ := row_slice HT.out.own1
          obtain ⟨ay, cy, rfl⟩ := row_slice HT.out.own2
          have hlx := regsL_len k (fun x => aheadR code (at_ : Int) x)
          have hly := regsL_len k (fun x => behindR code (at_ : Int) x)
          have hatc := HATC.out
          have hin : Inside code (at_ : Int) := by unfold Inside; omega
          by_cases hltk : k < N
          · have k1 : (k : Int) < (N : Int) := by omega
            have HLT := Lib.hid hltk
            obtain ⟨ma, hma⟩ : ∃ ma, aheadR code (at_ : Int) (k : Int) = ma := ⟨_, rfl⟩
            obtain ⟨mb, hmb⟩ : ∃ mb, behindR code (at_ : Int) (k : Int) = mb := ⟨_, rfl⟩
            have HMA := Lib.hid hma; have HMB := Lib.hid hmb
            clear hltk hma hmb
            obtain ⟨x0, x1, x2, x3, x4⟩ := nv5 HS.out.fb
            cases ma with
            | false =>
              cases mb with
              | false =>
                have HNA : Hid (regsL (k + 1) (fun x => aheadR code (at_ : Int) x) = regsL k (fun x => aheadR code (at_ : Int) x)) := Lib.hid ((regsL_more k (fun x => aheadR code (at_ : Int) x)).trans (if_neg (by rw [HMA.out]; simp)))
                have HNB : Hid (regsL (k + 1) (fun x => behindR code (at_ : Int) x) = regsL k (fun x => behindR code (at_ : Int) x)) := Lib.hid ((regsL_more k (fun x => behindR code (at_ : Int) x)).trans (if_neg (by rw [HMB.out]; simp)))
                go_wp2_with (first | ((with_reducible refine (ahead_any ⟨⟨name, params, (N : Int), frame, code⟩, ca, cc⟩ (at_ : Int) (k : Int) false _ _ HS.out.k.code HR.out hin (Nat.le_refl _) HMA.out).mono ?_); rintro e u ⟨rfl, hbu⟩; have HT := Lib.hid (HT.out.below hbu); have HB := Lib.hid (HB.out.trans (hbu.mono (Nat.le_trans (show wT.heap.size ≤ LO by omega) hLO))); have hLO := Nat.le_trans hLO hbu.size; have HS := Lib.hid (HS.out.below hbu); clear hbu x0 x1 x2 x3 x4; obtain ⟨x0, x1, x2, x3, x4⟩ := nv5 HS.out.fb) | ((with_reducible refine (behind_any ⟨⟨name, params, (N : Int), frame, code⟩, ca, cc⟩ at_ (k : Int) false _ _ HS.out.k.code HR.out hatc (Nat.le_refl _) HMB.out).mono ?_); rintro e v ⟨rfl, hbu⟩; have HT := Lib.hid (HT.out.below hbu); have HB := Lib.hid (HB.out.trans (hbu.mono (Nat.le_trans (show wT.heap.size ≤ LO by omega) hLO))); have hLO := Nat.le_trans hLO hbu.size; have HS := Lib.hid (HS.out.below hbu); clear hbu x0 x1 x2 x3 x4; obtain ⟨x0, x1, x2, x3, x4⟩ := nv5 HS.out.fb))
                go_roundw
                case rel => exact ⟨k + 1, HLT.out, by go_num, by rw [HNA.out, HNB.out]; exact HT, HS, HB, hLO⟩
                case measure => have := HLT.out; simp [intOf]; omega
              | true =>
                have HNA : Hid (regsL (k + 1) (fun x => aheadR code (at_ : Int) x) = regsL k (fun x => aheadR code (at_ : Int) x)) := Lib.hid ((regsL_more k (fun x => aheadR code (at_ : Int) x)).trans (if_neg (by rw [HMA.out]; simp)))
                have HNB : Hid (regsL (k + 1) (fun x => behindR code (at_ : Int) x) = regsL k (fun x => behindR code (at_ : Int) x) ++ [(k : Int)]) := Lib.hid ((regsL_more k (fun x => behindR code (at_ : Int) x)).trans (if_pos HMB.out))
                go_wp2_with (first | ((with_reducible refine (ahead_any ⟨⟨name, params, (N : Int), frame, code⟩, ca, cc⟩ (at_ : Int) (k : Int) false _ _ HS.out.k.code HR.out hin (Nat.le_refl _) HMA.out).mono ?_); rintro e u ⟨rfl, hbu⟩; have HT := Lib.hid (HT.out.below hbu); have HB := Lib.hid (HB.out.trans (hbu.mono (Nat.le_trans (show wT.heap.size ≤ LO by omega) hLO))); have hLO := Nat.le_trans hLO hbu.size; have HS := Lib.hid (HS.out.below hbu); clear hbu x0 x1 x2 x3 x4; obtain ⟨x0, x1, x2, x3, x4⟩ := nv5 HS.out.fb) | ((with_reducible refine (behind_any ⟨⟨name, params, (N : Int), frame, code⟩, ca, cc⟩ at_ (k : Int) true _ _ HS.out.k.code HR.out hatc (Nat.le_refl _) HMB.out).mono ?_); rintro e v ⟨rfl, hbu⟩; have HT := Lib.hid (HT.out.below hbu); have HB := Lib.hid (HB.out.trans (hbu.mono (Nat.le_trans (show wT.heap.size ≤ LO by omega) hLO))); have hLO := Nat.le_trans hLO hbu.size; have HS := Lib.hid (HS.out.below hbu); clear hbu x0 x1 x2 x3 x4; obtain ⟨x0, x1, x2, x3, x4⟩ := nv5 HS.out.fb) | (at_builtin; go_loud (refine wpList_append_lies _ rfl (.tmp 66) (.tmp 68) 29 rfl LO 3 i0 (.int .i64 0) 1 8 Try.underlying29 hi0 hz0 hz1 hz2 rfl (by decide) (.slice ay (regsL k (fun x => behindR code (at_ : Int) x)).length cy) (regsL k (fun x => behindR code (at_ : Int) x)).length (ints (regsL k (fun x => behindR code (at_ : Int) x))) rfl (HT.out.own2.alloc _) _ 1 1 [.int .i64 (k : Int)] rfl rfl (cell_new1 _ _ _ _ (by simp)) (by simp [Value.oneCell']) (by omega) (by unfold maxLen; omega) (by omega) (by simp <;> omega) (v.heap.size + 1) (by simp) ?_; intro g9 cap9 w9 hown hgrow hat9 hlt9; have HA9 := (Below.refl v.heap.size v).alloc (Nat.le_refl _) (.cells #[.int .i64 (k : Int)] 3); have hrw := (fun q (hq : (Value.slice ay (regsL k (fun x => behindR code (at_ : Int) x)).length cy).ownBlock = some q) => (HT.out.own2.lt q hq).1); have HB := Lib.hid ((HB.out.alloc (by omega) _).grown hgrow (by simp <;> omega) (fun q e => by have := hrw q e; omega)); have HS := Lib.hid ((HS.out.below HA9).grow hgrow (fun q e => by have := hrw q e; omega)); have HT := Lib.hid (((HT.out.below HA9).swap.push hown hgrow (hat9.imp id (fun e => by rw [e]; simp))).swap); have hLO := (show LO ≤ w9.heap.size from by have h8 := hgrow.size; simp at h8; omega); clear hown hgrow hat9 hlt9 HA9 hrw x0 x1 x2 x3 x4; obtain ⟨x0, x1, x2, x3, x4⟩ := nv5 HS.out.fb)))
                go_roundw
                case rel => exact ⟨k + 1, HLT.out, by go_num, by rw [HNA.out, HNB.out]; exact HT, HS, HB, hLO⟩
                case measure => have := HLT.out; simp [intOf]; omega
            | true =>
              cases mb with
              | false =>
                have HNA : Hid (regsL (k + 1) (fun x => aheadR code (at_ : Int) x) = regsL k (fun x => aheadR code (at_ : Int) x) ++ [(k : Int)]) := Lib.hid ((regsL_more k (fun x => aheadR code (at_ : Int) x)).trans (if_pos HMA.out))
                have HNB : Hid (regsL (k + 1) (fun x => behindR code (at_ : Int) x) = regsL k (fun x => behindR code (at_ : Int) x)) := Lib.hid ((regsL_more k (fun x => behindR code (at_ : Int) x)).trans (if_neg (by rw [HMB.out]; simp)))
                go_wp2_with (first | ((with_reducible refine (ahead_any ⟨⟨name, params, (N : Int), frame, code⟩, ca, cc⟩ (at_ : Int) (k : Int) true _ _ HS.out.k.code HR.out hin (Nat.le_refl _) HMA.out).mono ?_); rintro e u ⟨rfl, hbu⟩; have HT := Lib.hid (HT.out.below hbu); have HB := Lib.hid (HB.out.trans (hbu.mono (Nat.le_trans (show wT.heap.size ≤ LO by omega) hLO))); have hLO := Nat.le_trans hLO hbu.size; have HS := Lib.hid (HS.out.below hbu); clear hbu x0 x1 x2 x3 x4; obtain ⟨x0, x1, x2, x3, x4⟩ := nv5 HS.out.fb) | (at_builtin; go_loud (refine wpList_append_lies _ rfl (.tmp 58) (.tmp 60) 29 rfl LO 3 i0 (.int .i64 0) 1 8 Try.underlying29 hi0 hz0 hz1 hz2 rfl (by decide) (.slice ax (regsL k (fun x => aheadR code (at_ : Int) x)).length cx) (regsL k (fun x => aheadR code (at_ : Int) x)).length (ints (regsL k (fun x => aheadR code (at_ : Int) x))) rfl (HT.out.own1.alloc _) _ 1 1 [.int .i64 (k : Int)] rfl rfl (cell_new1 _ _ _ _ (by simp)) (by simp [Value.oneCell']) (by omega) (by unfold maxLen; omega) (by omega) (by simp <;> omega) (u.heap.size + 1) (by simp) ?_; intro g9 cap9 w9 hown hgrow hat9 hlt9; have HA9 := (Below.refl u.heap.size u).alloc (Nat.le_refl _) (.cells #[.int .i64 (k : Int)] 3); have hrw := (fun q (hq : (Value.slice ax (regsL k (fun x => aheadR code (at_ : Int) x)).length cx).ownBlock = some q) => (HT.out.own1.lt q hq).1); have HB := Lib.hid ((HB.out.alloc (by omega) _).grown hgrow (by simp <;> omega) (fun q e => by have := hrw q e; omega)); have HS := Lib.hid ((HS.out.below HA9).grow hgrow (fun q e => by have := hrw q e; omega)); have HT := Lib.hid ((HT.out.below HA9).push hown hgrow (hat9.imp id (fun e => by rw [e]; simp))); have hLO := (show LO ≤ w9.heap.size from by have h8 := hgrow.size; simp at h8; omega); clear hown hgrow hat9 hlt9 HA9 hrw x0 x1 x2 x3 x4; obtain ⟨x0, x1, x2, x3, x4⟩ := nv5 HS.out.fb)) | ((with_reducible refine (behind_any ⟨⟨name, params, (N : Int), frame, code⟩, ca, cc⟩ at_ (k : Int) false _ _ HS.out.k.code HR.out hatc (Nat.le_refl _) HMB.out).mono ?_); rintro e v ⟨rfl, hbu⟩; have HT := Lib.hid (HT.out.below hbu); have HB := Lib.hid (HB.out.trans (hbu.mono (Nat.le_trans (show wT.heap.size ≤ LO by omega) hLO))); have hLO := Nat.le_trans hLO hbu.size; have HS := Lib.hid (HS.out.below hbu); clear hbu x0 x1 x2 x3 x4; obtain ⟨x0, x1, x2, x3, x4⟩ := nv5 HS.out.fb))
                go_roundw
                case rel => exact ⟨k + 1, HLT.out, by go_num, by rw [HNA.out, HNB.out]; exact HT, HS, HB, hLO⟩
                case measure => have := HLT.out; simp [intOf]; omega
              | true =>
                have HNA : Hid (regsL (k + 1) (fun x => aheadR code (at_ : Int) x) = regsL k (fun x => aheadR code (at_ : Int) x) ++ [(k : Int)]) := Lib.hid ((regsL_more k (fun x => aheadR code (at_ : Int) x)).trans (if_pos HMA.out))
                have HNB : Hid (regsL (k + 1) (fun x => behindR code (at_ : Int) x) = regsL k (fun x => behindR code (at_ : Int) x) ++ [(k : Int)]) := Lib.hid ((regsL_more k (fun x => behindR code (at_ : Int) x)).trans (if_pos HMB.out))
                go_wp2_with (first | ((with_reducible refine (ahead_any ⟨⟨name, params, (N : Int), frame, code⟩, ca, cc⟩ (at_ : Int) (k : Int) true _ _ HS.out.k.code HR.out hin (Nat.le_refl _) HMA.out).mono ?_); rintro e u ⟨rfl, hbu⟩; have HT := Lib.hid (HT.out.below hbu); have HB := Lib.hid (HB.out.trans (hbu.mono (Nat.le_trans (show wT.heap.size ≤ LO by omega) hLO))); have hLO := Nat.le_trans hLO hbu.size; have HS := Lib.hid (HS.out.below hbu); clear hbu x0 x1 x2 x3 x4; obtain ⟨x0, x1, x2, x3, x4⟩ := nv5 HS.out.fb) | (at_builtin; go_loud (refine wpList_append_lies _ rfl (.tmp 58) (.tmp 60) 29 rfl LO 3 i0 (.int .i64 0) 1 8 Try.underlying29 hi0 hz0 hz1 hz2 rfl (by decide) (.slice ax (regsL k (fun x => aheadR code (at_ : Int) x)).length cx) (regsL k (fun x => aheadR code (at_ : Int) x)).length (ints (regsL k (fun x => aheadR code (at_ : Int) x))) rfl (HT.out.own1.alloc _) _ 1 1 [.int .i64 (k : Int)] rfl rfl (cell_new1 _ _ _ _ (by simp)) (by simp [Value.oneCell']) (by omega) (by unfold maxLen; omega) (by omega) (by simp <;> omega) (u.heap.size + 1) (by simp) ?_; intro g9 cap9 w9 hown hgrow hat9 hlt9; have HA9 := (Below.refl u.heap.size u).alloc (Nat.le_refl _) (.cells #[.int .i64 (k : Int)] 3); have hrw := (fun q (hq : (Value.slice ax (regsL k (fun x => aheadR code (at_ : Int) x)).length cx).ownBlock = some q) => (HT.out.own1.lt q hq).1); have HB := Lib.hid ((HB.out.alloc (by omega) _).grown hgrow (by simp <;> omega) (fun q e => by have := hrw q e; omega)); have HS := Lib.hid ((HS.out.below HA9).grow hgrow (fun q e => by have := hrw q e; omega)); have HT := Lib.hid ((HT.out.below HA9).push hown hgrow (hat9.imp id (fun e => by rw [e]; simp))); have hLO := (show LO ≤ w9.heap.size from by have h8 := hgrow.size; simp at h8; omega); clear hown hgrow hat9 hlt9 HA9 hrw x0 x1 x2 x3 x4; obtain ⟨x0, x1, x2, x3, x4⟩ := nv5 HS.out.fb)) | ((with_reducible refine (behind_any ⟨⟨name, params, (N : Int), frame, code⟩, ca, cc⟩ at_ (k : Int) true _ _ HS.out.k.code HR.out hatc (Nat.le_refl _) HMB.out).mono ?_); rintro e v ⟨rfl, hbu⟩; have HT := Lib.hid (HT.out.below hbu); have HB := Lib.hid (HB.out.trans (hbu.mono (Nat.le_trans (show wT.heap.size ≤ LO by omega) hLO))); have hLO := Nat.le_trans hLO hbu.size; have HS := Lib.hid (HS.out.below hbu); clear hbu x0 x1 x2 x3 x4; obtain ⟨x0, x1, x2, x3, x4⟩ := nv5 HS.out.fb) | (at_builtin; go_loud (refine wpList_append_lies _ rfl (.tmp 66) (.tmp 68) 29 rfl LO 3 i0 (.int .i64 0) 1 8 Try.underlying29 hi0 hz0 hz1 hz2 rfl (by decide) (.slice ay (regsL k (fun x => behindR code (at_ : Int) x)).length cy) (regsL k (fun x => behindR code (at_ : Int) x)).length (ints (regsL k (fun x => behindR code (at_ : Int) x))) rfl (HT.out.own2.alloc _) _ 1 1 [.int .i64 (k : Int)] rfl rfl (cell_new1 _ _ _ _ (by simp)) (by simp [Value.oneCell']) (by omega) (by unfold maxLen; omega) (by omega) (by simp <;> omega) (v.heap.size + 1) (by simp) ?_; intro g9 cap9 w9 hown hgrow hat9 hlt9; have HA9 := (Below.refl v.heap.size v).alloc (Nat.le_refl _) (.cells #[.int .i64 (k : Int)] 3); have hrw := (fun q (hq : (Value.slice ay (regsL k (fun x => behindR code (at_ : Int) x)).length cy).ownBlock = some q) => (HT.out.own2.lt q hq).1); have HB := Lib.hid ((HB.out.alloc (by omega) _).grown hgrow (by simp <;> omega) (fun q e => by have := hrw q e; omega)); have HS := Lib.hid ((HS.out.below HA9).grow hgrow (fun q e => by have := hrw q e; omega)); have HT := Lib.hid (((HT.out.below HA9).swap.push hown hgrow (hat9.imp id (fun e => by rw [e]; simp))).swap); have hLO := (show LO ≤ w9.heap.size from by have h8 := hgrow.size; simp at h8; omega); clear hown hgrow hat9 hlt9 HA9 hrw x0 x1 x2 x3 x4; obtain ⟨x0, x1, x2, x3, x4⟩ := nv5 HS.out.fb)))
                go_roundw
                case rel => exact ⟨k + 1, HLT.out, by go_num, by rw [HNA.out, HNB.out]; exact HT, HS, HB, hLO⟩
                case measure => have := HLT.out; simp [intOf]; omega
          · obtain rfl : N = k := by omega
            have HA9 := Lib.hid (HTA.out.below HB.out)
            have HB9 := Lib.hid (HTB.out.below HB.out)
            obtain ⟨ta, tc, hga, hca, hra⟩ := rrow_at HA9.out hatc
            obtain ⟨tb, td, hgb, hcb, hrb⟩ := rrow_at HB9.out hatc
            have HRA := Lib.hid hra; have HRB := Lib.hid hrb; have HCB := Lib.hid hcb
            have hsT := HB.out.size
            have hgaw : ga < wr.heap.size := by omega
            have hgbw : gb < wr.heap.size := by omega
            clear hra hrb
            have hN9 : (regsL N (fun x => aheadR code (at_ : Int) x)).length ≤ 100000 := by omega
            have hN8 : (regsL N (fun x => behindR code (at_ : Int) x)).length ≤ 100000 := by omega
            go_wp2_with (first | ((with_reducible refine (sameR_c (regsL N (fun x => aheadR code (at_ : Int) x)) (regsL N (fun x => aheadR code (at_ : Int) x)) ta ax tc cx _ (RowAt.mono HRA.out hsT (Nat.le_refl _)) (LiesIn.row (LiesIn.of_own HT.out.own1)) hN9 rfl).mono ?_); rintro e u ⟨rfl, hbu⟩; have HSU := Lib.hid (HS.out.below hbu); have HBU := Lib.hid (HB.out.trans (hbu.mono hsT)); have hcb2 := (hbu.cell (p := ⟨gb, at_, none⟩) hgbw).trans HCB.out; have HTU := Lib.hid (HT.out.below hbu); have HRU := Lib.hid (RowAt.mono (HRB.out.below (hbu.mono hsT)) HBU.out.size (Nat.le_refl _)); have hgbu := Nat.lt_of_lt_of_le hgbw hbu.size; clear hbu) | ((with_reducible refine (sameR_c (regsL N (fun x => behindR code (at_ : Int) x)) (regsL N (fun x => behindR code (at_ : Int) x)) tb ay td cy _ HRU.out (LiesIn.row (LiesIn.of_own HTU.out.own2)) hN8 rfl).mono ?_); rintro e v ⟨rfl, hbv⟩; have HSV := Lib.hid (HSU.out.below hbv); have HBV := Lib.hid (HBU.out.trans (hbv.mono HBU.out.size)); clear hbv))
            go_roundw
            case rel => exact ⟨at_ + 1, hatc, by go_num, HSV, HBV⟩
            case measure => simp [intOf]; omega
      · obtain rfl : at_ = code.length := by omega
        go_wp2_with ((with_reducible refine (awake10_any _).mono ?_); rintro e v ⟨rfl, hbv⟩; have HSV := Lib.hid (HSA.out.below hbv); clear hbv)
        go_ret
        exact ⟨rfl, HSV.out.hb⟩
theorem lregs_any (r : FnR) (W : World) (h : LvK W r) : Calls Try.prog 3 #[fnV r] W (RPost (.bool true) W) := by
  by_cases hf : few10 r.f = true
  · by_cases hr : RightF r.f
    · obtain ⟨⟨name, params, regs, frame, code⟩, ca, cc⟩ := r
      exact lregs_v name params regs frame code ca cc W h hf hr
    · exact lregs_no r W h hf (by rw [← Bool.not_eq_true, rightF_iff]; exact hr)
  · exact lregs_few r W h (by simpa using hf)
end Go.Proofs.Ytpajndeongcjbaa
