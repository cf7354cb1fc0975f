/-
  CodeRights: what may be, and where a function stands.
-/
import Derived.Test.YtmcpfjhdeplgmaaQRun
import Derived.Test.YtmcpfjhdeplgmaaQInstrF
import Derived.Test.YtmcpfjhdeplgmaaQC7Right
import Derived.Test.YtmcpfjhdeplgmaaQRightF
import Derived.Test.YtmcpfjhdeplgmaaQFew
import Derived.Lib.QuietBelow
import Derived.BigQuiet
namespace Go.Proofs.Ytmcpfjhdeplgmaa
open Go.RowKit Cd Go.Maps Go.Sort
set_option linter.unusedVariables false
set_option linter.unusedSimpArgs false

theorem names_few {U : UnR} (h : fewB U.un = true) : Names U ∧ U.fs.length ≤ 1000 := by
  unfold fewB at h
  simp only [Bool.and_eq_true, decide_eq_true_eq, List.all_eq_true] at h
  obtain ⟨⟨⟨h1, h2⟩, h3⟩, h4⟩ := h
  have hl : U.fs.length ≤ 6 := by have : U.un.funcs.length ≤ 6 := h1; unfold UnR.un UnR.fns at this; simpa using this
  refine ⟨fun r hr => ?_, by omega⟩
  have h5 := h3 r.f (List.mem_map.2 ⟨r, hr, rfl⟩)
  unfold smallB at h5
  simp only [Bool.and_eq_true, decide_eq_true_eq, List.all_eq_true] at h5
  exact ⟨by omega, fun i hi => by have := h5.2 i hi; omega⟩
theorem cf_v {w0 : World} {r : FnR} {b : Bool} (hc : CodeAt w0 w0.heap.size r) (hl : r.f.code.length ≤ maxLen) (w : World) (hb : Below w0.heap.size w0 w) (h : rightF r.f = b) : Calls Try.prog 9 #[fnV r] w (RPost (.bool b) w) :=
  h ▸ rightFunc_c r w0.heap.size w (hc.below hb) hb.size hl
theorem rf_v {w0 : World} {r : FnR} {b : Bool} (hc : CodeAt w0 w0.heap.size r) (hl : r.f.code.length ≤ maxLen) (w : World) (hb : Below w0.heap.size w0 w) (h : rightF r.f = b) : Calls Try.prog 10 #[fnV r] w (RPost (.bool b) w) :=
  h ▸ rightFunc_any r w0.heap.size w (hc.below hb) hl
set_option maxRecDepth 100000 in
set_option maxHeartbeats 8000000 in
theorem rights_no (U : UnR) (s : List UInt8) (W : World) (hU : UnAt W W.heap.size U) (hf : fewB U.un = false) : Calls Try.prog 3 #[unV U, .string (sb s)] W (RPost (.bool true) W) := by
  have HU := Lib.hid hU; have HF := Lib.hid hf
  have HW0 := Lib.hid ((Below.refl _ W).alloc (Nat.le_refl _) (unO U))
  clear hU hf
  go_enter Try.func3, Try.ntmps3
  go_wp2_with (first | ((with_reducible refine (few_any U false W.heap.size _ (HU.out.below HW0.out) (by simp) HF.out).mono ?_); rintro e w1 ⟨rfl, hb1⟩; have HB1 := Lib.hid (HW0.out.trans (hb1.mono (by simp))); have G1 := Lib.hid ((hb1.block W.heap.size (by simp)).trans (heap_alloc_new W (unO U))); obtain ⟨d0, d1, d2⟩ := nv3 G1.out; clear hb1) | ((with_reducible refine (awake7_any _).mono ?_); rintro e wv ⟨rfl, hbv⟩; have HBV := Lib.hid hbv; clear hbv))
  go_ret
  exact ⟨rfl, HB1.out.trans (HBV.out.mono HB1.out.size)⟩
set_option maxRecDepth 100000 in
set_option maxHeartbeats 8000000 in
theorem rights_long (U : UnR) (s : List UInt8) (W : World) (hU : UnAt W W.heap.size U) (hf : fewB U.un = true) (hs : 50 < s.length) : Calls Try.prog 3 #[unV U, .string (sb s)] W (RPost (.bool true) W) := by
  have HU := Lib.hid hU; have HF := Lib.hid hf
  have HW0 := Lib.hid ((Below.refl _ W).alloc (Nat.le_refl _) (unO U))
  have t0 : decide (((sb s).size : Int) > 50) = true := by rw [decide_eq_true_eq]; show (50 : Int) < (s.toArray.size : Int); simp; omega
  have t1 : decide ((50 : Int) < ((sb s).size : Int)) = true := t0
  have t2 : decide ((s.length : Int) > 50) = true := by rw [decide_eq_true_eq]; omega
  have t3 : decide ((50 : Int) < (s.length : Int)) = true := t2
  clear hU hf hs
  go_enter Try.func3, Try.ntmps3
  go_wp2_with (first | ((with_reducible refine (few_any U true W.heap.size _ (HU.out.below HW0.out) (by simp) HF.out).mono ?_); rintro e w1 ⟨rfl, hb1⟩; have HB1 := Lib.hid (HW0.out.trans (hb1.mono (by simp))); have G1 := Lib.hid ((hb1.block W.heap.size (by simp)).trans (heap_alloc_new W (unO U))); obtain ⟨d0, d1, d2⟩ := nv3 G1.out; clear hb1) | ((with_reducible refine (awake7_any _).mono ?_); rintro e wv ⟨rfl, hbv⟩; have HBV := Lib.hid hbv; clear hbv))
  go_ret
  exact ⟨rfl, HB1.out.trans (HBV.out.mono HB1.out.size)⟩
set_option maxRecDepth 100000 in
set_option maxHeartbeats 16000000 in
theorem rights_go (U : UnR) (s : List UInt8) (W : World) (hU : UnAt W W.heap.size U) (hWd : ∀ g ∈ U.gs, Wd g.pos) (hf : fewB U.un = true) (hs : s.length ≤ 50) : Calls Try.prog 3 #[unV U, .string (sb s)] W (RPost (.bool true) W) := by
  have hmix : Try.prog.follows .mixedOrders = true := by kernel_rfl
  obtain ⟨hN, hL⟩ := names_few hf
  have hlf := hU.lf
  unfold maxLen at hlf
  have HU := Lib.hid hU; have HF := Lib.hid hf; have HN := Lib.hid hN; have HL := Lib.hid hL; have HWD := Lib.hid hWd; have HSL : Hid (s.length ≤ 1000000) := Lib.hid (by omega)
  have HW0 := Lib.hid ((Below.refl _ W).alloc (Nat.le_refl _) (unO U))
  have t0 : decide (((sb s).size : Int) > 50) = false := by rw [decide_eq_false_iff_not]; show ¬ (50 : Int) < (s.toArray.size : Int); simp; omega
  have t1 : decide ((50 : Int) < ((sb s).size : Int)) = false := t0
  have t2 : decide ((s.length : Int) > 50) = false := by rw [decide_eq_false_iff_not]; omega
  have t3 : decide ((50 : Int) < (s.length : Int)) = false := t2
  clear hU hf hs hN hL hWd
  go_enter Try.func3, Try.ntmps3
  go_wp2_with ((with_reducible refine (few_any U true W.heap.size _ (HU.out.below HW0.out) (by simp) HF.out).mono ?_); rintro e w1 ⟨rfl, hb1⟩; have HB1 := Lib.hid (HW0.out.trans (hb1.mono (by simp))); have G1 := Lib.hid ((hb1.block W.heap.size (by simp)).trans (heap_alloc_new W (unO U))); obtain ⟨d0, d1, d2⟩ := nv3 G1.out; clear hb1)
  go_loopw [19] (fun s19 wr => ∃ k : Nat, k ≤ U.fs.length ∧ s19 = .int .i64 k ∧ Hid (Below W.heap.size W wr) ∧ Hid (wr.heap[W.heap.size]? = some (unO U))) (fun i wr => U.fs.length - (intOf i).toNat)
  case atStart => exact ⟨0, by omega, rfl, HB1, G1⟩
  case round =>
    obtain ⟨k, hk, rfl, HB, HG⟩ := hrel
    by_cases hlt : k < U.fs.length
    · obtain ⟨r, hr⟩ : ∃ r, U.fs[k]? = some r := ⟨_, List.getElem?_eq_getElem hlt⟩
      obtain ⟨fb, off, hfa, hfb, hfw, q0, q1, q2, q3, q4⟩ := (HU.out.below HB.out).fn hr
      have HT := Lib.hid (And.intro (HU.out.code r (List.mem_of_getElem? hr)) (HU.out.lc r (List.mem_of_getElem? hr)))
      obtain ⟨RB, hRF⟩ : ∃ b, rightF r.f = b := ⟨_, rfl⟩
      have k0 : (0 : Int) ≤ (k : Int) := Int.natCast_nonneg _
      have k1 : (k : Int) < (U.fs.length : Int) := by omega
      have hfw2 : fb < wr.heap.size := by omega
      have hbx := lt_heap HG.out
      rw [hfa]
      clear hr hfa
      go_wp2
      refine region_last (fun W : World => W.heap[wr.heap.size]? = some (fnO r) ∧ Below wr.heap.size wr W) 1000000 hmix ?_
      have hS : (fun W : World => W.heap[wr.heap.size]? = some (fnO r) ∧ Below wr.heap.size wr W) (wr.alloc (fnO r)).drew := ⟨heap_alloc_new wr _, ((Below.refl _ wr).alloc (Nat.le_refl _) _).drew⟩
      refine anyL_takeH (i := 0) (v := ?_) rfl (by decide) (by kernel_rfl) (by kernel_rfl) (by kernel_rfl) (fun _ _ _ h => h) (Or.inl ⟨by rfl, ?_⟩) hS ?_
      rotate_left
      · (intro w' hSw; obtain ⟨x0, x1, x2, x3, x4⟩ := nv5 hSw.1; go_simp; first | done | with_reducible rfl)
      simp only [Act.put, List.getElem_toArray, List.getElem_cons_succ, List.getElem_cons_zero, List.setIfInBounds_toArray, List.set_cons_succ, List.set_cons_zero]
      refine anyL_takeH (i := 2) (v := ?_) rfl (by decide) (by kernel_rfl) (by kernel_rfl) (by kernel_rfl) (fun _ _ _ h => h) (Or.inl ⟨by rfl, ?_⟩) hS ?_
      rotate_left
      · (intro w' hSw; obtain ⟨x0, x1, x2, x3, x4⟩ := nv5 hSw.1; go_simp; first | done | with_reducible rfl)
      simp only [Act.put, List.getElem_toArray, List.getElem_cons_succ, List.getElem_cons_zero, List.setIfInBounds_toArray, List.set_cons_succ, List.set_cons_zero]
      refine anyL_one (i := 1) (by kernel_rfl) rfl (fun K1 hK1 => ?_)
      go_simp
      refine (cf_v HT.out.1 HT.out.2 (wr.alloc (fnO r)).drew (HB.out.trans (hS.2.mono HB.out.size)) hRF).mono ?_
      rintro e u1 ⟨rfl, hBu1⟩
      have hSu1 : (fun W : World => W.heap[wr.heap.size]? = some (fnO r) ∧ Below wr.heap.size wr W) u1 := ⟨(hBu1.block _ (lt_heap hS.1)).trans hS.1, hS.2.trans (hBu1.mono hS.2.size)⟩
      refine hK1.out _ _ (fun _ => hSu1) ?_
      clear hK1 K1 hS hBu1
      have hS := hSu1; clear hSu1
      refine anyL_one (i := 3) (by kernel_rfl) rfl (fun K1 hK1 => ?_)
      go_simp
      refine (rf_v HT.out.1 HT.out.2 u1 (HB.out.trans (hS.2.mono HB.out.size)) hRF).mono ?_
      rintro e u2 ⟨rfl, hBu2⟩
      have hSu2 : (fun W : World => W.heap[wr.heap.size]? = some (fnO r) ∧ Below wr.heap.size wr W) u2 := ⟨(hBu2.block _ (lt_heap hS.1)).trans hS.1, hS.2.trans (hBu2.mono hS.2.size)⟩
      refine hK1.out _ _ (fun _ => hSu2) ?_
      clear hK1 K1 hS hBu2
      have hS := hSu2; clear hSu2
      refine anyL_one (i := 4) (by kernel_rfl) rfl (fun K1 hK1 => ?_)
      go_simp
      refine hK1.out _ _ (fun _ => hS) ?_
      clear hK1 K1
      refine anyL_done (by kernel_rfl) ?_ _
      have HSB := Lib.hid hS
      clear hS
      go_wp2
      go_roundw
      case rel => exact ⟨k + 1, by omega, by go_num, Lib.hid (HB.out.trans (HSB.out.2.mono HB.out.size)), Lib.hid ((HSB.out.2.block _ hbx).trans HG.out)⟩
      case measure => simp [intOf]; omega
    · obtain rfl : k = U.fs.length := by omega
      obtain ⟨X, hX⟩ : ∃ b, rightU U.un = b := ⟨_, rfl⟩
      obtain ⟨Y, hY⟩ : ∃ n, findI U.fns s = n := ⟨_, rfl⟩
      have hbg : ∀ dd os, Below W.heap.size W (grow (redrawn wr dd) os) := fun dd os => HB.out.trans ((below_regrown wr dd os).mono HB.out.size)
      have C1 : Hid (∀ dd os, Calls Try.prog 11 #[unV U] (grow (redrawn wr dd) os) fun e w' => e = .returned (.bool X) ∧ Below (grow (redrawn wr dd) os).heap.size (grow (redrawn wr dd) os) w') := Lib.hid (fun dd os => right_cb U W.heap.size X _ (HU.out.below (hbg dd os)) (hbg dd os).size HN.out HWD.out hX)
      have C2 : Hid (∀ dd os, Calls Try.prog 12 #[unV U] (grow (redrawn wr dd) os) fun e w' => e = .returned (.bool X) ∧ Below (grow (redrawn wr dd) os).heap.size (grow (redrawn wr dd) os) w') := Lib.hid (fun dd os => hX ▸ rightU_any U W.heap.size _ (HU.out.below (hbg dd os)) (hbg dd os).size)
      have C3 : Hid (∀ dd os, Calls Try.prog 13 #[unV U, .string (sb s)] (grow (redrawn wr dd) os) fun e w' => e = .returned (.int .i64 Y) ∧ Below (grow (redrawn wr dd) os).heap.size (grow (redrawn wr dd) os) w') := Lib.hid (fun dd os => hY ▸ find_c U s W.heap.size _ (HU.out.below (hbg dd os)) (hbg dd os).size HN.out HL.out HSL.out)
      have C4 : Hid (∀ dd os, Calls Try.prog 14 #[unV U, .string (sb s)] (grow (redrawn wr dd) os) fun e w' => e = .returned (.int .i64 Y) ∧ Below (grow (redrawn wr dd) os).heap.size (grow (redrawn wr dd) os) w') := Lib.hid (fun dd os => hY ▸ find_any U s W.heap.size _ (HU.out.below (hbg dd os)))
      have C5 : Hid (∀ dd os, Calls Try.prog 8 #[] (grow (redrawn wr dd) os) fun e w' => e = .returned (.bool true) ∧ Below (grow (redrawn wr dd) os).heap.size (grow (redrawn wr dd) os) w') := Lib.hid (fun dd os => awake7_any _)
      obtain ⟨e0, e1, e2⟩ := nv3 HG.out
      have b0 := fun dd os => cell_regrown e0 dd os
      have b1 := fun dd os => cell_regrown e1 dd os
      have b2 := fun dd os => cell_regrown e2 dd os
      have HBG := Lib.hid hbg
      clear hX hY hbg e0 e1 e2
      go_wp2
      refine wp_region_quiet_below (by kernel_rfl) (by kernel_rfl) ?_
      repeat (any_goals (first | go_big_quiet_step (first | (go_at_call 11; exact Calls.regrown_of (C1.out _ _)) | (go_at_call 12; exact Calls.regrown_of (C2.out _ _)) | (go_at_call 13; exact Calls.regrown_of (C3.out _ _)) | (go_at_call 14; exact Calls.regrown_of (C4.out _ _)) | (go_at_call 8; exact Calls.regrown_of (C5.out _ _))) | quiet_step (first | (go_at_call 11; exact Calls.regrown_of (C1.out _ _)) | (go_at_call 12; exact Calls.regrown_of (C2.out _ _)) | (go_at_call 13; exact Calls.regrown_of (C3.out _ _)) | (go_at_call 14; exact Calls.regrown_of (C4.out _ _)) | (go_at_call 8; exact Calls.regrown_of (C5.out _ _)))))
      refine wpQuiet_nil ?_
      intro _ hw'
      obtain ⟨⟨dq, osq⟩, hw''⟩ := hw'
      subst hw''
      go_wp2
      go_ret
      exact ⟨rfl, HBG.out dq osq⟩
theorem rights_any (U : UnR) (s : List UInt8) (W : World) (hU : UnAt W W.heap.size U) (hWd : ∀ g ∈ U.gs, Wd g.pos) : Calls Try.prog 3 #[unV U, .string (sb s)] W (RPost (.bool true) W) := by
  cases hf : fewB U.un with
  | false => exact rights_no U s W hU hf
  | true =>
    by_cases hs : s.length ≤ 50
    · exact rights_go U s W hU hWd hf hs
    · exact rights_long U s W hU hf (by omega)
end Go.Proofs.Ytmcpfjhdeplgmaa
