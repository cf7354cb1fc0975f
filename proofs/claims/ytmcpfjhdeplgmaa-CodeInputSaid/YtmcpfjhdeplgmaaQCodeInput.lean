/-
  CodeInput: what is not read counts for nothing.
-/
import Derived.Test.YtmcpfjhdeplgmaaQCodeFuel
import Derived.Test.YtmcpfjhdeplgmaaQLeave
namespace Go.Proofs.Ytmcpfjhdeplgmaa
open Go.RowKit Cd Go.Maps Go.Sort
set_option linter.unusedVariables false
set_option linter.unusedSimpArgs false

theorem ins15 {W0 w : World} {i : Ins} {cb co : Nat} (h : InsAt W0 i cb co) (hb : Below W0.heap.size W0 w) : w.cell? ⟨cb, co, none⟩ = some (.int .i64 i.kind) ∧ w.cell? ⟨cb, co + 1, none⟩ = some (.int .i64 i.op) ∧ w.cell? ⟨cb, co + 2, none⟩ = some (.int .i64 i.dst) ∧ w.cell? ⟨cb, co + 3, none⟩ = some (.int .i64 i.a) ∧ w.cell? ⟨cb, co + 4, none⟩ = some (.int .i64 i.b) ∧ w.cell? ⟨cb, co + 5, none⟩ = some (.int .i64 i.n) ∧ w.cell? ⟨cb, co + 6, none⟩ = some (.string (sb i.text)) ∧ w.cell? ⟨cb, co + 7, none⟩ = some (.int .i64 i.x0) ∧ w.cell? ⟨cb, co + 8, none⟩ = some (.int .i64 i.x1) ∧ w.cell? ⟨cb, co + 9, none⟩ = some (.int .i64 i.x2) ∧ w.cell? ⟨cb, co + 10, none⟩ = some (.int .i64 i.x3) ∧ w.cell? ⟨cb, co + 11, none⟩ = some (.int .i64 i.x4) ∧ w.cell? ⟨cb, co + 12, none⟩ = some (.int .i64 i.x5) ∧ w.cell? ⟨cb, co + 13, none⟩ = some (.int .i64 i.dest) ∧ w.cell? ⟨cb, co + 14, none⟩ = some (.int .i64 i.els) := by
  have f := fun (n : Nat) (u : Value) (e : (inCells i)[n]? = some u) => (hb.cell (p := ⟨cb, co + n, none⟩) h.lt).trans (h.at_ n u e)
  exact ⟨f 0 _ rfl, f 1 _ rfl, f 2 _ rfl, f 3 _ rfl, f 4 _ rfl, f 5 _ rfl, f 6 _ rfl, f 7 _ rfl, f 8 _ rfl, f 9 _ rfl, f 10 _ rfl, f 11 _ rfl, f 12 _ rfl, f 13 _ rfl, f 14 _ rfl⟩
set_option maxRecDepth 100000 in
set_option maxHeartbeats 8000000 in
theorem inp_no (U : UnR) (ia : Option Addr) (inp : List UInt8) (ic : Nat) (fuel : Int) (W : World) (hU : UnAt W W.heap.size U) (hf : fewB U.un = false) : Calls Try.prog 6 #[unV U, .slice ia inp.length ic, .int .i64 fuel] W (RPost (.bool true) W) := by
  have HU := Lib.hid hU; have HF := Lib.hid hf
  have HW0 := Lib.hid ((Below.refl _ W).alloc (Nat.le_refl _) (unO U))
  clear hU hf
  go_enter Try.func6, Try.ntmps6
  go_wp2_with (first | ((with_reducible refine (few_any U false W.heap.size _ (HU.out.below HW0.out) (by simp) HF.out).mono ?_); rintro e w1 ⟨rfl, hb1⟩; have HB1 := Lib.hid (HW0.out.trans (hb1.mono (by simp))); have G1 := Lib.hid ((hb1.block W.heap.size (by simp)).trans (heap_alloc_new W (unO U))); obtain ⟨d0, d1, d2⟩ := nv3 G1.out; clear hb1) | ((with_reducible refine (awake7_any _).mono ?_); rintro e wv ⟨rfl, hbv⟩; have HBV := Lib.hid hbv; clear hbv))
  go_ret
  exact ⟨rfl, HB1.out.trans (HBV.out.mono HB1.out.size)⟩
set_option maxRecDepth 100000 in
set_option maxHeartbeats 8000000 in
theorem inp_long (U : UnR) (ia : Option Addr) (inp : List UInt8) (ic : Nat) (fuel : Int) (W : World) (hU : UnAt W W.heap.size U) (hf : fewB U.un = true) (h1 : 200 < inp.length) : Calls Try.prog 6 #[unV U, .slice ia inp.length ic, .int .i64 fuel] W (RPost (.bool true) W) := by
  have HU := Lib.hid hU; have HF := Lib.hid hf
  have HW0 := Lib.hid ((Below.refl _ W).alloc (Nat.le_refl _) (unO U))
  have t2 : decide ((inp.length : Int) > 200) = true := by rw [decide_eq_true_eq]; omega
  have t3 : decide ((200 : Int) < (inp.length : Int)) = true := t2
  clear hU hf h1
  go_enter Try.func6, Try.ntmps6
  go_wp2_with (first | ((with_reducible refine (few_any U true W.heap.size _ (HU.out.below HW0.out) (by simp) HF.out).mono ?_); rintro e w1 ⟨rfl, hb1⟩; have HB1 := Lib.hid (HW0.out.trans (hb1.mono (by simp))); have G1 := Lib.hid ((hb1.block W.heap.size (by simp)).trans (heap_alloc_new W (unO U))); obtain ⟨d0, d1, d2⟩ := nv3 G1.out; clear hb1) | ((with_reducible refine (awake7_any _).mono ?_); rintro e wv ⟨rfl, hbv⟩; have HBV := Lib.hid hbv; clear hbv))
  go_ret
  exact ⟨rfl, HB1.out.trans (HBV.out.mono HB1.out.size)⟩
set_option maxRecDepth 100000 in
set_option maxHeartbeats 8000000 in
theorem inp_much (U : UnR) (ia : Option Addr) (inp : List UInt8) (ic : Nat) (fuel : Int) (W : World) (hU : UnAt W W.heap.size U) (hf : fewB U.un = true) (h1 : inp.length ≤ 200) (h3 : 5000 < fuel) : Calls Try.prog 6 #[unV U, .slice ia inp.length ic, .int .i64 fuel] W (RPost (.bool true) W) := by
  have HU := Lib.hid hU; have HF := Lib.hid hf
  have HW0 := Lib.hid ((Below.refl _ W).alloc (Nat.le_refl _) (unO U))
  have t2 : decide ((inp.length : Int) > 200) = false := by rw [decide_eq_false_iff_not]; omega
  have t3 : decide ((200 : Int) < (inp.length : Int)) = false := t2
  have t5 : decide (fuel > (5000 : Int)) = true := by rw [decide_eq_true_eq]; omega
  have t6 : decide ((5000 : Int) < fuel) = true := t5
  clear hU hf h1 h3
  go_enter Try.func6, Try.ntmps6
  go_wp2_with (first | ((with_reducible refine (few_any U true W.heap.size _ (HU.out.below HW0.out) (by simp) HF.out).mono ?_); rintro e w1 ⟨rfl, hb1⟩; have HB1 := Lib.hid (HW0.out.trans (hb1.mono (by simp))); have G1 := Lib.hid ((hb1.block W.heap.size (by simp)).trans (heap_alloc_new W (unO U))); obtain ⟨d0, d1, d2⟩ := nv3 G1.out; clear hb1) | ((with_reducible refine (awake7_any _).mono ?_); rintro e wv ⟨rfl, hbv⟩; have HBV := Lib.hid hbv; clear hbv))
  go_ret
  exact ⟨rfl, HB1.out.trans (HBV.out.mono HB1.out.size)⟩
set_option maxRecDepth 100000 in
set_option maxHeartbeats 16000000 in
theorem inp_go (U : UnR) (ia : Option Addr) (inp : List UInt8) (ic : Nat) (fuel : Int) (W : World) (hU : UnAt W W.heap.size U) (hin : CIn W (.slice ia inp.length ic) inp) (hWd : ∀ g ∈ U.gs, Wd g.pos) (hf : fewB U.un = true) (h1 : inp.length ≤ 200) (h3 : fuel ≤ 5000) : Calls Try.prog 6 #[unV U, .slice ia inp.length ic, .int .i64 fuel] W (RPost (.bool true) W) := by
  have hmix : Try.prog.follows .mixedOrders = true := by kernel_rfl
  obtain ⟨hN, hL⟩ := namesF_few hf
  have hlf := hU.lf
  unfold maxLen at hlf
  have HU := Lib.hid hU; have HF := Lib.hid hf
  have HW0 := Lib.hid ((Below.refl _ W).alloc (Nat.le_refl _) (unO U))
  have t2 : decide ((inp.length : Int) > 200) = false := by rw [decide_eq_false_iff_not]; omega
  have t3 : decide ((200 : Int) < (inp.length : Int)) = false := t2
  have t5 : decide (fuel > (5000 : Int)) = false := by rw [decide_eq_false_iff_not]; omega
  have t6 : decide ((5000 : Int) < fuel) = false := t5
  have HN := Lib.hid hN; have HL := Lib.hid hL; have HWD := Lib.hid hWd; have HIN := Lib.hid hin
  clear hU hf h1 h3 hN hL hWd hin
  go_enter Try.func6, Try.ntmps6
  go_wp2_with ((with_reducible refine (few_any U true W.heap.size _ (HU.out.below HW0.out) (by simp) HF.out).mono ?_); rintro e w1 ⟨rfl, hb1⟩; have HB1 := Lib.hid (HW0.out.trans (hb1.mono (by simp))); have G1 := Lib.hid ((hb1.block W.heap.size (by simp)).trans (heap_alloc_new W (unO U))); obtain ⟨d0, d1, d2⟩ := nv3 G1.out; clear hb1)
  go_loopw [27] (fun s27 wr => ∃ k : Nat, k ≤ U.fs.length ∧ s27 = .int .i64 k ∧ Hid (Below W.heap.size W wr) ∧ Hid (wr.heap[W.heap.size]? = some (unO U)) ∧ Hid (∀ r ∈ U.fs.take k, ∀ i ∈ r.f.code, i.kind ≠ 9)) (fun i wr => U.fs.length - (intOf i).toNat)
  case atStart => exact ⟨0, by omega, rfl, HB1, G1, Lib.hid (fun r hr => by simp at hr)⟩
  case round =>
    obtain ⟨k, hk, rfl, HB, HG, HK⟩ := hrel
    have hbx := lt_heap HG.out
    by_cases hlt : k < U.fs.length
    · obtain ⟨r, hr⟩ : ∃ r, U.fs[k]? = some r := ⟨_, List.getElem?_eq_getElem hlt⟩
      obtain ⟨fb, off, hfa, hfb, hfw, q0, q1, q2, q3, q4⟩ := (HU.out.below HB.out).fn hr
      have hlc := HU.out.lc r (List.mem_of_getElem? hr)
      unfold maxLen at hlc
      have k0 : (0 : Int) ≤ (k : Int) := Int.natCast_nonneg _
      have k1 : (k : Int) < (U.fs.length : Int) := by omega
      have hfw2 : fb < wr.heap.size := by omega
      have HR := Lib.hid hr
      rw [hfa]
      obtain ⟨wo, hwo⟩ : ∃ wo : World, wo = wr := ⟨_, rfl⟩
      have HBo := Lib.hid (show Below W.heap.size W wo by rw [hwo]; exact HB.out)
      have HGo := Lib.hid (show wo.heap[W.heap.size]? = some (unO U) by rw [hwo]; exact HG.out)
      rw [← hwo] at hfw2 q0 q1 q2 q3 q4 hbx ⊢
      clear hr hfa hwo HB HG hfw
      go_wp2
      go_loopw [34] (fun s34 wq => ∃ j : Nat, j ≤ r.f.code.length ∧ s34 = .int .i64 j ∧ Hid (Below W.heap.size W wq) ∧ Hid (wq.heap[W.heap.size]? = some (unO U)) ∧ Hid (∀ i ∈ r.f.code.take j, i.kind ≠ 9)) (fun i wq => r.f.code.length - (intOf i).toNat)
      case atStart => exact ⟨0, by omega, rfl, Lib.hid (HBo.out.alloc HBo.out.size _), Lib.hid ((Below.heap_alloc _ _ _ hbx).trans HGo.out), Lib.hid (fun i hi => by simp at hi)⟩
      case round =>
        obtain ⟨j, hj, rfl, HBq, HGq, HKq⟩ := hrel
        have hbq := lt_heap HGq.out
        by_cases hjl : j < r.f.code.length
        · obtain ⟨i, hi⟩ : ∃ i, r.f.code[j]? = some i := ⟨_, List.getElem?_eq_getElem hjl⟩
          obtain ⟨cb, co, hca, hins⟩ := HU.out.ins HR.out hi
          obtain ⟨x0, x1, x2, x3, x4, x5, x6, x7, x8, x9, x10, x11, x12, x13, x14⟩ := ins15 hins HBq.out
          have j0 : (0 : Int) ≤ (j : Int) := Int.natCast_nonneg _
          have j1 : (j : Int) < (r.f.code.length : Int) := by omega
          have hcw : cb < wr.heap.size := by have := hins.lt; have := HBq.out.size; omega
          have HI := Lib.hid hi
          rw [hca]
          clear hi hca hins
          by_cases h9 : i.kind = 9
          · have t9 : (i.kind == (9 : Int)) = true := by simpa using h9
            clear h9
            go_wp2_with ((with_reducible refine (awake7_any _).mono ?_); rintro e wv ⟨rfl, hbv⟩; have HBV := Lib.hid hbv; clear hbv)
            go_ret
            exact ⟨rfl, (HBq.out.alloc HBq.out.size _).trans (HBV.out.mono (by simp; have := HBq.out.size; omega))⟩
          · have t9 : (i.kind == (9 : Int)) = false := by simpa using h9
            have HNE := Lib.hid h9
            clear h9
            go_wp2
            go_roundw
            case rel => exact ⟨j + 1, by omega, by go_num, Lib.hid (HBq.out.alloc HBq.out.size _), Lib.hid ((Below.heap_alloc _ _ _ hbq).trans HGq.out), Lib.hid (fun x hx => by
              rw [List.take_add_one, HI.out] at hx
              rcases List.mem_append.1 hx with hx | hx
              · exact HKq.out x hx
              · obtain rfl : x = i := by simpa using hx
                exact HNE.out)⟩
            case measure => simp [intOf]; omega
        · obtain rfl : j = r.f.code.length := by omega
          go_wp2
          go_roundw
          case rel => exact ⟨k + 1, by omega, by go_num, HBq, HGq, Lib.hid (fun x hx => by
            rw [List.take_add_one, HR.out] at hx
            rcases List.mem_append.1 hx with hx | hx
            · exact HK.out x hx
            · obtain rfl : x = r := by simpa using hx
              have h := HKq.out
              rw [List.take_of_length_le (Nat.le_refl _)] at h
              exact h)⟩
          case measure => simp [intOf]; omega
    · obtain rfl : k = U.fs.length := by omega
      have hng : NoGetc U.un := fun f hf i hi => by
        obtain ⟨r, hr, rfl⟩ := List.mem_map.1 (show f ∈ U.fs.map (·.f) from hf)
        exact HK.out r (by rw [List.take_of_length_le (Nat.le_refl _)]; exact hr) i hi
      obtain ⟨x, hx⟩ : ∃ x, runU U.un inp fuel = x := ⟨_, rfl⟩
      have hy : runU U.un [] fuel = x := by rw [← hx]; exact runU_inp hng _ _ _
      clear hng
      have hSg : ∀ {w' : World}, Below wr.heap.size wr w' → (fun w' : World => w'.cell? ⟨W.heap.size, 0, none⟩ = some (.slice U.fa U.fs.length U.fc) ∧ w'.cell? ⟨W.heap.size, 1, none⟩ = some (.slice U.ga U.gs.length U.gc) ∧ w'.cell? ⟨W.heap.size, 2, none⟩ = some (.int .i64 U.top)) w' := fun h => nv3 ((h.block _ hbx).trans HG.out)
      have ra := run_on HU.out HIN.out HN.out HL.out HWD.out HB.out hx
      have rb : ∀ w', Below wr.heap.size wr w' → Calls Try.prog 15 #[unV U, .slice none 0 0, .int .i64 fuel] w' (RunPost x w') := fun w' h => crun_v U none [] 0 0 fuel W.heap.size w' (HU.out.below (HB.out.trans (h.mono HB.out.size))) (HB.out.trans (h.mono HB.out.size)).size HN.out HWD.out HL.out rfl ⟨none, 0, rfl, Nat.le_refl _, by unfold maxLen; omega, fun h => by simp [u8s] at h⟩ x hy
      have Hw0 := Lib.hid (drW (Below.refl wr.heap.size wr))
      go_wp2
      refine region_lastS (fun w' : World => w'.cell? ⟨W.heap.size, 0, none⟩ = some (.slice U.fa U.fs.length U.fc) ∧ w'.cell? ⟨W.heap.size, 1, none⟩ = some (.slice U.ga U.gs.length U.gc) ∧ w'.cell? ⟨W.heap.size, 2, none⟩ = some (.int .i64 U.top)) 1000000 hmix (hSg Hw0.out) (fun hS => ?main)
      refine anyL_takeH (i := 0) (v := ?_) rfl (by decide) (by kernel_rfl) (by kernel_rfl) (by kernel_rfl) (fun _ _ _ h => h) (Or.inl ⟨by rfl, ?_⟩) hS ?_
      rotate_left
      · (intro w' hSw; obtain ⟨k0, k1, k2⟩ := hSw; go_simp; first | done | with_reducible rfl)
      simp only [Act.put, List.getElem_toArray, List.getElem_cons_succ, List.getElem_cons_zero, List.setIfInBounds_toArray, List.set_cons_succ, List.set_cons_zero]
      refine anyL_takeH (i := 1) (v := ?_) rfl (by decide) (by kernel_rfl) (by kernel_rfl) (by kernel_rfl) (fun _ _ _ h => h) (Or.inl ⟨by rfl, ?_⟩) hS ?_
      rotate_left
      · (intro w' hSw; obtain ⟨k0, k1, k2⟩ := hSw; go_simp; first | done | with_reducible rfl)
      simp only [Act.put, List.getElem_toArray, List.getElem_cons_succ, List.getElem_cons_zero, List.setIfInBounds_toArray, List.set_cons_succ, List.set_cons_zero]
      refine anyL_takeH (i := 2) (v := ?_) rfl (by decide) (by kernel_rfl) (by kernel_rfl) (by kernel_rfl) (fun _ _ _ h => h) (Or.inl ⟨by rfl, ?_⟩) hS ?_
      rotate_left
      · (intro w' hSw; obtain ⟨k0, k1, k2⟩ := hSw; go_simp; first | done | with_reducible rfl)
      simp only [Act.put, List.getElem_toArray, List.getElem_cons_succ, List.getElem_cons_zero, List.setIfInBounds_toArray, List.set_cons_succ, List.set_cons_zero]
      refine anyL_takeH (i := 4) (v := ?_) rfl (by decide) (by kernel_rfl) (by kernel_rfl) (by kernel_rfl) (fun _ _ _ h => h) (Or.inl ⟨by rfl, ?_⟩) hS ?_
      rotate_left
      · (intro w' hSw; obtain ⟨k0, k1, k2⟩ := hSw; go_simp; first | done | with_reducible rfl)
      simp only [Act.put, List.getElem_toArray, List.getElem_cons_succ, List.getElem_cons_zero, List.setIfInBounds_toArray, List.set_cons_succ, List.set_cons_zero]
      refine anyL_takeH (i := 5) (v := ?_) rfl (by decide) (by kernel_rfl) (by kernel_rfl) (by kernel_rfl) (fun _ _ _ h => h) (Or.inl ⟨by rfl, ?_⟩) hS ?_
      rotate_left
      · (intro w' hSw; obtain ⟨k0, k1, k2⟩ := hSw; go_simp; first | done | with_reducible rfl)
      simp only [Act.put, List.getElem_toArray, List.getElem_cons_succ, List.getElem_cons_zero, List.setIfInBounds_toArray, List.set_cons_succ, List.set_cons_zero]
      refine anyL_one (i := 3) (by kernel_rfl) rfl (fun K1 hK1 => ?_)
      go_simp
      refine (ra _ Hw0.out).mono ?_
      rintro e v3 ⟨xa, xc, rfl, hox, hbx3⟩
      have Hv3 := Lib.hid (Hw0.out.trans (hbx3.mono Hw0.out.size)); have HX3 := Lib.hid (bytes_of_own hox); have hlx : x.out.length ≤ maxLen := Nat.le_trans (own_cap hox).1 (own_cap hox).2; clear hox hbx3
      refine hK1.out _ _ (fun _ => hSg Hv3.out) ?_
      clear hK1 K1
      refine anyL_one (i := 6) (by kernel_rfl) rfl (fun K1 hK1 => ?_)
      go_simp
      refine (rb _ Hv3.out).mono ?_
      rintro e v6 ⟨ya, yc, rfl, hoy, hbx6⟩
      have Hv6 := Lib.hid (Hv3.out.trans (hbx6.mono Hv3.out.size)); have HX6 := Lib.hid (HX3.out.below hbx6); have HY6 := Lib.hid (bytes_of_own hoy); clear hoy hbx6
      refine hK1.out _ _ (fun _ => hSg Hv6.out) ?_
      clear hK1 K1
      refine anyL_one (i := 7) (by kernel_rfl) rfl (fun K1 hK1 => ?_)
      go_simp
      refine (result_v x x xa ya xc yc true v6 HX6.out HY6.out hlx hlx (sameR_refl x)).mono ?_
      rintro e v7 ⟨rfl, hb7⟩
      have Hv7 := Lib.hid (Hv6.out.trans (hb7.mono Hv6.out.size)); clear hb7
      refine hK1.out _ _ (fun _ => hSg Hv7.out) ?_
      clear hK1 K1
      refine anyL_one (i := 8) (by kernel_rfl) rfl (fun K1 hK1 => ?_)
      go_simp
      refine hK1.out _ _ (fun _ => hSg Hv7.out) ?_
      clear hK1 K1
      refine anyL_one (i := 9) (by kernel_rfl) rfl (fun K1 hK1 => ?_)
      go_simp
      refine (awake7_any v7).mono ?_
      rintro e v9 ⟨rfl, hb9⟩
      have Hv9 := Lib.hid (Hv7.out.trans (hb9.mono Hv7.out.size)); clear hb9
      refine hK1.out _ _ (fun _ => hSg Hv9.out) ?_
      clear hK1 K1
      refine anyL_one (i := 10) (by kernel_rfl) rfl (fun K1 hK1 => ?_)
      go_simp
      refine hK1.out _ _ (fun _ => hSg Hv9.out) ?_
      clear hK1 K1
      refine anyL_one (i := 11) (by kernel_rfl) rfl (fun K1 hK1 => ?_)
      go_simp
      refine hK1.out _ _ (fun _ => hSg Hv9.out) ?_
      clear hK1 K1
      refine anyL_done (by kernel_rfl) ?_ _
      clear ra rb hSg hx hy hS
      go_wp2
      go_ret
      exact ⟨rfl, HB.out.trans (Hv9.out.mono HB.out.size)⟩
theorem inp_any (U : UnR) (ia : Option Addr) (inp : List UInt8) (ic : Nat) (fuel : Int) (W : World) (hU : UnAt W W.heap.size U) (hin : CIn W (.slice ia inp.length ic) inp) (hWd : ∀ g ∈ U.gs, Wd g.pos) : Calls Try.prog 6 #[unV U, .slice ia inp.length ic, .int .i64 fuel] W (RPost (.bool true) W) := by
  cases hf : fewB U.un with
  | false => exact inp_no U ia inp ic fuel W hU hf
  | true =>
    by_cases h1 : inp.length ≤ 200
    rotate_left
    · exact inp_long U ia inp ic fuel W hU hf (by omega)
    by_cases h3 : fuel ≤ 5000
    rotate_left
    · exact inp_much U ia inp ic fuel W hU hf h1 (by omega)
    exact inp_go U ia inp ic fuel W hU hin hWd hf h1 h3
end Go.Proofs.Ytmcpfjhdeplgmaa
