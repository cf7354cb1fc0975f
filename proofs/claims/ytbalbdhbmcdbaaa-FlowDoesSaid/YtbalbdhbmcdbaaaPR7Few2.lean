/-
  Contract of doppellaw07's Few.
-/
import Derived.Test.YtbalbdhbmcdbaaaPLM
import Derived.Test.YtbalbdhbmcdbaaaPR7Find
set_option linter.unusedVariables false
set_option linter.unusedSimpArgs false
namespace Go.Proofs.Ytbalbdhbmcdbaaa
set_option maxRecDepth 100000
open Go.RowKit Cd
set_option maxHeartbeats 4000000 in
theorem few_v (fs : List FnR) (fa : Option Addr) (fc : Nat) (gs : List Glo) (ga : Option Addr) (gc : Nat) (top : Int) (m : Bool) (B : Nat) (w : World) (hU : UnAt w B ⟨fs, fa, fc, gs, ga, gc, top⟩) (hBw : B ≤ w.heap.size) (hm : fewB (UnR.un ⟨fs, fa, fc, gs, ga, gc, top⟩) = m) :
    Calls Try.prog 36 #[unV ⟨fs, fa, fc, gs, ga, gc, top⟩] w (RPost (.bool m) w) := by
  have hlf := hU.lf
  have hlg := hU.lg
  simp only at hlf hlg
  unfold maxLen at hlf hlg
  have HU := Lib.hid hU; clear hU
  have HM := Lib.hid (show (decide (fs.length ≤ 6) && decide (gs.length ≤ 10) && (fs.map (·.f)).all smallB && gs.all (fun g => decide (g.name.length ≤ 50))) = m by rw [← hm]; unfold fewB UnR.un UnR.fns; simp only [List.length_map]); clear hm
  go_enter Try.func36, Try.ntmps36
  go_wp2
  go_loopw [3] (fun s3 wr => ∃ k : Nat, k ≤ fs.length ∧ k ≤ 7 ∧ s3 = .int .i64 k ∧ Hid (Below w.heap.size w wr) ∧ Hid (wr.heap[w.heap.size]? = some (unO ⟨fs, fa, fc, gs, ga, gc, top⟩)) ∧ Hid (((fs.map (·.f)).take k).all smallB = true)) (fun i wr => fs.length - (intOf i).toNat)
  case atStart => exact ⟨0, by omega, by omega, rfl, Lib.hid ((Below.refl _ _).alloc (Nat.le_refl _) _), Lib.hid (heap_alloc_new w _), Lib.hid (by simp)⟩
  case round =>
    obtain ⟨k, hk, hk7, rfl, HB, HW, HA⟩ := hrel
    obtain ⟨d0, d1, d2⟩ := nv3 HW.out
    have hz := lt_heap HW.out
    have HU2 := Lib.hid (HU.out.below (HB.out.mono hBw))
    have p0 : (0 : Int) ≤ (k : Int) := Int.natCast_nonneg _
    by_cases hlt : k < fs.length ∧ k ≤ 6
    · obtain ⟨hlt, hk6⟩ := hlt
      obtain ⟨r, hr⟩ : ∃ r, fs[k]? = some r := ⟨_, List.getElem?_eq_getElem hlt⟩
      obtain ⟨b, off, hfa, hb, hBw2, q0, q1, q2, q3, q4⟩ := HU2.out.fn hr
      simp only at hfa
      subst hfa
      have hmem := List.mem_of_getElem? hr
      have HC2 := Lib.hid (HU2.out.code r hmem)
      have HML := Lib.hid (HU.out.lc r hmem)
      have HX := Lib.hid (show (fs.map (·.f))[k]? = some r.f by rw [List.getElem?_map, hr]; rfl); clear hr hmem
      have p1 : (k : Int) < (fs.length : Int) := by omega
      have t6 : decide ((k : Int) ≤ (6 : Int)) = true := by simp <;> omega
      cases hs : smallB r.f with
      | false =>
        have HS := Lib.hid hs; clear hs
        have E := Lib.hid (show m = false by rw [← HM.out, all_noT HX.out HS.out]; simp)
        go_wp2_with (((with_reducible refine (small_any r false B _ HC2.out HML.out (Nat.le_trans hBw HB.out.size) HS.out).mono ?_); rintro e v1 ⟨rfl, hb1⟩; have HB1 := Lib.hid (HB.out.trans (hb1.mono HB.out.size)); have HW1 := Lib.hid ((hb1.block w.heap.size hz).trans HW.out); clear hb1))
        go_ret
        exact ⟨by rw [E.out]; rfl, HB1.out⟩
      | true =>
        have HS := Lib.hid hs; clear hs
        have HA2 := Lib.hid (all_yesT HA.out HX.out HS.out)
        go_wp2_with (((with_reducible refine (small_any r true B _ HC2.out HML.out (Nat.le_trans hBw HB.out.size) HS.out).mono ?_); rintro e v1 ⟨rfl, hb1⟩; have HB1 := Lib.hid (HB.out.trans (hb1.mono HB.out.size)); have HW1 := Lib.hid ((hb1.block w.heap.size hz).trans HW.out); clear hb1))
        go_roundw
        case rel => exact ⟨k + 1, by omega, by omega, by go_num, HB1, HW1, HA2⟩
        case measure => simp [intOf]; omega
    · have hex : k = fs.length ∨ (k = 7 ∧ 6 < fs.length) := by omega
      have HFA := Lib.hid (show fs.length ≤ 6 → (fs.map (·.f)).all smallB = true by intro h6; have : k = fs.length := (by omega); have h := HA.out; rwa [this, List.take_of_length_le (by simp)] at h)
      clear HA
      have HLP : ∀ (wx : World), wx = wx := fun _ => rfl
      clear HLP
      by_cases hkl : k < fs.length
      · have t6 : decide ((k : Int) ≤ (6 : Int)) = false := by simp <;> omega
        have p1 : (k : Int) < (fs.length : Int) := by omega
        go_wp2
        go_loopw [4] (fun s4 wr => ∃ k : Nat, k ≤ gs.length ∧ k ≤ 11 ∧ s4 = .int .i64 k ∧ Hid (Below w.heap.size w wr) ∧ Hid (wr.heap[w.heap.size]? = some (unO ⟨fs, fa, fc, gs, ga, gc, top⟩)) ∧ Hid ((gs.take k).all (fun g => decide (g.name.length ≤ 50)) = true)) (fun i wr => gs.length - (intOf i).toNat)
        case atStart => exact ⟨0, by omega, by omega, rfl, HB, HW, Lib.hid (by simp)⟩
        case round =>
          clear HB HW HU2 d0 d1 d2 hz p0
          obtain ⟨k, hk, hk11, rfl, HB, HW, HA⟩ := hrel
          obtain ⟨d0, d1, d2⟩ := nv3 HW.out
          have HU2 := Lib.hid (HU.out.below (HB.out.mono hBw))
          have p0 : (0 : Int) ≤ (k : Int) := Int.natCast_nonneg _
          by_cases hlt : k < gs.length ∧ k ≤ 10
          · obtain ⟨hlt, hk6⟩ := hlt
            obtain ⟨g, hg⟩ : ∃ g, gs[k]? = some g := ⟨_, List.getElem?_eq_getElem hlt⟩
            obtain ⟨b, off, hga, hb, hBw2, q0, q1, q2, q3⟩ := HU2.out.gl hg
            simp only at hga
            subst hga
            have HX := Lib.hid hg; clear hg
            have p1 : (k : Int) < (gs.length : Int) := by omega
            have t10 : decide ((k : Int) ≤ (10 : Int)) = true := by simp <;> omega
            by_cases z0 : g.name.length ≤ 50
            · have u0 : decide ((g.name.length : Int) > (50 : Int)) = false := by simp <;> omega
              have u1 : decide ((50 : Int) < (g.name.length : Int)) = false := by simp <;> omega
              have HA2 := Lib.hid (all_yesT HA.out HX.out (by simpa using z0))
              go_wp2
              go_roundw
              case rel => exact ⟨k + 1, by omega, by omega, by go_num, HB, HW, HA2⟩
              case measure => simp [intOf]; omega
            · have u0 : decide ((g.name.length : Int) > (50 : Int)) = true := by simp <;> omega
              have u1 : decide ((50 : Int) < (g.name.length : Int)) = true := by simp <;> omega
              have E := Lib.hid (show m = false by rw [← HM.out, all_noT (l := gs) HX.out (by simpa using z0)]; simp)
              go_wp2
              go_ret
              exact ⟨by rw [E.out]; rfl, HB.out⟩
          · have hex2 : k = gs.length ∨ (k = 11 ∧ 10 < gs.length) := by omega
            have HGA := Lib.hid (show gs.length ≤ 10 → gs.all (fun g => decide (g.name.length ≤ 50)) = true by intro h6; have : k = gs.length := (by omega); have h := HA.out; rwa [this, List.take_length] at h)
            have E := Lib.hid (show m = (decide (fs.length ≤ 6) && decide (gs.length ≤ 10)) by rw [← HM.out]; by_cases h6 : fs.length ≤ 6; by_cases h10 : gs.length ≤ 10; rw [HFA.out h6, HGA.out h10]; simp [h6, h10]; simp [h10]; simp [h6])
            clear HA
            by_cases hkg : k < gs.length
            · have t10 : decide ((k : Int) ≤ (10 : Int)) = false := by simp <;> omega
              have p1 : (k : Int) < (gs.length : Int) := by omega
              by_cases h6 : fs.length ≤ 6
              · have v6 : decide ((fs.length : Int) ≤ (6 : Int)) = true := by simp <;> omega
                by_cases h10 : gs.length ≤ 10
                · have v10 : decide ((gs.length : Int) ≤ (10 : Int)) = true := by simp <;> omega
                  first | (exfalso; omega) | (go_wp2; go_ret; exact ⟨by rw [E.out]; simp [h6, h10], HB.out⟩)
                · have v10 : decide ((gs.length : Int) ≤ (10 : Int)) = false := by simp <;> omega
                  first | (exfalso; omega) | (go_wp2; go_ret; exact ⟨by rw [E.out]; simp [h6, h10], HB.out⟩)
              · have v6 : decide ((fs.length : Int) ≤ (6 : Int)) = false := by simp <;> omega
                by_cases h10 : gs.length ≤ 10
                · have v10 : decide ((gs.length : Int) ≤ (10 : Int)) = true := by simp <;> omega
                  first | (exfalso; omega) | (go_wp2; go_ret; exact ⟨by rw [E.out]; simp [h6, h10], HB.out⟩)
                · have v10 : decide ((gs.length : Int) ≤ (10 : Int)) = false := by simp <;> omega
                  first | (exfalso; omega) | (go_wp2; go_ret; exact ⟨by rw [E.out]; simp [h6, h10], HB.out⟩)
            · have p9 : ¬ (k : Int) < (gs.length : Int) := by omega
              by_cases h6 : fs.length ≤ 6
              · have v6 : decide ((fs.length : Int) ≤ (6 : Int)) = true := by simp <;> omega
                by_cases h10 : gs.length ≤ 10
                · have v10 : decide ((gs.length : Int) ≤ (10 : Int)) = true := by simp <;> omega
                  first | (exfalso; omega) | (go_wp2; go_ret; exact ⟨by rw [E.out]; simp [h6, h10], HB.out⟩)
                · have v10 : decide ((gs.length : Int) ≤ (10 : Int)) = false := by simp <;> omega
                  first | (exfalso; omega) | (go_wp2; go_ret; exact ⟨by rw [E.out]; simp [h6, h10], HB.out⟩)
              · have v6 : decide ((fs.length : Int) ≤ (6 : Int)) = false := by simp <;> omega
                by_cases h10 : gs.length ≤ 10
                · have v10 : decide ((gs.length : Int) ≤ (10 : Int)) = true := by simp <;> omega
                  first | (exfalso; omega) | (go_wp2; go_ret; exact ⟨by rw [E.out]; simp [h6, h10], HB.out⟩)
                · have v10 : decide ((gs.length : Int) ≤ (10 : Int)) = false := by simp <;> omega
                  first | (exfalso; omega) | (go_wp2; go_ret; exact ⟨by rw [E.out]; simp [h6, h10], HB.out⟩)
      · have p1 : ¬ (k : Int) < (fs.length : Int) := by omega
        go_wp2
        go_loopw [4] (fun s4 wr => ∃ k : Nat, k ≤ gs.length ∧ k ≤ 11 ∧ s4 = .int .i64 k ∧ Hid (Below w.heap.size w wr) ∧ Hid (wr.heap[w.heap.size]? = some (unO ⟨fs, fa, fc, gs, ga, gc, top⟩)) ∧ Hid ((gs.take k).all (fun g => decide (g.name.length ≤ 50)) = true)) (fun i wr => gs.length - (intOf i).toNat)
        case atStart => exact ⟨0, by omega, by omega, rfl, HB, HW, Lib.hid (by simp)⟩
        case round =>
          clear HB HW HU2 d0 d1 d2 hz p0
          obtain ⟨k, hk, hk11, rfl, HB, HW, HA⟩ := hrel
          obtain ⟨d0, d1, d2⟩ := nv3 HW.out
          have HU2 := Lib.hid (HU.out.below (HB.out.mono hBw))
          have p0 : (0 : Int) ≤ (k : Int) := Int.natCast_nonneg _
          by_cases hlt : k < gs.length ∧ k ≤ 10
          · obtain ⟨hlt, hk6⟩ := hlt
            obtain ⟨g, hg⟩ : ∃ g, gs[k]? = some g := ⟨_, List.getElem?_eq_getElem hlt⟩
            obtain ⟨b, off, hga, hb, hBw2, q0, q1, q2, q3⟩ := HU2.out.gl hg
            simp only at hga
            subst hga
            have HX := Lib.hid hg; clear hg
            have p1 : (k : Int) < (gs.length : Int) := by omega
            have t10 : decide ((k : Int) ≤ (10 : Int)) = true := by simp <;> omega
            by_cases z0 : g.name.length ≤ 50
            · have u0 : decide ((g.name.length : Int) > (50 : Int)) = false := by simp <;> omega
              have u1 : decide ((50 : Int) < (g.name.length : Int)) = false := by simp <;> omega
              have HA2 := Lib.hid (all_yesT HA.out HX.out (by simpa using z0))
              go_wp2
              go_roundw
              case rel => exact ⟨k + 1, by omega, by omega, by go_num, HB, HW, HA2⟩
              case measure => simp [intOf]; omega
            · have u0 : decide ((g.name.length : Int) > (50 : Int)) = true := by simp <;> omega
              have u1 : decide ((50 : Int) < (g.name.length : Int)) = true := by simp <;> omega
              have E := Lib.hid (show m = false by rw [← HM.out, all_noT (l := gs) HX.out (by simpa using z0)]; simp)
              go_wp2
              go_ret
              exact ⟨by rw [E.out]; rfl, HB.out⟩
          · have hex2 : k = gs.length ∨ (k = 11 ∧ 10 < gs.length) := by omega
            have HGA := Lib.hid (show gs.length ≤ 10 → gs.all (fun g => decide (g.name.length ≤ 50)) = true by intro h6; have : k = gs.length := (by omega); have h := HA.out; rwa [this, List.take_length] at h)
            have E := Lib.hid (show m = (decide (fs.length ≤ 6) && decide (gs.length ≤ 10)) by rw [← HM.out]; by_cases h6 : fs.length ≤ 6; by_cases h10 : gs.length ≤ 10; rw [HFA.out h6, HGA.out h10]; simp [h6, h10]; simp [h10]; simp [h6])
            clear HA
            by_cases hkg : k < gs.length
            · have t10 : decide ((k : Int) ≤ (10 : Int)) = false := by simp <;> omega
              have p1 : (k : Int) < (gs.length : Int) := by omega
              by_cases h6 : fs.length ≤ 6
              · have v6 : decide ((fs.length : Int) ≤ (6 : Int)) = true := by simp <;> omega
                by_cases h10 : gs.length ≤ 10
                · have v10 : decide ((gs.length : Int) ≤ (10 : Int)) = true := by simp <;> omega
                  first | (exfalso; omega) | (go_wp2; go_ret; exact ⟨by rw [E.out]; simp [h6, h10], HB.out⟩)
                · have v10 : decide ((gs.length : Int) ≤ (10 : Int)) = false := by simp <;> omega
                  first | (exfalso; omega) | (go_wp2; go_ret; exact ⟨by rw [E.out]; simp [h6, h10], HB.out⟩)
              · have v6 : decide ((fs.length : Int) ≤ (6 : Int)) = false := by simp <;> omega
                by_cases h10 : gs.length ≤ 10
                · have v10 : decide ((gs.length : Int) ≤ (10 : Int)) = true := by simp <;> omega
                  first | (exfalso; omega) | (go_wp2; go_ret; exact ⟨by rw [E.out]; simp [h6, h10], HB.out⟩)
                · have v10 : decide ((gs.length : Int) ≤ (10 : Int)) = false := by simp <;> omega
                  first | (exfalso; omega) | (go_wp2; go_ret; exact ⟨by rw [E.out]; simp [h6, h10], HB.out⟩)
            · have p9 : ¬ (k : Int) < (gs.length : Int) := by omega
              by_cases h6 : fs.length ≤ 6
              · have v6 : decide ((fs.length : Int) ≤ (6 : Int)) = true := by simp <;> omega
                by_cases h10 : gs.length ≤ 10
                · have v10 : decide ((gs.length : Int) ≤ (10 : Int)) = true := by simp <;> omega
                  first | (exfalso; omega) | (go_wp2; go_ret; exact ⟨by rw [E.out]; simp [h6, h10], HB.out⟩)
                · have v10 : decide ((gs.length : Int) ≤ (10 : Int)) = false := by simp <;> omega
                  first | (exfalso; omega) | (go_wp2; go_ret; exact ⟨by rw [E.out]; simp [h6, h10], HB.out⟩)
              · have v6 : decide ((fs.length : Int) ≤ (6 : Int)) = false := by simp <;> omega
                by_cases h10 : gs.length ≤ 10
                · have v10 : decide ((gs.length : Int) ≤ (10 : Int)) = true := by simp <;> omega
                  first | (exfalso; omega) | (go_wp2; go_ret; exact ⟨by rw [E.out]; simp [h6, h10], HB.out⟩)
                · have v10 : decide ((gs.length : Int) ≤ (10 : Int)) = false := by simp <;> omega
                  first | (exfalso; omega) | (go_wp2; go_ret; exact ⟨by rw [E.out]; simp [h6, h10], HB.out⟩)
theorem few_any (U : UnR) (m : Bool) (B : Nat) (w : World) (hU : UnAt w B U) (hBw : B ≤ w.heap.size) (hm : fewB U.un = m) :
    Calls Try.prog 36 #[unV U] w (RPost (.bool m) w) := few_v U.fs U.fa U.fc U.gs U.ga U.gc U.top m B w hU hBw hm
end Go.Proofs.Ytbalbdhbmcdbaaa
