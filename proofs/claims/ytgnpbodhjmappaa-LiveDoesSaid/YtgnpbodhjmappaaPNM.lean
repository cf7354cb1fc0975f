/-
  Contracts of doppellaw07's Small, Few and Result.
-/
import Derived.Test.YtgnpbodhjmappaaPND
import Derived.Test.YtgnpbodhjmappaaPR7Find
import Derived.Test.YtgnpbodhjmappaaPNB
import Derived.Test.YtgnpbodhjmappaaPLB
set_option linter.unusedVariables false
set_option linter.unusedSimpArgs false
namespace Go.Proofs.Ytgnpbodhjmappaa
set_option maxRecDepth 100000
open Go.RowKit Cd
def Cd.smallB (f : Fnc) : Bool := decide (f.name.length ≤ 50) && decide (f.code.length ≤ 60) && !(decide (40 < f.regs) && decide (f.regs ≤ 4096)) && f.code.all (fun i => decide (i.text.length ≤ 50))
def Cd.fewB (u : Uni) : Bool := decide (u.funcs.length ≤ 6) && decide (u.globals.length ≤ 10) && u.funcs.all smallB && u.globals.all (fun g => decide (g.name.length ≤ 50))
theorem all_noT {α : Type} {p : α → Bool} {l : List α} {k : Nat} {x : α} (h : l[k]? = some x) (hp : p x = false) : l.all p = false := by
  rw [List.all_eq_false]; exact ⟨x, List.mem_of_getElem? h, by simp [hp]⟩
theorem all_yesT {α : Type} {p : α → Bool} {l : List α} {k : Nat} {x : α} (ha : (l.take k).all p = true) (h : l[k]? = some x) (hp : p x = true) : (l.take (k + 1)).all p = true := by
  obtain ⟨hk, hx⟩ := List.getElem?_eq_some_iff.1 h
  rw [List.take_succ_eq_append_getElem hk, hx, List.all_append, ha]; simp [hp]
set_option maxHeartbeats 4000000 in
theorem small_w (name : List UInt8) (params regs frame : Int) (code : List Ins) (ca : Option Addr) (cc : Nat) (m : Bool) (B : Nat) (w : World) (hc : CodeAt w B ⟨⟨name, params, regs, frame, code⟩, ca, cc⟩) (hml : code.length ≤ 2 ^ 63 - 1) (hBw : B ≤ w.heap.size) (hm : smallB ⟨name, params, regs, frame, code⟩ = m) (y0 : name.length ≤ 50) (y1 : code.length ≤ 60) (y2 : ¬ 40 < regs ∨ ¬ regs ≤ 4096) :
    Calls Try.prog 24 #[fnV ⟨⟨name, params, regs, frame, code⟩, ca, cc⟩] w (RPost (.bool m) w) := by
  have HC := Lib.hid hc; clear hc
  have HM := Lib.hid (show code.all (fun i => decide (i.text.length ≤ 50)) = m by rw [← hm]; unfold smallB; rw [decide_eq_true (show (Fnc.name ⟨name, params, regs, frame, code⟩).length ≤ 50 from y0), decide_eq_true (show (Fnc.code ⟨name, params, regs, frame, code⟩).length ≤ 60 from y1)]; rcases y2 with y2 | y2; rw [decide_eq_false (show ¬ 40 < (Fnc.regs ⟨name, params, regs, frame, code⟩) from y2)]; simp; rw [decide_eq_false (show ¬ (Fnc.regs ⟨name, params, regs, frame, code⟩) ≤ 4096 from y2)]; simp)
  clear hm
  have t0 : decide ((name.length : Int) > (50 : Int)) = false := by simp <;> omega
  have t0' : decide ((50 : Int) < (name.length : Int)) = false := by simp <;> omega
  have t1 : decide ((code.length : Int) > (60 : Int)) = false := by simp <;> omega
  have t1' : decide ((60 : Int) < (code.length : Int)) = false := by simp <;> omega
  by_cases y3 : 40 < regs
  rotate_left
  · have t2 : decide (regs > (40 : Int)) = false := by simp <;> omega
    have t2' : decide ((40 : Int) < regs) = false := by simp <;> omega
    go_enter Try.func24, Try.ntmps24
    go_wp2
    go_loopw [28] (fun s28 wr => ∃ k : Nat, k ≤ code.length ∧ s28 = .int .i64 k ∧ Hid (Below w.heap.size w wr) ∧ Hid ((code.take k).all (fun i => decide (i.text.length ≤ 50)) = true)) (fun i wr => code.length - (intOf i).toNat)
    case atStart => exact ⟨0, by omega, rfl, Lib.hid ((Below.refl _ _).alloc (Nat.le_refl _) _), Lib.hid (by simp)⟩
    case round =>
      obtain ⟨k, hk, rfl, HB, HA⟩ := hrel
      by_cases hlt : k < code.length
      · obtain ⟨x, hx⟩ : ∃ x, code[k]? = some x := ⟨_, List.getElem?_eq_getElem hlt⟩
        have HC2 := Lib.hid (HC.out.below (HB.out.mono hBw))
        obtain ⟨b, off, hca, hb, hBw2, q0, q1, q2, q3, q4, q5, q6, q7, q8, q9, q10, q11, q12, q13, q14⟩ := HC2.out.cells hx
        simp only at hca
        subst hca
        have HX := Lib.hid hx; clear hx
        have p0 : (0 : Int) ≤ (k : Int) := Int.natCast_nonneg _
        have p1 : (k : Int) < (code.length : Int) := by omega
        have HB2 := Lib.hid (HB.out.alloc HB.out.size (inO x))
        by_cases z0 : x.text.length ≤ 50
        · have u0 : decide ((x.text.length : Int) > (50 : Int)) = false := by simp <;> omega
          have u1 : decide ((50 : Int) < (x.text.length : Int)) = false := by simp <;> omega
          have HA2 := Lib.hid (all_yesT HA.out HX.out (by simpa using z0))
          go_wp2
          go_roundw
          case rel => exact ⟨k + 1, by omega, by go_num, HB2, HA2⟩
          case measure => simp [intOf]; omega
        · have u0 : decide ((x.text.length : Int) > (50 : Int)) = true := by simp <;> omega
          have u1 : decide ((50 : Int) < (x.text.length : Int)) = true := by simp <;> omega
          have E := Lib.hid (show m = false by rw [← HM.out]; exact all_noT HX.out (by simpa using z0))
          go_wp2
          go_ret
          exact ⟨by rw [E.out]; rfl, HB2.out⟩
      · obtain rfl : k = code.length := by omega
        have E := Lib.hid (show m = true by rw [← HM.out]; have := HA.out; rwa [List.take_length] at this)
        go_wp2
        go_ret
        exact ⟨by rw [E.out]; rfl, HB.out⟩
  · have t2 : decide (regs > (40 : Int)) = true := by simp <;> omega
    have t2' : decide ((40 : Int) < regs) = true := by simp <;> omega
    have t3 : decide (regs ≤ (4096 : Int)) = false := by simp <;> omega
    go_enter Try.func24, Try.ntmps24
    go_wp2
    go_loopw [28] (fun s28 wr => ∃ k : Nat, k ≤ code.length ∧ s28 = .int .i64 k ∧ Hid (Below w.heap.size w wr) ∧ Hid ((code.take k).all (fun i => decide (i.text.length ≤ 50)) = true)) (fun i wr => code.length - (intOf i).toNat)
    case atStart => exact ⟨0, by omega, rfl, Lib.hid ((Below.refl _ _).alloc (Nat.le_refl _) _), Lib.hid (by simp)⟩
    case round =>
      obtain ⟨k, hk, rfl, HB, HA⟩ := hrel
      by_cases hlt : k < code.length
      · obtain ⟨x, hx⟩ : ∃ x, code[k]? = some x := ⟨_, List.getElem?_eq_getElem hlt⟩
        have HC2 := Lib.hid (HC.out.below (HB.out.mono hBw))
        obtain ⟨b, off, hca, hb, hBw2, q0, q1, q2, q3, q4, q5, q6, q7, q8, q9, q10, q11, q12, q13, q14⟩ := HC2.out.cells hx
        simp only at hca
        subst hca
        have HX := Lib.hid hx; clear hx
        have p0 : (0 : Int) ≤ (k : Int) := Int.natCast_nonneg _
        have p1 : (k : Int) < (code.length : Int) := by omega
        have HB2 := Lib.hid (HB.out.alloc HB.out.size (inO x))
        by_cases z0 : x.text.length ≤ 50
        · have u0 : decide ((x.text.length : Int) > (50 : Int)) = false := by simp <;> omega
          have u1 : decide ((50 : Int) < (x.text.length : Int)) = false := by simp <;> omega
          have HA2 := Lib.hid (all_yesT HA.out HX.out (by simpa using z0))
          go_wp2
          go_roundw
          case rel => exact ⟨k + 1, by omega, by go_num, HB2, HA2⟩
          case measure => simp [intOf]; omega
        · have u0 : decide ((x.text.length : Int) > (50 : Int)) = true := by simp <;> omega
          have u1 : decide ((50 : Int) < (x.text.length : Int)) = true := by simp <;> omega
          have E := Lib.hid (show m = false by rw [← HM.out]; exact all_noT HX.out (by simpa using z0))
          go_wp2
          go_ret
          exact ⟨by rw [E.out]; rfl, HB2.out⟩
      · obtain rfl : k = code.length := by omega
        have E := Lib.hid (show m = true by rw [← HM.out]; have := HA.out; rwa [List.take_length] at this)
        go_wp2
        go_ret
        exact ⟨by rw [E.out]; rfl, HB.out⟩
set_option maxHeartbeats 4000000 in
theorem small_v (name : List UInt8) (params regs frame : Int) (code : List Ins) (ca : Option Addr) (cc : Nat) (m : Bool) (B : Nat) (w : World) (hc : CodeAt w B ⟨⟨name, params, regs, frame, code⟩, ca, cc⟩) (hml : code.length ≤ maxLen) (hBw : B ≤ w.heap.size) (hm : smallB ⟨name, params, regs, frame, code⟩ = m) :
    Calls Try.prog 24 #[fnV ⟨⟨name, params, regs, frame, code⟩, ca, cc⟩] w (RPost (.bool m) w) := by
  unfold maxLen at hml
  have HC := Lib.hid hc; clear hc
  have HM := Lib.hid hm; clear hm
  by_cases y0 : name.length ≤ 50
  rotate_left
  · have t0 : decide ((name.length : Int) > (50 : Int)) = true := by simp <;> omega
    have t0' : decide ((50 : Int) < (name.length : Int)) = true := by simp <;> omega
    have E := Lib.hid (show m = false by rw [← HM.out]; unfold smallB; rw [decide_eq_false y0]; rfl)
    go_enter Try.func24, Try.ntmps24
    go_wp2
    go_ret
    exact ⟨by rw [E.out]; rfl, (Below.refl _ _).alloc (Nat.le_refl _) _⟩
  have t0 : decide ((name.length : Int) > (50 : Int)) = false := by simp <;> omega
  have t0' : decide ((50 : Int) < (name.length : Int)) = false := by simp <;> omega
  by_cases y1 : code.length ≤ 60
  rotate_left
  · have t1 : decide ((code.length : Int) > (60 : Int)) = true := by simp <;> omega
    have t1' : decide ((60 : Int) < (code.length : Int)) = true := by simp <;> omega
    have E := Lib.hid (show m = false by rw [← HM.out]; unfold smallB; rw [decide_eq_false y1]; simp)
    go_enter Try.func24, Try.ntmps24
    go_wp2
    go_ret
    exact ⟨by rw [E.out]; rfl, (Below.refl _ _).alloc (Nat.le_refl _) _⟩
  have t1 : decide ((code.length : Int) > (60 : Int)) = false := by simp <;> omega
  have t1' : decide ((60 : Int) < (code.length : Int)) = false := by simp <;> omega
  by_cases y2 : 40 < regs
  · have t2 : decide (regs > (40 : Int)) = true := by simp <;> omega
    have t2' : decide ((40 : Int) < regs) = true := by simp <;> omega
    by_cases y3 : regs ≤ 4096
    · have t3 : decide (regs ≤ (4096 : Int)) = true := by simp <;> omega
      have E := Lib.hid (show m = false by rw [← HM.out]; unfold smallB; rw [decide_eq_true (show 40 < (Fnc.regs ⟨name, params, regs, frame, code⟩) from y2), decide_eq_true (show (Fnc.regs ⟨name, params, regs, frame, code⟩) ≤ 4096 from y3)]; simp)
      go_enter Try.func24, Try.ntmps24
      go_wp2
      go_ret
      exact ⟨by rw [E.out]; rfl, (Below.refl _ _).alloc (Nat.le_refl _) _⟩
    · have t3 : decide (regs ≤ (4096 : Int)) = false := by simp <;> omega
      exact small_w name params regs frame code ca cc m B w HC.out hml hBw HM.out y0 y1 (.inr y3)
  · exact small_w name params regs frame code ca cc m B w HC.out hml hBw HM.out y0 y1 (.inl y2)
theorem small_any (r : FnR) (m : Bool) (B : Nat) (w : World) (hc : CodeAt w B r) (hml : r.f.code.length ≤ maxLen) (hBw : B ≤ w.heap.size) (hm : smallB r.f = m) :
    Calls Try.prog 24 #[fnV r] w (RPost (.bool m) w) := small_v r.f.name r.f.params r.f.regs r.f.frame r.f.code r.ca r.cc m B w hc hml hBw hm
end Go.Proofs.Ytgnpbodhjmappaa
namespace Go.Proofs.Ytgnpbodhjmappaa
set_option maxRecDepth 100000
open Go.RowKit Cd
set_option maxHeartbeats 4000000 in
theorem few_v (fs : List FnR) (fa : Option Addr) (fc : Nat) (gs : List Glo) (ga : Option Addr) (gc : Nat) (top : Int) (m : Bool) (B : Nat) (w : World) (hU : UnAt w B ⟨fs, fa, fc, gs, ga, gc, top⟩) (hBw : B ≤ w.heap.size) (hm : fewB (UnR.un ⟨fs, fa, fc, gs, ga, gc, top⟩) = m) :
    Calls Try.prog 18 #[unV ⟨fs, fa, fc, gs, ga, gc, top⟩] w (RPost (.bool m) w) := by
  have hlf := hU.lf
  have hlg := hU.lg
  simp only at hlf hlg
  unfold maxLen at hlf hlg
  have HU := Lib.hid hU; clear hU
  have HM := Lib.hid (show (decide (fs.length ≤ 6) && decide (gs.length ≤ 10) && (fs.map (·.f)).all smallB && gs.all (fun g => decide (g.name.length ≤ 50))) = m by rw [← hm]; unfold fewB UnR.un UnR.fns; simp only [List.length_map]); clear hm
  go_enter Try.func18, Try.ntmps18
  go_wp2
  go_loopw [3] (fun s3 wr => ∃ k : Nat, k ≤ fs.length ∧ k ≤ 7 ∧ s3 = .int .i64 k ∧ Hid (Below w.heap.size w wr) ∧ Hid (wr.heap[w.heap.size]? = some (unO ⟨fs, fa, fc, gs, ga, gc, top⟩)) ∧ Hid (((fs.map (·.f)).take k).all smallB = true)) (fun i wr => fs.length - (intOf i).toNat)
  case atStart => exact ⟨0, by omega, by omega, rfl, Lib.hid ((Below.refl _ _).alloc (Nat.le_refl _) _), Lib.hid (heap_alloc_new w _), Lib.hid (by simp)⟩
  case round =>
    obtain ⟨k, hk, hk7, rfl, HB, HW, HA⟩ := hrel
    obtain ⟨d0, d1, d2⟩ := nv3 HW.out
    have hz := lt_heap HW.out
    have HU2 := Lib.hid (HU.out.below (HB.out.mono hBw))
    have p0 : (0 : Int) ≤ (k : Int) := Int.natCast_nonneg _
    by_cases hlt : k < fs.length ∧ k ≤ 6
    · obtain ⟨hlt, hk6⟩ := hlt
      obtain ⟨r, hr⟩ : ∃ r, fs[k]? = some r := ⟨_, List.getElem?_eq_getElem hlt⟩
      obtain ⟨b, off, hfa, hb, hBw2, q0, q1, q2, q3, q4⟩ := HU2.out.fn hr
      simp only at hfa
      subst hfa
      have hmem := List.mem_of_getElem? hr
      have HC2 := Lib.hid (HU2.out.code r hmem)
      have HML := Lib.hid (HU.out.lc r hmem)
      have HX := Lib.hid (show (fs.map (·.f))[k]? = some r.f by rw [List.getElem?_map, hr]; rfl); clear hr hmem
      have p1 : (k : Int) < (fs.length : Int) := by omega
      have t6 : decide ((k : Int) ≤ (6 : Int)) = true := by simp <;> omega
      cases hs : smallB r.f with
      | false =>
        have HS := Lib.hid hs; clear hs
        have E := Lib.hid (show m = false by rw [← HM.out, all_noT HX.out HS.out]; simp)
        go_wp2_with (((with_reducible refine (small_any r false B _ HC2.out HML.out (Nat.le_trans hBw HB.out.size) HS.out).mono ?_); rintro e v1 ⟨rfl, hb1⟩; have HB1 := Lib.hid (HB.out.trans (hb1.mono HB.out.size)); have HW1 := Lib.hid ((hb1.block w.heap.size hz).trans HW.out); clear hb1))
        go_ret
        exact ⟨by rw [E.out]; rfl, HB1.out⟩
      | true =>
        have HS := Lib.hid hs; clear hs
        have HA2 := Lib.hid (all_yesT HA.out HX.out HS.out)
        go_wp2_with (((with_reducible refine (small_any r true B _ HC2.out HML.out (Nat.le_trans hBw HB.out.size) HS.out).mono ?_); rintro e v1 ⟨rfl, hb1⟩; have HB1 := Lib.hid (HB.out.trans (hb1.mono HB.out.size)); have HW1 := Lib.hid ((hb1.block w.heap.size hz).trans HW.out); clear hb1))
        go_roundw
        case rel => exact ⟨k + 1, by omega, by omega, by go_num, HB1, HW1, HA2⟩
        case measure => simp [intOf]; omega
    · have hex : k = fs.length ∨ (k = 7 ∧ 6 < fs.length) := by omega
      have HFA := Lib.hid (show fs.length ≤ 6 → (fs.map (·.f)).all smallB = true by intro h6; have : k = fs.length := (by omega); have h := HA.out; rwa [this, List.take_of_length_le (by simp)] at h)
      clear HA
      have HLP : ∀ (wx : World), wx = wx := fun _ => rfl
      clear HLP
      by_cases hkl : k < fs.length
      · have t6 : decide ((k : Int) ≤ (6 : Int)) = false := by simp <;> omega
        have p1 : (k : Int) < (fs.length : Int) := by omega
        go_wp2
        go_loopw [4] (fun s4 wr => ∃ k : Nat, k ≤ gs.length ∧ k ≤ 11 ∧ s4 = .int .i64 k ∧ Hid (Below w.heap.size w wr) ∧ Hid (wr.heap[w.heap.size]? = some (unO ⟨fs, fa, fc, gs, ga, gc, top⟩)) ∧ Hid ((gs.take k).all (fun g => decide (g.name.length ≤ 50)) = true)) (fun i wr => gs.length - (intOf i).toNat)
        case atStart => exact ⟨0, by omega, by omega, rfl, HB, HW, Lib.hid (by simp)⟩
        case round =>
          clear HB HW HU2 d0 d1 d2 hz p0
          obtain ⟨k, hk, hk11, rfl, HB, HW, HA⟩ := hrel
          obtain ⟨d0, d1, d2⟩ := nv3 HW.out
          have HU2 := Lib.hid (HU.out.below (HB.out.mono hBw))
          have p0 : (0 : Int) ≤ (k : Int) := Int.natCast_nonneg _
          by_cases hlt : k < gs.length ∧ k ≤ 10
          · obtain ⟨hlt, hk6⟩ := hlt
            obtain ⟨g, hg⟩ : ∃ g, gs[k]? = some g := ⟨_, List.getElem?_eq_getElem hlt⟩
            obtain ⟨b, off, hga, hb, hBw2, q0, q1, q2, q3⟩ := HU2.out.gl hg
            simp only at hga
            subst hga
            have HX := Lib.hid hg; clear hg
            have p1 : (k : Int) < (gs.length : Int) := by omega
            have t10 : decide ((k : Int) ≤ (10 : Int)) = true := by simp <;> omega
            by_cases z0 : g.name.length ≤ 50
            · have u0 : decide ((g.name.length : Int) > (50 : Int)) = false := by simp <;> omega
              have u1 : decide ((50 : Int) < (g.name.length : Int)) = false := by simp <;> omega
              have HA2 := Lib.hid (all_yesT HA.out HX.out (by simpa using z0))
              go_wp2
              go_roundw
              case rel => exact ⟨k + 1, by omega, by omega, by go_num, HB, HW, HA2⟩
              case measure => simp [intOf]; omega
            · have u0 : decide ((g.name.length : Int) > (50 : Int)) = true := by simp <;> omega
              have u1 : decide ((50 : Int) < (g.name.length : Int)) = true := by simp <;> omega
              have E := Lib.hid (show m = false by rw [← HM.out, all_noT (l := gs) HX.out (by simpa using z0)]; simp)
              go_wp2
              go_ret
              exact ⟨by rw [E.out]; rfl, HB.out⟩
          · have hex2 : k = gs.length ∨ (k = 11 ∧ 10 < gs.length) := by omega
            have HGA := Lib.hid (show gs.length ≤ 10 → gs.all (fun g => decide (g.name.length ≤ 50)) = true by intro h6; have : k = gs.length := (by omega); have h := HA.out; rwa [this, List.take_length] at h)
            have E := Lib.hid (show m = (decide (fs.length ≤ 6) && decide (gs.length ≤ 10)) by rw [← HM.out]; by_cases h6 : fs.length ≤ 6; by_cases h10 : gs.length ≤ 10; rw [HFA.out h6, HGA.out h10]; simp [h6, h10]; simp [h10]; simp [h6])
            clear HA
            by_cases hkg : k < gs.length
            · have t10 : decide ((k : Int) ≤ (10 : Int)) = false := by simp <;> omega
              have p1 : (k : Int) < (gs.length : Int) := by omega
              by_cases h6 : fs.length ≤ 6
              · have v6 : decide ((fs.length : Int) ≤ (6 : Int)) = true := by simp <;> omega
                by_cases h10 : gs.length ≤ 10
                · have v10 : decide ((gs.length : Int) ≤ (10 : Int)) = true := by simp <;> omega
                  first | (exfalso; omega) | (go_wp2; go_ret; exact ⟨by rw [E.out]; simp [h6, h10], HB.out⟩)
                · have v10 : decide ((gs.length : Int) ≤ (10 : Int)) = false := by simp <;> omega
                  first | (exfalso; omega) | (go_wp2; go_ret; exact ⟨by rw [E.out]; simp [h6, h10], HB.out⟩)
              · have v6 : decide ((fs.length : Int) ≤ (6 : Int)) = false := by simp <;> omega
                by_cases h10 : gs.length ≤ 10
                · have v10 : decide ((gs.length : Int) ≤ (10 : Int)) = true := by simp <;> omega
                  first | (exfalso; omega) | (go_wp2; go_ret; exact ⟨by rw [E.out]; simp [h6, h10], HB.out⟩)
                · have v10 : decide ((gs.length : Int) ≤ (10 : Int)) = false := by simp <;> omega
                  first | (exfalso; omega) | (go_wp2; go_ret; exact ⟨by rw [E.out]; simp [h6, h10], HB.out⟩)
            · have p9 : ¬ (k : Int) < (gs.length : Int) := by omega
              by_cases h6 : fs.length ≤ 6
              · have v6 : decide ((fs.length : Int) ≤ (6 : Int)) = true := by simp <;> omega
                by_cases h10 : gs.length ≤ 10
                · have v10 : decide ((gs.length : Int) ≤ (10 : Int)) = true := by simp <;> omega
                  first | (exfalso; omega) | (go_wp2; go_ret; exact ⟨by rw [E.out]; simp [h6, h10], HB.out⟩)
                · have v10 : decide ((gs.length : Int) ≤ (10 : Int)) = false := by simp <;> omega
                  first | (exfalso; omega) | (go_wp2; go_ret; exact ⟨by rw [E.out]; simp [h6, h10], HB.out⟩)
              · have v6 : decide ((fs.length : Int) ≤ (6 : Int)) = false := by simp <;> omega
                by_cases h10 : gs.length ≤ 10
                · have v10 : decide ((gs.length : Int) ≤ (10 : Int)) = true := by simp <;> omega
                  first | (exfalso; omega) | (go_wp2; go_ret; exact ⟨by rw [E.out]; simp [h6, h10], HB.out⟩)
                · have v10 : decide ((gs.length : Int) ≤ (10 : Int)) = false := by simp <;> omega
                  first | (exfalso; omega) | (go_wp2; go_ret; exact ⟨by rw [E.out]; simp [h6, h10], HB.out⟩)
      · have p1 : ¬ (k : Int) < (fs.length : Int) := by omega
        go_wp2
        go_loopw [4] (fun s4 wr => ∃ k : Nat, k ≤ gs.length ∧ k ≤ 11 ∧ s4 = .int .i64 k ∧ Hid (Below w.heap.size w wr) ∧ Hid (wr.heap[w.heap.size]? = some (unO ⟨fs, fa, fc, gs, ga, gc, top⟩)) ∧ Hid ((gs.take k).all (fun g => decide (g.name.length ≤ 50)) = true)) (fun i wr => gs.length - (intOf i).toNat)
        case atStart => exact ⟨0, by omega, by omega, rfl, HB, HW, Lib.hid (by simp)⟩
        case round =>
          clear HB HW HU2 d0 d1 d2 hz p0
          obtain ⟨k, hk, hk11, rfl, HB, HW, HA⟩ := hrel
          obtain ⟨d0, d1, d2⟩ := nv3 HW.out
          have HU2 := Lib.hid (HU.out.below (HB.out.mono hBw))
          have p0 : (0 : Int) ≤ (k : Int) := Int.natCast_nonneg _
          by_cases hlt : k < gs.length ∧ k ≤ 10
          · obtain ⟨hlt, hk6⟩ := hlt
            obtain ⟨g, hg⟩ : ∃ g, gs[k]? = some g := ⟨_, List.getElem?_eq_getElem hlt⟩
            obtain ⟨b, off, hga, hb, hBw2, q0, q1, q2, q3⟩ := HU2.out.gl hg
            simp only at hga
            subst hga
            have HX := Lib.hid hg; clear hg
            have p1 : (k : Int) < (gs.length : Int) := by omega
            have t10 : decide ((k : Int) ≤ (10 : Int)) = true := by simp <;> omega
            by_cases z0 : g.name.length ≤ 50
            · have u0 : decide ((g.name.length : Int) > (50 : Int)) = false := by simp <;> omega
              have u1 : decide ((50 : Int) < (g.name.length : Int)) = false := by simp <;> omega
              have HA2 := Lib.hid (all_yesT HA.out HX.out (by simpa using z0))
              go_wp2
              go_roundw
              case rel => exact ⟨k + 1, by omega, by omega, by go_num, HB, HW, HA2⟩
              case measure => simp [intOf]; omega
            · have u0 : decide ((g.name.length : Int) > (50 : Int)) = true := by simp <;> omega
              have u1 : decide ((50 : Int) < (g.name.length : Int)) = true := by simp <;> omega
              have E := Lib.hid (show m = false by rw [← HM.out, all_noT (l := gs) HX.out (by simpa using z0)]; simp)
              go_wp2
              go_ret
              exact ⟨by rw [E.out]; rfl, HB.out⟩
          · have hex2 : k = gs.length ∨ (k = 11 ∧ 10 < gs.length) := by omega
            have HGA := Lib.hid (show gs.length ≤ 10 → gs.all (fun g => decide (g.name.length ≤ 50)) = true by intro h6; have : k = gs.length := (by omega); have h := HA.out; rwa [this, List.take_length] at h)
            have E := Lib.hid (show m = (decide (fs.length ≤ 6) && decide (gs.length ≤ 10)) by rw [← HM.out]; by_cases h6 : fs.length ≤ 6; by_cases h10 : gs.length ≤ 10; rw [HFA.out h6, HGA.out h10]; simp [h6, h10]; simp [h10]; simp [h6])
            clear HA
            by_cases hkg : k < gs.length
            · have t10 : decide ((k : Int) ≤ (10 : Int)) = false := by simp <;> omega
              have p1 : (k : Int) < (gs.length : Int) := by omega
              by_cases h6 : fs.length ≤ 6
              · have v6 : decide ((fs.length : Int) ≤ (6 : Int)) = true := by simp <;> omega
                by_cases h10 : gs.length ≤ 10
                · have v10 : decide ((gs.length : Int) ≤ (10 : Int)) = true := by simp <;> omega
                  first | (exfalso; omega) | (go_wp2; go_ret; exact ⟨by rw [E.out]; simp [h6, h10], HB.out⟩)
                · have v10 : decide ((gs.length : Int) ≤ (10 : Int)) = false := by simp <;> omega
                  first | (exfalso; omega) | (go_wp2; go_ret; exact ⟨by rw [E.out]; simp [h6, h10], HB.out⟩)
              · have v6 : decide ((fs.length : Int) ≤ (6 : Int)) = false := by simp <;> omega
                by_cases h10 : gs.length ≤ 10
                · have v10 : decide ((gs.length : Int) ≤ (10 : Int)) = true := by simp <;> omega
                  first | (exfalso; omega) | (go_wp2; go_ret; exact ⟨by rw [E.out]; simp [h6, h10], HB.out⟩)
                · have v10 : decide ((gs.length : Int) ≤ (10 : Int)) = false := by simp <;> omega
                  first | (exfalso; omega) | (go_wp2; go_ret; exact ⟨by rw [E.out]; simp [h6, h10], HB.out⟩)
            · have p9 : ¬ (k : Int) < (gs.length : Int) := by omega
              by_cases h6 : fs.length ≤ 6
              · have v6 : decide ((fs.length : Int) ≤ (6 : Int)) = true := by simp <;> omega
                by_cases h10 : gs.length ≤ 10
                · have v10 : decide ((gs.length : Int) ≤ (10 : Int)) = true := by simp <;> omega
                  first | (exfalso; omega) | (go_wp2; go_ret; exact ⟨by rw [E.out]; simp [h6, h10], HB.out⟩)
                · have v10 : decide ((gs.length : Int) ≤ (10 : Int)) = false := by simp <;> omega
                  first | (exfalso; omega) | (go_wp2; go_ret; exact ⟨by rw [E.out]; simp [h6, h10], HB.out⟩)
              · have v6 : decide ((fs.length : Int) ≤ (6 : Int)) = false := by simp <;> omega
                by_cases h10 : gs.length ≤ 10
                · have v10 : decide ((gs.length : Int) ≤ (10 : Int)) = true := by simp <;> omega
                  first | (exfalso; omega) | (go_wp2; go_ret; exact ⟨by rw [E.out]; simp [h6, h10], HB.out⟩)
                · have v10 : decide ((gs.length : Int) ≤ (10 : Int)) = false := by simp <;> omega
                  first | (exfalso; omega) | (go_wp2; go_ret; exact ⟨by rw [E.out]; simp [h6, h10], HB.out⟩)
theorem few_any (U : UnR) (m : Bool) (B : Nat) (w : World) (hU : UnAt w B U) (hBw : B ≤ w.heap.size) (hm : fewB U.un = m) :
    Calls Try.prog 18 #[unV U] w (RPost (.bool m) w) := few_v U.fs U.fa U.fc U.gs U.ga U.gc U.top m B w hU hBw hm
end Go.Proofs.Ytgnpbodhjmappaa
namespace Go.Proofs.Ytgnpbodhjmappaa
set_option maxRecDepth 100000
open Go.RowKit Cd
def BytesAt (w : World) (a : Option Addr) (l : List UInt8) : Prop := RowAt w w.heap.size a (l.map fun c => Value.int .u8 c.toNat)
theorem BytesAt.below {w w' : World} {a : Option Addr} {l : List UInt8} (h : BytesAt w a l) (hb : Below w.heap.size w w') : BytesAt w' a l := RowAt.mono (RowAt.below h hb) hb.size (Nat.le_refl _)
theorem BytesAt.at {w : World} {a : Option Addr} {l : List UInt8} {k : Nat} {x : UInt8} (h : BytesAt w a l) (hk : l[k]? = some x) : ∃ b off, a = some ⟨b, off, none⟩ ∧ b < w.heap.size ∧ w.cell? ⟨b, off + k, none⟩ = some (.int .u8 x.toNat) := by
  have hlt := (List.getElem?_eq_some_iff.1 hk).1
  obtain ⟨b, off, ha, hb, _, hc⟩ := h (by rw [List.length_map]; omega)
  exact ⟨b, off, ha, hb, hc k _ (by rw [List.getElem?_map, hk]; rfl)⟩
abbrev rsV (r : Rsu) (a : Option Addr) (c : Nat) : Value := .agg #[.int .i64 r.fin, .int .i64 r.code, .slice a r.out.length c]
abbrev rsO (r : Rsu) (a : Option Addr) (c : Nat) : Obj := .cells #[.int .i64 r.fin, .int .i64 r.code, .slice a r.out.length c] 74
def Cd.sameR (x y : Rsu) : Bool := decide (x.fin = y.fin) && decide (x.code = y.code) && decide (x.out = y.out)
theorem take_moreB {l : List UInt8} {k : Nat} {x : UInt8} (h : l[k]? = some x) : l.take (k + 1) = l.take k ++ [x] := by
  obtain ⟨hk, hx⟩ := List.getElem?_eq_some_iff.1 h
  rw [List.take_succ_eq_append_getElem hk, hx]
set_option maxHeartbeats 4000000 in
theorem result_v (x y : Rsu) (xa ya : Option Addr) (xc yc : Nat) (m : Bool) (w : World) (hx : BytesAt w xa x.out) (hy : BytesAt w ya y.out) (hl : x.out.length ≤ maxLen) (hl2 : y.out.length ≤ maxLen) (hm : sameR x y = m) :
    Calls Try.prog 47 #[rsV x xa xc, rsV y ya yc] w (RPost (.bool m) w) := by
  unfold maxLen at hl hl2
  have HX := Lib.hid hx; have HY := Lib.hid hy; have HM := Lib.hid hm; clear hx hy hm
  by_cases y0 : x.fin = y.fin
  rotate_left
  · have t0 : (x.fin != y.fin) = true := by simpa using y0
    have E := Lib.hid (show m = false by rw [← HM.out]; unfold sameR; rw [decide_eq_false y0]; rfl)
    go_enter Try.func47, Try.ntmps47
    go_wp2
    go_ret
    exact ⟨by rw [E.out]; rfl, ((Below.refl _ _).alloc (Nat.le_refl _) _).alloc (by simp) _⟩
  have t0 : (x.fin != y.fin) = false := by simpa using y0
  by_cases y1 : x.code = y.code
  rotate_left
  · have t1 : (x.code != y.code) = true := by simpa using y1
    have E := Lib.hid (show m = false by rw [← HM.out]; unfold sameR; rw [decide_eq_false y1]; simp)
    go_enter Try.func47, Try.ntmps47
    go_wp2
    go_ret
    exact ⟨by rw [E.out]; rfl, ((Below.refl _ _).alloc (Nat.le_refl _) _).alloc (by simp) _⟩
  have t1 : (x.code != y.code) = false := by simpa using y1
  by_cases y2 : x.out.length = y.out.length
  rotate_left
  · have t2 : ((x.out.length : Int) != (y.out.length : Int)) = true := by simp; omega
    have E := Lib.hid (show m = false by rw [← HM.out]; unfold sameR; rw [decide_eq_false (show ¬ x.out = y.out from fun h => y2 (by rw [h]))]; simp)
    go_enter Try.func47, Try.ntmps47
    go_wp2
    go_ret
    exact ⟨by rw [E.out]; rfl, ((Below.refl _ _).alloc (Nat.le_refl _) _).alloc (by simp) _⟩
  have t2 : ((x.out.length : Int) != (y.out.length : Int)) = false := by simp; omega
  have HM2 := Lib.hid (show decide (x.out = y.out) = m by rw [← HM.out]; unfold sameR; rw [decide_eq_true y0, decide_eq_true y1]; simp)
  clear y0 y1 HM
  have HL := Lib.hid y2
  have y2' : y.out.length = x.out.length := y2.symm
  have hle : x.out.length ≤ y.out.length := by omega
  clear y2 y2'
  go_enter Try.func47, Try.ntmps47
  go_wp2
  go_loopw [30] (fun s30 wr => ∃ k : Nat, k ≤ x.out.length ∧ s30 = .int .i64 k ∧ Hid (Below w.heap.size w wr) ∧ Hid (wr.heap[w.heap.size]? = some (rsO x xa xc)) ∧ Hid (wr.heap[w.heap.size + 1]? = some (rsO y ya yc)) ∧ Hid (x.out.take k = y.out.take k)) (fun i wr => x.out.length - (intOf i).toNat)
  case atStart => exact ⟨0, by omega, rfl, Lib.hid (((Below.refl _ _).alloc (Nat.le_refl _) _).alloc (by simp) _), Lib.hid ((Below.heap_alloc _ _ _ (by simp)).trans (heap_alloc_new w _)), Lib.hid (by have := heap_alloc_new (w.alloc (rsO x xa xc)) (rsO y ya yc); rw [World.size_alloc] at this; exact this), Lib.hid (by simp)⟩
  case round =>
    obtain ⟨k, hk, rfl, HB, HW, HV, HA⟩ := hrel
    obtain ⟨d0, d1, d2⟩ := nv3 HW.out
    obtain ⟨e0, e1, e2⟩ := nv3 HV.out
    by_cases hlt : k < x.out.length
    · obtain ⟨u, hu⟩ : ∃ u, x.out[k]? = some u := ⟨_, List.getElem?_eq_getElem hlt⟩
      obtain ⟨v, hv⟩ : ∃ v, y.out[k]? = some v := ⟨_, List.getElem?_eq_getElem (by omega)⟩
      obtain ⟨b, off, hxa, hb, c0⟩ := (HX.out.below HB.out).at hu
      subst hxa
      obtain ⟨b2, off2, hya, hb2, c1⟩ := (HY.out.below HB.out).at hv
      subst hya
      have HU := Lib.hid hu; have HVV := Lib.hid hv; clear hu hv
      have p0 : (0 : Int) ≤ (k : Int) := Int.natCast_nonneg _
      have p1 : (k : Int) < (x.out.length : Int) := by omega
      have p2 : (k : Int) < (y.out.length : Int) := by omega
      by_cases huv : u = v
      · have t9 : (((u.toNat : Nat) : Int) != ((v.toNat : Nat) : Int)) = false := by simp [huv]
        have HA2 := Lib.hid (show x.out.take (k + 1) = y.out.take (k + 1) by have e1 := take_moreB HU.out; have e2 := take_moreB HVV.out; rw [e1, e2, HA.out, huv])
        clear huv
        go_wp2
        go_quiet (fail)
        go_wp2
        go_roundw
        case rel => exact ⟨k + 1, by omega, by go_num, Lib.hid (drN HB.out _), Lib.hid HW.out, Lib.hid HV.out, HA2⟩
        case measure => simp [intOf]; omega
      · have t9 : (((u.toNat : Nat) : Int) != ((v.toNat : Nat) : Int)) = true := by simp; intro h; exact huv (UInt8.toNat_inj.1 (by omega))
        have E := Lib.hid (show m = false by rw [← HM2.out]; exact decide_eq_false (fun h => huv (by have h1 := HU.out; rw [h, HVV.out] at h1; injection h1 with h1; exact h1.symm)))
        clear huv
        go_wp2
        go_quiet (fail)
        go_wp2
        go_ret
        exact ⟨by rw [E.out]; rfl, drN HB.out _⟩
    · obtain rfl : k = x.out.length := by omega
      have E := Lib.hid (show m = true by rw [← HM2.out]; exact decide_eq_true (by have h := HA.out; rw [List.take_length, HL.out, List.take_length] at h; exact h))
      go_wp2
      go_ret
      exact ⟨by rw [E.out]; rfl, HB.out⟩
end Go.Proofs.Ytgnpbodhjmappaa
