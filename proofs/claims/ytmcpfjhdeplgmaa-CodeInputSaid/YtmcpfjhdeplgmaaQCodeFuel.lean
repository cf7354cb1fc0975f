/-
  CodeFuel: with more fuel.
-/
import Derived.Test.YtmcpfjhdeplgmaaQPair
import Derived.Test.YtmcpfjhdeplgmaaQFew
import Derived.Test.YtmcpfjhdeplgmaaQRuns
import Derived.Lib.QuietBelow
import Derived.BigQuiet
namespace Go.Proofs.Ytmcpfjhdeplgmaa
open Go.RowKit Cd Go.Maps Go.Sort
set_option linter.unusedVariables false
set_option linter.unusedSimpArgs false

theorem namesF_few {U : UnR} (h : fewB U.un = true) : Names U ∧ U.fs.length ≤ 1000 := by
  unfold fewB at h
  simp only [Bool.and_eq_true, decide_eq_true_eq, List.all_eq_true] at h
  obtain ⟨⟨⟨h1, h2⟩, h3⟩, h4⟩ := h
  have hl : U.fs.length ≤ 6 := by have : U.un.funcs.length ≤ 6 := h1; unfold UnR.un UnR.fns at this; simpa using this
  refine ⟨fun r hr => ?_, by omega⟩
  have h5 := h3 r.f (List.mem_map.2 ⟨r, hr, rfl⟩)
  unfold smallB at h5
  simp only [Bool.and_eq_true, decide_eq_true_eq, List.all_eq_true] at h5
  exact ⟨by omega, fun i hi => by have := h5.2 i hi; omega⟩
theorem sameR_refl (x : Rsu) : sameR x x = true := by unfold sameR; simp
/-- A run, whatever was made beside it. -/
theorem run_on {U : UnR} {ia : Option Addr} {inp : List UInt8} {ic : Nat} {fuel : Int} {W w1 : World} {x : Rsu} (hU : UnAt W W.heap.size U) (hin : CIn W (.slice ia inp.length ic) inp) (hn : Names U) (hl : U.fs.length ≤ 1000) (hWd : ∀ g ∈ U.gs, Wd g.pos) (hb : Below W.heap.size W w1) (hx : runU U.un inp fuel = x) :
    ∀ w', Below w1.heap.size w1 w' → Calls Try.prog 15 #[unV U, .slice ia inp.length ic, .int .i64 fuel] w' (RunPost x w') := fun w' h => by
  have hb' := hb.trans (h.mono hb.size)
  exact crun_v U ia inp inp.length ic fuel W.heap.size w' (hU.below hb') hb'.size hn hWd hl rfl (hin.up hb') x hx
theorem own_none {w : World} {B n c : Nat} {e : TypeId} {a : Option Addr} {xs : List Value} (h : w.ownsRow B e 1 (.slice a n c) n xs) : a = none ∨ ∃ g, a = some ⟨g, 0, none⟩ := by
  obtain ⟨_, ⟨hv, _⟩ | ⟨g, cap, cur, hv, _⟩⟩ := h
  · injection hv with h1 _ _
    exact .inl h1
  · injection hv with h1 _ _
    exact .inr ⟨g, h1⟩
theorem size_u8 (W : World) : (sizeOf 5).run Try.prog W = .ok 1 W := by kernel_rfl
set_option maxRecDepth 100000 in
set_option maxHeartbeats 8000000 in
theorem fuel_no (U : UnR) (ia : Option Addr) (inp : List UInt8) (ic : Nat) (fuel more : Int) (W : World) (hU : UnAt W W.heap.size U) (hf : fewB U.un = false) : Calls Try.prog 4 #[unV U, .slice ia inp.length ic, .int .i64 fuel, .int .i64 more] W (RPost (.bool true) W) := by
  have HU := Lib.hid hU; have HF := Lib.hid hf
  have HW0 := Lib.hid ((Below.refl _ W).alloc (Nat.le_refl _) (unO U))
  clear hU hf
  go_enter Try.func4, Try.ntmps4
  go_wp2_with (first | ((with_reducible refine (few_any U false W.heap.size _ (HU.out.below HW0.out) (by simp) HF.out).mono ?_); rintro e w1 ⟨rfl, hb1⟩; have HB1 := Lib.hid (HW0.out.trans (hb1.mono (by simp))); have G1 := Lib.hid ((hb1.block W.heap.size (by simp)).trans (heap_alloc_new W (unO U))); obtain ⟨d0, d1, d2⟩ := nv3 G1.out; clear hb1) | ((with_reducible refine (awake7_any _).mono ?_); rintro e wv ⟨rfl, hbv⟩; have HBV := Lib.hid hbv; clear hbv))
  go_ret
  exact ⟨rfl, HB1.out.trans (HBV.out.mono HB1.out.size)⟩
set_option maxRecDepth 100000 in
set_option maxHeartbeats 8000000 in
theorem fuel_long (U : UnR) (ia : Option Addr) (inp : List UInt8) (ic : Nat) (fuel more : Int) (W : World) (hU : UnAt W W.heap.size U) (hf : fewB U.un = true) (h1 : 200 < inp.length) : Calls Try.prog 4 #[unV U, .slice ia inp.length ic, .int .i64 fuel, .int .i64 more] W (RPost (.bool true) W) := by
  have HU := Lib.hid hU; have HF := Lib.hid hf
  have HW0 := Lib.hid ((Below.refl _ W).alloc (Nat.le_refl _) (unO U))
  have t2 : decide ((inp.length : Int) > 200) = true := by rw [decide_eq_true_eq]; omega
  have t3 : decide ((200 : Int) < (inp.length : Int)) = true := t2
  clear hU hf h1
  go_enter Try.func4, Try.ntmps4
  go_wp2_with (first | ((with_reducible refine (few_any U true W.heap.size _ (HU.out.below HW0.out) (by simp) HF.out).mono ?_); rintro e w1 ⟨rfl, hb1⟩; have HB1 := Lib.hid (HW0.out.trans (hb1.mono (by simp))); have G1 := Lib.hid ((hb1.block W.heap.size (by simp)).trans (heap_alloc_new W (unO U))); obtain ⟨d0, d1, d2⟩ := nv3 G1.out; clear hb1) | ((with_reducible refine (awake7_any _).mono ?_); rintro e wv ⟨rfl, hbv⟩; have HBV := Lib.hid hbv; clear hbv))
  go_ret
  exact ⟨rfl, HB1.out.trans (HBV.out.mono HB1.out.size)⟩
set_option maxRecDepth 100000 in
set_option maxHeartbeats 8000000 in
theorem fuel_less (U : UnR) (ia : Option Addr) (inp : List UInt8) (ic : Nat) (fuel more : Int) (W : World) (hU : UnAt W W.heap.size U) (hf : fewB U.un = true) (h1 : inp.length ≤ 200) (h2 : more < fuel) : Calls Try.prog 4 #[unV U, .slice ia inp.length ic, .int .i64 fuel, .int .i64 more] W (RPost (.bool true) W) := by
  have HU := Lib.hid hU; have HF := Lib.hid hf
  have HW0 := Lib.hid ((Below.refl _ W).alloc (Nat.le_refl _) (unO U))
  have t2 : decide ((inp.length : Int) > 200) = false := by rw [decide_eq_false_iff_not]; omega
  have t3 : decide ((200 : Int) < (inp.length : Int)) = false := t2
  have t4 : decide (more < fuel) = true := by rw [decide_eq_true_eq]; omega
  clear hU hf h1 h2
  go_enter Try.func4, Try.ntmps4
  go_wp2_with (first | ((with_reducible refine (few_any U true W.heap.size _ (HU.out.below HW0.out) (by simp) HF.out).mono ?_); rintro e w1 ⟨rfl, hb1⟩; have HB1 := Lib.hid (HW0.out.trans (hb1.mono (by simp))); have G1 := Lib.hid ((hb1.block W.heap.size (by simp)).trans (heap_alloc_new W (unO U))); obtain ⟨d0, d1, d2⟩ := nv3 G1.out; clear hb1) | ((with_reducible refine (awake7_any _).mono ?_); rintro e wv ⟨rfl, hbv⟩; have HBV := Lib.hid hbv; clear hbv))
  go_ret
  exact ⟨rfl, HB1.out.trans (HBV.out.mono HB1.out.size)⟩
set_option maxRecDepth 100000 in
set_option maxHeartbeats 8000000 in
theorem fuel_much (U : UnR) (ia : Option Addr) (inp : List UInt8) (ic : Nat) (fuel more : Int) (W : World) (hU : UnAt W W.heap.size U) (hf : fewB U.un = true) (h1 : inp.length ≤ 200) (h2 : fuel ≤ more) (h3 : 5000 < more) : Calls Try.prog 4 #[unV U, .slice ia inp.length ic, .int .i64 fuel, .int .i64 more] W (RPost (.bool true) W) := by
  have HU := Lib.hid hU; have HF := Lib.hid hf
  have HW0 := Lib.hid ((Below.refl _ W).alloc (Nat.le_refl _) (unO U))
  have t2 : decide ((inp.length : Int) > 200) = false := by rw [decide_eq_false_iff_not]; omega
  have t3 : decide ((200 : Int) < (inp.length : Int)) = false := t2
  have t4 : decide (more < fuel) = false := by rw [decide_eq_false_iff_not]; omega
  have t5 : decide (more > (5000 : Int)) = true := by rw [decide_eq_true_eq]; omega
  have t6 : decide ((5000 : Int) < more) = true := t5
  clear hU hf h1 h2 h3
  go_enter Try.func4, Try.ntmps4
  go_wp2_with (first | ((with_reducible refine (few_any U true W.heap.size _ (HU.out.below HW0.out) (by simp) HF.out).mono ?_); rintro e w1 ⟨rfl, hb1⟩; have HB1 := Lib.hid (HW0.out.trans (hb1.mono (by simp))); have G1 := Lib.hid ((hb1.block W.heap.size (by simp)).trans (heap_alloc_new W (unO U))); obtain ⟨d0, d1, d2⟩ := nv3 G1.out; clear hb1) | ((with_reducible refine (awake7_any _).mono ?_); rintro e wv ⟨rfl, hbv⟩; have HBV := Lib.hid hbv; clear hbv))
  go_ret
  exact ⟨rfl, HB1.out.trans (HBV.out.mono HB1.out.size)⟩
set_option maxRecDepth 100000 in
set_option maxHeartbeats 16000000 in
theorem fuel_end (U : UnR) (ia : Option Addr) (inp : List UInt8) (ic : Nat) (fuel more : Int) (W : World) (hU : UnAt W W.heap.size U) (hin : CIn W (.slice ia inp.length ic) inp) (hWd : ∀ g ∈ U.gs, Wd g.pos) (hf : fewB U.un = true) (h1 : inp.length ≤ 200) (h2 : fuel ≤ more) (h3 : more ≤ 5000) (x y : Rsu) (hx : runU U.un inp fuel = x) (hy : runU U.un inp more = y) (hfx : x.fin ≠ 4) (hxy : sameR x y = true) : Calls Try.prog 4 #[unV U, .slice ia inp.length ic, .int .i64 fuel, .int .i64 more] W (RPost (.bool true) W) := by
  have hmix : Try.prog.follows .mixedOrders = true := by kernel_rfl
  obtain ⟨hN, hL⟩ := namesF_few hf
  have HU := Lib.hid hU; have HF := Lib.hid hf
  have HW0 := Lib.hid ((Below.refl _ W).alloc (Nat.le_refl _) (unO U))
  have t2 : decide ((inp.length : Int) > 200) = false := by rw [decide_eq_false_iff_not]; omega
  have t3 : decide ((200 : Int) < (inp.length : Int)) = false := t2
  have t4 : decide (more < fuel) = false := by rw [decide_eq_false_iff_not]; omega
  have t5 : decide (more > (5000 : Int)) = false := by rw [decide_eq_false_iff_not]; omega
  have t6 : decide ((5000 : Int) < more) = false := t5
  have HN := Lib.hid hN; have HL := Lib.hid hL; have HWD := Lib.hid hWd; have HIN := Lib.hid hin
  have HXY := Lib.hid hxy; clear hxy
  have t0 : (x.fin != (4 : Int)) = true := by simpa using hfx
  clear hfx
  clear hU hf h1 h2 h3 hN hL hWd hin
  go_enter Try.func4, Try.ntmps4
  go_wp2_with ((with_reducible refine (few_any U true W.heap.size _ (HU.out.below HW0.out) (by simp) HF.out).mono ?_); rintro e w1 ⟨rfl, hb1⟩; have HB1 := Lib.hid (HW0.out.trans (hb1.mono (by simp))); have G1 := Lib.hid ((hb1.block W.heap.size (by simp)).trans (heap_alloc_new W (unO U))); obtain ⟨d0, d1, d2⟩ := nv3 G1.out; clear hb1)
  have ra := run_on HU.out HIN.out HN.out HL.out HWD.out HB1.out hx
  have rb := run_on HU.out HIN.out HN.out HL.out HWD.out HB1.out hy
  have hSg : ∀ {w' : World}, Below w1.heap.size w1 w' → (fun w' : World => w'.cell? ⟨W.heap.size, 0, none⟩ = some (.slice U.fa U.fs.length U.fc) ∧ w'.cell? ⟨W.heap.size, 1, none⟩ = some (.slice U.ga U.gs.length U.gc) ∧ w'.cell? ⟨W.heap.size, 2, none⟩ = some (.int .i64 U.top)) w' := fun h => nv3 ((h.block _ (lt_heap G1.out)).trans G1.out)
  clear hx hy d0 d1 d2
  refine region_lastS (fun w' : World => w'.cell? ⟨W.heap.size, 0, none⟩ = some (.slice U.fa U.fs.length U.fc) ∧ w'.cell? ⟨W.heap.size, 1, none⟩ = some (.slice U.ga U.gs.length U.gc) ∧ w'.cell? ⟨W.heap.size, 2, none⟩ = some (.int .i64 U.top)) 11 hmix (hSg (drW (Below.refl _ _))) (fun hS => ?main)
  refine anyL_take (i := 0) (v := ?_) rfl rfl (by kernel_rfl) (by kernel_rfl) (by kernel_rfl) (by kernel_rfl) (fun _ _ _ h => h) (Or.inl ⟨by rfl, ?_⟩) hS ?_
  rotate_left
  · (intro w' hSw; obtain ⟨k0, k1, k2⟩ := hSw; go_simp; first | done | with_reducible rfl)
  simp only [Act.put, List.getElem_toArray, List.getElem_cons_succ, List.getElem_cons_zero, List.setIfInBounds_toArray, List.set_cons_succ, List.set_cons_zero]
  refine anyL_take (i := 1) (v := ?_) rfl rfl (by kernel_rfl) (by kernel_rfl) (by kernel_rfl) (by kernel_rfl) (fun _ _ _ h => h) (Or.inl ⟨by rfl, ?_⟩) hS ?_
  rotate_left
  · (intro w' hSw; obtain ⟨k0, k1, k2⟩ := hSw; go_simp; first | done | with_reducible rfl)
  simp only [Act.put, List.getElem_toArray, List.getElem_cons_succ, List.getElem_cons_zero, List.setIfInBounds_toArray, List.set_cons_succ, List.set_cons_zero]
  refine anyL_take (i := 2) (v := ?_) rfl rfl (by kernel_rfl) (by kernel_rfl) (by kernel_rfl) (by kernel_rfl) (fun _ _ _ h => h) (Or.inl ⟨by rfl, ?_⟩) hS ?_
  rotate_left
  · (intro w' hSw; obtain ⟨k0, k1, k2⟩ := hSw; go_simp; first | done | with_reducible rfl)
  simp only [Act.put, List.getElem_toArray, List.getElem_cons_succ, List.getElem_cons_zero, List.setIfInBounds_toArray, List.set_cons_succ, List.set_cons_zero]
  refine anyL_take (i := 4) (v := ?_) rfl rfl (by kernel_rfl) (by kernel_rfl) (by kernel_rfl) (by kernel_rfl) (fun _ _ _ h => h) (Or.inl ⟨by rfl, ?_⟩) hS ?_
  rotate_left
  · (intro w' hSw; obtain ⟨k0, k1, k2⟩ := hSw; go_simp; first | done | with_reducible rfl)
  simp only [Act.put, List.getElem_toArray, List.getElem_cons_succ, List.getElem_cons_zero, List.setIfInBounds_toArray, List.set_cons_succ, List.set_cons_zero]
  refine anyL_take (i := 5) (v := ?_) rfl rfl (by kernel_rfl) (by kernel_rfl) (by kernel_rfl) (by kernel_rfl) (fun _ _ _ h => h) (Or.inl ⟨by rfl, ?_⟩) hS ?_
  rotate_left
  · (intro w' hSw; obtain ⟨k0, k1, k2⟩ := hSw; go_simp; first | done | with_reducible rfl)
  simp only [Act.put, List.getElem_toArray, List.getElem_cons_succ, List.getElem_cons_zero, List.setIfInBounds_toArray, List.set_cons_succ, List.set_cons_zero]
  refine anyL_take (i := 6) (v := ?_) rfl rfl (by kernel_rfl) (by kernel_rfl) (by kernel_rfl) (by kernel_rfl) (fun _ _ _ h => h) (Or.inl ⟨by rfl, ?_⟩) hS ?_
  rotate_left
  · (intro w' hSw; obtain ⟨k0, k1, k2⟩ := hSw; go_simp; first | done | with_reducible rfl)
  simp only [Act.put, List.getElem_toArray, List.getElem_cons_succ, List.getElem_cons_zero, List.setIfInBounds_toArray, List.set_cons_succ, List.set_cons_zero]
  refine pair_run w1 x y resO7 3 7 8 9 10 32 36 9 10 _ _ _ _ rfl rfl rfl rfl (by decide) (by decide) (by kernel_rfl) (fun _ h => hSg h) ?cA ?cB ?cP ?cQ 2 ?hend 4 0 none none none none _ (by omega) rfl rfl rfl ⟨drW (Below.refl _ _), by simp, by simp, by simp, by simp, by simp, by simp, by simp, by simp, by simp⟩
  case cA =>
    intro p q w' K' hb hK
    cases p <;> cases q <;> simp only [A4, putO] <;> (go_simp; refine (ra w' hb).mono ?_; rintro e v5 ⟨xa, xc, rfl, hox, hbx⟩; exact hK (xa, xc) v5 hox hbx)
  case cB =>
    intro v p q w' K' hb hK
    cases p <;> cases q <;> simp only [A4, putO] <;> (go_simp; refine (rb w' hb).mono ?_; rintro e v5 ⟨xa, xc, rfl, hox, hbx⟩; exact hK (xa, xc) v5 hox hbx)
  case cP =>
    intro b w' K' hK
    go_simp
    exact hK
  case cQ =>
    intro b w' K' hK
    go_simp
    exact hK
  case hend =>
    intro s t b d w' hst
    obtain ⟨sa, sc⟩ := s
    obtain ⟨ta, tc⟩ := t
    have hbd := hst.pq b d rfl rfl
    obtain ⟨z0, z1, z2⟩ := frozen7 (hst.boxP b rfl).1
    obtain ⟨y0, y1, y2⟩ := nv3 (hst.boxP b rfl).1
    obtain ⟨z3, z4, z5⟩ := frozen7 (hst.boxQ d rfl).1
    obtain ⟨y3, y4, y5⟩ := nv3 (hst.boxQ d rfl).1
    simp only [A4, putO, resX, ptrB]
    refine anyL_one (i := 10) (by kernel_rfl) rfl (fun K1 hK1 => ?_)
    go_simp
    refine hK1.out _ _ (fun _ => ?_) ?_
    · exact hSg (((hst.bel.setCell (show w1.heap.size ≤ b from (hst.boxP b rfl).2) _).setCell (show w1.heap.size ≤ b from (hst.boxP b rfl).2) _).setCell (show w1.heap.size ≤ b from (hst.boxP b rfl).2) _)
    clear hK1 K1
    obtain ⟨h1, h2, h3, h4, h5⟩ := hst.both
    refine anyL_one (i := 11) (by kernel_rfl) rfl (fun K1 hK1 => ?_)
    go_simp
    refine hK1.out _ _ (fun h => absurd rfl h) ?_
    clear hK1 K1
    refine anyL_done (by kernel_rfl) ?_ _
    obtain ⟨W4, hW4⟩ : ∃ wS : World, (((((w'.setCell ⟨b, 0, none⟩ (.int .i64 x.fin)).setCell ⟨b, 1, none⟩ (.int .i64 x.code)).setCell ⟨b, 2, none⟩ (.slice sa x.out.length sc)).setCell ⟨d, 0, none⟩ (.int .i64 y.fin)).setCell ⟨d, 1, none⟩ (.int .i64 y.code)).setCell ⟨d, 2, none⟩ (.slice ta y.out.length tc) = wS := ⟨_, rfl⟩
    simp only at h1 h2 h3 h4 h5
    rw [hW4] at h1 h2 h3 h4 h5
    rw [hW4]
    clear hW4
    have HX1 : Hid (BytesAt W4 sa x.out) := Lib.hid (bytes_of_own h3)
    have HX2 : Hid (BytesAt W4 ta y.out) := Lib.hid (bytes_of_own h4)
    have hlx : x.out.length ≤ maxLen := Nat.le_trans (own_cap h3).1 (own_cap h3).2
    have hly : y.out.length ≤ maxLen := Nat.le_trans (own_cap h4).1 (own_cap h4).2
    have hcx := (own_cap h3).1
    have hcy := own_cap h4
    have hta := own_none h4
    simp only at hcx hcy
    obtain ⟨c0, c1, c2⟩ := nv3 h1
    obtain ⟨e0, e1, e2⟩ := nv3 h2
    have HB4 : Hid (Below W.heap.size W W4) := Lib.hid (HB1.out.trans (h5.mono HB1.out.size))
    have HH1 := Lib.hid h1
    have HH2 := Lib.hid h2
    clear h1 h2 h3 h4 h5 hst ra rb hSg z0 z1 z2 z3 z4 z5 y0 y1 y2 y3 y4 y5 hS
    go_wp2_with (first | ((with_reducible refine (result_v x y sa ta sc tc true _ HX1.out HX2.out hlx hly HXY.out).mono ?_); rintro e v6 ⟨rfl, hb6⟩; have HB6 := Lib.hid hb6; clear hb6) | ((with_reducible refine (awake7_any _).mono ?_); rintro e wv ⟨rfl, hbv⟩; have HBV := Lib.hid hbv; clear hbv))
    go_ret
    exact ⟨rfl, (HB4.out.trans (HB6.out.mono HB4.out.size)).trans (HBV.out.mono (Nat.le_trans HB4.out.size HB6.out.size))⟩
set_option maxRecDepth 100000 in
set_option maxHeartbeats 16000000 in
theorem fuel_spent (U : UnR) (ia : Option Addr) (inp : List UInt8) (ic : Nat) (fuel more : Int) (W : World) (hU : UnAt W W.heap.size U) (hin : CIn W (.slice ia inp.length ic) inp) (hWd : ∀ g ∈ U.gs, Wd g.pos) (hf : fewB U.un = true) (h1 : inp.length ≤ 200) (h2 : fuel ≤ more) (h3 : more ≤ 5000) (x y : Rsu) (hx : runU U.un inp fuel = x) (hy : runU U.un inp more = y) (hfx : x.fin = 4) (hle : x.out.length ≤ y.out.length) (htk : y.out.take x.out.length = x.out) : Calls Try.prog 4 #[unV U, .slice ia inp.length ic, .int .i64 fuel, .int .i64 more] W (RPost (.bool true) W) := by
  have hmix : Try.prog.follows .mixedOrders = true := by kernel_rfl
  obtain ⟨hN, hL⟩ := namesF_few hf
  have HU := Lib.hid hU; have HF := Lib.hid hf
  have HW0 := Lib.hid ((Below.refl _ W).alloc (Nat.le_refl _) (unO U))
  have t2 : decide ((inp.length : Int) > 200) = false := by rw [decide_eq_false_iff_not]; omega
  have t3 : decide ((200 : Int) < (inp.length : Int)) = false := t2
  have t4 : decide (more < fuel) = false := by rw [decide_eq_false_iff_not]; omega
  have t5 : decide (more > (5000 : Int)) = false := by rw [decide_eq_false_iff_not]; omega
  have t6 : decide ((5000 : Int) < more) = false := t5
  have HN := Lib.hid hN; have HL := Lib.hid hL; have HWD := Lib.hid hWd; have HIN := Lib.hid hin
  have HTK := Lib.hid htk; clear htk
  have t0 : (x.fin != (4 : Int)) = false := by simpa using hfx
  clear hfx
  clear hU hf h1 h2 h3 hN hL hWd hin
  go_enter Try.func4, Try.ntmps4
  go_wp2_with ((with_reducible refine (few_any U true W.heap.size _ (HU.out.below HW0.out) (by simp) HF.out).mono ?_); rintro e w1 ⟨rfl, hb1⟩; have HB1 := Lib.hid (HW0.out.trans (hb1.mono (by simp))); have G1 := Lib.hid ((hb1.block W.heap.size (by simp)).trans (heap_alloc_new W (unO U))); obtain ⟨d0, d1, d2⟩ := nv3 G1.out; clear hb1)
  have ra := run_on HU.out HIN.out HN.out HL.out HWD.out HB1.out hx
  have rb := run_on HU.out HIN.out HN.out HL.out HWD.out HB1.out hy
  have hSg : ∀ {w' : World}, Below w1.heap.size w1 w' → (fun w' : World => w'.cell? ⟨W.heap.size, 0, none⟩ = some (.slice U.fa U.fs.length U.fc) ∧ w'.cell? ⟨W.heap.size, 1, none⟩ = some (.slice U.ga U.gs.length U.gc) ∧ w'.cell? ⟨W.heap.size, 2, none⟩ = some (.int .i64 U.top)) w' := fun h => nv3 ((h.block _ (lt_heap G1.out)).trans G1.out)
  clear hx hy d0 d1 d2
  refine region_lastS (fun w' : World => w'.cell? ⟨W.heap.size, 0, none⟩ = some (.slice U.fa U.fs.length U.fc) ∧ w'.cell? ⟨W.heap.size, 1, none⟩ = some (.slice U.ga U.gs.length U.gc) ∧ w'.cell? ⟨W.heap.size, 2, none⟩ = some (.int .i64 U.top)) 11 hmix (hSg (drW (Below.refl _ _))) (fun hS => ?main)
  refine anyL_take (i := 0) (v := ?_) rfl rfl (by kernel_rfl) (by kernel_rfl) (by kernel_rfl) (by kernel_rfl) (fun _ _ _ h => h) (Or.inl ⟨by rfl, ?_⟩) hS ?_
  rotate_left
  · (intro w' hSw; obtain ⟨k0, k1, k2⟩ := hSw; go_simp; first | done | with_reducible rfl)
  simp only [Act.put, List.getElem_toArray, List.getElem_cons_succ, List.getElem_cons_zero, List.setIfInBounds_toArray, List.set_cons_succ, List.set_cons_zero]
  refine anyL_take (i := 1) (v := ?_) rfl rfl (by kernel_rfl) (by kernel_rfl) (by kernel_rfl) (by kernel_rfl) (fun _ _ _ h => h) (Or.inl ⟨by rfl, ?_⟩) hS ?_
  rotate_left
  · (intro w' hSw; obtain ⟨k0, k1, k2⟩ := hSw; go_simp; first | done | with_reducible rfl)
  simp only [Act.put, List.getElem_toArray, List.getElem_cons_succ, List.getElem_cons_zero, List.setIfInBounds_toArray, List.set_cons_succ, List.set_cons_zero]
  refine anyL_take (i := 2) (v := ?_) rfl rfl (by kernel_rfl) (by kernel_rfl) (by kernel_rfl) (by kernel_rfl) (fun _ _ _ h => h) (Or.inl ⟨by rfl, ?_⟩) hS ?_
  rotate_left
  · (intro w' hSw; obtain ⟨k0, k1, k2⟩ := hSw; go_simp; first | done | with_reducible rfl)
  simp only [Act.put, List.getElem_toArray, List.getElem_cons_succ, List.getElem_cons_zero, List.setIfInBounds_toArray, List.set_cons_succ, List.set_cons_zero]
  refine anyL_take (i := 4) (v := ?_) rfl rfl (by kernel_rfl) (by kernel_rfl) (by kernel_rfl) (by kernel_rfl) (fun _ _ _ h => h) (Or.inl ⟨by rfl, ?_⟩) hS ?_
  rotate_left
  · (intro w' hSw; obtain ⟨k0, k1, k2⟩ := hSw; go_simp; first | done | with_reducible rfl)
  simp only [Act.put, List.getElem_toArray, List.getElem_cons_succ, List.getElem_cons_zero, List.setIfInBounds_toArray, List.set_cons_succ, List.set_cons_zero]
  refine anyL_take (i := 5) (v := ?_) rfl rfl (by kernel_rfl) (by kernel_rfl) (by kernel_rfl) (by kernel_rfl) (fun _ _ _ h => h) (Or.inl ⟨by rfl, ?_⟩) hS ?_
  rotate_left
  · (intro w' hSw; obtain ⟨k0, k1, k2⟩ := hSw; go_simp; first | done | with_reducible rfl)
  simp only [Act.put, List.getElem_toArray, List.getElem_cons_succ, List.getElem_cons_zero, List.setIfInBounds_toArray, List.set_cons_succ, List.set_cons_zero]
  refine anyL_take (i := 6) (v := ?_) rfl rfl (by kernel_rfl) (by kernel_rfl) (by kernel_rfl) (by kernel_rfl) (fun _ _ _ h => h) (Or.inl ⟨by rfl, ?_⟩) hS ?_
  rotate_left
  · (intro w' hSw; obtain ⟨k0, k1, k2⟩ := hSw; go_simp; first | done | with_reducible rfl)
  simp only [Act.put, List.getElem_toArray, List.getElem_cons_succ, List.getElem_cons_zero, List.setIfInBounds_toArray, List.set_cons_succ, List.set_cons_zero]
  refine pair_run w1 x y resO7 3 7 8 9 10 32 36 9 10 _ _ _ _ rfl rfl rfl rfl (by decide) (by decide) (by kernel_rfl) (fun _ h => hSg h) ?cA ?cB ?cP ?cQ 2 ?hend 4 0 none none none none _ (by omega) rfl rfl rfl ⟨drW (Below.refl _ _), by simp, by simp, by simp, by simp, by simp, by simp, by simp, by simp, by simp⟩
  case cA =>
    intro p q w' K' hb hK
    cases p <;> cases q <;> simp only [A4, putO] <;> (go_simp; refine (ra w' hb).mono ?_; rintro e v5 ⟨xa, xc, rfl, hox, hbx⟩; exact hK (xa, xc) v5 hox hbx)
  case cB =>
    intro v p q w' K' hb hK
    cases p <;> cases q <;> simp only [A4, putO] <;> (go_simp; refine (rb w' hb).mono ?_; rintro e v5 ⟨xa, xc, rfl, hox, hbx⟩; exact hK (xa, xc) v5 hox hbx)
  case cP =>
    intro b w' K' hK
    go_simp
    exact hK
  case cQ =>
    intro b w' K' hK
    go_simp
    exact hK
  case hend =>
    intro s t b d w' hst
    obtain ⟨sa, sc⟩ := s
    obtain ⟨ta, tc⟩ := t
    have hbd := hst.pq b d rfl rfl
    obtain ⟨z0, z1, z2⟩ := frozen7 (hst.boxP b rfl).1
    obtain ⟨y0, y1, y2⟩ := nv3 (hst.boxP b rfl).1
    obtain ⟨z3, z4, z5⟩ := frozen7 (hst.boxQ d rfl).1
    obtain ⟨y3, y4, y5⟩ := nv3 (hst.boxQ d rfl).1
    simp only [A4, putO, resX, ptrB]
    refine anyL_one (i := 10) (by kernel_rfl) rfl (fun K1 hK1 => ?_)
    go_simp
    refine hK1.out _ _ (fun _ => ?_) ?_
    · exact hSg (((hst.bel.setCell (show w1.heap.size ≤ b from (hst.boxP b rfl).2) _).setCell (show w1.heap.size ≤ b from (hst.boxP b rfl).2) _).setCell (show w1.heap.size ≤ b from (hst.boxP b rfl).2) _)
    clear hK1 K1
    obtain ⟨h1, h2, h3, h4, h5⟩ := hst.both
    refine anyL_one (i := 11) (by kernel_rfl) rfl (fun K1 hK1 => ?_)
    go_simp
    refine hK1.out _ _ (fun h => absurd rfl h) ?_
    clear hK1 K1
    refine anyL_done (by kernel_rfl) ?_ _
    obtain ⟨W4, hW4⟩ : ∃ wS : World, (((((w'.setCell ⟨b, 0, none⟩ (.int .i64 x.fin)).setCell ⟨b, 1, none⟩ (.int .i64 x.code)).setCell ⟨b, 2, none⟩ (.slice sa x.out.length sc)).setCell ⟨d, 0, none⟩ (.int .i64 y.fin)).setCell ⟨d, 1, none⟩ (.int .i64 y.code)).setCell ⟨d, 2, none⟩ (.slice ta y.out.length tc) = wS := ⟨_, rfl⟩
    simp only at h1 h2 h3 h4 h5
    rw [hW4] at h1 h2 h3 h4 h5
    rw [hW4]
    clear hW4
    have HX1 : Hid (BytesAt W4 sa x.out) := Lib.hid (bytes_of_own h3)
    have HX2 : Hid (BytesAt W4 ta y.out) := Lib.hid (bytes_of_own h4)
    have hlx : x.out.length ≤ maxLen := Nat.le_trans (own_cap h3).1 (own_cap h3).2
    have hly : y.out.length ≤ maxLen := Nat.le_trans (own_cap h4).1 (own_cap h4).2
    have hcx := (own_cap h3).1
    have hcy := own_cap h4
    have hta := own_none h4
    simp only at hcx hcy
    obtain ⟨c0, c1, c2⟩ := nv3 h1
    obtain ⟨e0, e1, e2⟩ := nv3 h2
    have HB4 : Hid (Below W.heap.size W W4) := Lib.hid (HB1.out.trans (h5.mono HB1.out.size))
    have HH1 := Lib.hid h1
    have HH2 := Lib.hid h2
    clear h1 h2 h3 h4 h5 hst ra rb hSg z0 z1 z2 z3 z4 z5 y0 y1 y2 y3 y4 y5 hS
    have tle : decide ((x.out.length : Int) ≤ (y.out.length : Int)) = true := by rw [decide_eq_true_eq]; omega
    have hbg : ∀ dd os, Below W4.heap.size W4 (grow (redrawn W4 dd) os) := fun dd os => below_regrown W4 dd os
    have hx2 : BytesAt W4 ta x.out := by have := HX2.out.take x.out.length; rw [HTK.out] at this; exact this
    have C1 : Hid (∀ dd os, Calls Try.prog 16 #[.agg #[.int .i64 0, .int .i64 0, .slice sa x.out.length sc], .agg #[.int .i64 0, .int .i64 0, .slice ta x.out.length tc]] (grow (redrawn W4 dd) os) fun e w' => e = .returned (.bool true) ∧ Below (grow (redrawn W4 dd) os).heap.size (grow (redrawn W4 dd) os) w') := Lib.hid (fun dd os => result_v ⟨0, 0, x.out⟩ ⟨0, 0, x.out⟩ sa ta sc tc true _ (HX1.out.below (hbg dd os)) (hx2.below (hbg dd os)) hlx hlx (sameR_refl _))
    have C2 : Hid (∀ dd os, Calls Try.prog 8 #[] (grow (redrawn W4 dd) os) fun e w' => e = .returned (.bool true) ∧ Below (grow (redrawn W4 dd) os).heap.size (grow (redrawn W4 dd) os) w') := Lib.hid (fun dd os => awake7_any _)
    have hsl : ∀ W, (Instr.sliceAt 34 (.slice ta y.out.length tc) none (some (.int .i64 x.out.length)) none).run Try.prog W = .ok (.slice ta x.out.length tc) W := fun W => slice_to Try.underlying34 size_u8 hta (by omega) hcy.2 W
    go_wp2
    have b0 := fun dd os => cell_regrown c0 dd os
    have b1 := fun dd os => cell_regrown c1 dd os
    have b2 := fun dd os => cell_regrown c2 dd os
    have b3 := fun dd os => cell_regrown e0 dd os
    have b4 := fun dd os => cell_regrown e1 dd os
    have b5 := fun dd os => cell_regrown e2 dd os
    clear c0 c1 c2 e0 e1 e2 hx2 hbg
    refine wp_region_quiet_below (by kernel_rfl) (by kernel_rfl) ?_
    repeat (any_goals (first | go_big_quiet_step (first | (go_at_call 16; exact Calls.regrown_of (C1.out _ _)) | (go_at_call 8; exact Calls.regrown_of (C2.out _ _))) | quiet_step (first | (go_at_call 16; exact Calls.regrown_of (C1.out _ _)) | (go_at_call 8; exact Calls.regrown_of (C2.out _ _)))))
    refine wpQuiet_nil ?_
    intro _ hw'
    obtain ⟨⟨dq, osq⟩, hw''⟩ := hw'
    subst hw''
    go_wp2
    go_ret
    exact ⟨rfl, HB4.out.trans ((below_regrown _ dq osq).mono HB4.out.size)⟩
theorem fuel_any (U : UnR) (ia : Option Addr) (inp : List UInt8) (ic : Nat) (fuel more : Int) (W : World) (hU : UnAt W W.heap.size U) (hin : CIn W (.slice ia inp.length ic) inp) (hWd : ∀ g ∈ U.gs, Wd g.pos) : Calls Try.prog 4 #[unV U, .slice ia inp.length ic, .int .i64 fuel, .int .i64 more] W (RPost (.bool true) W) := by
  cases hf : fewB U.un with
  | false => exact fuel_no U ia inp ic fuel more W hU hf
  | true =>
    by_cases h1 : inp.length ≤ 200
    rotate_left
    · exact fuel_long U ia inp ic fuel more W hU hf (by omega)
    by_cases h2 : fuel ≤ more
    rotate_left
    · exact fuel_less U ia inp ic fuel more W hU hf h1 (by omega)
    by_cases h3 : more ≤ 5000
    rotate_left
    · exact fuel_much U ia inp ic fuel more W hU hf h1 h2 (by omega)
    by_cases h4 : (runU U.un inp fuel).fin = 4
    · have hp := runU_prefix U.un inp h2
      exact fuel_spent U ia inp ic fuel more W hU hin hWd hf h1 h2 h3 _ _ rfl rfl h4 hp.length_le (List.prefix_iff_eq_take.1 hp).symm
    · have he := runU_more U.un inp h2 h4
      exact fuel_end U ia inp ic fuel more W hU hin hWd hf h1 h2 h3 _ _ rfl rfl h4 (by rw [he]; exact sameR_refl _)
end Go.Proofs.Ytmcpfjhdeplgmaa
