/-
  Contract of doppelref07's Right.
  Layer 7: each call of a function (Right's closure, eachCall).
  Layer 7: eachCall, with what Right asks of each; what Right asks, put together.
-/
import Derived.Test.YtmcpfjhdeplgmaaQRightF
import Derived.Test.YtmcpfjhdeplgmaaQPlaces
import Derived.Test.YtmcpfjhdeplgmaaQInstrF
namespace Go.Proofs.Ytmcpfjhdeplgmaa
open Go.RowKit Go.Sort Cd
set_option linter.unusedVariables false
set_option linter.unusedSimpArgs false

/-- What may be of a unit. -/
structure Cd.RightU (u : Uni) : Prop where
  few : u.funcs.length ≤ 64
  top : 1 ≤ u.top ∧ u.top ≤ 4096
  globals : ∀ g ∈ u.globals, globOk u.top g = true
  funcs : ∀ k f, u.funcs[k]? = some f → funcOk u.funcs k f = true
theorem Cd.funcsOk_iff (fs : List Fnc) : ∀ (l : List Fnc) (k : Nat), funcsOk fs k l = true ↔ ∀ j f, l[j]? = some f → funcOk fs (k + j) f = true
  | [], k => ⟨fun _ j f h => by simp at h, fun _ => rfl⟩
  | x :: l, k => by
    unfold funcsOk
    rw [Bool.and_eq_true, funcsOk_iff fs l (k + 1)]
    constructor
    · rintro ⟨h1, h2⟩ j f hf
      cases j with
      | zero => have : x = f := by simpa using hf
                subst this; exact h1
      | succ j => have := h2 j f (by simpa using hf); rwa [show k + 1 + j = k + (j + 1) by omega] at this
    · intro h
      refine ⟨h 0 x rfl, fun j f hf => ?_⟩
      have := h (j + 1) f (by simpa using hf)
      rwa [show k + (j + 1) = k + 1 + j by omega] at this
theorem Cd.rightU_iff {u : Uni} : rightU u = true ↔ RightU u := by
  unfold rightU
  simp only [Bool.and_eq_true, decide_eq_true_eq, List.all_eq_true, funcsOk_iff, Nat.zero_add]
  constructor
  · rintro ⟨⟨⟨⟨a, b⟩, c⟩, d⟩, e⟩; exact ⟨a, ⟨b, c⟩, d, e⟩
  · rintro ⟨a, ⟨b, c⟩, d, e⟩; exact ⟨⟨⟨⟨a, b⟩, c⟩, d⟩, e⟩
theorem rightU_no {u : Uni} (h : ¬ RightU u) : rightU u = false := by rw [Bool.eq_false_iff, ne_eq, rightU_iff]; exact h
theorem findN_some : ∀ (fs : List Fnc) (s : List UInt8) (k : Nat), findN fs s = some k → ∃ g, fs[k]? = some g ∧ g.name = s
  | [], s, k, h => by simp [findN] at h
  | f :: fs, s, k, h => by
    unfold findN at h
    split at h
    · rename_i h1
      injection h with h; subst h
      exact ⟨f, rfl, h1⟩
    · cases h2 : findN fs s with
      | none => rw [h2] at h; cases h
      | some j =>
        rw [h2] at h
        injection h with h; subst h
        obtain ⟨g, hg, hn⟩ := findN_some fs s j h2
        exact ⟨g, by simpa using hg, hn⟩
theorem nv4 {w : World} {b : Nat} {x0 x1 x2 x3 : Value} {t : TypeId} (h : w.heap[b]? = some (.cells #[x0, x1, x2, x3] t (0, 0))) :
    w.cell? ⟨b, 0, none⟩ = some x0 ∧ w.cell? ⟨b, 1, none⟩ = some x1 ∧ w.cell? ⟨b, 2, none⟩ = some x2 ∧ w.cell? ⟨b, 3, none⟩ = some x3 := by
  refine ⟨?_, ?_, ?_, ?_⟩ <;> (rw [cell_of_row w b _ _ _ _ h]; rfl)
theorem all_noI {p : Ins → Bool} {l : List Ins} {k : Nat} {x : Ins} (h : l[k]? = some x) (hp : p x = false) : l.all p = false := by
  rw [List.all_eq_false]; exact ⟨x, List.mem_of_getElem? h, by simp [hp]⟩
theorem rightFunc_b (r : FnR) (B : Nat) (b : Bool) (w : World) (hc : CodeAt w B r) (hm : r.f.code.length ≤ maxLen) (h : rightF r.f = b) :
    Calls Try.prog 10 #[fnV r] w (RPost (.bool b) w) := h ▸ rightFunc_any r B w hc hm
theorem find_v (U : UnR) (s : List UInt8) (B : Nat) (m : Int) (w : World) (hU : UnAt w B U) (h : findI (UnR.un U).funcs s = m) :
    Calls Try.prog 14 #[unV U, .string (sb s)] w (RPost (.int .i64 m) w) := h ▸ find_any U s B w hU
set_option maxHeartbeats 8000000 in
set_option maxRecDepth 100000 in
theorem right_v (fs : List FnR) (fa : Option Addr) (fc : Nat) (gs : List Glo) (ga : Option Addr) (gc : Nat) (top : Int) (B : Nat) (w : World) (hU : UnAt w B ⟨fs, fa, fc, gs, ga, gc, top⟩) (hBw : B ≤ w.heap.size) :
    Calls Try.prog 12 #[unV ⟨fs, fa, fc, gs, ga, gc, top⟩] w (RPost (.bool (rightU (UnR.un ⟨fs, fa, fc, gs, ga, gc, top⟩))) w) := by
  have hlf := hU.lf
  have hlg := hU.lg
  simp only at hlf hlg
  unfold maxLen at hlf hlg
  have HU := Lib.hid hU; clear hU
  have hfl : (UnR.un ⟨fs, fa, fc, gs, ga, gc, top⟩).funcs.length = fs.length := by simp [UnR.un, UnR.fns]
  have HFL := Lib.hid hfl; clear hfl
  by_cases y0 : fs.length ≤ 64
  rotate_left
  · have E := Lib.hid (rightU_no (u := (UnR.un ⟨fs, fa, fc, gs, ga, gc, top⟩)) (fun h => by have := h.few; rw [HFL.out] at this; omega))
    have t0 : decide ((fs.length : Int) > (64 : Int)) = true := by simp <;> omega
    go_enter Try.func12, Try.ntmps12
    go_wp2
    go_ret
    exact ⟨by rw [E.out]; rfl, (Below.refl _ _).alloc (Nat.le_refl _) _⟩
  have t0 : decide ((fs.length : Int) > (64 : Int)) = false := by simp <;> omega
  by_cases y1 : 1 ≤ top
  rotate_left
  · have E := Lib.hid (rightU_no (u := (UnR.un ⟨fs, fa, fc, gs, ga, gc, top⟩)) (fun h => by have := h.top.1; exact y1 this))
    have t1 : decide (top < (1 : Int)) = true := by simp <;> omega
    go_enter Try.func12, Try.ntmps12
    go_wp2
    go_ret
    exact ⟨by rw [E.out]; rfl, (Below.refl _ _).alloc (Nat.le_refl _) _⟩
  have t1 : decide (top < (1 : Int)) = false := by simp <;> omega
  by_cases y2 : top ≤ 4096
  rotate_left
  · have E := Lib.hid (rightU_no (u := (UnR.un ⟨fs, fa, fc, gs, ga, gc, top⟩)) (fun h => by have := h.top.2; exact y2 this))
    have t2 : decide (top > (4096 : Int)) = true := by simp <;> omega
    go_enter Try.func12, Try.ntmps12
    go_wp2
    go_ret
    exact ⟨by rw [E.out]; rfl, (Below.refl _ _).alloc (Nat.le_refl _) _⟩
  have t2 : decide (top > (4096 : Int)) = false := by simp <;> omega
  go_enter Try.func12, Try.ntmps12
  go_wp2
  go_loopw [3] (fun s3 wr => ∃ k : Nat, k ≤ gs.length ∧ s3 = .int .i64 k ∧ Hid (Below w.heap.size w wr) ∧ Hid (wr.heap[w.heap.size]? = some (unO ⟨fs, fa, fc, gs, ga, gc, top⟩)) ∧ Hid (∀ j g, j < k → gs[j]? = some g → globOk top g = true)) (fun i wr => gs.length - (intOf i).toNat)
  case atStart => exact ⟨0, by omega, rfl, Lib.hid ((Below.refl _ _).alloc (Nat.le_refl _) _), Lib.hid (heap_alloc_new w _), Lib.hid (fun j g hj => by omega)⟩
  case round =>
    obtain ⟨k, hk, rfl, HB, HW, HA⟩ := hrel
    obtain ⟨d0, d1, d2⟩ := nv3 HW.out
    have hz := lt_heap HW.out
    have HU2 := Lib.hid (HU.out.below (HB.out.mono hBw))
    by_cases hlt : k < gs.length
    · obtain ⟨g, hg⟩ : ∃ g, gs[k]? = some g := ⟨_, List.getElem?_eq_getElem hlt⟩
      obtain ⟨b, off, hga, hb, hBw2, q0, q1, q2, q3⟩ := HU2.out.gl hg
      simp only at hga
      subst hga
      have HG := Lib.hid hg; clear hg
      have p0 : (0 : Int) ≤ (k : Int) := Int.natCast_nonneg _
      have p1 : (k : Int) < (gs.length : Int) := by omega
      have HB9 := Lib.hid (HB.out.alloc HB.out.size (.cells #[.string (sb g.name), .int .i64 g.pos, .int .i64 g.size, .int .i64 g.init] 41))
      have HW9 := Lib.hid ((Below.heap_alloc wr (.cells #[.string (sb g.name), .int .i64 g.pos, .int .i64 g.size, .int .i64 g.init] 41) w.heap.size (by omega)).trans HW.out)
      have HNG : Hid (globOk top g = false → rightU (UnR.un ⟨fs, fa, fc, gs, some ⟨b, off, none⟩, gc, top⟩) = false) := Lib.hid (fun e => rightU_no (fun h => by have := h.globals g (List.mem_of_getElem? HG.out); rw [show (UnR.un ⟨fs, fa, fc, gs, some ⟨b, off, none⟩, gc, top⟩).top = top from rfl, e] at this; cases this))
      by_cases z0 : 1 ≤ g.pos
      rotate_left
      · have E := Lib.hid (HNG.out (by unfold globOk; simp <;> omega))
        have u0 : decide (g.pos < (1 : Int)) = true := by simp <;> omega
        go_wp2
        go_ret
        exact ⟨by rw [E.out]; rfl, HB9.out⟩
      have u0 : decide (g.pos < (1 : Int)) = false := by simp <;> omega
      by_cases z1 : 0 ≤ g.size
      rotate_left
      · have E := Lib.hid (HNG.out (by unfold globOk; simp <;> omega))
        have u1 : decide (g.size < (0 : Int)) = true := by simp <;> omega
        go_wp2
        go_ret
        exact ⟨by rw [E.out]; rfl, HB9.out⟩
      have u1 : decide (g.size < (0 : Int)) = false := by simp <;> omega
      by_cases z2 : g.pos ≤ top
      rotate_left
      · have E := Lib.hid (HNG.out (by unfold globOk; simp <;> omega))
        have u2 : decide (g.pos > top) = true := by simp <;> omega
        have u2' : decide (top < g.pos) = true := by simp <;> omega
        go_wp2
        go_ret
        exact ⟨by rw [E.out]; rfl, HB9.out⟩
      have u2 : decide (g.pos > top) = false := by simp <;> omega
      have u2' : decide (top < g.pos) = false := by simp <;> omega
      by_cases z3 : g.size ≤ top
      rotate_left
      · have E := Lib.hid (HNG.out (by unfold globOk; simp <;> omega))
        have u3 : decide (g.size > top) = true := by simp <;> omega
        have u3' : decide (top < g.size) = true := by simp <;> omega
        go_wp2
        go_ret
        exact ⟨by rw [E.out]; rfl, HB9.out⟩
      have u3 : decide (g.size > top) = false := by simp <;> omega
      have u3' : decide (top < g.size) = false := by simp <;> omega
      by_cases z4 : g.pos + g.size ≤ top
      rotate_left
      · have E := Lib.hid (HNG.out (by unfold globOk; simp <;> omega))
        have u4 : decide (g.pos + g.size > top) = true := by simp <;> omega
        have u4' : decide (top < g.pos + g.size) = true := by simp <;> omega
        go_wp2
        go_ret
        exact ⟨by rw [E.out]; rfl, HB9.out⟩
      have u4 : decide (g.pos + g.size > top) = false := by simp <;> omega
      have u4' : decide (top < g.pos + g.size) = false := by simp <;> omega
      by_cases z5 : isW g.init = true
      rotate_left
      · have HI := Lib.hid (bfalse z5); clear z5
        have E := Lib.hid (HNG.out (by unfold globOk; rw [HI.out]; simp))
        go_wp2_with ((with_reducible refine (isWord_v g.init _ HI.out _).mono ?_); rintro e v3 ⟨rfl, rfl⟩)
        go_ret
        exact ⟨by rw [E.out]; rfl, HB9.out⟩
      have HI := Lib.hid z5; clear z5
      have HY := Lib.hid (show globOk top g = true by unfold globOk; rw [HI.out]; simp <;> omega)
      go_wp2_with ((with_reducible refine (isWord_v g.init _ HI.out _).mono ?_); rintro e v3 ⟨rfl, rfl⟩)
      go_roundw
      case rel => exact ⟨k + 1, by omega, by go_num, HB9, HW9, Lib.hid (fun j x hj hx => by by_cases hjk : j < k; exact HA.out j x hjk hx; obtain rfl : j = k := (by omega); rw [HG.out] at hx; injection hx with hx; rw [← hx]; exact HY.out)⟩
      case measure => simp [intOf]; omega
    · obtain rfl : k = gs.length := by omega
      have HGA := Lib.hid (show ∀ g ∈ gs, globOk top g = true from fun g hg => by obtain ⟨i, hi⟩ := List.mem_iff_getElem?.1 hg; exact HA.out i g (List.getElem?_eq_some_iff.1 hi).1 hi)
      clear HA
      go_wp2
      go_loopw [5] (fun s5 wr => ∃ k : Nat, k ≤ fs.length ∧ s5 = .int .i64 k ∧ Hid (Below w.heap.size w wr) ∧ Hid (wr.heap[w.heap.size]? = some (unO ⟨fs, fa, fc, gs, ga, gc, top⟩)) ∧ Hid (∀ j f, j < k → (UnR.un ⟨fs, fa, fc, gs, ga, gc, top⟩).funcs[j]? = some f → funcOk (UnR.un ⟨fs, fa, fc, gs, ga, gc, top⟩).funcs j f = true)) (fun i wr => fs.length - (intOf i).toNat)
      case atStart => exact ⟨0, by omega, rfl, HB, HW, Lib.hid (fun j g hj => by omega)⟩
      case round =>
        clear HB HW HU2 d0 d1 d2 hz
        obtain ⟨k, hk, rfl, HB, HW, HA⟩ := hrel
        obtain ⟨d0, d1, d2⟩ := nv3 HW.out
        have hz := lt_heap HW.out
        have HU2 := Lib.hid (HU.out.below (HB.out.mono hBw))
        by_cases hlt : k < fs.length
        · obtain ⟨r, hr⟩ : ∃ r, fs[k]? = some r := ⟨_, List.getElem?_eq_getElem hlt⟩
          obtain ⟨b, off, hfa, hb, hBw2, q0, q1, q2, q3, q4⟩ := HU2.out.fn hr
          simp only at hfa
          subst hfa
          have HG := Lib.hid (show (UnR.un ⟨fs, some ⟨b, off, none⟩, fc, gs, ga, gc, top⟩).funcs[k]? = some r.f by unfold UnR.un UnR.fns; simp only; rw [List.getElem?_map, hr]; rfl)
          have hmem := List.mem_of_getElem? hr
          have HCA := Lib.hid (HU2.out.code r hmem)
          have HCW := Lib.hid (HU.out.code r hmem)
          have hml := HU.out.lc r hmem
          have HML := Lib.hid hml; clear hr hmem hml
          have p0 : (0 : Int) ≤ (k : Int) := Int.natCast_nonneg _
          have p1 : (k : Int) < (fs.length : Int) := by omega
          have HNG : Hid (funcOk (UnR.un ⟨fs, some ⟨b, off, none⟩, fc, gs, ga, gc, top⟩).funcs k r.f = false → rightU (UnR.un ⟨fs, some ⟨b, off, none⟩, fc, gs, ga, gc, top⟩) = false) := Lib.hid (fun e => rightU_no (fun h => by have := h.funcs k r.f HG.out; rw [e] at this; cases this))
          have HB3 := Lib.hid (HB.out.alloc HB.out.size (fnO r))
          have hbz : B ≤ wr.heap.size := Nat.le_trans hBw HB.out.size
          have HCA3 := Lib.hid (HCA.out.below ((Below.refl B wr).alloc hbz (fnO r)))
          by_cases z0 : rightF r.f = true
          rotate_left
          · have HRF := Lib.hid (bfalse z0); clear z0
            have E := Lib.hid (HNG.out (by unfold funcOk; rw [HRF.out]; rfl))
            go_wp2_with (((with_reducible refine (rightFunc_b r B _ _ HCA3.out HML.out HRF.out).mono ?_); rintro e v3 ⟨rfl, hb3⟩; have G0 := Lib.hid ((hb3.block w.heap.size (by simp <;> omega)).trans ((Below.heap_alloc wr _ w.heap.size (by omega)).trans HW.out)); have G1 := Lib.hid ((hb3.block wr.heap.size (by simp)).trans (heap_alloc_new wr (fnO r))); obtain ⟨d0, d1, d2⟩ := nv3 (w := v3) G0.out; obtain ⟨e0, e1, e2, e3, e4⟩ := nv5 (w := v3) G1.out; have HB4 := Lib.hid (HB3.out.trans (hb3.mono HB3.out.size)); have hv3 : wr.heap.size < v3.heap.size := lt_heap G1.out; clear hb3))
            go_ret
            exact ⟨by rw [E.out]; rfl, HB4.out⟩
          have HRF := Lib.hid z0; clear z0
          by_cases z1 : findN (UnR.un ⟨fs, some ⟨b, off, none⟩, fc, gs, ga, gc, top⟩).funcs r.f.name = some k
          rotate_left
          · obtain ⟨m, hm⟩ : ∃ m, findI (UnR.un ⟨fs, some ⟨b, off, none⟩, fc, gs, ga, gc, top⟩).funcs r.f.name = m := ⟨_, rfl⟩
            have hmk : ¬ m = (k : Int) := fun e => by rw [e] at hm; unfold findI at hm; split at hm; rename_i j hj; exact z1 (by rw [hj]; congr 1; omega); omega
            have E := Lib.hid (HNG.out (by unfold funcOk; rw [decide_eq_false z1]; simp))
            have HFI := Lib.hid hm; clear hm z1
            have v0 : (m != (k : Int)) = true := by simpa using hmk
            go_wp2_with (first | ((with_reducible refine (rightFunc_b r B _ _ HCA3.out HML.out HRF.out).mono ?_); rintro e v3 ⟨rfl, hb3⟩; have G0 := Lib.hid ((hb3.block w.heap.size (by simp <;> omega)).trans ((Below.heap_alloc wr _ w.heap.size (by omega)).trans HW.out)); have G1 := Lib.hid ((hb3.block wr.heap.size (by simp)).trans (heap_alloc_new wr (fnO r))); obtain ⟨d0, d1, d2⟩ := nv3 (w := v3) G0.out; obtain ⟨e0, e1, e2, e3, e4⟩ := nv5 (w := v3) G1.out; have HB4 := Lib.hid (HB3.out.trans (hb3.mono HB3.out.size)); have hv3 : wr.heap.size < v3.heap.size := lt_heap G1.out; clear hb3) | ((with_reducible refine (find_v ⟨fs, some ⟨b, off, none⟩, fc, gs, ga, gc, top⟩ r.f.name B _ _ (HU.out.below (HB4.out.mono hBw)) HFI.out).mono ?_); rintro e v4 ⟨rfl, hb4⟩; have K0 := Lib.hid ((hb4.block w.heap.size (by omega)).trans G0.out); have K1 := Lib.hid ((hb4.block wr.heap.size (by omega)).trans G1.out); obtain ⟨d0, d1, d2⟩ := nv3 (w := v4) K0.out; obtain ⟨e0, e1, e2, e3, e4⟩ := nv5 (w := v4) K1.out; have HB5 := Lib.hid (HB4.out.trans (hb4.mono HB4.out.size)); clear hb4))
            go_ret
            exact ⟨by rw [E.out]; rfl, HB5.out⟩
          have HFN := Lib.hid z1
          have HFI : Hid (findI (UnR.un ⟨fs, some ⟨b, off, none⟩, fc, gs, ga, gc, top⟩).funcs r.f.name = (k : Int)) := Lib.hid (by unfold findI; rw [z1])
          clear z1
          have v0 : ((k : Int) != (k : Int)) = false := by simp
          obtain ⟨⟨name, params, regs, frame, code⟩, ca, cc⟩ := r
          simp only at *
          go_wp2_with (first | ((with_reducible refine (rightFunc_b ⟨⟨name, params, regs, frame, code⟩, ca, cc⟩ B _ _ HCA3.out HML.out HRF.out).mono ?_); rintro e v3 ⟨rfl, hb3⟩; have G0 := Lib.hid ((hb3.block w.heap.size (by simp <;> omega)).trans ((Below.heap_alloc wr _ w.heap.size (by omega)).trans HW.out)); have G1 := Lib.hid ((hb3.block wr.heap.size (by simp)).trans (heap_alloc_new wr (fnO ⟨⟨name, params, regs, frame, code⟩, ca, cc⟩))); obtain ⟨d0, d1, d2⟩ := nv3 (w := v3) G0.out; obtain ⟨e0, e1, e2, e3, e4⟩ := nv5 (w := v3) G1.out; have HB4 := Lib.hid (HB3.out.trans (hb3.mono HB3.out.size)); have hv3 : wr.heap.size < v3.heap.size := lt_heap G1.out; clear hb3) | ((with_reducible refine (find_v ⟨fs, some ⟨b, off, none⟩, fc, gs, ga, gc, top⟩ name B _ _ (HU.out.below (HB4.out.mono hBw)) HFI.out).mono ?_); rintro e v4 ⟨rfl, hb4⟩; have K0 := Lib.hid ((hb4.block w.heap.size (by omega)).trans G0.out); have K1 := Lib.hid ((hb4.block wr.heap.size (by omega)).trans G1.out); obtain ⟨d0, d1, d2⟩ := nv3 (w := v4) K0.out; obtain ⟨e0, e1, e2, e3, e4⟩ := nv5 (w := v4) K1.out; have HB5 := Lib.hid (HB4.out.trans (hb4.mono HB4.out.size)); clear hb4))
          obtain ⟨wo, rfl⟩ : ∃ wo : World, wo = wr := ⟨_, rfl⟩
          clear q0 q1 q2 q3 q4
          go_loopw [7] (fun s7 wr => ∃ n : Nat, n ≤ code.length ∧ s7 = .int .i64 n ∧ Hid (Below w.heap.size w wr) ∧ Hid (wr.heap[w.heap.size]? = some (unO ⟨fs, some ⟨b, off, none⟩, fc, gs, ga, gc, top⟩)) ∧ Hid (wr.heap[wo.heap.size]? = some (fnO ⟨⟨name, params, regs, frame, code⟩, ca, cc⟩)) ∧ Hid ((code.take n).all (callOk (UnR.un ⟨fs, some ⟨b, off, none⟩, fc, gs, ga, gc, top⟩).funcs) = true)) (fun i wr => code.length - (intOf i).toNat)
          case atStart => exact ⟨0, by omega, rfl, HB5, K0, K1, Lib.hid (by simp)⟩
          case round =>
            clear d0 d1 d2 e0 e1 e2 e3 e4
            obtain ⟨n, hn, rfl, HB6, M0, M1, HN⟩ := hrel
            obtain ⟨d0, d1, d2⟩ := nv3 (w := wr) M0.out
            obtain ⟨e0, e1, e2, e3, e4⟩ := nv5 (w := wr) M1.out
            have hml := HML.out
            unfold maxLen at hml
            have HU6 := Lib.hid (HU.out.below (HB6.out.mono hBw))
            have HC6 := Lib.hid (HCW.out.below (HB6.out.mono hBw))
            have zw := lt_heap M0.out
            have zo := lt_heap M1.out
            by_cases hlt2 : n < code.length
            · obtain ⟨x, hx⟩ : ∃ x, code[n]? = some x := ⟨_, List.getElem?_eq_getElem hlt2⟩
              obtain ⟨cb, co, hca, hcb, hcB, q0, _, _, _, _, q5, q6, _⟩ := HC6.out.cells hx
              simp only at hca
              subst hca
              have HX := Lib.hid hx; clear hx
              have p2 : (0 : Int) ≤ (n : Int) := Int.natCast_nonneg _
              have p3 : (n : Int) < (code.length : Int) := by omega
              by_cases hk8 : x.kind = 8
              · have HK := Lib.hid hk8; clear hk8
                have t8 : (x.kind == (8 : Int)) = true := by simpa using HK.out
                obtain ⟨m, hm⟩ : ∃ m, findI (UnR.un ⟨fs, some ⟨b, off, none⟩, fc, gs, ga, gc, top⟩).funcs x.text = m := ⟨_, rfl⟩
                have HM := Lib.hid hm; clear hm
                go_wp2
                obtain ⟨wi, rfl⟩ : ∃ wi : World, wi = wr := ⟨_, rfl⟩
                have HUg : Hid (∀ dd os, UnAt (grow (redrawn wi dd) os) B ⟨fs, some ⟨b, off, none⟩, fc, gs, ga, gc, top⟩) := Lib.hid (fun dd os => HU6.out.below ((below_regrown wi dd os).mono (by omega)))
                have HFi : Hid (∀ dd os, Calls Try.prog 14 #[unV ⟨fs, some ⟨b, off, none⟩, fc, gs, ga, gc, top⟩, .string (sb x.text)] (grow (redrawn wi dd) os) fun e w' => e = .returned (.int .i64 m) ∧ Below (grow (redrawn wi dd) os).heap.size (grow (redrawn wi dd) os) w') := Lib.hid (fun dd os => find_v _ _ B m _ (HUg.out dd os) HM.out)
                have d0' : ∀ dd os, (grow (redrawn wi dd) os).cell? ⟨w.heap.size, 0, none⟩ = _ := fun dd os => cell_regrown d0 dd os
                have d1' : ∀ dd os, (grow (redrawn wi dd) os).cell? ⟨w.heap.size, 1, none⟩ = _ := fun dd os => cell_regrown d1 dd os
                have d2' : ∀ dd os, (grow (redrawn wi dd) os).cell? ⟨w.heap.size, 2, none⟩ = _ := fun dd os => cell_regrown d2 dd os
                have e4' : ∀ dd os, (grow (redrawn wi dd) os).cell? ⟨wo.heap.size, 4, none⟩ = _ := fun dd os => cell_regrown e4 dd os
                have q5' : ∀ dd os, (grow (redrawn wi dd) os).cell? ⟨cb, co + n * 15 + 5, none⟩ = _ := fun dd os => cell_regrown q5 dd os
                have q6' : ∀ dd os, (grow (redrawn wi dd) os).cell? ⟨cb, co + n * 15 + 6, none⟩ = _ := fun dd os => cell_regrown q6 dd os
                clear d0 d1 d2 e0 e1 e2 e3 e4 q0 q5 q6
                refine wp_region_quiet_below (by kernel_rfl) (by kernel_rfl) ?_
                repeat (any_goals (first | go_big_quiet_step ((go_at_call 14; exact Calls.regrown_of (HFi.out _ _))) | quiet_step ((go_at_call 14; exact Calls.regrown_of (HFi.out _ _)))))
                refine wpQuiet_nil ?_
                intro _ hw'
                obtain ⟨⟨dq, osq⟩, hw''⟩ := hw'
                subst hw''
                have HB7 := Lib.hid (HB6.out.trans ((below_regrown wi dq osq).mono HB6.out.size))
                have M09 := Lib.hid (((below_regrown wi dq osq).block _ zw).trans M0.out)
                have M19 := Lib.hid (((below_regrown wi dq osq).block _ zo).trans M1.out)
                have HU7 := Lib.hid (HUg.out dq osq)
                have d0 := d0' dq osq; have e4 := e4' dq osq; have q5 := q5' dq osq
                clear d0' d1' d2' e4' q5' q6'
                generalize hW9 : grow (redrawn wi dq) osq = W9 at *
                clear hW9 HUg HFi
                cases hfn : findN (UnR.un ⟨fs, some ⟨b, off, none⟩, fc, gs, ga, gc, top⟩).funcs x.text with
                | none =>
                  obtain rfl : m = -1 := by rw [← HM.out]; unfold findI; rw [hfn]
                  have E := Lib.hid (HNG.out (by unfold funcOk; rw [all_noI HX.out (by unfold callOk; rw [if_pos HK.out, hfn])]; simp))
                  clear hfn
                  go_wp2
                  go_quiet (fail)
                  go_wp2
                  go_ret
                  exact ⟨by rw [E.out]; rfl, drN HB7.out _⟩
                | some j =>
                  obtain ⟨g, hg, _⟩ := findN_some _ _ _ hfn
                  obtain rfl : m = (j : Int) := by rw [← HM.out]; unfold findI; rw [hfn]
                  obtain ⟨rg, hrg, hgf⟩ : ∃ rg, fs[j]? = some rg ∧ rg.f = g := by unfold UnR.un UnR.fns at hg; simp only [List.getElem?_map, Option.map_eq_some_iff] at hg; exact hg
                  subst hgf
                  have hjl : j < fs.length := (List.getElem?_eq_some_iff.1 hrg).1
                  obtain ⟨b2, off2, hfa2, _, _, _, f1, _⟩ := HU7.out.fn hrg
                  simp only [Option.some.injEq, Addr.mk.injEq, and_true] at hfa2
                  obtain ⟨rfl, rfl⟩ := hfa2
                  have HG2 := Lib.hid hg; have HF2 := Lib.hid hfn; clear hg hfn hrg
                  have j0 : decide ((j : Int) < (0 : Int)) = false := by simp <;> omega
                  have j1 : (0 : Int) ≤ (j : Int) := Int.natCast_nonneg _
                  have j2 : (j : Int) < (fs.length : Int) := by omega
                  by_cases hp : rg.f.params = x.n
                  · have t9 : (rg.f.params != x.n) = false := by simpa using hp
                    have HN2 := Lib.hid (all_yesI HN.out HX.out (by unfold callOk; rw [if_pos HK.out, HF2.out]; simp only; rw [HG2.out]; simpa using hp))
                    clear hp
                    go_wp2
                    go_quiet (fail)
                    go_wp2
                    go_roundw
                    case rel => exact ⟨n + 1, by omega, by go_num, Lib.hid (drN HB7.out _), Lib.hid M09.out, Lib.hid M19.out, HN2⟩
                    case measure => simp [intOf]; omega
                  · have t9 : (rg.f.params != x.n) = true := by simpa using hp
                    have E := Lib.hid (HNG.out (by unfold funcOk; rw [all_noI HX.out (by unfold callOk; rw [if_pos HK.out, HF2.out]; simp only; rw [HG2.out]; simpa using hp)]; simp))
                    clear hp
                    go_wp2
                    go_quiet (fail)
                    go_wp2
                    go_ret
                    exact ⟨by rw [E.out]; rfl, drN HB7.out _⟩
              · have t8 : (x.kind == (8 : Int)) = false := by simpa using hk8
                have HN2 := Lib.hid (all_yesI HN.out HX.out (by unfold callOk; rw [if_neg hk8]))
                clear hk8
                go_wp2
                go_roundw
                case rel => exact ⟨n + 1, by omega, by go_num, HB6, M0, M1, HN2⟩
                case measure => simp [intOf]; omega
            · obtain rfl : n = code.length := by omega
              have HY := Lib.hid (show funcOk (UnR.un ⟨fs, some ⟨b, off, none⟩, fc, gs, ga, gc, top⟩).funcs k ⟨name, params, regs, frame, code⟩ = true by unfold funcOk; rw [HRF.out, HFN.out]; have := HN.out; rw [List.take_length] at this; simpa using this)
              go_wp2
              go_roundw
              case rel => exact ⟨k + 1, by omega, by go_num, HB6, M0, Lib.hid (fun j f hj hf => by by_cases hjk : j < k; exact HA.out j f hjk hf; obtain rfl : j = k := (by omega); rw [HG.out] at hf; injection hf with hf; rw [← hf]; exact HY.out)⟩
              case measure => simp [intOf]; omega
        · obtain rfl : k = fs.length := by omega
          have E := Lib.hid ((rightU_iff (u := (UnR.un ⟨fs, fa, fc, gs, ga, gc, top⟩))).2 ⟨by rw [HFL.out]; exact y0, ⟨y1, y2⟩, HGA.out, fun j f hj => HA.out j f (by have := (List.getElem?_eq_some_iff.1 hj).1; rw [HFL.out] at this; exact this) hj⟩)
          go_wp2
          go_ret
          exact ⟨by rw [E.out]; rfl, HB.out⟩
theorem rightU_any (U : UnR) (B : Nat) (w : World) (hU : UnAt w B U) (hBw : B ≤ w.heap.size) :
    Calls Try.prog 12 #[unV U] w (RPost (.bool (rightU U.un)) w) := right_v U.fs U.fa U.fc U.gs U.ga U.gc U.top B w hU hBw
end Go.Proofs.Ytmcpfjhdeplgmaa
namespace Go.Proofs.Ytmcpfjhdeplgmaa
open Go.RowKit Cd Go.Maps
set_option linter.unusedVariables false
set_option linter.unusedSimpArgs false

abbrev need2V (z : Nat) : Value := .func (.func 24) #[] #[.pointer (some ⟨z, 0, none⟩)]
abbrev need2O (z : Nat) : Obj := .cells #[need2V z] 50
abbrev mapO (b : Nat) : Obj := .cells #[.map (some b)] 56
/-- What lies there while a unit is looked at: what is told (z), need (n), the map's box (m), the map (b), the unit's box (u). -/
structure EaSt (w : World) (U : UnR) (z nb mb b ub : Nat) (R : Bool) : Prop where
  hz : w.heap[z]? = some (bxB R)
  hn : w.heap[nb]? = some (need2O z)
  hm : w.heap[mb]? = some (mapO b)
  hb : PlacesAt w b U.fns
  hu : w.heap[ub]? = some (unO U)
  ne : z ≠ nb ∧ z ≠ mb ∧ z ≠ b ∧ z ≠ ub
variable {w w' : World} {U : UnR} {z nb mb b ub : Nat} {R R' : Bool}
theorem EaSt.need (h : EaSt w U z nb mb b ub R) (hd : Nd z R' w w') : EaSt w' U z nb mb b ub R' := by
  obtain ⟨n1, n2, n3, n4⟩ := h.ne
  exact ⟨hd.cell, (hd.kept _ (lt_heap h.hn) (Ne.symm n1)).trans h.hn, (hd.kept _ (lt_heap h.hm) (Ne.symm n2)).trans h.hm, h.hb.keep (hd.kept _ h.hb.lt (Ne.symm n3)), (hd.kept _ (lt_heap h.hu) (Ne.symm n4)).trans h.hu, h.ne⟩
theorem EaSt.more (h : EaSt w U z nb mb b ub R) (hb : Below w.heap.size w w') : EaSt w' U z nb mb b ub R :=
  ⟨(hb.block _ (lt_heap h.hz)).trans h.hz, (hb.block _ (lt_heap h.hn)).trans h.hn, (hb.block _ (lt_heap h.hm)).trans h.hm, h.hb.below hb h.hb.lt, (hb.block _ (lt_heap h.hu)).trans h.hu, h.ne⟩
theorem EaSt.drew (h : EaSt w U z nb mb b ub R) : EaSt w.drew U z nb mb b ub R := h.more ⟨rfl, rfl, rfl, Nat.le_refl _, fun _ _ => rfl⟩
theorem EaSt.cells (h : EaSt w U z nb mb b ub R) : w.cell? ⟨nb, 0, none⟩ = some (need2V z) ∧ w.cell? ⟨mb, 0, none⟩ = some (.map (some b)) ∧ w.cell? ⟨ub, 0, none⟩ = some (.slice U.fa U.fs.length U.fc) ∧ w.cell? ⟨ub, 1, none⟩ = some (.slice U.ga U.gs.length U.gc) ∧ w.cell? ⟨ub, 2, none⟩ = some (.int .i64 U.top) := by
  obtain ⟨u0, u1, u2⟩ := nv3 h.hu
  exact ⟨(nv1 h.hn).1, (nv1 h.hm).1, u0, u1, u2⟩
theorem callOk8 {fs : List Fnc} {i : Ins} (h8 : i.kind = 8) : callOk fs i = match findN fs i.text with | some k => (match fs[k]? with | some g => decide (g.params = i.n) | none => false) | none => false := by
  unfold callOk; rw [if_pos h8]; rfl
/-- Where a function stands, asked of the map. -/
def lookN (fs : List Fnc) (s : List UInt8) : Value := match findN fs s with
  | some k => .tuple #[.int .i64 (k : Nat), .bool true]
  | none => .tuple #[.int .i64 0, .bool false]
theorem PlacesAt.look {w : World} {b : Nat} {fs : List Fnc} {s : List UInt8} (h : PlacesAt w b fs) (hs : s.length ≤ 1000000) :
    (Instr.lookup 56 (.map (some b)) (.string (sb s)) true).run Try.prog w = .ok (match findN fs s with | some k => .tuple #[.int .i64 (k : Nat), .bool true] | none => .tuple #[.int .i64 0, .bool false]) w := by
  obtain ⟨D, n, hown, hp⟩ := h
  have hw0 : (Lit.int .i64 0).wf = true := by decide
  obtain ⟨v, ps, hrun, hv⟩ := hown.look_ok lawS Try.underlying56 (zero64 _) (plainElem_int Try.underlying3 hw0) (keyT hs)
  obtain ⟨c, rfl, hc, hwc⟩ := plainElem_int_inv Try.underlying3 hv
  simp only [Prod.mk.injEq] at hc
  rw [hrun]
  cases hf : findN fs s with
  | none =>
    rw [hp.none hf]
    have h1 := hc.1
    rw [hp.at_ s, List.drop_zero, hf] at h1
    have := cv_of h1
    rw [← this]
  | some k =>
    obtain ⟨h1, h2⟩ := hp.some hf
    rw [h1, ← h2 c hc.1]
theorem fns_at {U : UnR} {k : Nat} {g : Fnc} (h : U.fns[k]? = some g) : ∃ r, U.fs[k]? = some r ∧ r.f = g := by
  unfold UnR.fns at h
  rw [List.getElem?_map] at h
  cases hr : U.fs[k]? with
  | none => rw [hr] at h; cases h
  | some r => rw [hr] at h; exact ⟨r, rfl, by injection h⟩
set_option maxHeartbeats 8000000 in
set_option maxRecDepth 100000 in
/-- What is needed of a call. -/
theorem right2_any (i : Ins) (h8 : i.kind = 8) (cb co B : Nat) (w : World) (h : EaSt w U z nb mb b ub R) (hU : UnAt w B U) (ht : i.text.length ≤ 1000000) (hi : ∀ (j : Nat) (u : Value), (inCells i)[j]? = some u → w.cell? ⟨cb, co + j, none⟩ = some u) (hcb : cb < w.heap.size) (hcB : cb < B) (hzB : B ≤ z) :
    Calls Try.prog 28 #[.pointer (some ⟨cb, co, none⟩), .pointer (some ⟨mb, 0, none⟩), .pointer (some ⟨nb, 0, none⟩), .pointer (some ⟨ub, 0, none⟩)] w (InPost z (R && callOk U.fns i) w) := by
  have hmix : Try.prog.follows .mixedOrders = true := by kernel_rfl
  have hne : z ≠ cb := by omega
  obtain ⟨m0, m1, m2, m3, m4⟩ := h.cells
  have i6 : w.cell? ⟨cb, co + 6, none⟩ = some (.string (sb i.text)) := hi 6 _ rfl
  have i5 : w.cell? ⟨cb, co + 5, none⟩ = some (.int .i64 i.n) := hi 5 _ rfl
  have HS := Lib.hid h
  cases hf : findN U.fns i.text with
  | none =>
    have HE : Hid (callOk U.fns i = false) := Lib.hid (by rw [callOk8 h8, hf])
    have HF := Lib.hid hf
    clear hf h hi h8
    go_enter Try.func28, Try.ntmps28
    go_wp2
    refine region_last (fun W => (∃ R', EaSt W U z nb mb b ub R') ∧ W.cell? ⟨cb, co + 5, none⟩ = some (.int .i64 i.n) ∧ W.cell? ⟨cb, co + 6, none⟩ = some (.string (sb i.text))) 1000000 hmix ?_
    have hS : (fun W => (∃ R', EaSt W U z nb mb b ub R') ∧ W.cell? ⟨cb, co + 5, none⟩ = some (.int .i64 i.n) ∧ W.cell? ⟨cb, co + 6, none⟩ = some (.string (sb i.text))) _ := ⟨⟨_, HS.out.drew⟩, i5, i6⟩
    refine anyL_takeH (i := 0) (v := ?_) rfl (by decide) (by kernel_rfl) (by kernel_rfl) (by kernel_rfl) (fun _ _ _ h => h) (Or.inl ⟨by rfl, ?_⟩) hS ?_
    rotate_left
    · (intro w' hSw; obtain ⟨⟨R', hE⟩, i5, i6⟩ := hSw; obtain ⟨m0, m1, m2, m3, m4⟩ := hE.cells; go_simp; first | done | with_reducible rfl)
    simp only [Act.put, List.getElem_toArray, List.getElem_cons_succ, List.getElem_cons_zero, List.setIfInBounds_toArray, List.set_cons_succ, List.set_cons_zero]
    refine anyL_takeH (i := 1) (v := ?_) rfl (by decide) (by kernel_rfl) (by kernel_rfl) (by kernel_rfl) (fun _ _ _ h => h) (Or.inl ⟨by rfl, ?_⟩) hS ?_
    rotate_left
    · (intro w' hSw; obtain ⟨⟨R', hE⟩, i5, i6⟩ := hSw; obtain ⟨m0, m1, m2, m3, m4⟩ := hE.cells; go_simp; first | done | with_reducible rfl)
    simp only [Act.put, List.getElem_toArray, List.getElem_cons_succ, List.getElem_cons_zero, List.setIfInBounds_toArray, List.set_cons_succ, List.set_cons_zero]
    refine anyL_takeH (i := 2) (v := ?_) rfl (by decide) (by kernel_rfl) (by kernel_rfl) (by kernel_rfl) (fun _ _ _ h => h) (Or.inl ⟨by rfl, ?_⟩) hS ?_
    rotate_left
    · (intro w' hSw; obtain ⟨⟨R', hE⟩, i5, i6⟩ := hSw; obtain ⟨m0, m1, m2, m3, m4⟩ := hE.cells; go_simp; first | done | with_reducible rfl)
    simp only [Act.put, List.getElem_toArray, List.getElem_cons_succ, List.getElem_cons_zero, List.setIfInBounds_toArray, List.set_cons_succ, List.set_cons_zero]
    refine anyL_takeH (i := 3) (v := ?_) rfl (by decide) (by kernel_rfl) (by kernel_rfl) (by kernel_rfl) (fun _ _ _ h => h) (Or.inl ⟨by rfl, ?_⟩) hS ?_
    rotate_left
    · (intro w' hSw; obtain ⟨⟨R', hE⟩, i5, i6⟩ := hSw; obtain ⟨m0, m1, m2, m3, m4⟩ := hE.cells; go_simp; first | done | with_reducible rfl)
    simp only [Act.put, List.getElem_toArray, List.getElem_cons_succ, List.getElem_cons_zero, List.setIfInBounds_toArray, List.set_cons_succ, List.set_cons_zero]
    refine anyL_takeH (i := 4) (v := ?_) rfl (by decide) (by kernel_rfl) (by kernel_rfl) (by kernel_rfl) (fun _ _ _ h => h) (Or.inl ⟨by rfl, ?_⟩) hS ?_
    rotate_left
    · (intro w' hSw; obtain ⟨⟨R', hE⟩, i5, i6⟩ := hSw; obtain ⟨m0, m1, m2, m3, m4⟩ := hE.cells; go_simp; first | done | with_reducible rfl)
    simp only [Act.put, List.getElem_toArray, List.getElem_cons_succ, List.getElem_cons_zero, List.setIfInBounds_toArray, List.set_cons_succ, List.set_cons_zero]
    refine anyL_takeH (i := 5) (v := ?_) rfl (by decide) (by kernel_rfl) (by kernel_rfl) (by kernel_rfl) (fun _ _ _ h => h) (Or.inl ⟨by rfl, ?_⟩) hS ?_
    rotate_left
    · (intro w' hSw; obtain ⟨⟨R', hE⟩, i5, i6⟩ := hSw; obtain ⟨m0, m1, m2, m3, m4⟩ := hE.cells; have hl := hE.hb.look ht; rw [HF.out] at hl; go_simp; first | done | with_reducible rfl)
    simp only [Act.put, List.getElem_toArray, List.getElem_cons_succ, List.getElem_cons_zero, List.setIfInBounds_toArray, List.set_cons_succ, List.set_cons_zero]
    refine anyL_takeH (i := 6) (v := ?_) rfl (by decide) (by kernel_rfl) (by kernel_rfl) (by kernel_rfl) (fun _ _ _ h => h) (Or.inl ⟨by rfl, ?_⟩) hS ?_
    rotate_left
    · (intro w' hSw; obtain ⟨⟨R', hE⟩, i5, i6⟩ := hSw; obtain ⟨m0, m1, m2, m3, m4⟩ := hE.cells; go_simp; first | done | with_reducible rfl)
    simp only [Act.put, List.getElem_toArray, List.getElem_cons_succ, List.getElem_cons_zero, List.setIfInBounds_toArray, List.set_cons_succ, List.set_cons_zero]
    refine anyL_takeH (i := 7) (v := ?_) rfl (by decide) (by kernel_rfl) (by kernel_rfl) (by kernel_rfl) (fun _ _ _ h => h) (Or.inl ⟨by rfl, ?_⟩) hS ?_
    rotate_left
    · (intro w' hSw; obtain ⟨⟨R', hE⟩, i5, i6⟩ := hSw; obtain ⟨m0, m1, m2, m3, m4⟩ := hE.cells; go_simp; first | done | with_reducible rfl)
    simp only [Act.put, List.getElem_toArray, List.getElem_cons_succ, List.getElem_cons_zero, List.setIfInBounds_toArray, List.set_cons_succ, List.set_cons_zero]
    refine anyL_takeH (i := 8) (v := ?_) rfl (by decide) (by kernel_rfl) (by kernel_rfl) (by kernel_rfl) (fun _ _ _ h => h) (Or.inl ⟨by rfl, ?_⟩) hS ?_
    rotate_left
    · (intro w' hSw; obtain ⟨⟨R', hE⟩, i5, i6⟩ := hSw; obtain ⟨m0, m1, m2, m3, m4⟩ := hE.cells; go_simp; first | done | with_reducible rfl)
    simp only [Act.put, List.getElem_toArray, List.getElem_cons_succ, List.getElem_cons_zero, List.setIfInBounds_toArray, List.set_cons_succ, List.set_cons_zero]
    refine anyL_takeH (i := 9) (v := ?_) rfl (by decide) (by kernel_rfl) (by kernel_rfl) (by kernel_rfl) (fun _ _ _ h => h) (Or.inl ⟨by rfl, ?_⟩) hS ?_
    rotate_left
    · (intro w' hSw; obtain ⟨⟨R', hE⟩, i5, i6⟩ := hSw; obtain ⟨m0, m1, m2, m3, m4⟩ := hE.cells; go_simp; first | done | with_reducible rfl)
    simp only [Act.put, List.getElem_toArray, List.getElem_cons_succ, List.getElem_cons_zero, List.setIfInBounds_toArray, List.set_cons_succ, List.set_cons_zero]
    refine anyL_takeH (i := 10) (v := ?_) rfl (by decide) (by kernel_rfl) (by kernel_rfl) (by kernel_rfl) (fun _ _ _ h => h) (Or.inl ⟨by rfl, ?_⟩) hS ?_
    rotate_left
    · (intro w' hSw; obtain ⟨⟨R', hE⟩, i5, i6⟩ := hSw; obtain ⟨m0, m1, m2, m3, m4⟩ := hE.cells; go_simp; first | done | with_reducible rfl)
    simp only [Act.put, List.getElem_toArray, List.getElem_cons_succ, List.getElem_cons_zero, List.setIfInBounds_toArray, List.set_cons_succ, List.set_cons_zero]
    refine anyL_done (by kernel_rfl) ?_ _
    clear hS
    go_wp2
    have HS1 := Lib.hid HS.out.drew.drew
    refine region_last (fun W => (∃ R', EaSt W U z nb mb b ub R') ∧ W.cell? ⟨cb, co + 5, none⟩ = some (.int .i64 i.n) ∧ W.cell? ⟨cb, co + 6, none⟩ = some (.string (sb i.text))) 1000000 hmix ?_
    have hS : (fun W => (∃ R', EaSt W U z nb mb b ub R') ∧ W.cell? ⟨cb, co + 5, none⟩ = some (.int .i64 i.n) ∧ W.cell? ⟨cb, co + 6, none⟩ = some (.string (sb i.text))) _ := ⟨⟨_, HS1.out⟩, i5, i6⟩
    refine anyL_takeH (i := 0) (v := ?_) rfl (by decide) (by kernel_rfl) (by kernel_rfl) (by kernel_rfl) (fun _ _ _ h => h) (Or.inl ⟨by rfl, ?_⟩) hS ?_
    rotate_left
    · (intro w' hSw; obtain ⟨⟨R', hE⟩, i5, i6⟩ := hSw; obtain ⟨m0, m1, m2, m3, m4⟩ := hE.cells; go_simp; first | done | with_reducible rfl)
    simp only [Act.put, List.getElem_toArray, List.getElem_cons_succ, List.getElem_cons_zero, List.setIfInBounds_toArray, List.set_cons_succ, List.set_cons_zero]
    refine anyL_takeH (i := 1) (v := ?_) rfl (by decide) (by kernel_rfl) (by kernel_rfl) (by kernel_rfl) (fun _ _ _ h => h) (Or.inl ⟨by rfl, ?_⟩) hS ?_
    rotate_left
    · (intro w' hSw; obtain ⟨⟨R', hE⟩, i5, i6⟩ := hSw; obtain ⟨m0, m1, m2, m3, m4⟩ := hE.cells; go_simp; first | done | with_reducible rfl)
    simp only [Act.put, List.getElem_toArray, List.getElem_cons_succ, List.getElem_cons_zero, List.setIfInBounds_toArray, List.set_cons_succ, List.set_cons_zero]
    refine anyL_takeH (i := 2) (v := ?_) rfl (by decide) (by kernel_rfl) (by kernel_rfl) (by kernel_rfl) (fun _ _ _ h => h) (Or.inl ⟨by rfl, ?_⟩) hS ?_
    rotate_left
    · (intro w' hSw; obtain ⟨⟨R', hE⟩, i5, i6⟩ := hSw; obtain ⟨m0, m1, m2, m3, m4⟩ := hE.cells; go_simp; first | done | with_reducible rfl)
    simp only [Act.put, List.getElem_toArray, List.getElem_cons_succ, List.getElem_cons_zero, List.setIfInBounds_toArray, List.set_cons_succ, List.set_cons_zero]
    refine anyL_takeH (i := 3) (v := undef) rfl (by decide) (by kernel_rfl) (by kernel_rfl) (by kernel_rfl) (fun _ _ _ h => h) (Or.inr ⟨by rfl, rfl⟩) hS ?_
    simp only [Act.put, List.getElem_toArray, List.getElem_cons_succ, List.getElem_cons_zero, List.setIfInBounds_toArray, List.set_cons_succ, List.set_cons_zero]
    refine anyL_takeH (i := 4) (v := undef) rfl (by decide) (by kernel_rfl) (by kernel_rfl) (by kernel_rfl) (fun _ _ _ h => h) (Or.inr ⟨by rfl, rfl⟩) hS ?_
    simp only [Act.put, List.getElem_toArray, List.getElem_cons_succ, List.getElem_cons_zero, List.setIfInBounds_toArray, List.set_cons_succ, List.set_cons_zero]
    refine anyL_takeH (i := 5) (v := undef) rfl (by decide) (by kernel_rfl) (by kernel_rfl) (by kernel_rfl) (fun _ _ _ h => h) (Or.inr ⟨by rfl, rfl⟩) hS ?_
    simp only [Act.put, List.getElem_toArray, List.getElem_cons_succ, List.getElem_cons_zero, List.setIfInBounds_toArray, List.set_cons_succ, List.set_cons_zero]
    refine anyL_takeH (i := 6) (v := undef) rfl (by decide) (by kernel_rfl) (by kernel_rfl) (by kernel_rfl) (fun _ _ _ h => h) (Or.inr ⟨by rfl, rfl⟩) hS ?_
    simp only [Act.put, List.getElem_toArray, List.getElem_cons_succ, List.getElem_cons_zero, List.setIfInBounds_toArray, List.set_cons_succ, List.set_cons_zero]
    refine anyL_takeH (i := 7) (v := undef) rfl (by decide) (by kernel_rfl) (by kernel_rfl) (by kernel_rfl) (fun _ _ _ h => h) (Or.inr ⟨by rfl, rfl⟩) hS ?_
    simp only [Act.put, List.getElem_toArray, List.getElem_cons_succ, List.getElem_cons_zero, List.setIfInBounds_toArray, List.set_cons_succ, List.set_cons_zero]
    refine anyL_takeH (i := 8) (v := undef) rfl (by decide) (by kernel_rfl) (by kernel_rfl) (by kernel_rfl) (fun _ _ _ h => h) (Or.inr ⟨by rfl, rfl⟩) hS ?_
    simp only [Act.put, List.getElem_toArray, List.getElem_cons_succ, List.getElem_cons_zero, List.setIfInBounds_toArray, List.set_cons_succ, List.set_cons_zero]
    refine anyL_takeH (i := 9) (v := undef) rfl (by decide) (by kernel_rfl) (by kernel_rfl) (by kernel_rfl) (fun _ _ _ h => h) (Or.inr ⟨by rfl, rfl⟩) hS ?_
    simp only [Act.put, List.getElem_toArray, List.getElem_cons_succ, List.getElem_cons_zero, List.setIfInBounds_toArray, List.set_cons_succ, List.set_cons_zero]
    refine anyL_takeH (i := 10) (v := undef) rfl (by decide) (by kernel_rfl) (by kernel_rfl) (by kernel_rfl) (fun _ _ _ h => h) (Or.inr ⟨by rfl, rfl⟩) hS ?_
    simp only [Act.put, List.getElem_toArray, List.getElem_cons_succ, List.getElem_cons_zero, List.setIfInBounds_toArray, List.set_cons_succ, List.set_cons_zero]
    refine anyL_takeH (i := 11) (v := undef) rfl (by decide) (by kernel_rfl) (by kernel_rfl) (by kernel_rfl) (fun _ _ _ h => h) (Or.inr ⟨by rfl, rfl⟩) hS ?_
    simp only [Act.put, List.getElem_toArray, List.getElem_cons_succ, List.getElem_cons_zero, List.setIfInBounds_toArray, List.set_cons_succ, List.set_cons_zero]
    refine anyL_takeH (i := 12) (v := undef) rfl (by decide) (by kernel_rfl) (by kernel_rfl) (by kernel_rfl) (fun _ _ _ h => h) (Or.inr ⟨by rfl, rfl⟩) hS ?_
    simp only [Act.put, List.getElem_toArray, List.getElem_cons_succ, List.getElem_cons_zero, List.setIfInBounds_toArray, List.set_cons_succ, List.set_cons_zero]
    refine anyL_takeH (i := 13) (v := undef) rfl (by decide) (by kernel_rfl) (by kernel_rfl) (by kernel_rfl) (fun _ _ _ h => h) (Or.inr ⟨by rfl, rfl⟩) hS ?_
    simp only [Act.put, List.getElem_toArray, List.getElem_cons_succ, List.getElem_cons_zero, List.setIfInBounds_toArray, List.set_cons_succ, List.set_cons_zero]
    refine anyL_takeH (i := 14) (v := ?_) rfl (by decide) (by kernel_rfl) (by kernel_rfl) (by kernel_rfl) (fun _ _ _ h => h) (Or.inl ⟨by rfl, ?_⟩) hS ?_
    rotate_left
    · (intro w' hSw; obtain ⟨⟨R', hE⟩, i5, i6⟩ := hSw; obtain ⟨m0, m1, m2, m3, m4⟩ := hE.cells; go_simp; first | done | with_reducible rfl)
    simp only [Act.put, List.getElem_toArray, List.getElem_cons_succ, List.getElem_cons_zero, List.setIfInBounds_toArray, List.set_cons_succ, List.set_cons_zero]
    refine anyL_one (i := 15) (by kernel_rfl) rfl (fun K1 hK1 => ?_)
    go_simp
    refine (need2_any z _ _ _ HS1.out.hz).mono ?_
    rintro e v2 ⟨rfl, hd⟩
    have HS2 := Lib.hid (HS1.out.need hd)
    have HD := Lib.hid hd
    have j5 := (cell_blk (hd.kept cb hcb hne.symm) (co + 5)).trans i5
    have j6 := (cell_blk (hd.kept cb hcb hne.symm) (co + 6)).trans i6
    clear hd
    refine hK1.out _ _ (fun _ => ⟨⟨_, HS2.out⟩, j5, j6⟩) ?_
    clear hK1 K1 hS
    refine anyL_done (by kernel_rfl) ?_ _
    go_wp2
    go_end0
    exact ⟨rfl, by rw [HE.out]; exact Nd.ahead ((Below.refl _ w).drew.drew) (lt_heap HS.out.hz) HD.out⟩
  | some k =>
    obtain ⟨g, hg, _⟩ := findN_some _ _ _ hf
    obtain ⟨r, hr, rfl⟩ := fns_at hg
    obtain ⟨q, hq⟩ : ∃ q, decide (i.n = r.f.params) = q := ⟨_, rfl⟩
    have HE : Hid (callOk U.fns i = q) := Lib.hid (by rw [callOk8 h8, hf]; simp only [hg]; rw [← hq]; simp only [decide_eq_decide]; exact eq_comm)
    have hqe : (i.n == r.f.params) = q := hq
    have HF := Lib.hid hf
    obtain ⟨fb, off, hfa, hfB, hfw, _, cp, _, _, _⟩ := hU.fn hr
    have hfb : fb < w.heap.size := by omega
    have hnf : z ≠ fb := by omega
    have HFA := Lib.hid hfa
    rw [hfa] at m2
    have p0 : (0 : Int) ≤ (k : Int) := Int.natCast_nonneg _
    have p1 : (k : Int) < (U.fs.length : Int) := by have := (List.getElem?_eq_some_iff.1 hr).1; omega
    clear hf h hi h8 hg hr hfa hU hq
    go_enter Try.func28, Try.ntmps28
    go_wp2
    refine region_last (fun W => (∃ R', EaSt W U z nb mb b ub R') ∧ W.cell? ⟨cb, co + 5, none⟩ = some (.int .i64 i.n) ∧ W.cell? ⟨cb, co + 6, none⟩ = some (.string (sb i.text)) ∧ W.cell? ⟨fb, off + k * 5 + 1, none⟩ = some (.int .i64 r.f.params)) 1000000 hmix ?_
    have hS : (fun W => (∃ R', EaSt W U z nb mb b ub R') ∧ W.cell? ⟨cb, co + 5, none⟩ = some (.int .i64 i.n) ∧ W.cell? ⟨cb, co + 6, none⟩ = some (.string (sb i.text)) ∧ W.cell? ⟨fb, off + k * 5 + 1, none⟩ = some (.int .i64 r.f.params)) _ := ⟨⟨_, HS.out.drew⟩, i5, i6, cp⟩
    refine anyL_takeH (i := 0) (v := ?_) rfl (by decide) (by kernel_rfl) (by kernel_rfl) (by kernel_rfl) (fun _ _ _ h => h) (Or.inl ⟨by rfl, ?_⟩) hS ?_
    rotate_left
    · (intro w' hSw; obtain ⟨⟨R', hE⟩, i5, i6, cp⟩ := hSw; obtain ⟨m0, m1, m2, m3, m4⟩ := hE.cells; rw [HFA.out] at m2; go_simp; first | done | with_reducible rfl)
    simp only [Act.put, List.getElem_toArray, List.getElem_cons_succ, List.getElem_cons_zero, List.setIfInBounds_toArray, List.set_cons_succ, List.set_cons_zero]
    refine anyL_takeH (i := 1) (v := ?_) rfl (by decide) (by kernel_rfl) (by kernel_rfl) (by kernel_rfl) (fun _ _ _ h => h) (Or.inl ⟨by rfl, ?_⟩) hS ?_
    rotate_left
    · (intro w' hSw; obtain ⟨⟨R', hE⟩, i5, i6, cp⟩ := hSw; obtain ⟨m0, m1, m2, m3, m4⟩ := hE.cells; rw [HFA.out] at m2; go_simp; first | done | with_reducible rfl)
    simp only [Act.put, List.getElem_toArray, List.getElem_cons_succ, List.getElem_cons_zero, List.setIfInBounds_toArray, List.set_cons_succ, List.set_cons_zero]
    refine anyL_takeH (i := 2) (v := ?_) rfl (by decide) (by kernel_rfl) (by kernel_rfl) (by kernel_rfl) (fun _ _ _ h => h) (Or.inl ⟨by rfl, ?_⟩) hS ?_
    rotate_left
    · (intro w' hSw; obtain ⟨⟨R', hE⟩, i5, i6, cp⟩ := hSw; obtain ⟨m0, m1, m2, m3, m4⟩ := hE.cells; rw [HFA.out] at m2; go_simp; first | done | with_reducible rfl)
    simp only [Act.put, List.getElem_toArray, List.getElem_cons_succ, List.getElem_cons_zero, List.setIfInBounds_toArray, List.set_cons_succ, List.set_cons_zero]
    refine anyL_takeH (i := 3) (v := ?_) rfl (by decide) (by kernel_rfl) (by kernel_rfl) (by kernel_rfl) (fun _ _ _ h => h) (Or.inl ⟨by rfl, ?_⟩) hS ?_
    rotate_left
    · (intro w' hSw; obtain ⟨⟨R', hE⟩, i5, i6, cp⟩ := hSw; obtain ⟨m0, m1, m2, m3, m4⟩ := hE.cells; rw [HFA.out] at m2; go_simp; first | done | with_reducible rfl)
    simp only [Act.put, List.getElem_toArray, List.getElem_cons_succ, List.getElem_cons_zero, List.setIfInBounds_toArray, List.set_cons_succ, List.set_cons_zero]
    refine anyL_takeH (i := 4) (v := ?_) rfl (by decide) (by kernel_rfl) (by kernel_rfl) (by kernel_rfl) (fun _ _ _ h => h) (Or.inl ⟨by rfl, ?_⟩) hS ?_
    rotate_left
    · (intro w' hSw; obtain ⟨⟨R', hE⟩, i5, i6, cp⟩ := hSw; obtain ⟨m0, m1, m2, m3, m4⟩ := hE.cells; rw [HFA.out] at m2; go_simp; first | done | with_reducible rfl)
    simp only [Act.put, List.getElem_toArray, List.getElem_cons_succ, List.getElem_cons_zero, List.setIfInBounds_toArray, List.set_cons_succ, List.set_cons_zero]
    refine anyL_takeH (i := 5) (v := ?_) rfl (by decide) (by kernel_rfl) (by kernel_rfl) (by kernel_rfl) (fun _ _ _ h => h) (Or.inl ⟨by rfl, ?_⟩) hS ?_
    rotate_left
    · (intro w' hSw; obtain ⟨⟨R', hE⟩, i5, i6, cp⟩ := hSw; obtain ⟨m0, m1, m2, m3, m4⟩ := hE.cells; rw [HFA.out] at m2; have hl := hE.hb.look ht; rw [HF.out] at hl; go_simp; first | done | with_reducible rfl)
    simp only [Act.put, List.getElem_toArray, List.getElem_cons_succ, List.getElem_cons_zero, List.setIfInBounds_toArray, List.set_cons_succ, List.set_cons_zero]
    refine anyL_takeH (i := 6) (v := ?_) rfl (by decide) (by kernel_rfl) (by kernel_rfl) (by kernel_rfl) (fun _ _ _ h => h) (Or.inl ⟨by rfl, ?_⟩) hS ?_
    rotate_left
    · (intro w' hSw; obtain ⟨⟨R', hE⟩, i5, i6, cp⟩ := hSw; obtain ⟨m0, m1, m2, m3, m4⟩ := hE.cells; rw [HFA.out] at m2; go_simp; first | done | with_reducible rfl)
    simp only [Act.put, List.getElem_toArray, List.getElem_cons_succ, List.getElem_cons_zero, List.setIfInBounds_toArray, List.set_cons_succ, List.set_cons_zero]
    refine anyL_takeH (i := 7) (v := ?_) rfl (by decide) (by kernel_rfl) (by kernel_rfl) (by kernel_rfl) (fun _ _ _ h => h) (Or.inl ⟨by rfl, ?_⟩) hS ?_
    rotate_left
    · (intro w' hSw; obtain ⟨⟨R', hE⟩, i5, i6, cp⟩ := hSw; obtain ⟨m0, m1, m2, m3, m4⟩ := hE.cells; rw [HFA.out] at m2; go_simp; first | done | with_reducible rfl)
    simp only [Act.put, List.getElem_toArray, List.getElem_cons_succ, List.getElem_cons_zero, List.setIfInBounds_toArray, List.set_cons_succ, List.set_cons_zero]
    refine anyL_takeH (i := 8) (v := ?_) rfl (by decide) (by kernel_rfl) (by kernel_rfl) (by kernel_rfl) (fun _ _ _ h => h) (Or.inl ⟨by rfl, ?_⟩) hS ?_
    rotate_left
    · (intro w' hSw; obtain ⟨⟨R', hE⟩, i5, i6, cp⟩ := hSw; obtain ⟨m0, m1, m2, m3, m4⟩ := hE.cells; rw [HFA.out] at m2; go_simp; first | done | with_reducible rfl)
    simp only [Act.put, List.getElem_toArray, List.getElem_cons_succ, List.getElem_cons_zero, List.setIfInBounds_toArray, List.set_cons_succ, List.set_cons_zero]
    refine anyL_takeH (i := 9) (v := ?_) rfl (by decide) (by kernel_rfl) (by kernel_rfl) (by kernel_rfl) (fun _ _ _ h => h) (Or.inl ⟨by rfl, ?_⟩) hS ?_
    rotate_left
    · (intro w' hSw; obtain ⟨⟨R', hE⟩, i5, i6, cp⟩ := hSw; obtain ⟨m0, m1, m2, m3, m4⟩ := hE.cells; rw [HFA.out] at m2; go_simp; first | done | with_reducible rfl)
    simp only [Act.put, List.getElem_toArray, List.getElem_cons_succ, List.getElem_cons_zero, List.setIfInBounds_toArray, List.set_cons_succ, List.set_cons_zero]
    refine anyL_takeH (i := 10) (v := ?_) rfl (by decide) (by kernel_rfl) (by kernel_rfl) (by kernel_rfl) (fun _ _ _ h => h) (Or.inl ⟨by rfl, ?_⟩) hS ?_
    rotate_left
    · (intro w' hSw; obtain ⟨⟨R', hE⟩, i5, i6, cp⟩ := hSw; obtain ⟨m0, m1, m2, m3, m4⟩ := hE.cells; rw [HFA.out] at m2; go_simp; first | done | with_reducible rfl)
    simp only [Act.put, List.getElem_toArray, List.getElem_cons_succ, List.getElem_cons_zero, List.setIfInBounds_toArray, List.set_cons_succ, List.set_cons_zero]
    refine anyL_done (by kernel_rfl) ?_ _
    clear hS
    go_wp2
    have HS1 := Lib.hid HS.out.drew.drew
    refine region_last (fun W => (∃ R', EaSt W U z nb mb b ub R') ∧ W.cell? ⟨cb, co + 5, none⟩ = some (.int .i64 i.n) ∧ W.cell? ⟨cb, co + 6, none⟩ = some (.string (sb i.text)) ∧ W.cell? ⟨fb, off + k * 5 + 1, none⟩ = some (.int .i64 r.f.params)) 1000000 hmix ?_
    have hS : (fun W => (∃ R', EaSt W U z nb mb b ub R') ∧ W.cell? ⟨cb, co + 5, none⟩ = some (.int .i64 i.n) ∧ W.cell? ⟨cb, co + 6, none⟩ = some (.string (sb i.text)) ∧ W.cell? ⟨fb, off + k * 5 + 1, none⟩ = some (.int .i64 r.f.params)) _ := ⟨⟨_, HS1.out⟩, i5, i6, cp⟩
    refine anyL_takeH (i := 0) (v := ?_) rfl (by decide) (by kernel_rfl) (by kernel_rfl) (by kernel_rfl) (fun _ _ _ h => h) (Or.inl ⟨by rfl, ?_⟩) hS ?_
    rotate_left
    · (intro w' hSw; obtain ⟨⟨R', hE⟩, i5, i6, cp⟩ := hSw; obtain ⟨m0, m1, m2, m3, m4⟩ := hE.cells; rw [HFA.out] at m2; go_simp; first | done | with_reducible rfl)
    simp only [Act.put, List.getElem_toArray, List.getElem_cons_succ, List.getElem_cons_zero, List.setIfInBounds_toArray, List.set_cons_succ, List.set_cons_zero]
    refine anyL_takeH (i := 1) (v := ?_) rfl (by decide) (by kernel_rfl) (by kernel_rfl) (by kernel_rfl) (fun _ _ _ h => h) (Or.inl ⟨by rfl, ?_⟩) hS ?_
    rotate_left
    · (intro w' hSw; obtain ⟨⟨R', hE⟩, i5, i6, cp⟩ := hSw; obtain ⟨m0, m1, m2, m3, m4⟩ := hE.cells; rw [HFA.out] at m2; go_simp; first | done | with_reducible rfl)
    simp only [Act.put, List.getElem_toArray, List.getElem_cons_succ, List.getElem_cons_zero, List.setIfInBounds_toArray, List.set_cons_succ, List.set_cons_zero]
    refine anyL_takeH (i := 2) (v := ?_) rfl (by decide) (by kernel_rfl) (by kernel_rfl) (by kernel_rfl) (fun _ _ _ h => h) (Or.inl ⟨by rfl, ?_⟩) hS ?_
    rotate_left
    · (intro w' hSw; obtain ⟨⟨R', hE⟩, i5, i6, cp⟩ := hSw; obtain ⟨m0, m1, m2, m3, m4⟩ := hE.cells; rw [HFA.out] at m2; go_simp; first | done | with_reducible rfl)
    simp only [Act.put, List.getElem_toArray, List.getElem_cons_succ, List.getElem_cons_zero, List.setIfInBounds_toArray, List.set_cons_succ, List.set_cons_zero]
    refine anyL_takeH (i := 3) (v := ?_) rfl (by decide) (by kernel_rfl) (by kernel_rfl) (by kernel_rfl) (fun _ _ _ h => h) (Or.inl ⟨by rfl, ?_⟩) hS ?_
    rotate_left
    · (intro w' hSw; obtain ⟨⟨R', hE⟩, i5, i6, cp⟩ := hSw; obtain ⟨m0, m1, m2, m3, m4⟩ := hE.cells; rw [HFA.out] at m2; go_simp; first | done | with_reducible rfl)
    simp only [Act.put, List.getElem_toArray, List.getElem_cons_succ, List.getElem_cons_zero, List.setIfInBounds_toArray, List.set_cons_succ, List.set_cons_zero]
    refine anyL_takeH (i := 4) (v := ?_) rfl (by decide) (by kernel_rfl) (by kernel_rfl) (by kernel_rfl) (fun _ _ _ h => h) (Or.inl ⟨by rfl, ?_⟩) hS ?_
    rotate_left
    · (intro w' hSw; obtain ⟨⟨R', hE⟩, i5, i6, cp⟩ := hSw; obtain ⟨m0, m1, m2, m3, m4⟩ := hE.cells; rw [HFA.out] at m2; go_simp; first | done | with_reducible rfl)
    simp only [Act.put, List.getElem_toArray, List.getElem_cons_succ, List.getElem_cons_zero, List.setIfInBounds_toArray, List.set_cons_succ, List.set_cons_zero]
    refine anyL_takeH (i := 5) (v := ?_) rfl (by decide) (by kernel_rfl) (by kernel_rfl) (by kernel_rfl) (fun _ _ _ h => h) (Or.inl ⟨by rfl, ?_⟩) hS ?_
    rotate_left
    · (intro w' hSw; obtain ⟨⟨R', hE⟩, i5, i6, cp⟩ := hSw; obtain ⟨m0, m1, m2, m3, m4⟩ := hE.cells; rw [HFA.out] at m2; go_simp; first | done | with_reducible rfl)
    simp only [Act.put, List.getElem_toArray, List.getElem_cons_succ, List.getElem_cons_zero, List.setIfInBounds_toArray, List.set_cons_succ, List.set_cons_zero]
    refine anyL_takeH (i := 6) (v := ?_) rfl (by decide) (by kernel_rfl) (by kernel_rfl) (by kernel_rfl) (fun _ _ _ h => h) (Or.inl ⟨by rfl, ?_⟩) hS ?_
    rotate_left
    · (intro w' hSw; obtain ⟨⟨R', hE⟩, i5, i6, cp⟩ := hSw; obtain ⟨m0, m1, m2, m3, m4⟩ := hE.cells; rw [HFA.out] at m2; go_simp; first | done | with_reducible rfl)
    simp only [Act.put, List.getElem_toArray, List.getElem_cons_succ, List.getElem_cons_zero, List.setIfInBounds_toArray, List.set_cons_succ, List.set_cons_zero]
    refine anyL_takeH (i := 7) (v := ?_) rfl (by decide) (by kernel_rfl) (by kernel_rfl) (by kernel_rfl) (fun _ _ _ h => h) (Or.inl ⟨by rfl, ?_⟩) hS ?_
    rotate_left
    · (intro w' hSw; obtain ⟨⟨R', hE⟩, i5, i6, cp⟩ := hSw; obtain ⟨m0, m1, m2, m3, m4⟩ := hE.cells; rw [HFA.out] at m2; go_simp; first | done | with_reducible rfl)
    simp only [Act.put, List.getElem_toArray, List.getElem_cons_succ, List.getElem_cons_zero, List.setIfInBounds_toArray, List.set_cons_succ, List.set_cons_zero]
    refine anyL_takeH (i := 8) (v := ?_) rfl (by decide) (by kernel_rfl) (by kernel_rfl) (by kernel_rfl) (fun _ _ _ h => h) (Or.inl ⟨by rfl, ?_⟩) hS ?_
    rotate_left
    · (intro w' hSw; obtain ⟨⟨R', hE⟩, i5, i6, cp⟩ := hSw; obtain ⟨m0, m1, m2, m3, m4⟩ := hE.cells; rw [HFA.out] at m2; go_simp; first | done | with_reducible rfl)
    simp only [Act.put, List.getElem_toArray, List.getElem_cons_succ, List.getElem_cons_zero, List.setIfInBounds_toArray, List.set_cons_succ, List.set_cons_zero]
    refine anyL_takeH (i := 9) (v := ?_) rfl (by decide) (by kernel_rfl) (by kernel_rfl) (by kernel_rfl) (fun _ _ _ h => h) (Or.inl ⟨by rfl, ?_⟩) hS ?_
    rotate_left
    · (intro w' hSw; obtain ⟨⟨R', hE⟩, i5, i6, cp⟩ := hSw; obtain ⟨m0, m1, m2, m3, m4⟩ := hE.cells; rw [HFA.out] at m2; go_simp; first | done | with_reducible rfl)
    simp only [Act.put, List.getElem_toArray, List.getElem_cons_succ, List.getElem_cons_zero, List.setIfInBounds_toArray, List.set_cons_succ, List.set_cons_zero]
    refine anyL_takeH (i := 10) (v := ?_) rfl (by decide) (by kernel_rfl) (by kernel_rfl) (by kernel_rfl) (fun _ _ _ h => h) (Or.inl ⟨by rfl, ?_⟩) hS ?_
    rotate_left
    · (intro w' hSw; obtain ⟨⟨R', hE⟩, i5, i6, cp⟩ := hSw; obtain ⟨m0, m1, m2, m3, m4⟩ := hE.cells; rw [HFA.out] at m2; go_simp; first | done | with_reducible rfl)
    simp only [Act.put, List.getElem_toArray, List.getElem_cons_succ, List.getElem_cons_zero, List.setIfInBounds_toArray, List.set_cons_succ, List.set_cons_zero]
    refine anyL_takeH (i := 11) (v := ?_) rfl (by decide) (by kernel_rfl) (by kernel_rfl) (by kernel_rfl) (fun _ _ _ h => h) (Or.inl ⟨by rfl, ?_⟩) hS ?_
    rotate_left
    · (intro w' hSw; obtain ⟨⟨R', hE⟩, i5, i6, cp⟩ := hSw; obtain ⟨m0, m1, m2, m3, m4⟩ := hE.cells; rw [HFA.out] at m2; go_simp; first | done | with_reducible rfl)
    simp only [Act.put, List.getElem_toArray, List.getElem_cons_succ, List.getElem_cons_zero, List.setIfInBounds_toArray, List.set_cons_succ, List.set_cons_zero]
    refine anyL_takeH (i := 12) (v := ?_) rfl (by decide) (by kernel_rfl) (by kernel_rfl) (by kernel_rfl) (fun _ _ _ h => h) (Or.inl ⟨by rfl, ?_⟩) hS ?_
    rotate_left
    · (intro w' hSw; obtain ⟨⟨R', hE⟩, i5, i6, cp⟩ := hSw; obtain ⟨m0, m1, m2, m3, m4⟩ := hE.cells; rw [HFA.out] at m2; go_simp; first | done | with_reducible rfl)
    simp only [Act.put, List.getElem_toArray, List.getElem_cons_succ, List.getElem_cons_zero, List.setIfInBounds_toArray, List.set_cons_succ, List.set_cons_zero]
    refine anyL_takeH (i := 13) (v := ?_) rfl (by decide) (by kernel_rfl) (by kernel_rfl) (by kernel_rfl) (fun _ _ _ h => h) (Or.inl ⟨by rfl, ?_⟩) hS ?_
    rotate_left
    · (intro w' hSw; obtain ⟨⟨R', hE⟩, i5, i6, cp⟩ := hSw; obtain ⟨m0, m1, m2, m3, m4⟩ := hE.cells; rw [HFA.out] at m2; go_simp; first | done | with_reducible rfl)
    simp only [Act.put, List.getElem_toArray, List.getElem_cons_succ, List.getElem_cons_zero, List.setIfInBounds_toArray, List.set_cons_succ, List.set_cons_zero]
    refine anyL_takeH (i := 14) (v := ?_) rfl (by decide) (by kernel_rfl) (by kernel_rfl) (by kernel_rfl) (fun _ _ _ h => h) (Or.inl ⟨by rfl, ?_⟩) hS ?_
    rotate_left
    · (intro w' hSw; obtain ⟨⟨R', hE⟩, i5, i6, cp⟩ := hSw; obtain ⟨m0, m1, m2, m3, m4⟩ := hE.cells; rw [HFA.out] at m2; go_simp; first | done | with_reducible rfl)
    simp only [Act.put, List.getElem_toArray, List.getElem_cons_succ, List.getElem_cons_zero, List.setIfInBounds_toArray, List.set_cons_succ, List.set_cons_zero]
    refine anyL_one (i := 15) (by kernel_rfl) rfl (fun K1 hK1 => ?_)
    go_simp
    refine (need2_any z _ _ _ HS1.out.hz).mono ?_
    rintro e v2 ⟨rfl, hd⟩
    have HS2 := Lib.hid (HS1.out.need hd)
    have HD := Lib.hid hd
    have j5 := (cell_blk (hd.kept cb hcb hne.symm) (co + 5)).trans i5
    have j6 := (cell_blk (hd.kept cb hcb hne.symm) (co + 6)).trans i6
    have jp := (cell_blk (hd.kept fb hfb hnf.symm) (off + k * 5 + 1)).trans cp
    clear hd
    refine hK1.out _ _ (fun _ => ⟨⟨_, HS2.out⟩, j5, j6, jp⟩) ?_
    clear hK1 K1 hS
    refine anyL_done (by kernel_rfl) ?_ _
    go_wp2
    go_end0
    exact ⟨rfl, by rw [HE.out]; exact Nd.ahead ((Below.refl _ w).drew.drew) (lt_heap HS.out.hz) HD.out⟩
end Go.Proofs.Ytmcpfjhdeplgmaa
namespace Go.Proofs.Ytmcpfjhdeplgmaa
open Go.RowKit Cd Go.Maps
set_option linter.unusedVariables false
set_option linter.unusedSimpArgs false

abbrev askV (mb nb ub : Nat) : Value := .func (.func 28) #[] #[.pointer (some ⟨mb, 0, none⟩), .pointer (some ⟨nb, 0, none⟩), .pointer (some ⟨ub, 0, none⟩)]
variable {w w' : World} {U : UnR} {z nb mb b ub : Nat} {R R' : Bool}
set_option maxHeartbeats 8000000 in
theorem each_any (r : FnR) (B : Nat) (w : World) (h : EaSt w U z nb mb b ub R) (hU : UnAt w B U) (hc : CodeAt w B r) (hBw : B ≤ w.heap.size) (hl : r.f.code.length ≤ maxLen) (hn : ∀ i ∈ r.f.code, i.text.length ≤ 1000000) (hzB : B ≤ z) :
    Calls Try.prog 27 #[fnV r, askV mb nb ub] w (InPost z (R && r.f.code.all (callOk U.fns)) w) := by
  unfold maxLen at hl
  have hzl := lt_heap h.hz
  have HU := Lib.hid hU; have HC := Lib.hid hc; have HN := Lib.hid hn
  have HS0 := Lib.hid (h.more ((Below.refl _ w).alloc (Nat.le_refl _) (fnO r)))
  have HD0 : Hid (Nd z R w (w.alloc (fnO r))) := Lib.hid ((Nd.refl h.hz).more ((Below.refl _ w).alloc (Nat.le_refl _) _))
  have HF0 := Lib.hid (heap_alloc_new w (fnO r))
  clear hU hc hn h
  go_enter Try.func27, Try.ntmps27
  go_wp2
  go_loopw [9] (fun s9 wr => ∃ k : Nat, k ≤ r.f.code.length ∧ s9 = .int .i64 k ∧ Hid (EaSt wr U z nb mb b ub (R && (r.f.code.take k).all (callOk U.fns))) ∧ Hid (Nd z (R && (r.f.code.take k).all (callOk U.fns)) w wr) ∧ Hid (wr.heap[w.heap.size]? = some (fnO r))) (fun i wr => r.f.code.length - (intOf i).toNat)
  case atStart => exact ⟨0, by omega, rfl, Lib.hid (by simpa using HS0.out), Lib.hid (by simpa using HD0.out), HF0⟩
  case round =>
    clear HS0 HD0 HF0
    obtain ⟨k, hk, rfl, HS, HD, HF⟩ := hrel
    have q0 : (0 : Int) ≤ (k : Int) := Int.natCast_nonneg _
    obtain ⟨_, _, _, _, c4⟩ := nv5 HF.out
    by_cases hlt : k < r.f.code.length
    · obtain ⟨i, hi⟩ : ∃ i, r.f.code[k]? = some i := ⟨_, List.getElem?_eq_getElem hlt⟩
      have HTK : Hid ((r.f.code.take (k + 1)).all (callOk U.fns) = ((r.f.code.take k).all (callOk U.fns) && callOk U.fns i)) := Lib.hid (by rw [List.take_add_one, hi, List.all_append]; simp)
      obtain ⟨cb, off, hca, hcB, _, hcl⟩ := code_item HC.out hi
      have hcl2 : ∀ (j : Nat) (u : Value), (inCells i)[j]? = some u → wr.cell? ⟨cb, off + k * 15 + j, none⟩ = some u := fun j u hu => (cell_blk (HD.out.kept cb (by omega) (by omega)) _).trans (hcl j u hu)
      have k0 : wr.cell? ⟨cb, off + k * 15, none⟩ = some (.int .i64 i.kind) := hcl2 0 _ rfl
      have HCL := Lib.hid hcl2
      have HNI := Lib.hid (HN.out i (List.mem_of_getElem? hi))
      have HUr : Hid (UnAt wr B U) := Lib.hid (HU.out.below (HD.out.below.mono hzB))
      have hcw : cb < wr.heap.size := by have := HD.out.below.size; omega
      rw [hca] at c4
      have q1 : (k : Int) < (r.f.code.length : Int) := by omega
      have t1 : decide ((k : Int) < (r.f.code.length : Int)) = true := by simpa using q1
      clear hcl hcl2 hi hca
      by_cases h8 : i.kind = 8
      · have t8 : (i.kind == (8 : Int)) = true := by simpa using h8
        have H8 := Lib.hid h8; clear h8
        go_wp2_with ((with_reducible refine (right2_any i H8.out cb (off + k * 15) B wr HS.out HUr.out HNI.out HCL.out hcw hcB hzB).mono ?_); rintro e v ⟨rfl, hd⟩; have HS2 := Lib.hid (HS.out.need hd); have HD2 := Lib.hid (HD.out.trans hd); have HF2 := Lib.hid ((hd.kept _ (lt_heap HF.out) (by omega)).trans HF.out); clear hd)
        go_roundw
        case rel => exact ⟨k + 1, by omega, by go_num, Lib.hid (by rw [HTK.out, ← Bool.and_assoc]; exact HS2.out), Lib.hid (by rw [HTK.out, ← Bool.and_assoc]; exact HD2.out), HF2⟩
        case measure => simp [intOf]; omega
      · have t8 : (i.kind == (8 : Int)) = false := by simpa using h8
        have HT : Hid (callOk U.fns i = true) := Lib.hid (by unfold callOk; rw [if_neg h8])
        clear h8
        go_wp2
        go_roundw
        case rel => exact ⟨k + 1, by omega, by go_num, Lib.hid (by rw [HTK.out, HT.out, Bool.and_true]; exact HS.out), Lib.hid (by rw [HTK.out, HT.out, Bool.and_true]; exact HD.out), HF⟩
        case measure => simp [intOf]; omega
    · obtain rfl : k = r.f.code.length := by omega
      have t1 : decide ((r.f.code.length : Int) < (r.f.code.length : Int)) = false := by simp
      rw [List.take_length] at HD
      go_wp2
      go_end0
      exact ⟨rfl, HD.out⟩
/-- How many names there are. -/
theorem PlacesAt.len {w : World} {b : Nat} {fs : List Fnc} {q : Bool} (h : PlacesAt w b fs) (hq : decide ((fs.map (·.name)).Nodup) = q) : ∃ sz : Nat, (∀ ty, (Builtin.len_ #[56] ty #[.map (some b)]).run Try.prog w = .ok (.int .i64 sz) w) ∧ decide ((sz : Int) = (fs.length : Int)) = q := by
  obtain ⟨D, n, hown, hp⟩ := h
  refine ⟨Maps.size D, fun ty => hown.len Try.underlying56 ty, ?_⟩
  rw [← hq, decide_eq_decide]
  have := hp.nodup
  rw [List.drop_zero, Nat.sub_zero] at this
  rw [← this]
  omega
/-! ### A unit -/
theorem nodup_find : ∀ (fs : List Fnc), (fs.map (·.name)).Nodup ↔ ∀ k f, fs[k]? = some f → findN fs f.name = some k := by
  intro fs
  constructor
  · intro h k f hk
    refine findN_at fs f.name k f (fun i g hi hg e => ?_) hk rfl
    have h1 : (fs.map (·.name))[i]? = some g.name := by rw [List.getElem?_map, hg]; rfl
    have h2 : (fs.map (·.name))[k]? = some f.name := by rw [List.getElem?_map, hk]; rfl
    rw [e] at h1
    have hil := (List.getElem?_eq_some_iff.1 h1).1
    have hkl := (List.getElem?_eq_some_iff.1 h2).1
    have := (List.getElem_inj (h₀ := hil) (h₁ := hkl) h).1 (by rw [(List.getElem?_eq_some_iff.1 h1).2, (List.getElem?_eq_some_iff.1 h2).2])
    omega
  · intro h
    unfold List.Nodup
    rw [List.pairwise_iff_getElem]
    intro i j hi hj hij e
    simp only [List.getElem_map] at e
    simp only [List.length_map] at hi hj
    have h1 := h i _ (List.getElem?_eq_getElem hi)
    have h2 := h j _ (List.getElem?_eq_getElem hj)
    rw [e, h2] at h1
    injection h1 with h1
    omega
theorem funcs_all (fs : List Fnc) : funcsOk fs 0 fs = (decide ((fs.map (·.name)).Nodup) && fs.all (fun f => rightF f && f.code.all (callOk fs))) := by
  rw [Bool.eq_iff_iff, funcsOk_iff, Bool.and_eq_true, decide_eq_true_eq, nodup_find, List.all_eq_true]
  constructor
  · intro h
    refine ⟨fun k f hk => ?_, fun f hf => ?_⟩
    · have := h k f hk
      unfold funcOk at this
      simp only [Nat.zero_add, Bool.and_eq_true, decide_eq_true_eq] at this
      exact this.1.2
    · obtain ⟨k, hk⟩ := List.mem_iff_getElem?.1 hf
      have := h k f hk
      unfold funcOk at this
      simp only [Bool.and_eq_true] at this ⊢
      exact ⟨this.1.1, this.2⟩
  · rintro ⟨h1, h2⟩ k f hk
    have := h2 f (List.mem_of_getElem? hk)
    unfold funcOk
    simp only [Nat.zero_add, Bool.and_eq_true, decide_eq_true_eq] at this ⊢
    exact ⟨⟨this.1, h1 k f hk⟩, this.2⟩
theorem glob_all {top : Int} (ht : 1 ≤ top ∧ top ≤ 4096) (g : Glo) : globOk top g = (decide (1 ≤ g.pos) && (inB g.size 0 (top - g.pos) && isW g.init)) := by
  unfold globOk inB
  cases isW g.init
  · simp
  · rw [Bool.eq_iff_iff]
    simp
    omega
theorem rightU_all {u : Uni} (h : (decide (u.funcs.length ≤ 64) && inB u.top 1 4096) = true) : rightU u = (((u.globals.all (globOk u.top)) && decide ((u.funcs.map (·.name)).Nodup)) && u.funcs.all (fun f => rightF f && f.code.all (callOk u.funcs))) := by
  simp only [inB, Bool.and_eq_true, decide_eq_true_eq] at h
  unfold rightU
  rw [funcs_all, decide_eq_true h.1, decide_eq_true h.2.1, decide_eq_true h.2.2]
  simp only [Bool.true_and, Bool.and_assoc]
theorem rightU_none {u : Uni} (h : (decide (u.funcs.length ≤ 64) && inB u.top 1 4096) = false) : rightU u = false := by
  unfold rightU
  by_cases h1 : u.funcs.length ≤ 64
  · rw [decide_eq_true h1] at h ⊢
    have h : (decide (1 ≤ u.top) && decide (u.top ≤ 4096)) = false := by simpa [inB] using h
    simp only [Bool.true_and, h, Bool.false_and]
  · rw [decide_eq_false h1]; rfl
end Go.Proofs.Ytmcpfjhdeplgmaa
