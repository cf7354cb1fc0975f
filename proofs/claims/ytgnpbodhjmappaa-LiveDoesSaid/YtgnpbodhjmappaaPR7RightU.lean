/-
  Contract of doppelref07's Right.
-/
import Derived.Test.YtgnpbodhjmappaaPND
import Derived.Test.YtgnpbodhjmappaaPR7Find
set_option linter.unusedVariables false
set_option linter.unusedSimpArgs false
namespace Go.Proofs.Ytgnpbodhjmappaa
set_option maxRecDepth 100000
open Go.RowKit Go.Sort Cd
structure Cd.RightU (u : Uni) : Prop where
  few : u.funcs.length ≤ 64
  top : 1 ≤ u.top ∧ u.top ≤ 4096
  globals : ∀ g ∈ u.globals, globOk u.top g = true
  funcs : ∀ k f, u.funcs[k]? = some f → funcOk u.funcs k f = true
theorem Cd.funcsOk_iff (fs : List Fnc) : ∀ (l : List Fnc) (k : Nat), funcsOk fs k l = true ↔ ∀ j f, l[j]? = some f → funcOk fs (k + j) f = true
  | [], k => ⟨fun _ j f h => by simp at h, fun _ => rfl⟩
  | x :: l, k => by
    unfold funcsOk
    rw [Bool.and_eq_true, funcsOk_iff fs l (k + 1)]
    constructor
    · rintro ⟨h1, h2⟩ j f hf
      cases j with
      | zero => have : x = f := by simpa using hf
                subst this; exact h1
      | succ j => have := h2 j f (by simpa using hf); rwa [show k + 1 + j = k + (j + 1) by omega] at this
    · intro h
      refine ⟨h 0 x rfl, fun j f hf => ?_⟩
      have := h (j + 1) f (by simpa using hf)
      rwa [show k + (j + 1) = k + 1 + j by omega] at this
theorem Cd.rightU_iff {u : Uni} : rightU u = true ↔ RightU u := by
  unfold rightU
  simp only [Bool.and_eq_true, decide_eq_true_eq, List.all_eq_true, funcsOk_iff, Nat.zero_add]
  constructor
  · rintro ⟨⟨⟨⟨a, b⟩, c⟩, d⟩, e⟩; exact ⟨a, ⟨b, c⟩, d, e⟩
  · rintro ⟨a, ⟨b, c⟩, d, e⟩; exact ⟨⟨⟨⟨a, b⟩, c⟩, d⟩, e⟩
theorem rightU_no {u : Uni} (h : ¬ RightU u) : rightU u = false := by rw [Bool.eq_false_iff, ne_eq, rightU_iff]; exact h
theorem findN_some : ∀ (fs : List Fnc) (s : List UInt8) (k : Nat), findN fs s = some k → ∃ g, fs[k]? = some g ∧ g.name = s
  | [], s, k, h => by simp [findN] at h
  | f :: fs, s, k, h => by
    unfold findN at h
    split at h
    · rename_i h1
      injection h with h; subst h
      exact ⟨f, rfl, h1⟩
    · cases h2 : findN fs s with
      | none => rw [h2] at h; cases h
      | some j =>
        rw [h2] at h
        injection h with h; subst h
        obtain ⟨g, hg, hn⟩ := findN_some fs s j h2
        exact ⟨g, by simpa using hg, hn⟩
theorem all_noI {p : Ins → Bool} {l : List Ins} {k : Nat} {x : Ins} (h : l[k]? = some x) (hp : p x = false) : l.all p = false := by
  rw [List.all_eq_false]; exact ⟨x, List.mem_of_getElem? h, by simp [hp]⟩
theorem rightFunc_b (r : FnR) (B : Nat) (b : Bool) (w : World) (hc : CodeAt w B r) (hm : r.f.code.length ≤ maxLen) (h : rightF r.f = b) :
    Calls Try.prog 14 #[fnV r] w (RPost (.bool b) w) := h ▸ rightFunc_any r B w hc hm
theorem find_v (U : UnR) (s : List UInt8) (B : Nat) (m : Int) (w : World) (hU : UnAt w B U) (h : findI (UnR.un U).funcs s = m) :
    Calls Try.prog 29 #[unV U, .string (sb s)] w (RPost (.int .i64 m) w) := h ▸ find_any U s B w hU
set_option maxHeartbeats 8000000 in
set_option maxRecDepth 100000 in
theorem right_v (fs : List FnR) (fa : Option Addr) (fc : Nat) (gs : List Glo) (ga : Option Addr) (gc : Nat) (top : Int) (B : Nat) (w : World) (hU : UnAt w B ⟨fs, fa, fc, gs, ga, gc, top⟩) (hBw : B ≤ w.heap.size) :
    Calls Try.prog 19 #[unV ⟨fs, fa, fc, gs, ga, gc, top⟩] w (RPost (.bool (rightU (UnR.un ⟨fs, fa, fc, gs, ga, gc, top⟩))) w) := by
  have hlf := hU.lf
  have hlg := hU.lg
  simp only at hlf hlg
  unfold maxLen at hlf hlg
  have HU := Lib.hid hU; clear hU
  have hfl : (UnR.un ⟨fs, fa, fc, gs, ga, gc, top⟩).funcs.length = fs.length := by simp [UnR.un, UnR.fns]
  have HFL := Lib.hid hfl; clear hfl
  by_cases y0 : fs.length ≤ 64
  rotate_left
  · have E := Lib.hid (rightU_no (u := (UnR.un ⟨fs, fa, fc, gs, ga, gc, top⟩)) (fun h => by have := h.few; rw [HFL.out] at this; omega))
    have t0 : decide ((fs.length : Int) > (64 : Int)) = true := by simp <;> omega
    go_enter Try.func19, Try.ntmps19
    go_wp2
    go_ret
    exact ⟨by rw [E.out]; rfl, (Below.refl _ _).alloc (Nat.le_refl _) _⟩
  have t0 : decide ((fs.length : Int) > (64 : Int)) = false := by simp <;> omega
  by_cases y1 : 1 ≤ top
  rotate_left
  · have E := Lib.hid (rightU_no (u := (UnR.un ⟨fs, fa, fc, gs, ga, gc, top⟩)) (fun h => by have := h.top.1; exact y1 this))
    have t1 : decide (top < (1 : Int)) = true := by simp <;> omega
    go_enter Try.func19, Try.ntmps19
    go_wp2
    go_ret
    exact ⟨by rw [E.out]; rfl, (Below.refl _ _).alloc (Nat.le_refl _) _⟩
  have t1 : decide (top < (1 : Int)) = false := by simp <;> omega
  by_cases y2 : top ≤ 4096
  rotate_left
  · have E := Lib.hid (rightU_no (u := (UnR.un ⟨fs, fa, fc, gs, ga, gc, top⟩)) (fun h => by have := h.top.2; exact y2 this))
    have t2 : decide (top > (4096 : Int)) = true := by simp <;> omega
    go_enter Try.func19, Try.ntmps19
    go_wp2
    go_ret
    exact ⟨by rw [E.out]; rfl, (Below.refl _ _).alloc (Nat.le_refl _) _⟩
  have t2 : decide (top > (4096 : Int)) = false := by simp <;> omega
  go_enter Try.func19, Try.ntmps19
  go_wp2
  go_loopw [3] (fun s3 wr => ∃ k : Nat, k ≤ gs.length ∧ s3 = .int .i64 k ∧ Hid (Below w.heap.size w wr) ∧ Hid (wr.heap[w.heap.size]? = some (unO ⟨fs, fa, fc, gs, ga, gc, top⟩)) ∧ Hid (∀ j g, j < k → gs[j]? = some g → globOk top g = true)) (fun i wr => gs.length - (intOf i).toNat)
  case atStart => exact ⟨0, by omega, rfl, Lib.hid ((Below.refl _ _).alloc (Nat.le_refl _) _), Lib.hid (heap_alloc_new w _), Lib.hid (fun j g hj => by omega)⟩
  case round =>
    obtain ⟨k, hk, rfl, HB, HW, HA⟩ := hrel
    obtain ⟨d0, d1, d2⟩ := nv3 HW.out
    have hz := lt_heap HW.out
    have HU2 := Lib.hid (HU.out.below (HB.out.mono hBw))
    by_cases hlt : k < gs.length
    · obtain ⟨g, hg⟩ : ∃ g, gs[k]? = some g := ⟨_, List.getElem?_eq_getElem hlt⟩
      obtain ⟨b, off, hga, hb, hBw2, q0, q1, q2, q3⟩ := HU2.out.gl hg
      simp only at hga
      subst hga
      have HG := Lib.hid hg; clear hg
      have p0 : (0 : Int) ≤ (k : Int) := Int.natCast_nonneg _
      have p1 : (k : Int) < (gs.length : Int) := by omega
      have HB9 := Lib.hid (HB.out.alloc HB.out.size (.cells #[.string (sb g.name), .int .i64 g.pos, .int .i64 g.size, .int .i64 g.init] 71))
      have HW9 := Lib.hid ((Below.heap_alloc wr (.cells #[.string (sb g.name), .int .i64 g.pos, .int .i64 g.size, .int .i64 g.init] 71) w.heap.size (by omega)).trans HW.out)
      have HNG : Hid (globOk top g = false → rightU (UnR.un ⟨fs, fa, fc, gs, some ⟨b, off, none⟩, gc, top⟩) = false) := Lib.hid (fun e => rightU_no (fun h => by have := h.globals g (List.mem_of_getElem? HG.out); rw [show (UnR.un ⟨fs, fa, fc, gs, some ⟨b, off, none⟩, gc, top⟩).top = top from rfl, e] at this; cases this))
      by_cases z0 : 1 ≤ g.pos
      rotate_left
      · have E := Lib.hid (HNG.out (by unfold globOk; simp <;> omega))
        have u0 : decide (g.pos < (1 : Int)) = true := by simp <;> omega
        go_wp2
        go_ret
        exact ⟨by rw [E.out]; rfl, HB9.out⟩
      have u0 : decide (g.pos < (1 : Int)) = false := by simp <;> omega
      by_cases z1 : 0 ≤ g.size
      rotate_left
      · have E := Lib.hid (HNG.out (by unfold globOk; simp <;> omega))
        have u1 : decide (g.size < (0 : Int)) = true := by simp <;> omega
        go_wp2
        go_ret
        exact ⟨by rw [E.out]; rfl, HB9.out⟩
      have u1 : decide (g.size < (0 : Int)) = false := by simp <;> omega
      by_cases z2 : g.pos ≤ top
      rotate_left
      · have E := Lib.hid (HNG.out (by unfold globOk; simp <;> omega))
        have u2 : decide (g.pos > top) = true := by simp <;> omega
        have u2' : decide (top < g.pos) = true := by simp <;> omega
        go_wp2
        go_ret
        exact ⟨by rw [E.out]; rfl, HB9.out⟩
      have u2 : decide (g.pos > top) = false := by simp <;> omega
      have u2' : decide (top < g.pos) = false := by simp <;> omega
      by_cases z3 : g.size ≤ top
      rotate_left
      · have E := Lib.hid (HNG.out (by unfold globOk; simp <;> omega))
        have u3 : decide (g.size > top) = true := by simp <;> omega
        have u3' : decide (top < g.size) = true := by simp <;> omega
        go_wp2
        go_ret
        exact ⟨by rw [E.out]; rfl, HB9.out⟩
      have u3 : decide (g.size > top) = false := by simp <;> omega
      have u3' : decide (top < g.size) = false := by simp <;> omega
      by_cases z4 : g.pos + g.size ≤ top
      rotate_left
      · have E := Lib.hid (HNG.out (by unfold globOk; simp <;> omega))
        have u4 : decide (g.pos + g.size > top) = true := by simp <;> omega
        have u4' : decide (top < g.pos + g.size) = true := by simp <;> omega
        go_wp2
        go_ret
        exact ⟨by rw [E.out]; rfl, HB9.out⟩
      have u4 : decide (g.pos + g.size > top) = false := by simp <;> omega
      have u4' : decide (top < g.pos + g.size) = false := by simp <;> omega
      by_cases z5 : isW g.init = true
      rotate_left
      · have HI := Lib.hid (bfalse z5); clear z5
        have E := Lib.hid (HNG.out (by unfold globOk; rw [HI.out]; simp))
        go_wp2_with ((with_reducible refine (isWord_v g.init _ HI.out _).mono ?_); rintro e v3 ⟨rfl, rfl⟩)
        go_ret
        exact ⟨by rw [E.out]; rfl, HB9.out⟩
      have HI := Lib.hid z5; clear z5
      have HY := Lib.hid (show globOk top g = true by unfold globOk; rw [HI.out]; simp <;> omega)
      go_wp2_with ((with_reducible refine (isWord_v g.init _ HI.out _).mono ?_); rintro e v3 ⟨rfl, rfl⟩)
      go_roundw
      case rel => exact ⟨k + 1, by omega, by go_num, HB9, HW9, Lib.hid (fun j x hj hx => by by_cases hjk : j < k; exact HA.out j x hjk hx; obtain rfl : j = k := (by omega); rw [HG.out] at hx; injection hx with hx; rw [← hx]; exact HY.out)⟩
      case measure => simp [intOf]; omega
    · obtain rfl : k = gs.length := by omega
      have HGA := Lib.hid (show ∀ g ∈ gs, globOk top g = true from fun g hg => by obtain ⟨i, hi⟩ := List.mem_iff_getElem?.1 hg; exact HA.out i g (List.getElem?_eq_some_iff.1 hi).1 hi)
      clear HA
      go_wp2
      go_loopw [5] (fun s5 wr => ∃ k : Nat, k ≤ fs.length ∧ s5 = .int .i64 k ∧ Hid (Below w.heap.size w wr) ∧ Hid (wr.heap[w.heap.size]? = some (unO ⟨fs, fa, fc, gs, ga, gc, top⟩)) ∧ Hid (∀ j f, j < k → (UnR.un ⟨fs, fa, fc, gs, ga, gc, top⟩).funcs[j]? = some f → funcOk (UnR.un ⟨fs, fa, fc, gs, ga, gc, top⟩).funcs j f = true)) (fun i wr => fs.length - (intOf i).toNat)
      case atStart => exact ⟨0, by omega, rfl, HB, HW, Lib.hid (fun j g hj => by omega)⟩
      case round =>
        clear HB HW HU2 d0 d1 d2 hz
        obtain ⟨k, hk, rfl, HB, HW, HA⟩ := hrel
        obtain ⟨d0, d1, d2⟩ := nv3 HW.out
        have hz := lt_heap HW.out
        have HU2 := Lib.hid (HU.out.below (HB.out.mono hBw))
        by_cases hlt : k < fs.length
        · obtain ⟨r, hr⟩ : ∃ r, fs[k]? = some r := ⟨_, List.getElem?_eq_getElem hlt⟩
          obtain ⟨b, off, hfa, hb, hBw2, q0, q1, q2, q3, q4⟩ := HU2.out.fn hr
          simp only at hfa
          subst hfa
          have HG := Lib.hid (show (UnR.un ⟨fs, some ⟨b, off, none⟩, fc, gs, ga, gc, top⟩).funcs[k]? = some r.f by unfold UnR.un UnR.fns; simp only; rw [List.getElem?_map, hr]; rfl)
          have hmem := List.mem_of_getElem? hr
          have HCA := Lib.hid (HU2.out.code r hmem)
          have HCW := Lib.hid (HU.out.code r hmem)
          have hml := HU.out.lc r hmem
          have HML := Lib.hid hml; clear hr hmem hml
          have p0 : (0 : Int) ≤ (k : Int) := Int.natCast_nonneg _
          have p1 : (k : Int) < (fs.length : Int) := by omega
          have HNG : Hid (funcOk (UnR.un ⟨fs, some ⟨b, off, none⟩, fc, gs, ga, gc, top⟩).funcs k r.f = false → rightU (UnR.un ⟨fs, some ⟨b, off, none⟩, fc, gs, ga, gc, top⟩) = false) := Lib.hid (fun e => rightU_no (fun h => by have := h.funcs k r.f HG.out; rw [e] at this; cases this))
          have HB3 := Lib.hid (HB.out.alloc HB.out.size (fnO r))
          have hbz : B ≤ wr.heap.size := Nat.le_trans hBw HB.out.size
          have HCA3 := Lib.hid (HCA.out.below ((Below.refl B wr).alloc hbz (fnO r)))
          by_cases z0 : rightF r.f = true
          rotate_left
          · have HRF := Lib.hid (bfalse z0); clear z0
            have E := Lib.hid (HNG.out (by unfold funcOk; rw [HRF.out]; rfl))
            go_wp2_with (((with_reducible refine (rightFunc_b r B _ _ HCA3.out HML.out HRF.out).mono ?_); rintro e v3 ⟨rfl, hb3⟩; have G0 := Lib.hid ((hb3.block w.heap.size (by simp <;> omega)).trans ((Below.heap_alloc wr _ w.heap.size (by omega)).trans HW.out)); have G1 := Lib.hid ((hb3.block wr.heap.size (by simp)).trans (heap_alloc_new wr (fnO r))); obtain ⟨d0, d1, d2⟩ := nv3 (w := v3) G0.out; obtain ⟨e0, e1, e2, e3, e4⟩ := nv5 (w := v3) G1.out; have HB4 := Lib.hid (HB3.out.trans (hb3.mono HB3.out.size)); have hv3 : wr.heap.size < v3.heap.size := lt_heap G1.out; clear hb3))
            go_ret
            exact ⟨by rw [E.out]; rfl, HB4.out⟩
          have HRF := Lib.hid z0; clear z0
          by_cases z1 : findN (UnR.un ⟨fs, some ⟨b, off, none⟩, fc, gs, ga, gc, top⟩).funcs r.f.name = some k
          rotate_left
          · obtain ⟨m, hm⟩ : ∃ m, findI (UnR.un ⟨fs, some ⟨b, off, none⟩, fc, gs, ga, gc, top⟩).funcs r.f.name = m := ⟨_, rfl⟩
            have hmk : ¬ m = (k : Int) := fun e => by rw [e] at hm; unfold findI at hm; split at hm; rename_i j hj; exact z1 (by rw [hj]; congr 1; omega); omega
            have E := Lib.hid (HNG.out (by unfold funcOk; rw [decide_eq_false z1]; simp))
            have HFI := Lib.hid hm; clear hm z1
            have v0 : (m != (k : Int)) = true := by simpa using hmk
            go_wp2_with (first | ((with_reducible refine (rightFunc_b r B _ _ HCA3.out HML.out HRF.out).mono ?_); rintro e v3 ⟨rfl, hb3⟩; have G0 := Lib.hid ((hb3.block w.heap.size (by simp <;> omega)).trans ((Below.heap_alloc wr _ w.heap.size (by omega)).trans HW.out)); have G1 := Lib.hid ((hb3.block wr.heap.size (by simp)).trans (heap_alloc_new wr (fnO r))); obtain ⟨d0, d1, d2⟩ := nv3 (w := v3) G0.out; obtain ⟨e0, e1, e2, e3, e4⟩ := nv5 (w := v3) G1.out; have HB4 := Lib.hid (HB3.out.trans (hb3.mono HB3.out.size)); have hv3 : wr.heap.size < v3.heap.size := lt_heap G1.out; clear hb3) | ((with_reducible refine (find_v ⟨fs, some ⟨b, off, none⟩, fc, gs, ga, gc, top⟩ r.f.name B _ _ (HU.out.below (HB4.out.mono hBw)) HFI.out).mono ?_); rintro e v4 ⟨rfl, hb4⟩; have K0 := Lib.hid ((hb4.block w.heap.size (by omega)).trans G0.out); have K1 := Lib.hid ((hb4.block wr.heap.size (by omega)).trans G1.out); obtain ⟨d0, d1, d2⟩ := nv3 (w := v4) K0.out; obtain ⟨e0, e1, e2, e3, e4⟩ := nv5 (w := v4) K1.out; have HB5 := Lib.hid (HB4.out.trans (hb4.mono HB4.out.size)); clear hb4))
            go_ret
            exact ⟨by rw [E.out]; rfl, HB5.out⟩
          have HFN := Lib.hid z1
          have HFI : Hid (findI (UnR.un ⟨fs, some ⟨b, off, none⟩, fc, gs, ga, gc, top⟩).funcs r.f.name = (k : Int)) := Lib.hid (by unfold findI; rw [z1])
          clear z1
          have v0 : ((k : Int) != (k : Int)) = false := by simp
          obtain ⟨⟨name, params, regs, frame, code⟩, ca, cc⟩ := r
          simp only at *
          go_wp2_with (first | ((with_reducible refine (rightFunc_b ⟨⟨name, params, regs, frame, code⟩, ca, cc⟩ B _ _ HCA3.out HML.out HRF.out).mono ?_); rintro e v3 ⟨rfl, hb3⟩; have G0 := Lib.hid ((hb3.block w.heap.size (by simp <;> omega)).trans ((Below.heap_alloc wr _ w.heap.size (by omega)).trans HW.out)); have G1 := Lib.hid ((hb3.block wr.heap.size (by simp)).trans (heap_alloc_new wr (fnO ⟨⟨name, params, regs, frame, code⟩, ca, cc⟩))); obtain ⟨d0, d1, d2⟩ := nv3 (w := v3) G0.out; obtain ⟨e0, e1, e2, e3, e4⟩ := nv5 (w := v3) G1.out; have HB4 := Lib.hid (HB3.out.trans (hb3.mono HB3.out.size)); have hv3 : wr.heap.size < v3.heap.size := lt_heap G1.out; clear hb3) | ((with_reducible refine (find_v ⟨fs, some ⟨b, off, none⟩, fc, gs, ga, gc, top⟩ name B _ _ (HU.out.below (HB4.out.mono hBw)) HFI.out).mono ?_); rintro e v4 ⟨rfl, hb4⟩; have K0 := Lib.hid ((hb4.block w.heap.size (by omega)).trans G0.out); have K1 := Lib.hid ((hb4.block wr.heap.size (by omega)).trans G1.out); obtain ⟨d0, d1, d2⟩ := nv3 (w := v4) K0.out; obtain ⟨e0, e1, e2, e3, e4⟩ := nv5 (w := v4) K1.out; have HB5 := Lib.hid (HB4.out.trans (hb4.mono HB4.out.size)); clear hb4))
          obtain ⟨wo, rfl⟩ : ∃ wo : World, wo = wr := ⟨_, rfl⟩
          clear q0 q1 q2 q3 q4
          go_loopw [7] (fun s7 wr => ∃ n : Nat, n ≤ code.length ∧ s7 = .int .i64 n ∧ Hid (Below w.heap.size w wr) ∧ Hid (wr.heap[w.heap.size]? = some (unO ⟨fs, some ⟨b, off, none⟩, fc, gs, ga, gc, top⟩)) ∧ Hid (wr.heap[wo.heap.size]? = some (fnO ⟨⟨name, params, regs, frame, code⟩, ca, cc⟩)) ∧ Hid ((code.take n).all (callOk (UnR.un ⟨fs, some ⟨b, off, none⟩, fc, gs, ga, gc, top⟩).funcs) = true)) (fun i wr => code.length - (intOf i).toNat)
          case atStart => exact ⟨0, by omega, rfl, HB5, K0, K1, Lib.hid (by simp)⟩
          case round =>
            clear d0 d1 d2 e0 e1 e2 e3 e4
            obtain ⟨n, hn, rfl, HB6, M0, M1, HN⟩ := hrel
            obtain ⟨d0, d1, d2⟩ := nv3 (w := wr) M0.out
            obtain ⟨e0, e1, e2, e3, e4⟩ := nv5 (w := wr) M1.out
            have hml := HML.out
            unfold maxLen at hml
            have HU6 := Lib.hid (HU.out.below (HB6.out.mono hBw))
            have HC6 := Lib.hid (HCW.out.below (HB6.out.mono hBw))
            have zw := lt_heap M0.out
            have zo := lt_heap M1.out
            by_cases hlt2 : n < code.length
            · obtain ⟨x, hx⟩ : ∃ x, code[n]? = some x := ⟨_, List.getElem?_eq_getElem hlt2⟩
              obtain ⟨cb, co, hca, hcb, hcB, q0, _, _, _, _, q5, q6, _⟩ := HC6.out.cells hx
              simp only at hca
              subst hca
              have HX := Lib.hid hx; clear hx
              have p2 : (0 : Int) ≤ (n : Int) := Int.natCast_nonneg _
              have p3 : (n : Int) < (code.length : Int) := by omega
              by_cases hk8 : x.kind = 8
              · have HK := Lib.hid hk8; clear hk8
                have t8 : (x.kind == (8 : Int)) = true := by simpa using HK.out
                obtain ⟨m, hm⟩ : ∃ m, findI (UnR.un ⟨fs, some ⟨b, off, none⟩, fc, gs, ga, gc, top⟩).funcs x.text = m := ⟨_, rfl⟩
                have HM := Lib.hid hm; clear hm
                go_wp2
                obtain ⟨wi, rfl⟩ : ∃ wi : World, wi = wr := ⟨_, rfl⟩
                have HUg : Hid (∀ dd os, UnAt (grow (redrawn wi dd) os) B ⟨fs, some ⟨b, off, none⟩, fc, gs, ga, gc, top⟩) := Lib.hid (fun dd os => HU6.out.below ((below_regrown wi dd os).mono (by omega)))
                have HFi : Hid (∀ dd os, Calls Try.prog 29 #[unV ⟨fs, some ⟨b, off, none⟩, fc, gs, ga, gc, top⟩, .string (sb x.text)] (grow (redrawn wi dd) os) fun e w' => e = .returned (.int .i64 m) ∧ Below (grow (redrawn wi dd) os).heap.size (grow (redrawn wi dd) os) w') := Lib.hid (fun dd os => find_v _ _ B m _ (HUg.out dd os) HM.out)
                have d0' : ∀ dd os, (grow (redrawn wi dd) os).cell? ⟨w.heap.size, 0, none⟩ = _ := fun dd os => cell_regrown d0 dd os
                have d1' : ∀ dd os, (grow (redrawn wi dd) os).cell? ⟨w.heap.size, 1, none⟩ = _ := fun dd os => cell_regrown d1 dd os
                have d2' : ∀ dd os, (grow (redrawn wi dd) os).cell? ⟨w.heap.size, 2, none⟩ = _ := fun dd os => cell_regrown d2 dd os
                have e4' : ∀ dd os, (grow (redrawn wi dd) os).cell? ⟨wo.heap.size, 4, none⟩ = _ := fun dd os => cell_regrown e4 dd os
                have q5' : ∀ dd os, (grow (redrawn wi dd) os).cell? ⟨cb, co + n * 15 + 5, none⟩ = _ := fun dd os => cell_regrown q5 dd os
                have q6' : ∀ dd os, (grow (redrawn wi dd) os).cell? ⟨cb, co + n * 15 + 6, none⟩ = _ := fun dd os => cell_regrown q6 dd os
                clear d0 d1 d2 e0 e1 e2 e3 e4 q0 q5 q6
                refine wp_region_quiet_below (by kernel_rfl) (by kernel_rfl) ?_
                repeat (any_goals (first | go_big_quiet_step ((go_at_call 29; exact Calls.regrown_of (HFi.out _ _))) | quiet_step ((go_at_call 29; exact Calls.regrown_of (HFi.out _ _)))))
                refine wpQuiet_nil ?_
                intro _ hw'
                obtain ⟨⟨dq, osq⟩, hw''⟩ := hw'
                subst hw''
                have HB7 := Lib.hid (HB6.out.trans ((below_regrown wi dq osq).mono HB6.out.size))
                have M09 := Lib.hid (((below_regrown wi dq osq).block _ zw).trans M0.out)
                have M19 := Lib.hid (((below_regrown wi dq osq).block _ zo).trans M1.out)
                have HU7 := Lib.hid (HUg.out dq osq)
                have d0 := d0' dq osq; have e4 := e4' dq osq; have q5 := q5' dq osq
                clear d0' d1' d2' e4' q5' q6'
                generalize hW9 : grow (redrawn wi dq) osq = W9 at *
                clear hW9 HUg HFi
                cases hfn : findN (UnR.un ⟨fs, some ⟨b, off, none⟩, fc, gs, ga, gc, top⟩).funcs x.text with
                | none =>
                  obtain rfl : m = -1 := by rw [← HM.out]; unfold findI; rw [hfn]
                  have E := Lib.hid (HNG.out (by unfold funcOk; rw [all_noI HX.out (by unfold callOk; rw [if_pos HK.out, hfn])]; simp))
                  clear hfn
                  go_wp2
                  go_quiet (fail)
                  go_wp2
                  go_ret
                  exact ⟨by rw [E.out]; rfl, drN HB7.out _⟩
                | some j =>
                  obtain ⟨g, hg, _⟩ := findN_some _ _ _ hfn
                  obtain rfl : m = (j : Int) := by rw [← HM.out]; unfold findI; rw [hfn]
                  obtain ⟨rg, hrg, hgf⟩ : ∃ rg, fs[j]? = some rg ∧ rg.f = g := by unfold UnR.un UnR.fns at hg; simp only [List.getElem?_map, Option.map_eq_some_iff] at hg; exact hg
                  subst hgf
                  have hjl : j < fs.length := (List.getElem?_eq_some_iff.1 hrg).1
                  obtain ⟨b2, off2, hfa2, _, _, _, f1, _⟩ := HU7.out.fn hrg
                  simp only [Option.some.injEq, Addr.mk.injEq, and_true] at hfa2
                  obtain ⟨rfl, rfl⟩ := hfa2
                  have HG2 := Lib.hid hg; have HF2 := Lib.hid hfn; clear hg hfn hrg
                  have j0 : decide ((j : Int) < (0 : Int)) = false := by simp <;> omega
                  have j1 : (0 : Int) ≤ (j : Int) := Int.natCast_nonneg _
                  have j2 : (j : Int) < (fs.length : Int) := by omega
                  by_cases hp : rg.f.params = x.n
                  · have t9 : (rg.f.params != x.n) = false := by simpa using hp
                    have HN2 := Lib.hid (all_yesI HN.out HX.out (by unfold callOk; rw [if_pos HK.out, HF2.out]; simp only; rw [HG2.out]; simpa using hp))
                    clear hp
                    go_wp2
                    go_quiet (fail)
                    go_wp2
                    go_roundw
                    case rel => exact ⟨n + 1, by omega, by go_num, Lib.hid (drN HB7.out _), Lib.hid M09.out, Lib.hid M19.out, HN2⟩
                    case measure => simp [intOf]; omega
                  · have t9 : (rg.f.params != x.n) = true := by simpa using hp
                    have E := Lib.hid (HNG.out (by unfold funcOk; rw [all_noI HX.out (by unfold callOk; rw [if_pos HK.out, HF2.out]; simp only; rw [HG2.out]; simpa using hp)]; simp))
                    clear hp
                    go_wp2
                    go_quiet (fail)
                    go_wp2
                    go_ret
                    exact ⟨by rw [E.out]; rfl, drN HB7.out _⟩
              · have t8 : (x.kind == (8 : Int)) = false := by simpa using hk8
                have HN2 := Lib.hid (all_yesI HN.out HX.out (by unfold callOk; rw [if_neg hk8]))
                clear hk8
                go_wp2
                go_roundw
                case rel => exact ⟨n + 1, by omega, by go_num, HB6, M0, M1, HN2⟩
                case measure => simp [intOf]; omega
            · obtain rfl : n = code.length := by omega
              have HY := Lib.hid (show funcOk (UnR.un ⟨fs, some ⟨b, off, none⟩, fc, gs, ga, gc, top⟩).funcs k ⟨name, params, regs, frame, code⟩ = true by unfold funcOk; rw [HRF.out, HFN.out]; have := HN.out; rw [List.take_length] at this; simpa using this)
              go_wp2
              go_roundw
              case rel => exact ⟨k + 1, by omega, by go_num, HB6, M0, Lib.hid (fun j f hj hf => by by_cases hjk : j < k; exact HA.out j f hjk hf; obtain rfl : j = k := (by omega); rw [HG.out] at hf; injection hf with hf; rw [← hf]; exact HY.out)⟩
              case measure => simp [intOf]; omega
        · obtain rfl : k = fs.length := by omega
          have E := Lib.hid ((rightU_iff (u := (UnR.un ⟨fs, fa, fc, gs, ga, gc, top⟩))).2 ⟨by rw [HFL.out]; exact y0, ⟨y1, y2⟩, HGA.out, fun j f hj => HA.out j f (by have := (List.getElem?_eq_some_iff.1 hj).1; rw [HFL.out] at this; exact this) hj⟩)
          go_wp2
          go_ret
          exact ⟨by rw [E.out]; rfl, HB.out⟩
theorem rightU_any (U : UnR) (B : Nat) (w : World) (hU : UnAt w B U) (hBw : B ≤ w.heap.size) :
    Calls Try.prog 19 #[unV U] w (RPost (.bool (rightU U.un)) w) := right_v U.fs U.fa U.fc U.gs U.ga U.gc U.top B w hU hBw
end Go.Proofs.Ytgnpbodhjmappaa
