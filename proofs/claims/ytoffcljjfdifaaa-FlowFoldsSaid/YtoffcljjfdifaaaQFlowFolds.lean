/-
  FlowFolds: what is folded may be, has as many instructions, what was changed is counted; folded again it stays.
-/
import Derived.Test.YtoffcljjfdifaaaQG11Same
import Derived.Test.YtoffcljjfdifaaaQFlowParams
namespace Go.Proofs.Ytoffcljjfdifaaa
set_option maxRecDepth 100000
open Go.RowKit Cd
set_option linter.unusedVariables false
set_option linter.unusedSimpArgs false

abbrev gOf (r : FnR) (c : List Ins) : Fnc := ⟨r.f.name, r.f.params, r.f.regs, r.f.frame, c⟩
abbrev gR (g : Fnc) (cg : Nat) : FnR := ⟨g, some ⟨cg, 0, none⟩, g.code.length⟩
/-- The laws' second function, in its own memory. -/
structure GSt (w0 w : World) (r : FnR) (g : Fnc) (G cg : Nat) : Prop where
  st : LwSt w0 w r
  gb : w.heap[G]? = some (fnO (gR g cg))
  row : InsRow w cg g.code
theorem GSt.below {w0 w w' : World} {r : FnR} {g : Fnc} {G cg : Nat} (h : GSt w0 w r g G cg) (hb : Below w.heap.size w w') : GSt w0 w' r g G cg := ⟨h.st.below hb, (hb.block _ (lt_heap h.gb)).trans h.gb, (hb.block _ h.row.lt).trans h.row⟩
theorem GSt.fn {w0 w : World} {r : FnR} {g : Fnc} {G cg : Nat} (h : GSt w0 w r g G cg) (hl : g.code.length ≤ maxLen) : FnK w (gR g cg) := ⟨h.row.row h.row.lt (Nat.le_refl _), hl⟩
theorem fo1 {r : FnR} {S : List (List Val)} {c : List Ins} (hc : List.zipWith foldI r.f.code S = c) (hR : RightF r.f) (hsz : r.f.code.length * (r.f.regs.toNat + 1) ≤ 65536) (hS : Sol r.f S) :
    ∀ V, FnK V r → Calls Try.prog 45 #[fnV r] V (FoPost (gOf r c) (foldN r.f.code S) V) := by
  subst hc; exact fun V hV => fold_s hV hR hsz hS
theorem fo2 {r : FnR} {S : List (List Val)} {c : List Ins} (hc : List.zipWith foldI r.f.code S = c) (hR : RightF r.f) (hsz : r.f.code.length * (r.f.regs.toNat + 1) ≤ 65536) (hS : Sol r.f S) (hcl : c.length = r.f.code.length) :
    ∀ V cg, FnK V (gR (gOf r c) cg) → Calls Try.prog 45 #[fnV (gR (gOf r c) cg)] V (FoPost (gOf r c) 0 V) := by
  intro V cg hV
  have hg : foldF S r.f = gOf r c := by subst hc; rfl
  have hRG : RightF (gOf r c) := hg ▸ foldF_right hR hS
  obtain ⟨T, hT⟩ := sol_exists hRG
  have hTS : T = S := Sol.again hR hS (by rw [hg]; exact hT)
  subst hTS
  have h2 := foldN_again r.f.code T
  rw [hc] at h2
  have h := fold_s hV hRG (by show c.length * _ ≤ _; rw [hcl]; exact hsz) hT
  have e1 : foldF T (gOf r c) = gOf r c := by unfold foldF; show gOf r (List.zipWith foldI c T) = _; rw [h2.2]
  have e2 : foldN c T = 0 := h2.1
  have h' : Calls Try.prog 45 #[fnV (gR (gOf r c) cg)] V (FoPost (foldF T (gOf r c)) (foldN c T) V) := h
  rw [e1, e2] at h'
  exact h'
theorem same_fg {w0 w : World} {r : FnR} {G cg : Nat} (h : GSt w0 w r r.f G cg) (hl : r.f.code.length ≤ maxLen) : Calls Try.prog 28 #[fnV r, fnV (gR r.f cg)] w (RPost (.bool true) w) := same_c r.f r.ca (some ⟨cg, 0, none⟩) r.cc r.f.code.length w h.st.k.code (h.fn hl).code hl
set_option maxHeartbeats 8000000 in
theorem folds_few (r : FnR) (W : World) (h : FnK W r) (hf : few11 r.f = false) : Calls Try.prog 12 #[fnV r] W (RPost (.bool true) W) := by
  have HK := Lib.hid (h.below (box_below W r)); have HF := Lib.hid hf
  have HB0 := Lib.hid (box_below W r)
  obtain ⟨x0, x1, x2, x3, x4⟩ := nv5 (heap_alloc_new W (fnO r))
  clear h hf
  go_enter Try.func12, Try.ntmps12
  go_wp2_with (first | ((with_reducible refine (few11_c r _ HK.out false HF.out).mono ?_); rintro e w1 ⟨rfl, hb1⟩; have HB1 := Lib.hid (HB0.out.trans (hb1.mono HB0.out.size)); clear hb1) | ((with_reducible refine (awake11_any _).mono ?_); rintro e w2 ⟨rfl, hb2⟩; have HB2 := Lib.hid (HB1.out.trans (hb2.mono HB1.out.size)); clear hb2))
  go_ret
  exact ⟨rfl, HB2.out⟩
theorem few11_len {f : Fnc} (h : few11 f = true) : f.code.length ≤ 25 := by
  unfold few11 at h
  rw [Bool.and_eq_true, decide_eq_true_eq] at h
  exact h.2
set_option maxHeartbeats 8000000 in
theorem folds_no (r : FnR) (W : World) (h : FnK W r) (hf : few11 r.f = true) (hr : rightF r.f = false) : Calls Try.prog 12 #[fnV r] W (RPost (.bool true) W) := by
  have HS0 := Lib.hid (LwSt.first W r h)
  have HF := Lib.hid hf; have HR := Lib.hid hr
  have hl25 := few11_len hf
  have HFO : Hid (∀ V, FnK V r → Calls Try.prog 45 #[fnV r] V (FoPost r.f 0 V)) := Lib.hid (fun V hV => fold_n hV (by omega) hr)
  have HML := Lib.hid h.len
  obtain ⟨x0, x1, x2, x3, x4⟩ := nv5 HS0.out.fb
  clear h hf hr
  go_enter Try.func12, Try.ntmps12
  go_upto_region 4 with (first | ((with_reducible refine (few11_c r _ HS0.out.k true HF.out).mono ?_); rintro e w1 ⟨rfl, hb1⟩; have HS1 := Lib.hid (HS0.out.below hb1); clear hb1 x0 x1 x2 x3 x4; obtain ⟨x0, x1, x2, x3, x4⟩ := nv5 HS1.out.fb) | ((with_reducible refine (HFO.out _ HS1.out.k).mono ?_); rintro e w2 ⟨cg, rfl, hcg, hrow, hb2⟩; have HS2 := Lib.hid (HS1.out.below hb2); have HRW := Lib.hid hrow; clear hb2 hrow x0 x1 x2 x3 x4; obtain ⟨x0, x1, x2, x3, x4⟩ := nv5 HS2.out.fb))
  have HG : Hid (GSt W (w2.alloc (fnO (gR r.f cg))) r r.f w2.heap.size cg) := Lib.hid ⟨HS2.out.below ((Below.refl _ _).alloc (Nat.le_refl _) _), heap_alloc_new _ _, (((Below.refl w2.heap.size w2).alloc (Nat.le_refl _) _).block _ HRW.out.lt).trans HRW.out⟩
  clear x0 x1 x2 x3 x4
  generalize w2.alloc (fnO (gR r.f cg)) = w3 at *
  generalize w2.heap.size = G at *
  obtain ⟨x0, x1, x2, x3, x4⟩ := nv5 HG.out.st.fb
  obtain ⟨y0, y1, y2, y3, y4⟩ := nv5 HG.out.gb
  go_wp2_with (first | ((with_reducible refine (ref_right HG.out.st.k false HR.out).mono ?_); rintro e w4 ⟨rfl, hb4⟩; have HG4 := Lib.hid (HG.out.below hb4); clear hb4 x0 x1 x2 x3 x4 y0 y1 y2 y3 y4; obtain ⟨x0, x1, x2, x3, x4⟩ := nv5 HG4.out.st.fb; obtain ⟨y0, y1, y2, y3, y4⟩ := nv5 HG4.out.gb) | ((with_reducible refine (same_fg HG4.out HML.out).mono ?_); rintro e w5 ⟨rfl, hb5⟩; have HG5 := Lib.hid (HG4.out.below hb5); clear hb5) | ((with_reducible refine (awake11_any _).mono ?_); rintro e w6 ⟨rfl, hb6⟩; have HG6 := Lib.hid (HG5.out.below hb6); clear hb6))
  go_ret
  exact ⟨rfl, HG6.out.st.hb⟩
/-- What is changed at an instruction. -/
theorem fold_kind {i : Ins} {v : List Val} : (foldIs i v = false ∧ foldI i v = i) ∨ (foldIs i v = true ∧ i ≠ foldI i v ∧ ((foldI i v).kind = 1 ∨ (foldI i v).kind = 11)) := by
  rcases fold_cases i v with h | ⟨h1, _, _, n, _, h2⟩ | ⟨h1, _, _, _, h2⟩
  · exact .inl h
  · exact .inr ⟨h1, fun e => fold_is_ne.1 h1 e.symm, .inl (by rw [h2]; rfl)⟩
  · exact .inr ⟨h1, fun e => fold_is_ne.1 h1 e.symm, .inr (by rw [h2]; rfl)⟩
theorem same_gg {w0 w : World} {r : FnR} {g : Fnc} {G cg ch : Nat} (h : GSt w0 w r g G cg) (hh : InsRow w ch g.code) (hl : g.code.length ≤ maxLen) : Calls Try.prog 28 #[fnV (gR g cg), fnV (gR g ch)] w (RPost (.bool true) w) := same_c g (some ⟨cg, 0, none⟩) (some ⟨ch, 0, none⟩) g.code.length g.code.length w (h.fn hl).code (hh.row hh.lt (Nat.le_refl _)) hl
set_option maxHeartbeats 8000000 in
theorem folds_yes (r : FnR) (W : World) (h : FnK W r) (hf : few11 r.f = true) (hr : RightF r.f) : Calls Try.prog 12 #[fnV r] W (RPost (.bool true) W) := by
  obtain ⟨S, hS⟩ := sol_exists hr
  have hsz := few11_size hf hr
  have hlS := hS.pre.len
  obtain ⟨c, hc⟩ : ∃ c, List.zipWith foldI r.f.code S = c := ⟨_, rfl⟩
  have hcl : c.length = r.f.code.length := by rw [← hc, List.length_zipWith]; omega
  have HS0 := Lib.hid (LwSt.first W r h)
  have HF := Lib.hid hf; have HR := Lib.hid hr
  have hl25 := few11_len hf
  have HRG : Hid (RightF (gOf r c)) := Lib.hid (by have := foldF_right hr hS; unfold foldF at this; rw [hc] at this; exact this)
  have HF1 := Lib.hid (fo1 hc hr hsz hS)
  have HF2 := Lib.hid (fo2 hc hr hsz hS hcl)
  have HML := Lib.hid h.len
  have HMG : Hid ((gOf r c).code.length ≤ maxLen) := Lib.hid (by show c.length ≤ maxLen; rw [hcl]; exact h.len)
  have HCL := Lib.hid hcl
  have HAT : Hid (∀ (k : Nat) (i : Ins), r.f.code[k]? = some i → ∃ v, S[k]? = some v ∧ c[k]? = some (foldI i v)) := Lib.hid (fun k i hi => by
    have hk := (List.getElem?_eq_some_iff.1 hi).1
    obtain ⟨v, hv⟩ : ∃ v, S[k]? = some v := ⟨_, List.getElem?_eq_getElem (by omega)⟩
    refine ⟨v, hv, ?_⟩
    rw [← hc, List.getElem?_zipWith, hi, hv])
  obtain ⟨nn, hnn⟩ : ∃ nn, foldN r.f.code S = nn := ⟨_, rfl⟩
  have HN : Hid (foldN (r.f.code.take r.f.code.length) (S.take r.f.code.length) = nn) := Lib.hid (by rw [List.take_length, ← hlS, List.take_length]; exact hnn)
  rw [hnn] at HF1
  have t0 : ((c.length : Int) != (r.f.code.length : Int)) = false := by rw [hcl]; simp
  have HLS := Lib.hid hlS
  have hcl25 : c.length ≤ 25 := by omega
  obtain ⟨x0, x1, x2, x3, x4⟩ := nv5 HS0.out.fb
  clear h hf hr hc hnn hS hsz hlS hcl
  go_enter Try.func12, Try.ntmps12
  go_upto_region 4 with (first | ((with_reducible refine (few11_c r _ HS0.out.k true HF.out).mono ?_); rintro e w1 ⟨rfl, hb1⟩; have HS1 := Lib.hid (HS0.out.below hb1); clear hb1 x0 x1 x2 x3 x4; obtain ⟨x0, x1, x2, x3, x4⟩ := nv5 HS1.out.fb) | ((with_reducible refine (HF1.out _ HS1.out.k).mono ?_); rintro e w2 ⟨cg, rfl, hcg, hrow, hb2⟩; have HS2 := Lib.hid (HS1.out.below hb2); have HRW := Lib.hid hrow; clear hb2 hrow x0 x1 x2 x3 x4; obtain ⟨x0, x1, x2, x3, x4⟩ := nv5 HS2.out.fb))
  have HG : Hid (GSt W (w2.alloc (fnO (gR (gOf r c) cg))) r (gOf r c) w2.heap.size cg) := Lib.hid ⟨HS2.out.below ((Below.refl _ _).alloc (Nat.le_refl _) _), heap_alloc_new _ _, (((Below.refl w2.heap.size w2).alloc (Nat.le_refl _) _).block _ HRW.out.lt).trans HRW.out⟩
  clear x0 x1 x2 x3 x4
  generalize w2.alloc (fnO (gR (gOf r c) cg)) = w3 at *
  generalize w2.heap.size = G at *
  obtain ⟨x0, x1, x2, x3, x4⟩ := nv5 HG.out.st.fb
  obtain ⟨y0, y1, y2, y3, y4⟩ := nv5 HG.out.gb
  go_wp2_with (first | ((with_reducible refine (ref_right HG.out.st.k true (rightF_iff.2 HR.out)).mono ?_); rintro e w4 ⟨rfl, hb4⟩; have HG4 := Lib.hid (HG.out.below hb4); clear hb4 x0 x1 x2 x3 x4 y0 y1 y2 y3 y4; obtain ⟨x0, x1, x2, x3, x4⟩ := nv5 HG4.out.st.fb; obtain ⟨y0, y1, y2, y3, y4⟩ := nv5 HG4.out.gb) | ((with_reducible refine (ref_right (HG4.out.fn HMG.out) true (rightF_iff.2 HRG.out)).mono ?_); rintro e w5 ⟨rfl, hb5⟩; have HG5 := Lib.hid (HG4.out.below hb5); clear hb5 x0 x1 x2 x3 x4 y0 y1 y2 y3 y4; obtain ⟨x0, x1, x2, x3, x4⟩ := nv5 HG5.out.st.fb; obtain ⟨y0, y1, y2, y3, y4⟩ := nv5 HG5.out.gb))
  clear x0 x1 x2 x3 x4 y0 y1 y2 y3 y4
  go_loopw [5, 61] (fun s5 s61 wr => ∃ k n : Nat, k ≤ r.f.code.length ∧ s61 = .int .i64 (k : Int) ∧ s5 = .int .i64 (n : Int) ∧ Hid (foldN (r.f.code.take k) (S.take k) = n) ∧ n ≤ k ∧ Hid (GSt W wr r (gOf r c) G cg)) (fun _ s61 wr => r.f.code.length - (intOf s61).toNat)
  case atStart => exact ⟨0, 0, by omega, rfl, rfl, Lib.hid rfl, by omega, HG5⟩
  case round =>
    obtain ⟨k, n, hk, rfl, rfl, HNK, hnk, HGK⟩ := hrel
    have k0 : (0 : Int) ≤ (k : Int) := Int.natCast_nonneg _
    have n0 : (0 : Int) ≤ (n : Int) := Int.natCast_nonneg _
    obtain ⟨x0, x1, x2, x3, x4⟩ := nv5 HGK.out.st.fb
    obtain ⟨y0, y1, y2, y3, y4⟩ := nv5 HGK.out.gb
    by_cases hlt : k < r.f.code.length
    · have k1 : (k : Int) < (r.f.code.length : Int) := by omega
      have k2 : (k : Int) < (c.length : Int) := by have := HCL.out; omega
      obtain ⟨i, hi⟩ : ∃ i, r.f.code[k]? = some i := ⟨_, List.getElem?_eq_getElem hlt⟩
      obtain ⟨v, hv, hcv⟩ := HAT.out k i hi
      obtain ⟨b1, o1, hca⟩ := row_at HGK.out.st.k.code hi
      obtain ⟨p0, p1, p2, p3, p4, p5, p6, p7, p8, p9, p10, p11, p12, p13, p14⟩ := code_cells HGK.out.st.k.code hi hca
      have hq := code_cells (r := gR (gOf r c) cg) (HGK.out.fn HMG.out).code hcv rfl
      simp only [Nat.zero_add] at hq
      have hnext := foldN_take r.f.code S k i v hi hv
      rw [HNK.out] at hnext
      rw [hca] at x4
      have HLT := Lib.hid hlt
      clear hlt hi hv hcv hca
      rcases @fold_kind i v with ⟨hf0, hf1⟩ | ⟨hf0, hf1, hf2⟩
      · rw [hf1] at hq
        rw [hf0] at hnext
        have HNX := Lib.hid hnext
        obtain ⟨q0, q1, q2, q3, q4, q5, q6, q7, q8, q9, q10, q11, q12, q13, q14⟩ := hq
        have hne := in_neq_self i
        clear hnext hf0 hf1
        go_wp2
        go_quiet (fail)
        clear p0 p1 p2 p3 p4 p5 p6 p7 p8 p9 p10 p11 p12 p13 p14 q0 q1 q2 q3 q4 q5 q6 q7 q8 q9 q10 q11 q12 q13 q14 hne x0 x1 x2 x3 x4 y0 y1 y2 y3 y4
        go_wp2
        go_roundw
        case rel => exact ⟨k + 1, n, HLT.out, by go_num, rfl, Lib.hid HNX.out, by omega, Lib.hid (HGK.out.below ⟨rfl, rfl, rfl, Nat.le_refl _, fun _ _ => rfl⟩)⟩
        case measure => have := HLT.out; simp [intOf]; omega
      · rw [hf0] at hnext
        have HNX : Hid (foldN (r.f.code.take (k + 1)) (S.take (k + 1)) = n + 1) := Lib.hid hnext
        have hne := in_neq_ne hf1
        generalize foldI i v = j at *
        obtain ⟨q0, q1, q2, q3, q4, q5, q6, q7, q8, q9, q10, q11, q12, q13, q14⟩ := hq
        clear hnext hf0 hf1
        rcases hf2 with hf2 | hf2
        · have HE := Lib.hid hf2
          clear hf2
          go_wp2
          go_quiet (fail)
          have z4 : (wr.drewN nq).cell? ⟨G, 4, none⟩ = some (.slice (some ⟨cg, 0, none⟩) c.length c.length) := y4
          have z0 : (wr.drewN nq).cell? ⟨cg, k * 15, none⟩ = some (.int .i64 1) := by rw [← HE.out]; exact q0
          clear p0 p1 p2 p3 p4 p5 p6 p7 p8 p9 p10 p11 p12 p13 p14 q0 q1 q2 q3 q4 q5 q6 q7 q8 q9 q10 q11 q12 q13 q14 hne x0 x1 x2 x3 x4 y0 y1 y2 y3 y4
          go_wp2
          go_roundw
          case rel => exact ⟨k + 1, n + 1, HLT.out, by go_num, by go_num, Lib.hid (by rw [HNX.out]), by omega, Lib.hid (HGK.out.below ⟨rfl, rfl, rfl, Nat.le_refl _, fun _ _ => rfl⟩)⟩
          case measure => have := HLT.out; simp [intOf]; omega
        · have HE := Lib.hid hf2
          clear hf2
          go_wp2
          go_quiet (fail)
          have z4 : (wr.drewN nq).cell? ⟨G, 4, none⟩ = some (.slice (some ⟨cg, 0, none⟩) c.length c.length) := y4
          have z0 : (wr.drewN nq).cell? ⟨cg, k * 15, none⟩ = some (.int .i64 11) := by rw [← HE.out]; exact q0
          clear p0 p1 p2 p3 p4 p5 p6 p7 p8 p9 p10 p11 p12 p13 p14 q0 q1 q2 q3 q4 q5 q6 q7 q8 q9 q10 q11 q12 q13 q14 hne x0 x1 x2 x3 x4 y0 y1 y2 y3 y4
          go_wp2
          go_roundw
          case rel => exact ⟨k + 1, n + 1, HLT.out, by go_num, by go_num, Lib.hid (by rw [HNX.out]), by omega, Lib.hid (HGK.out.below ⟨rfl, rfl, rfl, Nat.le_refl _, fun _ _ => rfl⟩)⟩
          case measure => have := HLT.out; simp [intOf]; omega
    · obtain rfl : k = r.f.code.length := by omega
      obtain rfl : n = nn := by rw [← HNK.out]; exact HN.out
      go_upto_region 19 with ((with_reducible refine (HF2.out _ cg (HGK.out.fn HMG.out)).mono ?_); rintro e w6 ⟨ch, rfl, hch, hrow, hb6⟩; have HG6 := Lib.hid (HGK.out.below hb6); have HRW6 := Lib.hid hrow; clear hb6 hrow hch x0 x1 x2 x3 x4 y0 y1 y2 y3 y4)
      have HG7 : Hid (GSt W (w6.alloc (fnO (gR (gOf r c) ch))) r (gOf r c) G cg) := Lib.hid (HG6.out.below ((Below.refl _ _).alloc (Nat.le_refl _) _))
      have HR7 : Hid (InsRow (w6.alloc (fnO (gR (gOf r c) ch))) ch c) := Lib.hid ((((Below.refl w6.heap.size w6).alloc (Nat.le_refl _) _).block _ HRW6.out.lt).trans HRW6.out)
      have HB7 : Hid ((w6.alloc (fnO (gR (gOf r c) ch))).heap[w6.heap.size]? = some (fnO (gR (gOf r c) ch))) := Lib.hid (heap_alloc_new _ _)
      clear HG6 HRW6 HGK
      generalize w6.alloc (fnO (gR (gOf r c) ch)) = w7 at *
      generalize w6.heap.size = Hh at *
      obtain ⟨y0, y1, y2, y3, y4⟩ := nv5 HG7.out.gb
      obtain ⟨z0, z1, z2, z3, z4⟩ := nv5 HB7.out
      go_wp2_with (first | ((with_reducible refine (same_gg HG7.out HR7.out HMG.out).mono ?_); rintro e w8 ⟨rfl, hb8⟩; have HG8 := Lib.hid (HG7.out.below hb8); clear hb8) | ((with_reducible refine (awake11_any _).mono ?_); rintro e w9 ⟨rfl, hb9⟩; have HG9 := Lib.hid (HG8.out.below hb9); clear hb9))
      go_ret
      exact ⟨rfl, HG9.out.st.hb⟩
theorem folds_any (r : FnR) (W : World) (h : FnK W r) : Calls Try.prog 12 #[fnV r] W (RPost (.bool true) W) := by
  by_cases hf : few11 r.f = true
  · by_cases hr : RightF r.f
    · exact folds_yes r W h hf hr
    · exact folds_no r W h hf (by rw [← Bool.not_eq_true, rightF_iff]; exact hr)
  · exact folds_few r W h (by simpa using hf)
end Go.Proofs.Ytoffcljjfdifaaa
