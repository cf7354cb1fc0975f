/-
  FlowLeast: nothing less holds together.
-/
import Derived.Test.YtbalbdhbmcdbaaaQG11LeSt
import Derived.Test.YtbalbdhbmcdbaaaQLP
import Derived.Test.YtbalbdhbmcdbaaaQG11Same
import Derived.Deep.RegionHeld3
namespace Go.Proofs.Ytbalbdhbmcdbaaa
set_option maxRecDepth 100000
open Go.RowKit Cd
set_option linter.unusedVariables false
set_option linter.unusedSimpArgs false

set_option maxHeartbeats 8000000 in
theorem least_few (r : FnR) (W : World) (h : FnK W r) (hf : few11 r.f = false) : Calls Try.prog 11 #[fnV r] W (RPost (.bool true) W) := by
  have HK := Lib.hid (h.below (box_below W r)); have HF := Lib.hid hf
  have HB0 := Lib.hid (box_below W r)
  obtain ⟨x0, x1, x2, x3, x4⟩ := nv5 (heap_alloc_new W (fnO r))
  clear h hf
  go_enter Try.func11, Try.ntmps11
  go_wp2_with (first | ((with_reducible refine (few11_c r _ HK.out false HF.out).mono ?_); rintro e w1 ⟨rfl, hb1⟩; have HB1 := Lib.hid (HB0.out.trans (hb1.mono HB0.out.size)); clear hb1) | ((with_reducible refine (awake11_any _).mono ?_); rintro e w2 ⟨rfl, hb2⟩; have HB2 := Lib.hid (HB1.out.trans (hb2.mono HB1.out.size)); clear hb2))
  go_ret
  exact ⟨rfl, HB2.out⟩
set_option maxHeartbeats 8000000 in
theorem least_no (r : FnR) (W : World) (h : FnK W r) (hf : few11 r.f = true) (hr : rightF r.f = false) : Calls Try.prog 11 #[fnV r] W (RPost (.bool true) W) := by
  have HS0 := Lib.hid (LwSt.first W r h)
  have HF := Lib.hid hf; have HR := Lib.hid hr
  obtain ⟨x0, x1, x2, x3, x4⟩ := nv5 HS0.out.fb
  clear h hf hr
  go_enter Try.func11, Try.ntmps11
  go_wp2_with (first | ((with_reducible refine (few11_c r _ HS0.out.k true HF.out).mono ?_); rintro e w1 ⟨rfl, hb1⟩; have HS1 := Lib.hid (HS0.out.below hb1); clear hb1 x0 x1 x2 x3 x4; obtain ⟨x0, x1, x2, x3, x4⟩ := nv5 HS1.out.fb) | ((with_reducible refine (ref_right HS1.out.k false HR.out).mono ?_); rintro e w3 ⟨rfl, hb3⟩; have HS3 := Lib.hid (HS1.out.below hb3); clear hb3) | ((with_reducible refine (awake11_any _).mono ?_); rintro e w4 ⟨rfl, hb4⟩; have HS4 := Lib.hid (HS3.out.below hb4); clear hb4))
  go_ret
  exact ⟨rfl, HS4.out.hb⟩
set_option maxHeartbeats 40000000 in
theorem least_yes (r : FnR) (W : World) (h : FnK W r) (hf : few11 r.f = true) (hr : RightF r.f) : Calls Try.prog 11 #[fnV r] W (RPost (.bool true) W) := by
  have hmix : Try.prog.follows .mixedOrders = true := by kernel_rfl
  obtain ⟨S, hS⟩ := sol_exists hr
  have HS0 := Lib.hid (LwSt.first W r h)
  have HF := Lib.hid hf; have HR := Lib.hid hr; have HSO := Lib.hid hS
  have hsz := few11_size hf hr
  have hlS := hS.pre.len
  have hn := hr.code
  have hrg := hr.regs
  obtain ⟨R, hR⟩ : ∃ R, r.f.regs.toNat = R := ⟨_, rfl⟩
  have hRr : r.f.regs = (R : Int) := by have := hr.params; omega
  have hR4 : R ≤ 4096 := by omega
  have HSL : Hid (∀ (k : Nat) (u : List Val), S[k]? = some u → u.length = R) := Lib.hid (fun k u hu => by have := hS.pre.row u (List.mem_of_getElem? hu); omega)
  have HLS := Lib.hid hlS; have HSZ := Lib.hid hsz; have HRR := Lib.hid hR; have HRI := Lib.hid hRr
  have hn0 : (0 : Int) < (S.length : Int) := by omega
  have hSl : S.length ≤ 8192 := by omega
  have HK0 := Lib.hid h.code; have HML := Lib.hid h.len
  have hnl : r.f.code.length ≤ 8192 := hn.2
  have ht1 : ((S.length : Int) != (r.f.code.length : Int)) = false := by rw [hlS]; simp
  have hmk1 := make_slices S.length (by omega)
  have hmk2 := make_vals R (by omega)
  obtain ⟨x0, x1, x2, x3, x4⟩ := nv5 HS0.out.fb
  clear h hf hr hS hsz hlS hR hRr
  go_enter Try.func11, Try.ntmps11
  go_upto_region 6 with (first | ((with_reducible refine (few11_c r _ HS0.out.k true HF.out).mono ?_); rintro e w1 ⟨rfl, hb1⟩; have HS1 := Lib.hid (HS0.out.below hb1); clear hb1 x0 x1 x2 x3 x4; obtain ⟨x0, x1, x2, x3, x4⟩ := nv5 HS1.out.fb) | ((with_reducible refine (ref_right HS1.out.k true (rightF_iff.2 HR.out)).mono ?_); rintro e w2 ⟨rfl, hb2⟩; have HS2 := Lib.hid (HS1.out.below hb2); clear hb2 x0 x1 x2 x3 x4; obtain ⟨x0, x1, x2, x3, x4⟩ := nv5 HS2.out.fb) | ((with_reducible refine (ahead_s HS2.out.k HR.out HSZ.out HSO.out).mono ?_); rintro e w3 ⟨ta, tc, rfl, htab, hb3⟩; have HT3 := Lib.hid htab; have HS3 := Lib.hid (HS2.out.below hb3); clear hb3 htab x0 x1 x2 x3 x4; obtain ⟨x0, x1, x2, x3, x4⟩ := nv5 HS3.out.fb))
  have hl3 := HS3.out.lt
  obtain ⟨tb, toff, hta⟩ : ∃ tb toff, ta = some ⟨tb, toff, none⟩ := by
    obtain ⟨v, hv⟩ : ∃ v, S[0]? = some v := ⟨_, List.getElem?_eq_getElem (by omega)⟩
    obtain ⟨tb, toff, _, _, e, _⟩ := HT3.out.at hv
    exact ⟨tb, toff, e⟩
  subst hta
  have HRW : Hid (∀ (w : World) (k : Nat) (u : List Val), Below w3.heap.size w3 w → S[k]? = some u → ∃ p c, tb < w3.heap.size ∧ w.cell? ⟨tb, toff + k, none⟩ = some (.slice p R c) ∧ ValsAt w w3.heap.size p u) := Lib.hid (fun w k u hb hu => by
    obtain ⟨tb', toff', p, c, e, h1, h2, h3⟩ := HT3.out.at hu
    injection e with e
    injection e with e1 e2
    subst e1 e2
    rw [HSL.out k u hu] at h2
    exact ⟨p, c, h1, (hb.cell (p := ⟨tb, toff + k, none⟩) h1).trans h2, h3.below hb⟩)
  clear x0 x1 x2 x3 x4 ht1
  go_wp2
  go_loopw [43] (fun s43 wr => ∃ k : Nat, k ≤ S.length ∧ s43 = .int .i64 (k : Int) ∧ Hid (L1St w3 wr w3.heap.size R S.length k)) (fun s43 wr => S.length - (intOf s43).toNat)
  case atStart => exact ⟨0, by omega, rfl, Lib.hid (L1St.first _ _ _)⟩
  case round =>
    obtain ⟨k, hk, rfl, HL1⟩ := hrel
    have k0 : (0 : Int) ≤ (k : Int) := Int.natCast_nonneg _
    have hs1 := HL1.out.hs
    by_cases hlt : k < S.length
    · have k1 : (k : Int) < (S.length : Int) := by omega
      obtain ⟨u, hu⟩ : ∃ u, S[k]? = some u := ⟨_, List.getElem?_eq_getElem hlt⟩
      obtain ⟨pu, pcu, htb, hcu, _⟩ := HRW.out wr k u (HL1.out.hb.mono (Nat.le_refl _)) hu
      have hcl := HL1.out.cell hlt
      have hfr : wr.frozen? ⟨w3.heap.size, k, none⟩ = false := by simp [World.frozen?, HL1.out.ah]
      have HNX := Lib.hid (HL1.out.next hlt)
      have HLT := Lib.hid hlt
      have hne : ¬ w3.heap.size = wr.heap.size := by omega
      have hA2 : (wr.alloc (vObj (List.replicate R ⟨0, 0⟩))).heap[w3.heap.size]? = _ := (Below.heap_alloc _ _ _ (by omega)).trans HL1.out.ah
      have hcl2 : (wr.alloc (vObj (List.replicate R ⟨0, 0⟩))).cell? ⟨w3.heap.size, k, none⟩ = some (.slice none 0 0) := (World.cell?_alloc_lt _ _ _ (by simp; omega)).trans hcl
      have hfr2 : (wr.alloc (vObj (List.replicate R ⟨0, 0⟩))).frozen? ⟨w3.heap.size, k, none⟩ = false := by simp [World.frozen?, hA2]
      have htw : tb < wr.heap.size := by omega
      clear hA2
      clear hlt hu
      rw [hs1] at HNX
      go_wp2
      go_roundw
      case rel => exact ⟨k + 1, HLT.out, by go_num, HNX⟩
      case measure => have := HLT.out; simp [intOf]; omega
    · obtain rfl : k = S.length := by omega
      have HLE : Hid (LeSt W w3 wr r w3.heap.size (zerosV r.f)) := Lib.hid (LeSt.make (by rw [HRR.out, ← HLS.out]; exact HL1.out) HS3.out (RowAt.below HK0.out HS3.out.hb))
      have HZL : Hid ((zerosV r.f).length = S.length) := Lib.hid (by rw [zerosV_len, HLS.out])
      have HZ0 : Hid ((zerosV r.f)[0]? = some (List.replicate R ⟨0, 0⟩)) := Lib.hid (by unfold zerosV; rw [List.getElem?_replicate, if_pos (by have := HLS.out; omega), HRR.out])
      have HFL : Hid ((firstL r.f).length = (List.replicate R (⟨0, 0⟩ : Val)).length) := Lib.hid (by rw [firstL_len, HRR.out, List.length_replicate])
      obtain ⟨wA, hwA⟩ : ∃ x, x = wr := ⟨_, rfl⟩
      subst hwA
      obtain ⟨A, hA⟩ : ∃ x, x = w3.heap.size := ⟨_, rfl⟩
      have HAA := Lib.hid hA
      rw [← hA] at HLE ⊢
      have hc0 : wA.cell? ⟨A, 0, none⟩ = some (.slice (some ⟨A + 1, 0, none⟩) R R) := by simpa using (HLE.out.cell HRR.out (j := 0) (by have := HZL.out; omega)).1
      clear hk hlt hs1 HL1 k0 hA
      go_wp2
      clear hc0
      go_loopw [60] (fun s60 wr => ∃ k : Nat, k ≤ R ∧ s60 = .int .i64 (k : Int) ∧ Hid (LeSt W w3 wr r A ((zerosV r.f).set 0 (mixL (List.replicate R ⟨0, 0⟩) (firstL r.f) k)))) (fun s60 wr => R - (intOf s60).toNat)
      case atStart => exact ⟨0, by omega, rfl, Lib.hid (by rw [mixL_zero, set_self HZ0.out]; exact HLE.out)⟩
      case round =>
        obtain ⟨k, hk, rfl, HL2⟩ := hrel
        have k0 : (0 : Int) ≤ (k : Int) := Int.natCast_nonneg _
        have hz0 : 0 < (zerosV r.f).length := by have := HZL.out; omega
        by_cases hlt : k < R
        · have k1 : (k : Int) < (R : Int) := by omega
          obtain ⟨l, hl⟩ : ∃ l, mixL (List.replicate R ⟨0, 0⟩) (firstL r.f) k = l := ⟨_, rfl⟩
          rw [hl] at HL2
          have hat0 : l[k]? = some ⟨0, 0⟩ := by rw [← hl]; exact mixL_at HFL.out (by rw [List.getElem?_replicate, if_pos hlt])
          have hnx : l.set k (firstV r.f k) = mixL (List.replicate R ⟨0, 0⟩) (firstL r.f) (k + 1) := by
            have := mixL_set HFL.out (a := ⟨0, 0⟩) (k := k) (by rw [List.getElem?_replicate, if_pos hlt]) (firstL_at (g := r.f) (r := k) (by have := HRI.out; omega))
            rw [← this, hl]
            simp [joinV]
          have hl0 : ((zerosV r.f).set 0 l)[0]? = some l := by rw [List.getElem?_set_self hz0]
          have hkl := (List.getElem?_eq_some_iff.1 hat0).1
          have hcl : wr.cell? ⟨A, 0, none⟩ = some (.slice (some ⟨A + 1, 0, none⟩) R R) := by simpa using (HL2.out.cell HRR.out (j := 0) (by simpa using hz0)).1
          obtain ⟨c0, c1, hcs, hcf⟩ := HL2.out.row hl0 hat0
          rw [Nat.add_zero] at c0 c1 hcs
          have hcf' : ∀ j, wr.frozen? ⟨A + 1, j, none⟩ = false := fun j => by simpa using hcf j
          have HNX := Lib.hid hnx; have HLT := Lib.hid hlt; have HL0 := Lib.hid hl0
          have hAl := (HL2.out.cell HRR.out (j := 0) (by simpa using hz0)).2
          have HP1 : Hid (LeSt W w3 ((wr.setCell ⟨A + 1, k * 2, none⟩ (.int .i64 1)).setCell ⟨A + 1, k * 2 + 1, none⟩ (.int .i64 0)) r A ((zerosV r.f).set 0 (l.set k ⟨1, 0⟩))) := Lib.hid (by
            have := HL2.out.put hl0 hkl ⟨1, 0⟩
            rw [set_set_row] at this
            exact this)
          have HK1 : Hid ((l.set k (⟨1, 0⟩ : Val))[k]? = some ⟨1, 0⟩) := Lib.hid (List.getElem?_set_self hkl)
          clear hcf hl hat0 hnx hlt hl0
          go_upto_region 16 with fail
          generalize (wr.setCell ⟨A + 1, k * 2, none⟩ (.int .i64 1)).setCell ⟨A + 1, k * 2 + 1, none⟩ (.int .i64 0) = w5 at *
          clear c0 c1 hcs hcf' hcl HL2 hAl
          obtain ⟨x0, x1, x2, x3, x4⟩ := nv5 HP1.out.ah.fb
          by_cases hp : (k : Int) < r.f.params
          · have hl0 : ((zerosV r.f).set 0 (l.set k ⟨1, 0⟩))[0]? = some (l.set k ⟨1, 0⟩) := by rw [List.getElem?_set_self hz0]
            have hcl : w5.cell? ⟨A, 0, none⟩ = some (.slice (some ⟨A + 1, 0, none⟩) R R) := by simpa using (HP1.out.cell HRR.out (j := 0) (by simpa using hz0)).1
            obtain ⟨c0, c1, hcs, hcf⟩ := HP1.out.row hl0 HK1.out
            rw [Nat.add_zero] at c0 c1 hcs
            have hcf' : ∀ j, w5.frozen? ⟨A + 1, j, none⟩ = false := fun j => by simpa using hcf j
            have HP2 : Hid (LeSt W w3 (w5.setCell ⟨A + 1, k * 2, none⟩ (.int .i64 2)) r A ((zerosV r.f).set 0 (mixL (List.replicate R ⟨0, 0⟩) (firstL r.f) (k + 1)))) := Lib.hid (by
              have := HP1.out.putK hl0 HK1.out 2
              rw [set_set_row, List.set_set] at this
              rw [← HNX.out]
              have e : firstV r.f k = ⟨2, 0⟩ := by unfold firstV; rw [if_pos hp]
              rw [e]
              exact this)
            clear hcf hl0
            go_wp2
            go_roundw
            case rel => exact ⟨k + 1, HLT.out, by go_num, HP2⟩
            case measure => have := HLT.out; simp [intOf]; omega
          · have HP2 : Hid (LeSt W w3 w5 r A ((zerosV r.f).set 0 (mixL (List.replicate R ⟨0, 0⟩) (firstL r.f) (k + 1)))) := Lib.hid (by
              rw [← HNX.out]
              have e : firstV r.f k = ⟨1, 0⟩ := by unfold firstV; rw [if_neg hp]
              rw [e]
              exact HP1.out)
            go_wp2
            go_roundw
            case rel => exact ⟨k + 1, HLT.out, by go_num, HP2⟩
            case measure => have := HLT.out; simp [intOf]; omega
        · obtain rfl : R = k := by omega
          have HLF : Hid (LeSt W w3 wr r A ((zerosV r.f).set 0 (firstL r.f))) := Lib.hid (by
            have h9 := mixL_all HFL.out
            rw [List.length_replicate] at h9
            have h10 := join_zeros r.f
            rw [HRR.out] at h10
            have := HL2.out
            rw [h9, h10] at this
            exact this)
          have HC0 := Lib.hid (ComeSt.begin HR.out HSO.out)
          obtain ⟨i0, hi0⟩ : ∃ i, r.f.code[0]? = some i := ⟨_, List.getElem?_eq_getElem (by have := HR.out.code; omega)⟩
          have HLW := Lib.hid (HLF.out.lw HML.out)
          obtain ⟨cb, coff, hca⟩ := row_at HLW.out.k.code hi0
          have HCA : Hid (r.ca = some ⟨cb, coff, none⟩) := Lib.hid hca
          obtain ⟨x0, x1, x2, x3, x4⟩ := nv5 HLW.out.fb
          rw [hca] at x4
          clear hi0 hca HL2 hk hlt k0
          go_wp2
          clear x0 x1 x2 x3 x4
          generalize (zerosV r.f).set 0 (firstL r.f) = C0 at *
          clear HLE HZ0 HFL HZL HLW
          go_loopw [83] (fun s83 wr => ∃ (m : Nat) (C : List (List Val)), m ≤ S.length ∧ s83 = .int .i64 (m : Int) ∧ Hid (LeSt W w3 wr r A C) ∧ Hid (ComeSt r.f S C m)) (fun s83 wr => S.length - (intOf s83).toNat)
          case atStart => exact ⟨0, C0, by omega, rfl, HLF, HC0⟩
          case round =>
            obtain ⟨m, C, hm, rfl, HLM, HCM⟩ := hrel
            have m0 : (0 : Int) ≤ (m : Int) := Int.natCast_nonneg _
            have HCL : Hid (C.length = S.length) := Lib.hid (by rw [HCM.out.len, HLS.out])
            obtain ⟨x0, x1, x2, x3, x4⟩ := nv5 HLM.out.ah.fb
            by_cases hlt : m < S.length
            · have m2 : (m : Int) < (S.length : Int) := by omega
              have m1 : (m : Int) < (r.f.code.length : Int) := by have := HLS.out; omega
              obtain ⟨i, hi⟩ : ∃ i, r.f.code[m]? = some i := ⟨_, List.getElem?_eq_getElem (by have := HLS.out; omega)⟩
              obtain ⟨u, hu⟩ : ∃ u, S[m]? = some u := ⟨_, List.getElem?_eq_getElem hlt⟩
              have HII := Lib.hid (HR.out.all i (List.mem_of_getElem? hi))
              have HLU := Lib.hid (HSO.out.pre.row u (List.mem_of_getElem? hu))
              have HOU := Lib.hid (HSO.out.ok u (List.mem_of_getElem? hu))
              have HUR := Lib.hid (HSL.out m u hu)
              have HKB : Hid (Below w3.heap.size w3 wr) := Lib.hid (by rw [← HAA.out]; exact HLM.out.kb)
              have hA3 := HAA.out
              obtain ⟨pu, pcu, htb, hcu, hpu⟩ := HRW.out wr m u HKB.out hu
              have HLW := Lib.hid (HLM.out.lw HML.out)
              obtain ⟨p0, p1, p2, p3, p4, p5, p6, p7, p8, p9, p10, p11, p12, p13, p14⟩ := code_cells HLW.out.k.code hi HCA.out
              have HIK := Lib.hid hi; have HUK := Lib.hid hu; have HM := Lib.hid hlt
              have t9 : ((R : Int) != r.f.regs) = false := by rw [HRI.out]; simp
              have hwl := HLW.out.lt
              have hbig := HLM.out.ah.big
              have htbw : tb < wr.heap.size := by have := HLM.out.ah.big; omega
              obtain ⟨wB, hwB⟩ : ∃ x, x = wr := ⟨_, rfl⟩
              subst hwB
              go_upto_region 22 with fail
              have hba : Below wB.heap.size wB (wB.alloc (inO i)) := (Below.refl _ _).alloc (Nat.le_refl _) _
              have HX5 : Hid ((wB.alloc (inO i)).heap[wB.heap.size]? = some (inO i)) := Lib.hid (heap_alloc_new _ _)
              have HL5 := Lib.hid (HLM.out.below hba)
              have hcu5 : (wB.alloc (inO i)).cell? ⟨tb, toff + m, none⟩ = some (.slice pu R pcu) := (hba.cell (p := ⟨tb, toff + m, none⟩) htbw).trans hcu
              have HPU5 : Hid (ValsAt (wB.alloc (inO i)) (wB.alloc (inO i)).heap.size pu u) := Lib.hid (ValsAt.mono (ValsAt.below (ValsAt.mono hpu (by omega) (Nat.le_refl _)) hba) hba.size (Nat.le_refl _))
              have htb5 : tb < (wB.alloc (inO i)).heap.size := Nat.lt_of_lt_of_le htbw hba.size
              have HZ5 : Hid ((wB.alloc (inO i)).heap.size = wB.heap.size + 1 ∧ A + 1 + C.length ≤ wB.heap.size) := Lib.hid ⟨by simp, hbig⟩
              clear hba hcu hpu htb hi hu p0 p1 p2 p3 p4 p5 p6 p7 p8 p9 p10 p11 p12 p13 p14 x0 x1 x2 x3 x4 hwl hlt hbig htbw hA3 HLW HKB
              generalize wB.alloc (inO i) = w5 at *
              generalize wB.heap.size = X at *
              go_upto_region 23 with (at_builtin; go_loud (refine wpList_append_rowN rfl (.tmp 88) (.tmp 92) rfl w5.heap.size (heap_alloc_new _ _) rfl pu u R HUR.out pcu rfl (ValsAt.mono (HPU5.out.below ((Below.refl _ _).alloc (Nat.le_refl _) _)) (by simp) (Nat.le_refl _)) (by omega) ?_; intro g' c' w6 hge hb6 hrow; have HH6 : Hid (LnSt W w3 w6 r A X g' C i u) := Lib.hid (by have hb56 := ((Below.refl w5.heap.size w5).alloc (Nat.le_refl _) (.cells #[] 58)).trans hb6; have hz := HZ5.out; exact ⟨HL5.out.below hb56, (hb56.block _ (lt_heap HX5.out)).trans HX5.out, hrow, hz.2, by omega⟩); clear hge hb6 hrow))
              obtain ⟨x0, x1, x2, x3, x4⟩ := nv5 HH6.out.le.ah.fb
              clear HX5 HPU5 HZ5 hcu5 htb5 HL5
              go_wp2
              clear x0 x1 x2 x3 x4 t9
              go_loopw [10, 101] (fun s10 s101 wr => ∃ j : Nat, j ≤ R ∧ s101 = .int .i64 (j : Int) ∧ s10 = .bool ((u.take j).any (fun a => a.kind == 0)) ∧ Hid (Below w6.heap.size w6 wr)) (fun s10 s101 wr => R - (intOf s101).toNat)
              case atStart => exact ⟨0, by omega, rfl, rfl, Lib.hid (Below.refl _ _)⟩
              case round =>
                obtain ⟨j, hj, rfl, rfl, HB7⟩ := hrel
                have j0 : (0 : Int) ≤ (j : Int) := Int.natCast_nonneg _
                by_cases hjl : j < R
                · have j1 : (j : Int) < (R : Int) := by omega
                  obtain ⟨x, hx⟩ : ∃ x, u[j]? = some x := ⟨_, List.getElem?_eq_getElem (by have := HUR.out; omega)⟩
                  obtain ⟨c0, c1⟩ := (HH6.out.rw.below HB7.out).cells hx
                  have hgl := (HH6.out.rw.below HB7.out).lt
                  have HTK := Lib.hid (take_any hx); have HJ := Lib.hid hjl
                  clear hx hjl
                  generalize (u.take j).any (fun a => a.kind == 0) = q at *
                  obtain ⟨xk, xn⟩ := x
                  cases q with
                  | true =>
                    go_wp2
                    go_roundw
                    case rel => exact ⟨j + 1, HJ.out, by go_num, by rw [HTK.out]; rfl, Lib.hid (HB7.out.alloc HB7.out.size _)⟩
                    case measure => have := HJ.out; simp [intOf]; omega
                  | false =>
                    go_wp2
                    go_roundw
                    case rel => exact ⟨j + 1, HJ.out, by go_num, by rw [HTK.out]; simp, Lib.hid (HB7.out.alloc HB7.out.size _)⟩
                    case measure => have := HJ.out; simp [intOf]; omega
                · obtain rfl : R = j := by omega
                  have htl : u.take R = u := by have := HUR.out; exact List.take_of_length_le (by omega)
                  rw [htl]
                  clear hj hjl htl
                  have HH7 := Lib.hid (HH6.out.below HB7.out)
                  obtain ⟨fu, hfu⟩ : ∃ fu, u.any (fun a => a.kind == 0) = fu := ⟨_, rfl⟩
                  rw [hfu]
                  cases fu with
                  | true =>
                    have HNF : Hid (¬ fullV u) := Lib.hid (fun h => by
                      obtain ⟨a, ha, hk⟩ := List.any_eq_true.1 hfu
                      exact h a ha (by simpa using hk))
                    go_wp2
                    go_roundw
                    case rel => exact ⟨m + 1, C, HM.out, by go_num, Lib.hid HH7.out.le, Lib.hid (HCM.out.next (fun i' v x e1 e2 e3 e4 => by rw [HUK.out] at e2; injection e2 with e2; subst e2; exact absurd e3 HNF.out))⟩
                    case measure => have := HM.out; simp [intOf]; omega
                  | false =>
                    have HFU := Lib.hid (any_fullH hfu)
                    have HLB := Lib.hid (fun V (hV : ValsAt V V.heap.size (some ⟨g', 0, none⟩) u) => (by have := lbeh_any i u (some ⟨g', 0, none⟩) c' V hV (regIn_of HII.out HLU.out); rw [HUR.out] at this; exact this : Calls Try.prog 50 #[inV i, .slice (some ⟨g', 0, none⟩) R c'] V (LbPost (behV i u) V)))
                    clear hfu
                    obtain ⟨q0, q1, q2, q3, q4, q5, q6, q7, q8, q9, q10, q11, q12, q13, q14⟩ := nv15 HH7.out.bx
                    go_upto_region 31 with ((with_reducible refine (HLB.out _ (HH7.out.rw.vals HH7.out.rw.lt (Nat.le_refl _))).mono ?_); rintro e w9 ⟨x, on, rfl, hxo, hb9⟩; have HH9 := Lib.hid (HH7.out.below hb9); have HXO := Lib.hid hxo; clear hb9 hxo q0 q1 q2 q3 q4 q5 q6 q7 q8 q9 q10 q11 q12 q13 q14)
                    have hbb : Below w9.heap.size w9 (w9.alloc (vlO x)) := (Below.refl _ _).alloc (Nat.le_refl _) _
                    have HHS := Lib.hid (HH9.out.below hbb)
                    have HYS : Hid ((w9.alloc (vlO x)).heap[w9.heap.size]? = some (vlO x)) := Lib.hid (heap_alloc_new _ _)
                    clear hbb HH7 HH6 HB7 HH9
                    generalize w9.alloc (vlO x) = wS at *
                    generalize w9.heap.size = Y at *
                    cases on with
                    | false =>
                      have hbx : behV i u = none := by
                        rcases HXO.out with h | h
                        · exact absurd h.1 (by simp)
                        · exact h.2
                      have HBX := Lib.hid hbx
                      go_wp2
                      go_roundw
                      case rel => exact ⟨m + 1, C, HM.out, by go_num, Lib.hid HHS.out.le, Lib.hid (HCM.out.next (fun i' v x e1 e2 e3 e4 => by rw [HUK.out] at e2; injection e2 with e2; rw [HIK.out] at e1; injection e1 with e1; subst e1 e2; rw [HBX.out] at e4; cases e4))⟩
                      case measure => have := HM.out; simp [intOf]; omega
                    | true =>
                      have hbx : behV i u = some x := by
                        rcases HXO.out with h | h
                        · exact h.2
                        · exact absurd h.1 (by simp)
                      have HBX := Lib.hid hbx
                      clear hbx HXO HLB
                      obtain ⟨q0, q1, q2, q3, q4, q5, q6, q7, q8, q9, q10, q11, q12, q13, q14⟩ := nv15 HHS.out.bx
                      obtain ⟨si, hsi⟩ : ∃ si, Cd.sets i = si := ⟨_, rfl⟩
                      have HSI := Lib.hid hsi
                      have HSE : Hid (∀ w, Calls Try.prog 43 #[inV i] w (RPost (.int .i64 si) w)) := Lib.hid (fun w => hsi ▸ sets_any i w)
                      clear hsi
                      go_upto_if 124 with ((with_reducible refine (HSE.out _).mono ?_); rintro e w10 ⟨rfl, hb10⟩; have HH10 := Lib.hid (HHS.out.below hb10); have HY10 := Lib.hid ((hb10.block _ (lt_heap HYS.out)).trans HYS.out); clear hb10 q0 q1 q2 q3 q4 q5 q6 q7 q8 q9 q10 q11 q12 q13 q14)
                      go_cut [] from 125 to 128 (fun wc => Hid (LnSt W w3 wc r A X g' C i (setV i u x)))
                      case first =>
                        by_cases hs : 0 ≤ si
                        · obtain ⟨s, rfl⟩ : ∃ s : Nat, si = (s : Int) := ⟨si.toNat, by omega⟩
                          have hsl : (s : Int) < (R : Int) := by have := sets_lt HII.out (by have := HLU.out; omega); have := HLU.out; have := HSI.out; have := HUR.out; omega
                          have s0 : (0 : Int) ≤ (s : Int) := Int.natCast_nonneg _
                          have HE : Hid (setV i u x = u.set s x) := Lib.hid (by unfold setV; rw [HSI.out, if_pos hs]; simp)
                          have hsu : s < u.length := by have := HUR.out; omega
                          obtain ⟨y, hy⟩ : ∃ y, u[s]? = some y := ⟨_, List.getElem?_eq_getElem hsu⟩
                          clear hs
                          obtain ⟨z0, z1⟩ := nv2 HY10.out
                          obtain ⟨c0, c1⟩ := HH10.out.rw.cells hy
                          have hfr : ∀ j, w10.frozen? ⟨g', j, none⟩ = false := fun j => HH10.out.rw.frozen j
                          have hgl := HH10.out.rw.lt
                          go_wp2
                          go_meet
                          case rel => exact Lib.hid (by rw [HE.out]; exact HH10.out.set (k := s) hsu x)
                        · have HE : Hid (setV i u x = u) := Lib.hid (by unfold setV; rw [HSI.out, if_neg hs])
                          go_wp2
                          go_meet
                          case rel => exact Lib.hid (by rw [HE.out]; exact HH10.out)
                      case rest =>
                        have HHC := Lib.hid hcut.out
                        have HVL : Hid ((setV i u x).length = R) := Lib.hid (by rw [setV_len, HUR.out])
                        have HOV : Hid (∀ a ∈ setV i u x, OkV a) := Lib.hid (set_ok HOU.out (beh_ok HII.out HLU.out HOU.out HBX.out))
                        have HNE : Hid (∀ q ∈ next i (m : Int), 0 ≤ q ∧ q < (r.f.code.length : Int)) := Lib.hid (fun q hq => closed_of HR.out (m : Int) ⟨m0, m1⟩ q (by rw [nexts_at (by rw [Int.toNat_natCast]; exact HIK.out)]; exact hq))
                        have HRGI : Hid (i.kind = 12 → 0 ≤ i.a ∧ i.a < (R : Int)) := Lib.hid (fun h => by have h8 := (regIn_of HII.out HLU.out).1 i.a (by unfold uses; simp [h]; exact .inl (by decide)); have := HUR.out; omega)
                        have HSG : Hid (∀ (j : Nat) (q : Int), (next i (m : Int))[j]? = some q → skipB i (setV i u x) j = false → q ∈ goesV i u (m : Int)) := Lib.hid (fun j q h1 h2 => by have := skip_goes h1 h2; rw [goesV_set] at this; exact this)
                        have HGS : Hid (∀ q ∈ goesV i u (m : Int), ∃ j : Nat, (next i (m : Int))[j]? = some q ∧ skipB i (setV i u x) j = false) := Lib.hid (fun q hq => goes_skip (by rw [goesV_set]; exact hq))
                        have hns : (next i (m : Int)).length ≤ 2 := by unfold next; split <;> (try split) <;> (try split) <;> simp
                        have HNX := Lib.hid (fun w => next_any i (m : Int) ⟨m0, by omega⟩ w)
                        have HJO : Hid (∀ (C' : List (List Val)) (p : Nat) (c : List Val), ComeSt r.f S C' m → (p : Int) ∈ goesV i u (m : Int) → C'[p]? = some c → ComeSt r.f S (C'.set p (joinL c (setV i u x))) m ∧ (∀ (q : Nat) (c' : List Val), (C'.set p (joinL c (setV i u x)))[q]? = some c' → ∀ u', (∀ c0, C'[q]? = some c0 → withinL u' c0) → withinL u' c') ∧ ∀ c', (C'.set p (joinL c (setV i u x)))[p]? = some c' → withinL (setV i u x) c') := Lib.hid (fun C' p c h1 h2 h3 => h1.join HR.out HSO.out HIK.out HUK.out HFU.out HBX.out h2 h3)
                        have HND : Hid (∀ C', ComeSt r.f S C' m → (∀ p ∈ goesV i u (m : Int), ∀ c, C'[p.toNat]? = some c → withinL (setV i u x) c) → ComeSt r.f S C' (m + 1)) := Lib.hid (fun C' h1 h2 => h1.next (fun i' v x' e1 e2 e3 e4 => by rw [HUK.out] at e2; injection e2 with e2; rw [HIK.out] at e1; injection e1 with e1; subst e1 e2; rw [HBX.out] at e4; injection e4 with e4; subst e4; exact h2))
                        clear hcut HHS HYS HOU HBX HFU HUK HIK HUR HLU HSI HSE
                        generalize setV i u x = uv at *
                        generalize next i (m : Int) = ns at *
                        obtain ⟨q0, q1, q2, q3, q4, q5, q6, q7, q8, q9, q10, q11, q12, q13, q14⟩ := nv15 HHC.out.bx
                        go_wp2_with ((with_reducible refine (HNX.out _).mono ?_); rintro e w11 ⟨v11, rfl, ho11, hb11⟩; obtain ⟨na, nc, rfl⟩ := row_slice ho11; have HO11 := Lib.hid (LiesIn.of_own ho11); have HH11 := Lib.hid (HHC.out.below hb11); have HZC : Hid (A + 1 + C.length ≤ wc.heap.size) := Lib.hid (by have := HHC.out.hX; have := lt_heap HHC.out.bx; omega); clear ho11 hb11 q0 q1 q2 q3 q4 q5 q6 q7 q8 q9 q10 q11 q12 q13 q14)
                        go_loopw [133] (fun s133 wr => ∃ (j : Nat) (C' : List (List Val)), j ≤ ns.length ∧ s133 = .int .i64 (j : Int) ∧ C'.length = C.length ∧ Hid (LeSt W w3 wr r A C') ∧ Hid (KeepHi (A + 1 + C.length) w11 wr) ∧ Hid (ComeSt r.f S C' m) ∧ Hid (∀ (j' : Nat) (q : Int), j' < j → ns[j']? = some q → skipB i uv j' = false → ∀ c, C'[q.toNat]? = some c → withinL uv c)) (fun s133 wr => ns.length - (intOf s133).toNat)
                        case atStart => exact ⟨0, C, by omega, rfl, rfl, Lib.hid HH11.out.le, Lib.hid (KeepHi.refl _ _), HCM, Lib.hid (fun j' q h => absurd h (by omega))⟩
                        case round =>
                          obtain ⟨j, C', hj, rfl, hcl, HL12, HK12, HC12, HW12⟩ := hrel
                          have HH12 := Lib.hid (HH11.out.move HL12.out HK12.out HH11.out.hX hcl)
                          have j0 : (0 : Int) ≤ (j : Int) := Int.natCast_nonneg _
                          by_cases hjl : j < ns.length
                          · have j1 : (j : Int) < (ns.length : Int) := by omega
                            obtain ⟨q, hq⟩ : ∃ q, ns[j]? = some q := ⟨_, List.getElem?_eq_getElem hjl⟩
                            obtain ⟨p, rfl⟩ : ∃ p : Nat, q = (p : Int) := ⟨q.toNat, by have := (HNE.out q (List.mem_of_getElem? hq)).1; omega⟩
                            have hpn := (HNE.out _ (List.mem_of_getElem? hq)).2
                            obtain ⟨nb, noff, rfl, hnb1, hnb, hna⟩ := HO11.out (by rw [List.length_map]; omega)
                            have hnc : wr.cell? ⟨nb, noff + j, none⟩ = some (.int .i64 (p : Int)) := (World.cell?_of_block (w := w11) (HK12.out.2 nb (by have := HZC.out; omega) hnb)).trans (hna j _ (by rw [List.getElem?_map, hq]; rfl))
                            have hnl : nb < wr.heap.size := by have := HK12.out.1; omega
                            obtain ⟨q0, q1, q2, q3, q4, q5, q6, q7, q8, q9, q10, q11, q12, q13, q14⟩ := nv15 HH12.out.bx
                            have HJ := Lib.hid hjl; have HQ := Lib.hid hq
                            have p0 : (0 : Int) ≤ (p : Int) := Int.natCast_nonneg _
                            have p1 : (p : Int) < (S.length : Int) := by have := HLS.out; omega
                            clear hjl hna hq
                            obtain ⟨wD, hwD⟩ : ∃ x, x = wr := ⟨_, rfl⟩
                            subst hwD
                            go_upto_region 38 with fail
                            go_cut [161] from 138 to 161 (fun s161 wx => s161 = .bool (skipB i uv j) ∧ wx = wD)
                            case first =>
                              by_cases hk : i.kind = 12
                              · rw [hk] at q0
                                obtain ⟨a0, a1⟩ := HRGI.out hk
                                obtain ⟨a, ha⟩ : ∃ a : Nat, i.a = (a : Int) := ⟨i.a.toNat, by omega⟩
                                rw [ha] at q3
                                have b0 : (0 : Int) ≤ (a : Int) := Int.natCast_nonneg _
                                have b1 : (a : Int) < (R : Int) := by omega
                                obtain ⟨y, hy⟩ : ∃ y, uv[a]? = some y := ⟨_, List.getElem?_eq_getElem (by have := HVL.out; omega)⟩
                                obtain ⟨c0, c1⟩ := HH12.out.rw.cells hy
                                have hgd : uv.getD i.a.toNat ⟨0, 0⟩ = y := by rw [ha]; simp [List.getD_eq_getElem?_getD, hy]
                                have HSK : Hid (skipB i uv j = (decide (y.kind = 1) && ((y.n != 0) != decide (j = 0)))) := Lib.hid (by unfold skipB; rw [hgd, decide_eq_true hk]; simp)
                                have hgl := HH12.out.rw.lt
                                clear hgd hy a0 a1 ha hk
                                obtain ⟨yk, yn⟩ := y
                                by_cases hyk : yk = 1
                                · subst hyk
                                  go_wp2
                                  go_meet
                                  case rel => exact ⟨by rw [HSK.out]; have e : ((j : Int) == 0) = decide (j = 0) := (by by_cases h : j = 0 <;> simp [h]); simp [e]; generalize (yn != 0) = q1; generalize decide (j = 0) = q2; cases q1 <;> cases q2 <;> rfl, rfl⟩
                                · have tk : ((yk : Int) == 1) = false := by simpa using hyk
                                  go_wp2
                                  go_meet
                                  case rel => exact ⟨by rw [HSK.out]; simp [hyk], rfl⟩
                              · have tk : ((i.kind : Int) == 12) = false := by simpa using hk
                                go_wp2
                                go_meet
                                case rel => exact ⟨by unfold skipB; simp [hk], rfl⟩
                            case rest =>
                              obtain ⟨rfl, hw⟩ := hcut
                              subst hw
                              obtain ⟨wD, hwD⟩ : ∃ x, x = wc := ⟨_, rfl⟩
                              subst hwD
                              clear q0 q1 q2 q3 q4 q5 q6 q7 q8 q9 q10 q11 q12 q13 q14 hnc hnl
                              cases hsk : skipB i uv j with
                              | true =>
                                have HW13 : Hid (∀ (j' : Nat) (q : Int), j' < j + 1 → ns[j']? = some q → skipB i uv j' = false → ∀ c, C'[q.toNat]? = some c → withinL uv c) := Lib.hid (fun j' q h1 h2 h3 => by
                                  rcases (by omega : j' < j ∨ j' = j) with h | rfl
                                  · exact HW12.out j' q h h2 h3
                                  · rw [hsk] at h3; cases h3)
                                go_wp2
                                go_roundw
                                case rel => exact ⟨j + 1, C', HJ.out, by go_num, hcl, HL12, HK12, HC12, HW13⟩
                                case measure => have := HJ.out; simp [intOf]; omega
                              | false =>
                                obtain ⟨c, hc⟩ : ∃ c, C'[p]? = some c := ⟨_, List.getElem?_eq_getElem (by have := HCL.out; omega)⟩
                                have hclen : c.length = R := by have := HC12.out.at hc; have := HRI.out; omega
                                have HCR := Lib.hid hclen
                                have HCC := Lib.hid hc
                                have HCO := Lib.hid (HC12.out.ok c (List.mem_of_getElem? hc))
                                have HVC : Hid (uv.length = c.length) := Lib.hid (by rw [HVL.out, hclen])
                                have HJN := Lib.hid (HJO.out C' p c HC12.out (HSG.out j _ HQ.out hsk) hc)
                                have HPC : Hid (p < C'.length) := Lib.hid (List.getElem?_eq_some_iff.1 hc).1
                                have hcellp : wD.cell? ⟨A, p, none⟩ = some (.slice (some ⟨A + 1 + p, 0, none⟩) R R) := (HL12.out.cell HRR.out HPC.out).1
                                have HSKP := Lib.hid hsk
                                clear hclen hc hsk
                                go_wp2
                                clear hcellp
                                go_loopw [170] (fun s170 wr => ∃ z : Nat, z ≤ R ∧ s170 = .int .i64 (z : Int) ∧ Hid (LeSt W w3 wr r A (C'.set p (mixL c uv z))) ∧ Hid (KeepHi (A + 1 + C.length) wD wr)) (fun s170 wr => R - (intOf s170).toNat)
                                case atStart => exact ⟨0, by omega, rfl, Lib.hid (by rw [mixL_zero, set_self HCC.out]; exact HL12.out), Lib.hid (KeepHi.refl _ _)⟩
                                case round =>
                                  obtain ⟨z, hz, rfl, HL13, HK13⟩ := hrel
                                  have z0 : (0 : Int) ≤ (z : Int) := Int.natCast_nonneg _
                                  by_cases hzl : z < R
                                  · have z1 : (z : Int) < (R : Int) := by omega
                                    obtain ⟨a, ha⟩ : ∃ a, c[z]? = some a := ⟨_, List.getElem?_eq_getElem (by have := HCR.out; omega)⟩
                                    obtain ⟨b, hb⟩ : ∃ b, uv[z]? = some b := ⟨_, List.getElem?_eq_getElem (by have := HVL.out; omega)⟩
                                    have HJC : Hid (∀ w, Calls Try.prog 46 #[vlV a, vlV b] w (RPost (vlV (joinV a b)) w)) := Lib.hid (fun w => by
                                      have := join_c a b w
                                      rwa [joinP_ok (HCO.out a (List.mem_of_getElem? ha)) (HOV.out b (List.mem_of_getElem? hb))] at this)
                                    obtain ⟨l, hl⟩ : ∃ l, mixL c uv z = l := ⟨_, rfl⟩
                                    have HLN : Hid (l.set z (joinV a b) = mixL c uv (z + 1)) := Lib.hid (by rw [← hl]; exact mixL_set HVC.out ha hb)
                                    have hla : l[z]? = some a := by rw [← hl]; exact mixL_at HVC.out ha
                                    rw [hl] at HL13
                                    have hpl : (C'.set p l)[p]? = some l := List.getElem?_set_self HPC.out
                                    have HLA := Lib.hid hla; have HPL := Lib.hid hpl
                                    have HPC2 : Hid (p < (C'.set p l).length) := Lib.hid (by rw [List.length_set]; exact HPC.out)
                                    obtain ⟨xj, hxj⟩ : ∃ xj, joinV a b = xj := ⟨_, rfl⟩
                                    rw [hxj] at HJC HLN
                                    have HBV := Lib.hid hb
                                    have HZ := Lib.hid hzl
                                    obtain ⟨wE, hwE⟩ : ∃ x, x = wr := ⟨_, rfl⟩
                                    subst hwE
                                    have HRV : Hid (∀ w, KeepHi (A + 1 + C.length) wE w → RowV w g' uv) := Lib.hid (fun w hw => HH12.out.rw.keep ((HK13.out.trans hw).2 _ (by have := HH12.out.hX; have := HH12.out.hg; omega) HH12.out.rw.lt))
                                    clear ha hb hl hla hpl hxj hzl
                                    obtain ⟨ak, an⟩ := a
                                    obtain ⟨bk, bn⟩ := b
                                    obtain ⟨xk, xn⟩ := xj
                                    go_upto_region 42 with fail
                                    have HLD := Lib.hid HL13.out.drew
                                    have HKD : Hid (KeepHi (A + 1 + C.length) wE wE.drew) := Lib.hid ⟨Nat.le_refl _, fun _ _ _ => rfl⟩
                                    have HSS : Hid (∀ w, LeSt W w3 w r A (C'.set p l) → KeepHi (A + 1 + C.length) wE w → (fun w' : World => w'.cell? ⟨A, p, none⟩ = some (.slice (some ⟨A + 1 + p, 0, none⟩) R R) ∧ A < w'.heap.size ∧ w'.cell? ⟨A + 1 + p, z * 2, none⟩ = some (.int .i64 ak) ∧ w'.cell? ⟨A + 1 + p, z * 2 + 1, none⟩ = some (.int .i64 an) ∧ A + 1 + p < w'.heap.size ∧ w'.cell? ⟨g', z * 2, none⟩ = some (.int .i64 bk) ∧ w'.cell? ⟨g', z * 2 + 1, none⟩ = some (.int .i64 bn) ∧ g' < w'.heap.size) w) := Lib.hid (fun w h1 h2 => by
                                      obtain ⟨e0, e1⟩ := h1.cell HRR.out HPC2.out
                                      obtain ⟨c0, c1, c2, _⟩ := h1.row HPL.out HLA.out
                                      have hrv := HRV.out w h2
                                      obtain ⟨d0, d1⟩ := hrv.cells HBV.out
                                      exact ⟨e0, e1, c0, c1, c2, d0, d1, hrv.lt⟩)
                                    refine region_lastS (fun w' : World => w'.cell? ⟨A, p, none⟩ = some (.slice (some ⟨A + 1 + p, 0, none⟩) R R) ∧ A < w'.heap.size ∧ w'.cell? ⟨A + 1 + p, z * 2, none⟩ = some (.int .i64 ak) ∧ w'.cell? ⟨A + 1 + p, z * 2 + 1, none⟩ = some (.int .i64 an) ∧ A + 1 + p < w'.heap.size ∧ w'.cell? ⟨g', z * 2, none⟩ = some (.int .i64 bk) ∧ w'.cell? ⟨g', z * 2 + 1, none⟩ = some (.int .i64 bn) ∧ g' < w'.heap.size) 18 hmix (HSS.out _ HLD.out HKD.out) (fun hS => ?main)
                                    refine anyL_take (i := 0) (v := ?_) rfl rfl (by kernel_rfl) (by kernel_rfl) (by kernel_rfl) (by kernel_rfl) (fun _ _ _ h => h) (Or.inl ⟨by rfl, ?_⟩) hS ?_
                                    rotate_left
                                    · (intro w' hSw; obtain ⟨e0, e1, c0, c1, c2, d0, d1, hgl⟩ := hSw; go_simp; first | done | with_reducible rfl)
                                    simp only [Act.put, List.getElem_toArray, List.getElem_cons_succ, List.getElem_cons_zero, List.setIfInBounds_toArray, List.set_cons_succ, List.set_cons_zero]
                                    refine anyL_take (i := 1) (v := ?_) rfl rfl (by kernel_rfl) (by kernel_rfl) (by kernel_rfl) (by kernel_rfl) (fun _ _ _ h => h) (Or.inl ⟨by rfl, ?_⟩) hS ?_
                                    rotate_left
                                    · (intro w' hSw; obtain ⟨e0, e1, c0, c1, c2, d0, d1, hgl⟩ := hSw; go_simp; first | done | with_reducible rfl)
                                    simp only [Act.put, List.getElem_toArray, List.getElem_cons_succ, List.getElem_cons_zero, List.setIfInBounds_toArray, List.set_cons_succ, List.set_cons_zero]
                                    refine anyL_take (i := 2) (v := ?_) rfl rfl (by kernel_rfl) (by kernel_rfl) (by kernel_rfl) (by kernel_rfl) (fun _ _ _ h => h) (Or.inl ⟨by rfl, ?_⟩) hS ?_
                                    rotate_left
                                    · (intro w' hSw; obtain ⟨e0, e1, c0, c1, c2, d0, d1, hgl⟩ := hSw; go_simp; first | done | with_reducible rfl)
                                    simp only [Act.put, List.getElem_toArray, List.getElem_cons_succ, List.getElem_cons_zero, List.setIfInBounds_toArray, List.set_cons_succ, List.set_cons_zero]
                                    refine anyL_take (i := 3) (v := ?_) rfl rfl (by kernel_rfl) (by kernel_rfl) (by kernel_rfl) (by kernel_rfl) (fun _ _ _ h => h) (Or.inl ⟨by rfl, ?_⟩) hS ?_
                                    rotate_left
                                    · (intro w' hSw; obtain ⟨e0, e1, c0, c1, c2, d0, d1, hgl⟩ := hSw; go_simp; first | done | with_reducible rfl)
                                    simp only [Act.put, List.getElem_toArray, List.getElem_cons_succ, List.getElem_cons_zero, List.setIfInBounds_toArray, List.set_cons_succ, List.set_cons_zero]
                                    refine anyL_take (i := 4) (v := ?_) rfl rfl (by kernel_rfl) (by kernel_rfl) (by kernel_rfl) (by kernel_rfl) (fun _ _ _ h => h) (Or.inl ⟨by rfl, ?_⟩) hS ?_
                                    rotate_left
                                    · (intro w' hSw; obtain ⟨e0, e1, c0, c1, c2, d0, d1, hgl⟩ := hSw; go_simp; first | done | with_reducible rfl)
                                    simp only [Act.put, List.getElem_toArray, List.getElem_cons_succ, List.getElem_cons_zero, List.setIfInBounds_toArray, List.set_cons_succ, List.set_cons_zero]
                                    refine anyL_take (i := 5) (v := ?_) rfl rfl (by kernel_rfl) (by kernel_rfl) (by kernel_rfl) (by kernel_rfl) (fun _ _ _ h => h) (Or.inl ⟨by rfl, ?_⟩) hS ?_
                                    rotate_left
                                    · (intro w' hSw; obtain ⟨e0, e1, c0, c1, c2, d0, d1, hgl⟩ := hSw; go_simp; first | done | with_reducible rfl)
                                    simp only [Act.put, List.getElem_toArray, List.getElem_cons_succ, List.getElem_cons_zero, List.setIfInBounds_toArray, List.set_cons_succ, List.set_cons_zero]
                                    refine anyL_take (i := 6) (v := ?_) rfl rfl (by kernel_rfl) (by kernel_rfl) (by kernel_rfl) (by kernel_rfl) (fun _ _ _ h => h) (Or.inl ⟨by rfl, ?_⟩) hS ?_
                                    rotate_left
                                    · (intro w' hSw; obtain ⟨e0, e1, c0, c1, c2, d0, d1, hgl⟩ := hSw; go_simp; first | done | with_reducible rfl)
                                    simp only [Act.put, List.getElem_toArray, List.getElem_cons_succ, List.getElem_cons_zero, List.setIfInBounds_toArray, List.set_cons_succ, List.set_cons_zero]
                                    refine anyL_take (i := 7) (v := ?_) rfl rfl (by kernel_rfl) (by kernel_rfl) (by kernel_rfl) (by kernel_rfl) (fun _ _ _ h => h) (Or.inl ⟨by rfl, ?_⟩) hS ?_
                                    rotate_left
                                    · (intro w' hSw; obtain ⟨e0, e1, c0, c1, c2, d0, d1, hgl⟩ := hSw; go_simp; first | done | with_reducible rfl)
                                    simp only [Act.put, List.getElem_toArray, List.getElem_cons_succ, List.getElem_cons_zero, List.setIfInBounds_toArray, List.set_cons_succ, List.set_cons_zero]
                                    refine anyL_take (i := 8) (v := ?_) rfl rfl (by kernel_rfl) (by kernel_rfl) (by kernel_rfl) (by kernel_rfl) (fun _ _ _ h => h) (Or.inl ⟨by rfl, ?_⟩) hS ?_
                                    rotate_left
                                    · (intro w' hSw; obtain ⟨e0, e1, c0, c1, c2, d0, d1, hgl⟩ := hSw; go_simp; first | done | with_reducible rfl)
                                    simp only [Act.put, List.getElem_toArray, List.getElem_cons_succ, List.getElem_cons_zero, List.setIfInBounds_toArray, List.set_cons_succ, List.set_cons_zero]
                                    refine anyL_take (i := 9) (v := ?_) rfl rfl (by kernel_rfl) (by kernel_rfl) (by kernel_rfl) (by kernel_rfl) (fun _ _ _ h => h) (Or.inl ⟨by rfl, ?_⟩) hS ?_
                                    rotate_left
                                    · (intro w' hSw; obtain ⟨e0, e1, c0, c1, c2, d0, d1, hgl⟩ := hSw; go_simp; first | done | with_reducible rfl)
                                    simp only [Act.put, List.getElem_toArray, List.getElem_cons_succ, List.getElem_cons_zero, List.setIfInBounds_toArray, List.set_cons_succ, List.set_cons_zero]
                                    refine anyL_take (i := 10) (v := ?_) rfl rfl (by kernel_rfl) (by kernel_rfl) (by kernel_rfl) (by kernel_rfl) (fun _ _ _ h => h) (Or.inl ⟨by rfl, ?_⟩) hS ?_
                                    rotate_left
                                    · (intro w' hSw; obtain ⟨e0, e1, c0, c1, c2, d0, d1, hgl⟩ := hSw; go_simp; first | done | with_reducible rfl)
                                    simp only [Act.put, List.getElem_toArray, List.getElem_cons_succ, List.getElem_cons_zero, List.setIfInBounds_toArray, List.set_cons_succ, List.set_cons_zero]
                                    refine anyL_take (i := 11) (v := ?_) rfl rfl (by kernel_rfl) (by kernel_rfl) (by kernel_rfl) (by kernel_rfl) (fun _ _ _ h => h) (Or.inl ⟨by rfl, ?_⟩) hS ?_
                                    rotate_left
                                    · (intro w' hSw; obtain ⟨e0, e1, c0, c1, c2, d0, d1, hgl⟩ := hSw; go_simp; first | done | with_reducible rfl)
                                    simp only [Act.put, List.getElem_toArray, List.getElem_cons_succ, List.getElem_cons_zero, List.setIfInBounds_toArray, List.set_cons_succ, List.set_cons_zero]
                                    refine anyL_take (i := 12) (v := ?_) rfl rfl (by kernel_rfl) (by kernel_rfl) (by kernel_rfl) (by kernel_rfl) (fun _ _ _ h => h) (Or.inl ⟨by rfl, ?_⟩) hS ?_
                                    rotate_left
                                    · (intro w' hSw; obtain ⟨e0, e1, c0, c1, c2, d0, d1, hgl⟩ := hSw; go_simp; first | done | with_reducible rfl)
                                    simp only [Act.put, List.getElem_toArray, List.getElem_cons_succ, List.getElem_cons_zero, List.setIfInBounds_toArray, List.set_cons_succ, List.set_cons_zero]
                                    refine anyL_take (i := 13) (v := ?_) rfl rfl (by kernel_rfl) (by kernel_rfl) (by kernel_rfl) (by kernel_rfl) (fun _ _ _ h => h) (Or.inl ⟨by rfl, ?_⟩) hS ?_
                                    rotate_left
                                    · (intro w' hSw; obtain ⟨e0, e1, c0, c1, c2, d0, d1, hgl⟩ := hSw; go_simp; first | done | with_reducible rfl)
                                    simp only [Act.put, List.getElem_toArray, List.getElem_cons_succ, List.getElem_cons_zero, List.setIfInBounds_toArray, List.set_cons_succ, List.set_cons_zero]
                                    refine anyL_take (i := 14) (v := ?_) rfl rfl (by kernel_rfl) (by kernel_rfl) (by kernel_rfl) (by kernel_rfl) (fun _ _ _ h => h) (Or.inl ⟨by rfl, ?_⟩) hS ?_
                                    rotate_left
                                    · (intro w' hSw; obtain ⟨e0, e1, c0, c1, c2, d0, d1, hgl⟩ := hSw; go_simp; first | done | with_reducible rfl)
                                    simp only [Act.put, List.getElem_toArray, List.getElem_cons_succ, List.getElem_cons_zero, List.setIfInBounds_toArray, List.set_cons_succ, List.set_cons_zero]
                                    refine anyL_take (i := 15) (v := ?_) rfl rfl (by kernel_rfl) (by kernel_rfl) (by kernel_rfl) (by kernel_rfl) (fun _ _ _ h => h) (Or.inl ⟨by rfl, ?_⟩) hS ?_
                                    rotate_left
                                    · (intro w' hSw; obtain ⟨e0, e1, c0, c1, c2, d0, d1, hgl⟩ := hSw; go_simp; first | done | with_reducible rfl)
                                    simp only [Act.put, List.getElem_toArray, List.getElem_cons_succ, List.getElem_cons_zero, List.setIfInBounds_toArray, List.set_cons_succ, List.set_cons_zero]
                                    refine anyL_one (i := 16) (by kernel_rfl) rfl (fun K1 hK1 => ?_)
                                    go_simp
                                    refine (HJC.out _).mono ?_
                                    rintro e w7 ⟨rfl, hb7⟩
                                    have HL7 := Lib.hid (HLD.out.below hb7)
                                    have HK7 := Lib.hid (HKD.out.trans (KeepHi.of_below hb7))
                                    clear hS hb7
                                    have hS := HSS.out _ HL7.out HK7.out
                                    refine hK1.out _ _ (fun _ => hS) ?_
                                    clear hK1 K1
                                    refine anyL_take (i := 17) (v := ?_) rfl rfl (by kernel_rfl) (by kernel_rfl) (by kernel_rfl) (by kernel_rfl) (fun _ _ _ h => h) (Or.inl ⟨by rfl, ?_⟩) hS ?_
                                    rotate_left
                                    · (intro w' hSw; obtain ⟨e0, e1, c0, c1, c2, d0, d1, hgl⟩ := hSw; go_simp; first | done | with_reducible rfl)
                                    simp only [Act.put, List.getElem_toArray, List.getElem_cons_succ, List.getElem_cons_zero, List.setIfInBounds_toArray, List.set_cons_succ, List.set_cons_zero]
                                    obtain ⟨e0, e1, c0, c1, c2, d0, d1, hgl⟩ := hS
                                    have c3 := (HL7.out.row HPL.out HLA.out).2.2.2
                                    refine anyL_one (i := 18) (by kernel_rfl) rfl (fun K1 hK1 => ?_)
                                    go_simp
                                    refine hK1.out _ _ (fun h => absurd rfl h) ?_
                                    clear hK1 K1
                                    refine anyL_done (by kernel_rfl) ?_ _
                                    go_wp2
                                    go_roundw
                                    case rel => exact ⟨z + 1, HZ.out, by go_num, Lib.hid (by have h9 := HL7.out.put HPL.out (List.getElem?_eq_some_iff.1 HLA.out).1 ⟨xk, xn⟩; rw [set_set_row, HLN.out] at h9; exact h9), Lib.hid ((HK13.out.trans HK7.out).trans ((KeepHi.set _ (by have := HPC.out; omega) _ _).trans (KeepHi.set _ (by have := HPC.out; omega) _ _)))⟩
                                    case measure => have := HZ.out; simp [intOf]; omega
                                  · obtain rfl : R = z := by omega
                                    have HL15 : Hid (LeSt W w3 wr r A (C'.set p (joinL c uv))) := Lib.hid (by have h9 := HL13.out; rw [← HCR.out, mixL_all HVC.out] at h9; exact h9)
                                    have HW13 : Hid (∀ (j' : Nat) (q : Int), j' < j + 1 → ns[j']? = some q → skipB i uv j' = false → ∀ c', (C'.set p (joinL c uv))[q.toNat]? = some c' → withinL uv c') := Lib.hid (fun j' q h1 h2 h3 c' h4 => by
                                      rcases (by omega : j' < j ∨ j' = j) with h | rfl
                                      · exact HJN.out.2.1 _ c' h4 _ (HW12.out j' q h h2 h3)
                                      · rw [HQ.out] at h2
                                        injection h2 with h2
                                        subst h2
                                        rw [Int.toNat_natCast] at h4
                                        exact HJN.out.2.2 c' h4)
                                    go_wp2
                                    go_roundw
                                    case rel => exact ⟨j + 1, C'.set p (joinL c uv), HJ.out, by go_num, by rw [List.length_set]; exact hcl, HL15, Lib.hid (HK12.out.trans HK13.out), Lib.hid HJN.out.1, HW13⟩
                                    case measure => have := HJ.out; simp [intOf]; omega
                          · obtain rfl : j = ns.length := by omega
                            have HCN : Hid (ComeSt r.f S C' (m + 1)) := Lib.hid (HND.out C' HC12.out (fun p hp c hc => by
                              obtain ⟨j', h1, h2⟩ := HGS.out p hp
                              exact HW12.out j' p (List.getElem?_eq_some_iff.1 h1).1 h1 h2 c hc))
                            go_wp2
                            go_roundw
                            case rel => exact ⟨m + 1, C', HM.out, by go_num, HL12, HCN⟩
                            case measure => have := HM.out; simp [intOf]; omega
            · as_aux_lemma =>
              obtain rfl : m = S.length := by omega
              have hCS : C = S := by have h9 := HCM.out; rw [HLS.out] at h9; exact h9.all HSO.out
              subst hCS
              clear hm hlt m0 x0 x1 x2 x3 x4
              obtain ⟨wF, hwF⟩ : ∃ x, x = wr := ⟨_, rfl⟩
              subst hwF
              have HKB : Hid (Below w3.heap.size w3 wF) := Lib.hid (by rw [← HAA.out]; exact HLM.out.kb)
              have hSC : C.length = r.f.code.length := HLS.out
              go_wp2
              clear hSC
              go_loopw [196] (fun s196 wr => ∃ m : Nat, m ≤ C.length ∧ s196 = .int .i64 (m : Int) ∧ Hid (Below wF.heap.size wF wr)) (fun s196 wr => C.length - (intOf s196).toNat)
              case atStart => exact ⟨0, by omega, rfl, Lib.hid (Below.refl _ _)⟩
              case round =>
                obtain ⟨m, hm, rfl, HBF⟩ := hrel
                have m0 : (0 : Int) ≤ (m : Int) := Int.natCast_nonneg _
                by_cases hlt : m < C.length
                · have m1 : (m : Int) < (C.length : Int) := by omega
                  have m3 : (m : Int) < (r.f.code.length : Int) := by have := HLS.out; omega
                  have m4 : m < r.f.code.length := by omega
                  obtain ⟨u, hu⟩ : ∃ u, C[m]? = some u := ⟨_, List.getElem?_eq_getElem hlt⟩
                  have HMU := Lib.hid hu; have HM := Lib.hid hlt
                  have hzF := HKB.out.size
                  obtain ⟨pu, pcu, htb, hcu, hpu⟩ := HRW.out wr m u (HKB.out.trans (HBF.out.mono hzF)) hu
                  have htbw : tb < wr.heap.size := by have := HBF.out.size; omega
                  clear hu hlt hpu
                  go_wp2
                  clear hcu htbw
                  go_loopw [204] (fun s204 wr => ∃ z : Nat, z ≤ R ∧ s204 = .int .i64 (z : Int) ∧ Hid (Below wF.heap.size wF wr)) (fun s204 wr => R - (intOf s204).toNat)
                  case atStart => exact ⟨0, by omega, rfl, HBF⟩
                  case round =>
                    obtain ⟨z, hz, rfl, HBZ⟩ := hrel
                    have z0 : (0 : Int) ≤ (z : Int) := Int.natCast_nonneg _
                    by_cases hzl : z < R
                    · have z1 : (z : Int) < (R : Int) := by omega
                      obtain ⟨x, hx⟩ : ∃ x, u[z]? = some x := ⟨_, List.getElem?_eq_getElem (by have := HSL.out m u HMU.out; omega)⟩
                      have HLZ := Lib.hid (HLM.out.below HBZ.out)
                      obtain ⟨e0, e1⟩ := HLZ.out.cell HRR.out (List.getElem?_eq_some_iff.1 HMU.out).1
                      obtain ⟨c0, c1, c2, c3⟩ := HLZ.out.row HMU.out hx
                      obtain ⟨pv, pcv, htv, hcv, hpv⟩ := HRW.out wr m u (HKB.out.trans (HBZ.out.mono hzF)) HMU.out
                      obtain ⟨b9, o9, rfl, hb9, hB9, d0, d1⟩ := ValsAt.cells hpv hx
                      have hs9 := HBZ.out.size
                      have htv2 : tb < wr.heap.size := by omega
                      have hbv2 : b9 < wr.heap.size := by omega
                      have HZ := Lib.hid hzl
                      clear hx hpv hzl c3
                      obtain ⟨xk, xn⟩ := x
                      go_wp2
                      go_quiet (fail)
                      clear e0 e1 c0 c1 c2 hcv d0 d1
                      go_wp2
                      go_roundw
                      case rel => exact ⟨z + 1, HZ.out, by go_num, Lib.hid (HBZ.out.trans ⟨rfl, rfl, rfl, Nat.le_refl _, fun _ _ => rfl⟩)⟩
                      case measure => have := HZ.out; simp [intOf]; omega
                    · obtain rfl : R = z := by omega
                      go_wp2
                      go_roundw
                      case rel => exact ⟨m + 1, HM.out, by go_num, HBZ⟩
                      case measure => have := HM.out; simp [intOf]; omega
                · obtain rfl : m = C.length := by omega
                  have hSC : C.length = r.f.code.length := HLS.out
                  have HLZ := Lib.hid (HLM.out.below HBF.out)
                  go_wp2_with (((with_reducible refine (awake11_any _).mono ?_); rintro e w5 ⟨rfl, hb5⟩; have HS5 := Lib.hid (HLZ.out.ah.hb.trans (hb5.mono HLZ.out.ah.hb.size)); clear hb5))
                  go_ret
                  exact ⟨rfl, HS5.out⟩
theorem least_any (r : FnR) (W : World) (h : FnK W r) : Calls Try.prog 11 #[fnV r] W (RPost (.bool true) W) := by
  by_cases hf : few11 r.f = true
  · by_cases hr : RightF r.f
    · exact least_yes r W h hf hr
    · exact least_no r W h hf (by rw [← Bool.not_eq_true, rightF_iff]; exact hr)
  · exact least_few r W h (by simpa using hf)
end Go.Proofs.Ytbalbdhbmcdbaaa
