/-
  FlowHolds: what is known holds together.
-/
import Derived.Test.YtbalbdhbmcdbaaaQLP
import Derived.Test.YtbalbdhbmcdbaaaQG11Same
namespace Go.Proofs.Ytbalbdhbmcdbaaa
set_option maxRecDepth 100000
open Go.RowKit Cd
set_option linter.unusedVariables false
set_option linter.unusedSimpArgs false

theorem keepH {w5 : World} {tb toff vb voff k X : Nat} {u : Value} {x f : Val} (h1 : tb < w5.heap.size ∧ w5.cell? ⟨tb, toff, none⟩ = some u) (h2 : vb < w5.heap.size ∧ w5.cell? ⟨vb, voff + k * 2, none⟩ = some (.int .i64 x.kind) ∧ w5.cell? ⟨vb, voff + k * 2 + 1, none⟩ = some (.int .i64 x.n)) (h3 : w5.heap[X]? = some (vlO f)) {w' : World} (h0 : Below w5.heap.size w5 w') :
    Below w5.heap.size w5 w' ∧ w'.cell? ⟨tb, toff, none⟩ = some u ∧ w'.cell? ⟨vb, voff + k * 2, none⟩ = some (.int .i64 x.kind) ∧ w'.cell? ⟨vb, voff + k * 2 + 1, none⟩ = some (.int .i64 x.n) ∧ w'.cell? ⟨X, 0, none⟩ = some (.int .i64 f.kind) ∧ w'.cell? ⟨X, 1, none⟩ = some (.int .i64 f.n) := by
  obtain ⟨y0, y1⟩ := nv2 ((h0.block _ (lt_heap h3)).trans h3)
  exact ⟨h0, (World.cell?_of_block (w := w5) (h0.block _ h1.1)).trans h1.2, (World.cell?_of_block (w := w5) (h0.block _ h2.1)).trans h2.2.1, (World.cell?_of_block (w := w5) (h0.block _ h2.1)).trans h2.2.2, y0, y1⟩
set_option maxHeartbeats 8000000 in
theorem holds_yes (r : FnR) (W : World) (h : FnK W r) (hf : few11 r.f = true) (hr : RightF r.f) : Calls Try.prog 10 #[fnV r] W (RPost (.bool true) W) := by
  obtain ⟨S, hS⟩ := sol_exists hr
  have HS0 := Lib.hid (LwSt.first W r h)
  have HF := Lib.hid hf; have HR := Lib.hid hr; have HSO := Lib.hid hS
  have hsz := few11_size hf hr
  have hlS := hS.pre.len
  have hn := hr.code
  obtain ⟨v, hv⟩ : ∃ v, S[0]? = some v := ⟨_, List.getElem?_eq_getElem (by omega)⟩
  have hlv := hS.pre.row v (List.mem_of_getElem? hv)
  have HV := Lib.hid hv; have HLV := Lib.hid hlv; have HLS := Lib.hid hlS; have HSZ := Lib.hid hsz
  have hrg := hr.regs
  have hvl : v.length ≤ 4096 := by omega
  obtain ⟨x0, x1, x2, x3, x4⟩ := nv5 HS0.out.fb
  have HEQ : Hid (S.length = r.f.code.length) := HLS
  have HFW : Hid (∀ (k : Nat) (x : Val), v[k]? = some x → OkV (firstV r.f k) ∧ OkV x ∧ withinV (firstV r.f k) x) := Lib.hid (fun k x hx => by
    have hk := (List.getElem?_eq_some_iff.1 hx).1
    have hl := HLV.out
    have hf := firstL_at (g := r.f) (r := k) (by omega)
    exact ⟨firstL_ok r.f _ (List.mem_of_getElem? hf), HSO.out.ok v (List.mem_of_getElem? HV.out) x (List.mem_of_getElem? hx), (HSO.out.pre.first v HV.out).2 k _ x hf hx⟩)
  clear h hf hr hS hsz hv
  have ht1 : ((S.length : Int) != (r.f.code.length : Int)) = false := by rw [hlS]; simp
  have ht2 : ((v.length : Int) != r.f.regs) = false := by rw [hlv]; simp
  clear hlS hlv
  go_enter Try.func10, Try.ntmps10
  go_upto_region 8 with (first | ((with_reducible refine (few11_c r _ HS0.out.k true HF.out).mono ?_); rintro e w1 ⟨rfl, hb1⟩; have HS1 := Lib.hid (HS0.out.below hb1); clear hb1 x0 x1 x2 x3 x4; obtain ⟨x0, x1, x2, x3, x4⟩ := nv5 HS1.out.fb) | ((with_reducible refine (ahead_s HS1.out.k HR.out HSZ.out HSO.out).mono ?_); rintro e w3 ⟨ta, tc, rfl, htab, hb3⟩; have HT3 := Lib.hid htab; have HS3 := Lib.hid (HS1.out.below hb3); clear hb3 htab x0 x1 x2 x3 x4; obtain ⟨x0, x1, x2, x3, x4⟩ := nv5 HS3.out.fb) | ((with_reducible refine (ref_right HS3.out.k true (rightF_iff.2 HR.out)).mono ?_); rintro e w4 ⟨rfl, hb4⟩; have HS4 := Lib.hid (HS3.out.below hb4); have HT4 := Lib.hid (HT3.out.below hb4); clear hb4 x0 x1 x2 x3 x4; obtain ⟨x0, x1, x2, x3, x4⟩ := nv5 HS4.out.fb))
  obtain ⟨tb, toff, pa, pc, rfl, htb, htc, hpa⟩ := HT4.out.at HV.out
  rw [Nat.add_zero] at htc
  have HPA := Lib.hid hpa
  have hn0 : (0 : Int) < (S.length : Int) := by have := HLS.out; omega
  have HTC := Lib.hid htc
  have HTB := Lib.hid htb
  clear hpa htc htb ht1 ht2
  go_wp2
  clear x0 x1 x2 x3 x4
  go_loopw [42] (fun s42 wr => ∃ k : Nat, (k : Int) ≤ r.f.regs ∧ s42 = .int .i64 (k : Int) ∧ Hid (LwSt W wr r) ∧ Hid (Below w4.heap.size w4 wr)) (fun s42 wr => r.f.regs.toNat - (intOf s42).toNat)
  case atStart => exact ⟨0, by have := HLV.out; omega, rfl, HS4, Lib.hid (Below.refl _ _)⟩
  case round =>
    obtain ⟨k, hk, rfl, HSK, HBK⟩ := hrel
    have k0 : (0 : Int) ≤ (k : Int) := Int.natCast_nonneg _
    obtain ⟨x0, x1, x2, x3, x4⟩ := nv5 HSK.out.fb
    by_cases hlt : (k : Int) < r.f.regs
    · have k1 : (k : Int) < (v.length : Int) := by have := HLV.out; omega
      obtain ⟨x, hx⟩ : ∃ x, v[k]? = some x := ⟨_, List.getElem?_eq_getElem (by omega)⟩
      obtain ⟨vb, voff, rfl, hvb, hvB, hc0, hc1⟩ := ValsAt.cells (HPA.out.below HBK.out) hx
      obtain ⟨o1, o2, o3⟩ := HFW.out k x hx
      obtain ⟨xk, xn⟩ := x
      have HC0 : Hid (wr.cell? ⟨vb, voff + k * 2, none⟩ = some (.int .i64 xk)) := Lib.hid hc0
      have HC1 : Hid (wr.cell? ⟨vb, voff + k * 2 + 1, none⟩ = some (.int .i64 xn)) := Lib.hid hc1
      have HVB : Hid (vb < wr.heap.size) := Lib.hid (by omega)
      have HWC := Lib.hid (fun W => within_c (firstV r.f k) ⟨xk, xn⟩ W o1 o2 o3)
      clear hc0 hc1 hvb hvB o1 o2 o3 hx
      have hwl := HSK.out.lt
      by_cases hp : (k : Int) < r.f.params
      · have hf1 : firstV r.f k = ⟨2, 0⟩ := by unfold firstV; rw [if_pos hp]
        rw [hf1] at HWC
        clear hf1
        go_wp2
        have HBX : Hid ((wr.alloc (vlO ⟨2, 0⟩)).heap[wr.heap.size]? = some (vlO ⟨2, 0⟩)) := Lib.hid (heap_alloc_new _ _)
        have hba : Below wr.heap.size wr (wr.alloc (vlO ⟨2, 0⟩)) := (Below.refl _ _).alloc (Nat.le_refl _) _
        have HS5 := Lib.hid (HSK.out.below hba)
        have HB5 : Hid (Below w4.heap.size w4 (wr.alloc (vlO ⟨2, 0⟩))) := Lib.hid (HBK.out.trans (hba.mono HBK.out.size))
        have HT5 : Hid (tb < (wr.alloc (vlO ⟨2, 0⟩)).heap.size ∧ (wr.alloc (vlO ⟨2, 0⟩)).cell? ⟨tb, toff, none⟩ = some (.slice (some ⟨vb, voff, none⟩) v.length pc)) := Lib.hid ⟨Nat.lt_of_lt_of_le HTB.out HB5.out.size, (World.cell?_of_block (w := w4) (HB5.out.block _ HTB.out)).trans HTC.out⟩
        have HV5 : Hid (vb < (wr.alloc (vlO ⟨2, 0⟩)).heap.size ∧ (wr.alloc (vlO ⟨2, 0⟩)).cell? ⟨vb, voff + k * 2, none⟩ = some (.int .i64 xk) ∧ (wr.alloc (vlO ⟨2, 0⟩)).cell? ⟨vb, voff + k * 2 + 1, none⟩ = some (.int .i64 xn)) := Lib.hid ⟨Nat.lt_of_lt_of_le HVB.out hba.size, (World.cell?_of_block (w := wr) (hba.block _ HVB.out)).trans HC0.out, (World.cell?_of_block (w := wr) (hba.block _ HVB.out)).trans HC1.out⟩
        clear hba x0 x1 x2 x3 x4 hwl
        generalize wr.alloc (vlO ⟨2, 0⟩) = w5 at *
        generalize wr.heap.size = X at *
        have hn9 : (0 : Int) < (S.length : Int) := by have := HLS.out; have := HR.out.code; omega
        have hn8 : (k : Int) < (v.length : Int) := k1
        have HB0 : Hid (Below w5.heap.size w5 w5.drew) := Lib.hid ⟨rfl, rfl, rfl, Nat.le_refl _, fun _ _ => rfl⟩
        obtain ⟨-, g1, g2, g3, g4, g5⟩ := keepH (x := ⟨xk, xn⟩) (f := ⟨2, 0⟩) HT5.out HV5.out HBX.out (Below.refl _ _)
        go_region_with ((with_reducible refine (HWC.out _).mono ?_); rintro e w' ⟨rfl, hb⟩; have HB9 := Lib.hid (HB0.out.trans (hb.mono HB0.out.size)); clear hb)
        all_goals
          (go_wp2
           go_roundw
           case rel => exact ⟨k + 1, by omega, by go_num, Lib.hid (HS5.out.below HB9.out), Lib.hid (HB5.out.trans (HB9.out.mono HB5.out.size))⟩
           case measure => simp [intOf]; omega)
      · have hf1 : firstV r.f k = ⟨1, 0⟩ := by unfold firstV; rw [if_neg hp]
        rw [hf1] at HWC
        clear hf1
        go_wp2
        have HBX : Hid ((wr.alloc (vlO ⟨1, 0⟩)).heap[wr.heap.size]? = some (vlO ⟨1, 0⟩)) := Lib.hid (heap_alloc_new _ _)
        have hba : Below wr.heap.size wr (wr.alloc (vlO ⟨1, 0⟩)) := (Below.refl _ _).alloc (Nat.le_refl _) _
        have HS5 := Lib.hid (HSK.out.below hba)
        have HB5 : Hid (Below w4.heap.size w4 (wr.alloc (vlO ⟨1, 0⟩))) := Lib.hid (HBK.out.trans (hba.mono HBK.out.size))
        have HT5 : Hid (tb < (wr.alloc (vlO ⟨1, 0⟩)).heap.size ∧ (wr.alloc (vlO ⟨1, 0⟩)).cell? ⟨tb, toff, none⟩ = some (.slice (some ⟨vb, voff, none⟩) v.length pc)) := Lib.hid ⟨Nat.lt_of_lt_of_le HTB.out HB5.out.size, (World.cell?_of_block (w := w4) (HB5.out.block _ HTB.out)).trans HTC.out⟩
        have HV5 : Hid (vb < (wr.alloc (vlO ⟨1, 0⟩)).heap.size ∧ (wr.alloc (vlO ⟨1, 0⟩)).cell? ⟨vb, voff + k * 2, none⟩ = some (.int .i64 xk) ∧ (wr.alloc (vlO ⟨1, 0⟩)).cell? ⟨vb, voff + k * 2 + 1, none⟩ = some (.int .i64 xn)) := Lib.hid ⟨Nat.lt_of_lt_of_le HVB.out hba.size, (World.cell?_of_block (w := wr) (hba.block _ HVB.out)).trans HC0.out, (World.cell?_of_block (w := wr) (hba.block _ HVB.out)).trans HC1.out⟩
        clear hba x0 x1 x2 x3 x4 hwl
        generalize wr.alloc (vlO ⟨1, 0⟩) = w5 at *
        generalize wr.heap.size = X at *
        have hn9 : (0 : Int) < (S.length : Int) := by have := HLS.out; have := HR.out.code; omega
        have hn8 : (k : Int) < (v.length : Int) := k1
        have HB0 : Hid (Below w5.heap.size w5 w5.drew) := Lib.hid ⟨rfl, rfl, rfl, Nat.le_refl _, fun _ _ => rfl⟩
        obtain ⟨-, g1, g2, g3, g4, g5⟩ := keepH (x := ⟨xk, xn⟩) (f := ⟨1, 0⟩) HT5.out HV5.out HBX.out (Below.refl _ _)
        go_region_with ((with_reducible refine (HWC.out _).mono ?_); rintro e w' ⟨rfl, hb⟩; have HB9 := Lib.hid (HB0.out.trans (hb.mono HB0.out.size)); clear hb)
        all_goals
          (go_wp2
           go_roundw
           case rel => exact ⟨k + 1, by omega, by go_num, Lib.hid (HS5.out.below HB9.out), Lib.hid (HB5.out.trans (HB9.out.mono HB5.out.size))⟩
           case measure => simp [intOf]; omega)
    · obtain ⟨i0, hi0⟩ : ∃ i, r.f.code[0]? = some i := ⟨_, List.getElem?_eq_getElem (by have := HR.out.code; omega)⟩
      obtain ⟨cb, coff, hca⟩ := row_at HSK.out.k.code hi0
      have HCA : Hid (r.ca = some ⟨cb, coff, none⟩) := Lib.hid hca
      rw [hca] at x4
      have HT9 := Lib.hid (HT4.out.below HBK.out)
      have hkr : ¬ (k : Int) < r.f.regs := hlt
      clear hi0 hca
      go_wp2
      clear x0 x1 x2 x3 x4 hlt hk hkr
      obtain ⟨wA, hwA⟩ : ∃ x, x = wr := ⟨_, rfl⟩
      subst hwA
      go_loopw [65] (fun s65 wr => ∃ m : Nat, m ≤ r.f.code.length ∧ s65 = .int .i64 (m : Int) ∧ Hid (Below wA.heap.size wA wr)) (fun s65 wr => r.f.code.length - (intOf s65).toNat)
      case atStart => exact ⟨0, by omega, rfl, Lib.hid (Below.refl _ _)⟩
      case round =>
        obtain ⟨m, hm, rfl, HBM⟩ := hrel
        have HSM := Lib.hid (HSK.out.below HBM.out)
        have HTM := Lib.hid (HT9.out.below HBM.out)
        have m0 : (0 : Int) ≤ (m : Int) := Int.natCast_nonneg _
        obtain ⟨x0, x1, x2, x3, x4⟩ := nv5 HSM.out.fb
        by_cases hlt : m < r.f.code.length
        · have m1 : (m : Int) < (r.f.code.length : Int) := by omega
          have m2 : (m : Int) < (S.length : Int) := by have := HEQ.out; omega
          obtain ⟨i, hi⟩ : ∃ i, r.f.code[m]? = some i := ⟨_, List.getElem?_eq_getElem hlt⟩
          obtain ⟨u, hu⟩ : ∃ u, S[m]? = some u := ⟨_, List.getElem?_eq_getElem (by have := HEQ.out; omega)⟩
          have HII := Lib.hid (HR.out.all i (List.mem_of_getElem? hi))
          have hlu := HSO.out.pre.row u (List.mem_of_getElem? hu)
          have HOU := Lib.hid (HSO.out.ok u (List.mem_of_getElem? hu))
          obtain ⟨_, _, pu, pcu, e9, htb9, hcu, hpu⟩ := HTM.out.at hu
          injection e9 with e9
          injection e9 with e1 e2
          subst e1 e2
          obtain ⟨p0, p1, p2, p3, p4, p5, p6, p7, p8, p9, p10, p11, p12, p13, p14⟩ := code_cells HSM.out.k.code hi HCA.out
          have HIK := Lib.hid hi; have HUK := Lib.hid hu; have HLU := Lib.hid hlu; have HM := Lib.hid hlt; have HM6 : Hid (m ≤ 1000000) := Lib.hid (by have := HSM.out.k.len; have := hlt; have := HSZ.out; have := HR.out.regs; have h9 : r.f.code.length * 1 ≤ r.f.code.length * (r.f.regs.toNat + 1) := Nat.mul_le_mul_left _ (by omega); omega)
          have hul : u.length ≤ 4096 := by have := HR.out.regs; omega
          have t9 : ((u.length : Int) != r.f.regs) = false := by rw [hlu]; simp
          have hwl := HSM.out.lt
          obtain ⟨wB, hwB⟩ : ∃ x, x = wr := ⟨_, rfl⟩
          subst hwB
          go_upto_region 21 with fail
          have hba : Below wB.heap.size wB (wB.alloc (inO i)) := (Below.refl _ _).alloc (Nat.le_refl _) _
          have HB5 := Lib.hid hba
          have HX5 : Hid ((wB.alloc (inO i)).heap[wB.heap.size]? = some (inO i)) := Lib.hid (heap_alloc_new _ _)
          have hcu5 : (wB.alloc (inO i)).cell? ⟨tb, toff + m, none⟩ = some (.slice pu u.length pcu) := (hba.cell (p := ⟨tb, toff + m, none⟩) htb9).trans hcu
          have HPU5 := Lib.hid ((ValsAt.below hpu hba).mono hba.size (Nat.le_refl _))
          have htb5 : tb < (wB.alloc (inO i)).heap.size := Nat.lt_of_lt_of_le htb9 hba.size
          have HZ5 : Hid ((wB.alloc (inO i)).heap.size = wB.heap.size + 1) := Lib.hid (by simp)
          clear hba hcu hpu htb9 hi hu p0 p1 p2 p3 p4 p5 p6 p7 p8 p9 p10 p11 p12 p13 p14 x0 x1 x2 x3 x4 hwl hlu hlt
          generalize wB.alloc (inO i) = w5 at *
          go_upto_region 22 with (at_builtin; go_loud (refine wpList_append_row rfl (.tmp 70) (.tmp 74) rfl w5.heap.size (heap_alloc_new _ _) rfl pu u pcu rfl (ValsAt.mono (HPU5.out.below ((Below.refl _ _).alloc (Nat.le_refl _) _)) (by simp) (Nat.le_refl _)) (by omega) ?_; intro g' c' w6 hge hb6 hrow; have HH6 : Hid (HoSt wB w6 i g' u) := Lib.hid (by have hb56 := ((Below.refl w5.heap.size w5).alloc (Nat.le_refl _) (.cells #[] 58)).trans hb6; have hz := HZ5.out; exact ⟨HB5.out.trans (hb56.mono (by omega)), (hb56.block _ (lt_heap HX5.out)).trans HX5.out, hrow, by omega⟩); clear hge hb6 hrow))
          obtain ⟨x0, x1, x2, x3, x4⟩ := nv5 (HSM.out.below HH6.out.hb).fb
          clear HB5 HX5 HPU5 HZ5 hcu5 htb5
          go_wp2
          clear x0 x1 x2 x3 x4 t9
          go_loopw [10, 83] (fun s10 s83 wr => ∃ j : Nat, j ≤ u.length ∧ s83 = .int .i64 (j : Int) ∧ s10 = .bool ((u.take j).any (fun a => a.kind == 0)) ∧ Hid (Below w6.heap.size w6 wr)) (fun s10 s83 wr => u.length - (intOf s83).toNat)
          case atStart => exact ⟨0, by omega, rfl, rfl, Lib.hid (Below.refl _ _)⟩
          case round =>
            obtain ⟨j, hj, rfl, rfl, HB7⟩ := hrel
            have j0 : (0 : Int) ≤ (j : Int) := Int.natCast_nonneg _
            by_cases hjl : j < u.length
            · have j1 : (j : Int) < (u.length : Int) := by omega
              obtain ⟨x, hx⟩ : ∃ x, u[j]? = some x := ⟨_, List.getElem?_eq_getElem hjl⟩
              obtain ⟨c0, c1⟩ := (HH6.out.rw.below HB7.out).cells hx
              have hgl := (HH6.out.rw.below HB7.out).lt
              have HTK := Lib.hid (take_any hx); have HJ := Lib.hid hjl
              clear hx hjl
              generalize (u.take j).any (fun a => a.kind == 0) = q at *
              obtain ⟨xk, xn⟩ := x
              cases q with
              | true =>
                go_wp2
                go_roundw
                case rel => exact ⟨j + 1, HJ.out, by go_num, by rw [HTK.out]; rfl, Lib.hid (HB7.out.alloc HB7.out.size _)⟩
                case measure => have := HJ.out; simp [intOf]; omega
              | false =>
                by_cases hx0 : xk = 0
                · subst hx0
                  go_wp2
                  go_roundw
                  case rel => exact ⟨j + 1, HJ.out, by go_num, by rw [HTK.out]; rfl, Lib.hid (HB7.out.alloc HB7.out.size _)⟩
                  case measure => have := HJ.out; simp [intOf]; omega
                · have tx : ((xk : Int) == 0) = false := by simpa using hx0
                  go_wp2
                  go_roundw
                  case rel => exact ⟨j + 1, HJ.out, by go_num, by rw [HTK.out]; simp [hx0], Lib.hid (HB7.out.alloc HB7.out.size _)⟩
                  case measure => have := HJ.out; simp [intOf]; omega
            · obtain rfl : j = u.length := by omega
              rw [List.take_length]
              clear hj hjl
              have HH7 := Lib.hid (HH6.out.below HB7.out)
              obtain ⟨fu, hfu⟩ : ∃ fu, u.any (fun a => a.kind == 0) = fu := ⟨_, rfl⟩
              rw [hfu]
              cases fu with
              | true =>
                go_wp2
                go_roundw
                case rel => exact ⟨m + 1, HM.out, by go_num, Lib.hid (HBM.out.trans ((HH7.out.hb.alloc HH7.out.hb.size _).mono HBM.out.size))⟩
                case measure => have := HM.out; simp [intOf]; omega
              | false =>
                have HFU := Lib.hid (any_fullH hfu)
                have HLB := Lib.hid (fun V (hV : ValsAt V V.heap.size (some ⟨g', 0, none⟩) u) => lbeh_any i u (some ⟨g', 0, none⟩) c' V hV (regIn_of HII.out HLU.out))
                clear hfu
                obtain ⟨wC, hwC⟩ : ∃ x, x = wr := ⟨_, rfl⟩
                subst hwC
                go_upto_region 32 with fail
                have hbb : Below wC.heap.size wC (wC.alloc (vlO ⟨0, 0⟩)) := (Below.refl _ _).alloc (Nat.le_refl _) _
                have HH8 := Lib.hid (HH7.out.below hbb)
                have HY8 : Hid ((wC.alloc (vlO ⟨0, 0⟩)).heap[wC.heap.size]? = some (vlO ⟨0, 0⟩)) := Lib.hid (heap_alloc_new _ _)
                have HYG : Hid (wB.heap.size < wC.heap.size ∧ wC.heap.size ≠ g') := Lib.hid ⟨lt_heap HH7.out.bx, by have := HH7.out.rw.lt; omega⟩
                clear hbb HH7 HH6 HB7
                generalize wC.alloc (vlO ⟨0, 0⟩) = w8 at *
                generalize wC.heap.size = Y at *
                obtain ⟨q0, q1, q2, q3, q4, q5, q6, q7, q8, q9, q10, q11, q12, q13, q14⟩ := nv15 HH8.out.bx
                go_upto_region 33 with ((with_reducible refine (HLB.out _ (HH8.out.rw.vals HH8.out.rw.lt (Nat.le_refl _))).mono ?_); rintro e w9 ⟨x, on, rfl, hxo, hb9⟩; have HH9 := Lib.hid (HH8.out.below hb9); have HXO := Lib.hid hxo; have HY9 := Lib.hid ((hb9.block _ (lt_heap HY8.out)).trans HY8.out); clear hb9 hxo q0 q1 q2 q3 q4 q5 q6 q7 q8 q9 q10 q11 q12 q13 q14; obtain ⟨z0, z1⟩ := nv2 HY9.out; have hfr : ∀ j, w9.frozen? ⟨Y, j, none⟩ = false := fun j => by simp only [World.frozen?, HY9.out]; simp)
                have HHS : Hid (HoSt wB ((w9.setCell ⟨Y, 0, none⟩ (.int .i64 x.kind)).setCell ⟨Y, 1, none⟩ (.int .i64 x.n)) i g' u) := Lib.hid ((HH9.out.oth HYG.out.1 HYG.out.2 _ _).oth HYG.out.1 HYG.out.2 _ _)
                have HYS := Lib.hid (set2 HY9.out (.int .i64 x.kind) (.int .i64 x.n))
                clear z0 z1 hfr HY9 HH9 HY8 HH8
                generalize (w9.setCell ⟨Y, 0, none⟩ (.int .i64 x.kind)).setCell ⟨Y, 1, none⟩ (.int .i64 x.n) = wS at *
                cases on with
                | false =>
                  go_wp2
                  go_roundw
                  case rel => exact ⟨m + 1, HM.out, by go_num, Lib.hid (HBM.out.trans (HHS.out.hb.mono HBM.out.size))⟩
                  case measure => have := HM.out; simp [intOf]; omega
                | true =>
                  have hbx : behV i u = some x := by
                    rcases HXO.out with h | h
                    · exact h.2
                    · exact absurd h.1 (by simp)
                  have HBX := Lib.hid hbx
                  clear hbx HXO HLB
                  obtain ⟨q0, q1, q2, q3, q4, q5, q6, q7, q8, q9, q10, q11, q12, q13, q14⟩ := nv15 HHS.out.bx
                  obtain ⟨si, hsi⟩ : ∃ si, Cd.sets i = si := ⟨_, rfl⟩
                  have HSI := Lib.hid hsi
                  have HSE : Hid (∀ w, Calls Try.prog 43 #[inV i] w (RPost (.int .i64 si) w)) := Lib.hid (fun w => hsi ▸ sets_any i w)
                  clear hsi
                  go_upto_if 108 with ((with_reducible refine (HSE.out _).mono ?_); rintro e w10 ⟨rfl, hb10⟩; have HH10 := Lib.hid (HHS.out.below hb10); have HY10 := Lib.hid ((hb10.block _ (lt_heap HYS.out)).trans HYS.out); clear hb10 q0 q1 q2 q3 q4 q5 q6 q7 q8 q9 q10 q11 q12 q13 q14)
                  go_cut [] from 109 to 112 (fun wc => Hid (HoSt wB wc i g' (setV i u x)))
                  case first =>
                    by_cases hs : 0 ≤ si
                    · obtain ⟨s, rfl⟩ : ∃ s : Nat, si = (s : Int) := ⟨si.toNat, by omega⟩
                      have hsl : (s : Int) < (u.length : Int) := by have := sets_lt HII.out (by have := HLU.out; omega); have := HLU.out; have := HSI.out; omega
                      have s0 : (0 : Int) ≤ (s : Int) := Int.natCast_nonneg _
                      have HE : Hid (setV i u x = u.set s x) := Lib.hid (by unfold setV; rw [HSI.out, if_pos hs]; simp)
                      obtain ⟨y, hy⟩ : ∃ y, u[s]? = some y := ⟨_, List.getElem?_eq_getElem (by omega)⟩
                      clear hs
                      obtain ⟨z0, z1⟩ := nv2 HY10.out
                      obtain ⟨c0, c1⟩ := HH10.out.rw.cells hy
                      have hfr : ∀ j, w10.frozen? ⟨g', j, none⟩ = false := fun j => HH10.out.rw.frozen j
                      have hgl := HH10.out.rw.lt
                      go_wp2
                      go_meet
                      case rel => exact Lib.hid (by rw [HE.out]; exact HH10.out.set (k := s) (by omega) x)
                    · have HE : Hid (setV i u x = u) := Lib.hid (by unfold setV; rw [HSI.out, if_neg hs])
                      go_wp2
                      go_meet
                      case rel => exact Lib.hid (by rw [HE.out]; exact HH10.out)
                  case rest =>
                    have HHC := Lib.hid hcut.out
                    have HUL : Hid ((setV i u x).length = u.length) := Lib.hid (setV_len i u x)
                    have HED : Hid (∀ p ∈ goesV i (setV i u x) (m : Int), ∀ t, S[p.toNat]? = some t → withinL (setV i u x) t) := Lib.hid (fun p hp t ht => HSO.out.pre.edge m i u x HIK.out HUK.out HFU.out HBX.out p (by rw [goesV_set] at hp; exact hp) t ht)
                    have HOV : Hid (∀ a ∈ setV i u x, OkV a) := Lib.hid (set_ok HOU.out (beh_ok HII.out HLU.out HOU.out HBX.out))
                    have HNE : Hid (∀ q ∈ next i (m : Int), 0 ≤ q ∧ q < (r.f.code.length : Int)) := Lib.hid (fun q hq => closed_of HR.out (m : Int) ⟨m0, m1⟩ q (by rw [nexts_at (by rw [Int.toNat_natCast]; exact HIK.out)]; exact hq))
                    have HRI : Hid (i.kind = 12 → 0 ≤ i.a ∧ i.a < (u.length : Int)) := Lib.hid (fun h => (regIn_of HII.out HLU.out).1 i.a (by unfold uses; simp [h]; exact .inl (by decide)))
                    have HSG : Hid (∀ (j : Nat) (q : Int), (next i (m : Int))[j]? = some q → skipB i (setV i u x) j = false → q ∈ goesV i (setV i u x) (m : Int)) := Lib.hid (fun j q h1 h2 => skip_goes h1 h2)
                    have hns : (next i (m : Int)).length ≤ 2 := by unfold next; split <;> (try split) <;> (try split) <;> simp
                    have HNX := Lib.hid (fun w => next_any i (m : Int) ⟨m0, by have := HM6.out; omega⟩ w)
                    clear hcut HHS HYS HOU HBX HFU HUK
                    generalize setV i u x = uv at *
                    generalize next i (m : Int) = ns at *
                    obtain ⟨q0, q1, q2, q3, q4, q5, q6, q7, q8, q9, q10, q11, q12, q13, q14⟩ := nv15 HHC.out.bx
                    go_wp2_with ((with_reducible refine (HNX.out _).mono ?_); rintro e w11 ⟨v11, rfl, ho11, hb11⟩; obtain ⟨na, nc, rfl⟩ := row_slice ho11; have HO11 := Lib.hid (LiesIn.of_own ho11); have HH11 := Lib.hid (HHC.out.below hb11); clear ho11 hb11 q0 q1 q2 q3 q4 q5 q6 q7 q8 q9 q10 q11 q12 q13 q14)
                    go_loopw [117] (fun s117 wr => ∃ j : Nat, j ≤ ns.length ∧ s117 = .int .i64 (j : Int) ∧ Hid (Below w11.heap.size w11 wr)) (fun s117 wr => ns.length - (intOf s117).toNat)
                    case atStart => exact ⟨0, by omega, rfl, Lib.hid (Below.refl _ _)⟩
                    case round =>
                      obtain ⟨j, hj, rfl, HB12⟩ := hrel
                      have HH12 := Lib.hid (HH11.out.below HB12.out)
                      have j0 : (0 : Int) ≤ (j : Int) := Int.natCast_nonneg _
                      by_cases hjl : j < ns.length
                      · have j1 : (j : Int) < (ns.length : Int) := by omega
                        obtain ⟨q, hq⟩ : ∃ q, ns[j]? = some q := ⟨_, List.getElem?_eq_getElem hjl⟩
                        obtain ⟨p, rfl⟩ : ∃ p : Nat, q = (p : Int) := ⟨q.toNat, by have := (HNE.out q (List.mem_of_getElem? hq)).1; omega⟩
                        have hpn := (HNE.out _ (List.mem_of_getElem? hq)).2
                        obtain ⟨nb, noff, rfl, hnb1, hnb, hna⟩ := HO11.out (by rw [List.length_map]; omega)
                        have hnc := (HB12.out.cell (p := ⟨nb, noff + j, none⟩) hnb).trans (hna j _ (by rw [List.getElem?_map, hq]; rfl))
                        have hnl : nb < wr.heap.size := by have := HB12.out.size; omega
                        obtain ⟨q0, q1, q2, q3, q4, q5, q6, q7, q8, q9, q10, q11, q12, q13, q14⟩ := nv15 HH12.out.bx
                        have HJ := Lib.hid hjl; have HQ := Lib.hid hq
                        have p0 : (0 : Int) ≤ (p : Int) := Int.natCast_nonneg _
                        have p1 : (p : Int) < (S.length : Int) := by have := HEQ.out; omega
                        clear hjl hna hq
                        obtain ⟨wD, hwD⟩ : ∃ x, x = wr := ⟨_, rfl⟩
                        subst hwD
                        go_upto_region 40 with fail
                        go_cut [145] from 122 to 145 (fun s145 wx => s145 = .bool (skipB i uv j) ∧ wx = wD)
                        case first =>
                          by_cases hk : i.kind = 12
                          · rw [hk] at q0
                            obtain ⟨a0, a1⟩ := HRI.out hk
                            obtain ⟨a, ha⟩ : ∃ a : Nat, i.a = (a : Int) := ⟨i.a.toNat, by omega⟩
                            rw [ha] at q3
                            have b0 : (0 : Int) ≤ (a : Int) := Int.natCast_nonneg _
                            have b1 : (a : Int) < (u.length : Int) := by omega
                            obtain ⟨y, hy⟩ : ∃ y, uv[a]? = some y := ⟨_, List.getElem?_eq_getElem (by have := HUL.out; omega)⟩
                            obtain ⟨c0, c1⟩ := HH12.out.rw.cells hy
                            have hgd : uv.getD i.a.toNat ⟨0, 0⟩ = y := by rw [ha]; simp [List.getD_eq_getElem?_getD, hy]
                            have HSK : Hid (skipB i uv j = (decide (y.kind = 1) && ((y.n != 0) != decide (j = 0)))) := Lib.hid (by unfold skipB; rw [hgd, decide_eq_true hk]; simp)
                            have hgl := HH12.out.rw.lt
                            clear hgd hy a0 a1 ha hk
                            obtain ⟨yk, yn⟩ := y
                            by_cases hyk : yk = 1
                            · subst hyk
                              by_cases hyn : yn = 0
                              · subst hyn
                                by_cases hj0 : j = 0
                                · subst hj0
                                  go_wp2
                                  go_meet
                                  case rel => exact ⟨by rw [HSK.out]; simp, rfl⟩
                                · have tj : ((j : Int) == 0) = false := by simpa using hj0
                                  go_wp2
                                  go_meet
                                  case rel => exact ⟨by rw [HSK.out]; simp [hj0], rfl⟩
                              · have tn : ((yn : Int) != 0) = true := by simpa using hyn
                                by_cases hj0 : j = 0
                                · subst hj0
                                  go_wp2
                                  go_meet
                                  case rel => exact ⟨by rw [HSK.out]; simp [hyn], rfl⟩
                                · have tj : ((j : Int) == 0) = false := by simpa using hj0
                                  go_wp2
                                  go_meet
                                  case rel => exact ⟨by rw [HSK.out]; simp [hj0, hyn], rfl⟩
                            · have tk : ((yk : Int) == 1) = false := by simpa using hyk
                              go_wp2
                              go_meet
                              case rel => exact ⟨by rw [HSK.out]; simp [hyk], rfl⟩
                          · have tk : ((i.kind : Int) == 12) = false := by simpa using hk
                            go_wp2
                            go_meet
                            case rel => exact ⟨by unfold skipB; simp [hk], rfl⟩
                        case rest =>
                          obtain ⟨rfl, hw⟩ := hcut
                          subst hw
                          obtain ⟨wD, hwD⟩ : ∃ x, x = wc := ⟨_, rfl⟩
                          subst hwD
                          cases hsk : skipB i uv j with
                          | true =>
                            go_wp2
                            go_roundw
                            case rel => exact ⟨j + 1, HJ.out, by go_num, HB12⟩
                            case measure => have := HJ.out; simp [intOf]; omega
                          | false =>
                            obtain ⟨t, ht⟩ : ∃ t, S[p]? = some t := ⟨_, List.getElem?_eq_getElem (by have := HEQ.out; omega)⟩
                            have hwi := HED.out _ (HSG.out j _ HQ.out hsk) t (by rw [Int.toNat_natCast]; exact ht)
                            obtain ⟨_, _, pt, pct, e9, htb9, hct, hpt⟩ := (HTM.out.below HH12.out.hb).at ht
                            injection e9 with e9
                            injection e9 with e1 e2
                            subst e1 e2
                            have HOT := Lib.hid (HSO.out.ok t (List.mem_of_getElem? ht))
                            have HWI := Lib.hid hwi; have HPT := Lib.hid hpt; have HCT := Lib.hid hct; have HTL := Lib.hid htb9
                            clear hsk ht hwi hpt hct htb9 q0 q1 q2 q3 q4 q5 q6 q7 q8 q9 q10 q11 q12 q13 q14 hnc
                            go_wp2
                            go_loopw [148] (fun s148 wr => ∃ z : Nat, z ≤ u.length ∧ s148 = .int .i64 (z : Int) ∧ Hid (Below wD.heap.size wD wr)) (fun s148 wr => u.length - (intOf s148).toNat)
                            case atStart => exact ⟨0, by omega, rfl, Lib.hid (Below.refl _ _)⟩
                            case round =>
                              obtain ⟨z, hz, rfl, HB13⟩ := hrel
                              have z0 : (0 : Int) ≤ (z : Int) := Int.natCast_nonneg _
                              by_cases hzl : z < u.length
                              · have z1 : (z : Int) < (u.length : Int) := by omega
                                have z2 : (z : Int) < (t.length : Int) := by have := HWI.out.1; have := HUL.out; omega
                                obtain ⟨a, ha⟩ : ∃ a, uv[z]? = some a := ⟨_, List.getElem?_eq_getElem (by have := HUL.out; omega)⟩
                                obtain ⟨b, hb⟩ : ∃ b, t[z]? = some b := ⟨_, List.getElem?_eq_getElem (by omega)⟩
                                have HWC := Lib.hid (fun W => within_c a b W (HOV.out a (List.mem_of_getElem? ha)) (HOT.out b (List.mem_of_getElem? hb)) (HWI.out.2 z a b ha hb))
                                obtain ⟨c0, c1⟩ := (HH12.out.rw.below HB13.out).cells ha
                                have hgl := (HH12.out.rw.below HB13.out).lt
                                obtain ⟨bt, boff, rfl, hbt, hbB, d0, d1⟩ := ValsAt.cells (HPT.out.below HB13.out) hb
                                have hct13 : wr.cell? ⟨tb, toff + p, none⟩ = some (.slice (some ⟨bt, boff, none⟩) t.length pct) := (HB13.out.cell (p := ⟨tb, toff + p, none⟩) HTL.out).trans HCT.out
                                have htl : tb < wr.heap.size := by have := HB13.out.size; have := HTL.out; omega
                                have hbl : bt < wr.heap.size := by omega
                                have HZ := Lib.hid hzl
                                clear ha hb hzl hbt hbB
                                obtain ⟨ak, an⟩ := a
                                obtain ⟨bk, bn⟩ := b
                                obtain ⟨wE, hwE⟩ : ∃ x, x = wr := ⟨_, rfl⟩
                                subst hwE
                                go_upto_region 44 with fail
                                go_cut [164] from 151 to 164 (fun s164 wx => s164 = .bool false ∧ Hid (Below wE.heap.size wE wx))
                                case first =>
                                  go_region_with ((with_reducible refine (HWC.out _).mono ?_); rintro e w' ⟨rfl, hb⟩; have HB9 : Hid (Below wE.heap.size wE w') := Lib.hid ((drW (Below.refl wE.heap.size wE)).trans hb); clear hb)
                                  all_goals (go_wp2; go_meet; case rel => exact ⟨by simp, HB9⟩)
                                case rest =>
                                  obtain ⟨rfl, HB14⟩ := hcut
                                  go_wp2
                                  go_roundw
                                  case rel => exact ⟨z + 1, HZ.out, by go_num, Lib.hid (HB13.out.trans (HB14.out.mono HB13.out.size))⟩
                                  case measure => have := HZ.out; simp [intOf]; omega
                              · obtain rfl : z = u.length := by omega
                                go_wp2
                                go_roundw
                                case rel => exact ⟨j + 1, HJ.out, by go_num, Lib.hid (HB12.out.trans (HB13.out.mono HB12.out.size))⟩
                                case measure => have := HJ.out; simp [intOf]; omega
                      · obtain rfl : j = ns.length := by omega
                        go_wp2
                        go_roundw
                        case rel => exact ⟨m + 1, HM.out, by go_num, Lib.hid (HBM.out.trans (HH12.out.hb.mono HBM.out.size))⟩
                        case measure => have := HM.out; simp [intOf]; omega
        · obtain rfl : m = r.f.code.length := by omega
          go_wp2_with (((with_reducible refine (awake11_any _).mono ?_); rintro e w5 ⟨rfl, hb5⟩; have HS5 := Lib.hid (HSM.out.below hb5); clear hb5))
          go_ret
          exact ⟨rfl, HS5.out.hb⟩
theorem holds_any (r : FnR) (W : World) (h : FnK W r) : Calls Try.prog 10 #[fnV r] W (RPost (.bool true) W) := by
  by_cases hf : few11 r.f = true
  · by_cases hr : RightF r.f
    · exact holds_yes r W h hf hr
    · exact holds_no r W h hf (by rw [← Bool.not_eq_true, rightF_iff]; exact hr)
  · exact holds_few r W h (by simpa using hf)
end Go.Proofs.Ytbalbdhbmcdbaaa
