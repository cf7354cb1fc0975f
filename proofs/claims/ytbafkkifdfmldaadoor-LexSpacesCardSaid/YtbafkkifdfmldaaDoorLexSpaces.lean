/-
  The walk of LexSpaces.
-/
import Derived.Test.YtbafkkifdfmldaaDoorSpacesL
import Derived.Test.YtbafkkifdfmldaaDoorWords
import Derived.Test.YtbafkkifdfmldaaDoorLexAgain
import Derived.IntWalk
namespace Go.Proofs.YtbafkkifdfmldaaDoor.lexSpaces
open Go.RowKit Sp
set_option linter.unusedVariables false

set_option maxHeartbeats 16000000 in
set_option maxRecDepth 100000 in
theorem walk (a0 : ByteArray) (_w0 : a0.size ≤ maxLen) (a1 : ByteArray) (_w1 : a1.size ≤ maxLen) (a2 : ByteArray) (_w2 : a2.size ≤ maxLen) (a3 : Int) (_w3 : (Lit.int .u8 a3).wf = true) (w : World) (henv : Env w) :
    Calls Tryd.prog 7 #[.string a0, .string a1, .string a2, .int .u8 a3] w fun e w' => e = .returned (.bool true) ∧ Below w.heap.size w w' := by
  have HE := Lib.hid henv; clear henv
  have hk : 0 ≤ a3 ∧ a3 ≤ 255 := by simp [Lit.wf] at _w3; have e1 : IntKind.u8.min = 0 := rfl; have e2 : IntKind.u8.max = 255 := rfl; omega
  obtain ⟨k0, k1⟩ := hk
  unfold maxLen at _w0 _w1 _w2
  clear _w3
  by_cases hbig : (2000 < a0.size ∨ 2000 < a1.size) ∨ 100 < a2.size
  · rcases hbig with (h | h) | h
    all_goals
      go_enter Tryd.func7, Tryd.ntmps7
      go_wp2_with ((with_reducible refine (awake_any _ HE.out).mono ?_); rintro e w1 ⟨rfl, hb⟩)
      all_goals
        go_ret
        exact ⟨rfl, hb⟩
  · have h1 : a0.size ≤ 2000 := by omega
    have h2 : a1.size ≤ 2000 := by omega
    have h3 : a2.size ≤ 100 := by omega
    clear hbig _w0 _w1 _w2
    -- the strings
    have htm : a3.tmod 4 = a3 % 4 := Int.tmod_eq_emod_of_nonneg k0
    obtain ⟨jn, hjn⟩ : ∃ jn : Nat, a3.tmod 4 = (jn : Int) := ⟨(a3.tmod 4).toNat, by omega⟩
    have hj4 : jn < 4 := by omega
    have hjm : a3 % 4 = (jn : Int) := by omega
    clear htm
    go_enter Tryd.func7, Tryd.ntmps7
    go_wp2
    go_loop [42] (fun i => ∃ k : Nat, k ≤ a2.size ∧ Hid (NoC a2 k) ∧ i = .int .i64 k) (fun i => a2.size - (intOf i).toNat)
    case atStart => exact ⟨0, Nat.zero_le _, Lib.hid (fun j _ h => by omega), rfl⟩
    case round =>
      obtain ⟨k, hk, HN, rfl⟩ := hrel
      by_cases hlt : k < a2.size
      · have hcl := a2[k].toNat_lt
        by_cases hc : a2[k].toNat = 42 ∨ a2[k].toNat = 10
        · rcases hc with hc | hc
          all_goals
            go_wp2_with ((with_reducible refine (awake_any _ HE.out).mono ?_); rintro e w1 ⟨rfl, hb⟩)
            go_ret
            exact ⟨rfl, hb⟩
        · have n1 : ((a2[k].toNat : Int) == 42) = false := by simp; omega
          have n2 : ((a2[k].toNat : Int) == 10) = false := by simp; omega
          have HN2 := Lib.hid (HN.out.next hlt (by omega) (by omega))
          clear hc
          go_wp2
          go_round
          case rel => exact ⟨k + 1, by omega, HN2, by go_num⟩
          case measure => simp [intOf]; omega
      · obtain rfl : k = a2.size := by omega
        obtain ⟨c1, hc1⟩ : ∃ c, (⟨#[47, 47]⟩ : ByteArray) ++ a2 = c := ⟨_, rfl⟩
        obtain ⟨c2, hc2⟩ : ∃ c, c1 ++ (⟨#[10]⟩ : ByteArray) = c := ⟨_, rfl⟩
        obtain ⟨c3, hc3⟩ : ∃ c, (⟨#[47, 42]⟩ : ByteArray) ++ a2 = c := ⟨_, rfl⟩
        obtain ⟨c4, hc4⟩ : ∃ c, c3 ++ (⟨#[42, 47]⟩ : ByteArray) = c := ⟨_, rfl⟩
        have z1 : (⟨#[47, 47]⟩ : ByteArray).size = 2 := rfl
        have z2 : (⟨#[10]⟩ : ByteArray).size = 1 := rfl
        have z3 : (⟨#[47, 42]⟩ : ByteArray).size = 2 := rfl
        have z4 : (⟨#[42, 47]⟩ : ByteArray).size = 2 := rfl
        have z5 : (⟨#[32]⟩ : ByteArray).size = 1 := rfl
        have y1 := cat_size hc1
        have y2 := cat_size hc2
        have y3 := cat_size hc3
        have y4 := cat_size hc4
        have q1 := cat_run hc1 (by omega)
        have q2 := cat_run hc2 (by omega)
        have q3 := cat_run hc3 (by omega)
        have q4 := cat_run hc4 (by omega)
        have l2 : c2.data.toList = 47 :: 47 :: (a2.data.toList ++ [10]) := by rw [cat_list hc2, cat_list hc1]; rfl
        have l4 : c4.data.toList = 47 :: 42 :: (a2.data.toList ++ [42, 47]) := by rw [cat_list hc4, cat_list hc3]; rfl
        obtain ⟨bw, hbw⟩ : ∃ bw, btw c2 c4 jn = bw := ⟨_, rfl⟩
        have lb : bw.data.toList = between a2.data.toList jn := by rw [← hbw]; exact btw_list c2 c4 a2 jn hj4 l2 l4
        have hG : Gapped bw.data.toList := by rw [lb]; exact gapped_between _ _ HN.out.all.1 HN.out.all.2
        have yb : bw.size ≤ 200 := by
          rw [← hbw]
          match jn, hj4 with
          | 0, _ => show (⟨#[10]⟩ : ByteArray).size ≤ 200; decide
          | 1, _ => show (⟨#[9, 32, 13, 10]⟩ : ByteArray).size ≤ 200; decide
          | 2, _ => show c2.size ≤ 200; omega
          | 3, _ => show c4.size ≤ 200; omega
        obtain ⟨d1, hd1⟩ : ∃ d, a0 ++ (⟨#[32]⟩ : ByteArray) = d := ⟨_, rfl⟩
        obtain ⟨d2, hd2⟩ : ∃ d, d1 ++ a1 = d := ⟨_, rfl⟩
        obtain ⟨d3, hd3⟩ : ∃ d, d1 ++ bw = d := ⟨_, rfl⟩
        obtain ⟨d4, hd4⟩ : ∃ d, d3 ++ a1 = d := ⟨_, rfl⟩
        have y5 := cat_size hd1
        have y6 := cat_size hd2
        have y7 := cat_size hd3
        have y8 := cat_size hd4
        have q5 := cat_run hd1 (by omega)
        have q6 := cat_run hd2 (by omega)
        have q7 := cat_run hd3 (by omega)
        have q8 := cat_run hd4 (by omega)
        have L2 : Hid (d2.data.toList = a0.data.toList ++ 32 :: a1.data.toList) := Lib.hid (by rw [cat_list hd2, cat_list hd1]; simp)
        have L4 : Hid (d4.data.toList = a0.data.toList ++ 32 :: (bw.data.toList ++ a1.data.toList)) := Lib.hid (by rw [cat_list hd4, cat_list hd3, cat_list hd1]; simp)
        have M0 : Hid (a0.size ≤ maxLen) := Lib.hid (by unfold maxLen; omega)
        have M1 : Hid (d1.size ≤ maxLen) := Lib.hid (by unfold maxLen; omega)
        have M2 : Hid (d2.size ≤ maxLen) := Lib.hid (by unfold maxLen; omega)
        have M4 : Hid (d4.size ≤ maxLen) := Lib.hid (by unfold maxLen; omega)
        have hy5 : d1.size = a0.size + 1 := by omega
        -- the list of the four
        obtain ⟨W1, hW1⟩ : ∃ W1, w.alloc (.cells #[.string ⟨#[10]⟩, .string ⟨#[9, 32, 13, 10]⟩, .string c2, .string c4] 9) = W1 := ⟨_, rfl⟩
        have hcell : W1.cell? ⟨w.heap.size, jn, none⟩ = some (.string bw) := by rw [← hW1, cell_of_row _ _ _ _ _ _ (heap_alloc_new w _), btw_at c2 c4 jn hj4, hbw]
        have HB1 : Hid (Below w.heap.size w W1) := Lib.hid (by rw [← hW1]; exact (Below.refl _ _).alloc (Nat.le_refl _) _)
        have HE1 : Hid (Env W1) := Lib.hid (HE.out.below HB1.out HE.out.sz)
        obtain ⟨no1, hno1⟩ : ∃ n, lenR (Sp.scan (a0.data.toList ++ [10, 120])) = n := ⟨_, rfl⟩
        obtain ⟨no2, hno2⟩ : ∃ n, lenR (Sp.scan (a0.data.toList ++ [32, 120])) = n := ⟨_, rfl⟩
        have HO1 := Lib.hid hno1
        have HO2 := Lib.hid hno2
        have HG := Lib.hid hG
        have HYB := Lib.hid yb
        have jn0 : (0 : Int) ≤ (jn : Int) := Int.natCast_nonneg _
        have jn4 : (jn : Int) < 4 := by omega
        clear hno1 hno2 hG lb l2 l4 hbw hc1 hc2 hc3 hc4 hd1 hd2 hd3 hd4 z1 z2 z3 z4 z5 y1 y2 y3 y4 y5 y6 y7 y8 yb
        obtain ⟨nm, hnm⟩ : ∃ n, lenR (Sp.scan d4.data.toList) = n := ⟨_, rfl⟩
        have HNM := Lib.hid hnm
        clear hnm
        cases hr1 : Sp.scan d2.data.toList with
        | error x1 =>
          obtain ⟨p1, x1⟩ := x1
          have HR1 := Lib.hid hr1
          clear hr1
          cases hra : Sp.scan a0.data.toList with
          | error xa =>
            obtain ⟨pa, xa⟩ := xa
            have HRA := Lib.hid hra
            have hxa := scan_code hra
            have hne : ((xa : Int) != 0) = true := by simp; omega
            clear hra hxa
            go_wp2_with (first | ((with_reducible refine (scan_err d2 p1 x1 _ HE1.out M2.out HR1.out).mono ?_); rintro e w2 ⟨rfl, hb⟩; have HB2 := Lib.hid (HB1.out.trans (hb.mono HB1.out.size)); have HE2 : Hid (Env w2) := Lib.hid (HE1.out.below hb HE1.out.sz); clear hb) | ((with_reducible refine (scan_l d4 nm _ HE2.out M4.out HNM.out).mono ?_); rintro e w3 ⟨an3, cp3, pos3, er3, rfl, hb⟩; have HB3 := Lib.hid (HB2.out.trans (hb.mono HB2.out.size)); have HE3 : Hid (Env w3) := Lib.hid (HE2.out.below hb HE2.out.sz); clear hb) | ((with_reducible refine (scan_err a0 pa xa _ HE3.out M0.out HRA.out).mono ?_); rintro e w4 ⟨rfl, hb⟩; have HB4 := Lib.hid (HB3.out.trans (hb.mono HB3.out.size)); have HE4 : Hid (Env w4) := Lib.hid (HE3.out.below hb HE3.out.sz); clear hb) | ((with_reducible refine (awake_any _ HE4.out).mono ?_); rintro e w5 ⟨rfl, hb⟩; have HB5 := Lib.hid (HB4.out.trans (hb.mono HB4.out.size)); clear hb))
            go_ret
            exact ⟨rfl, HB5.out⟩
          | ok ta =>
            have HRA := Lib.hid hra
            clear hra
            have hta1 : 0 < ta.length := List.length_pos_iff.2 (scan_ne HRA.out)
            by_cases hoo : no1 = no2
            · have hob : ((no1 : Int) != (no2 : Int)) = false := by simp [hoo]
              have HSP := strip_res (spaces a0.data.toList a1.data.toList bw.data.toList ta HG.out (by simpa using h1) (by simpa using h2) (by simpa using HYB.out) HRA.out (by rw [HO1.out, HO2.out, hoo]))
              rw [← L2.out, ← L4.out, HR1.out] at HSP
              obtain ⟨p2, hr2⟩ : ∃ p2, Sp.scan d4.data.toList = .error (p2, x1) := by
                rcases HSP with ⟨u, u2, e1, e2, e3⟩ | ⟨p, p', x, e1, e2⟩
                · cases e1
                · injection e1 with e1; injection e1 with e1 e3; subst e3; exact ⟨p', e2⟩
              have HR2 := Lib.hid hr2
              clear hr2 HSP
              have HOO := Lib.hid hoo
              clear hoo
              go_wp2_with (first | ((with_reducible refine (scan_err d2 p1 x1 _ HE1.out M2.out HR1.out).mono ?_); rintro e w2 ⟨rfl, hb⟩; have HB2 := Lib.hid (HB1.out.trans (hb.mono HB1.out.size)); have HE2 : Hid (Env w2) := Lib.hid (HE1.out.below hb HE1.out.sz); clear hb) | ((with_reducible refine (scan_err d4 p2 x1 _ HE2.out M4.out HR2.out).mono ?_); rintro e w3 ⟨rfl, hb⟩; have HB3 := Lib.hid (HB2.out.trans (hb.mono HB2.out.size)); have HE3 : Hid (Env w3) := Lib.hid (HE2.out.below hb HE2.out.sz); clear hb) | ((with_reducible refine (scan_ok a0 ta _ HE3.out M0.out HRA.out).mono ?_); rintro e w4 ⟨g4, cap4, rfl, _, hb⟩; have HB4 := Lib.hid (HB3.out.trans (hb.mono HB3.out.size)); have HE4 : Hid (Env w4) := Lib.hid (HE3.out.below hb HE3.out.sz); clear hb))
              have HE5 := HE4
              have HB5 := HB4
              go_loop [99] (fun i => i = .int .i64 0) (fun i => 0)
              case atStart => rfl
              case round =>
                subst hrel
                cases hrn : Sp.scan d1.data.toList with
                | error xn =>
                  obtain ⟨pn, xn⟩ := xn
                  have HRN := Lib.hid hrn
                  have hxn := scan_code hrn
                  have hnen : ((xn : Int) != 0) = true := by simp; omega
                  clear hrn hxn
                  go_wp2_with (first | ((with_reducible refine (scan_err d1 pn xn _ HE5.out M1.out HRN.out).mono ?_); rintro e w6 ⟨rfl, hb⟩; have HB6 := Lib.hid (HB5.out.trans (hb.mono HB5.out.size)); have HE6 : Hid (Env w6) := Lib.hid (HE5.out.below hb HE5.out.sz); clear hb) | ((with_reducible refine (awake_any _ HE6.out).mono ?_); rintro e w7 ⟨rfl, hb⟩; have HB7 := Lib.hid (HB6.out.trans (hb.mono HB6.out.size)); clear hb))
                  go_ret
                  exact ⟨rfl, HB7.out⟩
                | ok tn =>
                  have HRN := Lib.hid hrn
                  have htn1 : 0 < tn.length := List.length_pos_iff.2 (scan_ne hrn)
                  have htn2 : tn.length ≤ 8193 := scan_few hrn
                  clear hrn
                  obtain ⟨mm, hmm⟩ : ∃ m, tn.length - 1 = m := ⟨_, rfl⟩
                  obtain ⟨tl, htl⟩ : ∃ t, tn[mm]? = some t := ⟨tn[mm]'(by omega), List.getElem?_eq_getElem _⟩
                  have hmi : ((tn.length : Int) - 1) = (mm : Int) := by omega
                  have hwm : IntKind.i64.wrap ((tn.length : Int) - 1) = (mm : Int) := by rw [IntWalk.i64_in _ (by omega)]; omega
                  have hm0 : (0 : Int) ≤ (mm : Int) := Int.natCast_nonneg _
                  have hm1 : (mm : Int) < (tn.length : Int) := by omega
                  have hn0 : ((tn.length : Int) == 0) = false := by rw [beq_eq_false_iff_ne]; omega
                  have HTN := Lib.hid htl
                  have HMM := Lib.hid hmm
                  clear htl hmm
                  by_cases hat : tl.pos = a0.size + 1
                  · have hab : ((tl.pos : Int) != (a0.size : Int) + 1) = false := by simp; omega
                    have HAT := Lib.hid hat
                    clear hat
                    go_wp2_with (first | ((with_reducible refine (scan_ok d1 tn _ HE5.out M1.out HRN.out).mono ?_); rintro e w6 ⟨g6, cap6, rfl, ht6, hb⟩; obtain ⟨_, _, _, k3⟩ := ht6.at HTN.out; clear ht6; have HB6 := Lib.hid (HB5.out.trans (hb.mono HB5.out.size)); have HE6 : Hid (Env w6) := Lib.hid (HE5.out.below hb HE5.out.sz); clear hb) | ((with_reducible refine (open_is a0 no1 no2 _ HE6.out h1 HO1.out HO2.out).mono ?_); rintro e w7 ⟨rfl, hb⟩; have HB7 := Lib.hid (HB6.out.trans (hb.mono HB6.out.size)); have HE7 : Hid (Env w7) := Lib.hid (HE6.out.below hb HE6.out.sz); clear hb))
                    go_loop [165] (fun i => i = .int .i64 0) (fun i => 0)
                    case atStart => rfl
                    case round =>
                      subst hrel
                      go_wp2_with (first | ((with_reducible refine (same_nil _).mono ?_); rintro e w8 ⟨rfl, hb⟩; have HB8 := Lib.hid (HB7.out.trans (hb.mono HB7.out.size)); have HE8 : Hid (Env w8) := Lib.hid (HE7.out.below hb HE7.out.sz); clear hb) | ((with_reducible refine (awake_any _ HE8.out).mono ?_); rintro e w9 ⟨rfl, hb⟩; have HB9 := Lib.hid (HB8.out.trans (hb.mono HB8.out.size)); clear hb))
                      go_ret
                      exact ⟨rfl, HB9.out⟩
                  · have hab : ((tl.pos : Int) != (a0.size : Int) + 1) = true := by simp; omega
                    have HAT := Lib.hid hat
                    clear hat
                    go_wp2_with (first | ((with_reducible refine (scan_ok d1 tn _ HE5.out M1.out HRN.out).mono ?_); rintro e w6 ⟨g6, cap6, rfl, ht6, hb⟩; obtain ⟨_, _, _, k3⟩ := ht6.at HTN.out; clear ht6; have HB6 := Lib.hid (HB5.out.trans (hb.mono HB5.out.size)); have HE6 : Hid (Env w6) := Lib.hid (HE5.out.below hb HE5.out.sz); clear hb) | ((with_reducible refine (awake_any _ HE6.out).mono ?_); rintro e w7 ⟨rfl, hb⟩; have HB7 := Lib.hid (HB6.out.trans (hb.mono HB6.out.size)); clear hb))
                    go_ret
                    exact ⟨rfl, HB7.out⟩
            · have hob : ((no1 : Int) != (no2 : Int)) = true := by simp; omega
              clear hoo
              go_wp2_with (first | ((with_reducible refine (scan_err d2 p1 x1 _ HE1.out M2.out HR1.out).mono ?_); rintro e w2 ⟨rfl, hb⟩; have HB2 := Lib.hid (HB1.out.trans (hb.mono HB1.out.size)); have HE2 : Hid (Env w2) := Lib.hid (HE1.out.below hb HE1.out.sz); clear hb) | ((with_reducible refine (scan_l d4 nm _ HE2.out M4.out HNM.out).mono ?_); rintro e w3 ⟨an3, cp3, pos3, er3, rfl, hb⟩; have HB3 := Lib.hid (HB2.out.trans (hb.mono HB2.out.size)); have HE3 : Hid (Env w3) := Lib.hid (HE2.out.below hb HE2.out.sz); clear hb) | ((with_reducible refine (scan_ok a0 ta _ HE3.out M0.out HRA.out).mono ?_); rintro e w4 ⟨g4, cap4, rfl, _, hb⟩; have HB4 := Lib.hid (HB3.out.trans (hb.mono HB3.out.size)); have HE4 : Hid (Env w4) := Lib.hid (HE3.out.below hb HE3.out.sz); clear hb))
              have HE5 := HE4
              have HB5 := HB4
              go_loop [99] (fun i => i = .int .i64 0) (fun i => 0)
              case atStart => rfl
              case round =>
                subst hrel
                cases hrn : Sp.scan d1.data.toList with
                | error xn =>
                  obtain ⟨pn, xn⟩ := xn
                  have HRN := Lib.hid hrn
                  have hxn := scan_code hrn
                  have hnen : ((xn : Int) != 0) = true := by simp; omega
                  clear hrn hxn
                  go_wp2_with (first | ((with_reducible refine (scan_err d1 pn xn _ HE5.out M1.out HRN.out).mono ?_); rintro e w6 ⟨rfl, hb⟩; have HB6 := Lib.hid (HB5.out.trans (hb.mono HB5.out.size)); have HE6 : Hid (Env w6) := Lib.hid (HE5.out.below hb HE5.out.sz); clear hb) | ((with_reducible refine (awake_any _ HE6.out).mono ?_); rintro e w7 ⟨rfl, hb⟩; have HB7 := Lib.hid (HB6.out.trans (hb.mono HB6.out.size)); clear hb))
                  go_ret
                  exact ⟨rfl, HB7.out⟩
                | ok tn =>
                  have HRN := Lib.hid hrn
                  have htn1 : 0 < tn.length := List.length_pos_iff.2 (scan_ne hrn)
                  have htn2 : tn.length ≤ 8193 := scan_few hrn
                  clear hrn
                  obtain ⟨mm, hmm⟩ : ∃ m, tn.length - 1 = m := ⟨_, rfl⟩
                  obtain ⟨tl, htl⟩ : ∃ t, tn[mm]? = some t := ⟨tn[mm]'(by omega), List.getElem?_eq_getElem _⟩
                  have hmi : ((tn.length : Int) - 1) = (mm : Int) := by omega
                  have hwm : IntKind.i64.wrap ((tn.length : Int) - 1) = (mm : Int) := by rw [IntWalk.i64_in _ (by omega)]; omega
                  have hm0 : (0 : Int) ≤ (mm : Int) := Int.natCast_nonneg _
                  have hm1 : (mm : Int) < (tn.length : Int) := by omega
                  have hn0 : ((tn.length : Int) == 0) = false := by rw [beq_eq_false_iff_ne]; omega
                  have HTN := Lib.hid htl
                  have HMM := Lib.hid hmm
                  clear htl hmm
                  by_cases hat : tl.pos = a0.size + 1
                  · have hab : ((tl.pos : Int) != (a0.size : Int) + 1) = false := by simp; omega
                    have HAT := Lib.hid hat
                    clear hat
                    go_wp2_with (first | ((with_reducible refine (scan_ok d1 tn _ HE5.out M1.out HRN.out).mono ?_); rintro e w6 ⟨g6, cap6, rfl, ht6, hb⟩; obtain ⟨_, _, _, k3⟩ := ht6.at HTN.out; clear ht6; have HB6 := Lib.hid (HB5.out.trans (hb.mono HB5.out.size)); have HE6 : Hid (Env w6) := Lib.hid (HE5.out.below hb HE5.out.sz); clear hb) | ((with_reducible refine (open_is a0 no1 no2 _ HE6.out h1 HO1.out HO2.out).mono ?_); rintro e w7 ⟨rfl, hb⟩; have HB7 := Lib.hid (HB6.out.trans (hb.mono HB6.out.size)); have HE7 : Hid (Env w7) := Lib.hid (HE6.out.below hb HE6.out.sz); clear hb) | ((with_reducible refine (awake_any _ HE7.out).mono ?_); rintro e w8 ⟨rfl, hb⟩; have HB8 := Lib.hid (HB7.out.trans (hb.mono HB7.out.size)); clear hb))
                    go_ret
                    exact ⟨rfl, HB8.out⟩
                  · have hab : ((tl.pos : Int) != (a0.size : Int) + 1) = true := by simp; omega
                    have HAT := Lib.hid hat
                    clear hat
                    go_wp2_with (first | ((with_reducible refine (scan_ok d1 tn _ HE5.out M1.out HRN.out).mono ?_); rintro e w6 ⟨g6, cap6, rfl, ht6, hb⟩; obtain ⟨_, _, _, k3⟩ := ht6.at HTN.out; clear ht6; have HB6 := Lib.hid (HB5.out.trans (hb.mono HB5.out.size)); have HE6 : Hid (Env w6) := Lib.hid (HE5.out.below hb HE5.out.sz); clear hb) | ((with_reducible refine (awake_any _ HE6.out).mono ?_); rintro e w7 ⟨rfl, hb⟩; have HB7 := Lib.hid (HB6.out.trans (hb.mono HB6.out.size)); clear hb))
                    go_ret
                    exact ⟨rfl, HB7.out⟩
        | ok ts =>
          have HR1 := Lib.hid hr1
          have hts : ts.length ≤ 8193 := scan_few hr1
          clear hr1
          cases hra : Sp.scan a0.data.toList with
          | error xa =>
            obtain ⟨pa, xa⟩ := xa
            have HRA := Lib.hid hra
            have hxa := scan_code hra
            have hne : ((xa : Int) != 0) = true := by simp; omega
            clear hra hxa
            go_wp2_with (first | ((with_reducible refine (scan_ok d2 ts _ HE1.out M2.out HR1.out).mono ?_); rintro e w2 ⟨g, cap, rfl, ht, hb⟩; have HT := Lib.hid ht; have hg := ht.ge; clear ht; have HB2 := Lib.hid (HB1.out.trans (hb.mono HB1.out.size)); have HE2 : Hid (Env w2) := Lib.hid (HE1.out.below hb HE1.out.sz); clear hb) | ((with_reducible refine (scan_l d4 nm _ HE2.out M4.out HNM.out).mono ?_); rintro e w3 ⟨an3, cp3, pos3, er3, rfl, hb⟩; have HT3 := Lib.hid (HT.out.below hb (Nat.le_refl _)); have HB3 := Lib.hid (HB2.out.trans (hb.mono HB2.out.size)); have HE3 : Hid (Env w3) := Lib.hid (HE2.out.below hb HE2.out.sz); clear hb) | ((with_reducible refine (scan_err a0 pa xa _ HE3.out M0.out HRA.out).mono ?_); rintro e w4 ⟨rfl, hb⟩; have HB4 := Lib.hid (HB3.out.trans (hb.mono HB3.out.size)); have HE4 : Hid (Env w4) := Lib.hid (HE3.out.below hb HE3.out.sz); clear hb) | ((with_reducible refine (awake_any _ HE4.out).mono ?_); rintro e w5 ⟨rfl, hb⟩; have HB5 := Lib.hid (HB4.out.trans (hb.mono HB4.out.size)); clear hb))
            go_ret
            exact ⟨rfl, HB5.out⟩
          | ok ta =>
            have HRA := Lib.hid hra
            clear hra
            have hta1 : 0 < ta.length := List.length_pos_iff.2 (scan_ne HRA.out)
            by_cases hoo : no1 = no2
            · have hob : ((no1 : Int) != (no2 : Int)) = false := by simp [hoo]
              have HSP := strip_res (spaces a0.data.toList a1.data.toList bw.data.toList ta HG.out (by simpa using h1) (by simpa using h2) (by simpa using HYB.out) HRA.out (by rw [HO1.out, HO2.out, hoo]))
              rw [← L2.out, ← L4.out, HR1.out] at HSP
              obtain ⟨ts2, hr2, hmap⟩ : ∃ ts2, Sp.scan d4.data.toList = .ok ts2 ∧ ts.map strip = ts2.map strip := by
                rcases HSP with ⟨u, u2, e1, e2, e3⟩ | ⟨_, _, _, e1, _⟩
                · injection e1 with e1; subst e1; exact ⟨u2, e2, e3⟩
                · cases e1
              have hlen : ts2.length = ts.length := by have := congrArg List.length hmap; simpa using this.symm
              have HR2 := Lib.hid hr2
              have HMAP := Lib.hid hmap
              have HLEN := Lib.hid hlen
              clear hr2 hmap HSP
              have HOO := Lib.hid hoo
              clear hoo
              go_wp2_with (first | ((with_reducible refine (scan_ok d2 ts _ HE1.out M2.out HR1.out).mono ?_); rintro e w2 ⟨g, cap, rfl, ht, hb⟩; have HT := Lib.hid ht; have hg := ht.ge; clear ht; have HB2 := Lib.hid (HB1.out.trans (hb.mono HB1.out.size)); have HE2 : Hid (Env w2) := Lib.hid (HE1.out.below hb HE1.out.sz); clear hb) | ((with_reducible refine (scan_ok d4 ts2 _ HE2.out M4.out HR2.out).mono ?_); rintro e w3 ⟨g3, cap3, rfl, ht, hb⟩; have HU3 := Lib.hid ht; have hg3 := ht.ge; clear ht; have HT3 := Lib.hid (HT.out.below hb (Nat.le_refl _)); have HB3 := Lib.hid (HB2.out.trans (hb.mono HB2.out.size)); have HE3 : Hid (Env w3) := Lib.hid (HE2.out.below hb HE2.out.sz); clear hb) | ((with_reducible refine (scan_ok a0 ta _ HE3.out M0.out HRA.out).mono ?_); rintro e w4 ⟨g4, cap4, rfl, _, hb⟩; have HT4 := Lib.hid (HT3.out.below hb (Nat.le_refl _)); have HU4 := Lib.hid (HU3.out.below hb (Nat.le_refl _)); have HB4 := Lib.hid (HB3.out.trans (hb.mono HB3.out.size)); have HE4 : Hid (Env w4) := Lib.hid (HE3.out.below hb HE3.out.sz); clear hb))
              go_loopg [99] ts.length (fun gg s99 wr => ∃ i : Nat, gg = ts.length - i ∧ i ≤ ts.length ∧ s99 = .int .i64 i ∧ Hid (Below w4.heap.size w4 wr))
              case atStart => exact ⟨0, rfl, by omega, rfl, Lib.hid (Below.refl _ _)⟩
              case round =>
                obtain ⟨i, hgg, hi, rfl, HR⟩ := hrel
                subst hgg
                have HB5 : Hid (Below w.heap.size w wr) := Lib.hid (HB4.out.trans (HR.out.mono HB4.out.size))
                have HE5 : Hid (Env wr) := Lib.hid (HE4.out.below HR.out HE4.out.sz)
                by_cases hlt5 : i < ts.length
                · obtain ⟨t, hti⟩ : ∃ t, ts[i]? = some t := ⟨ts[i], List.getElem?_eq_getElem hlt5⟩
                  obtain ⟨e0, e1, e2, e3⟩ := (HT4.out.below HR.out (Nat.le_refl _)).at hti
                  obtain ⟨x, hx⟩ : ∃ x, bs t.text = x := ⟨_, rfl⟩
                  rw [hx] at e1
                  obtain ⟨z, hz⟩ : ∃ z, IntKind.i64.wrap ((t.pos : Int) + (x.size : Int)) = z := ⟨_, rfl⟩
                  have HWA : Hid (Env (wr.alloc (.cells #[.int .i64 t.k, .string x, .int .i64 t.n, .int .i64 t.pos] 32))) := Lib.hid (HE5.out.below ((Below.refl _ _).alloc (Nat.le_refl _) _) HE5.out.sz)
                  have HWB : Hid (Below w.heap.size w (wr.alloc (.cells #[.int .i64 t.k, .string x, .int .i64 t.n, .int .i64 t.pos] 32))) := Lib.hid (HB5.out.alloc HB5.out.size _)
                  have HRW : Hid (Below w4.heap.size w4 (wr.alloc (.cells #[.int .i64 t.k, .string x, .int .i64 t.n, .int .i64 t.pos] 32))) := Lib.hid (HR.out.alloc HR.out.size _)
                  have i0 : (0 : Int) ≤ (i : Int) := Int.natCast_nonneg _
                  have i1 : (i : Int) < (ts.length : Int) := by omega
                  have p0 : (0 : Int) ≤ (t.pos : Int) := Int.natCast_nonneg _
                  have HXX := Lib.hid hx
                  clear hti hx
                  by_cases hp : t.pos < a0.size
                  · have hp1 : (t.pos : Int) < (a0.size : Int) := by omega
                    by_cases hzz : (a0.size : Int) < z
                    · go_wp2_with (((with_reducible refine (awake_any _ HWA.out).mono ?_); rintro e w5 ⟨rfl, hb⟩; have HB5 := Lib.hid (HWB.out.trans (hb.mono HWB.out.size)); clear hb))
                      go_ret
                      exact ⟨rfl, HB5.out⟩
                    · have hz2 : z ≤ (a0.size : Int) := by omega
                      go_wp2
                      go_roundg (ts.length - (i + 1))
                      case measure => omega
                      case rel => exact ⟨i + 1, rfl, by omega, by go_num, HRW⟩
                  · have hp1 : (a0.size : Int) ≤ (t.pos : Int) := by omega
                    go_wp2
                    go_roundg (ts.length - (i + 1))
                    case measure => omega
                    case rel => exact ⟨i + 1, rfl, by omega, by go_num, HRW⟩
                · obtain rfl : i = ts.length := by omega
                  have HT5 := Lib.hid (HT4.out.below HR.out (Nat.le_refl _))
                  have HU5 := Lib.hid (HU4.out.below HR.out (Nat.le_refl _))
                  clear HT4
                  cases hrn : Sp.scan d1.data.toList with
                  | error xn =>
                    obtain ⟨pn, xn⟩ := xn
                    have HRN := Lib.hid hrn
                    have hxn := scan_code hrn
                    have hnen : ((xn : Int) != 0) = true := by simp; omega
                    clear hrn hxn
                    go_wp2_with (first | ((with_reducible refine (scan_err d1 pn xn _ HE5.out M1.out HRN.out).mono ?_); rintro e w6 ⟨rfl, hb⟩; have HB6 := Lib.hid (HB5.out.trans (hb.mono HB5.out.size)); have HE6 : Hid (Env w6) := Lib.hid (HE5.out.below hb HE5.out.sz); clear hb) | ((with_reducible refine (awake_any _ HE6.out).mono ?_); rintro e w7 ⟨rfl, hb⟩; have HB7 := Lib.hid (HB6.out.trans (hb.mono HB6.out.size)); clear hb))
                    go_ret
                    exact ⟨rfl, HB7.out⟩
                  | ok tn =>
                    have HRN := Lib.hid hrn
                    have htn1 : 0 < tn.length := List.length_pos_iff.2 (scan_ne hrn)
                    have htn2 : tn.length ≤ 8193 := scan_few hrn
                    clear hrn
                    obtain ⟨mm, hmm⟩ : ∃ m, tn.length - 1 = m := ⟨_, rfl⟩
                    obtain ⟨tl, htl⟩ : ∃ t, tn[mm]? = some t := ⟨tn[mm]'(by omega), List.getElem?_eq_getElem _⟩
                    have hmi : ((tn.length : Int) - 1) = (mm : Int) := by omega
                    have hwm : IntKind.i64.wrap ((tn.length : Int) - 1) = (mm : Int) := by rw [IntWalk.i64_in _ (by omega)]; omega
                    have hm0 : (0 : Int) ≤ (mm : Int) := Int.natCast_nonneg _
                    have hm1 : (mm : Int) < (tn.length : Int) := by omega
                    have hn0 : ((tn.length : Int) == 0) = false := by rw [beq_eq_false_iff_ne]; omega
                    have HTN := Lib.hid htl
                    have HMM := Lib.hid hmm
                    clear htl hmm
                    by_cases hat : tl.pos = a0.size + 1
                    · have hab : ((tl.pos : Int) != (a0.size : Int) + 1) = false := by simp; omega
                      have HAT := Lib.hid hat
                      clear hat
                      go_wp2_with (first | ((with_reducible refine (scan_ok d1 tn _ HE5.out M1.out HRN.out).mono ?_); rintro e w6 ⟨g6, cap6, rfl, ht6, hb⟩; obtain ⟨_, _, _, k3⟩ := ht6.at HTN.out; clear ht6; have HT6 := Lib.hid (HT5.out.below hb (Nat.le_refl _)); have HU6 := Lib.hid (HU5.out.below hb (Nat.le_refl _)); have HB6 := Lib.hid (HB5.out.trans (hb.mono HB5.out.size)); have HE6 : Hid (Env w6) := Lib.hid (HE5.out.below hb HE5.out.sz); clear hb) | ((with_reducible refine (open_is a0 no1 no2 _ HE6.out h1 HO1.out HO2.out).mono ?_); rintro e w7 ⟨rfl, hb⟩; have HT7 := Lib.hid (HT6.out.below hb (Nat.le_refl _)); have HU7 := Lib.hid (HU6.out.below hb (Nat.le_refl _)); have HB7 := Lib.hid (HB6.out.trans (hb.mono HB6.out.size)); have HE7 : Hid (Env w7) := Lib.hid (HE6.out.below hb HE6.out.sz); clear hb))
                      have hgb : w.heap.size ≤ g := by have := HB1.out.size; omega
                      have hgb3 : w.heap.size ≤ g3 := by have := HB2.out.size; omega
                      have hne : g ≠ g3 := by omega
                      have hne2 : g3 ≠ g := by omega
                      have HGB := Lib.hid hgb
                      have HGB3 := Lib.hid hgb3
                      obtain ⟨by1, hby1⟩ : ∃ n, W1.heap.size = n := ⟨_, rfl⟩
                      obtain ⟨by2, hby2⟩ : ∃ n, w2.heap.size = n := ⟨_, rfl⟩
                      have HT8 : Hid (Toks g cap by1 ts w7) := Lib.hid (hby1 ▸ HT7.out)
                      have HU8 : Hid (Toks g3 cap3 by2 ts2 w7) := Lib.hid (hby2 ▸ HU7.out)
                      go_loopg [165] ts.length (fun gg s60 wr => ∃ i : Nat, gg = ts.length - i ∧ i ≤ ts.length ∧ s60 = .int .i64 i ∧ Hid (Toks g cap by1 (zeroed i ts) wr ∧ Toks g3 cap3 by2 (zeroed i ts2) wr ∧ Below w.heap.size w wr))
                      case atStart => exact ⟨0, rfl, by omega, rfl, Lib.hid ⟨by rw [zeroed_0]; exact HT8.out, by rw [zeroed_0]; exact HU8.out, HB7.out⟩⟩
                      case round =>
                        obtain ⟨i, hgg, hi, rfl, HX⟩ := hrel
                        subst hgg
                        by_cases hlt8 : i < ts.length
                        · obtain ⟨t, hti⟩ : ∃ t, ts[i]? = some t := ⟨ts[i], List.getElem?_eq_getElem hlt8⟩
                          obtain ⟨t', hti'⟩ : ∃ t', ts2[i]? = some t' := ⟨ts2[i]'(by rw [HLEN.out]; exact hlt8), List.getElem?_eq_getElem (by rw [HLEN.out]; exact hlt8)⟩
                          obtain ⟨_, _, _, e3⟩ := HX.out.1.at (zeroed_at ts i t hti)
                          obtain ⟨_, _, _, f3⟩ := HX.out.2.1.at (zeroed_at ts2 i t' hti')
                          have fr1 := HX.out.1.free (i * 4 + 3)
                          have fr2 := HX.out.2.1.free (i * 4 + 3)
                          have HTI := Lib.hid hti
                          have HTI' := Lib.hid hti'
                          clear hti hti'
                          have i0 : (0 : Int) ≤ (i : Int) := Int.natCast_nonneg _
                          have i1 : (i : Int) < (ts.length : Int) := by omega
                          go_wp2
                          go_roundg (ts.length - (i + 1))
                          case measure => omega
                          case rel =>
                            exact ⟨i + 1, rfl, by omega, by go_num, Lib.hid ⟨lexAgain.toks_of ((HX.out.1.strip (zeroed_at ts i t HTI.out)).far hne _) (zeroed_succ ts i t HTI.out), lexAgain.toks_of ((HX.out.2.1.far hne2 _).strip (zeroed_at ts2 i t' HTI'.out)) (zeroed_succ ts2 i t' HTI'.out), (HX.out.2.2.setCell HGB.out _).setCell HGB3.out _⟩⟩
                        · obtain rfl : i = ts.length := by omega
                          have e1 : zeroed ts.length ts = ts.map Sp.strip := zeroed_all _ _ (by omega)
                          have e2 : zeroed ts.length ts2 = ts.map Sp.strip := by rw [zeroed_all _ _ (by rw [HLEN.out]; exact Nat.le_refl _)]; exact HMAP.out.symm
                          have T1 : Hid (Toks g cap by1 (ts.map Sp.strip) wr) := Lib.hid (lexAgain.toks_of HX.out.1 e1)
                          have T2 : Hid (Toks g3 cap3 by2 (ts.map Sp.strip) wr) := Lib.hid (lexAgain.toks_of HX.out.2.1 e2)
                          have hml : (ts.map Sp.strip).length = ts.length := by simp
                          have HML := Lib.hid hml
                          have HE8 : Hid (Env wr) := Lib.hid (HE.out.below HX.out.2.2 HE.out.sz)
                          have HB8 : Hid (Below w.heap.size w wr) := Lib.hid HX.out.2.2
                          clear hml e1 e2
                          go_wp2_with (first | ((with_reducible refine (same_true g cap by1 g3 cap3 by2 (ts.map Sp.strip) wr ts.length ts.length T1.out T2.out (by rw [HML.out]; exact hts) HML.out HML.out).mono ?_); rintro e w9 ⟨rfl, hb⟩; have HB9 := Lib.hid (HB8.out.trans (hb.mono HB8.out.size)); have HE9 : Hid (Env w9) := Lib.hid (HE8.out.below hb HE8.out.sz); clear hb) | ((with_reducible refine (awake_any _ HE9.out).mono ?_); rintro e w10 ⟨rfl, hb⟩; have HB10 := Lib.hid (HB9.out.trans (hb.mono HB9.out.size)); clear hb))
                          go_ret
                          exact ⟨rfl, HB10.out⟩
                    · have hab : ((tl.pos : Int) != (a0.size : Int) + 1) = true := by simp; omega
                      have HAT := Lib.hid hat
                      clear hat
                      go_wp2_with (first | ((with_reducible refine (scan_ok d1 tn _ HE5.out M1.out HRN.out).mono ?_); rintro e w6 ⟨g6, cap6, rfl, ht6, hb⟩; obtain ⟨_, _, _, k3⟩ := ht6.at HTN.out; clear ht6; have HT6 := Lib.hid (HT5.out.below hb (Nat.le_refl _)); have HU6 := Lib.hid (HU5.out.below hb (Nat.le_refl _)); have HB6 := Lib.hid (HB5.out.trans (hb.mono HB5.out.size)); have HE6 : Hid (Env w6) := Lib.hid (HE5.out.below hb HE5.out.sz); clear hb) | ((with_reducible refine (awake_any _ HE6.out).mono ?_); rintro e w7 ⟨rfl, hb⟩; have HB7 := Lib.hid (HB6.out.trans (hb.mono HB6.out.size)); clear hb))
                      go_ret
                      exact ⟨rfl, HB7.out⟩
            · have hob : ((no1 : Int) != (no2 : Int)) = true := by simp; omega
              clear hoo
              go_wp2_with (first | ((with_reducible refine (scan_ok d2 ts _ HE1.out M2.out HR1.out).mono ?_); rintro e w2 ⟨g, cap, rfl, ht, hb⟩; have HT := Lib.hid ht; have hg := ht.ge; clear ht; have HB2 := Lib.hid (HB1.out.trans (hb.mono HB1.out.size)); have HE2 : Hid (Env w2) := Lib.hid (HE1.out.below hb HE1.out.sz); clear hb) | ((with_reducible refine (scan_l d4 nm _ HE2.out M4.out HNM.out).mono ?_); rintro e w3 ⟨an3, cp3, pos3, er3, rfl, hb⟩; have HT3 := Lib.hid (HT.out.below hb (Nat.le_refl _)); have HB3 := Lib.hid (HB2.out.trans (hb.mono HB2.out.size)); have HE3 : Hid (Env w3) := Lib.hid (HE2.out.below hb HE2.out.sz); clear hb) | ((with_reducible refine (scan_ok a0 ta _ HE3.out M0.out HRA.out).mono ?_); rintro e w4 ⟨g4, cap4, rfl, _, hb⟩; have HT4 := Lib.hid (HT3.out.below hb (Nat.le_refl _)); have HB4 := Lib.hid (HB3.out.trans (hb.mono HB3.out.size)); have HE4 : Hid (Env w4) := Lib.hid (HE3.out.below hb HE3.out.sz); clear hb))
              go_loopg [99] ts.length (fun gg s99 wr => ∃ i : Nat, gg = ts.length - i ∧ i ≤ ts.length ∧ s99 = .int .i64 i ∧ Hid (Below w4.heap.size w4 wr))
              case atStart => exact ⟨0, rfl, by omega, rfl, Lib.hid (Below.refl _ _)⟩
              case round =>
                obtain ⟨i, hgg, hi, rfl, HR⟩ := hrel
                subst hgg
                have HB5 : Hid (Below w.heap.size w wr) := Lib.hid (HB4.out.trans (HR.out.mono HB4.out.size))
                have HE5 : Hid (Env wr) := Lib.hid (HE4.out.below HR.out HE4.out.sz)
                by_cases hlt5 : i < ts.length
                · obtain ⟨t, hti⟩ : ∃ t, ts[i]? = some t := ⟨ts[i], List.getElem?_eq_getElem hlt5⟩
                  obtain ⟨e0, e1, e2, e3⟩ := (HT4.out.below HR.out (Nat.le_refl _)).at hti
                  obtain ⟨x, hx⟩ : ∃ x, bs t.text = x := ⟨_, rfl⟩
                  rw [hx] at e1
                  obtain ⟨z, hz⟩ : ∃ z, IntKind.i64.wrap ((t.pos : Int) + (x.size : Int)) = z := ⟨_, rfl⟩
                  have HWA : Hid (Env (wr.alloc (.cells #[.int .i64 t.k, .string x, .int .i64 t.n, .int .i64 t.pos] 32))) := Lib.hid (HE5.out.below ((Below.refl _ _).alloc (Nat.le_refl _) _) HE5.out.sz)
                  have HWB : Hid (Below w.heap.size w (wr.alloc (.cells #[.int .i64 t.k, .string x, .int .i64 t.n, .int .i64 t.pos] 32))) := Lib.hid (HB5.out.alloc HB5.out.size _)
                  have HRW : Hid (Below w4.heap.size w4 (wr.alloc (.cells #[.int .i64 t.k, .string x, .int .i64 t.n, .int .i64 t.pos] 32))) := Lib.hid (HR.out.alloc HR.out.size _)
                  have i0 : (0 : Int) ≤ (i : Int) := Int.natCast_nonneg _
                  have i1 : (i : Int) < (ts.length : Int) := by omega
                  have p0 : (0 : Int) ≤ (t.pos : Int) := Int.natCast_nonneg _
                  have HXX := Lib.hid hx
                  clear hti hx
                  by_cases hp : t.pos < a0.size
                  · have hp1 : (t.pos : Int) < (a0.size : Int) := by omega
                    by_cases hzz : (a0.size : Int) < z
                    · go_wp2_with (((with_reducible refine (awake_any _ HWA.out).mono ?_); rintro e w5 ⟨rfl, hb⟩; have HB5 := Lib.hid (HWB.out.trans (hb.mono HWB.out.size)); clear hb))
                      go_ret
                      exact ⟨rfl, HB5.out⟩
                    · have hz2 : z ≤ (a0.size : Int) := by omega
                      go_wp2
                      go_roundg (ts.length - (i + 1))
                      case measure => omega
                      case rel => exact ⟨i + 1, rfl, by omega, by go_num, HRW⟩
                  · have hp1 : (a0.size : Int) ≤ (t.pos : Int) := by omega
                    go_wp2
                    go_roundg (ts.length - (i + 1))
                    case measure => omega
                    case rel => exact ⟨i + 1, rfl, by omega, by go_num, HRW⟩
                · obtain rfl : i = ts.length := by omega
                  have HT5 := Lib.hid (HT4.out.below HR.out (Nat.le_refl _))
                  clear HT4
                  cases hrn : Sp.scan d1.data.toList with
                  | error xn =>
                    obtain ⟨pn, xn⟩ := xn
                    have HRN := Lib.hid hrn
                    have hxn := scan_code hrn
                    have hnen : ((xn : Int) != 0) = true := by simp; omega
                    clear hrn hxn
                    go_wp2_with (first | ((with_reducible refine (scan_err d1 pn xn _ HE5.out M1.out HRN.out).mono ?_); rintro e w6 ⟨rfl, hb⟩; have HB6 := Lib.hid (HB5.out.trans (hb.mono HB5.out.size)); have HE6 : Hid (Env w6) := Lib.hid (HE5.out.below hb HE5.out.sz); clear hb) | ((with_reducible refine (awake_any _ HE6.out).mono ?_); rintro e w7 ⟨rfl, hb⟩; have HB7 := Lib.hid (HB6.out.trans (hb.mono HB6.out.size)); clear hb))
                    go_ret
                    exact ⟨rfl, HB7.out⟩
                  | ok tn =>
                    have HRN := Lib.hid hrn
                    have htn1 : 0 < tn.length := List.length_pos_iff.2 (scan_ne hrn)
                    have htn2 : tn.length ≤ 8193 := scan_few hrn
                    clear hrn
                    obtain ⟨mm, hmm⟩ : ∃ m, tn.length - 1 = m := ⟨_, rfl⟩
                    obtain ⟨tl, htl⟩ : ∃ t, tn[mm]? = some t := ⟨tn[mm]'(by omega), List.getElem?_eq_getElem _⟩
                    have hmi : ((tn.length : Int) - 1) = (mm : Int) := by omega
                    have hwm : IntKind.i64.wrap ((tn.length : Int) - 1) = (mm : Int) := by rw [IntWalk.i64_in _ (by omega)]; omega
                    have hm0 : (0 : Int) ≤ (mm : Int) := Int.natCast_nonneg _
                    have hm1 : (mm : Int) < (tn.length : Int) := by omega
                    have hn0 : ((tn.length : Int) == 0) = false := by rw [beq_eq_false_iff_ne]; omega
                    have HTN := Lib.hid htl
                    have HMM := Lib.hid hmm
                    clear htl hmm
                    by_cases hat : tl.pos = a0.size + 1
                    · have hab : ((tl.pos : Int) != (a0.size : Int) + 1) = false := by simp; omega
                      have HAT := Lib.hid hat
                      clear hat
                      go_wp2_with (first | ((with_reducible refine (scan_ok d1 tn _ HE5.out M1.out HRN.out).mono ?_); rintro e w6 ⟨g6, cap6, rfl, ht6, hb⟩; obtain ⟨_, _, _, k3⟩ := ht6.at HTN.out; clear ht6; have HT6 := Lib.hid (HT5.out.below hb (Nat.le_refl _)); have HB6 := Lib.hid (HB5.out.trans (hb.mono HB5.out.size)); have HE6 : Hid (Env w6) := Lib.hid (HE5.out.below hb HE5.out.sz); clear hb) | ((with_reducible refine (open_is a0 no1 no2 _ HE6.out h1 HO1.out HO2.out).mono ?_); rintro e w7 ⟨rfl, hb⟩; have HT7 := Lib.hid (HT6.out.below hb (Nat.le_refl _)); have HB7 := Lib.hid (HB6.out.trans (hb.mono HB6.out.size)); have HE7 : Hid (Env w7) := Lib.hid (HE6.out.below hb HE6.out.sz); clear hb) | ((with_reducible refine (awake_any _ HE7.out).mono ?_); rintro e w8 ⟨rfl, hb⟩; have HB8 := Lib.hid (HB7.out.trans (hb.mono HB7.out.size)); clear hb))
                      go_ret
                      exact ⟨rfl, HB8.out⟩
                    · have hab : ((tl.pos : Int) != (a0.size : Int) + 1) = true := by simp; omega
                      have HAT := Lib.hid hat
                      clear hat
                      go_wp2_with (first | ((with_reducible refine (scan_ok d1 tn _ HE5.out M1.out HRN.out).mono ?_); rintro e w6 ⟨g6, cap6, rfl, ht6, hb⟩; obtain ⟨_, _, _, k3⟩ := ht6.at HTN.out; clear ht6; have HT6 := Lib.hid (HT5.out.below hb (Nat.le_refl _)); have HB6 := Lib.hid (HB5.out.trans (hb.mono HB5.out.size)); have HE6 : Hid (Env w6) := Lib.hid (HE5.out.below hb HE5.out.sz); clear hb) | ((with_reducible refine (awake_any _ HE6.out).mono ?_); rintro e w7 ⟨rfl, hb⟩; have HB7 := Lib.hid (HB6.out.trans (hb.mono HB6.out.size)); clear hb))
                      go_ret
                      exact ⟨rfl, HB7.out⟩
end Go.Proofs.YtbafkkifdfmldaaDoor.lexSpaces
