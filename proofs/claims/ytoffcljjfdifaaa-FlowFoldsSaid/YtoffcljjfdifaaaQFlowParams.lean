/-
  FlowParams: ahead of the first instruction a parameter is Any, each other register the word 0, or Any.
-/
import Derived.Test.YtoffcljjfdifaaaQLM
namespace Go.Proofs.Ytoffcljjfdifaaa
set_option maxRecDepth 100000
open Go.RowKit Cd
set_option linter.unusedVariables false
set_option linter.unusedSimpArgs false

theorem ref_right {r : FnR} {w : World} (h : FnK w r) (q : Bool) (hq : rightF r.f = q) : Calls Try.prog 20 #[fnV r] w (RPost (.bool q) w) := hq ▸ rightFunc_any r w.heap.size w h.code h.len
theorem first_within {g : Fnc} {S : List (List Val)} (hR : RightF g) (hS : Sol g S) {v : List Val} (hv : S[0]? = some v) {r : Nat} {x : Val} (hx : v[r]? = some x) : ((r : Int) < g.params → x = ⟨2, 0⟩) ∧ (¬ (r : Int) < g.params → x = ⟨1, 0⟩ ∨ x = ⟨2, 0⟩) := by
  have hr := (List.getElem?_eq_some_iff.1 hx).1
  have hl := hS.pre.row v (List.mem_of_getElem? hv)
  have h := (hS.pre.first v hv).2 r _ x (firstL_at (by omega)) hx
  unfold firstV at h
  replace h := (Cd.within_iff _ _).1 h
  constructor
  · intro hp
    rw [if_pos hp] at h
    rcases h with h | h | h
    · exact absurd h (by decide)
    · exact h.symm
    · exact h
  · intro hp
    rw [if_neg hp] at h
    rcases h with h | h | h
    · exact absurd h (by decide)
    · exact .inl h.symm
    · exact .inr h
set_option maxHeartbeats 8000000 in
theorem params_few (r : FnR) (W : World) (h : FnK W r) (hf : few11 r.f = false) : Calls Try.prog 14 #[fnV r] W (RPost (.bool true) W) := by
  have HK := Lib.hid (h.below (box_below W r)); have HF := Lib.hid hf
  have HB0 := Lib.hid (box_below W r)
  obtain ⟨x0, x1, x2, x3, x4⟩ := nv5 (heap_alloc_new W (fnO r))
  clear h hf
  go_enter Try.func14, Try.ntmps14
  go_wp2_with (first | ((with_reducible refine (few11_c r _ HK.out false HF.out).mono ?_); rintro e w1 ⟨rfl, hb1⟩; have HB1 := Lib.hid (HB0.out.trans (hb1.mono HB0.out.size)); clear hb1) | ((with_reducible refine (awake11_any _).mono ?_); rintro e w2 ⟨rfl, hb2⟩; have HB2 := Lib.hid (HB1.out.trans (hb2.mono HB1.out.size)); clear hb2))
  go_ret
  exact ⟨rfl, HB2.out⟩
/-- What holds in the laws: the function's box, its code. -/
structure LwSt (w0 w : World) (r : FnR) : Prop where
  fb : w.heap[w0.heap.size]? = some (fnO r)
  k : FnK w r
  hb : Below w0.heap.size w0 w
theorem LwSt.first (W : World) (r : FnR) (h : FnK W r) : LwSt W (W.alloc (fnO r)) r := ⟨heap_alloc_new W _, h.below (box_below W r), box_below W r⟩
theorem LwSt.lt {w0 w : World} {r : FnR} (h : LwSt w0 w r) : w0.heap.size < w.heap.size := lt_heap h.fb
theorem LwSt.below {w0 w w' : World} {r : FnR} (h : LwSt w0 w r) (hb : Below w.heap.size w w') : LwSt w0 w' r := ⟨(hb.block _ h.lt).trans h.fb, h.k.below hb, h.hb.trans (hb.mono (Nat.le_of_lt h.lt))⟩
theorem LwSt.drew {w0 w : World} {r : FnR} (h : LwSt w0 w r) : LwSt w0 w.drew r := ⟨h.fb, ⟨h.k.code, h.k.len⟩, drW h.hb⟩
set_option maxHeartbeats 8000000 in
theorem params_no (r : FnR) (W : World) (h : FnK W r) (hf : few11 r.f = true) (hr : rightF r.f = false) : Calls Try.prog 14 #[fnV r] W (RPost (.bool true) W) := by
  have HS0 := Lib.hid (LwSt.first W r h)
  have HF := Lib.hid hf; have HR := Lib.hid hr
  obtain ⟨x0, x1, x2, x3, x4⟩ := nv5 HS0.out.fb
  clear h hf hr
  go_enter Try.func14, Try.ntmps14
  go_wp2_with (first | ((with_reducible refine (few11_c r _ HS0.out.k true HF.out).mono ?_); rintro e w1 ⟨rfl, hb1⟩; have HS1 := Lib.hid (HS0.out.below hb1); clear hb1 x0 x1 x2 x3 x4; obtain ⟨x0, x1, x2, x3, x4⟩ := nv5 HS1.out.fb) | ((with_reducible refine (ref_right HS1.out.k false HR.out).mono ?_); rintro e w2 ⟨rfl, hb2⟩; have HS2 := Lib.hid (HS1.out.below hb2); clear hb2) | ((with_reducible refine (awake11_any _).mono ?_); rintro e w3 ⟨rfl, hb3⟩; have HS3 := Lib.hid (HS2.out.below hb3); clear hb3))
  go_ret
  exact ⟨rfl, HS3.out.hb⟩
set_option maxHeartbeats 8000000 in
theorem params_yes (r : FnR) (W : World) (h : FnK W r) (hf : few11 r.f = true) (hr : RightF r.f) : Calls Try.prog 14 #[fnV r] W (RPost (.bool true) W) := by
  obtain ⟨S, hS⟩ := sol_exists hr
  have HS0 := Lib.hid (LwSt.first W r h)
  have HF := Lib.hid hf; have HR := Lib.hid hr; have HSO := Lib.hid hS
  have hsz := few11_size hf hr
  have hlS := hS.pre.len
  have hn := hr.code
  obtain ⟨v, hv⟩ : ∃ v, S[0]? = some v := ⟨_, List.getElem?_eq_getElem (by omega)⟩
  have hlv := hS.pre.row v (List.mem_of_getElem? hv)
  have HV := Lib.hid hv; have HLV := Lib.hid hlv; have HLS := Lib.hid hlS; have HSZ := Lib.hid hsz
  have hrg := hr.regs
  have hvl : v.length ≤ 4096 := by omega
  obtain ⟨x0, x1, x2, x3, x4⟩ := nv5 HS0.out.fb
  have HEQ : Hid (S.length = r.f.code.length) := HLS
  clear h hf hr hS hsz hv
  have ht1 : ((S.length : Int) != (r.f.code.length : Int)) = false := by rw [hlS]; simp
  have ht2 : ((v.length : Int) != r.f.regs) = false := by rw [hlv]; simp
  clear hlS hlv
  go_enter Try.func14, Try.ntmps14
  go_upto_region 4 with (first | ((with_reducible refine (few11_c r _ HS0.out.k true HF.out).mono ?_); rintro e w1 ⟨rfl, hb1⟩; have HS1 := Lib.hid (HS0.out.below hb1); clear hb1 x0 x1 x2 x3 x4; obtain ⟨x0, x1, x2, x3, x4⟩ := nv5 HS1.out.fb) | ((with_reducible refine (ref_right HS1.out.k true (rightF_iff.2 HR.out)).mono ?_); rintro e w2 ⟨rfl, hb2⟩; have HS2 := Lib.hid (HS1.out.below hb2); clear hb2 x0 x1 x2 x3 x4; obtain ⟨x0, x1, x2, x3, x4⟩ := nv5 HS2.out.fb) | ((with_reducible refine (ahead_s HS2.out.k HR.out HSZ.out HSO.out).mono ?_); rintro e w3 ⟨ta, tc, rfl, htab, hb3⟩; have HT3 := Lib.hid htab; have HS3 := Lib.hid (HS2.out.below hb3); clear hb3 htab x0 x1 x2 x3 x4; obtain ⟨x0, x1, x2, x3, x4⟩ := nv5 HS3.out.fb))
  obtain ⟨tb, toff, pa, pc, rfl, htb, htc, hpa⟩ := HT3.out.at HV.out
  rw [Nat.add_zero] at htc
  have HPA := Lib.hid hpa
  have hn0 : (0 : Int) < (S.length : Int) := by have := HLS.out; omega
  clear hpa
  go_quiet (fail)
  have HS4 : Hid (LwSt W (w3.drewN nq) r) := Lib.hid (HS3.out.below ⟨rfl, rfl, rfl, Nat.le_refl _, fun _ _ => rfl⟩)
  have HP4 : Hid (ValsAt (w3.drewN nq) (w3.drewN nq).heap.size pa v) := Lib.hid (HPA.out.below ⟨rfl, rfl, rfl, Nat.le_refl _, fun _ _ => rfl⟩)
  have htc4 : (w3.drewN nq).cell? { block := tb, off := toff } = some (Value.slice pa v.length pc) := htc
  clear HS3 HT3 HPA htc x0 x1 x2 x3 x4 ht1 ht2
  generalize w3.drewN nq = w4 at *
  obtain ⟨x0, x1, x2, x3, x4⟩ := nv5 HS4.out.fb
  go_wp2
  clear htc4 x0 x1 x2 x3 x4
  go_loopw [36] (fun s36 wr => ∃ k : Nat, k ≤ v.length ∧ s36 = .int .i64 (k : Int) ∧ Hid (LwSt W wr r) ∧ Hid (Below w4.heap.size w4 wr)) (fun s36 wr => v.length - (intOf s36).toNat)
  case atStart => exact ⟨0, by omega, rfl, HS4, Lib.hid (Below.refl _ _)⟩
  case round =>
    obtain ⟨k, hk, rfl, HSK, HBK⟩ := hrel
    have k0 : (0 : Int) ≤ (k : Int) := Int.natCast_nonneg _
    obtain ⟨x0, x1, x2, x3, x4⟩ := nv5 HSK.out.fb
    by_cases hlt : k < v.length
    · have k1 : (k : Int) < (v.length : Int) := by omega
      obtain ⟨x, hx⟩ : ∃ x, v[k]? = some x := ⟨_, List.getElem?_eq_getElem hlt⟩
      obtain ⟨vb, voff, rfl, hvb, hvB, hc0, hc1⟩ := ValsAt.cells (HP4.out.below HBK.out) hx
      obtain ⟨hin1, hin2⟩ := first_within HR.out HSO.out HV.out hx
      have HLT := Lib.hid hlt
      have hwl := HSK.out.lt
      clear hlt hx
      by_cases hp : (k : Int) < r.f.params
      · obtain rfl := hin1 hp
        have hp2 : ¬ (r.f.params ≤ (k : Int)) := by omega
        clear hin1 hin2
        go_wp2
        go_roundw
        case rel => exact ⟨k + 1, HLT.out, by go_num, Lib.hid (HSK.out.below (Below.alloc (Below.refl _ _) (Nat.le_refl _) _)), Lib.hid (HBK.out.alloc HBK.out.size _)⟩
        case measure => have := HLT.out; simp [intOf]; omega
      · have hp2 : r.f.params ≤ (k : Int) := by omega
        have hx := hin2 hp
        clear hin1 hin2
        rcases hx with rfl | rfl
        · go_wp2
          go_roundw
          case rel => exact ⟨k + 1, HLT.out, by go_num, Lib.hid (HSK.out.below (Below.alloc (Below.refl _ _) (Nat.le_refl _) _)), Lib.hid (HBK.out.alloc HBK.out.size _)⟩
          case measure => have := HLT.out; simp [intOf]; omega
        · go_wp2
          go_roundw
          case rel => exact ⟨k + 1, HLT.out, by go_num, Lib.hid (HSK.out.below (Below.alloc (Below.refl _ _) (Nat.le_refl _) _)), Lib.hid (HBK.out.alloc HBK.out.size _)⟩
          case measure => have := HLT.out; simp [intOf]; omega
    · obtain rfl : k = v.length := by omega
      go_wp2_with (((with_reducible refine (awake11_any _).mono ?_); rintro e w5 ⟨rfl, hb5⟩; have HS5 := Lib.hid (HSK.out.below hb5); clear hb5))
      go_ret
      exact ⟨rfl, HS5.out.hb⟩
theorem params_any (r : FnR) (W : World) (h : FnK W r) : Calls Try.prog 14 #[fnV r] W (RPost (.bool true) W) := by
  by_cases hf : few11 r.f = true
  · by_cases hr : RightF r.f
    · exact params_yes r W h hf hr
    · exact params_no r W h hf (by rw [← Bool.not_eq_true, rightF_iff]; exact hr)
  · exact params_few r W h (by simpa using hf)
end Go.Proofs.Ytoffcljjfdifaaa
