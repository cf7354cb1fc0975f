/-
  FlowParams: ahead of the first instruction a parameter is Any, each other register the word 0, or Any.
  Layer 11: FlowHolds' within, where it holds.
  Layer 11: contract of the law's behind.
  FlowHolds, begun: what it answers where nothing is gone through; the first instruction's registers.
  Layer 11: a row of values in memory of its own, with room behind it: appended to an empty one, written.
-/
import Derived.Test.YtbalbdhbmcdbaaaQLM
import Derived.Test.YtbalbdhbmcdbaaaQG11FoldH
import Derived.Deep.RegionHeld3
import Derived.Test.YtbalbdhbmcdbaaaQG11BehC
import Derived.Test.YtbalbdhbmcdbaaaQLO
import Derived.Test.YtbalbdhbmcdbaaaQLJ
import Derived.Maps.AppendAt
import Derived.Laws.OwnMore
namespace Go.Proofs.Ytbalbdhbmcdbaaa
set_option maxRecDepth 100000
open Go.RowKit Cd
set_option linter.unusedVariables false
set_option linter.unusedSimpArgs false

theorem ref_right {r : FnR} {w : World} (h : FnK w r) (q : Bool) (hq : rightF r.f = q) : Calls Try.prog 26 #[fnV r] w (RPost (.bool q) w) := hq ▸ rightFunc_any r w.heap.size w h.code h.len
theorem first_within {g : Fnc} {S : List (List Val)} (hR : RightF g) (hS : Sol g S) {v : List Val} (hv : S[0]? = some v) {r : Nat} {x : Val} (hx : v[r]? = some x) : ((r : Int) < g.params → x = ⟨2, 0⟩) ∧ (¬ (r : Int) < g.params → x = ⟨1, 0⟩ ∨ x = ⟨2, 0⟩) := by
  have hr := (List.getElem?_eq_some_iff.1 hx).1
  have hl := hS.pre.row v (List.mem_of_getElem? hv)
  have h := (hS.pre.first v hv).2 r _ x (firstL_at (by omega)) hx
  unfold firstV at h
  replace h := (Cd.within_iff _ _).1 h
  constructor
  · intro hp
    rw [if_pos hp] at h
    rcases h with h | h | h
    · exact absurd h (by decide)
    · exact h.symm
    · exact h
  · intro hp
    rw [if_neg hp] at h
    rcases h with h | h | h
    · exact absurd h (by decide)
    · exact .inl h.symm
    · exact .inr h
set_option maxHeartbeats 8000000 in
theorem params_few (r : FnR) (W : World) (h : FnK W r) (hf : few11 r.f = false) : Calls Try.prog 14 #[fnV r] W (RPost (.bool true) W) := by
  have HK := Lib.hid (h.below (box_below W r)); have HF := Lib.hid hf
  have HB0 := Lib.hid (box_below W r)
  obtain ⟨x0, x1, x2, x3, x4⟩ := nv5 (heap_alloc_new W (fnO r))
  clear h hf
  go_enter Try.func14, Try.ntmps14
  go_wp2_with (first | ((with_reducible refine (few11_c r _ HK.out false HF.out).mono ?_); rintro e w1 ⟨rfl, hb1⟩; have HB1 := Lib.hid (HB0.out.trans (hb1.mono HB0.out.size)); clear hb1) | ((with_reducible refine (awake11_any _).mono ?_); rintro e w2 ⟨rfl, hb2⟩; have HB2 := Lib.hid (HB1.out.trans (hb2.mono HB1.out.size)); clear hb2))
  go_ret
  exact ⟨rfl, HB2.out⟩
/-- What holds in the laws: the function's box, its code. -/
structure LwSt (w0 w : World) (r : FnR) : Prop where
  fb : w.heap[w0.heap.size]? = some (fnO r)
  k : FnK w r
  hb : Below w0.heap.size w0 w
theorem LwSt.first (W : World) (r : FnR) (h : FnK W r) : LwSt W (W.alloc (fnO r)) r := ⟨heap_alloc_new W _, h.below (box_below W r), box_below W r⟩
theorem LwSt.lt {w0 w : World} {r : FnR} (h : LwSt w0 w r) : w0.heap.size < w.heap.size := lt_heap h.fb
theorem LwSt.below {w0 w w' : World} {r : FnR} (h : LwSt w0 w r) (hb : Below w.heap.size w w') : LwSt w0 w' r := ⟨(hb.block _ h.lt).trans h.fb, h.k.below hb, h.hb.trans (hb.mono (Nat.le_of_lt h.lt))⟩
theorem LwSt.drew {w0 w : World} {r : FnR} (h : LwSt w0 w r) : LwSt w0 w.drew r := ⟨h.fb, ⟨h.k.code, h.k.len⟩, drW h.hb⟩
set_option maxHeartbeats 8000000 in
theorem params_no (r : FnR) (W : World) (h : FnK W r) (hf : few11 r.f = true) (hr : rightF r.f = false) : Calls Try.prog 14 #[fnV r] W (RPost (.bool true) W) := by
  have HS0 := Lib.hid (LwSt.first W r h)
  have HF := Lib.hid hf; have HR := Lib.hid hr
  obtain ⟨x0, x1, x2, x3, x4⟩ := nv5 HS0.out.fb
  clear h hf hr
  go_enter Try.func14, Try.ntmps14
  go_wp2_with (first | ((with_reducible refine (few11_c r _ HS0.out.k true HF.out).mono ?_); rintro e w1 ⟨rfl, hb1⟩; have HS1 := Lib.hid (HS0.out.below hb1); clear hb1 x0 x1 x2 x3 x4; obtain ⟨x0, x1, x2, x3, x4⟩ := nv5 HS1.out.fb) | ((with_reducible refine (ref_right HS1.out.k false HR.out).mono ?_); rintro e w2 ⟨rfl, hb2⟩; have HS2 := Lib.hid (HS1.out.below hb2); clear hb2) | ((with_reducible refine (awake11_any _).mono ?_); rintro e w3 ⟨rfl, hb3⟩; have HS3 := Lib.hid (HS2.out.below hb3); clear hb3))
  go_ret
  exact ⟨rfl, HS3.out.hb⟩
set_option maxHeartbeats 8000000 in
theorem params_yes (r : FnR) (W : World) (h : FnK W r) (hf : few11 r.f = true) (hr : RightF r.f) : Calls Try.prog 14 #[fnV r] W (RPost (.bool true) W) := by
  obtain ⟨S, hS⟩ := sol_exists hr
  have HS0 := Lib.hid (LwSt.first W r h)
  have HF := Lib.hid hf; have HR := Lib.hid hr; have HSO := Lib.hid hS
  have hsz := few11_size hf hr
  have hlS := hS.pre.len
  have hn := hr.code
  obtain ⟨v, hv⟩ : ∃ v, S[0]? = some v := ⟨_, List.getElem?_eq_getElem (by omega)⟩
  have hlv := hS.pre.row v (List.mem_of_getElem? hv)
  have HV := Lib.hid hv; have HLV := Lib.hid hlv; have HLS := Lib.hid hlS; have HSZ := Lib.hid hsz
  have hrg := hr.regs
  have hvl : v.length ≤ 4096 := by omega
  obtain ⟨x0, x1, x2, x3, x4⟩ := nv5 HS0.out.fb
  have HEQ : Hid (S.length = r.f.code.length) := HLS
  clear h hf hr hS hsz hv
  have ht1 : ((S.length : Int) != (r.f.code.length : Int)) = false := by rw [hlS]; simp
  have ht2 : ((v.length : Int) != r.f.regs) = false := by rw [hlv]; simp
  clear hlS hlv
  go_enter Try.func14, Try.ntmps14
  go_upto_region 4 with (first | ((with_reducible refine (few11_c r _ HS0.out.k true HF.out).mono ?_); rintro e w1 ⟨rfl, hb1⟩; have HS1 := Lib.hid (HS0.out.below hb1); clear hb1 x0 x1 x2 x3 x4; obtain ⟨x0, x1, x2, x3, x4⟩ := nv5 HS1.out.fb) | ((with_reducible refine (ref_right HS1.out.k true (rightF_iff.2 HR.out)).mono ?_); rintro e w2 ⟨rfl, hb2⟩; have HS2 := Lib.hid (HS1.out.below hb2); clear hb2 x0 x1 x2 x3 x4; obtain ⟨x0, x1, x2, x3, x4⟩ := nv5 HS2.out.fb) | ((with_reducible refine (ahead_s HS2.out.k HR.out HSZ.out HSO.out).mono ?_); rintro e w3 ⟨ta, tc, rfl, htab, hb3⟩; have HT3 := Lib.hid htab; have HS3 := Lib.hid (HS2.out.below hb3); clear hb3 htab x0 x1 x2 x3 x4; obtain ⟨x0, x1, x2, x3, x4⟩ := nv5 HS3.out.fb))
  obtain ⟨tb, toff, pa, pc, rfl, htb, htc, hpa⟩ := HT3.out.at HV.out
  rw [Nat.add_zero] at htc
  have HPA := Lib.hid hpa
  have hn0 : (0 : Int) < (S.length : Int) := by have := HLS.out; omega
  clear hpa
  go_quiet (fail)
  have HS4 : Hid (LwSt W (w3.drewN nq) r) := Lib.hid (HS3.out.below ⟨rfl, rfl, rfl, Nat.le_refl _, fun _ _ => rfl⟩)
  have HP4 : Hid (ValsAt (w3.drewN nq) (w3.drewN nq).heap.size pa v) := Lib.hid (HPA.out.below ⟨rfl, rfl, rfl, Nat.le_refl _, fun _ _ => rfl⟩)
  have htc4 : (w3.drewN nq).cell? { block := tb, off := toff } = some (Value.slice pa v.length pc) := htc
  clear HS3 HT3 HPA htc x0 x1 x2 x3 x4 ht1 ht2
  generalize w3.drewN nq = w4 at *
  obtain ⟨x0, x1, x2, x3, x4⟩ := nv5 HS4.out.fb
  go_wp2
  clear htc4 x0 x1 x2 x3 x4
  go_loopw [36] (fun s36 wr => ∃ k : Nat, k ≤ v.length ∧ s36 = .int .i64 (k : Int) ∧ Hid (LwSt W wr r) ∧ Hid (Below w4.heap.size w4 wr)) (fun s36 wr => v.length - (intOf s36).toNat)
  case atStart => exact ⟨0, by omega, rfl, HS4, Lib.hid (Below.refl _ _)⟩
  case round =>
    obtain ⟨k, hk, rfl, HSK, HBK⟩ := hrel
    have k0 : (0 : Int) ≤ (k : Int) := Int.natCast_nonneg _
    obtain ⟨x0, x1, x2, x3, x4⟩ := nv5 HSK.out.fb
    by_cases hlt : k < v.length
    · have k1 : (k : Int) < (v.length : Int) := by omega
      obtain ⟨x, hx⟩ : ∃ x, v[k]? = some x := ⟨_, List.getElem?_eq_getElem hlt⟩
      obtain ⟨vb, voff, rfl, hvb, hvB, hc0, hc1⟩ := ValsAt.cells (HP4.out.below HBK.out) hx
      obtain ⟨hin1, hin2⟩ := first_within HR.out HSO.out HV.out hx
      have HLT := Lib.hid hlt
      have hwl := HSK.out.lt
      clear hlt hx
      by_cases hp : (k : Int) < r.f.params
      · obtain rfl := hin1 hp
        have hp2 : ¬ (r.f.params ≤ (k : Int)) := by omega
        clear hin1 hin2
        go_wp2
        go_roundw
        case rel => exact ⟨k + 1, HLT.out, by go_num, Lib.hid (HSK.out.below (Below.alloc (Below.refl _ _) (Nat.le_refl _) _)), Lib.hid (HBK.out.alloc HBK.out.size _)⟩
        case measure => have := HLT.out; simp [intOf]; omega
      · have hp2 : r.f.params ≤ (k : Int) := by omega
        have hx := hin2 hp
        clear hin1 hin2
        rcases hx with rfl | rfl
        · go_wp2
          go_roundw
          case rel => exact ⟨k + 1, HLT.out, by go_num, Lib.hid (HSK.out.below (Below.alloc (Below.refl _ _) (Nat.le_refl _) _)), Lib.hid (HBK.out.alloc HBK.out.size _)⟩
          case measure => have := HLT.out; simp [intOf]; omega
        · go_wp2
          go_roundw
          case rel => exact ⟨k + 1, HLT.out, by go_num, Lib.hid (HSK.out.below (Below.alloc (Below.refl _ _) (Nat.le_refl _) _)), Lib.hid (HBK.out.alloc HBK.out.size _)⟩
          case measure => have := HLT.out; simp [intOf]; omega
    · obtain rfl : k = v.length := by omega
      go_wp2_with (((with_reducible refine (awake11_any _).mono ?_); rintro e w5 ⟨rfl, hb5⟩; have HS5 := Lib.hid (HSK.out.below hb5); clear hb5))
      go_ret
      exact ⟨rfl, HS5.out.hb⟩
theorem params_any (r : FnR) (W : World) (h : FnK W r) : Calls Try.prog 14 #[fnV r] W (RPost (.bool true) W) := by
  by_cases hf : few11 r.f = true
  · by_cases hr : RightF r.f
    · exact params_yes r W h hf hr
    · exact params_no r W h hf (by rw [← Bool.not_eq_true, rightF_iff]; exact hr)
  · exact params_few r W h (by simpa using hf)
end Go.Proofs.Ytbalbdhbmcdbaaa
namespace Go.Proofs.Ytbalbdhbmcdbaaa
set_option maxRecDepth 100000
open Go.RowKit Cd
set_option linter.unusedVariables false
set_option linter.unusedSimpArgs false

theorem keepW {w w2 : World} {a b : Val} (h1 : w2.heap[w.heap.size]? = some (vlO a)) (h2 : w2.heap[w.heap.size + 1]? = some (vlO b)) {w' : World} (h0 : Below w2.heap.size w2 w') : Below w2.heap.size w2 w' ∧ w'.cell? ⟨w.heap.size, 0, none⟩ = some (.int .i64 a.kind) ∧ w'.cell? ⟨w.heap.size, 1, none⟩ = some (.int .i64 a.n) ∧ w'.cell? ⟨w.heap.size + 1, 0, none⟩ = some (.int .i64 b.kind) ∧ w'.cell? ⟨w.heap.size + 1, 1, none⟩ = some (.int .i64 b.n) := by
  obtain ⟨x0, x1⟩ := nv2 ((h0.block _ (lt_heap h1)).trans h1)
  obtain ⟨y0, y1⟩ := nv2 ((h0.block _ (lt_heap h2)).trans h2)
  exact ⟨h0, x0, x1, y0, y1⟩
theorem keepU {w3 wc w' : World} (hb : Below wc.heap.size wc w') (h0 : Below w3.heap.size w3 wc) : Below w3.heap.size w3 w' := h0.trans (hb.mono h0.size)
set_option maxHeartbeats 4000000 in
theorem within_c (a b : Val) (w : World) (ha : OkV a) (hb : OkV b) (h : withinV a b) : Calls Try.prog 49 #[vlV a, vlV b] w (RPost (.bool true) w) := by
  have HJ : Hid (∀ W, Calls Try.prog 46 #[vlV a, vlV b] W (RPost (vlV b) W)) := Lib.hid (fun W => by
    have e : joinP a b = b := by rw [joinP_ok ha hb]; exact h
    have := join_c a b W; rwa [e] at this)
  obtain ⟨w2, hw2⟩ : ∃ w2, (w.alloc (vlO a)).alloc (vlO b) = w2 := ⟨_, rfl⟩
  have H : Hid (w2.heap[w.heap.size]? = some (vlO a) ∧ w2.heap[w.heap.size + 1]? = some (vlO b) ∧ Below w.heap.size w w2) := Lib.hid (by
    obtain ⟨h1, h2, h3, _⟩ := two_new w (vlO a) (vlO b)
    rw [hw2] at h1 h2 h3
    exact ⟨h1, h2, h3⟩)
  clear ha hb h
  go_enter Try.func49, Try.ntmps49
  go_upto_region 1 with fail
  have HB0 : Hid (Below w2.heap.size w2 w2.drew) := Lib.hid ⟨rfl, rfl, rfl, Nat.le_refl _, fun _ _ => rfl⟩
  go_region_held3 (fun w' => Below w2.heap.size w2 w' ∧ w'.cell? ⟨w.heap.size, 0, none⟩ = some (.int .i64 a.kind) ∧ w'.cell? ⟨w.heap.size, 1, none⟩ = some (.int .i64 a.n) ∧ w'.cell? ⟨w.heap.size + 1, 0, none⟩ = some (.int .i64 b.kind) ∧ w'.cell? ⟨w.heap.size + 1, 1, none⟩ = some (.int .i64 b.n)) (first | exact keepW H.out.1 H.out.2.1 HB0.out | exact keepW H.out.1 H.out.2.1 (keepU (by assumption) (by first | assumption | exact And.left (by assumption)))) (first | ((with_reducible refine (HJ.out _).mono ?_); rintro e w' ⟨rfl, hb⟩))
  all_goals
    (rename_i hS9
     have HB9 := Lib.hid (H.out.2.2.trans (hS9.1.mono (show w.heap.size ≤ w2.heap.size from H.out.2.2.size)))
     clear hS9
     go_wp2
     go_ret
     exact ⟨rfl, HB9.out⟩)
end Go.Proofs.Ytbalbdhbmcdbaaa
namespace Go.Proofs.Ytbalbdhbmcdbaaa
set_option maxRecDepth 100000
open Go.RowKit Cd
set_option linter.unusedVariables false
set_option linter.unusedSimpArgs false

def LbPost (o : Option Val) (w : World) (e : Ending) (w' : World) : Prop := ∃ x on, e = .returned (.tuple #[vlV x, .bool on]) ∧ ((on = true ∧ o = some x) ∨ (on = false ∧ o = none)) ∧ Below w.heap.size w w'
theorem lb_box (i : Ins) (w : World) : let W := (w.alloc (inO i)).alloc (vlO ⟨0, 0⟩); W.heap[w.heap.size]? = some (inO i) ∧ Below w.heap.size w W := by
  obtain ⟨h1, h2, h3, hs⟩ := two_new w (inO i) (vlO ⟨0, 0⟩)
  exact ⟨h1, h3⟩
set_option maxHeartbeats 4000000 in
theorem lbeh_1 (i : Ins) (v : List Val) (a : Option Addr) (cap : Nat) (w : World) (hk : i.kind = 1) : Calls Try.prog 50 #[inV i, .slice a v.length cap] w (LbPost (behV i v) w) := by
  have HE : Hid (behV i v = some ⟨1, i.n⟩) := Lib.hid (by unfold behV; rw [if_pos hk])
  obtain ⟨h1, h3⟩ := lb_box i w
  have q := nv15 h1
  rw [hk] at q
  obtain ⟨q0, q1, q2, q3, q4, q5, q6, q7, q8, q9, q10, q11, q12, q13, q14⟩ := q
  clear h1 h3 hk
  go_enter Try.func50, Try.ntmps50
  go_wp2
  exact bodyPost_ret (v := .tuple #[vlV ⟨1, i.n⟩, .bool true]) (by simp [results, Try.results50, go_sem]) rfl ⟨⟨1, i.n⟩, true, rfl, .inl ⟨rfl, HE.out⟩, ((Below.refl w.heap.size w).alloc (Nat.le_refl _) _).alloc (by simp <;> omega) _⟩
set_option maxHeartbeats 4000000 in
theorem lbeh_0 (i : Ins) (v : List Val) (a : Option Addr) (cap : Nat) (w : World) (h1 : i.kind ≠ 1) (h2 : i.kind ≠ 2) (h3 : i.kind ≠ 3) (h4 : i.kind ≠ 4) : Calls Try.prog 50 #[inV i, .slice a v.length cap] w (LbPost (behV i v) w) := by
  have HE : Hid (behV i v = some ⟨2, 0⟩) := Lib.hid (by unfold behV; rw [if_neg h1, if_neg h4, if_neg (by simp [h2, h3])])
  obtain ⟨hh, _⟩ := lb_box i w
  obtain ⟨q0, q1, q2, q3, q4, q5, q6, q7, q8, q9, q10, q11, q12, q13, q14⟩ := nv15 hh
  have t1 : ((i.kind : Int) == 1) = false := by simpa using h1
  have t2 : ((i.kind : Int) == 2) = false := by simpa using h2
  have t3 : ((i.kind : Int) == 3) = false := by simpa using h3
  have t4 : ((i.kind : Int) == 4) = false := by simpa using h4
  clear hh h1 h2 h3 h4
  go_enter Try.func50, Try.ntmps50
  go_wp2
  exact bodyPost_ret (v := .tuple #[vlV ⟨2, 0⟩, .bool true]) (by simp [results, Try.results50, go_sem]) rfl ⟨⟨2, 0⟩, true, rfl, .inl ⟨rfl, HE.out⟩, ((Below.refl w.heap.size w).alloc (Nat.le_refl _) _).alloc (by simp <;> omega) _⟩
set_option maxHeartbeats 4000000 in
theorem lbeh_4 (i : Ins) (v : List Val) (a : Option Addr) (cap : Nat) (w : World) (hV : ValsAt w w.heap.size a v) (hR : RegIn i v) (h4 : i.kind = 4) : Calls Try.prog 50 #[inV i, .slice a v.length cap] w (LbPost (behV i v) w) := by
  have hin : 0 ≤ i.a ∧ i.a < (v.length : Int) := hR.1 i.a (by unfold uses; simp [h4]; exact .inl (by decide))
  obtain ⟨r, hr⟩ : ∃ r : Nat, i.a = (r : Int) := ⟨i.a.toNat, by omega⟩
  obtain ⟨x, hx⟩ : ∃ x, v[r]? = some x := ⟨_, List.getElem?_eq_getElem (by omega)⟩
  have HE : Hid (behV i v = some x) := Lib.hid (by unfold behV; rw [if_neg (by omega), if_pos h4, hr]; simp [List.getD_eq_getElem?_getD, hx])
  obtain ⟨hh, hb⟩ := lb_box i w
  have q := nv15 hh
  rw [h4, hr] at q
  obtain ⟨q0, q1, q2, q3, q4, q5, q6, q7, q8, q9, q10, q11, q12, q13, q14⟩ := q
  obtain ⟨b, off, rfl, hbB, _, c0, c1⟩ := ValsAt.cells (hV.below hb) hx
  have k0 : (0 : Int) ≤ (r : Int) := Int.natCast_nonneg _
  have k1 : (r : Int) < (v.length : Int) := by omega
  clear hh hb hx hV hR h4 hin hr
  go_enter Try.func50, Try.ntmps50
  go_wp2
  exact bodyPost_ret (v := .tuple #[vlV x, .bool true]) (by simp [results, Try.results50, go_sem]) rfl ⟨x, true, rfl, .inl ⟨rfl, HE.out⟩, ((Below.refl w.heap.size w).alloc (Nat.le_refl _) _).alloc (by simp <;> omega) _⟩
theorem four_new (w : World) (o1 o2 o3 o4 : Obj) (nq : Nat) : let W := ((((w.alloc o1).alloc o2).alloc o3).alloc o4).drewN nq; W.heap[w.heap.size + 1]? = some o2 ∧ Below w.heap.size w W := by
  obtain ⟨_, h2, h3, hs⟩ := two_new w o1 o2
  have hb : Below ((w.alloc o1).alloc o2).heap.size ((w.alloc o1).alloc o2) ((((w.alloc o1).alloc o2).alloc o3).alloc o4) := ((Below.refl _ _).alloc (Nat.le_refl _) _).alloc (by simp <;> omega) _
  have hb2 : Below w.heap.size w ((((w.alloc o1).alloc o2).alloc o3).alloc o4) := h3.trans (hb.mono h3.size)
  exact ⟨(hb.block _ (by omega)).trans h2, ⟨hb2.1, hb2.2, hb2.3, hb2.4, hb2.5⟩⟩
theorem lb_limb {o : Option Val} {b : Bool} {x : Val} (h : o = if b = true then some x else none) : (b = true ∧ o = some x) ∨ (b = false ∧ o = none) := by
  cases b
  · exact .inr ⟨rfl, by simpa using h⟩
  · exact .inl ⟨rfl, by simpa using h⟩
set_option maxHeartbeats 8000000 in
theorem lbeh_2 (i : Ins) (v : List Val) (a : Option Addr) (cap : Nat) (w : World) (hV : ValsAt w w.heap.size a v) (hR : RegIn i v) (hk : i.kind = 2) : Calls Try.prog 50 #[inV i, .slice a v.length cap] w (LbPost (behV i v) w) := by
  obtain ⟨⟨a0, a1⟩, b0, b1⟩ := hR.2 (by omega)
  obtain ⟨r, hr⟩ : ∃ r : Nat, i.a = (r : Int) := ⟨i.a.toNat, by omega⟩
  obtain ⟨q, hq⟩ : ∃ q : Nat, i.b = (q : Int) := ⟨i.b.toNat, by omega⟩
  obtain ⟨x, hx⟩ : ∃ x, v[r]? = some x := ⟨_, List.getElem?_eq_getElem (by omega)⟩
  obtain ⟨y, hy⟩ : ∃ y, v[q]? = some y := ⟨_, List.getElem?_eq_getElem (by omega)⟩
  have he : behV i v = if x.kind ≠ 1 ∨ (⟨1, 0⟩ : Val).kind ≠ 1 then some ⟨2, 0⟩ else if doB i.op (⟨1, 0⟩ : Val).n = true then some ⟨1, doV i.op x.n (⟨1, 0⟩ : Val).n⟩ else none := by
    unfold behV
    rw [if_neg (by omega), if_neg (by omega), if_pos (by omega)]
    simp [hk, hr, hq, List.getD_eq_getElem?_getD, hx, hy]
  obtain ⟨hh, hb⟩ := lb_box i w
  have q' := nv15 hh
  rw [hk, hr, hq] at q'
  obtain ⟨q0, q1, q2, q3, q4, q5, q6, q7, q8, q9, q10, q11, q12, q13, q14⟩ := q'
  obtain ⟨vb, off, rfl, hbB, _, c0, c1⟩ := ValsAt.cells (hV.below hb) hx
  obtain ⟨vb', off', e', _, _, d0, d1⟩ := ValsAt.cells (hV.below hb) hy
  injection e' with e'
  injection e' with e1 e2
  subst e1 e2
  have k0 : (0 : Int) ≤ (r : Int) := Int.natCast_nonneg _
  have k1 : (r : Int) < (v.length : Int) := by omega
  have l0 : (0 : Int) ≤ (q : Int) := Int.natCast_nonneg _
  have l1 : (q : Int) < (v.length : Int) := by omega
  clear hh hb hx hy hV hR a0 a1 b0 b1 hr hq hk
  obtain ⟨xk, xn⟩ := x
  obtain ⟨yk, yn⟩ := y
  by_cases h1 : xk = 1
  · subst h1
    have HE : Hid (behV i v = if doB i.op 0 = true then some ⟨1, doV i.op xn 0⟩ else none) := Lib.hid (by rw [he, if_neg (by simp)])
    clear he
    go_enter Try.func50, Try.ntmps50
    go_upto_region 14 with ((with_reducible refine (refDo_any _ _ _ _).mono ?_); rintro e w1 ⟨rfl, nq, rfl⟩)
    obtain ⟨hz, hb4⟩ := four_new w (inO i) (vlO ⟨0, 0⟩) (vlO ⟨1, xn⟩) (vlO ⟨1, 0⟩) nq
    have HZ := Lib.hid hz; have HB4 := Lib.hid hb4
    clear hz hb4 q0 q1 q2 q3 q4 q5 q6 q7 q8 q9 q10 q11 q12 q13 q14 c0 c1 d0 d1
    generalize ((((w.alloc (inO i)).alloc (vlO ⟨0, 0⟩)).alloc (vlO ⟨1, xn⟩)).alloc (vlO ⟨1, 0⟩)).drewN nq = W4 at *
    obtain ⟨z0, z1⟩ := nv2 HZ.out
    have hfr : ∀ j, W4.frozen? ⟨w.heap.size + 1, j, none⟩ = false := fun j => by simp only [World.frozen?, HZ.out]; simp
    go_wp2
    obtain ⟨y0, y1⟩ := nv2 (set2 HZ.out (.int .i64 1) (.int .i64 (doV i.op xn 0)))
    exact bodyPost_ret (v := .tuple #[vlV ⟨1, doV i.op xn 0⟩, .bool (doB i.op 0)]) (by simp [results, Try.results50, go_sem, y0, y1]) rfl ⟨⟨1, doV i.op xn 0⟩, doB i.op 0, rfl, lb_limb HE.out, (HB4.out.setCell (by simp) _).setCell (by simp) _⟩
  · have t1 : ((xk : Int) != 1) = true := by simpa using h1
    have HE : Hid (behV i v = some ⟨2, 0⟩) := Lib.hid (by rw [he, if_pos (.inl h1)])
    clear he h1
    go_enter Try.func50, Try.ntmps50
    go_wp2
    exact bodyPost_ret (v := .tuple #[vlV ⟨2, 0⟩, .bool true]) (by simp [results, Try.results50, go_sem]) rfl ⟨⟨2, 0⟩, true, rfl, .inl ⟨rfl, HE.out⟩, ((((Below.refl w.heap.size w).alloc (Nat.le_refl _) _).alloc (by simp <;> omega) _).alloc (by simp <;> omega) _).alloc (by simp <;> omega) _⟩
set_option maxHeartbeats 8000000 in
theorem lbeh_3 (i : Ins) (v : List Val) (a : Option Addr) (cap : Nat) (w : World) (hV : ValsAt w w.heap.size a v) (hR : RegIn i v) (hk : i.kind = 3) : Calls Try.prog 50 #[inV i, .slice a v.length cap] w (LbPost (behV i v) w) := by
  obtain ⟨⟨a0, a1⟩, b0, b1⟩ := hR.2 (by omega)
  obtain ⟨r, hr⟩ : ∃ r : Nat, i.a = (r : Int) := ⟨i.a.toNat, by omega⟩
  obtain ⟨q, hq⟩ : ∃ q : Nat, i.b = (q : Int) := ⟨i.b.toNat, by omega⟩
  obtain ⟨x, hx⟩ : ∃ x, v[r]? = some x := ⟨_, List.getElem?_eq_getElem (by omega)⟩
  obtain ⟨y, hy⟩ : ∃ y, v[q]? = some y := ⟨_, List.getElem?_eq_getElem (by omega)⟩
  have he : behV i v = if x.kind ≠ 1 ∨ (y : Val).kind ≠ 1 then some ⟨2, 0⟩ else if doB i.op (y : Val).n = true then some ⟨1, doV i.op x.n (y : Val).n⟩ else none := by
    unfold behV
    rw [if_neg (by omega), if_neg (by omega), if_pos (by omega)]
    simp [hk, hr, hq, List.getD_eq_getElem?_getD, hx, hy]
  obtain ⟨hh, hb⟩ := lb_box i w
  have q' := nv15 hh
  rw [hk, hr, hq] at q'
  obtain ⟨q0, q1, q2, q3, q4, q5, q6, q7, q8, q9, q10, q11, q12, q13, q14⟩ := q'
  obtain ⟨vb, off, rfl, hbB, _, c0, c1⟩ := ValsAt.cells (hV.below hb) hx
  have hb4 : Below w.heap.size w ((((w.alloc (inO i)).alloc (vlO ⟨0, 0⟩)).alloc (vlO x)).alloc (vlO ⟨1, 0⟩)) := (hb.alloc (by simp <;> omega) _).alloc (by simp <;> omega) _
  obtain ⟨vb', off', e', _, _, d0, d1⟩ := ValsAt.cells (hV.below hb4) hy
  injection e' with e'
  injection e' with e1 e2
  subst e1 e2
  have k0 : (0 : Int) ≤ (r : Int) := Int.natCast_nonneg _
  have k1 : (r : Int) < (v.length : Int) := by omega
  have l0 : (0 : Int) ≤ (q : Int) := Int.natCast_nonneg _
  have l1 : (q : Int) < (v.length : Int) := by omega
  clear hh hb hb4 hx hy hV hR a0 a1 b0 b1 hr hq hk
  obtain ⟨xk, xn⟩ := x
  obtain ⟨yk, yn⟩ := y
  by_cases h1 : xk = 1
  · subst h1
    by_cases h2 : yk = 1
    · subst h2
      have HE : Hid (behV i v = if doB i.op yn = true then some ⟨1, doV i.op xn yn⟩ else none) := Lib.hid (by rw [he, if_neg (by simp)])
      clear he
      go_enter Try.func50, Try.ntmps50
      go_upto_region 14 with ((with_reducible refine (refDo_any _ _ _ _).mono ?_); rintro e w1 ⟨rfl, nq, rfl⟩)
      obtain ⟨hz, hb4⟩ := four_new w (inO i) (vlO ⟨0, 0⟩) (vlO ⟨1, xn⟩) (vlO ⟨1, yn⟩) nq
      have HZ := Lib.hid hz; have HB4 := Lib.hid hb4
      clear hz hb4 q0 q1 q2 q3 q4 q5 q6 q7 q8 q9 q10 q11 q12 q13 q14 c0 c1 d0 d1
      generalize ((((w.alloc (inO i)).alloc (vlO ⟨0, 0⟩)).alloc (vlO ⟨1, xn⟩)).alloc (vlO ⟨1, yn⟩)).drewN nq = W4 at *
      obtain ⟨z0, z1⟩ := nv2 HZ.out
      have hfr : ∀ j, W4.frozen? ⟨w.heap.size + 1, j, none⟩ = false := fun j => by simp only [World.frozen?, HZ.out]; simp
      go_wp2
      obtain ⟨y0, y1⟩ := nv2 (set2 HZ.out (.int .i64 1) (.int .i64 (doV i.op xn yn)))
      exact bodyPost_ret (v := .tuple #[vlV ⟨1, doV i.op xn yn⟩, .bool (doB i.op yn)]) (by simp [results, Try.results50, go_sem, y0, y1]) rfl ⟨⟨1, doV i.op xn yn⟩, doB i.op yn, rfl, lb_limb HE.out, (HB4.out.setCell (by simp) _).setCell (by simp) _⟩
    · have t2 : ((yk : Int) != 1) = true := by simpa using h2
      have HE : Hid (behV i v = some ⟨2, 0⟩) := Lib.hid (by rw [he, if_pos (.inr h2)])
      clear he h2
      go_enter Try.func50, Try.ntmps50
      go_wp2
      exact bodyPost_ret (v := .tuple #[vlV ⟨2, 0⟩, .bool true]) (by simp [results, Try.results50, go_sem]) rfl ⟨⟨2, 0⟩, true, rfl, .inl ⟨rfl, HE.out⟩, ((((Below.refl w.heap.size w).alloc (Nat.le_refl _) _).alloc (by simp <;> omega) _).alloc (by simp <;> omega) _).alloc (by simp <;> omega) _⟩
  · have t1 : ((xk : Int) != 1) = true := by simpa using h1
    have HE : Hid (behV i v = some ⟨2, 0⟩) := Lib.hid (by rw [he, if_pos (.inl h1)])
    clear he h1
    go_enter Try.func50, Try.ntmps50
    go_wp2
    exact bodyPost_ret (v := .tuple #[vlV ⟨2, 0⟩, .bool true]) (by simp [results, Try.results50, go_sem]) rfl ⟨⟨2, 0⟩, true, rfl, .inl ⟨rfl, HE.out⟩, ((((Below.refl w.heap.size w).alloc (Nat.le_refl _) _).alloc (by simp <;> omega) _).alloc (by simp <;> omega) _).alloc (by simp <;> omega) _⟩
theorem lbeh_any (i : Ins) (v : List Val) (a : Option Addr) (cap : Nat) (w : World) (hV : ValsAt w w.heap.size a v) (hR : RegIn i v) : Calls Try.prog 50 #[inV i, .slice a v.length cap] w (LbPost (behV i v) w) := by
  by_cases h1 : i.kind = 1
  · exact lbeh_1 i v a cap w h1
  by_cases h2 : i.kind = 2
  · exact lbeh_2 i v a cap w hV hR h2
  by_cases h3 : i.kind = 3
  · exact lbeh_3 i v a cap w hV hR h3
  by_cases h4 : i.kind = 4
  · exact lbeh_4 i v a cap w hV hR h4
  exact lbeh_0 i v a cap w h1 h2 h3 h4
end Go.Proofs.Ytbalbdhbmcdbaaa
namespace Go.Proofs.Ytbalbdhbmcdbaaa
set_option maxRecDepth 100000
open Go.RowKit Cd
set_option linter.unusedVariables false
set_option linter.unusedSimpArgs false

set_option maxHeartbeats 8000000 in
theorem holds_few (r : FnR) (W : World) (h : FnK W r) (hf : few11 r.f = false) : Calls Try.prog 10 #[fnV r] W (RPost (.bool true) W) := by
  have HK := Lib.hid (h.below (box_below W r)); have HF := Lib.hid hf
  have HB0 := Lib.hid (box_below W r)
  obtain ⟨x0, x1, x2, x3, x4⟩ := nv5 (heap_alloc_new W (fnO r))
  clear h hf
  go_enter Try.func10, Try.ntmps10
  go_wp2_with (first | ((with_reducible refine (few11_c r _ HK.out false HF.out).mono ?_); rintro e w1 ⟨rfl, hb1⟩; have HB1 := Lib.hid (HB0.out.trans (hb1.mono HB0.out.size)); clear hb1) | ((with_reducible refine (awake11_any _).mono ?_); rintro e w2 ⟨rfl, hb2⟩; have HB2 := Lib.hid (HB1.out.trans (hb2.mono HB1.out.size)); clear hb2))
  go_ret
  exact ⟨rfl, HB2.out⟩
set_option maxHeartbeats 8000000 in
theorem holds_no (r : FnR) (W : World) (h : FnK W r) (hf : few11 r.f = true) (hr : rightF r.f = false) : Calls Try.prog 10 #[fnV r] W (RPost (.bool true) W) := by
  have HS0 := Lib.hid (LwSt.first W r h)
  have HF := Lib.hid hf; have HR := Lib.hid hr
  have HAN : Hid (∀ V, FnK V r → Calls Try.prog 48 #[fnV r] V (AhPost [] V)) := Lib.hid (fun V hV => ahead_n hV hr)
  obtain ⟨x0, x1, x2, x3, x4⟩ := nv5 HS0.out.fb
  clear h hf hr
  go_enter Try.func10, Try.ntmps10
  go_wp2_with (first | ((with_reducible refine (few11_c r _ HS0.out.k true HF.out).mono ?_); rintro e w1 ⟨rfl, hb1⟩; have HS1 := Lib.hid (HS0.out.below hb1); clear hb1 x0 x1 x2 x3 x4; obtain ⟨x0, x1, x2, x3, x4⟩ := nv5 HS1.out.fb) | ((with_reducible refine (HAN.out _ HS1.out.k).mono ?_); rintro e w2 ⟨ta, tc, rfl, htab, hb2⟩; have HS2 := Lib.hid (HS1.out.below hb2); clear hb2 htab x0 x1 x2 x3 x4; obtain ⟨x0, x1, x2, x3, x4⟩ := nv5 HS2.out.fb) | ((with_reducible refine (ref_right HS2.out.k false HR.out).mono ?_); rintro e w3 ⟨rfl, hb3⟩; have HS3 := Lib.hid (HS2.out.below hb3); clear hb3) | ((with_reducible refine (awake11_any _).mono ?_); rintro e w4 ⟨rfl, hb4⟩; have HS4 := Lib.hid (HS3.out.below hb4); clear hb4))
  go_ret
  exact ⟨rfl, HS4.out.hb⟩
end Go.Proofs.Ytbalbdhbmcdbaaa
namespace Go.Proofs.Ytbalbdhbmcdbaaa
set_option maxRecDepth 100000
open Go.RowKit Cd Go.Maps
set_option linter.unusedVariables false
set_option linter.unusedSimpArgs false

def RowV (w : World) (g : Nat) (v : List Val) : Prop := ∃ cur : Array Value, w.heap[g]? = some (.cells cur 58 (0, 0)) ∧ v.length * 2 ≤ cur.size ∧ cur.toList.take (v.length * 2) = v.flatMap vlCells
theorem RowV.lt {w : World} {g : Nat} {v : List Val} (h : RowV w g v) : g < w.heap.size := by obtain ⟨c, h, _⟩ := h; exact lt_heap h
theorem RowV.keep {w w' : World} {g : Nat} {v : List Val} (h : RowV w g v) (e : w'.heap[g]? = w.heap[g]?) : RowV w' g v := by obtain ⟨c, h1, h2⟩ := h; exact ⟨c, e.trans h1, h2⟩
theorem RowV.below {w w' : World} {g : Nat} {v : List Val} (h : RowV w g v) (hb : Below w.heap.size w w') : RowV w' g v := h.keep (hb.block g h.lt)
theorem RowV.frozen {w : World} {g : Nat} {v : List Val} (h : RowV w g v) (j : Nat) : w.frozen? ⟨g, j, none⟩ = false := by obtain ⟨c, h1, _⟩ := h; simp [World.frozen?, h1]
theorem RowV.vals {w : World} {g B : Nat} {v : List Val} (h : RowV w g v) (hg : g < B) (hB : B ≤ w.heap.size) : ValsAt w B (some ⟨g, 0, none⟩) v := fun _ => by
  obtain ⟨c, h1, h2, h3⟩ := h
  refine ⟨g, 0, rfl, hg, hB, fun j u hu => ?_⟩
  rw [Nat.zero_add, cell_of_row w g _ _ _ _ h1]
  rw [← h3] at hu
  have hj : j < v.length * 2 := by have := (List.getElem?_eq_some_iff.1 hu).1; rw [List.length_take] at this; omega
  rw [List.getElem?_take_of_lt hj] at hu
  simpa using hu
theorem RowV.cells {w : World} {g : Nat} {v : List Val} (h : RowV w g v) {k : Nat} {x : Val} (hk : v[k]? = some x) : w.cell? ⟨g, k * 2, none⟩ = some (.int .i64 x.kind) ∧ w.cell? ⟨g, k * 2 + 1, none⟩ = some (.int .i64 x.n) := by
  obtain ⟨b, off, e, _, _, h1, h2⟩ := ValsAt.cells (h.vals h.lt (Nat.le_refl _)) hk
  injection e with e
  injection e with e1 e2
  subst e1 e2
  simp only [Nat.zero_add] at h1 h2
  exact ⟨h1, h2⟩
theorem RowV.set {w : World} {g : Nat} {v : List Val} (h : RowV w g v) {k : Nat} (hk : k < v.length) (x : Val) : RowV ((w.setCell ⟨g, k * 2, none⟩ (.int .i64 x.kind)).setCell ⟨g, k * 2 + 1, none⟩ (.int .i64 x.n)) g (v.set k x) := by
  obtain ⟨c, h1, h2, h3⟩ := h
  refine ⟨(c.setIfInBounds (k * 2) (.int .i64 x.kind)).setIfInBounds (k * 2 + 1) (.int .i64 x.n), ?_, ?_, ?_⟩
  · have := cells_set (cells_set h1 (k * 2) (.int .i64 x.kind)) (k * 2 + 1) (.int .i64 x.n)
    simpa using this
  · rw [List.length_set]; simpa using h2
  · rw [List.length_set, ← flat_set v k x hk, ← h3]
    simp only [Array.toList_setIfInBounds]
    rw [List.take_set, List.take_set]
theorem run_append_empty {w : World} {t ty e : TypeId} {i : TypeInfo} {size base : Nat} (ht : Try.prog.underlying t = some (.slice e)) (hi : Try.prog.info? e = some i) (v : Value) (n : Nat) (xs : List Value) (hown : w.ownsRow base e size v n xs) (a : Option Addr) (c : Nat) :
    (Builtin.append_ #[t, t] ty #[v, .slice a 0 c]).run Try.prog w = .ok v w := by
  have hl : ∀ (x : Addr), (loadCells x 0).run Try.prog w = .ok #[] w := fun x => by simpa using run_loadCells_list (P := Try.prog) w x [] (by simp)
  rcases hown.2 with ⟨rfl, rfl⟩ | ⟨g, cap, cur, rfl, _, _, hnc, _⟩
  · cases a <;> simp [Builtin.append_, run_underlying ht, sizeOf, typeInfo, hi, Builtin.lenOf, Builtin.firstCells, hl, storeCells]
  · cases a <;> simp [Builtin.append_, run_underlying ht, sizeOf, typeInfo, hi, Builtin.lenOf, Builtin.firstCells, hnc, hl, storeCells]
theorem wpList_append_row {w : World} {ops : Array Oper} {rest : List Oper} {o : Oper} {a : Act} {Q : Exit → Act → World → Prop} (hgd : o.guard = none) (s x : Operand)
    (ho : o.op = .call { callee := .builtin .append, args := #[s, x], argTypes := #[59, 59] })
    (g : Nat) (hg : w.heap[g]? = some (.cells #[] 58 (0, 0))) (hs : a.eval s = .slice (some ⟨g, 0, none⟩) 0 0) (pa : Option Addr) (v : List Val) (pc : Nat) (hx : a.eval x = .slice pa v.length pc) (hp : ValsAt w w.heap.size pa v) (hl : v.length ≤ 5000)
    (h : ∀ g' c' w', g ≤ g' → Below g w w' → RowV w' g' v → wpList Try.prog ops Q rest (a.put o.dst (.slice (some ⟨g', 0, none⟩) v.length c')) w') : wpList Try.prog ops Q (o :: rest) a w := by
  have hgs := lt_heap hg
  have hown : w.ownsRow g 58 2 (.slice (some ⟨g, 0, none⟩) 0 0) 0 [] := ⟨rfl, .inr ⟨g, 0, #[], rfl, Nat.le_refl _, hg, Nat.le_refl _, by unfold maxLen; omega, rfl, rfl⟩⟩
  have hinfo := infoVal
  cases hi : Try.prog.info? 58 with
  | none => rw [hi] at hinfo; simp at hinfo
  | some i =>
    rw [hi] at hinfo
    simp only [Option.map_some, Option.some.injEq, Prod.mk.injEq] at hinfo
    obtain ⟨e1, e2, e3⟩ := hinfo
    refine wpList_plain hgd fun K hK => ?_
    by_cases h0 : v.length = 0
    · have hrun := run_append_empty (w := w) (t := 59) (ty := o.type) Try.underlying59 hi _ _ _ hown pa pc
      rw [h0] at hx
      unfold Oper.wp
      simp [execOp, ho, resolve, invoke, builtin, hs, hx, hrun, Result.andThen]
      have hv : v = [] := List.eq_nil_of_length_eq_zero h0
      subst hv
      exact hK _ _ (h g 0 w (Nat.le_refl _) (Below.mono (Below.refl w.heap.size w) (by omega)) ⟨#[], hg, by simp, rfl⟩)
    · obtain ⟨b, off, rfl, hb, _, hc⟩ := hp (by rw [flat_len vlCells_len]; omega)
      obtain ⟨v', w', hr, h2, h3, h4, h5⟩ := run_append_own_at (P := Try.prog) w g 59 o.type 58 i _ 2 16 Try.underlying59 hi e1 e2 e3 rfl (by decide) _ _ _ hown ⟨b, off, none⟩ v.length pc (v.flatMap vlCells) (flat_len vlCells_len v) (fun j u hu => by
          have := hc j u hu
          unfold Addr.add
          by_cases hj : j = 0
          · subst hj; simpa using this
          · simpa [hj] using this) (fun u hu => by
          obtain ⟨x, _, hx⟩ := List.mem_flatMap.1 hu
          simp only [List.mem_cons, List.not_mem_nil, or_false] at hx
          rcases hx with rfl | rfl <;> simp [Value.oneCell']) (by unfold maxLen; omega) (by omega) (by omega)
      unfold Oper.wp execOp
      simp only [ho, resolve, invoke, builtin, Sem.run_bind, Sem.run_pure, Result.andThen_ok, List.map_toArray, List.map_cons, List.map_nil, hs, hx, hr]
      rcases h2.2 with ⟨_, h6⟩ | ⟨g', cap, cur, rfl, h6, h7, h8, h9, h10, h11⟩
      · omega
      · rw [Nat.zero_add]
        refine hK _ _ (h g' cap w' h6 ?_ ⟨cur, h7, by rw [h10]; omega, ?_⟩)
        · exact ((Below.refl g w).grown h3 (by omega) (fun q e => by simp only [Value.ownBlock, Option.some.injEq] at e; omega))
        · simpa using h11
/-- What a round of the laws over instructions has beside what was there: the instruction's box, a row of its own. -/
structure HoSt (wB w : World) (i : Ins) (g : Nat) (u : List Val) : Prop where
  hb : Below wB.heap.size wB w
  bx : w.heap[wB.heap.size]? = some (inO i)
  rw : RowV w g u
  hg : wB.heap.size < g
theorem HoSt.below {wB w w' : World} {i : Ins} {g : Nat} {u : List Val} (h : HoSt wB w i g u) (hb : Below w.heap.size w w') : HoSt wB w' i g u :=
  ⟨h.hb.trans (hb.mono h.hb.size), (hb.block _ (lt_heap h.bx)).trans h.bx, h.rw.below hb, h.hg⟩
theorem HoSt.oth {wB w : World} {i : Ins} {g : Nat} {u : List Val} (h : HoSt wB w i g u) {Y : Nat} (h1 : wB.heap.size < Y) (h2 : Y ≠ g) (j : Nat) (v : Value) : HoSt wB (w.setCell ⟨Y, j, none⟩ v) i g u :=
  ⟨h.hb.setCell (by simp <;> omega) _, (heap_oth (by omega)).trans h.bx, h.rw.keep (heap_oth (by omega)), h.hg⟩
theorem HoSt.set {wB w : World} {i : Ins} {g : Nat} {u : List Val} (h : HoSt wB w i g u) {k : Nat} (hk : k < u.length) (x : Val) : HoSt wB ((w.setCell ⟨g, k * 2, none⟩ (.int .i64 x.kind)).setCell ⟨g, k * 2 + 1, none⟩ (.int .i64 x.n)) i g (u.set k x) := by
  have := h.hg
  exact ⟨(h.hb.setCell (by simp <;> omega) _).setCell (by simp <;> omega) _, (heap_oth (by omega)).trans ((heap_oth (by omega)).trans h.bx), h.rw.set hk x, h.hg⟩
/-- Is an edge left out, by what is known of a branch's register? -/
def Cd.skipB (i : Ins) (u : List Val) (j : Nat) : Bool := decide (i.kind = 12) && (decide ((u.getD i.a.toNat ⟨0, 0⟩).kind = 1) && ((u.getD i.a.toNat ⟨0, 0⟩).n != 0) != decide (j = 0))
theorem skip_goes {i : Ins} {u : List Val} {j : Nat} {m q : Int} (hq : (next i m)[j]? = some q) (h : skipB i u j = false) : q ∈ goesV i u m := by
  unfold goesV
  unfold skipB at h
  by_cases hk : i.kind = 12
  · have hn : next i m = [i.dest, i.els] := by unfold next; rw [if_neg (by omega), if_pos hk]
    rw [hn] at hq
    by_cases hv : (u.getD i.a.toNat ⟨0, 0⟩).kind = 1
    · rw [if_pos ⟨hk, hv⟩]
      by_cases hz : (u.getD i.a.toNat ⟨0, 0⟩).n = 0
      · simp only [hk, hv, hz, decide_true, Bool.true_and, bne_self_eq_false] at h
        have hj : j ≠ 0 := by rintro rfl; simp at h
        have hj1 : j = 1 := by have := (List.getElem?_eq_some_iff.1 hq).1; simp at this; omega
        subst hj1
        simp at hq
        rw [if_neg (fun h => h hz), hq]
        simp
      · have hzz : ((u.getD i.a.toNat ⟨0, 0⟩).n != 0) = true := by simpa using hz
        simp only [hk, hv, hzz, decide_true, Bool.true_and] at h
        have hj : j = 0 := by by_cases h0 : j = 0; exact h0; simp [h0] at h
        subst hj
        simp at hq
        rw [if_pos hz, hq]
        simp
    · rw [if_neg (fun h => hv h.2), hn]
      exact List.mem_of_getElem? hq
  · rw [if_neg (fun h => hk h.1)]
    exact List.mem_of_getElem? hq
/-- Each edge that is not left out; and each that can be gone is one of these. -/
theorem goes_skip {i : Ins} {u : List Val} {m q : Int} (h : q ∈ goesV i u m) : ∃ j : Nat, (next i m)[j]? = some q ∧ skipB i u j = false := by
  unfold goesV at h
  by_cases hk : i.kind = 12
  · have hn : next i m = [i.dest, i.els] := by unfold next; rw [if_neg (by omega), if_pos hk]
    rw [hn]
    by_cases hv : (u.getD i.a.toNat ⟨0, 0⟩).kind = 1
    · rw [if_pos ⟨hk, hv⟩, List.mem_singleton] at h
      subst h
      by_cases hz : (u.getD i.a.toNat ⟨0, 0⟩).n = 0
      · exact ⟨1, by rw [if_neg (fun h => h hz)]; simp, by unfold skipB; simp only [hz]; simp⟩
      · have hzz : ((u.getD i.a.toNat ⟨0, 0⟩).n != 0) = true := by simpa using hz
        exact ⟨0, by rw [if_pos hz]; simp, by unfold skipB; simp only [hzz]; simp⟩
    · rw [if_neg (fun h => hv h.2), hn] at h
      obtain ⟨j, hj⟩ := List.mem_iff_getElem?.1 h
      exact ⟨j, hj, by unfold skipB; simp only [decide_eq_false hv]; simp⟩
  · rw [if_neg (fun h => hk h.1)] at h
    obtain ⟨j, hj⟩ := List.mem_iff_getElem?.1 h
    exact ⟨j, hj, by unfold skipB; simp [hk]⟩
theorem take_any {u : List Val} {j : Nat} {x : Val} (hx : u[j]? = some x) : (u.take (j + 1)).any (fun a => a.kind == 0) = ((u.take j).any (fun a => a.kind == 0) || x.kind == 0) := by
  rw [take_moreV hx, List.any_append]; simp
theorem any_fullH {u : List Val} (h : u.any (fun a => a.kind == 0) = false) : fullV u := fun a ha e => by
  have := List.any_eq_false.1 h a ha
  simp [e] at this
end Go.Proofs.Ytbalbdhbmcdbaaa
