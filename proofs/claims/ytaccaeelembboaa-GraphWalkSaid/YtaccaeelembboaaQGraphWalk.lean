/-
  GraphWalk: the order begins at the first instruction, has all that are reached, each once, and what dominates ahead.
-/
import Derived.Test.YtaccaeelembboaaQGraphEdges
import Derived.Test.YtaccaeelembboaaQG9Walk
import Derived.Test.YtaccaeelembboaaQR9A
namespace Go.Proofs.Ytaccaeelembboaa
open Go.RowKit Cd Go.Maps
set_option linter.unusedVariables false
set_option linter.unusedSimpArgs false
theorem own_cap9 {w : World} {B n c : Nat} {e : TypeId} {a : Option Addr} {xs : List Value} (h : w.ownsRow B e 1 (.slice a n c) n xs) : n ≤ c := by
  obtain ⟨_, ⟨hv, h0⟩ | ⟨g, cap, cur, hv, _, _, h1, h2, _⟩⟩ := h
  · subst h0; exact Nat.zero_le _
  · injection hv with _ _ h4
    rw [h4]; exact h1
def CPost (l : List Int) (w : World) (e : Ending) (w' : World) : Prop := ∃ a c, l.length ≤ c ∧ e = .returned (.slice a l.length c) ∧ IntsAt w' a l ∧ Below w.heap.size w w'
theorem order_c (r : FnR) (w : World) (h : FnOk w r) (hf : RightF r.f) (o : List Int) (ho : orderN r.f.code = o) : Calls Try.prog 13 #[fnV r] w (CPost o w) := by
  refine (order_g r w h _ (followG_yes hf)).mono ?_
  rintro e w' ⟨o, h1, h2, v, rfl, h3, h4⟩
  rw [← ho, ← ord_order (closed_of hf) hf.code.1 h1]
  obtain ⟨a, c, rfl⟩ := row_slice h3
  exact ⟨a, c, own_cap9 h3, rfl, IntsAt.of_own h3, h4⟩
theorem in_k (l : List Int) (k : Nat) (hk : k ≤ l.length) (a : Option Addr) (cap : Nat) (n : Int) (v : Bool) (hv : (l.take k).contains n = v) (w : World) (h : IntsAt w a l) (hl : l.length ≤ 100000) :
    Calls Try.prog 26 #[.slice a k cap, .int .i64 n] w fun e w' => e = .returned (.bool v) ∧ w = w' := by
  subst hv
  have h1 : (l.take k).length = k := by rw [List.length_take]; omega
  have := in_any (l.take k) a cap n w (fun q => by
    obtain ⟨b, off, ha, hb, hB, hc⟩ := h (by rw [List.length_map] at q ⊢; omega)
    refine ⟨b, off, ha, hb, hB, fun j u hu => hc j u ?_⟩
    rw [List.map_take, List.getElem?_take] at hu
    split at hu
    · exact hu
    · cases hu) (by rw [h1]; unfold maxLen; omega)
  rwa [h1] at this
/-- How many are true. -/
def yes : List Bool → Nat
  | [] => 0
  | true :: l => yes l + 1
  | false :: l => yes l
theorem yes_append : ∀ (l m : List Bool), yes (l ++ m) = yes l + yes m
  | [], m => by simp [yes]
  | true :: l, m => by show yes (l ++ m) + 1 = yes l + 1 + yes m; rw [yes_append l m]; omega
  | false :: l, m => yes_append l m
theorem yes_more {L : List Bool} {k : Nat} {b : Bool} (h : L[k]? = some b) : yes (L.take (k + 1)) = yes (L.take k) + (if b then 1 else 0) := by
  rw [List.take_add_one, h, yes_append]
  cases b <;> rfl
theorem yes_le : ∀ (l : List Bool) {n : Nat}, l.length ≤ n → yes l ≤ n
  | [], n, _ => Nat.zero_le n
  | true :: l, n, h => by have := yes_le l (n := n - 1) (by simp at h; omega); simp at h; show yes l + 1 ≤ n; omega
  | false :: l, n, h => yes_le l (by simp at h; omega)
theorem yes_filter (p : Nat → Bool) : ∀ (l : List Nat), yes (l.map p) = (l.filter p).length
  | [] => rfl
  | x :: l => by
    cases hx : p x with
    | true => rw [List.filter_cons_of_pos hx, List.map_cons, hx, List.length_cons]; show yes _ + 1 = _; rw [yes_filter p l]
    | false => rw [List.filter_cons_of_neg (by rw [hx]; simp), List.map_cons, hx]; exact yes_filter p l
/-- As many are reached as the order has. -/
theorem yes_order {c : List Ins} (hc : Closed c) (h0 : 0 < c.length) : yes (reachL (nextG c)) = (orderN c).length := by
  have h9 : nextG c ≠ [] := fun q => by have := nextG_len c; rw [q] at this; simp at this; omega
  obtain ⟨_, hnd, hmem, _⟩ := orderN_walk hc h0
  rw [show reachL (nextG c) = foundB (nextG c) [0] (-1) from if_neg h9]
  unfold foundB
  rw [yes_filter, nextG_len, ← List.length_map (f := Int.ofNat)]
  refine List.Perm.length_eq ((List.perm_ext_iff_of_nodup ?_ hnd).2 fun x => ?_)
  · unfold List.Nodup
    rw [List.pairwise_map]
    exact (List.Pairwise.filter _ List.nodup_range).imp (fun h e => h (Int.ofNat.inj e))
  · rw [hmem, ← path_reach hc h0, List.mem_map]
    constructor
    · rintro ⟨n, hn, rfl⟩
      rw [List.mem_filter] at hn
      simpa using hn.2
    · intro h
      have hi := ((path_reach hc h0).1 h).inside hc (zero_inside h0)
      refine ⟨x.toNat, ?_, Int.toNat_of_nonneg hi.1⟩
      rw [List.mem_filter, List.mem_range]
      refine ⟨by have := hi.2; have := hi.1; omega, ?_⟩
      simpa [Int.toNat_of_nonneg hi.1] using h
theorem walk_at {c : List Ins} {L : List Bool} {o : List Int} {i : Nat} {a : Int} (hL : reachL (nextG c) = L) (hc : Closed c) (h0 : 0 < c.length) (h : o[0]? = some 0 ∧ o.Nodup ∧ (∀ x, x ∈ o ↔ Cd.Reach c (-1) 0 x) ∧ o.Pairwise (fun b a => Cd.Reach c a 0 b)) (hl : L.length = c.length) (ha : o[i]? = some a) :
    0 ≤ a ∧ a < (c.length : Int) ∧ L[a.toNat]? = some true ∧ (o.take i).contains a = false := by
  have hr := (h.2.2.1 a).1 (List.mem_of_getElem? ha)
  have hi := hr.inside hc (zero_inside h0)
  have ht : ((a.toNat : Nat) : Int) = a := Int.toNat_of_nonneg hi.1
  refine ⟨hi.1, hi.2, ?_, ?_⟩
  · rw [← hL, reachL_at2 hc h0 (n := a.toNat) (by have := hi.2; have := hi.1; omega), ht, (reachedB_iff hc h0 a).2 hr]
  · rw [Bool.eq_false_iff, ne_eq, List.contains_iff_mem]
    intro hm
    obtain ⟨j, hj⟩ := List.mem_iff_getElem?.1 hm
    rw [List.getElem?_take] at hj
    split at hj
    · rename_i hji
      have := List.pairwise_iff_getElem.1 (show o.Pairwise (· ≠ ·) from h.2.1) j i (List.getElem?_eq_some_iff.1 hj).1 (List.getElem?_eq_some_iff.1 ha).1 hji
      exact this (by rw [(List.getElem?_eq_some_iff.1 hj).2, (List.getElem?_eq_some_iff.1 ha).2])
    · cases hj
/-- A later one does not dominate one that stands ahead. -/
theorem walk_dom {f : Fnc} {o : List Int} {i j : Nat} {a b : Int} (hf : RightF f) (h : o[0]? = some 0 ∧ o.Nodup ∧ (∀ x, x ∈ o ↔ Cd.Reach f.code (-1) 0 x) ∧ o.Pairwise (fun b a => Cd.Reach f.code a 0 b)) (ha : o[i]? = some a) (hb : o[j]? = some b) (hji : j < i) : domR (nextG f.code) a b = false := by
  have h1 := List.pairwise_iff_getElem.1 h.2.2.2 j i (List.getElem?_eq_some_iff.1 hb).1 (List.getElem?_eq_some_iff.1 ha).1 hji
  have h2 := List.pairwise_iff_getElem.1 (show o.Pairwise (· ≠ ·) from h.2.1) j i (List.getElem?_eq_some_iff.1 hb).1 (List.getElem?_eq_some_iff.1 ha).1 hji
  rw [(List.getElem?_eq_some_iff.1 hb).2, (List.getElem?_eq_some_iff.1 ha).2] at h1 h2
  rw [Bool.eq_false_iff, ne_eq, domR_dom (closed_of hf) hf.code.1]
  exact order_dom h1 (fun e => h2 e.symm)
set_option maxRecDepth 100000 in
set_option maxHeartbeats 8000000 in
theorem walk_few (r : FnR) (W : World) (h : FnOk W r) (hf : few9 r.f = false) : Calls Try.prog 8 #[fnV r] W (RPost (.bool true) W) := by
  have H := Lib.hid (h.below (bx1_below W r)); have HF := Lib.hid hf
  clear h hf
  obtain ⟨x0, x1, x2, x3, x4⟩ := nv5 (heap_alloc_new W (fnO r))
  go_enter Try.func8, Try.ntmps8
  go_wp2_with (first | ((with_reducible refine (few_c r _ H.out false HF.out).mono ?_); rintro e w1 ⟨rfl, hb1⟩; have HB1 := Lib.hid ((bx1_below W r).trans (hb1.mono (by simp))); clear hb1) | ((with_reducible refine (awake9_any _).mono ?_); rintro e w2 ⟨rfl, hb2⟩; have HB2 := Lib.hid (HB1.out.trans (hb2.mono HB1.out.size)); clear hb2))
  go_ret
  exact ⟨rfl, HB2.out⟩
set_option maxRecDepth 100000 in
set_option maxHeartbeats 8000000 in
theorem walk_no (r : FnR) (W : World) (h : FnOk W r) (hf : few9 r.f = true) (hr : rightF r.f = false) : Calls Try.prog 8 #[fnV r] W (RPost (.bool true) W) := by
  have HOK : Hid (∀ V, Below W.heap.size W V → FnOk V r) := Lib.hid (fun V hb => h.below hb)
  have HF := Lib.hid hf; have HR := Lib.hid hr
  have HB0 := Lib.hid (bx1_below W r)
  have HU0 := Lib.hid (heap_alloc_new W (fnO r))
  clear h hf hr
  obtain ⟨x0, x1, x2, x3, x4⟩ := nv5 HU0.out
  go_enter Try.func8, Try.ntmps8
  go_wp2_with (first | ((with_reducible refine (few_c r _ (HOK.out _ HB0.out) true HF.out).mono ?_); rintro e w1 ⟨rfl, hb1⟩; have HU1 := Lib.hid ((hb1.block W.heap.size (by simp)).trans HU0.out); have HB1 := Lib.hid (HB0.out.trans (hb1.mono HB0.out.size)); clear hb1 x0 x1 x2 x3 x4; obtain ⟨x0, x1, x2, x3, x4⟩ := nv5 HU1.out) | ((with_reducible refine (rightc_l r _ (HOK.out _ HB1.out) false HR.out).mono ?_); rintro e w5 ⟨rfl, hb5⟩; have HB5 := Lib.hid (HB1.out.trans (hb5.mono HB1.out.size)); clear hb5) | ((with_reducible refine (awake9_any _).mono ?_); rintro e w6 ⟨rfl, hb6⟩; have HB6 := Lib.hid (HB5.out.trans (hb6.mono HB5.out.size)); clear hb6))
  go_ret
  exact ⟨rfl, HB6.out⟩
set_option maxRecDepth 100000 in
set_option maxHeartbeats 16000000 in
theorem walk_yes (r : FnR) (W : World) (h : FnOk W r) (hf : few9 r.f = true) (hr : RightF r.f) (o : List Int) (ho : orderN r.f.code = o) : Calls Try.prog 8 #[fnV r] W (RPost (.bool true) W) := by
  have HOK : Hid (∀ V, Below W.heap.size W V → FnOk V r) := Lib.hid (fun V hb => h.below hb)
  have HF := Lib.hid hf; have HR := Lib.hid hr; have HO := Lib.hid ho
  have HC := Lib.hid (closed_of hr); have H0 := Lib.hid hr.code.1
  have HB0 := Lib.hid (bx1_below W r)
  have HU0 := Lib.hid (heap_alloc_new W (fnO r))
  have HNL : Hid (r.f.code.length ≤ 10000) := Lib.hid (by have := hr.code.2; omega)
  clear h hf hr ho
  obtain ⟨x0, x1, x2, x3, x4⟩ := nv5 HU0.out
  go_enter Try.func8, Try.ntmps8
  go_upto_region 3 with (first | ((with_reducible refine (few_c r _ (HOK.out _ HB0.out) true HF.out).mono ?_); rintro e w1 ⟨rfl, hb1⟩; have HU1 := Lib.hid ((hb1.block W.heap.size (by simp)).trans HU0.out); have HB1 := Lib.hid (HB0.out.trans (hb1.mono HB0.out.size)); clear hb1 x0 x1 x2 x3 x4; obtain ⟨x0, x1, x2, x3, x4⟩ := nv5 HU1.out) | ((with_reducible refine (rightc_l r _ (HOK.out _ HB1.out) true (rightF_iff.2 HR.out)).mono ?_); rintro e w5 ⟨rfl, hb5⟩; have HU5 := Lib.hid ((hb5.block W.heap.size (lt_heap HU1.out)).trans HU1.out); have HB5 := Lib.hid (HB1.out.trans (hb5.mono HB1.out.size)); clear hb5 x0 x1 x2 x3 x4; obtain ⟨x0, x1, x2, x3, x4⟩ := nv5 HU5.out))
  go_cut [3, 4] from 3 to 24 (fun s3 s4 wx => ∃ oa oc ra rc, o.length ≤ oc ∧ s3 = .slice oa o.length oc ∧ s4 = .slice ra r.f.code.length rc ∧ Hid (Below W.heap.size W wx) ∧ Hid (wx.heap[W.heap.size]? = some (fnO r)) ∧ Hid (RowAt wx wx.heap.size ra (bools (reachL (nextG r.f.code)))) ∧ Hid (IntsAt wx oa o))
  case first =>
    go_region_with (first | ((with_reducible refine (order_c r _ (HOK.out _ (drW HB5.out)) HR.out o HO.out).mono ?_); rintro e w6 ⟨oa, oc, hcap, rfl, hoa, hb6⟩; have HCAP := Lib.hid hcap; have HOA6 := Lib.hid hoa; have HU6 := Lib.hid ((hb6.block W.heap.size (lt_heap HU5.out)).trans HU5.out); have HB6 := Lib.hid ((drW HB5.out).trans (hb6.mono HB5.out.size)); clear hb6 hoa hcap x0 x1 x2 x3 x4; obtain ⟨x0, x1, x2, x3, x4⟩ := nv5 HU6.out) | ((with_reducible refine (reached_l r _ (HOK.out _ HB6.out) HR.out _ rfl).mono ?_); rintro e w7 ⟨ra, rc, rfl, hra, hb7⟩; have HRA7 := Lib.hid hra.row; have HOA7 := Lib.hid (HOA6.out.below hb7); have HU7 := Lib.hid ((hb7.block W.heap.size (lt_heap HU6.out)).trans HU6.out); have HB7 := Lib.hid (HB6.out.trans (hb7.mono HB6.out.size)); clear hb7 hra x0 x1 x2 x3 x4; obtain ⟨x0, x1, x2, x3, x4⟩ := nv5 HU7.out))
    all_goals (go_wp2; go_meet; case rel => exact ⟨_, _, _, _, HCAP.out, rfl, rfl, HB7, HU7, HRA7, HOA7⟩)
  case rest =>
    obtain ⟨oa, oc, ra, rc, hoc, rfl, rfl, HB6, HU6, HRA, HOA⟩ := hcut
    have HOC := Lib.hid hoc
    clear hoc
    clear x0 x1 x2 x3 x4
    obtain ⟨L, hL⟩ : ∃ L, reachL (nextG r.f.code) = L := ⟨_, rfl⟩
    have HLL : Hid (L.length = r.f.code.length) := Lib.hid (hL ▸ reachL_len2 H0.out)
    have HLE := Lib.hid hL
    rw [hL] at HRA
    clear hL
    go_wp2
    go_loopg [5, 27] r.f.code.length (fun g s5 s27 wr => ∃ k : Nat, g = r.f.code.length - k ∧ k ≤ r.f.code.length ∧ s5 = .int .i64 ((yes (L.take k) : Nat) : Int) ∧ s27 = .int .i64 (k : Int) ∧ wr = wc)
    case atStart => exact ⟨0, rfl, Nat.zero_le _, rfl, rfl, rfl⟩
    case round =>
      obtain ⟨k, rfl, hk, rfl, rfl, hw⟩ := hrel
      obtain rfl : wc = wr := hw.symm
      have k0 : (0 : Int) ≤ (k : Int) := Int.natCast_nonneg _
      by_cases hlt : k < r.f.code.length
      · have k1 : (k : Int) < (r.f.code.length : Int) := by omega
        obtain ⟨b0, hb0⟩ : ∃ b0, L[k]? = some b0 := ⟨_, List.getElem?_eq_getElem (by rw [HLL.out]; exact hlt)⟩
        obtain ⟨rb, roff, rfl, hrb1, hrb2, hrc⟩ := HRA.out (by rw [List.length_map, HLL.out]; exact H0.out)
        have hrcell := hrc k (.bool b0) (by rw [List.getElem?_map, hb0]; rfl)
        have HM := Lib.hid (yes_more hb0); have HLT := Lib.hid hlt; have HYL := Lib.hid (yes_le (L.take k) (List.length_take_le k L))
        clear hb0 hrc
        cases b0 with
        | true =>
          go_wp2
          go_roundg (r.f.code.length - (k + 1))
          case measure => have := HLT.out; omega
          case rel => exact ⟨k + 1, rfl, HLT.out, by rw [HM.out]; have := HYL.out; have := HNL.out; have := HLT.out; first | rfl | (rw [show wrap64 (((yes (L.take k) : Nat) : Int) + 1) = ((yes (L.take k) + 1 : Nat) : Int) by unfold wrap64; omega]; rfl), by have := HNL.out; have := HLT.out; rw [show wrap64 ((k : Int) + 1) = ((k + 1 : Nat) : Int) by unfold wrap64; omega], by first | rfl | trivial⟩
        | false =>
          go_wp2
          go_roundg (r.f.code.length - (k + 1))
          case measure => have := HLT.out; omega
          case rel => exact ⟨k + 1, rfl, HLT.out, by rw [HM.out]; rfl, by have := HNL.out; have := HLT.out; rw [show wrap64 ((k : Int) + 1) = ((k + 1 : Nat) : Int) by unfold wrap64; omega], by first | rfl | trivial⟩
      · obtain rfl : k = r.f.code.length := by omega
        have HT : Hid (L.take r.f.code.length = L) := Lib.hid (by rw [← HLL.out]; exact List.take_length)
        rw [HT.out]
        have HYO : Hid (yes L = o.length) := Lib.hid (by rw [← HLE.out, ← HO.out]; exact yes_order HC.out H0.out)
        have HOL : Hid (o.length ≤ 10000) := Lib.hid (by rw [← HYO.out]; exact yes_le L (by rw [HLL.out]; exact HNL.out))
        have HWK := Lib.hid (HO.out ▸ orderN_walk HC.out H0.out)
        rw [HYO.out]
        go_wp2
        go_loopg [37] o.length (fun g s37 w2 => ∃ i : Nat, g = o.length - i ∧ i ≤ o.length ∧ s37 = .int .i64 (i : Int) ∧ Hid (Below wc.heap.size wc w2))
        case atStart => exact ⟨0, rfl, Nat.zero_le _, rfl, Lib.hid (Below.refl _ _)⟩
        case round =>
          obtain ⟨i, rfl, hi, rfl, HBR⟩ := hrel
          have HBW := Lib.hid (HB6.out.trans (HBR.out.mono HB6.out.size))
          have hz6 := lt_heap HU6.out
          have HU7 := Lib.hid ((HBR.out.block _ hz6).trans HU6.out)
          obtain ⟨x0, x1, x2, x3, x4⟩ := nv5 HU7.out
          have i0 : (0 : Int) ≤ (i : Int) := Int.natCast_nonneg _
          by_cases hilt : i < o.length
          · have i1 : (i : Int) < (o.length : Int) := by omega
            obtain ⟨a, ha⟩ : ∃ a, o[i]? = some a := ⟨_, List.getElem?_eq_getElem hilt⟩
            obtain ⟨ob, ooff, rfl, hob, hocell⟩ := (HOA.out.below HBR.out).at ha
            obtain ⟨a0, a1, hLa, hIn⟩ := walk_at HLE.out HC.out H0.out HWK.out HLL.out ha
            obtain ⟨rb, roff, rfl, hrb1, hrb2, hrc⟩ := (HRA.out.below HBR.out) (by rw [List.length_map, HLL.out]; exact H0.out)
            have hrcell := hrc a.toNat (.bool true) (by rw [List.getElem?_map, hLa]; rfl)
            have HI := Lib.hid hIn; have HA := Lib.hid ha; have HILT := Lib.hid hilt
            have ioc : i ≤ oc := by have := HOC.out; omega
            have i2 : (i : Int) ≤ (oc : Int) := by omega
            clear hLa hIn ha hrc
            go_wp2_with ((with_reducible refine (in_k o i (Nat.le_of_lt HILT.out) _ oc a false HI.out _ (HOA.out.below HBR.out) (by have := HOL.out; omega)).mono ?_); rintro e w9 ⟨rfl, rfl⟩)
            go_loopg [68] i (fun g s68 w3 => ∃ j : Nat, g = i - j ∧ j ≤ i ∧ s68 = .int .i64 (j : Int) ∧ Hid (Below wc.heap.size wc w3))
            case atStart => exact ⟨0, rfl, Nat.zero_le _, rfl, HBR⟩
            case round =>
              obtain ⟨j, rfl, hj, rfl, HBQ⟩ := hrel
              have HBV := Lib.hid (HB6.out.trans (HBQ.out.mono HB6.out.size))
              have HU8 := Lib.hid ((HBQ.out.block _ hz6).trans HU6.out)
              obtain ⟨y0, y1, y2, y3, y4⟩ := nv5 HU8.out
              have j0 : (0 : Int) ≤ (j : Int) := Int.natCast_nonneg _
              by_cases hjlt : j < i
              · have j1 : (j : Int) < (i : Int) := by omega
                obtain ⟨b, hb⟩ : ∃ b, o[j]? = some b := ⟨_, List.getElem?_eq_getElem (by have := HILT.out; omega)⟩
                obtain ⟨_, _, he, hob2, hbcell⟩ := (HOA.out.below HBQ.out).at hb
                cases he
                have HD := Lib.hid (walk_dom HR.out HWK.out HA.out hb hjlt)
                have HJ := Lib.hid hjlt
                clear hb
                go_wp2_with ((with_reducible refine (dominates_g r a b _ (HOK.out _ HBV.out) _ (followG_yes HR.out) _ HD.out).mono ?_); rintro e w10 ⟨rfl, hb10⟩; have HBY := Lib.hid (HBQ.out.trans (hb10.mono HBQ.out.size)); clear hb10)
                go_roundg (i - (j + 1))
                case measure => have := HJ.out; omega
                case rel => exact ⟨j + 1, rfl, HJ.out, by have := HOL.out; have := HILT.out; have := HJ.out; rw [show wrap64 ((j : Int) + 1) = ((j + 1 : Nat) : Int) by unfold wrap64; omega], HBY⟩
              · obtain rfl : j = i := by omega
                go_wp2
                go_roundg (o.length - (j + 1))
                case measure => have := HILT.out; omega
                case rel => exact ⟨j + 1, rfl, HILT.out, by have := HOL.out; have := HILT.out; rw [show wrap64 ((j : Int) + 1) = ((j + 1 : Nat) : Int) by unfold wrap64; omega], HBQ⟩
          · obtain rfl : i = o.length := by omega
            obtain ⟨ob, ooff, rfl, hob, hocell⟩ := (HOA.out.below HBR.out).at HWK.out.1
            have hpos : 0 < o.length := (List.getElem?_eq_some_iff.1 HWK.out.1).1
            have hpos2 : (0 : Int) < (o.length : Int) := by omega
            have hpd : decide ((0 : Int) < (o.length : Int)) = true := decide_eq_true hpos2
            rw [Nat.add_zero] at hocell
            go_wp2_with ((with_reducible refine (awake9_any _).mono ?_); rintro e w9 ⟨rfl, hb9⟩; have HB9 := Lib.hid (HBW.out.trans (hb9.mono HBW.out.size)); clear hb9)
            go_ret
            exact ⟨rfl, HB9.out⟩
theorem walk_any9 (r : FnR) (W : World) (hc : CodeAt W W.heap.size r) (hl : r.f.code.length ≤ maxLen) : Calls Try.prog 8 #[fnV r] W (RPost (.bool true) W) := by
  cases hf : few9 r.f with
  | false => exact walk_few r W ⟨hc, hl⟩ hf
  | true =>
    cases hr : rightF r.f with
    | false => exact walk_no r W ⟨hc, hl⟩ hf hr
    | true => exact walk_yes r W ⟨hc, hl⟩ hf (rightF_iff.1 hr) _ rfl
end Go.Proofs.Ytaccaeelembboaa
