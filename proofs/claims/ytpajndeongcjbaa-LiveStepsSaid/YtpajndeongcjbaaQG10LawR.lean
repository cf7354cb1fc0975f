/-
  What LiveRegisters carries; of functions that are too many, or may not be.
-/
import Derived.Test.YtpajndeongcjbaaQMK
import Derived.Test.YtpajndeongcjbaaQMN
import Derived.Test.YtpajndeongcjbaaQLA
import Derived.BigQuiet
import Derived.Deep.AppendLies
import Derived.Deep.CutRange
import Derived.Deep.DeepCutAuto
import Derived.Deep.RegionWith
namespace Go.Proofs.Ytpajndeongcjbaa
set_option maxRecDepth 100000
open Go.RowKit Cd
set_option linter.unusedVariables false
set_option linter.unusedSimpArgs false

set_option maxHeartbeats 4000000 in
/-- Lists of numbers are the same just if they are. -/
theorem sameR_c (x y : List Int) (a b : Option Addr) (n m : Nat) (w : World) (hA : RowAt w w.heap.size a (ints x)) (hB : RowAt w w.heap.size b (ints y)) (hx : x.length ≤ 100000) (hy : y = x) :
    Calls Try.prog 22 #[.slice a x.length n, .slice b y.length m] w (RPost (.bool true) w) := by
  subst hy
  have HA := Lib.hid hA; have HB := Lib.hid hB
  have t0 : ((y.length : Int) != (y.length : Int)) = false := by simp
  clear hA hB
  go_enter Try.func22, Try.ntmps22
  go_wp2
  go_loopw [13] (fun s13 wr => ∃ k : Nat, k ≤ y.length ∧ s13 = .int .i64 (k : Int) ∧ Hid (Below w.heap.size w wr)) (fun s13 wr => y.length - (intOf s13).toNat)
  case atStart => exact ⟨0, by omega, rfl, Lib.hid (Below.refl _ _)⟩
  case round =>
    obtain ⟨k, hk, rfl, HK⟩ := hrel
    have k0 : (0 : Int) ≤ (k : Int) := Int.natCast_nonneg _
    have hs := HK.out.size
    by_cases hlt : k < y.length
    · have k1 : (k : Int) < (y.length : Int) := by omega
      obtain ⟨v, hv⟩ : ∃ v, y[k]? = some v := ⟨_, List.getElem?_eq_getElem hlt⟩
      obtain ⟨b1, o1, rfl, hb1, hw1, q1⟩ := IntsAt.cellsB (HA.out.below HK.out) hv
      obtain ⟨b2, o2, rfl, hb2, hw2, q2⟩ := IntsAt.cellsB (HB.out.below HK.out) hv
      have HLT := Lib.hid hlt
      clear hv hlt
      go_wp2
      go_quiet (fail)
      go_wp2
      go_roundw
      case rel => exact ⟨k + 1, HLT.out, by go_num, Lib.hid (drN HK.out _)⟩
      case measure => have := HLT.out; simp [intOf]; omega
    · obtain rfl : k = y.length := by omega
      go_wp2
      go_ret
      exact ⟨rfl, HK.out⟩
/-- The box of a law over a function. -/
structure LfSt (w0 w : World) (r : FnR) : Prop where
  fb : w.heap[w0.heap.size]? = some (fnO r)
  c0 : CodeAt w w0.heap.size r
  len : r.f.code.length ≤ maxLen
  hb : Below w0.heap.size w0 w
section
variable {w0 w w' : World} {r : FnR}
theorem LfSt.lt (h : LfSt w0 w r) : w0.heap.size + 1 ≤ w.heap.size := lt_heap h.fb
theorem LfSt.k (h : LfSt w0 w r) : LvK w r := ⟨code_up h.c0 h.hb.size, h.len⟩
theorem LfSt.first (W : World) (r : FnR) (h : LvK W r) : LfSt W (W.alloc (fnO r)) r := ⟨heap_alloc_new W _, h.code.below (box_lv W r), h.len, box_lv W r⟩
theorem LfSt.grow {row : Option Nat} (h : LfSt w0 w r) (hg : w.grownBy w' row) (hr : ∀ q, row = some q → w0.heap.size + 1 ≤ q) : LfSt w0 w' r := by
  have hl := h.lt
  have hb : Below (w0.heap.size + 1) w w' := (Below.mono (Below.refl w.heap.size w) hl).grown hg (by omega) (fun q e => hr q e)
  exact ⟨(hb.block _ (by omega)).trans h.fb, h.c0.below (hb.mono (by omega)), h.len, h.hb.trans (hb.mono (by omega))⟩
theorem LfSt.below (h : LfSt w0 w r) (hb : Below w.heap.size w w') : LfSt w0 w' r := by
  have := h.lt
  exact ⟨(hb.block _ (by omega)).trans h.fb, h.c0.below (hb.mono (by omega)), h.len, h.hb.trans (hb.mono (by omega))⟩
theorem LfSt.drew (h : LfSt w0 w r) : LfSt w0 w.drew r := ⟨h.fb, h.c0, h.len, drW h.hb⟩
/-- Two rows of numbers, each its own. -/
structure TwoR (w : World) (LO : Nat) (v1 : Value) (l1 : List Int) (v2 : Value) (l2 : List Int) : Prop where
  own1 : w.ownsRow LO 3 1 v1 l1.length (ints l1)
  own2 : w.ownsRow LO 3 1 v2 l2.length (ints l2)
  apart : ∀ g, v1.ownBlock = some g → v2.ownBlock ≠ some g
variable {LO : Nat} {v1 v2 : Value} {l1 l2 : List Int}
theorem TwoR.swap (h : TwoR w LO v1 l1 v2 l2) : TwoR w LO v2 l2 v1 l1 := ⟨h.own2, h.own1, fun g h1 h2 => h.apart g h2 h1⟩
theorem TwoR.below (h : TwoR w LO v1 l1 v2 l2) (hb : Below w.heap.size w w') : TwoR w' LO v1 l1 v2 l2 := ⟨own_keep h.own1 (fun g hg => hb.block g (h.own1.lt g hg).2), own_keep h.own2 (fun g hg => hb.block g (h.own2.lt g hg).2), h.apart⟩
theorem TwoR.push (h : TwoR w LO v1 l1 v2 l2) {g cap : Nat} {x : Int} (hown : w'.ownsRow LO 3 1 (.slice (some ⟨g, 0, none⟩) (l1.length + 1) cap) (l1.length + 1) (ints l1 ++ [.int .i64 x])) (hgr : w.grownBy w' v1.ownBlock) (hat : v1.ownBlock = some g ∨ w.heap.size ≤ g) : TwoR w' LO (.slice (some ⟨g, 0, none⟩) (l1.length + 1) cap) (l1 ++ [x]) v2 l2 := by
  refine ⟨?_, own_keep h.own2 (fun q hq => hgr.block q (h.own2.lt q hq).2 (fun e => h.apart q e.symm hq)), fun q h1 h2 => ?_⟩
  · rw [List.length_append]
    simpa [ints] using hown
  · simp only [Value.ownBlock, Option.some.injEq] at h1
    subst h1
    rcases hat with e | e
    · exact h.apart _ e h2
    · have := (h.own2.lt _ h2).2; omega
end
theorem rrow_at {w : World} {B ga n : Nat} {f : Nat → List Int} (h : RowsAt w B (some ⟨ga, 0, none⟩) ((List.range n).map f)) {k : Nat} (hk : k < n) : ∃ a c, ga < B ∧ w.cell? ⟨ga, k, none⟩ = some (.slice a (f k).length c) ∧ RowAt w B a (ints (f k)) := by
  obtain ⟨vs, h1, h2, h3⟩ := h
  obtain ⟨a, c, h4, h5, _⟩ := h3 k (f k) (by rw [List.getElem?_map, List.getElem?_range hk]; rfl)
  have hl := (List.getElem?_eq_some_iff.1 h4).1
  obtain ⟨b, off, e, hb, _, hc⟩ := h2 (by omega)
  injection e with e
  injection e with e1 e2 _
  subst e1
  subst e2
  exact ⟨a, c, hb, by have := hc k _ h4; rwa [Nat.zero_add] at this, h5⟩
set_option maxHeartbeats 8000000 in
theorem lregs_few (r : FnR) (W : World) (h : LvK W r) (hf : few10 r.f = false) : Calls Try.prog 3 #[fnV r] W (RPost (.bool true) W) := by
  have HS0 := Lib.hid (LfSt.first W r h)
  have HF := Lib.hid hf
  obtain ⟨x0, x1, x2, x3, x4⟩ := nv5 HS0.out.fb
  clear h hf
  go_enter Try.func3, Try.ntmps3
  go_wp2_with (first | ((with_reducible refine (few10_c r _ HS0.out.k false HF.out).mono ?_); rintro e w1 ⟨rfl, hb1⟩; have HS1 := Lib.hid (HS0.out.below hb1); clear hb1) | ((with_reducible refine (awake10_any _).mono ?_); rintro e w2 ⟨rfl, hb2⟩; have HS2 := Lib.hid (HS1.out.below hb2); clear hb2))
  go_ret
  exact ⟨rfl, HS2.out.hb⟩
theorem aheadN_c (r : FnR) (w : World) (h : LvK w r) (hR : rightF r.f = false) : Calls Try.prog 17 #[fnV r] w (fun e w' => e = .returned (.slice none 0 0) ∧ Below w.heap.size w w') := by
  have HS0 := Lib.hid (LfSt.first w r h)
  have HR := Lib.hid hR
  obtain ⟨x0, x1, x2, x3, x4⟩ := nv5 HS0.out.fb
  clear h hR
  go_enter Try.func17, Try.ntmps17
  go_wp2_with ((with_reducible refine (reg_no r _ _ HS0.out.k.code HS0.out.len HR.out).mono ?_); rintro e u ⟨rfl, hb⟩; have HS1 := Lib.hid (HS0.out.below hb); clear hb)
  go_ret
  exact ⟨rfl, HS1.out.hb⟩
theorem behindN_c (r : FnR) (w : World) (h : LvK w r) (hR : rightF r.f = false) : Calls Try.prog 18 #[fnV r] w (fun e w' => e = .returned (.slice none 0 0) ∧ Below w.heap.size w w') := by
  have HS0 := Lib.hid (LfSt.first w r h)
  have HR := Lib.hid hR
  obtain ⟨x0, x1, x2, x3, x4⟩ := nv5 HS0.out.fb
  clear h hR
  go_enter Try.func18, Try.ntmps18
  go_wp2_with ((with_reducible refine (reg_no r _ _ HS0.out.k.code HS0.out.len HR.out).mono ?_); rintro e u ⟨rfl, hb⟩; have HS1 := Lib.hid (HS0.out.below hb); clear hb)
  go_ret
  exact ⟨rfl, HS1.out.hb⟩
theorem lrright {r : FnR} {w : World} (h : LvK w r) (q : Bool) (hq : rightF r.f = q) : Calls Try.prog 19 #[fnV r] w (RPost (.bool q) w) := hq ▸ rightFunc_any r w.heap.size w h.code h.len
set_option maxHeartbeats 8000000 in
theorem lregs_no (r : FnR) (W : World) (h : LvK W r) (hf : few10 r.f = true) (hr : rightF r.f = false) : Calls Try.prog 3 #[fnV r] W (RPost (.bool true) W) := by
  have HS0 := Lib.hid (LfSt.first W r h)
  have HF := Lib.hid hf; have HR := Lib.hid hr
  obtain ⟨x0, x1, x2, x3, x4⟩ := nv5 HS0.out.fb
  clear h hf hr
  go_enter Try.func3, Try.ntmps3
  go_upto_region 3 with ((with_reducible refine (few10_c r _ HS0.out.k true HF.out).mono ?_); rintro e w1 ⟨rfl, hb1⟩; have HS1 := Lib.hid (HS0.out.below hb1); clear hb1 x0 x1 x2 x3 x4)
  go_cut [3, 4] from 13 to 16 (fun s3 s4 wc => s3 = .slice none 0 0 ∧ s4 = .slice none 0 0 ∧ Hid (LfSt W wc r))
  case first =>
    have HSR := Lib.hid (LfSt.drew HS1.out)
    obtain ⟨x0, x1, x2, x3, x4⟩ := nv5 HSR.out.fb
    go_region_with (first | ((with_reducible refine (aheadN_c r _ HSR.out.k HR.out).mono ?_); rintro e u ⟨rfl, hbu⟩; have HSR := Lib.hid (HSR.out.below hbu); clear hbu x0 x1 x2 x3 x4; obtain ⟨x0, x1, x2, x3, x4⟩ := nv5 HSR.out.fb) | ((with_reducible refine (behindN_c r _ HSR.out.k HR.out).mono ?_); rintro e u ⟨rfl, hbu⟩; have HSR := Lib.hid (HSR.out.below hbu); clear hbu x0 x1 x2 x3 x4; obtain ⟨x0, x1, x2, x3, x4⟩ := nv5 HSR.out.fb))
    all_goals
      go_wp2
      go_meet
      case rel => exact ⟨rfl, rfl, HSR⟩
  case rest =>
    rename World => w3
    obtain ⟨rfl, rfl, HS3⟩ := hcut
    obtain ⟨x0, x1, x2, x3, x4⟩ := nv5 HS3.out.fb
    go_wp2_with (first | ((with_reducible refine (lrright HS3.out.k false HR.out).mono ?_); rintro e w4 ⟨rfl, hb4⟩; have HS4 := Lib.hid (HS3.out.below hb4); clear hb4 x0 x1 x2 x3 x4) | ((with_reducible refine (awake10_any _).mono ?_); rintro e w5 ⟨rfl, hb5⟩; have HS5 := Lib.hid (HS4.out.below hb5); clear hb5))
    go_ret
    exact ⟨rfl, HS5.out.hb⟩
end Go.Proofs.Ytpajndeongcjbaa
