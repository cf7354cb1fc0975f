/-
  LiveDead: which instructions are pure, and which of these are dead, is the document's.
-/
import Derived.Test.YtpajndeongcjbaaQMK
import Derived.Test.YtpajndeongcjbaaQLA
import Derived.BigQuiet
import Derived.Deep.AppendLies
import Derived.Deep.CutRange
import Derived.Deep.DeepCutAuto
namespace Go.Proofs.Ytpajndeongcjbaa
set_option maxRecDepth 100000
open Go.RowKit Cd
set_option linter.unusedVariables false
set_option linter.unusedSimpArgs false

set_option maxHeartbeats 4000000 in
/-- Lists of numbers are the same just if they are. -/
theorem same10_c (x y : List Int) (a b : Option Addr) (n m : Nat) (w : World) (hA : RowAt w w.heap.size a (ints x)) (hB : RowAt w w.heap.size b (ints y)) (hx : x.length ≤ 100000) (hy : y = x) :
    Calls Try.prog 22 #[.slice a x.length n, .slice b y.length m] w (RPost (.bool true) w) := by
  subst hy
  have HA := Lib.hid hA; have HB := Lib.hid hB
  have t0 : ((y.length : Int) != (y.length : Int)) = false := by simp
  clear hA hB
  go_enter Try.func22, Try.ntmps22
  go_wp2
  go_loopw [13] (fun s13 wr => ∃ k : Nat, k ≤ y.length ∧ s13 = .int .i64 (k : Int) ∧ Hid (Below w.heap.size w wr)) (fun s13 wr => y.length - (intOf s13).toNat)
  case atStart => exact ⟨0, by omega, rfl, Lib.hid (Below.refl _ _)⟩
  case round =>
    obtain ⟨k, hk, rfl, HK⟩ := hrel
    have k0 : (0 : Int) ≤ (k : Int) := Int.natCast_nonneg _
    have hs := HK.out.size
    by_cases hlt : k < y.length
    · have k1 : (k : Int) < (y.length : Int) := by omega
      obtain ⟨v, hv⟩ : ∃ v, y[k]? = some v := ⟨_, List.getElem?_eq_getElem hlt⟩
      obtain ⟨b1, o1, rfl, hb1, hw1, q1⟩ := IntsAt.cellsB (HA.out.below HK.out) hv
      obtain ⟨b2, o2, rfl, hb2, hw2, q2⟩ := IntsAt.cellsB (HB.out.below HK.out) hv
      have HLT := Lib.hid hlt
      clear hv hlt
      go_wp2
      go_quiet (fail)
      go_wp2
      go_roundw
      case rel => exact ⟨k + 1, HLT.out, by go_num, Lib.hid (drN HK.out _)⟩
      case measure => have := HLT.out; simp [intOf]; omega
    · obtain rfl : k = y.length := by omega
      go_wp2
      go_ret
      exact ⟨rfl, HK.out⟩
/-- The boxes of a law over a function and an instruction. -/
structure LdSt (w0 w : World) (r : FnR) (i : Ins) : Prop where
  fb : w.heap[w0.heap.size]? = some (fnO r)
  ib : w.heap[w0.heap.size + 1]? = some (inO i)
  c0 : CodeAt w w0.heap.size r
  len : r.f.code.length ≤ maxLen
  hb : Below w0.heap.size w0 w
theorem LdSt.lt {w0 w : World} {r : FnR} {i : Ins} (h : LdSt w0 w r i) : w0.heap.size + 2 ≤ w.heap.size := lt_heap h.ib
theorem LdSt.k {w0 w : World} {r : FnR} {i : Ins} (h : LdSt w0 w r i) : LvK w r := ⟨code_up h.c0 h.hb.size, h.len⟩
theorem LdSt.first (W : World) (r : FnR) (i : Ins) (h : LvK W r) : LdSt W ((W.alloc (fnO r)).alloc (inO i)) r i := by
  have e2 := heap_alloc_new (W.alloc (fnO r)) (inO i)
  simp only [World.size_alloc] at e2
  have hb : Below W.heap.size W ((W.alloc (fnO r)).alloc (inO i)) := ((Below.refl W.heap.size W).alloc (Nat.le_refl _) _).alloc (by simp) _
  exact ⟨(Below.heap_alloc _ _ _ (by simp)).trans (heap_alloc_new W _), e2, h.code.below hb, h.len, hb⟩
theorem LdSt.grow {w0 w w' : World} {r : FnR} {i : Ins} {row : Option Nat} (h : LdSt w0 w r i) (hg : w.grownBy w' row) (hr : ∀ q, row = some q → w0.heap.size + 2 ≤ q) : LdSt w0 w' r i := by
  have hl := h.lt
  have hb : Below (w0.heap.size + 2) w w' := (Below.mono (Below.refl w.heap.size w) hl).grown hg (by omega) (fun q e => hr q e)
  exact ⟨(hb.block _ (by omega)).trans h.fb, (hb.block _ (by omega)).trans h.ib, h.c0.below (hb.mono (by omega)), h.len, h.hb.trans (hb.mono (by omega))⟩
theorem LdSt.below {w0 w w' : World} {r : FnR} {i : Ins} (h : LdSt w0 w r i) (hb : Below w.heap.size w w') : LdSt w0 w' r i := by
  have := h.lt
  exact ⟨(hb.block _ (by omega)).trans h.fb, (hb.block _ (by omega)).trans h.ib, h.c0.below (hb.mono (by omega)), h.len, h.hb.trans (hb.mono (by omega))⟩
theorem LdSt.drew {w0 w : World} {r : FnR} {i : Ins} (h : LdSt w0 w r i) : LdSt w0 w.drew r i := ⟨h.fb, h.ib, h.c0, h.len, drW h.hb⟩
set_option maxHeartbeats 8000000 in
theorem ldead_few (r : FnR) (i : Ins) (W : World) (h : LvK W r) (hf : few10 r.f = false) : Calls Try.prog 4 #[fnV r, inV i] W (RPost (.bool true) W) := by
  have HS0 := Lib.hid (LdSt.first W r i h)
  have HF := Lib.hid hf
  obtain ⟨x0, x1, x2, x3, x4⟩ := nv5 HS0.out.fb
  clear h hf
  go_enter Try.func4, Try.ntmps4
  go_wp2_with (first | ((with_reducible refine (few10_c r _ HS0.out.k false HF.out).mono ?_); rintro e w1 ⟨rfl, hb1⟩; have HS1 := Lib.hid (HS0.out.below hb1); clear hb1) | ((with_reducible refine (awake10_any _).mono ?_); rintro e w2 ⟨rfl, hb2⟩; have HS2 := Lib.hid (HS1.out.below hb2); clear hb2))
  go_ret
  exact ⟨rfl, HS2.out.hb⟩
theorem lref_right {r : FnR} {w : World} (h : LvK w r) (q : Bool) (hq : rightF r.f = q) : Calls Try.prog 19 #[fnV r] w (RPost (.bool q) w) := hq ▸ rightFunc_any r w.heap.size w h.code h.len
set_option maxHeartbeats 8000000 in
theorem ldead_no (r : FnR) (i : Ins) (W : World) (h : LvK W r) (hf : few10 r.f = true) (hr : rightF r.f = false) : Calls Try.prog 4 #[fnV r, inV i] W (RPost (.bool true) W) := by
  have HS0 := Lib.hid (LdSt.first W r i h)
  have HF := Lib.hid hf; have HR := Lib.hid hr
  obtain ⟨q, hq⟩ : ∃ q, pureI i = q := ⟨_, rfl⟩
  have HLP : Hid (∀ w, Calls Try.prog 24 #[inV i] w (RPost (.bool q) w)) := Lib.hid (fun w => hq ▸ lpure_any i w)
  have HRP : Hid (∀ w, Calls Try.prog 25 #[inV i] w (RPost (.bool q) w)) := Lib.hid (fun w => hq ▸ pure_any i w)
  obtain ⟨x0, x1, x2, x3, x4⟩ := nv5 HS0.out.fb
  clear h hf hr hq
  go_enter Try.func4, Try.ntmps4
  go_upto_region 4 with (first | ((with_reducible refine (few10_c r _ HS0.out.k true HF.out).mono ?_); rintro e w1 ⟨rfl, hb1⟩; have HS1 := Lib.hid (HS0.out.below hb1); clear hb1 x0 x1 x2 x3 x4; obtain ⟨x0, x1, x2, x3, x4⟩ := nv5 HS1.out.fb) | ((with_reducible refine (dead_no r _ HS1.out.k.code HS1.out.k.len HR.out).mono ?_); rintro e w2 ⟨v2, rfl, ho2, hb2⟩; obtain ⟨a2, c2, rfl⟩ := row_slice ho2; have HS2 := Lib.hid (HS1.out.below hb2); clear hb2 ho2 x0 x1 x2 x3 x4))
  go_cut [19] from 15 to 18 (fun s19 wc => s19 = .bool false ∧ Hid (LdSt W wc r i))
  case first =>
    have HSR := Lib.hid (LdSt.drew HS2.out)
    obtain ⟨d0, d1, d2, d3, d4, d5, d6, d7, d8, d9, d10, d11, d12, d13, d14⟩ := nv15 HSR.out.ib
    go_region_with (first | ((with_reducible refine (HLP.out _).mono ?_); rintro e u ⟨rfl, hbu⟩; have HSR := Lib.hid (HSR.out.below hbu); clear hbu d0 d1 d2 d3 d4 d5 d6 d7 d8 d9 d10 d11 d12 d13 d14; obtain ⟨d0, d1, d2, d3, d4, d5, d6, d7, d8, d9, d10, d11, d12, d13, d14⟩ := nv15 HSR.out.ib) | ((with_reducible refine (HRP.out _).mono ?_); rintro e u ⟨rfl, hbu⟩; have HSR := Lib.hid (HSR.out.below hbu); clear hbu d0 d1 d2 d3 d4 d5 d6 d7 d8 d9 d10 d11 d12 d13 d14; obtain ⟨d0, d1, d2, d3, d4, d5, d6, d7, d8, d9, d10, d11, d12, d13, d14⟩ := nv15 HSR.out.ib))
    all_goals
      go_wp2
      go_meet
      case rel => exact ⟨by cases q <;> rfl, HSR⟩
  case rest =>
    obtain ⟨rfl, HS3⟩ := hcut
    obtain ⟨x0, x1, x2, x3, x4⟩ := nv5 HS3.out.fb
    go_wp2_with (first | ((with_reducible refine (lref_right HS3.out.k false HR.out).mono ?_); rintro e w4 ⟨rfl, hb4⟩; have HS4 := Lib.hid (HS3.out.below hb4); clear hb4 x0 x1 x2 x3 x4) | ((with_reducible refine (awake10_any _).mono ?_); rintro e w5 ⟨rfl, hb5⟩; have HS5 := Lib.hid (HS4.out.below hb5); clear hb5))
    go_ret
    exact ⟨rfl, HS5.out.hb⟩
def Cd.deadP (c : List Ins) (k : Nat) : List Int := ((List.range k).filter (isDead c)).map (fun n : Nat => (n : Int))
theorem deadP_more (c : List Ins) (k : Nat) : deadP c (k + 1) = deadP c k ++ (if isDead c k = true then [(k : Int)] else []) := by
  unfold deadP
  rw [List.range_succ, List.filter_append, List.map_append]
  congr 1
  by_cases h : isDead c k = true
  · rw [if_pos h, List.filter_cons_of_pos h]; rfl
  · rw [if_neg h, List.filter_cons_of_neg h]; rfl
theorem deadP_len (c : List Ins) (k : Nat) : (deadP c k).length ≤ k := by
  unfold deadP
  rw [List.length_map]
  exact Nat.le_trans (List.length_filter_le _ _) (by simp)
theorem few10_len {f : Fnc} (h : few10 f = true) : f.code.length ≤ 25 := by
  unfold few10 at h
  rw [Bool.and_eq_true, decide_eq_true_eq] at h
  exact h.2
set_option maxHeartbeats 8000000 in
theorem ldead_v (name : List UInt8) (params regs frame : Int) (code : List Ins) (ca : Option Addr) (cc : Nat) (i : Ins) (W : World) (h : LvK W ⟨⟨name, params, regs, frame, code⟩, ca, cc⟩) (hf : few10 ⟨name, params, regs, frame, code⟩ = true) (hr : RightF ⟨name, params, regs, frame, code⟩) : Calls Try.prog 4 #[fnV ⟨⟨name, params, regs, frame, code⟩, ca, cc⟩, inV i] W (RPost (.bool true) W) := by
  obtain ⟨i0, hi0, hz0, hz1, hz2⟩ := info_parts infoInt
  have HS0 := Lib.hid (LdSt.first W ⟨⟨name, params, regs, frame, code⟩, ca, cc⟩ i h)
  have HF := Lib.hid hf; have HR := Lib.hid hr
  have hn : code.length ≤ 25 := few10_len hf
  obtain ⟨q, hq⟩ : ∃ q, pureI i = q := ⟨_, rfl⟩
  have HLP : Hid (∀ w, Calls Try.prog 24 #[inV i] w (RPost (.bool q) w)) := Lib.hid (fun w => hq ▸ lpure_any i w)
  have HRP : Hid (∀ w, Calls Try.prog 25 #[inV i] w (RPost (.bool q) w)) := Lib.hid (fun w => hq ▸ pure_any i w)
  obtain ⟨x0, x1, x2, x3, x4⟩ := nv5 HS0.out.fb
  clear h hf hr hq
  go_enter Try.func4, Try.ntmps4
  go_upto_region 4 with (first | ((with_reducible refine (few10_c ⟨⟨name, params, regs, frame, code⟩, ca, cc⟩ _ HS0.out.k true HF.out).mono ?_); rintro e w1 ⟨rfl, hb1⟩; have HS1 := Lib.hid (HS0.out.below hb1); clear hb1 x0 x1 x2 x3 x4; obtain ⟨x0, x1, x2, x3, x4⟩ := nv5 HS1.out.fb) | ((with_reducible refine (dead_yes ⟨⟨name, params, regs, frame, code⟩, ca, cc⟩ _ HS1.out.k.code HS1.out.k.len HR.out).mono ?_); rintro e w2 ⟨v2, rfl, ho2, hb2⟩; obtain ⟨a2, c2, rfl⟩ := row_slice ho2; have HO2 := Lib.hid (LiesIn.of_own ho2); have HS2 := Lib.hid (HS1.out.below hb2); clear hb2 ho2 x0 x1 x2 x3 x4))
  go_cut [19] from 15 to 18 (fun s19 wc => s19 = .bool false ∧ Hid (LdSt W wc ⟨⟨name, params, regs, frame, code⟩, ca, cc⟩ i) ∧ Hid (Below w2.heap.size w2 wc))
  case first =>
    have HSR := Lib.hid (LdSt.drew HS2.out)
    have HBR := Lib.hid (drW (Below.refl w2.heap.size w2))
    obtain ⟨d0, d1, d2, d3, d4, d5, d6, d7, d8, d9, d10, d11, d12, d13, d14⟩ := nv15 HSR.out.ib
    go_region_with (first | ((with_reducible refine (HLP.out _).mono ?_); rintro e u ⟨rfl, hbu⟩; have HSR := Lib.hid (HSR.out.below hbu); have HBR := Lib.hid (HBR.out.trans (hbu.mono HBR.out.size)); clear hbu d0 d1 d2 d3 d4 d5 d6 d7 d8 d9 d10 d11 d12 d13 d14; obtain ⟨d0, d1, d2, d3, d4, d5, d6, d7, d8, d9, d10, d11, d12, d13, d14⟩ := nv15 HSR.out.ib) | ((with_reducible refine (HRP.out _).mono ?_); rintro e u ⟨rfl, hbu⟩; have HSR := Lib.hid (HSR.out.below hbu); have HBR := Lib.hid (HBR.out.trans (hbu.mono HBR.out.size)); clear hbu d0 d1 d2 d3 d4 d5 d6 d7 d8 d9 d10 d11 d12 d13 d14; obtain ⟨d0, d1, d2, d3, d4, d5, d6, d7, d8, d9, d10, d11, d12, d13, d14⟩ := nv15 HSR.out.ib))
    all_goals
      go_wp2
      go_meet
      case rel => exact ⟨by cases q <;> rfl, HSR, HBR⟩
  case rest =>
    rename World => w3
    obtain ⟨rfl, HS3, HB3⟩ := hcut
    obtain ⟨x0, x1, x2, x3, x4⟩ := nv5 HS3.out.fb
    go_wp2_with ((with_reducible refine (lref_right HS3.out.k true (rightF_iff.2 HR.out)).mono ?_); rintro e w4 ⟨rfl, hb4⟩; have HS4 := Lib.hid (HS3.out.below hb4); have HB4 := Lib.hid hb4; have HO4 := Lib.hid ((HO2.out.keep HB3.out.size (fun g _ hg => HB3.out.block g hg)).below hb4); clear hb4 x0 x1 x2 x3 x4; obtain ⟨x0, x1, x2, x3, x4⟩ := nv5 HS4.out.fb)
    clear HS2 HS3 HO2
    have hw2 : w2.heap.size ≤ w4.heap.size := by have := HB3.out.size; have := HS4.out.lt; exact Nat.le_trans HB3.out.size HB4.out.size
    go_wp2
    clear x0 x1 x2 x3 x4
    go_loopw [6, 32] (fun s6 s32 wr => ∃ k : Nat, k ≤ code.length ∧ s32 = .int .i64 (k : Int) ∧ Hid (wr.ownsRow w4.heap.size 3 1 s6 (deadP code k).length (ints (deadP code k))) ∧ Hid (LdSt W wr ⟨⟨name, params, regs, frame, code⟩, ca, cc⟩ i) ∧ Hid (Below w4.heap.size w4 wr)) (fun _ s32 wr => code.length - (intOf s32).toNat)
    case atStart => exact ⟨0, by omega, rfl, Lib.hid (World.ownsRow_nil _ _ _ _), HS4, Lib.hid (Below.refl _ _)⟩
    case round =>
      obtain ⟨k, hk, rfl, HOW, HSK, HBK⟩ := hrel
      have k0 : (0 : Int) ≤ (k : Int) := Int.natCast_nonneg _
      obtain ⟨a6, c6, rfl⟩ := row_slice HOW.out
      have hpl := deadP_len code k
      have hbs := HBK.out.size
      by_cases hlt : k < code.length
      · have k1 : (k : Int) < (code.length : Int) := by omega
        obtain ⟨x, hx⟩ : ∃ x, code[k]? = some x := ⟨_, List.getElem?_eq_getElem hlt⟩
        obtain ⟨b', off, hca, hb', hBw', q0, q1, q2, q3, q4, q5, q6, q7, q8, q9, q10, q11, q12, q13, q14⟩ := HSK.out.k.code.cells hx
        simp only at hca
        subst hca
        have HXK := Lib.hid hx; have HLT := Lib.hid hlt
        have HMORE := Lib.hid (deadP_more code k)
        obtain ⟨qq, hqq⟩ : ∃ qq, pureI x = qq := ⟨_, rfl⟩
        obtain ⟨mm, hmm⟩ : ∃ mm, behindR code k x.dst = mm := ⟨_, rfl⟩
        have HPX : Hid (∀ w, Calls Try.prog 25 #[inV x] w (RPost (.bool qq) w)) := Lib.hid (fun w => hqq ▸ pure_any x w)
        have HQQ := Lib.hid hqq; have HMM := Lib.hid hmm
        clear hx hlt hqq hmm
        go_upto_region 12 with fail
        have HBA := Lib.hid ((Below.refl wr.heap.size wr).alloc (Nat.le_refl _) (inO x))
        have hp := heap_alloc_new wr (inO x)
        obtain ⟨p, hpp⟩ : ∃ p, wr.heap.size = p := ⟨_, rfl⟩
        have HSA := Lib.hid (HSK.out.below HBA.out)
        have HOA := Lib.hid (own_keep (w' := wr.alloc (inO x)) HOW.out (fun g hg => HBA.out.block g (HOW.out.lt g hg).2))
        have HBB := Lib.hid (HBK.out.trans (HBA.out.mono hbs))
        obtain ⟨wa, hwa⟩ : ∃ wa, wr.alloc (inO x) = wa := ⟨_, rfl⟩
        rw [hwa] at hp HSA HOA HBB ⊢
        rw [hpp] at hp ⊢
        have HP := Lib.hid hp
        clear HBA hwa HOW HSK HBK q0 q1 q2 q3 q4 q5 q6 q7 q8 q9 q10 q11 q12 q13 q14
        obtain ⟨d0, d1, d2, d3, d4, d5, d6, d7, d8, d9, d10, d11, d12, d13, d14⟩ := nv15 hp
        clear hp
        cases qq with
        | false =>
          have HNX : Hid (deadP code (k + 1) = deadP code k) := Lib.hid (by
            have : isDead code k = false := by unfold isDead; rw [HXK.out]; simp [HQQ.out]
            rw [HMORE.out, this]; simp)
          go_wp2_with ((with_reducible refine (HPX.out _).mono ?_); rintro e u ⟨rfl, hbu⟩; have HSU := Lib.hid (HSA.out.below hbu); have HBU := Lib.hid (HBB.out.trans (hbu.mono HBB.out.size)); have HOU := Lib.hid (own_keep (w' := u) HOA.out (fun g hg => hbu.block g (HOA.out.lt g hg).2)); clear hbu d0 d1 d2 d3 d4 d5 d6 d7 d8 d9 d10 d11 d12 d13 d14)
          go_roundw
          case rel => exact ⟨k + 1, HLT.out, by go_num, by rw [HNX.out]; exact HOU, HSU, HBU⟩
          case measure => have := HLT.out; simp [intOf]; omega
        | true =>
          have hkl := HLT.out
          cases mm with
          | true =>
            have HNX : Hid (deadP code (k + 1) = deadP code k) := Lib.hid (by
              have : isDead code k = false := by unfold isDead; rw [HXK.out]; simp [HMM.out]
              rw [HMORE.out, this]; simp)
            go_wp2_with (first | ((with_reducible refine (HPX.out _).mono ?_); rintro e u ⟨rfl, hbu⟩; have HSU := Lib.hid (HSA.out.below hbu); have HBU := Lib.hid (HBB.out.trans (hbu.mono HBB.out.size)); have HOU := Lib.hid (own_keep (w' := u) HOA.out (fun g hg => hbu.block g (HOA.out.lt g hg).2)); have HPU := Lib.hid ((hbu.block p (lt_heap HP.out)).trans HP.out); clear hbu d0 d1 d2 d3 d4 d5 d6 d7 d8 d9 d10 d11 d12 d13 d14; obtain ⟨d0, d1, d2, d3, d4, d5, d6, d7, d8, d9, d10, d11, d12, d13, d14⟩ := nv15 HPU.out; obtain ⟨x0, x1, x2, x3, x4⟩ := nv5 HSU.out.fb) | ((with_reducible refine (behind_any _ k x.dst true _ _ HSU.out.k.code HR.out hkl (Nat.le_refl _) HMM.out).mono ?_); rintro e v ⟨rfl, hbv⟩; have HSV := Lib.hid (HSU.out.below hbv); have HBV := Lib.hid (HBU.out.trans (hbv.mono HBU.out.size)); have HOV := Lib.hid (own_keep (w' := v) HOU.out (fun g hg => hbv.block g (HOU.out.lt g hg).2)); clear hbv d0 d1 d2 d3 d4 d5 d6 d7 d8 d9 d10 d11 d12 d13 d14 x0 x1 x2 x3 x4))
            go_roundw
            case rel => exact ⟨k + 1, HLT.out, by go_num, by rw [HNX.out]; exact HOV, HSV, HBV⟩
            case measure => have := HLT.out; simp [intOf]; omega
          | false =>
            have HNX : Hid (deadP code (k + 1) = deadP code k ++ [(k : Int)]) := Lib.hid (by
              have : isDead code k = true := by unfold isDead; rw [HXK.out]; simp [HMM.out, HQQ.out]
              rw [HMORE.out, this]; simp)
            go_wp2_with (first | ((with_reducible refine (HPX.out _).mono ?_); rintro e u ⟨rfl, hbu⟩; have HSU := Lib.hid (HSA.out.below hbu); have HBU := Lib.hid (HBB.out.trans (hbu.mono HBB.out.size)); have HOU := Lib.hid (own_keep (w' := u) HOA.out (fun g hg => hbu.block g (HOA.out.lt g hg).2)); have HPU := Lib.hid ((hbu.block p (lt_heap HP.out)).trans HP.out); clear hbu d0 d1 d2 d3 d4 d5 d6 d7 d8 d9 d10 d11 d12 d13 d14; obtain ⟨d0, d1, d2, d3, d4, d5, d6, d7, d8, d9, d10, d11, d12, d13, d14⟩ := nv15 HPU.out; obtain ⟨x0, x1, x2, x3, x4⟩ := nv5 HSU.out.fb) | ((with_reducible refine (behind_any _ k x.dst false _ _ HSU.out.k.code HR.out hkl (Nat.le_refl _) HMM.out).mono ?_); rintro e v ⟨rfl, hbv⟩; have HSV := Lib.hid (HSU.out.below hbv); have HBV := Lib.hid (HBU.out.trans (hbv.mono HBU.out.size)); have HOV := Lib.hid (own_keep (w' := v) HOU.out (fun g hg => hbv.block g (HOU.out.lt g hg).2)); have hvs := HBV.out.size; clear hbv d0 d1 d2 d3 d4 d5 d6 d7 d8 d9 d10 d11 d12 d13 d14 x0 x1 x2 x3 x4) | (at_builtin; go_loud (refine wpList_append_lies _ rfl (.tmp 47) (.tmp 49) 29 rfl w4.heap.size 3 i0 (.int .i64 0) 1 8 Try.underlying29 hi0 hz0 hz1 hz2 rfl (by decide) (.slice a6 (deadP code k).length c6) (deadP code k).length (ints (deadP code k)) rfl (HOV.out.alloc _) _ 1 1 [.int .i64 (k : Int)] rfl rfl (cell_new1 _ _ _ _ (by simp)) (by simp [Value.oneCell']) (by omega) (by unfold maxLen; omega) (by omega) (by simp <;> omega) (v.heap.size + 1) (by simp) ?_; intro g9 cap9 w9 hown hgrow hat hlt9; have HO9 := Lib.hid hown; have HB9 := Lib.hid ((HBV.out.alloc (by omega) _).grown hgrow (by simp <;> omega) (fun q e => by have := (HOV.out.lt q e).1; omega)); have HSB := Lib.hid (HSV.out.below ((Below.refl v.heap.size v).alloc (Nat.le_refl _) (.cells #[.int .i64 (k : Int)] 3))); have HS9 := Lib.hid (LdSt.grow HSB.out hgrow (fun q e => by have := (HOV.out.lt q e).1; have := HS4.out.lt; omega)); clear hown hgrow hat hlt9)))
            go_roundw
            case rel => exact ⟨k + 1, HLT.out, by go_num, by rw [HNX.out]; exact Lib.hid (by simpa using HO9.out), HS9, HB9⟩
            case measure => have := HLT.out; simp [intOf]; omega
      · obtain rfl : k = code.length := by omega
        have hdl : (deadF code).length ≤ 100000 := Nat.le_trans (deadP_len code code.length) (by omega)
        have HOD := Lib.hid (HO4.out.keep HBK.out.size (fun g _ hg => HBK.out.block g hg))
        have HOE := Lib.hid (LiesIn.of_own HOW.out)
        go_wp2_with (first | (go_at_call 22; go_loud (with_reducible refine (same10_c (deadF code) (deadP code code.length) a2 a6 c2 c6 _ HOD.out.row HOE.out.row hdl rfl).mono ?_); rintro e u ⟨rfl, hbu⟩; have HSU := Lib.hid (HSK.out.below hbu); clear hbu) | ((with_reducible refine (awake10_any _).mono ?_); rintro e v ⟨rfl, hbv⟩; have HSV := Lib.hid (HSU.out.below hbv); clear hbv))
        go_ret
        exact ⟨rfl, HSV.out.hb⟩
theorem ldead_any (r : FnR) (i : Ins) (W : World) (h : LvK W r) : Calls Try.prog 4 #[fnV r, inV i] W (RPost (.bool true) W) := by
  by_cases hf : few10 r.f = true
  · by_cases hr : RightF r.f
    · obtain ⟨⟨name, params, regs, frame, code⟩, ca, cc⟩ := r
      exact ldead_v name params regs frame code ca cc i W h hf hr
    · exact ldead_no r i W h hf (by rw [← Bool.not_eq_true, rightF_iff]; exact hr)
  · exact ldead_few r i W h (by simpa using hf)
end Go.Proofs.Ytpajndeongcjbaa
