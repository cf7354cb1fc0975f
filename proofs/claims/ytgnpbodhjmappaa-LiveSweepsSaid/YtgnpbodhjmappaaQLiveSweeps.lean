/-
  LiveSweeps: what is swept may be, has no dead instruction, all of it is reached; swept again it stays.
-/
import Derived.Test.YtgnpbodhjmappaaQMQ
import Derived.Test.YtgnpbodhjmappaaQMR
import Derived.Test.YtgnpbodhjmappaaQMK
import Derived.Test.YtgnpbodhjmappaaQLA
namespace Go.Proofs.Ytgnpbodhjmappaa
set_option maxRecDepth 100000
open Go.RowKit Cd
set_option linter.unusedVariables false
set_option linter.unusedSimpArgs false

/-- Two functions in their boxes, each one's code in memory. -/
structure S2 (w0 w : World) (r : FnR) (g : Fnc) (G cg cc : Nat) : Prop where
  fb : w.heap[w0.heap.size]? = some (fnO r)
  c0 : CodeAt w w0.heap.size r
  hb : Below w0.heap.size w0 w
  gb : w.heap[G]? = some (fnO ⟨g, some ⟨cg, 0, none⟩, cc⟩)
  lt : cg < w.heap.size
  row : ∀ (j : Nat) (u : Value), (g.code.flatMap inCells)[j]? = some u → w.cell? ⟨cg, j, none⟩ = some u
section
variable {w0 w w' : World} {r : FnR} {g : Fnc} {G cg cc : Nat}
theorem S2.below (h : S2 w0 w r g G cg cc) (hb : Below w.heap.size w w') : S2 w0 w' r g G cg cc :=
  ⟨(hb.block _ (lt_heap h.fb)).trans h.fb, h.c0.below (hb.mono h.hb.size), h.hb.trans (hb.mono h.hb.size), (hb.block _ (lt_heap h.gb)).trans h.gb, Nat.lt_of_lt_of_le h.lt hb.size, fun j u hu => (World.cell?_of_block (w := w) (a := ⟨cg, j, none⟩) (hb.block cg h.lt)).trans (h.row j u hu)⟩
theorem S2.f (h : S2 w0 w r g G cg cc) : CodeAt w w.heap.size r := code_up h.c0 h.hb.size
theorem S2.fg (h : S2 w0 w r g G cg cc) : CodeAt w w.heap.size ⟨g, some ⟨cg, 0, none⟩, cc⟩ := fun _ => ⟨cg, 0, rfl, h.lt, Nat.le_refl _, fun j u hu => by rw [Nat.zero_add]; exact h.row j u hu⟩
end
/-- The boxes, when the first one is swept. -/
theorem S2.first {w0 w w1 w9 : World} {r : FnR} {g : Fnc} {cg cc : Nat} (hf : w1.heap[w0.heap.size]? = some (fnO r)) (hc : CodeAt w1 w0.heap.size r) (hb : Below w0.heap.size w0 w1) (h9 : Below w1.heap.size w1 w9) (hl : cg < w9.heap.size) (hr : ∀ (j : Nat) (u : Value), (g.code.flatMap inCells)[j]? = some u → w9.cell? ⟨cg, j, none⟩ = some u) : S2 w0 (w9.alloc (fnO ⟨g, some ⟨cg, 0, none⟩, cc⟩)) r g w9.heap.size cg cc := by
  have hba := (Below.refl w9.heap.size w9).alloc (Nat.le_refl _) (fnO ⟨g, some ⟨cg, 0, none⟩, cc⟩)
  have hl1 := lt_heap hf
  have hs := h9.size
  exact ⟨(hba.block _ (by omega)).trans ((h9.block _ hl1).trans hf), (hc.below (h9.mono (by omega))).below (hba.mono (by omega)), (hb.trans (h9.mono (by omega))).trans (hba.mono (by omega)), heap_alloc_new _ _, by simp; omega, fun j u hu => (World.cell?_of_block (w := w9) (a := ⟨cg, j, none⟩) (hba.block cg hl)).trans (hr j u hu)⟩
theorem refR {f : Fnc} {ca : Option Addr} {cc : Nat} {w : World} (h : CodeAt w w.heap.size ⟨f, ca, cc⟩) (hl : f.code.length ≤ maxLen) (q : Bool) (hq : rightF f = q) : Calls Try.prog 14 #[fnV ⟨f, ca, cc⟩] w (RPost (.bool q) w) := hq ▸ rightFunc_any ⟨f, ca, cc⟩ w.heap.size w h hl
theorem few10_lenL {f : Fnc} (h : few10 f = true) : f.code.length ≤ 25 := by
  unfold few10 at h
  rw [Bool.and_eq_true, decide_eq_true_eq] at h
  exact h.2
theorem sweep_g (f g : Fnc) (hg : sweepF f = g) (ca : Option Addr) (cc : Nat) (w : World) (hC : CodeAt w w.heap.size ⟨f, ca, cc⟩) (hm : f.code.length ≤ 10000) : Calls Try.prog 13 #[fnV ⟨f, ca, cc⟩] w (SwpPost f g w) := hg ▸ sweep_c f ca cc w hC hm
set_option maxHeartbeats 8000000 in
theorem lsw_few (name : List UInt8) (params regs frame : Int) (code : List Ins) (ca : Option Addr) (cc : Nat) (W : World) (h : LvK W ⟨⟨name, params, regs, frame, code⟩, ca, cc⟩) (hf : few10 ⟨name, params, regs, frame, code⟩ = false) : Calls Try.prog 3 #[fnV ⟨⟨name, params, regs, frame, code⟩, ca, cc⟩] W (RPost (.bool true) W) := by
  have HF := Lib.hid hf
  have HB0 := Lib.hid (box_lv W ⟨⟨name, params, regs, frame, code⟩, ca, cc⟩)
  have HK := Lib.hid (h.below HB0.out)
  obtain ⟨x0, x1, x2, x3, x4⟩ := nv5 (heap_alloc_new W (fnO ⟨⟨name, params, regs, frame, code⟩, ca, cc⟩))
  clear h hf
  go_enter Try.func3, Try.ntmps3
  go_wp2_with (first | ((with_reducible refine (few10_c ⟨⟨name, params, regs, frame, code⟩, ca, cc⟩ _ HK.out false HF.out).mono ?_); rintro e w1 ⟨rfl, hb1⟩; have HB1 := Lib.hid (HB0.out.trans (hb1.mono HB0.out.size)); clear hb1) | ((with_reducible refine (awake10_any _).mono ?_); rintro e w2 ⟨rfl, hb2⟩; have HB2 := Lib.hid (HB1.out.trans (hb2.mono HB1.out.size)); clear hb2))
  go_ret
  exact ⟨rfl, HB2.out⟩
set_option maxHeartbeats 8000000 in
theorem lsw_no (name : List UInt8) (params regs frame : Int) (code : List Ins) (ca : Option Addr) (cc : Nat) (W : World) (h : LvK W ⟨⟨name, params, regs, frame, code⟩, ca, cc⟩) (hf : few10 ⟨name, params, regs, frame, code⟩ = true) (hr : rightF ⟨name, params, regs, frame, code⟩ = false) : Calls Try.prog 3 #[fnV ⟨⟨name, params, regs, frame, code⟩, ca, cc⟩] W (RPost (.bool true) W) := by
  have HF := Lib.hid hf; have HR := Lib.hid hr
  have hl25 := few10_lenL hf
  simp only at hl25
  have hmx : code.length ≤ maxLen := by unfold maxLen; omega
  have HB0 := Lib.hid (box_lv W ⟨⟨name, params, regs, frame, code⟩, ca, cc⟩)
  have HK := Lib.hid (h.below HB0.out)
  have HX := Lib.hid (heap_alloc_new W (fnO ⟨⟨name, params, regs, frame, code⟩, ca, cc⟩))
  have HC := Lib.hid (h.code.below HB0.out)
  obtain ⟨x0, x1, x2, x3, x4⟩ := nv5 HX.out
  clear h hf hr
  go_enter Try.func3, Try.ntmps3
  go_upto_region 4 with (first | ((with_reducible refine (few10_c ⟨⟨name, params, regs, frame, code⟩, ca, cc⟩ _ HK.out true HF.out).mono ?_); rintro e w1 ⟨rfl, hb1⟩; have HB1 := Lib.hid (HB0.out.trans (hb1.mono HB0.out.size)); have HX1 := Lib.hid ((hb1.block _ (lt_heap HX.out)).trans HX.out); have HC1 := Lib.hid (HC.out.below (hb1.mono HB0.out.size)); clear hb1 x0 x1 x2 x3 x4; obtain ⟨x0, x1, x2, x3, x4⟩ := nv5 HX1.out) | ((with_reducible refine (sweep_g ⟨name, params, regs, frame, code⟩ ⟨name, params, regs, frame, code⟩ (sweepF_no HR.out) ca cc _ (code_up HC1.out HB1.out.size) (by show code.length ≤ 10000; omega)).mono ?_); rintro e w2 ⟨cg, c9, rfl, q1, q2, q3, q4⟩; have HS := Lib.hid (S2.first (w := W) (cc := c9) HX1.out HC1.out HB1.out q4 q2 q3); clear q1 q2 q3 q4 x0 x1 x2 x3 x4))
  generalize w2.alloc (fnO ⟨⟨name, params, regs, frame, code⟩, some ⟨cg, 0, none⟩, c9⟩) = w3 at *
  generalize w2.heap.size = G at *
  obtain ⟨x0, x1, x2, x3, x4⟩ := nv5 HS.out.fb
  obtain ⟨y0, y1, y2, y3, y4⟩ := nv5 HS.out.gb
  have e0 : (code.length : Int) - (code.length : Int) = 0 := by omega
  go_wp2_with (first | ((with_reducible refine (refR HS.out.f hmx false HR.out).mono ?_); rintro e w4 ⟨rfl, hb4⟩; have HS4 := Lib.hid (HS.out.below hb4); clear hb4 x0 x1 x2 x3 x4 y0 y1 y2 y3 y4; obtain ⟨x0, x1, x2, x3, x4⟩ := nv5 HS4.out.fb; obtain ⟨y0, y1, y2, y3, y4⟩ := nv5 HS4.out.gb) | ((with_reducible refine (same_c ⟨name, params, regs, frame, code⟩ ca (some ⟨cg, 0, none⟩) cc c9 _ HS4.out.f HS4.out.fg hmx).mono ?_); rintro e w5 ⟨rfl, hb5⟩; have HS5 := Lib.hid (HS4.out.below hb5); clear hb5) | ((with_reducible refine (awake10_any _).mono ?_); rintro e w6 ⟨rfl, hb6⟩; have HS6 := Lib.hid (HS5.out.below hb6); clear hb6))
  go_ret
  exact ⟨rfl, HS6.out.hb⟩
/-- The document's Reached, where it is so. -/
theorem reachR {f : Fnc} {ca : Option Addr} {cc : Nat} {w : World} (h : CodeAt w w.heap.size ⟨f, ca, cc⟩) (hR : RightF f) (n : Int) (q : Bool) (hq : reachedB f.code n = q) : Calls Try.prog 17 #[fnV ⟨f, ca, cc⟩, .int .i64 n] w (RPost (.bool q) w) := reached_any ⟨f, ca, cc⟩ n q w.heap.size w h hR (Nat.le_refl _) hq
/-- Dead of a function without what is dead. -/
theorem dead_g {g : Fnc} {cg cc : Nat} {w : World} (h : CodeAt w w.heap.size ⟨g, some ⟨cg, 0, none⟩, cc⟩) (hl : g.code.length ≤ maxLen) (hR : RightF g) (hd : deadF g.code = []) : Calls Try.prog 16 #[fnV ⟨g, some ⟨cg, 0, none⟩, cc⟩] w (fun e w' => ∃ (a : Option Addr) (c : Nat), e = .returned (.slice a 0 c) ∧ Below w.heap.size w w') := by
  refine (dead_yes ⟨g, some ⟨cg, 0, none⟩, cc⟩ w h hl hR).mono ?_
  rintro e w' ⟨v, rfl, ho, hb⟩
  obtain ⟨a, c, rfl⟩ := row_slice ho
  exact ⟨a, c, by rw [hd]; rfl, hb⟩
set_option maxHeartbeats 16000000 in
theorem lsw_yes (name : List UInt8) (params regs frame : Int) (code : List Ins) (ca : Option Addr) (cc : Nat) (W : World) (h : LvK W ⟨⟨name, params, regs, frame, code⟩, ca, cc⟩) (hf : few10 ⟨name, params, regs, frame, code⟩ = true) (hr : RightF ⟨name, params, regs, frame, code⟩) (gc : List Ins) (hg : sweepF ⟨name, params, regs, frame, code⟩ = ⟨name, params, regs, frame, gc⟩) : Calls Try.prog 3 #[fnV ⟨⟨name, params, regs, frame, code⟩, ca, cc⟩] W (RPost (.bool true) W) := by
  have HF := Lib.hid hf; have HR := Lib.hid hr; have HG := Lib.hid hg
  have hl25 := few10_lenL hf
  simp only at hl25
  have hmx : code.length ≤ maxLen := by unfold maxLen; omega
  have hgl : gc.length ≤ code.length := by have := sweepF_len ⟨name, params, regs, frame, code⟩; rw [hg] at this; exact this
  have hgm : gc.length ≤ maxLen := by unfold maxLen; omega
  have HRG : Hid (RightF ⟨name, params, regs, frame, gc⟩) := Lib.hid (hg ▸ sweepF_right hr)
  have HDG : Hid (deadF (⟨name, params, regs, frame, gc⟩ : Fnc).code = []) := Lib.hid (hg ▸ deadF_sweep hr)
  have HAG : Hid (sweepF ⟨name, params, regs, frame, gc⟩ = ⟨name, params, regs, frame, gc⟩) := Lib.hid (by have := sweepF_again hr; rw [hg] at this; exact this)
  have HRE : Hid (∀ k : Nat, k < gc.length → reachedB (⟨name, params, regs, frame, gc⟩ : Fnc).code (k : Int) = true) := Lib.hid (fun k hk => (reachedB_iff (closed_of HRG.out) HRG.out.code.1 _).2 (by have := sweepF_reach hr (q := k); rw [hg] at this; exact this hk))
  have HB0 := Lib.hid (box_lv W ⟨⟨name, params, regs, frame, code⟩, ca, cc⟩)
  have HK := Lib.hid (h.below HB0.out)
  have HX := Lib.hid (heap_alloc_new W (fnO ⟨⟨name, params, regs, frame, code⟩, ca, cc⟩))
  have HC := Lib.hid (h.code.below HB0.out)
  obtain ⟨x0, x1, x2, x3, x4⟩ := nv5 HX.out
  clear h hf hr hg
  go_enter Try.func3, Try.ntmps3
  go_upto_region 4 with (first | ((with_reducible refine (few10_c ⟨⟨name, params, regs, frame, code⟩, ca, cc⟩ _ HK.out true HF.out).mono ?_); rintro e w1 ⟨rfl, hb1⟩; have HB1 := Lib.hid (HB0.out.trans (hb1.mono HB0.out.size)); have HX1 := Lib.hid ((hb1.block _ (lt_heap HX.out)).trans HX.out); have HC1 := Lib.hid (HC.out.below (hb1.mono HB0.out.size)); clear hb1 x0 x1 x2 x3 x4; obtain ⟨x0, x1, x2, x3, x4⟩ := nv5 HX1.out) | ((with_reducible refine (sweep_g ⟨name, params, regs, frame, code⟩ ⟨name, params, regs, frame, gc⟩ HG.out ca cc _ (code_up HC1.out HB1.out.size) (by show code.length ≤ 10000; omega)).mono ?_); rintro e w2 ⟨cg, c9, rfl, q1, q2, q3, q4⟩; have HS := Lib.hid (S2.first (w := W) (cc := c9) HX1.out HC1.out HB1.out q4 q2 q3); clear q1 q2 q3 q4 x0 x1 x2 x3 x4))
  generalize w2.alloc (fnO ⟨⟨name, params, regs, frame, gc⟩, some ⟨cg, 0, none⟩, c9⟩) = w3 at *
  generalize w2.heap.size = G at *
  obtain ⟨x0, x1, x2, x3, x4⟩ := nv5 HS.out.fb
  obtain ⟨y0, y1, y2, y3, y4⟩ := nv5 HS.out.gb
  have e1 : wrap64 ((gc.length : Int) + ((code.length : Int) - (gc.length : Int))) = (code.length : Int) := by unfold wrap64; omega
  have e2 : ((code.length : Int) != (code.length : Int)) = false := by simp
  have e3 : (regs != regs) = false := by simp
  have e4 : (params != params) = false := by simp
  have e5 : (frame != frame) = false := by simp
  go_upto_region 8 with (first | ((with_reducible refine (refR HS.out.f hmx true (rightF_iff.2 HR.out)).mono ?_); rintro e w4 ⟨rfl, hb4⟩; have HS4 := Lib.hid (HS.out.below hb4); clear hb4 x0 x1 x2 x3 x4 y0 y1 y2 y3 y4; obtain ⟨x0, x1, x2, x3, x4⟩ := nv5 HS4.out.fb; obtain ⟨y0, y1, y2, y3, y4⟩ := nv5 HS4.out.gb) | ((with_reducible refine (refR HS4.out.fg hgm true (rightF_iff.2 HRG.out)).mono ?_); rintro e w5 ⟨rfl, hb5⟩; have HS5 := Lib.hid (HS4.out.below hb5); clear hb5 x0 x1 x2 x3 x4 y0 y1 y2 y3 y4; obtain ⟨x0, x1, x2, x3, x4⟩ := nv5 HS5.out.fb; obtain ⟨y0, y1, y2, y3, y4⟩ := nv5 HS5.out.gb) | ((with_reducible refine (dead_g HS5.out.fg hgm HRG.out HDG.out).mono ?_); rintro e w6 ⟨da, dc, rfl, hb6⟩; have HS6 := Lib.hid (HS5.out.below hb6); clear hb6 x0 x1 x2 x3 x4 y0 y1 y2 y3 y4; obtain ⟨x0, x1, x2, x3, x4⟩ := nv5 HS6.out.fb; obtain ⟨y0, y1, y2, y3, y4⟩ := nv5 HS6.out.gb))
  go_wp2
  clear x0 x1 x2 x3 x4 y0 y1 y2 y3 y4 HS HS4 HS5 e1 e2 e3 e4 e5
  go_loopw [81] (fun s81 wr => ∃ k : Nat, k ≤ gc.length ∧ s81 = .int .i64 (k : Int) ∧ Hid (S2 W wr ⟨⟨name, params, regs, frame, code⟩, ca, cc⟩ ⟨name, params, regs, frame, gc⟩ G cg c9)) (fun s81 wr => gc.length - (Go.RowKit.intOf s81).toNat)
  case atStart => exact ⟨0, by omega, rfl, HS6⟩
  case round =>
    clear HS6
    obtain ⟨k, hk, rfl, HSK⟩ := hrel
    have k0 : (0 : Int) ≤ (k : Int) := Int.natCast_nonneg _
    obtain ⟨y0, y1, y2, y3, y4⟩ := nv5 HSK.out.gb
    by_cases hlt : k < gc.length
    · have k1 : (k : Int) < (gc.length : Int) := by omega
      have HQ := Lib.hid (HRE.out k hlt)
      have HLT := Lib.hid hlt
      clear hlt
      go_wp2_with ((with_reducible refine (reachR HSK.out.fg HRG.out (k : Int) true HQ.out).mono ?_); rintro e w7 ⟨rfl, hb7⟩; have HS7 := Lib.hid (HSK.out.below hb7); clear hb7 y0 y1 y2 y3 y4)
      go_roundw
      case rel => exact ⟨k + 1, HLT.out, by go_num, HS7⟩
      case measure => have := HLT.out; simp [Go.RowKit.intOf]; omega
    · obtain rfl : k = gc.length := by omega
      go_upto_region 15 with ((with_reducible refine (sweep_g ⟨name, params, regs, frame, gc⟩ ⟨name, params, regs, frame, gc⟩ HAG.out (some ⟨cg, 0, none⟩) c9 _ HSK.out.fg (by show gc.length ≤ 10000; omega)).mono ?_); rintro e w8 ⟨ch, c10, rfl, q1, q2, q3, q4⟩; have HS8 := Lib.hid (HSK.out.below q4); have HR8 := Lib.hid q3; have hch := q2; clear q1 q2 q3 q4 y0 y1 y2 y3 y4)
      have hba := (Below.refl w8.heap.size w8).alloc (Nat.le_refl _) (fnO ⟨⟨name, params, regs, frame, gc⟩, some ⟨ch, 0, none⟩, c10⟩)
      have HS9 := Lib.hid (HS8.out.below hba)
      have HX9 := Lib.hid (heap_alloc_new w8 (fnO ⟨⟨name, params, regs, frame, gc⟩, some ⟨ch, 0, none⟩, c10⟩))
      have HC9 : Hid (CodeAt (w8.alloc (fnO ⟨⟨name, params, regs, frame, gc⟩, some ⟨ch, 0, none⟩, c10⟩)) (w8.alloc (fnO ⟨⟨name, params, regs, frame, gc⟩, some ⟨ch, 0, none⟩, c10⟩)).heap.size ⟨⟨name, params, regs, frame, gc⟩, some ⟨ch, 0, none⟩, c10⟩) := Lib.hid (fun _ => ⟨ch, 0, rfl, by simp; omega, Nat.le_refl _, fun j u hu => by rw [Nat.zero_add]; exact (World.cell?_of_block (w := w8) (a := ⟨ch, j, none⟩) (hba.block ch hch)).trans (HR8.out j u hu)⟩)
      clear hba HS8 HR8 hch
      generalize w8.alloc (fnO ⟨⟨name, params, regs, frame, gc⟩, some ⟨ch, 0, none⟩, c10⟩) = w9 at *
      generalize w8.heap.size = H at *
      obtain ⟨y0, y1, y2, y3, y4⟩ := nv5 HS9.out.gb
      obtain ⟨z0, z1, z2, z3, z4⟩ := nv5 HX9.out
      have e0 : (gc.length : Int) - (gc.length : Int) = 0 := by omega
      go_wp2_with (first | ((with_reducible refine (same_c ⟨name, params, regs, frame, gc⟩ (some ⟨cg, 0, none⟩) (some ⟨ch, 0, none⟩) c9 c10 _ HS9.out.fg HC9.out hgm).mono ?_); rintro e wa ⟨rfl, hba⟩; have HSA := Lib.hid (HS9.out.below hba); clear hba y0 y1 y2 y3 y4 z0 z1 z2 z3 z4) | ((with_reducible refine (awake10_any _).mono ?_); rintro e wb ⟨rfl, hbb⟩; have HSB := Lib.hid (HSA.out.below hbb); clear hbb))
      go_ret
      exact ⟨rfl, HSB.out.hb⟩
theorem lsw_any (r : FnR) (W : World) (h : LvK W r) : Calls Try.prog 3 #[fnV r] W (RPost (.bool true) W) := by
  obtain ⟨⟨name, params, regs, frame, code⟩, ca, cc⟩ := r
  by_cases hf : few10 ⟨name, params, regs, frame, code⟩ = true
  · by_cases hr : RightF ⟨name, params, regs, frame, code⟩
    · obtain ⟨h1, h2, h3, h4⟩ := sweepF_heads ⟨name, params, regs, frame, code⟩
      refine lsw_yes name params regs frame code ca cc W h hf hr (sweepF ⟨name, params, regs, frame, code⟩).code ?_
      generalize sweepF ⟨name, params, regs, frame, code⟩ = g at *
      obtain ⟨n, p, r, f, c⟩ := g
      simp only at h1 h2 h3 h4
      subst h1 h2 h3 h4
      rfl
    · exact lsw_no name params regs frame code ca cc W h hf (by rw [← Bool.not_eq_true, rightF_iff]; exact hr)
  · exact lsw_few name params regs frame code ca cc W h (by simpa using hf)
end Go.Proofs.Ytgnpbodhjmappaa
