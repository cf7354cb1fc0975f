/-
  The law's is, of a number that the table has: a scalar.
-/
import Derived.Test.YtemnlkgjgalipaaDoorIsB
namespace Go.Proofs.YtemnlkgjgalipaaDoor
open Go.RowKit Go.Maps Tp Go.Sort
set_option linter.unusedVariables false

set_option maxHeartbeats 4000000 in
set_option maxRecDepth 100000 in
theorem is_inMid {w : World} {B t : Nat} {v : Value} {T : Tab} {Y : List ((List UInt8 × List Fl) × Value)} {la da : Option Addr} {lc dc : Nat} (h : Both w B t v T Y la lc da dc) (hY : Y.length ≤ 900) (henv : Env w) (i : Nat) (e : En) (hi : T[i]? = some e) (nm : List UInt8) (hnm : nm.length ≤ 100) (kb : 1 ≤ e.self.kind ∧ e.self.kind ≤ 4) :
    Calls Tryd.prog 14 #[.pointer (some ⟨t, 0, none⟩), .agg #[.slice la T.length lc, .slice da Y.length dc], .int .i64 i, .string (bs nm)] w fun e w' => e = .returned (.bool true) ∧ Below w.heap.size w w' := by
  have HTAB : Hid (∀ W, Below w.heap.size w W → TabIn W t B v T) := Lib.hid (fun W hW => h.tab.below hW)
  have HSZ : Hid (∀ W, Below w.heap.size w W → SzIn W T (Y.map (·.1)) la lc da Y.length dc) := Lib.hid (fun W hW => (h.sz hY).below hW)
  have HREL := Lib.hid h.rel
  have HENV : Hid (∀ W, Below w.heap.size w W → Env W) := Lib.hid (fun W hW => henv.below hW henv.sz)
  have hn : ent T i = some e := by rw [ent_nat]; exact hi
  have HN := Lib.hid hn
  have hT := h.rel.good.few
  have hil : i < T.length := (List.getElem?_eq_some_iff.1 hi).1
  have i0 : (0 : Int) ≤ (i : Int) := Int.natCast_nonneg _
  have i1 : (i : Int) < (T.length : Int) := by omega
  obtain ⟨g, cap2, hg, _, hgl⟩ := h.ref.rowL.form (by omega)
  simp only [Value.slice.injEq] at hg
  obtain ⟨rfl, _, rfl⟩ := hg
  obtain ⟨r0, r1, r2, r3⟩ := ty_at h.ref hi
  have HRW : Hid (w.cell? ⟨g, i * 4, none⟩ = some (.int .i64 e.self.kind) ∧ w.cell? ⟨g, i * 4 + 1, none⟩ = some (.int .i64 e.self.elem) ∧ w.cell? ⟨g, i * 4 + 2, none⟩ = some (.int .i64 e.self.n) ∧ w.cell? ⟨g, i * 4 + 3, none⟩ = some (.string (bs e.self.name))) := Lib.hid ⟨r0, r1, r2, r3⟩
  have hs0 : Tp.sizeOf T i = e.size := sizeOf_nat hi
  obtain ⟨sz, hsz⟩ : ∃ sz, e.size = sz := ⟨_, rfl⟩
  rw [hsz] at hs0
  have HS0 := Lib.hid hs0
  have hsc : scalar T i = true := by
    unfold scalar
    rw [hn]
    simp only
    simp; omega
  have HSC := Lib.hid hsc
  clear r0 r1 r2 r3 hsz
  have kd1 : decide ((1 : Int) ≤ e.self.kind) = true := by simp; omega
  have kd4 : decide (e.self.kind ≤ 4) = true := by simp; omega
  obtain ⟨⟨p1, p2, p3⟩, hp⟩ : ∃ p, Tp.field T i nm = p := ⟨_, rfl⟩
  have HP := Lib.hid hp
  have heq : ∀ W : World, (binOp .eql 41 (.agg #[.int .i64 e.self.kind, .int .i64 e.self.elem, .int .i64 e.self.n, .string (bs e.self.name)]) (.agg #[.int .i64 e.self.kind, .int .i64 e.self.elem, .int .i64 e.self.n, .string (bs e.self.name)])).run Tryd.prog W = .ok (.bool true) W := fun W => by
    rw [ty_eql, decide_eq_true rfl]
  clear h henv hn hs0 hsc hp hi
  go_enter Tryd.func14, Tryd.ntmps14
  go_wp2_with fail
  refine (at_any (HTAB.out _ ((Below.refl _ _).alloc (Nat.le_refl _) _)) i).mono ?_
  rw [HN.out]
  rintro x w1 ⟨rfl, hb1⟩
  obtain ⟨d, _, dz⟩ := kept_new hb1
  have HB1 : Hid (Below w.heap.size w w1) := Lib.hid (((Below.refl _ _).alloc (Nat.le_refl _) _).trans (hb1.mono (by simp)))
  have HD1 : Hid (∀ o, w1.cell? ⟨w.heap.size, o, none⟩ = _) := Lib.hid d
  clear hb1 d
  rw [show tyV ((some e : Option En).getD zeroE).self = .agg #[.int .i64 e.self.kind, .int .i64 e.self.elem, .int .i64 e.self.n, .string (bs e.self.name)] from rfl]
  go_wp2_with fail
  refine (size_any (HTAB.out _ (HB1.out.alloc HB1.out.size _)) i).mono ?_
  rw [HS0.out]
  rintro x w2 ⟨rfl, hb2⟩
  obtain ⟨x2, _, xz⟩ := kept_new hb2
  have hb2' := ((Below.refl w1.heap.size w1).alloc (Nat.le_refl _) (.cells #[.int .i64 e.self.kind, .int .i64 e.self.elem, .int .i64 e.self.n, .string (bs e.self.name)] 41)).trans (hb2.mono (by simp))
  have HB2 : Hid (Below w.heap.size w w2) := Lib.hid (HB1.out.trans (hb2'.mono HB1.out.size))
  have HD2 : Hid (∀ o, w2.cell? ⟨w.heap.size, o, none⟩ = _) := Lib.hid (fun o => (hb2'.cell (p := ⟨w.heap.size, o, none⟩) dz).trans (HD1.out o))
  have HX2 : Hid (∀ o, w2.cell? ⟨w1.heap.size, o, none⟩ = _) := Lib.hid x2
  clear hb2 hb2' x2
  go_wp2_with fail
  refine (pfield_any (HTAB.out _ HB2.out) i nm hnm).mono ?_
  rw [HP.out]
  rintro x w3 ⟨rfl, hb3⟩
  have HB3 : Hid (Below w.heap.size w w3) := Lib.hid (HB2.out.trans (hb3.mono HB2.out.size))
  have hz2 : w.heap.size < w2.heap.size := by have := xz; omega
  have HD3 : Hid (∀ o, w3.cell? ⟨w.heap.size, o, none⟩ = _) := Lib.hid (fun o => (hb3.cell (p := ⟨w.heap.size, o, none⟩) hz2).trans (HD2.out o))
  have HX3 : Hid (∀ o, w3.cell? ⟨w1.heap.size, o, none⟩ = _) := Lib.hid (fun o => (hb3.cell (p := ⟨w1.heap.size, o, none⟩) xz).trans (HX2.out o))
  have hz3 := hb3.size
  have d3 := HD3.out
  clear hb3
  go_wp2_with fail
  refine (rfield_any (HSZ.out _ HB3.out) HREL.out i nm).mono ?_
  rw [HP.out]
  rintro x w4 ⟨rfl, hb4⟩
  have HB4 : Hid (Below w.heap.size w w4) := Lib.hid (HB3.out.trans (hb4.mono HB3.out.size))
  have d4 : ∀ o, w4.cell? ⟨w.heap.size, o, none⟩ = _ := fun o => (hb4.cell (p := ⟨w.heap.size, o, none⟩) (by show w.heap.size < w3.heap.size; omega)).trans (HD3.out o)
  have x4 : ∀ o, w4.cell? ⟨w1.heap.size, o, none⟩ = _ := fun o => (hb4.cell (p := ⟨w1.heap.size, o, none⟩) (by show w1.heap.size < w3.heap.size; omega)).trans (HX3.out o)
  have hz4 := hb4.size
  have y0 : w.heap.size < w4.heap.size := by omega
  have y1 : w1.heap.size < w4.heap.size := by omega
  have HD4 := Lib.hid d4
  have HX4 := Lib.hid x4
  clear hb4 d3
  obtain ⟨tx, htx⟩ : ∃ tx, text T i = tx := ⟨_, rfl⟩
  have HTX := Lib.hid htx
  clear htx
  have HBW : Hid (Below w.heap.size w (w4.alloc (.cells #[.int .i64 e.self.kind, .int .i64 e.self.elem, .int .i64 e.self.n, .string (bs e.self.name)] 41))) := Lib.hid (HB4.out.alloc HB4.out.size _)
  have hbw := (Below.refl w4.heap.size w4).alloc (Nat.le_refl _) (.cells #[.int .i64 e.self.kind, .int .i64 e.self.elem, .int .i64 e.self.n, .string (bs e.self.name)] 41)
  have k0 : ∀ o, (w4.alloc (.cells #[.int .i64 e.self.kind, .int .i64 e.self.elem, .int .i64 e.self.n, .string (bs e.self.name)] 41)).cell? ⟨w.heap.size, o, none⟩ = #[Value.slice (some ⟨g, 0, none⟩) T.length lc, .slice da Y.length dc][o]? := fun o => (hbw.cell (p := ⟨w.heap.size, o, none⟩) y0).trans (HD4.out o)
  have k1 : ∀ o, (w4.alloc (.cells #[.int .i64 e.self.kind, .int .i64 e.self.elem, .int .i64 e.self.n, .string (bs e.self.name)] 41)).cell? ⟨w1.heap.size, o, none⟩ = #[Value.int .i64 e.self.kind, .int .i64 e.self.elem, .int .i64 e.self.n, .string (bs e.self.name)][o]? := fun o => (hbw.cell (p := ⟨w1.heap.size, o, none⟩) y1).trans (HX4.out o)
  have k2 : ∀ o, (w4.alloc (.cells #[.int .i64 e.self.kind, .int .i64 e.self.elem, .int .i64 e.self.n, .string (bs e.self.name)] 41)).cell? ⟨w4.heap.size, o, none⟩ = #[Value.int .i64 e.self.kind, .int .i64 e.self.elem, .int .i64 e.self.n, .string (bs e.self.name)][o]? := fun o => cell_of_row _ _ o _ _ _ (heap_alloc_new w4 _)
  have rg : ∀ (g o : Nat) (u : Value), (w4.alloc (.cells #[.int .i64 e.self.kind, .int .i64 e.self.elem, .int .i64 e.self.n, .string (bs e.self.name)] 41)).cell? ⟨g, o, none⟩ = some u → ∀ dd os, (grow (redrawn (w4.alloc (.cells #[.int .i64 e.self.kind, .int .i64 e.self.elem, .int .i64 e.self.n, .string (bs e.self.name)] 41)) dd) os).cell? ⟨g, o, none⟩ = some u := fun g o u h dd os => cell_regrown h dd os
  have b0 := rg _ 0 _ (k0 0)
  have b1' := rg _ 1 _ (k0 1)
  have xx0 := rg _ 0 _ (k1 0)
  have xx1 := rg _ 1 _ (k1 1)
  have xx2 := rg _ 2 _ (k1 2)
  have xx3 := rg _ 3 _ (k1 3)
  have zz0 := rg _ 0 _ (k2 0)
  have zz1 := rg _ 1 _ (k2 1)
  have zz2 := rg _ 2 _ (k2 2)
  have zz3 := rg _ 3 _ (k2 3)
  have HBG : Hid (∀ dd os, Below w.heap.size w (grow (redrawn (w4.alloc (.cells #[.int .i64 e.self.kind, .int .i64 e.self.elem, .int .i64 e.self.n, .string (bs e.self.name)] 41)) dd) os)) := Lib.hid (fun dd os => HBW.out.trans ((below_regrown _ dd os).mono HBW.out.size))
  have C1 : Hid (∀ dd os, Calls Tryd.prog 30 #[.agg #[.slice (some ⟨g, 0, none⟩) T.length lc, .slice da Y.length dc], .int .i64 i] (grow (redrawn (w4.alloc (.cells #[.int .i64 e.self.kind, .int .i64 e.self.elem, .int .i64 e.self.n, .string (bs e.self.name)] 41)) dd) os) fun x w' => x = .returned (.int .i64 sz) ∧ Below (grow (redrawn (w4.alloc (.cells #[.int .i64 e.self.kind, .int .i64 e.self.elem, .int .i64 e.self.n, .string (bs e.self.name)] 41)) dd) os).heap.size (grow (redrawn (w4.alloc (.cells #[.int .i64 e.self.kind, .int .i64 e.self.elem, .int .i64 e.self.n, .string (bs e.self.name)] 41)) dd) os) w') := Lib.hid (fun dd os => by have := r_size (HREL.out.rs i) _ (HSZ.out _ (HBG.out dd os)); rw [HS0.out] at this; exact this)
  have C2 : Hid (∀ dd os, Calls Tryd.prog 24 #[.pointer (some ⟨t, 0, none⟩), .int .i64 i] (grow (redrawn (w4.alloc (.cells #[.int .i64 e.self.kind, .int .i64 e.self.elem, .int .i64 e.self.n, .string (bs e.self.name)] 41)) dd) os) fun x w' => x = .returned (.string (bs tx)) ∧ Below (grow (redrawn (w4.alloc (.cells #[.int .i64 e.self.kind, .int .i64 e.self.elem, .int .i64 e.self.n, .string (bs e.self.name)] 41)) dd) os).heap.size (grow (redrawn (w4.alloc (.cells #[.int .i64 e.self.kind, .int .i64 e.self.elem, .int .i64 e.self.n, .string (bs e.self.name)] 41)) dd) os) w') := Lib.hid (fun dd os => by have := text_any (HTAB.out _ (HBG.out dd os)) HREL.out.good (HENV.out _ (HBG.out dd os)) i; rw [HTX.out] at this; exact this)
  have C3 : Hid (∀ dd os, Calls Tryd.prog 31 #[.agg #[.slice (some ⟨g, 0, none⟩) T.length lc, .slice da Y.length dc], .int .i64 i] (grow (redrawn (w4.alloc (.cells #[.int .i64 e.self.kind, .int .i64 e.self.elem, .int .i64 e.self.n, .string (bs e.self.name)] 41)) dd) os) fun x w' => x = .returned (.string (bs tx)) ∧ Below (grow (redrawn (w4.alloc (.cells #[.int .i64 e.self.kind, .int .i64 e.self.elem, .int .i64 e.self.n, .string (bs e.self.name)] 41)) dd) os).heap.size (grow (redrawn (w4.alloc (.cells #[.int .i64 e.self.kind, .int .i64 e.self.elem, .int .i64 e.self.n, .string (bs e.self.name)] 41)) dd) os) w') := Lib.hid (fun dd os => by have := r_text_any (HSZ.out _ (HBG.out dd os)) HREL.out.good i; rw [HTX.out] at this; exact this)
  have C4 : Hid (∀ dd os, Calls Tryd.prog 23 #[.pointer (some ⟨t, 0, none⟩), .int .i64 i] (grow (redrawn (w4.alloc (.cells #[.int .i64 e.self.kind, .int .i64 e.self.elem, .int .i64 e.self.n, .string (bs e.self.name)] 41)) dd) os) fun x w' => x = .returned (.bool true) ∧ Below (grow (redrawn (w4.alloc (.cells #[.int .i64 e.self.kind, .int .i64 e.self.elem, .int .i64 e.self.n, .string (bs e.self.name)] 41)) dd) os).heap.size (grow (redrawn (w4.alloc (.cells #[.int .i64 e.self.kind, .int .i64 e.self.elem, .int .i64 e.self.n, .string (bs e.self.name)] 41)) dd) os) w') := Lib.hid (fun dd os => by have := typesSizes.scalar_any (HTAB.out _ (HBG.out dd os)) i; rw [HSC.out] at this; exact this)
  have C5 : Hid (∀ dd os, Calls Tryd.prog 15 #[.pointer (some ⟨t, 0, none⟩)] (grow (redrawn (w4.alloc (.cells #[.int .i64 e.self.kind, .int .i64 e.self.elem, .int .i64 e.self.n, .string (bs e.self.name)] 41)) dd) os) fun x w' => x = .returned (.int .i64 T.length) ∧ Below (grow (redrawn (w4.alloc (.cells #[.int .i64 e.self.kind, .int .i64 e.self.elem, .int .i64 e.self.n, .string (bs e.self.name)] 41)) dd) os).heap.size (grow (redrawn (w4.alloc (.cells #[.int .i64 e.self.kind, .int .i64 e.self.elem, .int .i64 e.self.n, .string (bs e.self.name)] 41)) dd) os) w') := Lib.hid (fun dd os => (len_any (HTAB.out _ (HBG.out dd os))).mono (by rintro x w' ⟨rfl, rfl⟩; exact ⟨rfl, Below.refl _ _⟩))
  clear k0 k1 k2 rg hbw x4
  obtain ⟨ww0, ww1, ww2, ww3⟩ := HRW.out
  have e0 := (HB4.out.cell (p := ⟨g, i * 4, none⟩) hgl).trans ww0
  have e1 := (HB4.out.cell (p := ⟨g, i * 4 + 1, none⟩) hgl).trans ww1
  have e2 := (HB4.out.cell (p := ⟨g, i * 4 + 2, none⟩) hgl).trans ww2
  have e3 := (HB4.out.cell (p := ⟨g, i * 4 + 3, none⟩) hgl).trans ww3
  have hg4 : g < w4.heap.size := Nat.lt_of_lt_of_le hgl HB4.out.size
  clear ww0 ww1 ww2 ww3
  go_wp2
  refine wp_region_quiet_below (by kernel_rfl) (by kernel_rfl) ?_
  repeat (any_goals (first | go_big_quiet_step (first
    | (go_at_call 30; exact Calls.regrown_of (C1.out _ _))
    | (go_at_call 24; exact Calls.regrown_of (C2.out _ _))
    | (go_at_call 31; exact Calls.regrown_of (C3.out _ _))
    | (go_at_call 23; exact Calls.regrown_of (C4.out _ _))
    | (go_at_call 15; exact Calls.regrown_of (C5.out _ _))) | quiet_step (first
    | (go_at_call 30; exact Calls.regrown_of (C1.out _ _))
    | (go_at_call 24; exact Calls.regrown_of (C2.out _ _))
    | (go_at_call 31; exact Calls.regrown_of (C3.out _ _))
    | (go_at_call 23; exact Calls.regrown_of (C4.out _ _))
    | (go_at_call 15; exact Calls.regrown_of (C5.out _ _)))))
  refine wpQuiet_nil ?_
  intro _ hw'
  obtain ⟨⟨dq, osq⟩, hw''⟩ := hw'
  subst hw''
  go_wp2
  go_ret
  exact ⟨rfl, HBW.out.trans ((below_regrown _ dq osq).mono HBW.out.size)⟩
end Go.Proofs.YtemnlkgjgalipaaDoor
