/-
  The law's is: what both tables tell of any number is the same.
-/
import Derived.Test.YtemnlkgjgalipaaDoorIs
import Derived.Test.YtemnlkgjgalipaaDoorTypesSizes
namespace Go.Proofs.YtemnlkgjgalipaaDoor
open Go.RowKit Go.Maps Tp Go.Sort
set_option linter.unusedVariables false

theorem at_any {w : World} {t B : Nat} {v : Value} {T : Tab} (h : TabIn w t B v T) (n : Int) : Calls Tryd.prog 16 #[.pointer (some ⟨t, 0, none⟩), .int .i64 n] w fun x w' => x = .returned (.tuple #[tyV ((ent T n).getD zeroE).self, .bool (ent T n).isSome]) ∧ Below w.heap.size w w' := by
  obtain ⟨m, hE, _⟩ := entAt_any h n
  exact at_of hE
theorem pfield_any {w : World} {t B : Nat} {v : Value} {T : Tab} (h : TabIn w t B v T) (n : Int) (nm : List UInt8) (hn : nm.length ≤ 100) : Calls Tryd.prog 21 #[.pointer (some ⟨t, 0, none⟩), .int .i64 n, .string (bs nm)] w (FieldPost (Tp.field T n nm) w) := by
  obtain ⟨m, hE, hF⟩ := entAt_any h n
  have hp : pickO ((ent T n).getD zeroE).flds nm = Tp.field T n nm := by
    unfold pickO Tp.field
    cases ent T n with
    | none => rfl
    | some e => rfl
  refine (field_of hE hF (bs nm) (by show nm.length ≤ maxLen; unfold maxLen; omega)).mono ?_
  rintro x w' ⟨rfl, hb⟩
  have hd : (bs nm).data.toList = nm := by simp
  rw [hd, hp]
  exact ⟨rfl, hb⟩
set_option maxHeartbeats 4000000 in
set_option maxRecDepth 100000 in
theorem is_out {w : World} {B t : Nat} {v : Value} {T : Tab} {Y : List ((List UInt8 × List Fl) × Value)} {la da : Option Addr} {lc dc : Nat} (h : Both w B t v T Y la lc da dc) (hY : Y.length ≤ 900) (henv : Env w) (n : Int) (nm : List UInt8) (hnm : nm.length ≤ 100) (hn : ent T n = none) :
    Calls Tryd.prog 14 #[.pointer (some ⟨t, 0, none⟩), .agg #[.slice la T.length lc, .slice da Y.length dc], .int .i64 n, .string (bs nm)] w fun e w' => e = .returned (.bool true) ∧ Below w.heap.size w w' := by
  have HTAB : Hid (∀ W, Below w.heap.size w W → TabIn W t B v T) := Lib.hid (fun W hW => h.tab.below hW)
  have HSZ : Hid (∀ W, Below w.heap.size w W → SzIn W T (Y.map (·.1)) la lc da Y.length dc) := Lib.hid (fun W hW => (h.sz hY).below hW)
  have HREL := Lib.hid h.rel
  have HENV : Hid (∀ W, Below w.heap.size w W → Env W) := Lib.hid (fun W hW => henv.below hW henv.sz)
  have HN := Lib.hid hn
  have hT := h.rel.good.few
  have hthere : (0 ≤ n ∧ ¬ n < (T.length : Int)) ∨ n < 0 := by
    by_cases h0 : n < 0
    · exact .inr h0
    · left
      refine ⟨by omega, fun h1 => ?_⟩
      unfold ent at hn
      rw [if_neg h0] at hn
      rw [List.getElem?_eq_none_iff] at hn
      omega
  have hs0 : Tp.sizeOf T n = 0 := by unfold Tp.sizeOf; rw [hn]; rfl
  have HS0 := Lib.hid hs0
  have hsc : scalar T n = false := by unfold scalar; rw [hn]
  have HSC := Lib.hid hsc
  obtain ⟨⟨p1, p2, p3⟩, hp⟩ : ∃ p, Tp.field T n nm = p := ⟨_, rfl⟩
  have HP := Lib.hid hp
  have heq : ∀ W : World, (binOp .eql 41 (.agg #[.int .i64 0, .int .i64 0, .int .i64 0, .string ⟨#[]⟩]) (.agg #[.int .i64 0, .int .i64 0, .int .i64 0, .string ⟨#[]⟩])).run Tryd.prog W = .ok (.bool true) W := fun W => by
    have := ty_eql zeroT zeroT W
    simpa [zeroT] using this
  clear h henv hn hs0 hsc hp
  go_enter Tryd.func14, Tryd.ntmps14
  go_wp2_with fail
  refine (at_any (HTAB.out _ ((Below.refl _ _).alloc (Nat.le_refl _) _)) n).mono ?_
  rw [HN.out]
  rintro x w1 ⟨rfl, hb1⟩
  obtain ⟨d, _, dz⟩ := kept_new hb1
  have HB1 : Hid (Below w.heap.size w w1) := Lib.hid (((Below.refl _ _).alloc (Nat.le_refl _) _).trans (hb1.mono (by simp)))
  have HD1 : Hid (∀ o, w1.cell? ⟨w.heap.size, o, none⟩ = _) := Lib.hid d
  clear hb1 d
  rw [show tyV ((none : Option En).getD zeroE).self = .agg #[.int .i64 0, .int .i64 0, .int .i64 0, .string ⟨#[]⟩] from rfl]
  go_wp2_with fail
  refine (size_any (HTAB.out _ (HB1.out.alloc HB1.out.size _)) n).mono ?_
  rw [HS0.out]
  rintro x w2 ⟨rfl, hb2⟩
  obtain ⟨x2, _, xz⟩ := kept_new hb2
  have hb2' := ((Below.refl w1.heap.size w1).alloc (Nat.le_refl _) (.cells #[.int .i64 0, .int .i64 0, .int .i64 0, .string ⟨#[]⟩] 41)).trans (hb2.mono (by simp))
  have HB2 : Hid (Below w.heap.size w w2) := Lib.hid (HB1.out.trans (hb2'.mono HB1.out.size))
  have HD2 : Hid (∀ o, w2.cell? ⟨w.heap.size, o, none⟩ = _) := Lib.hid (fun o => (hb2'.cell (p := ⟨w.heap.size, o, none⟩) dz).trans (HD1.out o))
  have HX2 : Hid (∀ o, w2.cell? ⟨w1.heap.size, o, none⟩ = _) := Lib.hid x2
  clear hb2 hb2' x2
  go_wp2_with fail
  refine (pfield_any (HTAB.out _ HB2.out) n nm hnm).mono ?_
  rw [HP.out]
  rintro x w3 ⟨rfl, hb3⟩
  have HB3 : Hid (Below w.heap.size w w3) := Lib.hid (HB2.out.trans (hb3.mono HB2.out.size))
  have hz2 : w.heap.size < w2.heap.size := by have := xz; omega
  have HD3 : Hid (∀ o, w3.cell? ⟨w.heap.size, o, none⟩ = _) := Lib.hid (fun o => (hb3.cell (p := ⟨w.heap.size, o, none⟩) hz2).trans (HD2.out o))
  have HX3 : Hid (∀ o, w3.cell? ⟨w1.heap.size, o, none⟩ = _) := Lib.hid (fun o => (hb3.cell (p := ⟨w1.heap.size, o, none⟩) xz).trans (HX2.out o))
  have hz3 := hb3.size
  have d3 := HD3.out
  clear hb3
  go_wp2_with fail
  refine (rfield_any (HSZ.out _ HB3.out) HREL.out n nm).mono ?_
  rw [HP.out]
  rintro x w4 ⟨rfl, hb4⟩
  have HB4 : Hid (Below w.heap.size w w4) := Lib.hid (HB3.out.trans (hb4.mono HB3.out.size))
  have d4 : ∀ o, w4.cell? ⟨w.heap.size, o, none⟩ = _ := fun o => (hb4.cell (p := ⟨w.heap.size, o, none⟩) (by show w.heap.size < w3.heap.size; omega)).trans (HD3.out o)
  have x4 : ∀ o, w4.cell? ⟨w1.heap.size, o, none⟩ = _ := fun o => (hb4.cell (p := ⟨w1.heap.size, o, none⟩) (by show w1.heap.size < w3.heap.size; omega)).trans (HX3.out o)
  have hz4 := hb4.size
  have y0 : w.heap.size < w4.heap.size := by omega
  have y1 : w1.heap.size < w4.heap.size := by omega
  have HD4 := Lib.hid d4
  have HX4 := Lib.hid x4
  clear hb4 d3
  obtain ⟨tx, htx⟩ : ∃ tx, text T n = tx := ⟨_, rfl⟩
  have HTX := Lib.hid htx
  clear htx
  have HBW : Hid (Below w.heap.size w (w4.alloc (.cells #[.int .i64 0, .int .i64 0, .int .i64 0, .string ⟨#[]⟩] 41))) := Lib.hid (HB4.out.alloc HB4.out.size _)
  have hbw := (Below.refl w4.heap.size w4).alloc (Nat.le_refl _) (.cells #[.int .i64 0, .int .i64 0, .int .i64 0, .string ⟨#[]⟩] 41)
  have k0 : ∀ o, (w4.alloc (.cells #[.int .i64 0, .int .i64 0, .int .i64 0, .string ⟨#[]⟩] 41)).cell? ⟨w.heap.size, o, none⟩ = #[Value.slice la T.length lc, .slice da Y.length dc][o]? := fun o => (hbw.cell (p := ⟨w.heap.size, o, none⟩) y0).trans (HD4.out o)
  have k1 : ∀ o, (w4.alloc (.cells #[.int .i64 0, .int .i64 0, .int .i64 0, .string ⟨#[]⟩] 41)).cell? ⟨w1.heap.size, o, none⟩ = #[Value.int .i64 0, .int .i64 0, .int .i64 0, .string ⟨#[]⟩][o]? := fun o => (hbw.cell (p := ⟨w1.heap.size, o, none⟩) y1).trans (HX4.out o)
  have k2 : ∀ o, (w4.alloc (.cells #[.int .i64 0, .int .i64 0, .int .i64 0, .string ⟨#[]⟩] 41)).cell? ⟨w4.heap.size, o, none⟩ = #[Value.int .i64 0, .int .i64 0, .int .i64 0, .string ⟨#[]⟩][o]? := fun o => cell_of_row _ _ o _ _ _ (heap_alloc_new w4 _)
  have rg : ∀ (g o : Nat) (u : Value), (w4.alloc (.cells #[.int .i64 0, .int .i64 0, .int .i64 0, .string ⟨#[]⟩] 41)).cell? ⟨g, o, none⟩ = some u → ∀ dd os, (grow (redrawn (w4.alloc (.cells #[.int .i64 0, .int .i64 0, .int .i64 0, .string ⟨#[]⟩] 41)) dd) os).cell? ⟨g, o, none⟩ = some u := fun g o u h dd os => cell_regrown h dd os
  have b0 := rg _ 0 _ (k0 0)
  have b1' := rg _ 1 _ (k0 1)
  have xx0 := rg _ 0 _ (k1 0)
  have xx1 := rg _ 1 _ (k1 1)
  have xx2 := rg _ 2 _ (k1 2)
  have xx3 := rg _ 3 _ (k1 3)
  have zz0 := rg _ 0 _ (k2 0)
  have zz1 := rg _ 1 _ (k2 1)
  have zz2 := rg _ 2 _ (k2 2)
  have zz3 := rg _ 3 _ (k2 3)
  have HBG : Hid (∀ dd os, Below w.heap.size w (grow (redrawn (w4.alloc (.cells #[.int .i64 0, .int .i64 0, .int .i64 0, .string ⟨#[]⟩] 41)) dd) os)) := Lib.hid (fun dd os => HBW.out.trans ((below_regrown _ dd os).mono HBW.out.size))
  have C1 : Hid (∀ dd os, Calls Tryd.prog 30 #[.agg #[.slice la T.length lc, .slice da Y.length dc], .int .i64 n] (grow (redrawn (w4.alloc (.cells #[.int .i64 0, .int .i64 0, .int .i64 0, .string ⟨#[]⟩] 41)) dd) os) fun x w' => x = .returned (.int .i64 0) ∧ Below (grow (redrawn (w4.alloc (.cells #[.int .i64 0, .int .i64 0, .int .i64 0, .string ⟨#[]⟩] 41)) dd) os).heap.size (grow (redrawn (w4.alloc (.cells #[.int .i64 0, .int .i64 0, .int .i64 0, .string ⟨#[]⟩] 41)) dd) os) w') := Lib.hid (fun dd os => by have := r_size (HREL.out.rs n) _ (HSZ.out _ (HBG.out dd os)); rw [HS0.out] at this; exact this)
  have C2 : Hid (∀ dd os, Calls Tryd.prog 24 #[.pointer (some ⟨t, 0, none⟩), .int .i64 n] (grow (redrawn (w4.alloc (.cells #[.int .i64 0, .int .i64 0, .int .i64 0, .string ⟨#[]⟩] 41)) dd) os) fun x w' => x = .returned (.string (bs tx)) ∧ Below (grow (redrawn (w4.alloc (.cells #[.int .i64 0, .int .i64 0, .int .i64 0, .string ⟨#[]⟩] 41)) dd) os).heap.size (grow (redrawn (w4.alloc (.cells #[.int .i64 0, .int .i64 0, .int .i64 0, .string ⟨#[]⟩] 41)) dd) os) w') := Lib.hid (fun dd os => by have := text_any (HTAB.out _ (HBG.out dd os)) HREL.out.good (HENV.out _ (HBG.out dd os)) n; rw [HTX.out] at this; exact this)
  have C3 : Hid (∀ dd os, Calls Tryd.prog 31 #[.agg #[.slice la T.length lc, .slice da Y.length dc], .int .i64 n] (grow (redrawn (w4.alloc (.cells #[.int .i64 0, .int .i64 0, .int .i64 0, .string ⟨#[]⟩] 41)) dd) os) fun x w' => x = .returned (.string (bs tx)) ∧ Below (grow (redrawn (w4.alloc (.cells #[.int .i64 0, .int .i64 0, .int .i64 0, .string ⟨#[]⟩] 41)) dd) os).heap.size (grow (redrawn (w4.alloc (.cells #[.int .i64 0, .int .i64 0, .int .i64 0, .string ⟨#[]⟩] 41)) dd) os) w') := Lib.hid (fun dd os => by have := r_text_any (HSZ.out _ (HBG.out dd os)) HREL.out.good n; rw [HTX.out] at this; exact this)
  have C4 : Hid (∀ dd os, Calls Tryd.prog 23 #[.pointer (some ⟨t, 0, none⟩), .int .i64 n] (grow (redrawn (w4.alloc (.cells #[.int .i64 0, .int .i64 0, .int .i64 0, .string ⟨#[]⟩] 41)) dd) os) fun x w' => x = .returned (.bool false) ∧ Below (grow (redrawn (w4.alloc (.cells #[.int .i64 0, .int .i64 0, .int .i64 0, .string ⟨#[]⟩] 41)) dd) os).heap.size (grow (redrawn (w4.alloc (.cells #[.int .i64 0, .int .i64 0, .int .i64 0, .string ⟨#[]⟩] 41)) dd) os) w') := Lib.hid (fun dd os => by have := typesSizes.scalar_any (HTAB.out _ (HBG.out dd os)) n; rw [HSC.out] at this; exact this)
  have C5 : Hid (∀ dd os, Calls Tryd.prog 15 #[.pointer (some ⟨t, 0, none⟩)] (grow (redrawn (w4.alloc (.cells #[.int .i64 0, .int .i64 0, .int .i64 0, .string ⟨#[]⟩] 41)) dd) os) fun x w' => x = .returned (.int .i64 T.length) ∧ Below (grow (redrawn (w4.alloc (.cells #[.int .i64 0, .int .i64 0, .int .i64 0, .string ⟨#[]⟩] 41)) dd) os).heap.size (grow (redrawn (w4.alloc (.cells #[.int .i64 0, .int .i64 0, .int .i64 0, .string ⟨#[]⟩] 41)) dd) os) w') := Lib.hid (fun dd os => (len_any (HTAB.out _ (HBG.out dd os))).mono (by rintro x w' ⟨rfl, rfl⟩; exact ⟨rfl, Below.refl _ _⟩))
  clear k0 k1 k2 rg hbw x4
  rcases hthere with ⟨g1, g2⟩ | g1
  · have b1 : decide ((0 : Int) ≤ n) = true := by simpa using g1
    have b2 : decide (n < (T.length : Int)) = false := by simpa using g2
    go_wp2
    refine wp_region_quiet_below (by kernel_rfl) (by kernel_rfl) ?_
    repeat (any_goals (first | go_big_quiet_step (first
      | (go_at_call 30; exact Calls.regrown_of (C1.out _ _))
      | (go_at_call 24; exact Calls.regrown_of (C2.out _ _))
      | (go_at_call 31; exact Calls.regrown_of (C3.out _ _))
      | (go_at_call 23; exact Calls.regrown_of (C4.out _ _))
      | (go_at_call 15; exact Calls.regrown_of (C5.out _ _))) | quiet_step (first
      | (go_at_call 30; exact Calls.regrown_of (C1.out _ _))
      | (go_at_call 24; exact Calls.regrown_of (C2.out _ _))
      | (go_at_call 31; exact Calls.regrown_of (C3.out _ _))
      | (go_at_call 23; exact Calls.regrown_of (C4.out _ _))
      | (go_at_call 15; exact Calls.regrown_of (C5.out _ _)))))
    refine wpQuiet_nil ?_
    intro _ hw'
    obtain ⟨⟨dq, osq⟩, hw''⟩ := hw'
    subst hw''
    go_wp2
    go_ret
    exact ⟨rfl, HBW.out.trans ((below_regrown _ dq osq).mono HBW.out.size)⟩
  · have b1 : decide ((0 : Int) ≤ n) = false := by simpa using g1
    go_wp2
    refine wp_region_quiet_below (by kernel_rfl) (by kernel_rfl) ?_
    repeat (any_goals (first | go_big_quiet_step (first
      | (go_at_call 30; exact Calls.regrown_of (C1.out _ _))
      | (go_at_call 24; exact Calls.regrown_of (C2.out _ _))
      | (go_at_call 31; exact Calls.regrown_of (C3.out _ _))
      | (go_at_call 23; exact Calls.regrown_of (C4.out _ _))
      | (go_at_call 15; exact Calls.regrown_of (C5.out _ _))) | quiet_step (first
      | (go_at_call 30; exact Calls.regrown_of (C1.out _ _))
      | (go_at_call 24; exact Calls.regrown_of (C2.out _ _))
      | (go_at_call 31; exact Calls.regrown_of (C3.out _ _))
      | (go_at_call 23; exact Calls.regrown_of (C4.out _ _))
      | (go_at_call 15; exact Calls.regrown_of (C5.out _ _)))))
    refine wpQuiet_nil ?_
    intro _ hw'
    obtain ⟨⟨dq, osq⟩, hw''⟩ := hw'
    subst hw''
    go_wp2
    go_ret
    exact ⟨rfl, HBW.out.trans ((below_regrown _ dq osq).mono HBW.out.size)⟩
end Go.Proofs.YtemnlkgjgalipaaDoor
