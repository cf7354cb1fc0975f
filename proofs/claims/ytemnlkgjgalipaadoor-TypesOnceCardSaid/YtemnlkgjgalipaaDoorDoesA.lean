/-
  The law's step, of a type that is made.
-/
import Derived.Test.YtemnlkgjgalipaaDoorDoesP
namespace Go.Proofs.YtemnlkgjgalipaaDoor
open Go.RowKit Go.Maps Tp
set_option linter.unusedVariables false

set_option maxHeartbeats 2000000 in
set_option maxRecDepth 100000 in
theorem does_pointer {w : World} {B t : Nat} {v : Value} {T : Tab} {Y : List ((List UInt8 × List Fl) × Value)} {la da : Option Addr} {lc dc : Nat} (h : Both w B t v T Y la lc da dc) (el n : Int) (nm : List UInt8) (fv : Value) :
    Calls Tryd.prog 13 #[.pointer (some ⟨t, 0, none⟩), .agg #[.slice la T.length lc, .slice da Y.length dc], .agg #[.int .i64 0, .int .i64 el, .int .i64 n, .string (bs nm), fv]] w (DoesPost B t v T Y w) := by
  have H := Lib.hid h
  have hT := h.rel.good.few
  have hT0 := h.pos
  have tz := h.tab.lt.2
  clear h
  go_enter Tryd.func13, Tryd.ntmps13
  go_wp2_with fail
  refine (pointer_any (H.out.tab.below (three _ _ _ _)) hT el).mono ?_
  rintro x w2 ⟨v', rfl, h2, t2⟩
  have HT2 := Lib.hid h2
  have HU2 := Lib.hid (Turn.trans (Turn.of_below (three w _ _ _)) t2)
  have HO : Hid (∀ g, v'.ownBlock = some g → v.ownBlock = some g ∨ w.heap.size + 3 ≤ g) := Lib.hid (fun g hg => (t2.own g hg).imp id (fun e => by simpa using e))
  have H3 := Lib.hid ((Three.new w (.slice la T.length lc) (.slice da Y.length dc) #[.int .i64 0, .int .i64 el, .int .i64 n, .string (bs nm), fv]).turn t2 tz (fun g hg => (H.out.tab.own.1 g hg).2))
  clear h2 t2
  obtain ⟨c0, c1, c2, f2, z0, z1, z2⟩ := H3.out.cells
  go_wp2_with fail
  refine (r_pointer (H.out.old HU2.out) hT hT0 el).mono ?_
  rintro x w3 ⟨la', lc', rfl, hr3, hb3⟩
  have HR3 := Lib.hid hr3
  have HB3 := Lib.hid hb3
  have H4 := Lib.hid (H3.out.below hb3)
  clear hr3 hb3 c0 c1 c2 f2 z0 z1 z2
  obtain ⟨c0, c1, c2, f2, z0, z1, z2⟩ := H4.out.cells
  obtain ⟨r, hr⟩ : ∃ r, pointer T el = r := ⟨_, rfl⟩
  have HRR := Lib.hid hr
  rw [hr]
  go_wp2
  refine bodyPost_ret (v := .tuple #[.agg #[.slice la' r.2.2.length lc', .slice da Y.length dc], .bool true]) (by simp [results, Tryd.results13, go_sem, c2, z2]) rfl ?_
  subst hr
  exact does_end H.out HT2.out HU2.out H3.out HO.out HR3.out HB3.out (Below.refl _ _) (trel_pointer H.out.rel) H.out.nil (by omega) (grows_pointer T el) _ _ |>.more ((Below.refl _ _).alloc (Nat.le_refl _) _)
set_option maxHeartbeats 2000000 in
set_option maxRecDepth 100000 in
theorem does_array {w : World} {B t : Nat} {v : Value} {T : Tab} {Y : List ((List UInt8 × List Fl) × Value)} {la da : Option Addr} {lc dc : Nat} (h : Both w B t v T Y la lc da dc) (el n : Int) (nm : List UInt8) (fv : Value) (hY : Y.length ≤ 900) :
    Calls Tryd.prog 13 #[.pointer (some ⟨t, 0, none⟩), .agg #[.slice la T.length lc, .slice da Y.length dc], .agg #[.int .i64 1, .int .i64 el, .int .i64 n, .string (bs nm), fv]] w (DoesPost B t v T Y w) := by
  have H := Lib.hid h
  have hT := h.rel.good.few
  have hT0 := h.pos
  have tz := h.tab.lt.2
  clear h
  go_enter Tryd.func13, Tryd.ntmps13
  go_wp2_with fail
  refine (array_any (H.out.tab.below (three _ _ _ _)) H.out.rel.good el n).mono ?_
  rintro x w2 ⟨v', rfl, h2, t2⟩
  have HT2 := Lib.hid h2
  have HU2 := Lib.hid (Turn.trans (Turn.of_below (three w _ _ _)) t2)
  have HO : Hid (∀ g, v'.ownBlock = some g → v.ownBlock = some g ∨ w.heap.size + 3 ≤ g) := Lib.hid (fun g hg => (t2.own g hg).imp id (fun e => by simpa using e))
  have H3 := Lib.hid ((Three.new w (.slice la T.length lc) (.slice da Y.length dc) #[.int .i64 1, .int .i64 el, .int .i64 n, .string (bs nm), fv]).turn t2 tz (fun g hg => (H.out.tab.own.1 g hg).2))
  clear h2 t2
  obtain ⟨c0, c1, c2, f2, z0, z1, z2⟩ := H3.out.cells
  go_wp2_with fail
  refine (r_array (H.out.old HU2.out) H.out.rel.good hT0 (by omega) el n (fun e he => by have := H.out.rel.rs el; unfold Tp.sizeOf at this; rw [he] at this; exact this)).mono ?_
  rintro x w3 ⟨la', lc', rfl, hr3, hb3⟩
  have HR3 := Lib.hid hr3
  have HB3 := Lib.hid hb3
  have H4 := Lib.hid (H3.out.below hb3)
  clear hr3 hb3 c0 c1 c2 f2 z0 z1 z2
  obtain ⟨c0, c1, c2, f2, z0, z1, z2⟩ := H4.out.cells
  obtain ⟨r, hr⟩ : ∃ r, array T el n = r := ⟨_, rfl⟩
  have HRR := Lib.hid hr
  rw [hr]
  go_wp2
  refine bodyPost_ret (v := .tuple #[.agg #[.slice la' r.2.2.length lc', .slice da Y.length dc], .bool true]) (by simp [results, Tryd.results13, go_sem, c2, z2]) rfl ?_
  subst hr
  exact does_end H.out HT2.out HU2.out H3.out HO.out HR3.out HB3.out (Below.refl _ _) (trel_array H.out.rel) H.out.nil (by omega) (grows_array T el n) _ _ |>.more ((Below.refl _ _).alloc (Nat.le_refl _) _)
set_option maxHeartbeats 2000000 in
set_option maxRecDepth 100000 in
theorem does_struct {w : World} {B t : Nat} {v : Value} {T : Tab} {Y : List ((List UInt8 × List Fl) × Value)} {la da : Option Addr} {lc dc : Nat} (h : Both w B t v T Y la lc da dc) (el n : Int) (nm : List UInt8) (fv : Value) (hn : nm.length ≤ 100) :
    Calls Tryd.prog 13 #[.pointer (some ⟨t, 0, none⟩), .agg #[.slice la T.length lc, .slice da Y.length dc], .agg #[.int .i64 2, .int .i64 el, .int .i64 n, .string (bs nm), fv]] w (DoesPost B t v T Y w) := by
  have H := Lib.hid h
  have hT := h.rel.good.few
  have hT0 := h.pos
  have tz := h.tab.lt.2
  clear h
  go_enter Tryd.func13, Tryd.ntmps13
  go_wp2_with fail
  refine (struct_any (H.out.tab.below (three _ _ _ _)) hT nm).mono ?_
  rintro x w2 ⟨v', rfl, h2, t2⟩
  have HT2 := Lib.hid h2
  have HU2 := Lib.hid (Turn.trans (Turn.of_below (three w _ _ _)) t2)
  have HO : Hid (∀ g, v'.ownBlock = some g → v.ownBlock = some g ∨ w.heap.size + 3 ≤ g) := Lib.hid (fun g hg => (t2.own g hg).imp id (fun e => by simpa using e))
  have H3 := Lib.hid ((Three.new w (.slice la T.length lc) (.slice da Y.length dc) #[.int .i64 2, .int .i64 el, .int .i64 n, .string (bs nm), fv]).turn t2 tz (fun g hg => (H.out.tab.own.1 g hg).2))
  clear h2 t2
  obtain ⟨c0, c1, c2, f2, z0, z1, z2⟩ := H3.out.cells
  go_wp2_with fail
  refine (r_struct (H.out.old HU2.out) hT hT0 nm (by omega)).mono ?_
  rintro x w3 ⟨la', lc', rfl, hr3, hb3⟩
  have HR3 := Lib.hid hr3
  have HB3 := Lib.hid hb3
  have H4 := Lib.hid (H3.out.below hb3)
  clear hr3 hb3 c0 c1 c2 f2 z0 z1 z2
  obtain ⟨c0, c1, c2, f2, z0, z1, z2⟩ := H4.out.cells
  obtain ⟨r, hr⟩ : ∃ r, strct T nm = r := ⟨_, rfl⟩
  have HRR := Lib.hid hr
  rw [hr]
  go_wp2
  refine bodyPost_ret (v := .tuple #[.agg #[.slice la' r.2.2.length lc', .slice da Y.length dc], .bool true]) (by simp [results, Tryd.results13, go_sem, c2, z2]) rfl ?_
  subst hr
  exact does_end H.out HT2.out HU2.out H3.out HO.out HR3.out HB3.out (Below.refl _ _) (trel_strct H.out.rel hn) H.out.nil (by omega) (grows_strct T nm) _ _ |>.more ((Below.refl _ _).alloc (Nat.le_refl _) _)
set_option maxHeartbeats 2000000 in
set_option maxRecDepth 100000 in
theorem does_none {w : World} {B t : Nat} {v : Value} {T : Tab} {Y : List ((List UInt8 × List Fl) × Value)} {la da : Option Addr} {lc dc : Nat} (h : Both w B t v T Y la lc da dc) (vb el n : Int) (nm : List UInt8) (fv : Value) (h0 : vb ≠ 0) (h1 : vb ≠ 1) (h2 : vb ≠ 2) (h3 : vb ≠ 3) :
    Calls Tryd.prog 13 #[.pointer (some ⟨t, 0, none⟩), .agg #[.slice la T.length lc, .slice da Y.length dc], .agg #[.int .i64 vb, .int .i64 el, .int .i64 n, .string (bs nm), fv]] w (DoesPost B t v T Y w) := by
  have H := Lib.hid h
  have tz := h.tab.lt.2
  have b0 : (vb == 0) = false := by simpa using h0
  have b1 : (vb == 1) = false := by simpa using h1
  have b2 : (vb == 2) = false := by simpa using h2
  have b3 : (vb == 3) = false := by simpa using h3
  have HB : Hid (Below w.heap.size w _) := Lib.hid (three w (.cells #[.slice la T.length lc, .slice da Y.length dc] 30) (.cells #[.int .i64 vb, .int .i64 el, .int .i64 n, .string (bs nm), fv] 34) (.cells #[.slice none 0 0, .slice none 0 0] 30))
  have H3 := Lib.hid (Three.new w (.slice la T.length lc) (.slice da Y.length dc) #[.int .i64 vb, .int .i64 el, .int .i64 n, .string (bs nm), fv])
  clear h h0 h1 h2 h3
  go_enter Tryd.func13, Tryd.ntmps13
  go_wp2
  refine bodyPost_ret (v := .tuple #[.agg #[.slice la T.length lc, .slice da Y.length dc], .bool true]) (by simp [results, Tryd.results13, go_sem]) rfl ?_
  have hb2 := Turn.of_below (t := t) (v := v) HB.out
  have := does_end H.out (H.out.tab.below HB.out) hb2 H3.out (fun g hg => .inl hg) ((H.out.old hb2).far (fun g _ hg => .inl hg)) (Below.refl _ _) (Below.refl _ _) H.out.rel H.out.nil (by omega) (Grows.refl T) (.slice la T.length lc) (.slice da Y.length dc)
  simpa [go_sem] using this
end Go.Proofs.YtemnlkgjgalipaaDoor
