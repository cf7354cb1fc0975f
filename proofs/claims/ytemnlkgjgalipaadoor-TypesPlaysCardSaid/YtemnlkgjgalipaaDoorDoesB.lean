/-
  The law's step, of a struct that comes to be defined.
-/
import Derived.Test.YtemnlkgjgalipaaDoorDoesA
namespace Go.Proofs.YtemnlkgjgalipaaDoor
open Go.RowKit Go.Maps Tp
set_option linter.unusedVariables false

set_option maxHeartbeats 4000000 in
set_option maxRecDepth 100000 in
theorem does_define {w : World} {B t : Nat} {v : Value} {T : Tab} {Y : List ((List UInt8 × List Fl) × Value)} {la da : Option Addr} {lc dc : Nat} (h : Both w B t v T Y la lc da dc) (el n : Int) (nm : List UInt8) (l : List Fl) (lva : Option Addr) (lvc : Nat) (hY : Y.length ≤ 900) (hn : nm.length ≤ 100) (hl : l.length ≤ 10) (hnm : ∀ f ∈ l, f.1.length ≤ 100)
    (ha : FArg w lva l) (hap : 0 < l.length → ∀ b off, lva = some ⟨b, off, none⟩ → b ≠ t ∧ v.ownBlock ≠ some b) :
    Calls Tryd.prog 13 #[.pointer (some ⟨t, 0, none⟩), .agg #[.slice la T.length lc, .slice da Y.length dc], .agg #[.int .i64 3, .int .i64 el, .int .i64 n, .string (bs nm), .slice lva l.length lvc]] w (DoesPost B t v T Y w) := by
  have H := Lib.hid h
  have hT := h.rel.good.few
  have hT0 := h.pos
  have tz := h.tab.lt.2
  have HA := Lib.hid ha
  have HAP := Lib.hid hap
  have HNM := Lib.hid hnm
  clear h ha hap hnm
  obtain ⟨i0, hi0, hz0, hz1, hz2⟩ := info_parts typesFields.infoFl
  have HW0 : Hid (Below w.heap.size w _) := Lib.hid (three w (.cells #[.slice la T.length lc, .slice da Y.length dc] 30) (.cells #[.int .i64 3, .int .i64 el, .int .i64 n, .string (bs nm), .slice lva l.length lvc] 34) (.cells #[.slice none 0 0, .slice none 0 0] 30))
  have H0 := Lib.hid (Three.new w (.slice la T.length lc) (.slice da Y.length dc) #[.int .i64 3, .int .i64 el, .int .i64 n, .string (bs nm), .slice lva l.length lvc])
  go_enter Tryd.func13, Tryd.ntmps13
  go_wp2
  go_loopw [119, 23] (fun s119 s23 wr => ∃ (k : Nat) (xa : Option Addr) (xc : Nat), k ≤ l.length ∧ s119 = .int .i64 k ∧ s23 = .slice xa k xc ∧ Hid (Three w wr (.slice la T.length lc) (.slice da Y.length dc) #[.int .i64 3, .int .i64 el, .int .i64 n, .string (bs nm), .slice lva l.length lvc]) ∧ Hid (Below w.heap.size w wr) ∧ Hid (wr.ownsRow (w.heap.size + 3) 50 2 (.slice xa k xc) k (flCells (l.take k)))) (fun i _ wr => l.length - (intOf i).toNat)
  case atStart => exact ⟨0, none, 0, Nat.zero_le _, rfl, rfl, H0, HW0, Lib.hid (World.ownsRow_nil _ _ _ _)⟩
  case round =>
    obtain ⟨k, xa, xc, hk, rfl, rfl, H3, HB, HR⟩ := hrel
    obtain ⟨c0, c1, c2, f2, z0, z1, z2⟩ := H3.out.cells
    by_cases hlt : k < l.length
    · obtain ⟨fn, ft, hf⟩ : ∃ fn ft, l[k]? = some (fn, ft) := ⟨_, _, List.getElem?_eq_getElem hlt⟩
      obtain ⟨gg, off, rfl, hgl, hc0⟩ := HA.out.below HB.out (by omega)
      have q0 : wr.cell? ⟨gg, off + k * 2, none⟩ = some (.string (bs fn)) := hc0 (k * 2 + 0) (.string (bs fn)) (by rw [flCells_at l k 0 _ hf (by omega)]; rfl)
      have q1 : wr.cell? ⟨gg, off + k * 2 + 1, none⟩ = some (.int .i64 ft) := hc0 (k * 2 + 1) (.int .i64 ft) (by rw [flCells_at l k 1 _ hf (by omega)]; rfl)
      have HSN : Hid (flCells (l.take (k + 1)) = flCells (l.take k) ++ [.string (bs fn), .int .i64 ft]) := Lib.hid (by rw [List.take_add_one, hf]; exact flCells_snoc _ _)
      have hz3 := H3.out.sz
      clear hf hc0
      go_wp2_with (at_builtin; go_loud (refine wpList_append_lies _ rfl _ _ 45 rfl (w.heap.size + 3) 50 i0 _ 2 24 Tryd.underlying45 hi0 hz0 hz1 hz2 rfl (by omega) (.slice xa k xc) k (flCells (l.take k)) (by rfl) (by exact (HR.out.alloc _).alloc _) ⟨wr.heap.size + 1, 0, none⟩ 1 1 [.string (bs fn), .int .i64 ft] (by rfl) (by rfl) (by exact typesFields.news2 wr _ #[.string (bs fn), .int .i64 ft] _) (by simp [Value.oneCell']) (by omega) (by unfold maxLen; omega) (by omega) (by simp; omega) (wr.heap.size + 2) (by simp) ?_); intro g2 cap2 w3 hown3 hgrow hat hlt3; rw [← HSN.out] at hown3; have HR3 := Lib.hid hown3; have HG3 := Lib.hid hgrow; clear hown3 hgrow hat)
      have hbel : Below (w.heap.size + 3) wr w3 := ((((Below.refl _ _).alloc hz3 _).alloc (by simp; omega) _)).grown HG3.out (by simp; omega) (fun q e => (HR.out.lt q e).1)
      go_roundw
      case rel => exact ⟨k + 1, _, _, by omega, by go_num, rfl, Lib.hid ⟨by have := hbel.size; omega, (hbel.block _ (by omega)).trans H3.out.h0, (hbel.block _ (by omega)).trans H3.out.h1, (hbel.block _ (by omega)).trans H3.out.h2⟩, Lib.hid (HB.out.trans (hbel.mono (by omega))), HR3⟩
      case measure => simp [intOf]; omega
    · have hkl : k = l.length := by omega
      subst hkl
      have HR2 : Hid (wr.ownsRow (w.heap.size + 3) 50 2 (.slice xa l.length xc) l.length (flCells l)) := Lib.hid (by have := HR.out; rwa [List.take_length] at this)
      have hvo := H.out.tab.own.1
      have HNE : Hid (∀ g, (Value.slice xa l.length xc).ownBlock = some g → g ≠ t ∧ v.ownBlock ≠ some g) := Lib.hid (fun g hg => by
        have := (HR2.out.lt g hg).1
        exact ⟨by omega, fun e => by have := (hvo g e).2; omega⟩)
      clear hvo
      go_wp2_with fail
      refine (define_any (H.out.tab.below HB.out) H.out.rel.good nm hn l _ ⟨own_base HR2.out⟩ (by omega) HNM.out HNE.out).mono ?_
      rintro x w2 ⟨v', rfl, h2, t2⟩
      have HT2 := Lib.hid h2
      have HU2 := Lib.hid (Turn.trans (Turn.of_below HB.out) t2)
      have HO : Hid (∀ g, v'.ownBlock = some g → v.ownBlock = some g ∨ w.heap.size + 3 ≤ g) := Lib.hid (fun g hg => (t2.own g hg).imp id (fun e => by have := H3.out.sz; omega))
      have H4 := Lib.hid (H3.out.turn t2 tz (fun g hg => (H.out.tab.own.1 g hg).2))
      have HR4 := Lib.hid (own_turn HR2.out t2 (fun e => (HNE.out t e).1 rfl) (fun g hg => (HNE.out g hg).2))
      have HNV := Lib.hid (typesFields.ne_turn HR2.out t2 (fun g hg => (HNE.out g hg).2))
      have HGZ : Hid (∀ g, (Value.slice xa l.length xc).ownBlock = some g → w.heap.size + 3 ≤ g ∧ g < w2.heap.size) := Lib.hid (fun g hg => HR4.out.lt g hg)
      clear h2 t2 c0 c1 c2 f2 z0 z1 z2
      obtain ⟨c0, c1, c2, f2, z0, z1, z2⟩ := H4.out.cells
      go_wp2_with fail
      refine (r_define (H.out.old HU2.out) H.out.rel.good hT0 hY H.out.nil nm hn l lva lvc (HA.out.turn HU2.out HAP.out) (by omega) (fun hs => trel_isDef H.out.rel hs hn) (fun j f hj => (trel_strct H.out.rel hn).rs f.2)).mono ?_
      rintro x w3 ⟨la', lc', Y', da', dc', rfl, hr3, hy3, hn3, hb3⟩
      have HRD := Lib.hid (show TRel (define T nm l).2 (Y'.map (·.1)) from by rw [hy3]; exact trel_define H.out.rel hn (by omega))
      have HYL : Hid (Y'.length ≤ Y.length + 1) := Lib.hid (by
        have := congrArg List.length hy3
        rw [List.length_map] at this
        rw [this]
        split <;> simp)
      have HN3 := Lib.hid hn3
      have HR3 := Lib.hid hr3
      have HB3 := Lib.hid hb3
      have H5 := Lib.hid (H4.out.below hb3)
      clear hr3 hy3 hn3 hb3 c0 c1 c2 f2 z0 z1 z2
      obtain ⟨r, hr⟩ : ∃ r, define T nm l = r := ⟨_, rfl⟩
      have HRR := Lib.hid hr
      rw [hr]
      rw [hr] at HR3 HRD HT2
      clear hr
      have HW4 : Hid (Below w3.heap.size w3 (w3.alloc (.cells #[.slice la' r.2.length lc', .slice da' Y'.length dc'] 30))) := Lib.hid ((Below.refl _ _).alloc (Nat.le_refl _) _)
      have HW24 : Hid (Below w2.heap.size w2 (w3.alloc (.cells #[.slice la' r.2.length lc', .slice da' Y'.length dc'] 30))) := Lib.hid (HB3.out.trans (HW4.out.mono HB3.out.size))
      have HCELL : Hid ((w3.alloc (.cells #[.slice la' r.2.length lc', .slice da' Y'.length dc'] 30)).heap[w3.heap.size]? = some (.cells #[.slice la' r.2.length lc', .slice da' Y'.length dc'] 30 (0, 0))) := Lib.hid (heap_alloc_new w3 _)
      have hz23 : w2.heap.size ≤ w3.heap.size := HB3.out.size
      obtain ⟨c0, c1, c2, f2, z0, z1, z2⟩ := H5.out.cells
      go_wp2
      go_loopw [148] (fun s148 wr => ∃ k : Nat, k ≤ l.length ∧ s148 = .int .i64 k ∧ Hid (Three w wr (.slice la T.length lc) (.slice da Y.length dc) #[.int .i64 3, .int .i64 el, .int .i64 n, .string (bs nm), .slice lva l.length lvc]) ∧ Hid (TabIn wr t B v' r.2) ∧ Hid (Turn t v v' w wr) ∧ Hid (RefX wr (FarOr (fun q => q < w.heap.size ∧ Free t v q) w2) r.2 Y' la' lc' da' dc') ∧ Hid (wr.heap[w3.heap.size]? = some (.cells #[.slice la' r.2.length lc', .slice da' Y'.length dc'] 30 (0, 0))) ∧ Hid (∃ xs, wr.ownsRow (w.heap.size + 3) 50 2 (.slice xa l.length xc) l.length xs ∧ ∀ j, k ≤ j → ∀ f, l[j]? = some f → xs[j * 2 + 1]? = some (.int .i64 f.2))) (fun i wr => l.length - (intOf i).toNat)
      case atStart => exact ⟨0, Nat.zero_le _, rfl, Lib.hid (H5.out.below HW4.out), Lib.hid (HT2.out.below HW24.out), Lib.hid (HU2.out.trans (Turn.of_below HW24.out)), Lib.hid (HR3.out.below HW4.out), HCELL, Lib.hid ⟨_, own_below HR4.out HW24.out, fun j _ f hf => by rw [flCells_at l j 1 f hf (by omega)]; rfl⟩⟩
      case round =>
        obtain ⟨k, hk, rfl, H6, HT6, HU6, HR6, HC6, HX6⟩ := hrel
        clear c0 c1 c2 f2 z0 z1 z2
        obtain ⟨c0, c1, c2, f2, z0, z1, z2⟩ := H6.out.cells
        by_cases hlt2 : k < l.length
        · obtain ⟨f, hf⟩ : ∃ f, l[k]? = some f := ⟨_, List.getElem?_eq_getElem hlt2⟩
          obtain ⟨xs, hown, hxs⟩ := HX6.out
          obtain ⟨g, cap2, hg, hgB, hgl⟩ := hown.form (by omega)
          simp only [Value.slice.injEq] at hg
          obtain ⟨rfl, _, rfl⟩ := hg
          have q1 : wr.cell? ⟨g, k * 2 + 1, none⟩ = some (.int .i64 f.2) := by
            have := hown.cells (g := g) rfl (k * 2 + 1) _ (hxs k (Nat.le_refl _) f hf)
            rwa [add_off] at this
          have fz := own_free hown (k * 2 + 1)
          have HOWN := Lib.hid hown
          have HXS := Lib.hid hxs
          obtain ⟨hg3, hg2⟩ := HGZ.out g rfl
          have hgv := HNV.out g rfl
          have hgne : ¬ FarOr (fun q => q < w.heap.size ∧ Free t v q) w2 g := by
            rintro (⟨h1, _⟩ | h1) <;> omega
          have hcg : ∃ cs e fr, wr.heap[g]? = some (.cells cs e fr) := by
            rcases hown.2 with ⟨h1, _⟩ | ⟨g', cap', cur, hv, _, hh, _⟩
            · simp at h1
            · simp at hv; obtain ⟨rfl, _⟩ := hv; exact ⟨_, _, _, hh⟩
          clear hown hxs hf
          go_wp2
          go_roundw
          case rel => exact ⟨k + 1, by omega, by go_num, Lib.hid (H6.out.set _ _ hg3), Lib.hid (HT6.out.set _ _ (by show g ≠ t; omega) hgv hcg), Lib.hid (HU6.out.fresh ((Below.refl _ _).setCell (by show w.heap.size ≤ g; omega) _)), Lib.hid (HR6.out.set _ _ hgne), Lib.hid ((Below.heap_setCell _ _ _ _ (by show w3.heap.size ≠ g; omega)).trans HC6.out), Lib.hid ⟨_, own_set HOWN.out _ _, fun j hj f' hf' => by rw [List.getElem?_set_ne (by omega)]; exact HXS.out j (by omega) f' hf'⟩⟩
          case measure => simp [intOf]; omega
        · have d0 := cell_of_row wr _ 0 _ _ _ HC6.out
          have d1 := cell_of_row wr _ 1 _ _ _ HC6.out
          have e0 : wr.cell? ⟨w3.heap.size, 0, none⟩ = some (.slice la' r.2.length lc') := d0
          have e1 : wr.cell? ⟨w3.heap.size, 1, none⟩ = some (.slice da' Y'.length dc') := d1
          clear d0 d1
          go_wp2
          refine bodyPost_ret (v := .tuple #[.agg #[.slice la' r.2.length lc', .slice da' Y'.length dc'], .bool true]) (by simp [results, Tryd.results13, go_sem, c2]) rfl ?_
          exact does_end2 H.out HT6.out HU6.out H6.out HO.out HR6.out (fun q hq => by
            rcases hq with h1 | h1
            · exact .inl h1
            · refine .inr ⟨fun e => ?_, by have := H4.out.sz; omega⟩
              have := (HT2.out.own.1 q e).2
              omega) HRD.out HN3.out HYL.out (by have := grows_define H.out.rel hn l; rw [HRR.out] at this; exact this) _ _
end Go.Proofs.YtemnlkgjgalipaaDoor
