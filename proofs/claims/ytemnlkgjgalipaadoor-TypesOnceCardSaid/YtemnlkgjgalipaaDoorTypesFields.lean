/-
  The walk of TypesFields.
-/
import Derived.Test.YtemnlkgjgalipaaDoorFieldsQ
import Derived.Laws.BytesArg
import Derived.Deep.LoopGhost
namespace Go.Proofs.YtemnlkgjgalipaaDoor.typesFields
open Go.RowKit Go.Maps Tp
set_option linter.unusedVariables false

/-- The argument: a slice of bytes. -/
structure BArg (w : World) (a : Option Addr) (zs : List Int) : Prop where
  cells : 0 < zs.length → ∃ b off, a = some ⟨b, off, none⟩ ∧ b < w.heap.size ∧ ∀ i, i < zs.length → w.cell? ⟨b, off + i, none⟩ = some (.int .u8 (zs.getD i 0))
  wf : ∀ n ∈ zs, 0 ≤ n ∧ n ≤ 255
/-- The table and the list of fields, so far. -/
structure FRel (w : World) (zs : List Int) (k : Nat) (la : Option Addr) (lc : Nat) (v : Value) (wr : World) : Prop where
  tab : TabIn wr w.heap.size w.heap.size v (fSt zs k).1
  row : wr.ownsRow w.heap.size 50 2 (.slice la k lc) k (flCells (fSt zs k).2.1)
  ne1 : (Value.slice la k lc).ownBlock ≠ some w.heap.size
  ne2 : ∀ g, (Value.slice la k lc).ownBlock = some g → v.ownBlock ≠ some g
  below : Below w.heap.size w wr
theorem infoFl : (Tryd.prog.info? 50).map (fun i => (i.zero, i.size, i.bytes)) = some (some (.agg #[.string ⟨#[]⟩, .int .i64 0]), 2, 24) := by kernel_rfl
theorem conv_nm (k : Nat) (hk : k < 10) (W : World) (b : Nat) (h : W.cell? ⟨b, 0, none⟩ = some (.int .u8 (97 + k))) : (convert 44 9 (.slice (some ⟨b, 0, none⟩) 1 1)).run Tryd.prog W = .ok (.string (bs (nm k))) W := by
  have := run_convert_bytes_arg W 44 5 Tryd.underlying44 Tryd.underlying5 b 0 1 1 [97 + (k : Int)] rfl (fun i hi => by
    obtain rfl : i = 0 := by omega
    exact h) 9 Tryd.underlying9
  rw [this]
  congr 2
theorem TabIn.grown {w w2 w1 : World} {t B : Nat} {v : Value} {T : Tab} {row : Option Nat} (h : TabIn w t B v T) (hb : Below w.heap.size w w2) (hg : w2.grownBy w1 row)
    (ht : row ≠ some t) (hv : ∀ g, row = some g → v.ownBlock ≠ some g) (hc : ∀ g, row = some g → ∃ cs e fr, w2.heap[g]? = some (.cells cs e fr)) : TabIn w1 t B v T := by
  obtain ⟨X, hX, h⟩ := h
  exact ⟨X, hX, h.grown hb hg ht hv hc⟩
theorem news2 (w : World) (o : Obj) (cs : Array Value) (t : TypeId) : ∀ j u, cs.toList[j]? = some u → ((w.alloc o).alloc (.cells cs t)).cell? ((⟨w.heap.size + 1, 0, none⟩ : Addr).add j) = some u := by
  have hh : ((w.alloc o).alloc (.cells cs t)).heap[w.heap.size + 1]? = some (.cells cs t (0, 0)) := by
    have := heap_alloc_new (w.alloc o) (.cells cs t)
    simpa using this
  exact World.news_of_block (w := (w.alloc o).alloc (.cells cs t)) (cs := cs) (t := t) (fr := (0, 0)) hh
theorem ne_turn {w w' : World} {B size n t : Nat} {e : TypeId} {lv v v' : Value} {xs : List Value} (h : w.ownsRow B e size lv n xs) (ht : Turn t v v' w w') (h2 : ∀ g, lv.ownBlock = some g → v.ownBlock ≠ some g) : ∀ g, lv.ownBlock = some g → v'.ownBlock ≠ some g := fun g hg e => by
  rcases ht.own g e with h1 | h1
  · exact h2 g hg h1
  · have := (h.lt g hg).2; omega
/-- One field more. -/
theorem FRel.next {w wr w2 w3 : World} {zs : List Int} {k : Nat} {la : Option Addr} {lc : Nat} {v v2 : Value} {o1 o2 : Obj} {gg cap2 : Nat} (h : FRel w zs k la lc v wr)
    (h2 : TabIn w2 w.heap.size w.heap.size v2 (fSt zs (k + 1)).1) (t2 : Turn w.heap.size v v2 wr w2)
    (hown : w3.ownsRow w.heap.size 50 2 (.slice (some ⟨gg, 0, none⟩) (k + 1) cap2) (k + 1) (flCells (fSt zs (k + 1)).2.1))
    (hgrow : ((w2.alloc o1).alloc o2).grownBy w3 (Value.slice la k lc).ownBlock) (hat : (Value.slice la k lc).ownBlock = some gg ∨ gg = w2.heap.size + 2) :
    FRel w zs (k + 1) (some ⟨gg, 0, none⟩) cap2 v2 w3 := by
  have hrow := own_turn h.row t2 h.ne1 h.ne2
  have hn2 : ∀ g, (Value.slice la k lc).ownBlock = some g → v2.ownBlock ≠ some g := fun g hg e => by
    rcases t2.own g e with h1 | h1
    · exact h.ne2 g hg h1
    · have := (h.row.lt g hg).2; omega
  have hb2 : Below w2.heap.size w2 ((w2.alloc o1).alloc o2) := ((Below.refl _ _).alloc (Nat.le_refl _) _).alloc (by simp) _
  refine ⟨TabIn.grown h2 hb2 hgrow h.ne1 hn2 (own_cells ((hrow.alloc _).alloc _)), hown, ?_, ?_, ?_⟩
  · intro e
    injection e with e
    have e : gg = w.heap.size := e
    rcases hat with h1 | h1
    · exact h.ne1 (by rw [h1, e])
    · have := h2.lt.2; omega
  · intro g hg e
    injection hg with hg
    have hg : gg = g := hg
    rcases hat with h1 | h1
    · exact hn2 g (by rw [h1, hg]) e
    · have := (h2.own.1 g e).2; omega
  · exact (h.below.trans (h.tab.turn t2)).trans (((Below.refl _ _).trans (hb2.mono (by have := h.below.size; have := t2.size; omega))).grown hgrow (by have := h.below.size; have := t2.size; simp; omega) (fun g hg => (h.row.lt g hg).1))
set_option maxHeartbeats 4000000 in
set_option maxRecDepth 100000 in
theorem walk (a : Option Addr) (cap : Nat) (zs : List Int) (w : World) (henv : Env w) (ha : BArg w a zs) (hl : zs.length ≤ maxLen) :
    Calls Tryd.prog 5 #[.slice a zs.length cap] w fun e w' => e = .returned (.bool true) ∧ Below w.heap.size w w' := by
  unfold maxLen at hl
  have HE := Lib.hid henv; clear henv
  have HA := Lib.hid ha; clear ha
  by_cases hbig : 10 < zs.length
  · go_enter Tryd.func5, Tryd.ntmps5
    go_wp2_with ((with_reducible refine (awake_any _ HE.out).mono ?_); rintro e w1 ⟨rfl, hb⟩)
    go_ret
    exact ⟨rfl, hb⟩
  · have hz : ∀ n ∈ zs, 0 ≤ n := fun n hn => (HA.out.wf n hn).1
    have HZ := Lib.hid hz; clear hz
    obtain ⟨i0, hi0, hz0, hz1, hz2⟩ := info_parts infoFl
    have hn10 : zs.length ≤ 10 := by omega
    clear hbig hl
    go_enter Tryd.func5, Tryd.ntmps5
    go_wp2_with fail
    refine (new_any w).mono ?_
    rintro x w1 ⟨v1, rfl, h1, b1⟩
    have H1 : Hid (FRel w zs 0 none 0 v1 w1) := Lib.hid ⟨h1, World.ownsRow_nil _ _ _ _, by simp [Value.ownBlock], by simp [Value.ownBlock], b1⟩
    clear h1 b1
    go_wp2
    go_loopw [31, 4, 5] (fun s31 s4 s5 wr => ∃ (k : Nat) (la : Option Addr) (lc : Nat) (v : Value), k ≤ zs.length ∧ s31 = .int .i64 k ∧ s4 = .slice la k lc ∧ s5 = .int .i64 (fSt zs k).2.2 ∧ Hid (FRel w zs k la lc v wr)) (fun i _ _ wr => zs.length - (intOf i).toNat)
    case atStart => exact ⟨0, none, 0, v1, Nat.zero_le _, rfl, rfl, rfl, H1⟩
    case round =>
      obtain ⟨k, la, lc, v, hk, rfl, rfl, rfl, HR⟩ := hrel
      have hinv := Lib.hid (finv HZ.out k (by omega))
      by_cases hlt : k < zs.length
      · obtain ⟨b, off, rfl, hb, hcell⟩ := HA.out.cells (by omega)
        have hc0 : wr.cell? ⟨b, off + k, none⟩ = some (.int .u8 (zs.getD k 0)) := by rw [HR.out.below.cell (p := ⟨b, off + k, none⟩) hb]; exact hcell k hlt
        have hcnt := cnt_le zs k HZ.out
        have hzk : 0 ≤ zs.getD k 0 ∧ zs.getD k 0 ≤ 255 := by
          rw [List.getD_eq_getElem?_getD, List.getElem?_eq_getElem hlt]
          exact HA.out.wf _ (List.getElem_mem hlt)
        have hcd : 1 + zs.getD k 0 % 20 = cnt zs k := rfl
        obtain ⟨z, hz⟩ : ∃ z, zs.getD k 0 = z := ⟨_, rfl⟩
        rw [hz] at hc0 hzk hcd
        have HCD := Lib.hid hcd
        obtain ⟨z0, z1⟩ := hzk
        have hsum := hinv.out.sum
        have hstep := finv_step HZ.out (by omega) hinv.out
        have HST := Lib.hid hstep
        obtain ⟨sm, hsm⟩ : ∃ sm, (fSt zs k).2.2 = sm := ⟨_, rfl⟩
        have HSM := Lib.hid hsm
        rw [hsm] at hsum
        obtain ⟨sm0, sm1⟩ := hsum
        obtain ⟨ct0, ct1⟩ := hcnt
        clear hcell hz hcd hstep hsm
        rw [HSM.out]
        have HK3 : Hid (1 + (k : Int) % 3 = 1 + ((k % 3 : Nat) : Int)) := Lib.hid (by omega)
        go_wp2_with fail
        rw [HK3.out, HCD.out]
        refine (array_any HR.out.tab hinv.out.good _ _).mono ?_
        rintro x w2 ⟨v2, rfl, h2, t2⟩
        rw [HST.out.1]
        obtain ⟨xi, hxi⟩ : ∃ xi, (array (fSt zs k).1 (1 + ((k % 3 : Nat) : Int)) (cnt zs k)).1 = xi := ⟨_, rfl⟩
        have HXI := Lib.hid hxi
        have HT2 : Hid (TabIn w2 w.heap.size w.heap.size v2 (fSt zs (k + 1)).1) := Lib.hid h2
        have HU2 := Lib.hid t2
        rw [hxi]
        have hrow2 := own_turn HR.out.row t2 HR.out.ne1 HR.out.ne2
        have hwz : w.heap.size < w2.heap.size := HT2.out.lt.2
        have hconv := conv_nm k (by omega) (w2.alloc (.cells #[.int .u8 (97 + k)] 5)) w2.heap.size (by rw [cell_of_row _ _ 0 _ _ _ (heap_alloc_new w2 _)]; rfl)
        have hs1 : (flCells (fSt zs (k + 1)).2.1) = flCells (fSt zs k).2.1 ++ [.string (bs (nm k)), .int .i64 xi] := by rw [← hxi]; exact flCells_snoc _ _
        have HS1 := Lib.hid hs1
        clear hxi h2 t2 hs1 hc0
        have m0 : 0 ≤ z % 20 := by omega
        have m1 : z % 20 < 20 := by omega
        go_wp2_with (at_builtin; go_loud (refine wpList_append_lies _ rfl _ _ 45 rfl w.heap.size 50 i0 _ 2 24 Tryd.underlying45 hi0 hz0 hz1 hz2 rfl (by omega) (.slice la k lc) k (flCells (fSt zs k).2.1) (by rfl) (by exact (hrow2.alloc _).alloc _) ⟨w2.heap.size + 1, 0, none⟩ 1 1 [.string (bs (nm k)), .int .i64 xi] (by rfl) (by rfl) (by exact news2 w2 _ #[.string (bs (nm k)), .int .i64 xi] _) (by simp [Value.oneCell']) (by omega) (by unfold maxLen; omega) (by omega) (by simp; omega) (w2.heap.size + 2) (by simp) ?_); intro gg cap2 w3 hown3 hgrow hat hlt3; rw [← HS1.out] at hown3; have HN := Lib.hid (HR.out.next HT2.out HU2.out hown3 hgrow hat); clear hown3 hgrow hat)
        go_roundw
        case rel => exact ⟨k + 1, _, _, v2, by omega, by go_num, rfl, by rw [← HSM.out]; rfl, HN⟩
        case measure => simp [intOf]; omega
      · obtain rfl : k = zs.length := by omega
        have hlen := fSt_len zs zs.length
        have hFI : FldsIn wr (.slice la zs.length lc) (fSt zs zs.length).2.1 := ⟨by rw [hlen]; exact own_base HR.out.row⟩
        have HFI := Lib.hid hFI
        have HLEN := Lib.hid hlen
        have hnames : ∀ f ∈ (fSt zs zs.length).2.1, f.1.length ≤ 100 := fun f hf => by
          obtain ⟨i, hi⟩ := List.mem_iff_getElem?.1 hf
          rw [(names_at HZ.out hn10 hi).1]
          show 1 ≤ 100
          omega
        have HNM := Lib.hid hnames
        have hap : ∀ g, (Value.slice la zs.length lc).ownBlock = some g → g ≠ w.heap.size ∧ v.ownBlock ≠ some g := fun g hg => ⟨fun e => HR.out.ne1 (by rw [hg, e]), HR.out.ne2 g hg⟩
        have HAP := Lib.hid hap
        clear hlen hFI hnames hap
        by_cases h0 : 0 < zs.length
        · have HDF := Lib.hid (fdefine HZ.out hn10 h0)
          obtain ⟨sm, hsm⟩ : ∃ sm, (fSt zs zs.length).2.2 = sm := ⟨_, rfl⟩
          have HSM := Lib.hid hsm
          have hpos := sum_pos HZ.out zs.length h0
          rw [hsm] at hpos
          rw [hsm]
          clear hsm
          have HG := Lib.hid (good_e HZ.out hn10 h0)
          have hd0 : decide ((0 : Int) < (zs.length : Int)) = true := by simp; omega
          have hd1 : decide (0 < zs.length) = true := by simpa using h0
          have hd2 : decide (0 < sm) = true := by simpa using hpos
          go_wp2_with fail
          refine (define_any HR.out.tab hinv.out.good [115] (by decide) _ _ HFI.out (by rw [HLEN.out]; omega) HNM.out HAP.out).mono ?_
          rw [HDF.out]
          rintro x w3 ⟨v3, rfl, h3, t3⟩
          have H3 : Hid (TabIn w3 w.heap.size w.heap.size v3 (eTab zs zs.length)) := Lib.hid h3
          have R3 := Lib.hid (own_turn HR.out.row t3 HR.out.ne1 HR.out.ne2)
          have N3 := Lib.hid (ne_turn HR.out.row t3 HR.out.ne2)
          have B3 := Lib.hid (HR.out.below.trans (HR.out.tab.turn t3))
          clear h3 t3
          go_wp2_with fail
          refine (struct_any H3.out HG.out.few [115]).mono ?_
          rw [struct_e HZ.out hn10]
          rintro x w4 ⟨v4, rfl, h4, t4⟩
          have H4 : Hid (TabIn w4 w.heap.size w.heap.size v4 (eTab zs zs.length)) := Lib.hid h4
          have R4 := Lib.hid (own_turn R3.out t4 HR.out.ne1 N3.out)
          have B4 := Lib.hid (B3.out.trans (H3.out.turn t4))
          clear h4 t4
          go_wp2_with fail
          refine (size_any H4.out _).mono ?_
          rw [size_e, HSM.out]
          rintro x w5 ⟨rfl, b5⟩
          have H5 := Lib.hid (H4.out.below b5)
          have F5 : Hid (FldsIn w5 (.slice la zs.length lc) (fSt zs zs.length).2.1) := Lib.hid (FldsIn.below ⟨by rw [HLEN.out]; exact own_base R4.out⟩ b5)
          have B5 := Lib.hid (B4.out.trans (b5.mono B4.out.size))
          clear b5
          go_wp2
          go_loopw [102, 16] (fun s102 s16 wq => ∃ (q : Nat) (z : Int), q ≤ zs.length ∧ s102 = .int .i64 q ∧ s16 = .int .i64 z ∧ 0 ≤ z ∧ z ≤ 20 * q ∧ Hid ((fSt zs q).2.2 = z) ∧ Hid (Below w5.heap.size w5 wq)) (fun i _ wq => zs.length - (intOf i).toNat)
          case atStart => exact ⟨0, 0, Nat.zero_le _, rfl, rfl, by omega, by omega, Lib.hid rfl, Lib.hid (Below.refl _ _)⟩
          case round =>
            obtain ⟨q, z, hq, rfl, rfl, hz0, hz1, HZQ, HBQ⟩ := hrel
            by_cases hlt : q < zs.length
            · obtain ⟨f, hf⟩ : ∃ f, (fSt zs zs.length).2.1[q]? = some f := ⟨_, List.getElem?_eq_getElem (by rw [HLEN.out]; exact hlt)⟩
              have hF2 := F5.out.below HBQ.out
              obtain ⟨g, cap2, hg, _, hg3⟩ := hF2.row.form (by rw [HLEN.out]; omega)
              rw [HLEN.out] at hg
              simp only [Value.slice.injEq] at hg
              obtain ⟨rfl, _, rfl⟩ := hg
              obtain ⟨c0, c1⟩ := hF2.at hf
              have HPK := Lib.hid (pick_e HZ.out hn10 hf)
              have HSF := Lib.hid (size_f HZ.out hn10 hf)
              have HK : Hid ((bs f.1).size ≤ maxLen) := Lib.hid (by have := HNM.out f (List.mem_of_getElem? hf); show f.1.length ≤ maxLen; unfold maxLen; omega)
              obtain ⟨m0, m1⟩ := cnt_le zs q HZ.out
              have hnx : (fSt zs (q + 1)).2.2 = z + cnt zs q := by rw [← HZQ.out]; rfl
              have HNX := Lib.hid hnx
              obtain ⟨c, hc⟩ : ∃ c, cnt zs q = c := ⟨_, rfl⟩
              have HC := Lib.hid hc
              rw [hc] at m0 m1
              have hd3 : decide (0 < c) = true := by simp; omega
              clear hF2 hf hnx hc
              have hwz : w5.heap.size ≤ wr.heap.size := HBQ.out.size
              have BQ : Hid (Below w5.heap.size w5 (wr.alloc (.cells #[.string (bs f.1), .int .i64 f.2] 50))) := Lib.hid (HBQ.out.alloc hwz _)
              go_wp2_with fail
              obtain ⟨m, hE, hF⟩ := entAt_any (H5.out.below BQ.out) (((fSt zs zs.length).1.length : Nat) : Int)
              rw [ent_e] at hE hF
              refine (field_of hE hF (bs f.1) HK.out).mono ?_
              rw [show pickO ((some (⟨⟨6, 0, 0, [115]⟩, (fSt zs zs.length).2.2, some (plc zs zs.length)⟩ : En)).getD zeroE).flds (bs f.1).data.toList = ((fSt zs q).2.2, f.2, true) from HPK.out, HZQ.out]
              rintro x w6 ⟨rfl, b6⟩
              have BQ6 := Lib.hid (BQ.out.trans (b6.mono BQ.out.size))
              have BW6 := Lib.hid b6
              obtain ⟨d, _, dz⟩ := kept_new b6
              have d1 := d 1
              clear d b6 hE hF c0 c1
              go_wp2_with fail
              refine (size_any (H5.out.below BQ6.out) f.2).mono ?_
              rw [HSF.out, HC.out]
              rintro x w7 ⟨rfl, b7⟩
              have BQ7 := Lib.hid (BQ6.out.trans (b7.mono BQ6.out.size))
              obtain ⟨d, _, dz2⟩ := kept_new (BW6.out.trans (b7.mono BW6.out.size))
              have d2 := d 1
              clear d b7 d1
              go_wp2
              go_roundw
              case rel => exact ⟨q + 1, z + c, by omega, by go_num, by go_num, by omega, by omega, Lib.hid (by rw [HNX.out, HC.out]), BQ7⟩
              case measure => simp [intOf]; omega
            · obtain rfl : q = zs.length := by omega
              have hzz : z = sm := by rw [← HZQ.out, HSM.out]
              subst hzz
              have BB := Lib.hid (B5.out.trans (HBQ.out.mono B5.out.size))
              go_wp2_with fail
              refine (awake_any _ (HE.out.below BB.out HE.out.sz)).mono ?_
              rintro x w8 ⟨rfl, b8⟩
              go_wp2
              go_ret
              exact ⟨rfl, BB.out.trans (b8.mono BB.out.size)⟩
        · have hn0 : zs = [] := List.eq_nil_of_length_eq_zero (by omega)
          subst hn0
          have HDF := Lib.hid (fdefine0 HZ.out)
          have HG : Hid (Tp.Good (sTab [] 0)) := Lib.hid (by
            have := @good_define (fSt [] 0).1 [115] (fSt [] 0).2.1 good_new (by decide)
            rwa [HDF.out] at this)
          have hs0 : (fSt [] ([] : List Int).length).2.2 = 0 := rfl
          rw [hs0]
          simp only [List.length_nil]
          go_wp2_with fail
          refine (define_any HR.out.tab hinv.out.good [115] (by decide) _ _ HFI.out (by rw [HLEN.out]; decide) HNM.out HAP.out).mono ?_
          rw [show define (fSt [] ([] : List Int).length).1 [115] (fSt [] ([] : List Int).length).2.1 = (8, sTab [] 0) from HDF.out]
          rintro x w3 ⟨v3, rfl, h3, t3⟩
          have H3 : Hid (TabIn w3 w.heap.size w.heap.size v3 (sTab [] 0)) := Lib.hid h3
          have B3 := Lib.hid (HR.out.below.trans (HR.out.tab.turn t3))
          clear h3 t3
          go_wp2_with fail
          refine (struct_any H3.out HG.out.few [115]).mono ?_
          rw [struct_0 HZ.out]
          rintro x w4 ⟨v4, rfl, h4, t4⟩
          have H4 : Hid (TabIn w4 w.heap.size w.heap.size v4 (sTab [] 0)) := Lib.hid h4
          have B4 := Lib.hid (B3.out.trans (H3.out.turn t4))
          clear h4 t4
          go_wp2_with fail
          refine (size_any H4.out _).mono ?_
          rw [size_0]
          rintro x w5 ⟨rfl, b5⟩
          have B5 := Lib.hid (B4.out.trans (b5.mono B4.out.size))
          clear b5
          go_wp2
          go_loopw [102, 16] (fun s102 s16 wq => s102 = .int .i64 0 ∧ s16 = .int .i64 0 ∧ w5 = wq) (fun i _ wq => 0)
          case atStart => exact ⟨rfl, rfl, rfl⟩
          case round =>
            obtain ⟨rfl, rfl, rfl⟩ := hrel
            go_wp2_with fail
            refine (awake_any _ (HE.out.below B5.out HE.out.sz)).mono ?_
            rintro x w8 ⟨rfl, b8⟩
            go_wp2
            go_ret
            exact ⟨rfl, B5.out.trans (b8.mono B5.out.size)⟩
end Go.Proofs.YtemnlkgjgalipaaDoor.typesFields
