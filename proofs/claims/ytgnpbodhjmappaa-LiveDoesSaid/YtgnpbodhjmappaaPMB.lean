/-
  Which registers are live, where some instructions read nothing, on lists; what a search back from the readers finds.
-/
import Derived.Test.YtgnpbodhjmappaaPLH
import Derived.Test.YtgnpbodhjmappaaPLG
import Derived.Test.YtgnpbodhjmappaaPMA
set_option linter.unusedVariables false
set_option linter.unusedSimpArgs false
namespace Go.Proofs.Ytgnpbodhjmappaa.Cd
inductive LiveN (c : List Ins) (gone : Int → Prop) (r : Int) : Int → Prop where
  | here {x : Int} {i : Ins} : c[x.toNat]? = some i → ¬ gone x → r ∈ uses i → LiveN c gone r x
  | on {x y : Int} {i : Ins} : c[x.toNat]? = some i → sets i ≠ r → y ∈ next i x → LiveN c gone r y → LiveN c gone r x
def BehN (c : List Ins) (gone : Int → Prop) (r p : Int) : Prop := ∃ y ∈ nexts c p, LiveN c gone r y
def none0 : Int → Prop := fun _ => False
theorem live_none {c : List Ins} {r x : Int} : LiveN c none0 r x ↔ Live c r x := by
  constructor
  · intro h
    induction h with
    | here h1 _ h2 => exact .here h1 h2
    | on h1 h2 h3 _ ih => exact .on h1 h2 h3 ih
  · intro h
    induction h with
    | here h1 h2 => exact .here h1 (fun h => h) h2
    | on h1 h2 h3 _ ih => exact .on h1 h2 h3 ih
theorem LiveN.mono {c : List Ins} {g g' : Int → Prop} {r x : Int} (h : LiveN c g r x) (hg : ∀ x, g' x → g x) : LiveN c g' r x := by
  induction h with
  | here h1 h0 h2 => exact .here h1 (fun h => h0 (hg _ h)) h2
  | on h1 h2 h3 _ ih => exact .on h1 h2 h3 ih
theorem BehN.mono {c : List Ins} {g g' : Int → Prop} {r x : Int} (h : BehN c g r x) (hg : ∀ x, g' x → g x) : BehN c g' r x := by
  obtain ⟨y, h1, h2⟩ := h
  exact ⟨y, h1, h2.mono hg⟩
theorem beh_none {c : List Ins} (hc : Closed c) {r p : Int} (hp : Inside c p) : BehN c none0 r p ↔ behindR c p r = true := by
  unfold BehN behindR
  rw [List.any_eq_true]
  constructor
  · rintro ⟨y, h1, h2⟩
    exact ⟨y, h1, (ahead_iff hc (hc p hp y h1)).2 (live_none.1 h2)⟩
  · rintro ⟨y, h1, h2⟩
    exact ⟨y, h1, live_none.2 ((ahead_iff hc (hc p hp y h1)).1 h2)⟩
structure UsIn (c : List Ins) (B : List (List Int)) (st : List Int) : Prop where
  len : B.length = c.length
  back : ∀ x p : Int, Inside c x → (p ∈ egs B x ↔ Inside c p ∧ x ∈ nexts c p)
  sets : st = c.map Cd.sets
def backL (st : List Int) (r : Int) (l : List Int) : List Int := l.filter (fun p => decide (st.getD p.toNat (-1) ≠ r))
def backG (B : List (List Int)) (st : List Int) (r : Int) : List (List Int) := B.map (backL st r)
theorem egs_backG (B : List (List Int)) (st : List Int) (r x : Int) : egs (backG B st r) x = backL st r (egs B x) := by
  unfold egs backG
  rw [List.getElem?_map]
  cases B[x.toNat]? <;> rfl
theorem UsIn.at {c : List Ins} {B : List (List Int)} {st : List Int} (h : UsIn c B st) {p : Int} {i : Ins} (hi : c[p.toNat]? = some i) : st.getD p.toNat (-1) = Cd.sets i := by
  rw [h.sets, List.getD_eq_getElem?_getD, List.getElem?_map, hi]; rfl
theorem UsIn.gin {c : List Ins} {B : List (List Int)} {st : List Int} (h : UsIn c B st) (r : Int) : GIn (backG B st r) := by
  intro l hl y hy
  unfold backG at hl
  obtain ⟨l0, h1, rfl⟩ := List.mem_map.1 hl
  obtain ⟨k, hk⟩ := List.mem_iff_getElem?.1 h1
  have hlt := (List.getElem?_eq_some_iff.1 hk).1
  have hm := (List.mem_filter.1 hy).1
  have := ((h.back (k : Int) y ⟨Int.natCast_nonneg _, by rw [h.len] at hlt; omega⟩).1 (by rw [egs_at (by simpa using hk)]; exact hm)).1
  show 0 ≤ y ∧ y < ((backG B st r).length : Int)
  unfold backG; rw [List.length_map, h.len]; exact this
def Rdrs (c : List Ins) (gone : Int → Prop) (r : Int) (R : List Int) : Prop := ∀ x, x ∈ R ↔ Inside c x ∧ ¬ gone x ∧ ∃ i, c[x.toNat]? = some i ∧ r ∈ uses i
theorem UsIn.live {c : List Ins} {B : List (List Int)} {st : List Int} (h : UsIn c B st) (hc : Closed c) {gone : Int → Prop} {r : Int} {R : List Int} (hR : Rdrs c gone r R) (x : Int) : Path (backG B st r) (-1) R x ↔ Inside c x ∧ LiveN c gone r x := by
  constructor
  · intro hp
    induction hp with
    | start h1 _ =>
      obtain ⟨h2, h3, i, h4, h5⟩ := (hR _).1 h1
      exact ⟨h2, .here h4 h3 h5⟩
    | @more u y _ h2 _ ih =>
      obtain ⟨i1, i2⟩ := ih
      rw [egs_backG] at h2
      obtain ⟨h3, h4⟩ := List.mem_filter.1 h2
      obtain ⟨h5, h6⟩ := (h.back u y i1).1 h3
      obtain ⟨i, hi⟩ : ∃ i, c[y.toNat]? = some i := ⟨_, List.getElem?_eq_getElem (by unfold Inside at h5; omega)⟩
      rw [h.at hi, decide_eq_true_iff] at h4
      rw [nexts_at hi] at h6
      exact ⟨h5, .on hi h4 h6 i2⟩
  · rintro ⟨hi, hl⟩
    induction hl with
    | @here x i h1 h2 h3 => exact .start ((hR x).2 ⟨hi, h2, i, h1, h3⟩) (by unfold Inside at hi; omega)
    | @on x y i h1 h2 h3 _ ih =>
      have hn : y ∈ nexts c x := by rw [nexts_at h1]; exact h3
      have hy := hc x hi y hn
      refine .more (ih hy) ?_ (by unfold Inside at hi; omega)
      rw [egs_backG]
      exact List.mem_filter.2 ⟨(h.back y x hy).2 ⟨hi, hn⟩, by rw [h.at h1]; exact decide_eq_true h2⟩
theorem UsIn.beh {c : List Ins} {B : List (List Int)} {st : List Int} (h : UsIn c B st) (hc : Closed c) {gone : Int → Prop} {r : Int} {R : List Int} (hR : Rdrs c gone r R) {p : Int} (hp : Inside c p) : (∃ x, Path (backG B st r) (-1) R x ∧ p ∈ egs B x) ↔ BehN c gone r p := by
  constructor
  · rintro ⟨x, h1, h2⟩
    obtain ⟨h3, h4⟩ := (h.live hc hR x).1 h1
    exact ⟨x, ((h.back x p h3).1 h2).2, h4⟩
  · rintro ⟨y, h1, h2⟩
    have hy := hc p hp y h1
    exact ⟨y, (h.live hc hR y).2 ⟨hy, h2⟩, (h.back y p hy).2 ⟨hp, h1⟩⟩
end Go.Proofs.Ytgnpbodhjmappaa.Cd
namespace Go.Proofs.Ytgnpbodhjmappaa
set_option maxRecDepth 100000
open Go.RowKit Cd
def Cd.behS (n : Nat) (S : List Int) : List Bool := (List.range n).map (fun p : Nat => S.contains (p : Int))
theorem behS_len (n : Nat) (S : List Int) : (behS n S).length = n := by simp [behS]
theorem behS_nil (n : Nat) : behS n [] = List.replicate n false := by
  apply List.ext_getElem?
  intro i
  unfold behS
  by_cases hi : i < n
  · rw [List.getElem?_map, List.getElem?_range hi, List.getElem?_replicate, if_pos hi]; simp
  · rw [List.getElem?_eq_none (by simp; omega), List.getElem?_eq_none (by simp; omega)]
theorem behS_at {n : Nat} {S : List Int} {p : Nat} (h : p < n) : (behS n S)[p]? = some (S.contains (p : Int)) := by
  unfold behS; rw [List.getElem?_map, List.getElem?_range h]; rfl
theorem behS_snoc {n : Nat} {S : List Int} {y : Nat} (h : y < n) : behS n (S ++ [(y : Int)]) = (behS n S).set y true := by
  apply List.ext_getElem?
  intro i
  by_cases hi : i < n
  · rw [behS_at hi]
    by_cases hy : y = i
    · subst hy; rw [List.getElem?_set_self (by rw [behS_len]; exact h)]; simp
    · rw [List.getElem?_set_ne hy, behS_at hi]
      congr 1
      rw [Bool.eq_iff_iff]
      simp only [List.contains_iff_mem, List.mem_append, List.mem_singleton]
      constructor
      · rintro (h1 | h1)
        · exact h1
        · omega
      · exact .inl
  · rw [List.getElem?_eq_none (by rw [behS_len]; omega), List.getElem?_eq_none (by rw [List.length_set, behS_len]; omega)]
theorem backL_snoc (st : List Int) (r : Int) (l : List Int) (y : Int) : backL st r (l ++ [y]) = backL st r l ++ (if st.getD y.toNat (-1) ≠ r then [y] else []) := by
  unfold backL
  rw [List.filter_append]
  congr 1
  by_cases h : st.getD y.toNat (-1) = r
  · rw [if_neg (fun q => q h), List.filter_cons_of_neg (by simpa using h)]; rfl
  · rw [if_pos h, List.filter_cons_of_pos (by simpa using h)]; rfl
theorem RowAt.keepB {w w' : World} {B : Nat} {a : Option Addr} {cs : List Value} (h : RowAt w B a cs) (hb : ∀ g, g < B → w'.heap[g]? = w.heap[g]?) (hs : w.heap.size ≤ w'.heap.size) : RowAt w' B a cs := fun h0 => by
  obtain ⟨b, off, ha, hlt, hB, hc⟩ := h h0
  exact ⟨b, off, ha, hlt, Nat.le_trans hB hs, fun j u hu => (World.cell?_of_block (w := w) (hb b hlt)).trans (hc j u hu)⟩
theorem RowsAt.keepB {w w' : World} {B : Nat} {ga : Option Addr} {G : List (List Int)} (h : RowsAt w B ga G) (hb : ∀ g, g < B → w'.heap[g]? = w.heap[g]?) (hs : w.heap.size ≤ w'.heap.size) : RowsAt w' B ga G := by
  obtain ⟨vs, h1, h2, h3⟩ := h
  refine ⟨vs, h1, RowAt.keepB h2 hb hs, fun i l hi => ?_⟩
  obtain ⟨a, c, h4, h5, h6⟩ := h3 i l hi
  exact ⟨a, c, h4, RowAt.keepB h5 hb hs, h6⟩
theorem SSt.drewN {N : Nat} {s : FS} {w : World} (h : SSt N s w) (n : Nat) : SSt N s (w.drewN n) := h.keep (fun _ _ _ => rfl)
structure LSt (M ub hb rb bb : Nat) (F : List (List Int)) (st : List Int) (r : Int) (ga sa : Option Addr) (gc sc : Nat) (vr vp vg : Value) (S : List Int) (w : World) : Prop where
  ubox : w.heap[ub]? = some (.cells #[.slice ga F.length gc, .slice sa st.length sc, vr, vp, vg] 57)
  hbox : w.heap[hb]? = some (.cells #[.slice (some ⟨bb, 0, none⟩) F.length F.length] 55)
  rbox : w.heap[rb]? = some (.cells #[.int .i64 r] 3)
  brow : VRow w bb 4 (bools (behS F.length S))
  rows : RowsAt w M ga F
  sets : RowAt w M sa (ints st)
theorem LSt.keep {M ub hb rb bb N : Nat} {F : List (List Int)} {st : List Int} {r : Int} {ga sa : Option Addr} {gc sc : Nat} {vr vp vg : Value} {S : List Int} {w w' : World} (h : LSt M ub hb rb bb F st r ga sa gc sc vr vp vg S w) (hM : M ≤ N) (h1 : ub < N) (h2 : hb < N) (h3 : rb < N) (h4 : bb < N) (hk : ∀ g, g < N → w'.heap[g]? = w.heap[g]?) (hs : w.heap.size ≤ w'.heap.size) : LSt M ub hb rb bb F st r ga sa gc sc vr vp vg S w' :=
  ⟨(hk _ h1).trans h.ubox, (hk _ h2).trans h.hbox, (hk _ h3).trans h.rbox, h.brow.keep (hk _ h4), RowsAt.keepB h.rows (fun g hg => hk g (by omega)) hs, RowAt.keepB h.sets (fun g hg => hk g (by omega)) hs⟩
set_option maxHeartbeats 8000000 in
theorem step_c (M ub hb rb bb N : Nat) (F : List (List Int)) (st : List Int) (r : Int) (ga sa : Option Addr) (gc sc : Nat) (vr vp vg : Value) (S : List Int) (s : FS) (x : Nat) (w : World)
    (hst : st.length = F.length) (hGI : GIn F) (hr : ∀ l ∈ F, l.length ≤ 100000) (hM : M ≤ ub ∧ M ≤ hb ∧ M ≤ rb ∧ M ≤ bb) (hN : ub < N ∧ hb < N ∧ rb < N ∧ bb < N) (hd : ub ≠ bb ∧ hb ≠ bb ∧ rb ≠ bb) (hx : x < F.length) (hs1 : s.1.length = F.length) (hs2 : lacks s.1 + s.2.length ≤ 100000) (hF : F.length ≤ 10000) (hNw : N + 2 < w.heap.size)
    (hS : SSt N s w) (hL : LSt M ub hb rb bb F st r ga sa gc sc vr vp vg S w) :
    Calls Try.prog 89 #[.int .i64 (x : Int), .func (.func 87) #[] #[.pointer (some ⟨N + 1, 0, none⟩), .pointer (some ⟨N + 1 + 1, 0, none⟩)], .pointer (some ⟨ub, 0, none⟩), .pointer (some ⟨hb, 0, none⟩), .pointer (some ⟨rb, 0, none⟩)] w fun e w' => e = .returned (.tuple #[]) ∧ SSt N (seeL (-1) s (backL st r (egs F (x : Int)))) w' ∧ LSt M ub hb rb bb F st r ga sa gc sc vr vp vg (S ++ egs F (x : Int)) w' ∧ Below M w w' := by
  obtain ⟨l, hl⟩ : ∃ l, F[x]? = some l := ⟨_, List.getElem?_eq_getElem hx⟩
  have hel : egs F (x : Int) = l := egs_at (by simpa using hl)
  rw [hel]
  have hll := hr l (List.mem_of_getElem? hl)
  have hlin := hGI l (List.mem_of_getElem? hl)
  obtain ⟨fb, foff, la, lc, rfl, hfb, hfw, hfc, hrow, _⟩ := hL.rows.at hl
  have HL := Lib.hid hL; have HS := Lib.hid hS; have HLIN := Lib.hid hlin; have HROW := Lib.hid hrow; have HFC := Lib.hid hfc
  obtain ⟨m1, m2, m3, m4⟩ := hM
  obtain ⟨n1, n2, n3, n4⟩ := hN
  obtain ⟨d1, d2, d3⟩ := hd
  have x0 : (0 : Int) ≤ (x : Int) := Int.natCast_nonneg _
  have x1 : (x : Int) < (F.length : Int) := by omega
  have cu : w.cell? ⟨ub, 0, none⟩ = some (.slice (some ⟨fb, foff, none⟩) F.length gc) := by rw [cell_of_row w ub 0 _ _ _ hL.ubox]; rfl
  clear hL hS hlin hrow hl hGI hr hel
  go_enter Try.func89, Try.ntmps89
  go_wp2
  go_loopw [15] (fun s15 wr => ∃ k : Nat, k ≤ l.length ∧ s15 = .int .i64 (k : Int) ∧ Hid (SSt N (seeL (-1) s (backL st r (l.take k))) wr) ∧ Hid (LSt M ub hb rb bb F st r (some ⟨fb, foff, none⟩) sa gc sc vr vp vg (S ++ l.take k) wr) ∧ Hid (Below M w wr)) (fun s15 wr => l.length - (intOf s15).toNat)
  case atStart => exact ⟨0, by omega, rfl, by rw [List.take_zero]; exact HS, by rw [List.take_zero, List.append_nil]; exact HL, Lib.hid (Below.refl _ _)⟩
  case round =>
    obtain ⟨k, hk, rfl, HSK, HLK, HB⟩ := hrel
    have k0 : (0 : Int) ≤ (k : Int) := Int.natCast_nonneg _
    by_cases hlt : k < l.length
    · have k1 : (k : Int) < (l.length : Int) := by omega
      obtain ⟨y, hy⟩ : ∃ y, l[k]? = some y := ⟨_, List.getElem?_eq_getElem hlt⟩
      obtain ⟨b, off, rfl, hb1, hbw, hc⟩ := IntsAt.cellsB (HROW.out.below HB.out) hy
      have hyin := HLIN.out y (List.mem_of_getElem? hy)
      obtain ⟨j, rfl⟩ : ∃ j : Nat, y = (j : Int) := ⟨y.toNat, by omega⟩
      have htk := take_more hy
      have j0 : (0 : Int) ≤ (j : Int) := Int.natCast_nonneg _
      have j1 : (j : Int) < (F.length : Int) := hyin.2
      have HLT := Lib.hid hlt
      obtain ⟨v, hv⟩ : ∃ v, st[j]? = some v := ⟨_, List.getElem?_eq_getElem (by omega)⟩
      have hgd : st.getD ((j : Int)).toNat (-1) = v := by rw [Int.toNat_natCast, List.getD_eq_getElem?_getD, hv]; rfl
      obtain ⟨sb, soff, rfl, hsb, _, hsc⟩ := IntsAt.cellsB HLK.out.sets hv
      have hubl := lt_heap HLK.out.ubox
      have hrbl := lt_heap HLK.out.rbox
      have ch : wr.cell? ⟨hb, 0, none⟩ = some (.slice (some ⟨bb, 0, none⟩) F.length F.length) := by rw [cell_of_row wr hb 0 _ _ _ HLK.out.hbox]; rfl
      have cb : wr.cell? ⟨bb, j, none⟩ = some (.bool ((S ++ l.take k).contains (j : Int))) := HLK.out.brow.cell (by unfold bools; rw [List.getElem?_map, behS_at (by omega)]; rfl)
      have fb2 : wr.frozen? ⟨bb, j, none⟩ = false := HLK.out.brow.frozen j
      obtain ⟨V, hV⟩ : ∃ V, wr.setCell ⟨bb, j, none⟩ (.bool true) = V := ⟨_, rfl⟩
      have hVg : ∀ g, g ≠ bb → V.heap[g]? = wr.heap[g]? := fun g hg => by rw [← hV]; exact Below.heap_setCell _ _ _ _ (by simpa using hg)
      have hVs : V.heap.size = wr.heap.size := by rw [← hV]; simp
      have cV1 : V.cell? ⟨ub, 1, none⟩ = some (.slice (some ⟨sb, soff, none⟩) st.length sc) := by rw [cell_of_row V ub 1 _ _ _ ((hVg ub d1).trans HLK.out.ubox)]; rfl
      have cV2 : V.cell? ⟨sb, soff + j, none⟩ = some (.int .i64 v) := (World.cell?_of_block (w := wr) (hVg sb (by omega))).trans hsc
      have cV3 : V.cell? ⟨rb, 0, none⟩ = some (.int .i64 r) := by rw [cell_of_row V rb 0 _ _ _ ((hVg rb d3).trans HLK.out.rbox)]; rfl
      have j2 : (j : Int) < (st.length : Int) := by omega
      have HBV : Hid (Below M w V) := Lib.hid (by rw [← hV]; exact HB.out.setCell m4 _)
      have HSV : Hid (SSt N (seeL (-1) s (backL st r (l.take k))) V) := Lib.hid (HSK.out.keep (fun g hg _ => hVg g (by omega)))
      have HLV : Hid (LSt M ub hb rb bb F st r (some ⟨fb, foff, none⟩) (some ⟨sb, soff, none⟩) gc sc vr vp vg (S ++ l.take (k + 1)) V) := by
        refine Lib.hid ⟨(hVg ub d1).trans HLK.out.ubox, (hVg hb d2).trans HLK.out.hbox, (hVg rb d3).trans HLK.out.rbox, ?_, RowsAt.keepB HLK.out.rows (fun g hg => hVg g (by omega)) (by omega), RowAt.keepB HLK.out.sets (fun g hg => hVg g (by omega)) (by omega)⟩
        have h9 := HLK.out.brow.set j (.bool true)
        rw [hV] at h9
        rw [htk, ← List.append_assoc, behS_snoc (by omega)]
        unfold bools at h9 ⊢
        rw [List.map_set]
        exact h9
      have hslen : (seeL (-1) s (backL st r (l.take k))).1.length = F.length := by rw [seeL_len]; exact hs1
      have hssum := seeL_sum (-1) (backL st r (l.take k)) s
      have hbk := backL_snoc st r (l.take k) (j : Int)
      rw [← htk, hgd] at hbk
      have hVn : wr.heap.size ≤ V.heap.size := by omega
      have HVE := Lib.hid hV
      clear hy hv hVg hV hsc hgd hlt
      by_cases hvr : v = r
      · have t0 : (v != r) = false := by simpa using hvr
        have HBK : Hid (backL st r (l.take (k + 1)) = backL st r (l.take k)) := Lib.hid (by rw [hbk, if_neg (fun q => q hvr)]; simp)
        clear hbk hvr
        go_wp2
        rw [HVE.out]
        go_quiet (fail)
        go_wp2
        go_roundw
        case rel => exact ⟨k + 1, HLT.out, by go_num, by rw [HBK.out]; exact Lib.hid (HSV.out.keep (fun _ _ _ => rfl)), Lib.hid (HLV.out.keep (N := N) (by omega) n1 n2 n3 n4 (fun _ _ => rfl) (Nat.le_refl _)), Lib.hid (drN HBV.out _)⟩
        case measure => have := HLT.out; simp [intOf]; omega
      · have t0 : (v != r) = true := by simpa using hvr
        have HBK : Hid (seeL (-1) s (backL st r (l.take (k + 1))) = see1 (-1) (seeL (-1) s (backL st r (l.take k))) (j : Int)) := Lib.hid (by rw [hbk, if_pos hvr, seeL_snoc])
        clear hbk hvr
        go_wp2
        rw [HVE.out]
        go_quiet (fail)
        go_wp2_with ((with_reducible refine (add_cc N _ j _ (HSV.out.drewN _) (by omega) (by omega) (by omega)).mono ?_); rintro e w2 ⟨rfl, hs9, hb9⟩; have HS9 := Lib.hid hs9; have HB9 := Lib.hid ((drN HBV.out _).trans (hb9.mono (show M ≤ N by omega))); have HL9 := Lib.hid (HLV.out.keep (N := N) (w' := w2) (by omega) n1 n2 n3 n4 (fun g hg => hb9.block g hg) hb9.size); clear hs9 hb9)
        go_roundw
        case rel => exact ⟨k + 1, HLT.out, by go_num, by rw [HBK.out]; exact HS9, HL9, HB9⟩
        case measure => have := HLT.out; simp [intOf]; omega
    · obtain rfl : k = l.length := by omega
      have HS2 := HSK.out; have HL2 := HLK.out
      rw [List.take_length] at HS2 HL2
      go_wp2
      go_end0
      exact ⟨rfl, HS2, HL2, HB.out⟩
end Go.Proofs.Ytgnpbodhjmappaa
