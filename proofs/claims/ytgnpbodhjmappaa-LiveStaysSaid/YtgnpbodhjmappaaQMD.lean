/-
  Layer 10: what usesOf tells, in memory; contract of readers.
  Layer 9: slices.Index, slices.Contains of numbers.
  Layer 9: edges turned about (turned).
-/
import Derived.Test.YtgnpbodhjmappaaQMB
import Derived.Test.YtgnpbodhjmappaaQMC
import Derived.Test.YtgnpbodhjmappaaQLH
import Derived.Maps.AppendAt
namespace Go.Proofs.Ytgnpbodhjmappaa
set_option maxRecDepth 100000
open Go.RowKit Cd Go.Maps
set_option linter.unusedVariables false
set_option linter.unusedSimpArgs false

abbrev usO (ga : Option Addr) (gl gc : Nat) (sa : Option Addr) (sl sc rm pm : Nat) (oa : Option Addr) (ol oc : Nat) : Obj := .cells #[.slice ga gl gc, .slice sa sl sc, .map (some rm), .map (some pm), .slice oa ol oc] 57
abbrev usV (ga : Option Addr) (gl gc : Nat) (sa : Option Addr) (sl sc rm pm : Nat) (oa : Option Addr) (ol oc : Nat) : Value := .agg #[.slice ga gl gc, .slice sa sl sc, .map (some rm), .map (some pm), .slice oa ol oc]
/-- Where a function reads and sets its registers, in memory below B. -/
structure UsAt (w : World) (B n : Nat) (F : List (List Int)) (st : List Int) (gone : List Bool) (Rd Pu : Int → List Int) (rk pk : List Int) (ga sa oa : Option Addr) (rm pm : Nat) : Prop where
  rows : RowsAt w B ga F
  sets : RowAt w B sa (ints st)
  gone : RowAt w B oa (bools gone)
  read : RdM w B rm Rd rk
  pure : RdM w B pm Pu pk
theorem UsAt.below {w w' : World} {B n : Nat} {F : List (List Int)} {st : List Int} {gone : List Bool} {Rd Pu : Int → List Int} {rk pk : List Int} {ga sa oa : Option Addr} {rm pm : Nat} (h : UsAt w B n F st gone Rd Pu rk pk ga sa oa rm pm) (hb : Below B w w') : UsAt w' B n F st gone Rd Pu rk pk ga sa oa rm pm :=
  ⟨h.rows.below hb, h.sets.below hb, h.gone.below hb, h.read.below hb, h.pure.below hb⟩
theorem UsAt.mono {w : World} {B B' n : Nat} {F : List (List Int)} {st : List Int} {gone : List Bool} {Rd Pu : Int → List Int} {rk pk : List Int} {ga sa oa : Option Addr} {rm pm : Nat} (h : UsAt w B n F st gone Rd Pu rk pk ga sa oa rm pm) (hB : B ≤ B') (hw : B' ≤ w.heap.size) : UsAt w B' n F st gone Rd Pu rk pk ga sa oa rm pm :=
  ⟨h.rows.mono hB hw, h.sets.mono hB hw, h.gone.mono hB hw, h.read.mono hB hw, h.pure.mono hB hw⟩
/-- Plain facts of these. -/
structure UsOk (n : Nat) (F : List (List Int)) (st : List Int) (gone : List Bool) (Rd Pu : Int → List Int) : Prop where
  fl : F.length = n
  sl : st.length = n
  gl : gone.length = n
  nl : n ≤ 10000
  gin : GIn F
  rows : ∀ l ∈ F, l.length ≤ 100000
  rd : ∀ r, (Rd r).length ≤ 100000 ∧ ∀ x ∈ Rd r, 0 ≤ x ∧ x < (n : Int)
  pu : ∀ r, (Pu r).length ≤ 100000 ∧ ∀ x ∈ Pu r, 0 ≤ x ∧ x < (n : Int)
def Cd.rdr (gone : List Bool) (l : List Int) : List Int := l.filter (fun x => !gone.getD x.toNat false)
theorem rdr_more {gone : List Bool} {l : List Int} {k : Nat} {x : Int} (h : l[k]? = some x) : rdr gone (l.take (k + 1)) = rdr gone (l.take k) ++ (if gone.getD x.toNat false = true then [] else [x]) := by
  unfold rdr
  rw [take_more h, List.filter_append]
  congr 1
  cases hg : gone.getD x.toNat false with
  | true => rw [if_pos rfl, List.filter_cons_of_neg (by rw [hg]; simp)]; rfl
  | false => rw [if_neg (by simp), List.filter_cons_of_pos (by rw [hg]; rfl)]; rfl
theorem rdr_len (gone : List Bool) (l : List Int) : (rdr gone l).length ≤ l.length := List.length_filter_le _ _
theorem bool_cell {w : World} {B : Nat} {a : Option Addr} {l : List Bool} (h : RowAt w B a (bools l)) {k : Nat} (hk : k < l.length) : ∃ b off, a = some ⟨b, off, none⟩ ∧ b < B ∧ w.cell? ⟨b, off + k, none⟩ = some (.bool (l.getD k false)) := by
  obtain ⟨b, off, ha, hb, _, hc⟩ := h (by rw [List.length_map]; omega)
  exact ⟨b, off, ha, hb, hc k _ (by rw [List.getElem?_map, List.getD_eq_getElem?_getD, List.getElem?_eq_getElem hk]; rfl)⟩
set_option maxHeartbeats 4000000 in
theorem readers_c (B n : Nat) (F : List (List Int)) (st : List Int) (gone : List Bool) (Rd Pu : Int → List Int) (rk pk : List Int) (ga sa oa : Option Addr) (gc sc oc rm pm : Nat) (r : Int) (w : World) (hU : UsAt w B n F st gone Rd Pu rk pk ga sa oa rm pm) (hO : UsOk n F st gone Rd Pu) (hB : B ≤ w.heap.size) (hr : (Lit.int .i64 r).wf = true) :
    Calls Try.prog 88 #[usV ga n gc sa n sc rm pm oa n oc, .int .i64 r] w (ListPost (rdr gone (Rd r)) w) := by
  obtain ⟨i0, hi0, hz0, hz1, hz2⟩ := info_parts infoInt
  have HB0 := Lib.hid ((Below.refl w.heap.size w).alloc (Nat.le_refl _) (usO ga n gc sa n sc rm pm oa n oc))
  have HX := Lib.hid (heap_alloc_new w (usO ga n gc sa n sc rm pm oa n oc))
  have HU0 := Lib.hid (hU.below (HB0.out.mono hB))
  have HO := Lib.hid hO
  obtain ⟨c0, c1, c2, c3, c4⟩ := nv5 HX.out
  obtain ⟨hl1, hl2⟩ := hO.rd r
  have hgl := hO.gl
  obtain ⟨la, lc, hrun, hrow⟩ := HU0.out.read.look hr
  obtain ⟨l, hl⟩ : ∃ l, Rd r = l := ⟨_, rfl⟩
  rw [hl] at hl1 hl2 hrun hrow ⊢
  have HROW := Lib.hid hrow; have HL2 := Lib.hid hl2; have HRUN := Lib.hid hrun
  have hn0 := hO.nl
  clear hU hO hrow hl2 hl hrun
  go_enter Try.func88, Try.ntmps88
  go_wp2_with (at_lookup; refine wpList_lookup_run rfl _ _ _ rfl _ _ _ rfl rfl HRUN.out ?_)
  go_loopw [5, 13] (fun s5 s13 wr => ∃ (k : Nat) (o : List Int), k ≤ l.length ∧ s13 = .int .i64 (k : Int) ∧ Hid (rdr gone (l.take k) = o) ∧ o.length ≤ k ∧ Hid (wr.ownsRow (w.heap.size + 1) 3 1 s5 o.length (ints o)) ∧ Hid (Below w.heap.size (w.alloc (usO ga n gc sa n sc rm pm oa n oc)) wr) ∧ Hid (wr.heap[w.heap.size]? = some (usO ga n gc sa n sc rm pm oa n oc))) (fun _ s13 wr => l.length - (intOf s13).toNat)
  case atStart => exact ⟨0, [], by omega, rfl, Lib.hid rfl, by simp, Lib.hid (World.ownsRow_nil _ _ _ _), Lib.hid (Below.refl _ _), HX⟩
  case round =>
    obtain ⟨k, o, hk, rfl, HE, hok, HOW, HB, HW⟩ := hrel
    obtain ⟨a5, c5, rfl⟩ := row_slice HOW.out
    have k0 : (0 : Int) ≤ (k : Int) := Int.natCast_nonneg _
    have hz := lt_heap HW.out
    by_cases hlt : k < l.length
    · have k1 : (k : Int) < (l.length : Int) := by omega
      obtain ⟨x, hx⟩ : ∃ x, l[k]? = some x := ⟨_, List.getElem?_eq_getElem hlt⟩
      obtain ⟨b, off, rfl, hb1, hbw, hc⟩ := IntsAt.cellsB (HROW.out.below (HB.out.mono hB)) hx
      have hxin := HL2.out x (List.mem_of_getElem? hx)
      obtain ⟨j, rfl⟩ : ∃ j : Nat, x = (j : Int) := ⟨x.toNat, by omega⟩
      obtain ⟨ob, ooff, rfl, hob, hoc⟩ := bool_cell (k := j) ((HU0.out.below (HB.out.mono hB)).gone) (by omega)
      obtain ⟨d0, d1, d2, d3, d4⟩ := nv5 HW.out
      have hm := rdr_more (gone := gone) hx
      rw [Int.toNat_natCast] at hm
      have j0 : (0 : Int) ≤ (j : Int) := Int.natCast_nonneg _
      have j1 : (j : Int) < (n : Int) := hxin.2
      have HLT := Lib.hid hlt
      obtain ⟨gv, hgv⟩ : ∃ gv, gone.getD j false = gv := ⟨_, rfl⟩
      rw [hgv] at hoc hm
      clear hx hlt hgv
      cases gv with
      | true =>
        have HM : Hid (rdr gone (l.take (k + 1)) = o) := Lib.hid (by rw [hm, if_pos rfl, HE.out]; simp)
        clear hm
        go_wp2
        go_roundw
        case rel => exact ⟨k + 1, o, HLT.out, by go_num, HM, by omega, HOW, HB, HW⟩
        case measure => have := HLT.out; simp [intOf]; omega
      | false =>
        have HM : Hid (rdr gone (l.take (k + 1)) = o ++ [(j : Int)]) := Lib.hid (by rw [hm, if_neg (by simp), HE.out])
        clear hm
        go_wp2_with (at_builtin; go_loud (refine wpList_append_lies _ rfl (.tmp 23) (.tmp 25) 30 rfl (w.heap.size + 1) 3 i0 (.int .i64 0) 1 8 Try.underlying30 hi0 hz0 hz1 hz2 rfl (by decide) (.slice a5 o.length c5) o.length (ints o) rfl (HOW.out.alloc _) _ 1 1 [.int .i64 (j : Int)] rfl rfl (cell_new1 _ _ _ _ (by simp)) (by simp [Value.oneCell']) (by omega) (by unfold maxLen; omega) (by omega) (by simp <;> omega) (wr.heap.size + 1) (by simp) ?_; intro g9 cap9 w5 hown hgrow hat hlt9; have HO5 := Lib.hid hown; have HB5 := Lib.hid ((HB.out.alloc (by omega) _).grown hgrow (by simp <;> omega) (fun q e => by have := (HOW.out.lt q e).1; omega)); have HW5 := Lib.hid ((hgrow.block w.heap.size (by simp <;> omega) (fun e => by have := (HOW.out.lt _ e.symm).1; omega)).trans ((Below.heap_alloc _ _ _ (by omega)).trans HW.out)); clear hown hgrow hat hlt9))
        go_roundw
        case rel => exact ⟨k + 1, o ++ [(j : Int)], HLT.out, by go_num, HM, by simp; omega, Lib.hid (by simpa using HO5.out), HB5, HW5⟩
        case measure => have := HLT.out; simp [intOf]; omega
    · obtain rfl : k = l.length := by omega
      have HE2 := HE.out
      rw [List.take_length] at HE2
      go_wp2
      go_ret
      exact ⟨_, rfl, by rw [HE2]; exact ownsRow_le HOW.out (by omega), HB0.out.trans HB.out⟩
end Go.Proofs.Ytgnpbodhjmappaa
namespace Go.Proofs.Ytgnpbodhjmappaa
set_option maxRecDepth 100000
open Go.RowKit Cd
set_option linter.unusedVariables false
set_option linter.unusedSimpArgs false

end Go.Proofs.Ytgnpbodhjmappaa
namespace Go.Proofs.Ytgnpbodhjmappaa
set_option maxRecDepth 100000
open Go.RowKit Cd
set_option linter.unusedVariables false
set_option linter.unusedSimpArgs false

/-- Rows that are one's own, each in a block of its own. -/
structure OwnR (w : World) (b lo : Nat) (vs : List Value) (G : List (List Int)) : Prop where
  row : VRow w b 30 vs
  blo : b < lo
  len : vs.length = G.length
  rows : ∀ (i : Nat) (l : List Int), G[i]? = some l → ∃ a c, vs[i]? = some (.slice a l.length c) ∧ w.ownsRow lo 3 1 (.slice a l.length c) l.length (ints l)
  apart : ∀ (i j : Nat) (u v : Value) (g : Nat), i ≠ j → vs[i]? = some u → vs[j]? = some v → u.ownBlock = some g → v.ownBlock ≠ some g
theorem OwnR.at {w : World} {b lo : Nat} {vs : List Value} {G : List (List Int)} (h : OwnR w b lo vs G) {i : Nat} {u : Value} (hu : vs[i]? = some u) {g : Nat} (hg : u.ownBlock = some g) : lo ≤ g ∧ g < w.heap.size := by
  have hlt := (List.getElem?_eq_some_iff.1 hu).1
  obtain ⟨l, hl⟩ : ∃ l, G[i]? = some l := ⟨_, List.getElem?_eq_getElem (by rw [← h.len]; exact hlt)⟩
  obtain ⟨a, c, h1, h2⟩ := h.rows i l hl
  rw [hu] at h1
  injection h1 with h1
  subst h1
  exact h2.lt g hg
theorem OwnR.made (w : World) (n : Nat) : OwnR (w.alloc (rObj (List.replicate n (.slice none 0 0)))) w.heap.size (w.heap.size + 1) (List.replicate n (.slice none 0 0)) (List.replicate n []) := by
  refine ⟨VRow.newR w _, by omega, by simp, fun i l hi => ?_, fun i j u v g _ hu _ hg => ?_⟩
  · rw [List.getElem?_replicate] at hi
    split at hi
    · rename_i h
      injection hi with hi
      subst hi
      exact ⟨none, 0, by rw [List.getElem?_replicate, if_pos h]; rfl, World.ownsRow_nil _ _ _ _⟩
    · cases hi
  · rw [List.getElem?_replicate] at hu
    split at hu
    · injection hu with hu
      subst hu
      cases hg
    · cases hu
/-- A row has grown, and is stored. -/
theorem OwnR.put {w w3 : World} {b lo : Nat} {vs : List Value} {G : List (List Int)} {i : Nat} {l : List Int} {y : Int} {a : Option Addr} {c g3 cap3 : Nat} (h : OwnR w b lo vs G) (hi : G[i]? = some l) (hv : vs[i]? = some (.slice a l.length c))
    (hs : w.heap.size ≤ w3.heap.size) (hown : w3.ownsRow lo 3 1 (.slice (some ⟨g3, 0, none⟩) (l.length + 1) cap3) (l.length + 1) (ints l ++ [.int .i64 y])) (hk : ∀ g, g < w.heap.size → (Value.slice a l.length c).ownBlock ≠ some g → w3.heap[g]? = w.heap[g]?) (hat : (Value.slice a l.length c).ownBlock = some g3 ∨ w.heap.size ≤ g3) :
    OwnR (w3.setCell ⟨b, i, none⟩ (.slice (some ⟨g3, 0, none⟩) (l.length + 1) cap3)) b lo (vs.set i (.slice (some ⟨g3, 0, none⟩) (l.length + 1) cap3)) (turn1 G y (i : Int)) := by
  have hilt := (List.getElem?_eq_some_iff.1 hi).1
  have hbl : b < w.heap.size := h.row.lt
  have hbk : w3.heap[b]? = w.heap[b]? := hk b hbl (fun e => by have := (h.at hv e).1; have := h.blo; omega)
  have hg3 : lo ≤ g3 := (hown.lt g3 (by simp [Value.ownBlock])).1
  have hblo := h.blo
  have hoth : ∀ g, g ≠ b → (w3.setCell ⟨b, i, none⟩ (.slice (some ⟨g3, 0, none⟩) (l.length + 1) cap3)).heap[g]? = w3.heap[g]? := fun g hg => Below.heap_setCell _ _ _ _ hg
  refine ⟨(h.row.keep hbk).set i _, h.blo, by rw [List.length_set, turn1_len]; exact h.len, fun j lj hj => ?_, fun j k u v g hjk hu hv2 hg => ?_⟩
  · unfold turn1 at hj
    rw [List.getElem?_modify, Int.toNat_natCast] at hj
    by_cases hij : i = j
    · subst hij
      rw [hi] at hj
      simp at hj
      subst hj
      refine ⟨some ⟨g3, 0, none⟩, cap3, by rw [List.getElem?_set_self (by rw [h.len]; exact hilt)]; simp, ?_⟩
      refine own_keep (w := w3) ?_ (fun g hg => hoth g ?_)
      · simpa [ints] using hown
      · simp [Value.ownBlock] at hg; omega
    · simp only [hij, if_false] at hj
      have hj2 : G[j]? = some lj := by simpa using hj
      obtain ⟨a2, c2, h1, h2⟩ := h.rows j lj hj2
      refine ⟨a2, c2, by rw [List.getElem?_set_ne hij]; exact h1, own_keep h2 (fun g hg => ?_)⟩
      have hgl := h2.lt g hg
      rw [hoth g (by omega)]
      exact hk g hgl.2 (h.apart j i _ _ g (fun e => hij e.symm) h1 hv hg)
  · have hil : i < vs.length := by rw [h.len]; exact hilt
    have key : ∀ (m : Nat) (x : Value), m ≠ i → vs[m]? = some x → x.ownBlock ≠ some g3 := fun m x hm hx e => by
      rcases hat with h4 | h4
      · exact h.apart m i x _ g3 hm hx hv e h4
      · have := (h.at hx e).2; omega
    by_cases hij : i = j
    · subst hij
      rw [List.getElem?_set_self hil] at hu
      injection hu with hu
      subst hu
      simp [Value.ownBlock] at hg
      subst hg
      rw [List.getElem?_set_ne (by omega)] at hv2
      exact key k v (by omega) hv2
    · rw [List.getElem?_set_ne hij] at hu
      by_cases hik : i = k
      · subst hik
        rw [List.getElem?_set_self hil] at hv2
        injection hv2 with hv2
        subst hv2
        intro e
        simp [Value.ownBlock] at e
        subst e
        exact key j u (by omega) hu hg
      · rw [List.getElem?_set_ne hik] at hv2
        exact h.apart j k u v g hjk hu hv2 hg
theorem OwnR.below {w w' : World} {b lo : Nat} {vs : List Value} {G : List (List Int)} (h : OwnR w b lo vs G) (hb : Below w.heap.size w w') : OwnR w' b lo vs G := by
  refine ⟨h.row.below hb h.row.lt, h.blo, h.len, fun i l hi => ?_, h.apart⟩
  obtain ⟨a, c, h1, h2⟩ := h.rows i l hi
  exact ⟨a, c, h1, own_keep h2 (fun g hg => hb.block g (h2.lt g hg).2)⟩
theorem OwnR.rowsAt {w : World} {b lo : Nat} {vs : List Value} {G : List (List Int)} (h : OwnR w b lo vs G) : RowsAt w w.heap.size (some ⟨b, 0, none⟩) G :=
  RowsAt.of_rows h.row h.len (lo := lo) (fun i l hi => by
    obtain ⟨a, c, h1, h2⟩ := h.rows i l hi
    exact ⟨a, c, h1, LiesIn.of_own h2, (own_room h2).1, (own_room h2).2.1⟩)
/-- No row is longer than what was gone through. -/
theorem turnG_row {G : List (List Int)} (hG : GIn G) {k : Nat} (hk : k ≤ G.length) {n : Nat} {r : List Int} (h : (turnG G k)[n]? = some r) : r.length ≤ k := by
  have hlt := (List.getElem?_eq_some_iff.1 h).1
  rw [turnG_len] at hlt
  rw [turnG_at hG k hk n hlt] at h
  injection h with h
  rw [← h]
  exact Nat.le_trans (List.length_filter_le _ _) (by simp)
theorem turnL_row {G : List (List Int)} (hG : GIn G) {k : Nat} (hk : k ≤ G.length) {l : List Int} (hl : ∀ y ∈ l, 0 ≤ y ∧ y < (G.length : Int)) {j : Nat} (hj : j ≤ l.length) {n : Nat} {r : List Int} (h : (turnL (turnG G k) (k : Int) l j)[n]? = some r) : r.length ≤ k + 1 := by
  rw [turnL_at _ _ _ (by rw [turnG_len]; exact hl) j hj n] at h
  obtain ⟨s, hs, hr⟩ := Option.map_eq_some_iff.1 h
  have := turnG_row hG hk hs
  split at hr
  · rw [← hr, List.length_append, List.length_singleton]; omega
  · rw [← hr]; omega
theorem turnL_no {b : List (List Int)} {k : Int} {l : List Int} {j : Nat} {y : Int} (h : l[j]? = some y) (hm : y ∈ l.take j) : turnL b k l (j + 1) = turnL b k l j := by
  rw [turnL, h]; exact if_pos hm
theorem turnL_yes {b : List (List Int)} {k : Int} {l : List Int} {j : Nat} {y : Int} (h : l[j]? = some y) (hm : y ∉ l.take j) : turnL b k l (j + 1) = turn1 (turnL b k l j) k y := by
  rw [turnL, h]; exact if_neg hm
theorem turnG_more {G : List (List Int)} {k : Nat} {l : List Int} (h : G[k]? = some l) : turnG G (k + 1) = turnL (turnG G k) (k : Int) l l.length := by rw [turnG, h]
end Go.Proofs.Ytgnpbodhjmappaa
