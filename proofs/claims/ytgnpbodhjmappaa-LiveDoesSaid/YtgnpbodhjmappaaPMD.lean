/-
  Layer 10: what usesOf tells, in memory; contract of readers.
-/
import Derived.Test.YtgnpbodhjmappaaPMB
import Derived.Test.YtgnpbodhjmappaaPMC
set_option linter.unusedVariables false
set_option linter.unusedSimpArgs false
namespace Go.Proofs.Ytgnpbodhjmappaa
set_option maxRecDepth 100000
open Go.RowKit Cd Go.Maps
abbrev usO (ga : Option Addr) (gl gc : Nat) (sa : Option Addr) (sl sc rm pm : Nat) (oa : Option Addr) (ol oc : Nat) : Obj := .cells #[.slice ga gl gc, .slice sa sl sc, .map (some rm), .map (some pm), .slice oa ol oc] 57
abbrev usV (ga : Option Addr) (gl gc : Nat) (sa : Option Addr) (sl sc rm pm : Nat) (oa : Option Addr) (ol oc : Nat) : Value := .agg #[.slice ga gl gc, .slice sa sl sc, .map (some rm), .map (some pm), .slice oa ol oc]
structure UsAt (w : World) (B n : Nat) (F : List (List Int)) (st : List Int) (gone : List Bool) (Rd Pu : Int → List Int) (rk pk : List Int) (ga sa oa : Option Addr) (rm pm : Nat) : Prop where
  rows : RowsAt w B ga F
  sets : RowAt w B sa (ints st)
  gone : RowAt w B oa (bools gone)
  read : RdM w B rm Rd rk
  pure : RdM w B pm Pu pk
theorem UsAt.below {w w' : World} {B n : Nat} {F : List (List Int)} {st : List Int} {gone : List Bool} {Rd Pu : Int → List Int} {rk pk : List Int} {ga sa oa : Option Addr} {rm pm : Nat} (h : UsAt w B n F st gone Rd Pu rk pk ga sa oa rm pm) (hb : Below B w w') : UsAt w' B n F st gone Rd Pu rk pk ga sa oa rm pm :=
  ⟨h.rows.below hb, h.sets.below hb, h.gone.below hb, h.read.below hb, h.pure.below hb⟩
theorem UsAt.mono {w : World} {B B' n : Nat} {F : List (List Int)} {st : List Int} {gone : List Bool} {Rd Pu : Int → List Int} {rk pk : List Int} {ga sa oa : Option Addr} {rm pm : Nat} (h : UsAt w B n F st gone Rd Pu rk pk ga sa oa rm pm) (hB : B ≤ B') (hw : B' ≤ w.heap.size) : UsAt w B' n F st gone Rd Pu rk pk ga sa oa rm pm :=
  ⟨h.rows.mono hB hw, h.sets.mono hB hw, h.gone.mono hB hw, h.read.mono hB hw, h.pure.mono hB hw⟩
structure UsOk (n : Nat) (F : List (List Int)) (st : List Int) (gone : List Bool) (Rd Pu : Int → List Int) : Prop where
  fl : F.length = n
  sl : st.length = n
  gl : gone.length = n
  nl : n ≤ 10000
  gin : GIn F
  rows : ∀ l ∈ F, l.length ≤ 100000
  rd : ∀ r, (Rd r).length ≤ 100000 ∧ ∀ x ∈ Rd r, 0 ≤ x ∧ x < (n : Int)
  pu : ∀ r, (Pu r).length ≤ 100000 ∧ ∀ x ∈ Pu r, 0 ≤ x ∧ x < (n : Int)
def Cd.rdr (gone : List Bool) (l : List Int) : List Int := l.filter (fun x => !gone.getD x.toNat false)
theorem rdr_more {gone : List Bool} {l : List Int} {k : Nat} {x : Int} (h : l[k]? = some x) : rdr gone (l.take (k + 1)) = rdr gone (l.take k) ++ (if gone.getD x.toNat false = true then [] else [x]) := by
  unfold rdr
  rw [take_more h, List.filter_append]
  congr 1
  cases hg : gone.getD x.toNat false with
  | true => rw [if_pos rfl, List.filter_cons_of_neg (by rw [hg]; simp)]; rfl
  | false => rw [if_neg (by simp), List.filter_cons_of_pos (by rw [hg]; rfl)]; rfl
theorem rdr_len (gone : List Bool) (l : List Int) : (rdr gone l).length ≤ l.length := List.length_filter_le _ _
theorem bool_cell {w : World} {B : Nat} {a : Option Addr} {l : List Bool} (h : RowAt w B a (bools l)) {k : Nat} (hk : k < l.length) : ∃ b off, a = some ⟨b, off, none⟩ ∧ b < B ∧ w.cell? ⟨b, off + k, none⟩ = some (.bool (l.getD k false)) := by
  obtain ⟨b, off, ha, hb, _, hc⟩ := h (by rw [List.length_map]; omega)
  exact ⟨b, off, ha, hb, hc k _ (by rw [List.getElem?_map, List.getD_eq_getElem?_getD, List.getElem?_eq_getElem hk]; rfl)⟩
set_option maxHeartbeats 4000000 in
theorem readers_c (B n : Nat) (F : List (List Int)) (st : List Int) (gone : List Bool) (Rd Pu : Int → List Int) (rk pk : List Int) (ga sa oa : Option Addr) (gc sc oc rm pm : Nat) (r : Int) (w : World) (hU : UsAt w B n F st gone Rd Pu rk pk ga sa oa rm pm) (hO : UsOk n F st gone Rd Pu) (hB : B ≤ w.heap.size) (hr : (Lit.int .i64 r).wf = true) :
    Calls Try.prog 88 #[usV ga n gc sa n sc rm pm oa n oc, .int .i64 r] w (ListPost (rdr gone (Rd r)) w) := by
  obtain ⟨i0, hi0, hz0, hz1, hz2⟩ := info_parts infoInt
  have HB0 := Lib.hid ((Below.refl w.heap.size w).alloc (Nat.le_refl _) (usO ga n gc sa n sc rm pm oa n oc))
  have HX := Lib.hid (heap_alloc_new w (usO ga n gc sa n sc rm pm oa n oc))
  have HU0 := Lib.hid (hU.below (HB0.out.mono hB))
  have HO := Lib.hid hO
  obtain ⟨c0, c1, c2, c3, c4⟩ := nv5 HX.out
  obtain ⟨hl1, hl2⟩ := hO.rd r
  have hgl := hO.gl
  obtain ⟨la, lc, hrun, hrow⟩ := HU0.out.read.look hr
  obtain ⟨l, hl⟩ : ∃ l, Rd r = l := ⟨_, rfl⟩
  rw [hl] at hl1 hl2 hrun hrow ⊢
  have HROW := Lib.hid hrow; have HL2 := Lib.hid hl2; have HRUN := Lib.hid hrun
  have hn0 := hO.nl
  clear hU hO hrow hl2 hl hrun
  go_enter Try.func88, Try.ntmps88
  go_wp2_with (at_lookup; refine wpList_lookup_run rfl _ _ _ rfl _ _ _ rfl rfl HRUN.out ?_)
  go_loopw [5, 13] (fun s5 s13 wr => ∃ (k : Nat) (o : List Int), k ≤ l.length ∧ s13 = .int .i64 (k : Int) ∧ Hid (rdr gone (l.take k) = o) ∧ o.length ≤ k ∧ Hid (wr.ownsRow (w.heap.size + 1) 3 1 s5 o.length (ints o)) ∧ Hid (Below w.heap.size (w.alloc (usO ga n gc sa n sc rm pm oa n oc)) wr) ∧ Hid (wr.heap[w.heap.size]? = some (usO ga n gc sa n sc rm pm oa n oc))) (fun _ s13 wr => l.length - (intOf s13).toNat)
  case atStart => exact ⟨0, [], by omega, rfl, Lib.hid rfl, by simp, Lib.hid (World.ownsRow_nil _ _ _ _), Lib.hid (Below.refl _ _), HX⟩
  case round =>
    obtain ⟨k, o, hk, rfl, HE, hok, HOW, HB, HW⟩ := hrel
    obtain ⟨a5, c5, rfl⟩ := row_slice HOW.out
    have k0 : (0 : Int) ≤ (k : Int) := Int.natCast_nonneg _
    have hz := lt_heap HW.out
    by_cases hlt : k < l.length
    · have k1 : (k : Int) < (l.length : Int) := by omega
      obtain ⟨x, hx⟩ : ∃ x, l[k]? = some x := ⟨_, List.getElem?_eq_getElem hlt⟩
      obtain ⟨b, off, rfl, hb1, hbw, hc⟩ := IntsAt.cellsB (HROW.out.below (HB.out.mono hB)) hx
      have hxin := HL2.out x (List.mem_of_getElem? hx)
      obtain ⟨j, rfl⟩ : ∃ j : Nat, x = (j : Int) := ⟨x.toNat, by omega⟩
      obtain ⟨ob, ooff, rfl, hob, hoc⟩ := bool_cell (k := j) ((HU0.out.below (HB.out.mono hB)).gone) (by omega)
      obtain ⟨d0, d1, d2, d3, d4⟩ := nv5 HW.out
      have hm := rdr_more (gone := gone) hx
      rw [Int.toNat_natCast] at hm
      have j0 : (0 : Int) ≤ (j : Int) := Int.natCast_nonneg _
      have j1 : (j : Int) < (n : Int) := hxin.2
      have HLT := Lib.hid hlt
      obtain ⟨gv, hgv⟩ : ∃ gv, gone.getD j false = gv := ⟨_, rfl⟩
      rw [hgv] at hoc hm
      clear hx hlt hgv
      cases gv with
      | true =>
        have HM : Hid (rdr gone (l.take (k + 1)) = o) := Lib.hid (by rw [hm, if_pos rfl, HE.out]; simp)
        clear hm
        go_wp2
        go_roundw
        case rel => exact ⟨k + 1, o, HLT.out, by go_num, HM, by omega, HOW, HB, HW⟩
        case measure => have := HLT.out; simp [intOf]; omega
      | false =>
        have HM : Hid (rdr gone (l.take (k + 1)) = o ++ [(j : Int)]) := Lib.hid (by rw [hm, if_neg (by simp), HE.out])
        clear hm
        go_wp2_with (at_builtin; go_loud (refine wpList_append_lies _ rfl (.tmp 23) (.tmp 25) 30 rfl (w.heap.size + 1) 3 i0 (.int .i64 0) 1 8 Try.underlying30 hi0 hz0 hz1 hz2 rfl (by decide) (.slice a5 o.length c5) o.length (ints o) rfl (HOW.out.alloc _) _ 1 1 [.int .i64 (j : Int)] rfl rfl (cell_new1 _ _ _ _ (by simp)) (by simp [Value.oneCell']) (by omega) (by unfold maxLen; omega) (by omega) (by simp <;> omega) (wr.heap.size + 1) (by simp) ?_; intro g9 cap9 w5 hown hgrow hat hlt9; have HO5 := Lib.hid hown; have HB5 := Lib.hid ((HB.out.alloc (by omega) _).grown hgrow (by simp <;> omega) (fun q e => by have := (HOW.out.lt q e).1; omega)); have HW5 := Lib.hid ((hgrow.block w.heap.size (by simp <;> omega) (fun e => by have := (HOW.out.lt _ e.symm).1; omega)).trans ((Below.heap_alloc _ _ _ (by omega)).trans HW.out)); clear hown hgrow hat hlt9))
        go_roundw
        case rel => exact ⟨k + 1, o ++ [(j : Int)], HLT.out, by go_num, HM, by simp; omega, Lib.hid (by simpa using HO5.out), HB5, HW5⟩
        case measure => have := HLT.out; simp [intOf]; omega
    · obtain rfl : k = l.length := by omega
      have HE2 := HE.out
      rw [List.take_length] at HE2
      go_wp2
      go_ret
      exact ⟨_, rfl, by rw [HE2]; exact ownsRow_le HOW.out (by omega), HB0.out.trans HB.out⟩
end Go.Proofs.Ytgnpbodhjmappaa
