/-
  The contract of Define.
-/
import Derived.Test.YtemnlkgjgalipaaDoorLay
import Derived.RegionTactic
namespace Go.Proofs.YtemnlkgjgalipaaDoor
open Go.RowKit Go.Maps Tp Go.ChangeMaps
set_option linter.unusedVariables false

theorem own_set {w : World} {B size n g cap : Nat} {e : TypeId} {xs : List Value} (h : w.ownsRow B e size (.slice (some ⟨g, 0, none⟩) n cap) n xs) (j : Nat) (u : Value) :
    (w.setCell ⟨g, j, none⟩ u).ownsRow B e size (.slice (some ⟨g, 0, none⟩) n cap) n (xs.set j u) := by
  obtain ⟨h1, h2⟩ := h
  refine ⟨by simpa using h1, ?_⟩
  rcases h2 with ⟨h2, _⟩ | ⟨g', cap', cur, hv, hg, hh, hn, hc, hs, ht⟩
  · simp at h2
  · simp at hv
    obtain ⟨rfl, rfl⟩ := hv
    refine .inr ⟨g, cap, cur.setIfInBounds j u, rfl, hg, ?_, hn, hc, by simpa using hs, ?_⟩
    · simp only [World.setCell, Array.getElem?_modify, if_true, hh, Option.map_some]
      simp
    · rw [← ht, Array.toList_setIfInBounds, List.take_set]
theorem tabCells_set : ∀ (X : List (En × Option Nat)) (i : Nat) (e : En) (m : Option Nat) (size : Int) (fl : Option (List Pl)) (m' : Option Nat), X[i]? = some (e, m) →
    tabCells (X.set i (⟨e.self, size, fl⟩, m')) = ((tabCells X).set (i * 6 + 5) (.map m')).set (i * 6 + 4) (.int .i64 size)
  | [], i, e, m, size, fl, m', h => by simp at h
  | a :: X, 0, e, m, size, fl, m', h => by
    simp at h; subst h
    simp [tabCells, enCells]
  | a :: X, i + 1, e, m, size, fl, m', h => by
    simp at h
    have ih := tabCells_set X i e m size fl m' h
    have hl : (enCells a).length = 6 := rfl
    simp only [tabCells, List.flatMap_cons, List.set_cons_succ] at ih ⊢
    rw [ih, show (i + 1) * 6 + 5 = (enCells a).length + (i * 6 + 5) by rw [hl]; omega, show (i + 1) * 6 + 4 = (enCells a).length + (i * 6 + 4) by rw [hl]; omega]
    rw [List.set_append_right _ _ (by omega), Nat.add_sub_cancel_left, List.set_append_right _ _ (by omega), Nat.add_sub_cancel_left]
theorem setF_map {X : List (En × Option Nat)} {i : Nat} {e : En} {m m' : Option Nat} {r : List Pl × Int} (h : X[i]? = some (e, m)) : (X.set i (⟨e.self, r.2, some r.1⟩, m')).map (·.1) = setF (X.map (·.1)) i r := by
  unfold setF
  apply List.ext_getElem?
  intro j
  rw [List.getElem?_map, List.getElem?_set, List.getElem?_modify, List.getElem?_map]
  by_cases hj : i = j
  · subst hj
    have : i < X.length := (List.getElem?_eq_some_iff.1 h).1
    have hx : X[i] = (e, m) := by rw [List.getElem?_eq_getElem this] at h; injection h
    simp [this, hx]
  · simp [hj]
theorem own_free {w : World} {B size n g cap : Nat} {e : TypeId} {xs : List Value} (h : w.ownsRow B e size (.slice (some ⟨g, 0, none⟩) n cap) n xs) (j : Nat) : w.frozen? ⟨g, j, none⟩ = false := by
  rcases h.2 with ⟨h2, _⟩ | ⟨g', cap', cur, hv, hg, hh, _⟩
  · simp at h2
  · simp at hv
    obtain ⟨rfl, rfl⟩ := hv
    simp [World.frozen?, hh]
/-- A struct's map and size laid, in whatever order. -/
theorem TabX.setF {w : World} {t B g len cap : Nat} {X : List (En × Option Nat)} (h : TabX w t B (.slice (some ⟨g, 0, none⟩) len cap) X) {i : Nat} {e : En} {m : Option Nat} (hi : X[i]? = some (e, m)) (r : List Pl × Int) (b : Nat) (hf : FldIn w (some b) (some r.1)) :
    (TabX ((w.setCell ⟨g, i * 6 + 5, none⟩ (.map (some b))).setCell ⟨g, i * 6 + 4, none⟩ (.int .i64 r.2)) t B (.slice (some ⟨g, 0, none⟩) len cap) (X.set i (⟨e.self, r.2, some r.1⟩, some b)) ∧
     TabX ((w.setCell ⟨g, i * 6 + 4, none⟩ (.int .i64 r.2)).setCell ⟨g, i * 6 + 5, none⟩ (.map (some b))) t B (.slice (some ⟨g, 0, none⟩) len cap) (X.set i (⟨e.self, r.2, some r.1⟩, some b))) := by
  have hgt : g ≠ t := fun e => h.apart (by rw [e]; rfl)
  obtain rfl : len = X.length := by
    rcases h.row.2 with ⟨h1, _⟩ | ⟨g', cap', cur, hv, _⟩
    · simp at h1
    · simp at hv; exact hv.2.1
  have hmap : ∀ (a1 a2 : Addr) (u1 u2 : Value), a1.block = g → a2.block = g → ∀ (b0 : Nat) (es : Array MapEntry) (c : Nat), w.heap[b0]? = some (.map es c) → ((w.setCell a1 u1).setCell a2 u2).heap[b0]? = w.heap[b0]? := fun a1 a2 u1 u2 e1 e2 b0 es c hm => by
    have := (h.map_apart hm).2
    have hne : b0 ≠ g := fun e => this (by rw [e]; rfl)
    rw [Below.heap_setCell _ _ _ _ (by omega), Below.heap_setCell _ _ _ _ (by omega)]
  have hfl : ∀ (w' : World), (∀ (b0 : Nat) (es : Array MapEntry) (c : Nat), w.heap[b0]? = some (.map es c) → w'.heap[b0]? = w.heap[b0]?) → ∀ x ∈ X.set i (⟨e.self, r.2, some r.1⟩, some b), FldIn w' x.2 x.1.flds := fun w' hk x hx => by
    rcases List.mem_or_eq_of_mem_set hx with hx | rfl
    · exact (h.flds x hx).keep hk
    · exact hf.keep hk
  constructor
  · refine ⟨?_, h.ge, ?_, h.apart, hfl _ (hmap _ _ _ _ rfl rfl)⟩
    · rw [Below.heap_setCell _ _ _ _ (Ne.symm hgt), Below.heap_setCell _ _ _ _ (Ne.symm hgt)]; exact h.head
    · have := own_set (own_set h.row (i * 6 + 5) (.map (some b))) (i * 6 + 4) (.int .i64 r.2)
      rw [List.length_set, tabCells_set X i e m r.2 (some r.1) (some b) hi]
      exact this
  · refine ⟨?_, h.ge, ?_, h.apart, hfl _ (hmap _ _ _ _ rfl rfl)⟩
    · rw [Below.heap_setCell _ _ _ _ (Ne.symm hgt), Below.heap_setCell _ _ _ _ (Ne.symm hgt)]; exact h.head
    · have := own_set (own_set h.row (i * 6 + 4) (.int .i64 r.2)) (i * 6 + 5) (.map (some b))
      rw [List.length_set, tabCells_set X i e m r.2 (some r.1) (some b) hi, List.set_comm _ _ (by omega)]
      exact this
theorem Turn.two {w : World} {t g len cap : Nat} (a1 a2 : Addr) (u1 u2 : Value) (h1 : a1.block = g) (h2 : a2.block = g) : Turn t (.slice (some ⟨g, 0, none⟩) len cap) (.slice (some ⟨g, 0, none⟩) len cap) w ((w.setCell a1 u1).setCell a2 u2) := by
  refine ⟨rfl, rfl, rfl, by simp [World.setCell], fun k hk _ hv => ?_, fun q hq => .inl hq⟩
  have : k ≠ g := fun e => hv (by rw [e]; rfl)
  rw [Below.heap_setCell _ _ _ _ (by omega), Below.heap_setCell _ _ _ _ (by omega)]
theorem lay_err {T : Tab} {l : List Fl} {x : Int} (h : lay T l = .error x) : x = 8 ∨ x = 4 := by
  unfold lay at h
  split at h
  · injection h with h; exact .inl h.symm
  · split at h
    · injection h with h; exact .inl h.symm
    · split at h
      · injection h with h; exact .inr h.symm
      · cases h
def DefPost (t B : Nat) (v : Value) (r : Int × Tab) (w : World) (e : Ending) (w' : World) : Prop := ∃ v', e = .returned (.int .i64 r.1) ∧ TabIn w' t B v' r.2 ∧ Turn t v v' w w'
theorem FldsIn.turn {w w' : World} {lv : Value} {l : List Fl} {t : Nat} {v v' : Value} (h : FldsIn w lv l) (ht : Turn t v v' w w') (hap : ∀ g, lv.ownBlock = some g → g ≠ t ∧ v.ownBlock ≠ some g) : FldsIn w' lv l := by
  obtain ⟨h1, h2⟩ := h.row
  refine ⟨h1, ?_⟩
  rcases h2 with h2 | ⟨g, cap, cur, rfl, hg, hh, r⟩
  · exact .inl h2
  · obtain ⟨a1, a2⟩ := hap g rfl
    exact .inr ⟨g, cap, cur, rfl, hg, (ht.block g (Array.getElem?_eq_some_iff.1 hh).1 a1 a2).trans hh, r⟩
theorem map_neq_none (W : World) : (binOp .neq 69 (.map none) (.map none)).run Tryd.prog W = .ok (.bool false) W := by
  rw [run_neq_map_nil W _ _ _ none Tryd.underlying69]; rfl
theorem map_neq_some (b : Nat) (W : World) : (binOp .neq 69 (.map (some b)) (.map none)).run Tryd.prog W = .ok (.bool true) W := by
  rw [run_neq_map_nil W _ _ _ (some b) Tryd.underlying69]; rfl
theorem define_nil (s : ByteArray) (w : World) : Calls Tryd.prog 18 #[.pointer none, .string s, .slice none 0 0] w fun e w' => e = .returned (.int .i64 1) ∧ Below w.heap.size w w' := by
  go_enter Tryd.func18, Tryd.ntmps18
  go_wp2_with ((with_reducible refine (struct_nil s _).mono ?_); rintro x w1 ⟨rfl, hb⟩)
  go_ret
  exact ⟨rfl, hb⟩
set_option maxHeartbeats 2000000 in
set_option maxRecDepth 100000 in
theorem define_any {w : World} {t B : Nat} {v : Value} {T : Tab} (hT : TabIn w t B v T) (hG : Tp.Good T) (n : List UInt8) (hn : n.length ≤ 100) (l : List Fl) (lv : Value) (h : FldsIn w lv l) (hl : l.length ≤ 4096) (hs : ∀ f ∈ l, f.1.length ≤ 100)
    (hap : ∀ g, lv.ownBlock = some g → g ≠ t ∧ v.ownBlock ≠ some g) :
    Calls Tryd.prog 18 #[.pointer (some ⟨t, 0, none⟩), .string (bs n), lv] w (DefPost t B v (define T n l) w) := by
  have hmn := map_neq_none
  have hms := map_neq_some
  have HT := Lib.hid hT; clear hT
  have HF := Lib.hid h; clear h
  have HS := Lib.hid hs; clear hs
  have HA := Lib.hid hap; clear hap
  have hG1 := good_strct hG hn
  have hat := @strct_at T n
  obtain ⟨i, er, T1, hst⟩ : ∃ i er T1, strct T n = (i, er, T1) := ⟨_, _, _, rfl⟩
  rw [hst] at hG1 hat
  simp only at hG1 hat
  have HST := Lib.hid hst; clear hst
  by_cases he : er = 0
  · obtain ⟨k, rfl, e, hk, hself, hlt⟩ := hat he
    have HE := Lib.hid he
    have hbe : ((er : Int) != 0) = false := by rw [he]; rfl
    have HK := Lib.hid hk
    clear hat he hself hk
    go_enter Tryd.func18, Tryd.ntmps18
    go_wp2_with fail
    refine (struct_any HT.out hG.few n).mono ?_
    rw [HST.out]
    rintro x w1 ⟨v1, rfl, h1, t1⟩
    have HF1 := Lib.hid (HF.out.turn t1 HA.out)
    have HT1 := Lib.hid h1
    have HU1 := Lib.hid t1
    obtain ⟨X, hX, hTX⟩ := h1
    obtain ⟨m, hm⟩ := map_at hX HK.out
    have hkX : k < X.length := (List.getElem?_eq_some_iff.1 hm).1
    obtain ⟨g, cap, rfl, hg, hgl⟩ := hTX.form (by omega)
    obtain ⟨c0, c1, c2, c3, c4, c5⟩ := hTX.at hm
    have ct := hTX.cell
    have tz := hTX.lt
    have hfl := hTX.flds _ (List.mem_of_getElem? hm)
    have HX := Lib.hid hX
    have HTX := Lib.hid hTX
    have HM := Lib.hid hm
    have k0 : (0 : Int) ≤ (k : Int) := Int.natCast_nonneg _
    have k1 : (k : Int) < (X.length : Int) := by omega
    clear hX hTX hm t1 c0 c1 c2 c3
    simp only at hfl
    cases hfd : e.flds with
    | some fl =>
      rw [hfd] at hfl
      obtain ⟨b, nn, rfl, _, _⟩ := hfl
      have HD : Hid (define T n l = (7, T1)) := Lib.hid (by unfold define; rw [HST.out]; simp only; rw [if_neg (by rw [HE.out]; simp), if_pos (by left; unfold isDef; rw [ent_nat, HK.out]; simp [hfd])])
      clear hfd
      go_wp2
      go_ret
      exact ⟨_, by rw [HD.out]; rfl, by rw [HD.out]; exact HT1.out, HU1.out⟩
    | none =>
      rw [hfd] at hfl
      have hmn : m = none := hfl
      subst hmn
      have HND : Hid (isDef T1 k = false) := Lib.hid (by unfold isDef; rw [ent_nat, HK.out]; simp [hfd])
      clear hfl
      cases hnm : named l with
      | false =>
        have HD : Hid (define T n l = (7, T1)) := Lib.hid (by unfold define; rw [HST.out]; simp only; rw [if_neg (by rw [HE.out]; simp), if_pos (.inr hnm)])
        have HNM := Lib.hid hnm
        clear hnm hfd
        go_wp2_with ((with_reducible refine (named_any l lv _ HF1.out hl HS.out).mono ?_); rintro x w2 ⟨rfl, hb⟩; rw [HNM.out]; have HB := Lib.hid hb; clear hb)
        go_ret
        exact ⟨_, by rw [HD.out]; rfl, by rw [HD.out]; exact HT1.out.below HB.out, HU1.out.trans (Turn.of_below HB.out)⟩
      | true =>
        have HNM := Lib.hid hnm
        have hnd : (l.map (·.1)).Nodup := by rw [named_eq] at hnm; simp at hnm; exact hnm.2
        have HNN := Lib.hid hnd
        clear hnm hnd
        cases hly : lay T1 l with
        | error y =>
          have HD : Hid (define T n l = (y, T1)) := Lib.hid (by unfold define; rw [HST.out]; simp only; rw [if_neg (by rw [HE.out]; simp), if_neg (by rw [HND.out, HNM.out]; simp), hly])
          have hy : ((y : Int) != 0) = true := by rcases lay_err hly with h | h <;> rw [h] <;> rfl
          have HL := Lib.hid hly
          clear hly hfd
          go_wp2_with (first | ((with_reducible refine (named_any l lv _ HF1.out hl HS.out).mono ?_); rintro x w2 ⟨rfl, hb⟩; rw [HNM.out]; have HB := Lib.hid hb; clear hb) | ((with_reducible refine (lay_any (HT1.out.below HB.out) hG1 l lv (HF1.out.below HB.out) hl HS.out HNN.out).mono ?_); rintro x w3 ⟨hb, hp⟩; rw [HL.out] at hp; simp only at hp; subst hp; have HB2 := Lib.hid (HB.out.trans (hb.mono HB.out.size)); clear hb))
          go_ret
          exact ⟨_, by rw [HD.out]; rfl, by rw [HD.out]; exact HT1.out.below HB2.out, HU1.out.trans (Turn.of_below HB2.out)⟩
        | ok r =>
          have HD : Hid (define T n l = (0, Tp.setF T1 k r)) := Lib.hid (by unfold define; rw [HST.out]; simp only; rw [if_neg (by rw [HE.out]; simp), if_neg (by rw [HND.out, HNM.out]; simp), hly]; simp)
          have HL := Lib.hid hly
          clear hly hfd
          go_wp2_with fail
          refine (named_any l lv _ HF1.out hl HS.out).mono ?_
          rintro x w2 ⟨rfl, hb⟩
          rw [HNM.out]
          have HB := Lib.hid hb; clear hb
          go_wp2_with fail
          refine (lay_any (HT1.out.below HB.out) hG1 l lv (HF1.out.below HB.out) hl HS.out HNN.out).mono ?_
          rintro x w3 ⟨hb, hp⟩
          rw [HL.out] at hp
          simp only at hp
          obtain ⟨b, rfl, hfi⟩ := hp
          have HB2 := Lib.hid (HB.out.trans (hb.mono HB.out.size))
          have HFI := Lib.hid hfi
          have HTX3 := Lib.hid (HTX.out.below HB2.out)
          obtain ⟨_, _, _, _, d4, d5⟩ := HTX3.out.at HM.out
          have dt := HTX3.out.cell
          have f4 := own_free HTX3.out.row (k * 6 + 4)
          have f5 := own_free HTX3.out.row (k * 6 + 5)
          clear hb hfi c4 c5 ct
          go_wp2
          go_region
          all_goals
            go_wp2
            go_ret
            obtain ⟨hA, hB⟩ := HTX3.out.setF HM.out r b HFI.out
            first
              | exact ⟨_, by rw [HD.out]; rfl, by rw [HD.out]; exact ⟨_, by rw [setF_map HM.out, HX.out], hA.below ((Below.refl _ _).drew)⟩, HU1.out.trans ((Turn.of_below HB2.out).trans ((Turn.two (g := g) ⟨g, _, none⟩ ⟨g, _, none⟩ _ _ rfl rfl).trans (Turn.of_below ((Below.refl _ _).drew))))⟩
              | exact ⟨_, by rw [HD.out]; rfl, by rw [HD.out]; exact ⟨_, by rw [setF_map HM.out, HX.out], hB.below ((Below.refl _ _).drew)⟩, HU1.out.trans ((Turn.of_below HB2.out).trans ((Turn.two (g := g) ⟨g, _, none⟩ ⟨g, _, none⟩ _ _ rfl rfl).trans (Turn.of_below ((Below.refl _ _).drew))))⟩
  · have hbe : ((er : Int) != 0) = true := by simpa using he
    have HD : Hid (define T n l = (er, T1)) := Lib.hid (by unfold define; rw [HST.out]; simp only; rw [if_pos he])
    clear hat he
    go_enter Tryd.func18, Tryd.ntmps18
    go_wp2_with fail
    refine (struct_any HT.out hG.few n).mono ?_
    rw [HST.out]
    rintro x w1 ⟨v1, rfl, h1, t1⟩
    have HT1 := Lib.hid h1
    have HU1 := Lib.hid t1
    clear h1 t1
    go_wp2
    go_ret
    exact ⟨_, by rw [HD.out]; rfl, by rw [HD.out]; exact HT1.out, HU1.out⟩
end Go.Proofs.YtemnlkgjgalipaaDoor
