/-
  The contract of lay: where fields stand.
-/
import Derived.Test.YtemnlkgjgalipaaDoorNamed
namespace Go.Proofs.YtemnlkgjgalipaaDoor
open Go.RowKit Go.Maps Tp Go.ChangeMaps
set_option linter.unusedVariables false

theorem layF_append (T : Tab) : ∀ (A D : List Fl) (o : Int), layF T (A ++ D) o = (layF T A o).bind fun r => (layF T D r.2).map fun q => (r.1 ++ q.1, q.2)
  | [], D, o => by
    simp only [List.nil_append, layF, Option.bind_some]
    cases layF T D o <;> rfl
  | f :: A, D, o => by
    simp only [List.cons_append, layF]
    split
    · rfl
    · rw [layF_append T A D]
      cases layF T A (o + Tp.sizeOf T f.2) with
      | none => rfl
      | some r =>
        simp only [Option.bind_some, Option.map_some]
        cases layF T D r.2 <;> rfl
theorem layF_step {T : Tab} {l : List Fl} {k : Nat} {f : Fl} {ps : List Pl} {o : Int} (h : layF T (l.take k) 0 = some (ps, o)) (hf : l[k]? = some f) (hs : 0 < Tp.sizeOf T f.2) :
    layF T (l.take (k + 1)) 0 = some (ps ++ [(f.1, o, f.2)], o + Tp.sizeOf T f.2) := by
  rw [List.take_add_one, hf, layF_append, h]
  simp only [Option.bind_some, Option.toList_some, layF]
  rw [if_neg (by omega)]
  rfl
theorem layF_bad {T : Tab} {l : List Fl} {k : Nat} {f : Fl} {ps : List Pl} {o : Int} (h : layF T (l.take k) 0 = some (ps, o)) (hf : l[k]? = some f) (hs : Tp.sizeOf T f.2 ≤ 0) : layF T l 0 = none := by
  have hk : k < l.length := (List.getElem?_eq_some_iff.1 hf).1
  have e : l = l.take k ++ (f :: l.drop (k + 1)) := by
    conv => lhs; rw [← List.take_append_drop k l]
    rw [List.drop_eq_getElem_cons hk]
    rw [List.getElem?_eq_getElem hk] at hf
    injection hf with hf
    rw [hf]
  rw [e, layF_append, h]
  simp only [Option.bind_some, layF]
  rw [if_pos hs]
  rfl
theorem layF_names {T : Tab} : ∀ {l : List Fl} {o : Int} {r : List Pl × Int}, layF T l o = some r → r.1.map (·.1) = l.map (·.1)
  | [], o, r, h => by simp [layF] at h; subst h; rfl
  | f :: l, o, r, h => by
    unfold layF at h
    split at h
    · cases h
    · cases hr : layF T l (o + Tp.sizeOf T f.2) with
      | none => rw [hr] at h; cases h
      | some q =>
        rw [hr] at h
        simp at h
        subst h
        simp [layF_names hr]
def LayIn (T : Tab) (l : List Fl) (wr : World) (b k : Nat) (o : Int) : Prop := ∃ ps, layF T (l.take k) 0 = some (ps, o) ∧ wr.ownsMap Tryd.prog 9 placeR b k (placesD ps)
def LayPost (T : Tab) (l : List Fl) (w : World) (e : Ending) (w' : World) : Prop :=
  Below w.heap.size w w' ∧ match lay T l with
    | .error x => e = .returned (.tuple #[.map none, .int .i64 0, .int .i64 x])
    | .ok r => ∃ b, e = .returned (.tuple #[.map (some b), .int .i64 r.2, .int .i64 0]) ∧ FldIn w' (some b) (some r.1)
theorem LayPost.err {T : Tab} {l : List Fl} {w w' : World} {e : Ending} {x : Int} (h : lay T l = .error x) (hb : Below w.heap.size w w') (he : e = .returned (.tuple #[.map none, .int .i64 0, .int .i64 x])) : LayPost T l w e w' := ⟨hb, by rw [h]; exact he⟩
theorem LayPost.ok {T : Tab} {l : List Fl} {w w' : World} {e : Ending} {r : List Pl × Int} {b : Nat} (h : lay T l = .ok r) (hb : Below w.heap.size w w') (he : e = .returned (.tuple #[.map (some b), .int .i64 r.2, .int .i64 0])) (hf : FldIn w' (some b) (some r.1)) : LayPost T l w e w' := ⟨hb, by rw [h]; exact ⟨b, he, hf⟩⟩
theorem sizeOf_eq (T : Tab) (n : Int) : ((ent T n).getD zeroE).size = Tp.sizeOf T n := rfl
theorem size_any {w : World} {t B : Nat} {v : Value} {T : Tab} (h : TabIn w t B v T) (n : Int) : Calls Tryd.prog 20 #[.pointer (some ⟨t, 0, none⟩), .int .i64 n] w fun x w' => x = .returned (.tuple #[.int .i64 (Tp.sizeOf T n), .bool (decide (0 < Tp.sizeOf T n))]) ∧ Below w.heap.size w w' := by
  obtain ⟨m, hE, _⟩ := entAt_any h n
  exact size_of hE
theorem good_sizeOf {T : Tab} (h : Tp.Good T) (n : Int) : 0 ≤ Tp.sizeOf T n ∧ Tp.sizeOf T n ≤ 4096 := by
  unfold Tp.sizeOf
  cases hn : ent T n with
  | none => simp [zeroE]
  | some e => obtain ⟨k, _, _, hk⟩ := ent_some hn; exact h.size k e hk
set_option maxHeartbeats 2000000 in
set_option maxRecDepth 100000 in
theorem lay_any {w : World} {t B : Nat} {v : Value} {T : Tab} (hT : TabIn w t B v T) (hG : Tp.Good T) (l : List Fl) (lv : Value) (h : FldsIn w lv l) (hl : l.length ≤ 4096) (hs : ∀ f ∈ l, f.1.length ≤ 100) (hnd : (l.map (·.1)).Nodup) :
    Calls Tryd.prog 35 #[.pointer (some ⟨t, 0, none⟩), lv] w (LayPost T l w) := by
  have hmm := @run_makeMap Tryd.prog
  obtain ⟨a, cap, rfl⟩ := row_len h.row
  have HT := Lib.hid hT; clear hT
  have HF := Lib.hid h; clear h
  have HS := Lib.hid hs; clear hs
  have HN := Lib.hid hnd; clear hnd
  by_cases h0 : l = []
  · have he : lay T l = .error 8 := by unfold lay; rw [if_pos h0]
    have HE := Lib.hid he; clear he
    have hz : ((l.length : Int) == 0) = true := by rw [h0]; rfl
    clear h0
    go_enter Tryd.func35, Tryd.ntmps35
    go_wp2
    go_ret3
    exact LayPost.err HE.out (Below.refl _ _) rfl
  · have hl1 : 0 < l.length := List.length_pos_iff.2 h0
    have hz : ((l.length : Int) == 0) = false := by simp; omega
    have H0 := Lib.hid h0; clear h0
    go_enter Tryd.func35, Tryd.ntmps35
    go_wp2
    go_loopw [19, 8] (fun i off wr => ∃ (k : Nat) (o : Int), k ≤ l.length ∧ i = .int .i64 k ∧ off = .int .i64 o ∧ 0 ≤ o ∧ o ≤ 4096 * k ∧ Hid (Below w.heap.size w wr) ∧ Hid (LayIn T l wr w.heap.size k o)) (fun i _ wr => l.length - (intOf i).toNat)
    case atStart => exact ⟨0, 0, Nat.zero_le _, rfl, rfl, by omega, by omega, Lib.hid ((Below.refl _ _).alloc (Nat.le_refl _) _), Lib.hid ⟨[], rfl, World.ownsMap_made _ _ _ _⟩⟩
    case round =>
      obtain ⟨k, o, hk, rfl, rfl, ho0, ho1, HB, HL⟩ := hrel
      obtain ⟨ps, hps, hown⟩ := HL.out
      have HO := Lib.hid hown
      have HP := Lib.hid hps
      have hbz : w.heap.size < wr.heap.size := HO.out.lt
      clear hown hps
      by_cases hlt : k < l.length
      · obtain ⟨f, hf⟩ : ∃ f, l[k]? = some f := ⟨_, List.getElem?_eq_getElem hlt⟩
        have hF2 := HF.out.below HB.out
        obtain ⟨g, cap2, hg, _, hg3⟩ := hF2.row.form (by omega)
        simp only [Value.slice.injEq] at hg
        obtain ⟨rfl, _, rfl⟩ := hg
        obtain ⟨c0, c1⟩ := hF2.at hf
        have HK : Hid ((bs f.1).size ≤ maxLen) := Lib.hid (by have := HS.out f (List.mem_of_getElem? hf); show f.1.length ≤ maxLen; unfold maxLen; omega)
        have hsz := good_sizeOf hG f.2
        obtain ⟨sz, hsze⟩ : ∃ sz, Tp.sizeOf T f.2 = sz := ⟨_, rfl⟩
        have HSZ := Lib.hid hsze
        rw [hsze] at hsz
        obtain ⟨hs0, hs1⟩ := hsz
        have HFK := Lib.hid hf
        clear hsze hF2 hf
        have HW : Hid (Below w.heap.size w (wr.alloc (.cells #[.string (bs f.1), .int .i64 f.2] 50))) := Lib.hid (HB.out.alloc (by omega) _)
        by_cases hp : sz ≤ 0
        · have hd : decide (0 < sz) = false := by simp; omega
          have HE : Hid (lay T l = .error 8) := Lib.hid (by unfold lay; rw [if_neg H0.out, layF_bad HP.out HFK.out (by rw [HSZ.out]; exact hp)])
          go_wp2_with ((with_reducible refine (size_any (HT.out.below HW.out) f.2).mono ?_); rintro x w1 ⟨rfl, hb⟩; rw [HSZ.out]; have HB1 : Hid (Below w.heap.size w w1) := Lib.hid (HW.out.trans (hb.mono HW.out.size)); clear hb)
          go_ret3
          exact LayPost.err HE.out HB1.out rfl
        · have hd : decide (0 < sz) = true := by simp; omega
          have HST := Lib.hid (layF_step HP.out HFK.out (by rw [HSZ.out]; omega))
          go_wp2_with (first | ((with_reducible refine (size_any (HT.out.below HW.out) f.2).mono ?_); rintro x w1 ⟨rfl, hb⟩; rw [HSZ.out]; have HB1 : Hid (Below w.heap.size w w1) := Lib.hid (HW.out.trans (hb.mono HW.out.size)); have HO1 := Lib.hid (own_of_below (HO.out.alloc _) hb); have d0 : w1.cell? ⟨wr.heap.size, 0, none⟩ = some (.string (bs f.1)) := (kept_new hb).1 0; have d1 : w1.cell? ⟨wr.heap.size, 1, none⟩ = some (.int .i64 f.2) := (kept_new hb).1 1; have dz := (kept_new hb).2.2; clear hb) | (at_mapUpdate; go_loud (refine wpList_mapUpdate_own _ rfl _ _ _ 69 rfl 9 86 lawS Tryd.underlying69 placeR w.heap.size k (placesD ps) rfl HO1.out (by unfold maxLen; omega) _ _ _ rfl rfl (keyS HK.out) (placeD o f.2) [] (placeR_mk o f.2) ?_); intro w2 hown2 hgrow2; have HO2 := Lib.hid hown2; have HB2 : Hid (Below w.heap.size w w2) := Lib.hid (HB1.out.grown hgrow2 (by omega) (by intro q e; injection e with e; omega)); clear hown2 hgrow2))
          go_roundw
          case rel => exact ⟨k + 1, o + sz, by omega, by go_num, rfl, by omega, by omega, HB2, Lib.hid ⟨_, by rw [HST.out, HSZ.out], by unfold placesD at *; rw [List.foldl_append]; exact HO2.out⟩⟩
          case measure => simp [intOf]; omega
      · have hkl : k = l.length := by omega
        have hall : layF T l 0 = some (ps, o) := by have := HP.out; rwa [hkl, List.take_of_length_le (Nat.le_refl _)] at this
        by_cases hbig : 4096 < o
        · have hd : decide (4096 < o) = true := by simpa using hbig
          have HE : Hid (lay T l = .error 4) := Lib.hid (by unfold lay; rw [if_neg H0.out, hall]; simp only; rw [if_pos hbig])
          clear hkl hall
          go_wp2
          go_ret3
          exact LayPost.err HE.out HB.out rfl
        · have hd : decide (4096 < o) = false := by simpa using hbig
          have HE : Hid (lay T l = .ok (ps, o)) := Lib.hid (by unfold lay; rw [if_neg H0.out, hall]; simp only; rw [if_neg hbig])
          have HNM := Lib.hid (layF_names hall)
          clear hkl hall
          go_wp2
          go_ret3
          exact LayPost.ok HE.out HB.out rfl ⟨_, _, rfl, HO.out, by rw [HNM.out]; exact HN.out⟩
end Go.Proofs.YtemnlkgjgalipaaDoor
