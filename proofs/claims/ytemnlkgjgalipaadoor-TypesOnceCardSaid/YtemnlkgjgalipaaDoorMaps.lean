/-
  The two maps as they read: a struct's places, and names counted.
-/
import Derived.Test.YtemnlkgjgalipaaDoorMem
namespace Go.Proofs.YtemnlkgjgalipaaDoor
open Go.RowKit Go.Maps Tp Go.ChangeMaps
set_option linter.unusedVariables false

theorem lawS : Keyed Tryd.prog 9 := string_keyed Tryd.underlying9
theorem keyS {s : ByteArray} (h : s.size ≤ maxLen) : keyOf Tryd.prog 9 (.string s) = some (.string s.data.toList) := Go.WideMaps.keyOf_string_mk Tryd.underlying9 h
theorem zeroPl (w : World) : (zeroValue 86).run Tryd.prog w = .ok (.agg #[.int .i64 0, .int .i64 0]) w := by kernel_rfl
theorem strKey (l : List UInt8) : WideAt.IsKeyLit (.string l) := trivial
theorem putP_isMap {D : DataW Unit} (h : IsMap D) (f : Pl) : IsMap (putP D f) := h.put _ _
theorem fold_at : ∀ (l : List Pl) (D : DataW Unit) (x : List UInt8) (z : DataW Unit), IsMap D → (l.map (·.1)).Nodup →
    (l.foldl putP D).atKey (.string x) z = match l.find? (fun f => f.1 = x) with | some f => placeD f.2.1 f.2.2 | none => D.atKey (.string x) z
  | [], _, _, _, _, _ => rfl
  | f :: l, D, x, z, hD, hn => by
    rw [List.map_cons, List.nodup_cons] at hn
    rw [List.foldl_cons, fold_at l (putP D f) x z (putP_isMap hD f) hn.2, List.find?_cons]
    by_cases h : f.1 = x
    · have h1 : l.find? (fun g => g.1 = x) = none := by
        rw [List.find?_eq_none]
        intro g hg
        simp only [decide_eq_true_eq]
        intro e
        exact hn.1 (List.mem_map.2 ⟨g, hg, e.trans h.symm⟩)
      rw [h1]
      simp only [h, decide_true]
      unfold putP
      rw [h, atKey_put_same hD (strKey _)]
    · simp only [h, decide_false]
      cases hq : l.find? (fun g => g.1 = x) with
      | some q => simp
      | none =>
        simp only
        exact atKey_put_other (k := .string f.1) (k' := .string x) (fun e => h (by injection e with e; exact e.symm)) _ _
theorem fold_has : ∀ (l : List Pl) (D : DataW Unit) (x : List UInt8), IsMap D →
    Maps.has (l.foldl putP D) (.string x) = ((l.find? (fun f => f.1 = x)).isSome || Maps.has D (.string x))
  | [], _, _, _ => rfl
  | f :: l, D, x, hD => by
    rw [List.foldl_cons, fold_has l (putP D f) x (putP_isMap hD f), List.find?_cons]
    by_cases h : f.1 = x
    · simp only [h, decide_true]
      unfold putP
      rw [h, has_put_same hD (strKey _)]
      simp
    · simp only [h, decide_false]
      unfold putP
      rw [has_put_other (k := .string f.1) (k' := .string x) (fun e => h (by injection e with e; exact e.symm))]
theorem places_at (l : List Pl) (x : List UInt8) (hn : (l.map (·.1)).Nodup) : (placesD l).atKey (.string x) (placeD 0 0) = placeD (Tp.pick l x).1 (Tp.pick l x).2.1 := by
  unfold placesD
  rw [fold_at l _ x _ isMap_empty hn]
  unfold Tp.pick
  split <;> rename_i h <;> rw [h]
  rfl
theorem places_has (l : List Pl) (x : List UInt8) : Maps.has (placesD l) (.string x) = (Tp.pick l x).2.2 := by
  unfold placesD
  rw [fold_has l _ x isMap_empty]
  unfold Tp.pick
  split <;> rename_i h <;> rw [h] <;> rfl
/-! ### names counted -/
def cntD (n : Nat) : DataW Unit := .lit (.int .i64 n)
/-- A map of names, each with how often it came. -/
structure Seen (D : DataW Unit) (ns : List (List UInt8)) : Prop where
  tidy : Tidy D
  has : ∀ x, Maps.has D (.string x) = ns.contains x
  at_ : ∀ x, D.atKey (.string x) (cntD 0) = cntD (ns.count x)
  le : Maps.size D ≤ ns.length
  nodup : Maps.size D = ns.length ↔ ns.Nodup
theorem seen_nil : Seen (.map []) [] := ⟨tidy_empty, fun _ => rfl, fun _ => rfl, by decide, by simp [Maps.size]⟩
theorem seen_put {D : DataW Unit} {ns : List (List UInt8)} (h : Seen D ns) (x : List UInt8) : Seen (D.put (.string x) (cntD (ns.count x + 1))) (ns ++ [x]) := by
  have hs := size_put h.tidy (k := .string x) (cntD (ns.count x + 1))
  rw [h.has x] at hs
  have hle := h.le
  refine ⟨h.tidy.put (strKey _) _, fun y => ?_, fun y => ?_, ?_, ?_⟩
  · by_cases e : y = x
    · subst e; rw [has_put_same h.tidy.isMap (strKey _)]; simp
    · rw [has_put_other (fun e' => e (by injection e')), h.has y]; simp [e]
  · by_cases e : y = x
    · subst e; rw [atKey_put_same h.tidy.isMap (strKey _)]; simp
    · rw [atKey_put_other (fun e' => e (by injection e')), h.at_ y]
      have : List.count y [x] = 0 := by simp [List.count_cons]; exact fun h => e h.symm
      rw [List.count_append, this]; rfl
  · rw [hs]; simp; split <;> omega
  · rw [hs, List.nodup_append]
    have hc : ns.contains x = true ↔ x ∈ ns := by simp
    constructor
    · intro hh
      split at hh
      · simp at hh; omega
      · rename_i hn
        simp at hh
        refine ⟨h.nodup.1 hh, by simp, ?_⟩
        intro a ha b hb
        simp at hb
        subst hb
        intro e
        subst e
        exact hn (hc.2 ha)
    · rintro ⟨h1, _, h2⟩
      have hn : ¬ ns.contains x = true := fun e => h2 x (hc.1 e) x (by simp) rfl
      rw [if_neg hn, h.nodup.2 h1]; simp
end Go.Proofs.YtemnlkgjgalipaaDoor
