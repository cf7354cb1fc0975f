/-
  What holds between a table and the structs that are defined: pure.
-/
import Derived.Test.YtemnlkgjgalipaaDoorRefDefine
import Derived.Test.YtemnlkgjgalipaaDoorRefField
namespace Go.Proofs.YtemnlkgjgalipaaDoor
open Go.RowKit Go.Maps Tp
set_option linter.unusedVariables false

structure TRel (T : Tab) (D : Dl) : Prop where
  good : Tp.Good T
  nodup : ∀ (i j : Nat) (a b : En), T[i]? = some a → T[j]? = some b → a.self = b.self → i = j
  six : ∀ (i : Nat) (e : En), T[i]? = some e → e.self.kind = 6 → e.self = ⟨6, 0, 0, e.self.name⟩
  dent : ∀ d ∈ D, ∃ (i : Nat) (e : En), T[i]? = some e ∧ e.self = ⟨6, 0, 0, d.1⟩
  flds : ∀ (i : Nat) (e : En), T[i]? = some e → e.self.kind = 6 → match dfind D e.self.name with
    | none => e.flds = none
    | some d => d.2.length ≤ 1000 ∧ ∃ r, layF T d.2 0 = some r ∧ e.flds = some r.1
  size : ∀ (i : Nat) (e : En), T[i]? = some e → RS T D i e.size
theorem rs_in {T : Tab} {D : Dl} {n s : Int} (h : RS T D n s) (hs : s ≠ 0) : ent T n ≠ none := by
  intro hn
  cases h with
  | out _ _ => exact hs rfl
  | void i e h _ => exact hs rfl
  | arr i e k h _ _ _ _ _ _ => rw [ent_nat, h] at hn; cases hn
  | undef i e h _ _ => exact hs rfl
  | str i e ks d h _ _ _ _ _ => rw [ent_nat, h] at hn; cases hn
  | one i e h _ => rw [ent_nat, h] at hn; cases hn
/-- What is told stays, as the table grows: but for a struct that comes to be defined. -/
theorem rs_grow {T T' : Tab} {D D' : Dl} (k : Nat) (hT : ∀ (i : Nat) (e : En), T[i]? = some e → ∃ e', T'[i]? = some e' ∧ e'.self = e.self) (hD : ∀ nm d, dfind D nm = some d → dfind D' nm = some d)
    (hN : ∀ (i : Nat) (e : En), T[i]? = some e → e.self.kind = 6 → i ≠ k → dfind D e.self.name = none → dfind D' e.self.name = none) {n s : Int} (h : RS T D n s) : ent T n ≠ none → (n ≠ (k : Int) ∨ s ≠ 0) → RS T' D' n s := by
  induction h with
  | out n h => intro hn; exact absurd h hn
  | void i e h hk =>
    intro _ _
    obtain ⟨e', h', hs⟩ := hT i e h
    exact .void i e' h' (by rw [hs]; exact hk)
  | arr i e c h hk hr h0 h1 h2 h3 ih =>
    intro _ _
    obtain ⟨e', h', hs⟩ := hT i e h
    have := ih (rs_in hr (by omega)) (.inr (by omega))
    rw [← hs] at this h2 h3 ⊢
    exact .arr i e' c h' (by rw [hs]; exact hk) this h0 h1 h2 h3
  | undef i e h hk hd =>
    intro _ hne
    obtain ⟨e', h', hs⟩ := hT i e h
    have hik : i ≠ k := by
      rcases hne with hne | hne
      · intro e; exact hne (by rw [e])
      · exact absurd rfl hne
    exact .undef i e' h' (by rw [hs]; exact hk) (by rw [hs]; exact hN i e h hk hik hd)
  | str i e ks d h hk hd hr h0 hl ih =>
    intro _ _
    obtain ⟨e', h', hs⟩ := hT i e h
    refine .str i e' ks d h' (by rw [hs]; exact hk) (by rw [hs]; exact hD _ _ hd) (fun j f hj => ?_) h0 hl
    have hj' : j < d.2.length := (List.getElem?_eq_some_iff.1 hj).1
    have := h0 j hj'
    exact ih j f hj (rs_in (hr j f hj) (by omega)) (.inr (by omega))
  | one i e h hk =>
    intro _ _
    obtain ⟨e', h', hs⟩ := hT i e h
    exact .one i e' h' (by rw [hs]; exact hk)
theorem TRel.rs {T : Tab} {D : Dl} (h : TRel T D) (n : Int) : RS T D n (Tp.sizeOf T n) := by
  unfold Tp.sizeOf
  cases hn : ent T n with
  | none => exact .out n hn
  | some e =>
    obtain ⟨i, rfl, _, hi⟩ := ent_some hn
    exact h.size i e hi
theorem layF_pos {T : Tab} : ∀ {l : List Fl} {o : Int} {r : List Pl × Int}, layF T l o = some r → ∀ f ∈ l, 0 < Tp.sizeOf T f.2
  | [], _, _, _, f, hf => by cases hf
  | a :: l, o, r, h, f, hf => by
    unfold layF at h
    split at h
    · cases h
    · rename_i ha
      cases hl : layF T l (o + Tp.sizeOf T a.2) with
      | none => rw [hl] at h; cases h
      | some q =>
        rcases List.mem_cons.1 hf with rfl | hf
        · omega
        · exact layF_pos hl f hf
/-- Fields that have a size are laid alike where those sizes stay. -/
theorem layF_keep {T T' : Tab} : ∀ {l : List Fl} {o : Int}, (∀ f ∈ l, Tp.sizeOf T' f.2 = Tp.sizeOf T f.2) → layF T' l o = layF T l o
  | [], _, _ => rfl
  | a :: l, o, h => by
    unfold layF
    rw [h a (List.mem_cons_self), layF_keep (fun f hf => h f (List.mem_cons_of_mem _ hf))]
def ksOf (T : Tab) (l : List Fl) : Nat → Int := fun j => Tp.sizeOf T (l.getD j ([], 0)).2
theorem ksOf_at {T : Tab} {l : List Fl} {j : Nat} {f : Fl} (h : l[j]? = some f) : ksOf T l j = Tp.sizeOf T f.2 := by
  unfold ksOf
  rw [List.getD_eq_getElem?_getD, h]
  rfl
theorem layF_sm {T : Tab} {l : List Fl} {r : List Pl × Int} (h : layF T l 0 = some r) : ∀ k, k ≤ l.length → ∃ ps, layF T (l.take k) 0 = some (ps, sm (ksOf T l) k) ∧ ∀ nm, pick ps nm = rpick (l.take k) (ksOf T l) nm
  | 0, _ => ⟨[], rfl, fun nm => rfl⟩
  | k + 1, hk => by
    obtain ⟨ps, h1, h2⟩ := layF_sm h k (by omega)
    obtain ⟨f, hf⟩ : ∃ f, l[k]? = some f := ⟨_, List.getElem?_eq_getElem (by omega)⟩
    have hs := layF_step h1 hf (layF_pos h f (List.mem_of_getElem? hf))
    rw [← ksOf_at (l := l) hf] at hs
    refine ⟨_, hs, fun nm => ?_⟩
    have h3 := h2 nm
    unfold pick rpick at h3 ⊢
    rw [List.find?_append, List.take_add_one, hf, fidx_append]
    have hkl : (l.take k).length = k := by simp; omega
    cases hp : ps.find? (fun f => f.1 = nm) with
    | some p =>
      rw [hp] at h3
      simp only [Option.some_or]
      cases hx : fidx (l.take k) nm with
      | none => rw [hx] at h3; simp at h3
      | some j =>
        rw [hx] at h3
        simp only at h3 ⊢
        rw [h3]
        have hj : j < (l.take k).length := by
          have : ∀ (A : List Fl) (j : Nat), fidx A nm = some j → j < A.length := by
            intro A
            induction A with
            | nil => intro j h; cases h
            | cons a A ih =>
              intro j h
              unfold fidx at h
              split at h
              · injection h with h; subst h; simp
              · cases hA : fidx A nm with
                | none => rw [hA] at h; cases h
                | some q =>
                  rw [hA] at h
                  injection h with h
                  have h : q + 1 = j := h
                  have := ih q hA
                  simp; omega
          exact this _ _ hx
        simp only [List.getD_eq_getElem?_getD, Option.toList_some]
        rw [List.getElem?_append_left hj]
    | none =>
      rw [hp] at h3
      cases hx : fidx (l.take k) nm with
      | some j => rw [hx] at h3; simp at h3
      | none =>
        simp only [Option.none_or, Option.toList_some]
        by_cases hn : f.1 = nm
        · simp [fidx, hn, hkl, List.getD_eq_getElem?_getD]
        · simp [fidx, hn]
theorem layF_all {T : Tab} {l : List Fl} {r : List Pl × Int} (h : layF T l 0 = some r) : r.2 = sm (ksOf T l) l.length ∧ ∀ nm, pick r.1 nm = rpick l (ksOf T l) nm := by
  obtain ⟨ps, h1, h2⟩ := layF_sm h l.length (Nat.le_refl _)
  rw [List.take_length] at h1 h2
  rw [h] at h1
  injection h1 with h1
  subst h1
  exact ⟨rfl, h2⟩
end Go.Proofs.YtemnlkgjgalipaaDoor
