/-
  The grammar's functions come to an end with enough fuel, and what they leave is as it should be: on lists, of no program.
  The whole grammar comes to an end with enough fuel, and what it leaves is as it should be: on lists, of no program.
  The same of expressions, statements and wholes.
  The same of statements and wholes.
-/
import Derived.Test.YtaamllikceaifaaGreatDoorGram
namespace Go.Proofs.YtaamllikceaifaaGreatDoor.Tr
open Sp
set_option linter.unusedVariables false

/-- What holds of a node that stands at i. -/
structure NdOk (P : Int) (T i : Nat) (x : Nd) : Prop where
  a : -1 ≤ x.a ∧ x.a < i
  b : -1 ≤ x.b ∧ x.b < i
  c : -1 ≤ x.c ∧ x.c < i
  d : -1 ≤ x.d ∧ x.d < i
  ty : 0 ≤ x.ty ∧ x.ty < T
  pos : 0 ≤ x.pos ∧ x.pos ≤ P
  kind : 1 ≤ x.kind ∧ x.kind ≤ 53
/-- What holds of a state. -/
structure Fit (E : PE) (P : Int) (s : S) : Prop where
  most : s.read ≤ E.toks.length
  nodes : ∀ (i : Nat) (x : Nd), s.nodes[i]? = some x → NdOk P s.types.length i x
  base : 4 ≤ s.types.length
  first : s.types.take 4 = start0.types
  types : ∀ (i : Nat) (x : Ty), s.types[i]? = some x → 4 ≤ i → x.elem < (i : Int)
/-- What holds of the tokens. -/
structure PEOk (E : PE) (P : Int) : Prop where
  fin : E.fin.k = 0
  pos : ∀ s, 0 ≤ here E s ∧ here E s ≤ P
  few : E.toks.length < big
/-- How a state grows. -/
structure Mv (E : PE) (P : Int) (s s' : S) : Prop where
  depth : s'.depth = s.depth
  read : s.read ≤ s'.read
  nodes : s.nodes.length ≤ s'.nodes.length
  types : s.types.length ≤ s'.types.length
  st : Fit E P s'
theorem Mv.trans {E : PE} {P : Int} {a b c : S} (h : Mv E P a b) (k : Mv E P b c) : Mv E P a c :=
  ⟨k.depth.trans h.depth, Nat.le_trans h.read k.read, Nat.le_trans h.nodes k.nodes, Nat.le_trans h.types k.types, k.st⟩
theorem Mv.refl {E : PE} {P : Int} {a : S} (h : Fit E P a) : Mv E P a a := ⟨rfl, Nat.le_refl _, Nat.le_refl _, Nat.le_refl _, h⟩
def Fine {α : Type} (E : PE) (P : Int) (s : S) (r : Res α) (Q : α → S → Prop) : Prop := match r with
  | .ok a s' => Mv E P s s' ∧ Q a s'
  | .bad e s' => e ≠ 0 ∧ s'.depth = s.depth
  | .out => False
theorem Fine.bind {α β : Type} {E : PE} {P : Int} {s : S} {r : Res α} {k : α → S → Res β} {Q : α → S → Prop} {R : β → S → Prop} (h : Fine E P s r Q)
    (hk : ∀ a s', Mv E P s s' → Q a s' → Fine E P s' (k a s') R) : Fine E P s (r.bind k) R := by
  cases r with
  | ok a s' =>
    have h2 := hk a s' h.1 h.2
    show Fine E P s (k a s') R
    cases hr : k a s' with
    | ok b s'' => rw [hr] at h2; exact ⟨h.1.trans h2.1, h2.2⟩
    | bad e s'' => rw [hr] at h2; exact ⟨h2.1, h2.2.trans h.1.depth⟩
    | out => rw [hr] at h2; exact h2
  | bad e s' => exact h
  | out => exact h
theorem Fine.mono {α : Type} {E : PE} {P : Int} {s : S} {r : Res α} {Q R : α → S → Prop} (h : Fine E P s r Q) (hk : ∀ a s', Mv E P s s' → Q a s' → R a s') : Fine E P s r R := by
  cases r with
  | ok a s' => exact ⟨h.1, hk _ _ h.1 h.2⟩
  | bad e s' => exact h
  | out => exact h
theorem Fine.ok {α : Type} {E : PE} {P : Int} {s : S} {a : α} {Q : α → S → Prop} (hs : Fit E P s) (h : Q a s) : Fine E P s (.ok a s) Q := ⟨Mv.refl hs, h⟩
theorem Fine.bad {α : Type} {E : PE} {P : Int} {s : S} {e : Int} {Q : α → S → Prop} (h : e ≠ 0) : Fine E P s (.bad e s : Res α) Q := ⟨h, rfl⟩

section
variable {E : PE} {P : Int} {s : S} {x : List UInt8} {k : Int}
theorem now_in (hE : PEOk E P) (h : (nowT E s).k ≠ 0) : s.read < E.toks.length := by
  rcases Nat.lt_or_ge s.read E.toks.length with h1 | h1
  · exact h1
  · refine absurd ?_ h
    unfold nowT ahd
    rw [List.getD_eq_getElem?_getD, List.getElem?_eq_none (by simpa using h1)]
    exact hE.fin
theorem isT_in (hE : PEOk E P) (h : isT E s x = true) : s.read < E.toks.length := by
  refine now_in hE fun h0 => ?_
  unfold isT sameT at h
  rw [h0] at h
  simp at h
theorem sgn_in (hE : PEOk E P) (h : sgn E s ≠ []) : s.read < E.toks.length := by
  refine now_in hE fun h0 => h ?_
  unfold sgn
  rw [h0]
  simp
theorem take_f (hE : PEOk E P) (hs : Fit E P s) (h : s.read < E.toks.length) : Fine E P s (takeM E s) (fun t s' => s'.read = s.read + 1) := by
  unfold takeM
  have := hE.few
  split
  · exact Fine.bad (by decide)
  · rw [if_pos (by omega)]
    exact ⟨⟨rfl, by simp, Nat.le_refl _, Nat.le_refl _, ⟨by simp; omega, hs.nodes, hs.base, hs.first, hs.types⟩⟩, rfl⟩
theorem took_f (hE : PEOk E P) (hs : Fit E P s) : Fine E P s (tookM E x s) (fun b s' => b = true → s.read < s'.read) := by
  unfold tookM
  split
  · rename_i h
    exact (take_f hE hs (isT_in hE h)).bind fun _ s1 hm h1 => Fine.ok hm.st (fun _ => by omega)
  · exact Fine.ok hs (by simp)
theorem need_f (hE : PEOk E P) (hs : Fit E P s) : Fine E P s (needM E x s) (fun _ s' => s.read < s'.read) := by
  unfold needM
  refine (took_f hE hs).bind fun b s1 hm h1 => ?_
  cases b with
  | true => exact Fine.ok hm.st (h1 rfl)
  | false => exact Fine.bad (by decide)
theorem kind_f (hE : PEOk E P) (hs : Fit E P s) (hk : k ≠ 0) : Fine E P s (kindM E k s) (fun _ s' => s.read < s'.read) := by
  unfold kindM
  split
  · rename_i h
    exact (take_f hE hs (now_in hE (by omega))).mono fun _ s1 hm h1 => by omega
  · exact Fine.bad (by decide)
theorem name_f (hE : PEOk E P) (hs : Fit E P s) : Fine E P s (nameM E s) (fun _ s' => s.read < s'.read) :=
  (kind_f hE hs (by decide)).bind fun _ s1 hm h1 => Fine.ok hm.st h1
theorem number_f (hE : PEOk E P) (hs : Fit E P s) : Fine E P s (numberM E s) (fun _ s' => s.read < s'.read) :=
  (kind_f hE hs (by decide)).bind fun _ s1 hm h1 => Fine.ok hm.st h1
theorem signed_f (hE : PEOk E P) (hs : Fit E P s) : Fine E P s (signedM E s) (fun _ s' => s.read < s'.read) := by
  refine (took_f hE hs).bind fun b s1 hm h1 => ?_
  have := hm.read
  cases b with
  | true => exact (number_f hE hm.st).bind fun _ s2 hm2 h2 => Fine.ok hm2.st (by omega)
  | false => exact (number_f hE hm.st).mono fun _ s2 hm2 h2 => by omega
theorem add_f {n : Nd} (hs : Fit E P s) (hn : NdOk P s.types.length s.nodes.length n) : Fine E P s (addM n s) (fun a s' => 0 ≤ a ∧ a < s'.nodes.length) := by
  unfold addM
  split
  · refine ⟨⟨rfl, Nat.le_refl _, by simp, Nat.le_refl _, ⟨hs.most, ?_, hs.base, hs.first, hs.types⟩⟩, by simp; omega⟩
    intro i y hy
    simp only at hy ⊢
    rcases Nat.lt_or_ge i s.nodes.length with h | h
    · exact hs.nodes i y (by rwa [List.getElem?_append_left h] at hy)
    · rw [List.getElem?_append_right h] at hy
      have h0 : i - s.nodes.length = 0 := by
        rcases Nat.eq_zero_or_pos (i - s.nodes.length) with h | h
        · exact h
        · rw [List.getElem?_eq_none (by simp; omega)] at hy; cases hy
      rw [h0] at hy
      simp at hy
      subst hy
      have : i = s.nodes.length := by omega
      rw [this]
      exact hn
  · exact Fine.bad (by decide)
theorem findT_lt : ∀ (T : List Ty) (t : Ty) (i : Nat), findT T t = some i → i < T.length
  | [], t, i, h => by cases h
  | e :: T, t, i, h => by
    unfold findT at h
    split at h
    · injection h with h; subst h; simp
    · cases hq : findT T t with
      | none => rw [hq] at h; cases h
      | some j => rw [hq] at h; injection h with h; subst h; have := findT_lt T t j hq; simp; omega
theorem numbered_f {t : Ty} (hs : Fit E P s) (ht : t.elem < s.types.length) : Fine E P s (numberedM t s) (fun a s' => 0 ≤ a ∧ a < s'.types.length) := by
  unfold numberedM
  split
  · rename_i i h
    have := findT_lt _ _ _ h
    exact Fine.ok hs (by omega)
  · split
    · refine ⟨⟨rfl, Nat.le_refl _, Nat.le_refl _, by simp, ⟨hs.most, ?_, by simp; have := hs.base; omega, ?_, ?_⟩⟩, by simp; omega⟩
      · intro i y hy
        have h := hs.nodes i y hy
        exact ⟨h.a, h.b, h.c, h.d, ⟨h.ty.1, by have := h.ty.2; simp; omega⟩, h.pos, h.kind⟩
      · simp only
        rw [List.take_append_of_le_length hs.base]
        exact hs.first
      · intro i y hy h4
        simp only at hy
        rcases Nat.lt_or_ge i s.types.length with h | h
        · exact hs.types i y (by rwa [List.getElem?_append_left h] at hy) h4
        · rw [List.getElem?_append_right h] at hy
          have h0 : i - s.types.length = 0 := by
            rcases Nat.eq_zero_or_pos (i - s.types.length) with h | h
            · exact h
            · rw [List.getElem?_eq_none (by simp; omega)] at hy; cases hy
          rw [h0] at hy
          simp at hy
          subst hy
          omega
    · exact Fine.bad (by decide)
theorem deep_f {m : S → Res Int} {Q : Int → S → Prop} (hs : Fit E P s) (hd : s.depth < big) (hm : Fit E P { s with depth := s.depth + 1 } → Fine E P { s with depth := s.depth + 1 } (m { s with depth := s.depth + 1 }) Q)
    (hq : ∀ a s' d, Q a s' → Q a { s' with depth := d }) : Fine E P s (deepM m s) Q := by
  unfold deepM
  rw [if_pos hd]
  have h := hm ⟨hs.most, hs.nodes, hs.base, hs.first, hs.types⟩
  cases hr : m { s with depth := s.depth + 1 } with
  | ok a s1 =>
    rw [hr] at h
    have hz := h.1.depth
    simp only at hz
    dsimp only
    rw [if_pos hz]
    have hst := h.1.st
    exact ⟨⟨rfl, h.1.read, h.1.nodes, h.1.types, ⟨hst.most, hst.nodes, hst.base, hst.first, hst.types⟩⟩, hq _ _ _ h.2⟩
  | bad e s1 =>
    rw [hr] at h
    have hz := h.2
    simp only at hz
    dsimp only
    rw [if_pos hz]
    exact ⟨h.1, rfl⟩
  | out => rw [hr] at h; exact h
theorem listR_f : ∀ (xs : List Int) (rest : Int) (s : S), Fit E P s → (∀ x ∈ xs, 0 ≤ x ∧ x < s.nodes.length) → -1 ≤ rest → rest < s.nodes.length →
    Fine E P s (listRM xs rest s) (fun a s' => -1 ≤ a ∧ a < s'.nodes.length)
  | [], rest, s, hs, _, h1, h2 => Fine.ok hs ⟨h1, h2⟩
  | x :: xs, rest, s, hs, h, h1, h2 => by
    unfold listRM
    have hx := h x (by simp)
    rw [if_neg (by omega)]
    obtain ⟨nd, hnd⟩ : ∃ nd, s.nodes[x.toNat]? = some nd := ⟨_, List.getElem?_eq_getElem (by omega)⟩
    rw [hnd]
    dsimp only
    have hp := (hs.nodes _ _ hnd).pos
    have hb := hs.base
    refine (add_f hs ⟨by simp; omega, by simp; omega, by simp; omega, by simp; omega, by simp; omega, by simpa using hp, by simp⟩).bind fun r s1 hm hr => ?_
    have hn := hm.nodes
    exact listR_f xs r s1 hm.st (fun y hy => by have := h y (by simp [hy]); omega) (by omega) (by omega)
theorem list_f {xs : List Int} (hs : Fit E P s) (h : ∀ x ∈ xs, 0 ≤ x ∧ x < s.nodes.length) : Fine E P s (listM xs s) (fun a s' => -1 ≤ a ∧ a < s'.nodes.length) :=
  listR_f _ _ _ hs (fun x hx => h x (by simpa using hx)) (by omega) (by omega)
end
end Go.Proofs.YtaamllikceaifaaGreatDoor.Tr
namespace Go.Proofs.YtaamllikceaifaaGreatDoor.Tr
open Sp
set_option linter.unusedVariables false

def rank : NTm → Nat
  | .ex => 3
  | .ch => 2
  | .bi _ => 1
  | .pr => 0
  | .st => 4
def leastOk : NTm → Prop
  | .bi l => 1 ≤ l
  | _ => True
/-- A node's number, of something that is not empty. -/
abbrev Nt (s : S) : Int → S → Prop := fun a s' => 0 ≤ a ∧ a < (s'.nodes.length : Int) ∧ s.read < s'.read
abbrev Tt (s : S) : Int → S → Prop := fun a s' => 0 ≤ a ∧ a < (s'.types.length : Int) ∧ s.read < s'.read
def RecOk (E : PE) (P : Int) (f : Nat) (rec : NTm → S → Res Int) : Prop :=
  ∀ (nt : NTm) (s : S), Fit E P s → s.depth + f < big → 5 * (E.toks.length - s.read) + rank nt + 1 ≤ f → leastOk nt → Fine E P s (rec nt s) (Nt s)

theorem tookThen {β : Type} {E : PE} {P : Int} {s : S} {r : Res Bool} {k : Bool → S → Res β} {R : β → S → Prop} (h : Fine E P s r (fun b s' => b = true → s.read < s'.read))
    (h1 : ∀ s', Mv E P s s' → s.read < s'.read → Fine E P s' (k true s') R) (h2 : ∀ s', Mv E P s s' → s.read ≤ s'.read → Fine E P s' (k false s') R) : Fine E P s (r.bind k) R :=
  h.bind fun b s' hm hq => by
    cases b with
    | true => exact h1 s' hm (hq rfl)
    | false => exact h2 s' hm hm.read

section
variable {E : PE} {P : Int} {s : S} {f : Nat} {rec : NTm → S → Res Int}
theorem plain_f (hE : PEOk E P) (hs : Fit E P s) : Fine E P s (plainM E s) (Tt s) := by
  unfold plainM
  have := hs.base
  ((with_reducible refine tookThen (took_f (by assumption) (by assumption)) ?_ ?_ <;> rintro _ ⟨_, _, _, _, hst⟩ _ <;> (have := hst.base; have := hst.most; simp only [Bool.false_eq_true, if_false, if_true])))
  · (exact Fine.ok (by assumption) (by first | trivial | omega))
  ((with_reducible refine tookThen (took_f (by assumption) (by assumption)) ?_ ?_ <;> rintro _ ⟨_, _, _, _, hst⟩ _ <;> (have := hst.base; have := hst.most; simp only [Bool.false_eq_true, if_false, if_true])))
  · (exact Fine.ok (by assumption) (by first | trivial | omega))
  ((with_reducible refine tookThen (took_f (by assumption) (by assumption)) ?_ ?_ <;> rintro _ ⟨_, _, _, _, hst⟩ _ <;> (have := hst.base; have := hst.most; simp only [Bool.false_eq_true, if_false, if_true])))
  · (exact Fine.ok (by assumption) (by first | trivial | omega))
  ((with_reducible refine tookThen (took_f (by assumption) (by assumption)) ?_ ?_ <;> rintro _ ⟨_, _, _, _, hst⟩ _ <;> (have := hst.base; have := hst.most; simp only [Bool.false_eq_true, if_false, if_true])))
  · (exact Fine.ok (by assumption) (by first | trivial | omega))
  ((with_reducible refine Fine.bind (need_f (by assumption) (by assumption)) ?_; ((rintro _ _ ⟨_, _, _, _, hst⟩ _; have := hst.base; have := hst.most))))
  ((with_reducible refine Fine.bind (name_f (by assumption) (by assumption)) ?_; ((rintro _ _ ⟨_, _, _, _, hst⟩ _; have := hst.base; have := hst.most))))
  exact (numbered_f (by assumption) (by dsimp only; omega)).mono fun a s' hm hq => by have := hm.read; omega
theorem stars_f (hE : PEOk E P) : ∀ (f : Nat) (t : Int) (s : S), Fit E P s → 0 ≤ t → t < s.types.length → E.toks.length - s.read < f →
    Fine E P s (starsM f E t s) (fun a s' => 0 ≤ a ∧ a < (s'.types.length : Int))
  | 0, t, s, hs, h0, h1, h => absurd h (by omega)
  | f + 1, t, s, hs, h0, h1, h => by
    unfold starsM
    ((with_reducible refine tookThen (took_f (by assumption) (by assumption)) ?_ ?_ <;> rintro _ ⟨_, _, _, _, hst⟩ _ <;> (have := hst.base; have := hst.most; simp only [Bool.false_eq_true, if_false, if_true])))
    · with_reducible refine Fine.bind (numbered_f (by assumption) (by dsimp only; omega)) ?_
      ((rintro _ _ ⟨_, _, _, _, hst⟩ _; have := hst.base; have := hst.most))
      exact stars_f hE f _ _ (by assumption) (by omega) (by omega) (by omega)
    · (exact Fine.ok (by assumption) (by first | trivial | omega))
theorem typed_f (hE : PEOk E P) (hs : Fit E P s) (hf : E.toks.length - s.read ≤ f) : Fine E P s (typedM f E s) (Tt s) := by
  unfold typedM
  refine (plain_f hE hs).bind ?_
  ((rintro _ _ ⟨_, _, _, _, hst⟩ _; have := hst.base; have := hst.most))
  exact (stars_f hE f _ _ (by assumption) (by omega) (by omega) (by omega)).mono fun a s' hm hq => by have := hm.read; omega
theorem counted_f {t : Int} (hE : PEOk E P) (hs : Fit E P s) (h0 : 0 ≤ t) (h1 : t < s.types.length) : Fine E P s (countedM E t s) (fun a s' => 0 ≤ a ∧ a < (s'.types.length : Int)) := by
  unfold countedM
  ((with_reducible refine tookThen (took_f (by assumption) (by assumption)) ?_ ?_ <;> rintro _ ⟨_, _, _, _, hst⟩ _ <;> (have := hst.base; have := hst.most; simp only [Bool.false_eq_true, if_false, if_true])))
  · ((with_reducible refine Fine.bind (number_f (by assumption) (by assumption)) ?_; ((rintro _ _ ⟨_, _, _, _, hst⟩ _; have := hst.base; have := hst.most))))
    ((with_reducible refine Fine.bind (need_f (by assumption) (by assumption)) ?_; ((rintro _ _ ⟨_, _, _, _, hst⟩ _; have := hst.base; have := hst.most))))
    exact numbered_f (by assumption) (by dsimp only; omega)
  · (exact Fine.ok (by assumption) (by first | trivial | omega))

/-! ### Lists -/
abbrev Its : List Int → S → Prop := fun xs s' => ∀ x ∈ xs, 0 ≤ x ∧ x < (s'.nodes.length : Int)
theorem Its.cons {x : Int} {xs : List Int} {s : S} (h0 : 0 ≤ x) (h1 : x < s.nodes.length) (h : Its xs s) : Its (x :: xs) s := by
  intro y hy
  rcases List.mem_cons.1 hy with rfl | hy
  · exact ⟨h0, h1⟩
  · exact h y hy
theorem sts_f {m : S → Res Int} (hE : PEOk E P) : ∀ (k : Nat) (s : S), Fit E P s → (∀ s', Fit E P s' → s'.depth = s.depth → s.read ≤ s'.read → Fine E P s' (deepM m s') (Nt s')) → E.toks.length - s.read < k →
    Fine E P s (stsM k m E s) Its
  | 0, s, hs, hm, h => absurd h (by omega)
  | k + 1, s, hs, hm, h => by
    unfold stsM
    split
    · exact Fine.ok hs (fun x hx => by cases hx)
    · refine (hm s hs rfl (Nat.le_refl _)).bind ?_
      rintro x s1 ⟨d1, r1, n1, t1, hst⟩ ⟨q1, q2, q3⟩
      have := hst.most
      refine (sts_f hE k s1 hst (fun s' h1 h2 h3 => hm s' h1 (by omega) (by omega)) (by omega)).bind ?_
      rintro xs s2 ⟨d2, r2, n2, t2, hst2⟩ hx
      exact Fine.ok hst2 (Its.cons q1 (by omega) hx)
theorem wholes_f {m : S → Res Int} (hE : PEOk E P) : ∀ (k : Nat) (s : S), Fit E P s → (∀ s', Fit E P s' → s'.depth = s.depth → s.read ≤ s'.read → s'.read < E.toks.length → Fine E P s' (m s') (Nt s')) → E.toks.length - s.read < k →
    Fine E P s (wholesM k m E s) Its
  | 0, s, hs, hm, h => absurd h (by omega)
  | k + 1, s, hs, hm, h => by
    unfold wholesM
    split
    · rename_i hlt
      refine (hm s hs rfl (Nat.le_refl _) hlt).bind ?_
      rintro x s1 ⟨d1, r1, n1, t1, hst⟩ ⟨q1, q2, q3⟩
      have := hst.most
      refine (wholes_f hE k s1 hst (fun s' h1 h2 h3 h4 => hm s' h1 (by omega) (by omega) h4) (by omega)).bind ?_
      rintro xs s2 ⟨d2, r2, n2, t2, hst2⟩ hx
      exact Fine.ok hst2 (Its.cons q1 (by omega) hx)
    · exact Fine.ok hs (fun x hx => by cases hx)
theorem fields_f {m : S → Res Int} (hE : PEOk E P) : ∀ (k : Nat) (s : S), Fit E P s → (∀ s', Fit E P s' → s'.depth = s.depth → s.read ≤ s'.read → Fine E P s' (m s') (Nt s')) → E.toks.length - s.read < k →
    Fine E P s (fieldsM k m E s) Its
  | 0, s, hs, hm, h => absurd h (by omega)
  | k + 1, s, hs, hm, h => by
    unfold fieldsM
    refine (hm s hs rfl (Nat.le_refl _)).bind ?_
    rintro x s1 ⟨d1, r1, n1, t1, hst⟩ ⟨q1, q2, q3⟩
    have := hst.most
    split
    · exact Fine.ok hst (Its.cons q1 q2 (fun x hx => by cases hx))
    · refine (fields_f hE k s1 hst (fun s' h1 h2 h3 => hm s' h1 (by omega) (by omega)) (by omega)).bind ?_
      rintro xs s2 ⟨d2, r2, n2, t2, hst2⟩ hx
      exact Fine.ok hst2 (Its.cons q1 (by omega) hx)
theorem commas_f {m : S → Res Int} (hE : PEOk E P) : ∀ (k : Nat) (more : Bool) (s : S), Fit E P s → (∀ s', Fit E P s' → s'.depth = s.depth → s.read ≤ s'.read → Fine E P s' (m s') (Nt s')) → E.toks.length - s.read < k →
    Fine E P s (commasM k more m E s) Its
  | 0, more, s, hs, hm, h => absurd h (by omega)
  | k + 1, more, s, hs, hm, h => by
    unfold commasM
    split
    · refine (hm s hs rfl (Nat.le_refl _)).bind ?_
      rintro x s1 ⟨d1, r1, n1, t1, hst⟩ ⟨q1, q2, q3⟩
      have := hst.most
      refine (took_f hE hst).bind ?_
      rintro b s2 ⟨d2, r2, n2, t2, hst2⟩ -
      have := hst2.most
      refine (commas_f hE k b s2 hst2 (fun s' h1 h2 h3 => hm s' h1 (by omega) (by omega)) (by omega)).bind ?_
      rintro xs s3 ⟨d3, r3, n3, t3, hst3⟩ hx
      exact Fine.ok hst3 (Its.cons q1 (by omega) hx)
    · exact Fine.ok hs (fun x hx => by cases hx)
theorem bind_list {r : Res (List Int)} (h : Fine E P s r Its) : Fine E P s (r.bind listM) (fun a s' => -1 ≤ a ∧ a < (s'.nodes.length : Int)) :=
  h.bind fun xs s' hm hx => list_f hm.st hx
end
end Go.Proofs.YtaamllikceaifaaGreatDoor.Tr
namespace Go.Proofs.YtaamllikceaifaaGreatDoor.Tr
open Sp
set_option linter.unusedVariables false

section
variable {E : PE} {P : Int} {s : S} {f : Nat} {rec : NTm → S → Res Int}
theorem deepRec_f {nt : NTm} (hR : RecOk E P f rec) (hs : Fit E P s) (hd : s.depth + 1 + f < big) (hf : 5 * (E.toks.length - s.read) + rank nt + 1 ≤ f) (hl : leastOk nt) : Fine E P s (deepM (rec nt) s) (Nt s) :=
  deep_f hs (by omega) (fun h => hR nt _ h (by simpa using hd) (by simpa using hf) hl) (fun _ _ _ h => h)
theorem assigns_in (hE : PEOk E P) (h : assignsL.contains (sgn E s) = true) : s.read < E.toks.length :=
  sgn_in hE (fun h0 => by rw [h0] at h; exact absurd h (by decide))
theorem fronts_in (hE : PEOk E P) (h : frontsA.contains (sgn E s) = true) : s.read < E.toks.length :=
  sgn_in hE (fun h0 => by rw [h0] at h; exact absurd h (by decide))
theorem is_in {x : List UInt8} (hE : PEOk E P) (h : sgn E s = x) (hx : x ≠ []) : s.read < E.toks.length := sgn_in hE (by rw [h]; exact hx)
theorem or_in {x y : List UInt8} (hE : PEOk E P) (h : sgn E s = x ∨ sgn E s = y) (hx : x ≠ []) (hy : y ≠ []) : s.read < E.toks.length := by
  rcases h with h | h
  · exact is_in hE h hx
  · exact is_in hE h hy
theorem strength_nil : strength [] = 0 := by decide
theorem strength_ge (x : List UInt8) : 0 ≤ strength x := by
  unfold strength
  repeat (first | split | omega)
theorem ex_f (hE : PEOk E P) (hR : RecOk E P f rec) (hs : Fit E P s) (hd : s.depth + 1 + f < big) (hf : 5 * (E.toks.length - s.read) + 3 ≤ f) : Fine E P s (exM rec E s) (Nt s) := by
  unfold exM
  refine (hR .ch s hs (by omega) (by simp only [rank]; omega) trivial).bind ?_
  ((rintro _ _ ⟨_, _, _, _, hst⟩ _; have := hst.base; have := hst.most))
  split
  · rename_i h
    have hlt := assigns_in hE h
    ((with_reducible refine Fine.bind (take_f (by assumption) (by assumption) (by first | assumption | omega)) ?_; ((rintro _ _ ⟨_, _, _, _, hst⟩ _; have := hst.base; have := hst.most))))
    ((with_reducible refine Fine.bind (deepRec_f (by assumption) (by assumption) (by omega) (by simp only [rank]; omega) (by simp only [leastOk])) ?_; ((rintro _ _ ⟨_, _, _, _, hst⟩ _; have := hst.base; have := hst.most))))
    (exact (add_f (by assumption) ⟨by dsimp only; omega, by dsimp only; omega, by dsimp only; omega, by dsimp only; omega, by dsimp only; omega, PEOk.pos (by assumption) _, by dsimp only; omega⟩).mono (fun a s' hm hq => by have := hm.read; omega))
  · (exact Fine.ok (by assumption) (by first | trivial | omega))
theorem ch_f (hE : PEOk E P) (hR : RecOk E P f rec) (hs : Fit E P s) (hd : s.depth + 1 + f < big) (hf : 5 * (E.toks.length - s.read) + 2 ≤ f) : Fine E P s (chM rec E s) (Nt s) := by
  unfold chM
  refine (hR (.bi 2) s hs (by omega) (by simp only [rank]; omega) (by simp [leastOk])).bind ?_
  ((rintro _ _ ⟨_, _, _, _, hst⟩ _; have := hst.base; have := hst.most))
  split
  · rename_i h
    have hlt := isT_in hE h
    ((with_reducible refine Fine.bind (take_f (by assumption) (by assumption) (by first | assumption | omega)) ?_; ((rintro _ _ ⟨_, _, _, _, hst⟩ _; have := hst.base; have := hst.most))))
    ((with_reducible refine Fine.bind (deepRec_f (by assumption) (by assumption) (by omega) (by simp only [rank]; omega) (by simp only [leastOk])) ?_; ((rintro _ _ ⟨_, _, _, _, hst⟩ _; have := hst.base; have := hst.most))))
    ((with_reducible refine Fine.bind (need_f (by assumption) (by assumption)) ?_; ((rintro _ _ ⟨_, _, _, _, hst⟩ _; have := hst.base; have := hst.most))))
    ((with_reducible refine Fine.bind (deepRec_f (by assumption) (by assumption) (by omega) (by simp only [rank]; omega) (by simp only [leastOk])) ?_; ((rintro _ _ ⟨_, _, _, _, hst⟩ _; have := hst.base; have := hst.most))))
    (exact (add_f (by assumption) ⟨by dsimp only; omega, by dsimp only; omega, by dsimp only; omega, by dsimp only; omega, by dsimp only; omega, PEOk.pos (by assumption) _, by dsimp only; omega⟩).mono (fun a s' hm hq => by have := hm.read; omega))
  · (exact Fine.ok (by assumption) (by first | trivial | omega))
theorem biL_f (hE : PEOk E P) (hR : RecOk E P f rec) : ∀ (g : Nat) (least left : Int) (s : S), Fit E P s → s.depth + 1 + f < big → 5 * (E.toks.length - s.read) + 1 ≤ f → 1 ≤ least → 0 ≤ left → left < s.nodes.length → E.toks.length - s.read < g →
    Fine E P s (biML rec E g least left s) (fun a s' => 0 ≤ a ∧ a < (s'.nodes.length : Int))
  | 0, least, left, s, hs, hd, hf, hl, h0, h1, hg => absurd hg (by omega)
  | g + 1, least, left, s, hs, hd, hf, hl, h0, h1, hg => by
    unfold biML
    split
    · (exact Fine.ok (by assumption) (by first | trivial | omega))
    · rename_i h
      have hlt : s.read < E.toks.length := sgn_in hE (fun h0 => by rw [h0, strength_nil] at h; omega)
      have hsg := strength_ge (sgn E s)
      ((with_reducible refine Fine.bind (take_f (by assumption) (by assumption) (by first | assumption | omega)) ?_; ((rintro _ _ ⟨_, _, _, _, hst⟩ _; have := hst.base; have := hst.most))))
      refine (hR (.bi _) _ (by assumption) (by omega) (by simp only [rank]; omega) (by simp only [leastOk]; omega)).bind ?_
      ((rintro _ _ ⟨_, _, _, _, hst⟩ _; have := hst.base; have := hst.most))
      ((refine Fine.bind (add_f (by assumption) ⟨by dsimp only; omega, by dsimp only; omega, by dsimp only; omega, by dsimp only; omega, by dsimp only; omega, PEOk.pos (by assumption) _, by dsimp only; omega⟩) ?_; ((rintro _ _ ⟨_, _, _, _, hst⟩ _; have := hst.base; have := hst.most))))
      exact biL_f hE hR g least _ _ (by assumption) (by omega) (by omega) hl (by omega) (by omega) (by omega)
theorem bi_f {least : Int} (hE : PEOk E P) (hR : RecOk E P f rec) (hs : Fit E P s) (hd : s.depth + 1 + f < big) (hl : 1 ≤ least) (hf : 5 * (E.toks.length - s.read) + 1 ≤ f) : Fine E P s (biM f rec E least s) (Nt s) := by
  unfold biM
  refine (hR .pr s hs (by omega) (by simp only [rank]; omega) trivial).bind ?_
  ((rintro _ _ ⟨_, _, _, _, hst⟩ _; have := hst.base; have := hst.most))
  exact (biL_f hE hR f least _ _ (by assumption) (by omega) (by omega) hl (by omega) (by omega) (by omega)).mono fun a s' hm hq => by have := hm.read; omega
/-- Behind a token that is taken anything may come. -/
theorem bracket_f (hE : PEOk E P) (hR : RecOk E P f rec) (hs : Fit E P s) (hd : s.depth + 1 + f < big) (hf : 5 * (E.toks.length - s.read) ≤ f) : Fine E P s (bracketM rec E s) (Nt s) := by
  unfold bracketM
  ((with_reducible refine Fine.bind (need_f (by assumption) (by assumption)) ?_; ((rintro _ _ ⟨_, _, _, _, hst⟩ _; have := hst.base; have := hst.most))))
  ((with_reducible refine Fine.bind (deepRec_f (by assumption) (by assumption) (by omega) (by simp only [rank]; omega) (by simp only [leastOk])) ?_; ((rintro _ _ ⟨_, _, _, _, hst⟩ _; have := hst.base; have := hst.most))))
  ((with_reducible refine Fine.bind (need_f (by assumption) (by assumption)) ?_; ((rintro _ _ ⟨_, _, _, _, hst⟩ _; have := hst.base; have := hst.most))))
  (exact Fine.ok (by assumption) (by first | trivial | omega))
theorem prim_f (hE : PEOk E P) (hR : RecOk E P f rec) (hs : Fit E P s) (hd : s.depth + 1 + f < big) (hf : 5 * (E.toks.length - s.read) ≤ f) : Fine E P s (primM f rec E s) (Nt s) := by
  unfold primM
  have := hs.base
  have := hs.most
  split
  · exact bracket_f hE hR hs hd hf
  · split
    · ((with_reducible refine Fine.bind (number_f (by assumption) (by assumption)) ?_; ((rintro _ _ ⟨_, _, _, _, hst⟩ _; have := hst.base; have := hst.most))))
      (exact (add_f (by assumption) ⟨by dsimp only; omega, by dsimp only; omega, by dsimp only; omega, by dsimp only; omega, by dsimp only; omega, PEOk.pos (by assumption) _, by dsimp only; omega⟩).mono (fun a s' hm hq => by have := hm.read; omega))
    · ((with_reducible refine tookThen (took_f (by assumption) (by assumption)) ?_ ?_ <;> rintro _ ⟨_, _, _, _, hst⟩ _ <;> (have := hst.base; have := hst.most; simp only [Bool.false_eq_true, if_false, if_true])))
      · ((with_reducible refine Fine.bind (need_f (by assumption) (by assumption)) ?_; ((rintro _ _ ⟨_, _, _, _, hst⟩ _; have := hst.base; have := hst.most))))
        ((with_reducible refine Fine.bind (need_f (by assumption) (by assumption)) ?_; ((rintro _ _ ⟨_, _, _, _, hst⟩ _; have := hst.base; have := hst.most))))
        (exact (add_f (by assumption) ⟨by dsimp only; omega, by dsimp only; omega, by dsimp only; omega, by dsimp only; omega, by dsimp only; omega, PEOk.pos (by assumption) _, by dsimp only; omega⟩).mono (fun a s' hm hq => by have := hm.read; omega))
      ((with_reducible refine tookThen (took_f (by assumption) (by assumption)) ?_ ?_ <;> rintro _ ⟨_, _, _, _, hst⟩ _ <;> (have := hst.base; have := hst.most; simp only [Bool.false_eq_true, if_false, if_true])))
      · ((with_reducible refine Fine.bind (bracket_f (by assumption) (by assumption) (by assumption) (by omega) (by omega)) ?_; ((rintro _ _ ⟨_, _, _, _, hst⟩ _; have := hst.base; have := hst.most))))
        (exact (add_f (by assumption) ⟨by dsimp only; omega, by dsimp only; omega, by dsimp only; omega, by dsimp only; omega, by dsimp only; omega, PEOk.pos (by assumption) _, by dsimp only; omega⟩).mono (fun a s' hm hq => by have := hm.read; omega))
      ((with_reducible refine Fine.bind (name_f (by assumption) (by assumption)) ?_; ((rintro _ _ ⟨_, _, _, _, hst⟩ _; have := hst.base; have := hst.most))))
      ((with_reducible refine tookThen (took_f (by assumption) (by assumption)) ?_ ?_ <;> rintro _ ⟨_, _, _, _, hst⟩ _ <;> (have := hst.base; have := hst.most; simp only [Bool.false_eq_true, if_false, if_true])))
      · refine Fine.bind (bind_list (commas_f hE f _ _ (by assumption) (fun s' h1 h2 h3 => ?_) (by omega))) ?_
        · have := h1.most
          exact deepRec_f hR h1 (by omega) (by simp only [rank]; omega) trivial
        · ((rintro _ _ ⟨_, _, _, _, hst⟩ _; have := hst.base; have := hst.most))
          ((with_reducible refine Fine.bind (need_f (by assumption) (by assumption)) ?_; ((rintro _ _ ⟨_, _, _, _, hst⟩ _; have := hst.base; have := hst.most))))
          (exact (add_f (by assumption) ⟨by dsimp only; omega, by dsimp only; omega, by dsimp only; omega, by dsimp only; omega, by dsimp only; omega, PEOk.pos (by assumption) _, by dsimp only; omega⟩).mono (fun a s' hm hq => by have := hm.read; omega))
      · (exact (add_f (by assumption) ⟨by dsimp only; omega, by dsimp only; omega, by dsimp only; omega, by dsimp only; omega, by dsimp only; omega, PEOk.pos (by assumption) _, by dsimp only; omega⟩).mono (fun a s' hm hq => by have := hm.read; omega))
theorem postL_f (hE : PEOk E P) (hR : RecOk E P f rec) : ∀ (g : Nat) (left : Int) (s : S), Fit E P s → s.depth + 1 + f < big → 5 * (E.toks.length - s.read) ≤ f → 0 ≤ left → left < s.nodes.length → E.toks.length - s.read < g →
    Fine E P s (postML rec E g left s) (fun a s' => 0 ≤ a ∧ a < (s'.nodes.length : Int))
  | 0, left, s, hs, hd, hf, h0, h1, hg => absurd hg (by omega)
  | g + 1, left, s, hs, hd, hf, h0, h1, hg => by
    unfold postML
    split
    · rename_i h
      have hlt := is_in hE h (by decide)
      ((with_reducible refine Fine.bind (take_f (by assumption) (by assumption) (by first | assumption | omega)) ?_; ((rintro _ _ ⟨_, _, _, _, hst⟩ _; have := hst.base; have := hst.most))))
      ((with_reducible refine Fine.bind (deepRec_f (by assumption) (by assumption) (by omega) (by simp only [rank]; omega) (by simp only [leastOk])) ?_; ((rintro _ _ ⟨_, _, _, _, hst⟩ _; have := hst.base; have := hst.most))))
      ((with_reducible refine Fine.bind (need_f (by assumption) (by assumption)) ?_; ((rintro _ _ ⟨_, _, _, _, hst⟩ _; have := hst.base; have := hst.most))))
      ((refine Fine.bind (add_f (by assumption) ⟨by dsimp only; omega, by dsimp only; omega, by dsimp only; omega, by dsimp only; omega, by dsimp only; omega, PEOk.pos (by assumption) _, by dsimp only; omega⟩) ?_; ((rintro _ _ ⟨_, _, _, _, hst⟩ _; have := hst.base; have := hst.most))))
      exact postL_f hE hR g _ _ (by assumption) (by omega) (by omega) (by omega) (by omega) (by omega)
    · split
      · rename_i h
        have hlt := is_in hE h (by decide)
        ((with_reducible refine Fine.bind (take_f (by assumption) (by assumption) (by first | assumption | omega)) ?_; ((rintro _ _ ⟨_, _, _, _, hst⟩ _; have := hst.base; have := hst.most))))
        ((with_reducible refine Fine.bind (name_f (by assumption) (by assumption)) ?_; ((rintro _ _ ⟨_, _, _, _, hst⟩ _; have := hst.base; have := hst.most))))
        ((refine Fine.bind (add_f (by assumption) ⟨by dsimp only; omega, by dsimp only; omega, by dsimp only; omega, by dsimp only; omega, by dsimp only; omega, PEOk.pos (by assumption) _, by dsimp only; omega⟩) ?_; ((rintro _ _ ⟨_, _, _, _, hst⟩ _; have := hst.base; have := hst.most))))
        exact postL_f hE hR g _ _ (by assumption) (by omega) (by omega) (by omega) (by omega) (by omega)
      · split
        · rename_i h
          have hlt := is_in hE h (by decide)
          ((with_reducible refine Fine.bind (take_f (by assumption) (by assumption) (by first | assumption | omega)) ?_; ((rintro _ _ ⟨_, _, _, _, hst⟩ _; have := hst.base; have := hst.most))))
          ((with_reducible refine Fine.bind (name_f (by assumption) (by assumption)) ?_; ((rintro _ _ ⟨_, _, _, _, hst⟩ _; have := hst.base; have := hst.most))))
          ((refine Fine.bind (add_f (by assumption) ⟨by dsimp only; omega, by dsimp only; omega, by dsimp only; omega, by dsimp only; omega, by dsimp only; omega, PEOk.pos (by assumption) _, by dsimp only; omega⟩) ?_; ((rintro _ _ ⟨_, _, _, _, hst⟩ _; have := hst.base; have := hst.most))))
          exact postL_f hE hR g _ _ (by assumption) (by omega) (by omega) (by omega) (by omega) (by omega)
        · split
          · rename_i h
            have hlt := or_in hE h (by decide) (by decide)
            ((with_reducible refine Fine.bind (take_f (by assumption) (by assumption) (by first | assumption | omega)) ?_; ((rintro _ _ ⟨_, _, _, _, hst⟩ _; have := hst.base; have := hst.most))))
            ((refine Fine.bind (add_f (by assumption) ⟨by dsimp only; omega, by dsimp only; omega, by dsimp only; omega, by dsimp only; omega, by dsimp only; omega, PEOk.pos (by assumption) _, by dsimp only; omega⟩) ?_; ((rintro _ _ ⟨_, _, _, _, hst⟩ _; have := hst.base; have := hst.most))))
            exact postL_f hE hR g _ _ (by assumption) (by omega) (by omega) (by omega) (by omega) (by omega)
          · (exact Fine.ok (by assumption) (by first | trivial | omega))
theorem post_f (hE : PEOk E P) (hR : RecOk E P f rec) (hs : Fit E P s) (hd : s.depth + 1 + f < big) (hf : 5 * (E.toks.length - s.read) ≤ f) : Fine E P s (postM f rec E s) (Nt s) := by
  unfold postM
  refine (prim_f hE hR hs hd hf).bind ?_
  ((rintro _ _ ⟨_, _, _, _, hst⟩ _; have := hst.base; have := hst.most))
  exact (postL_f hE hR f _ _ (by assumption) (by omega) (by omega) (by omega) (by omega) (by omega)).mono fun a s' hm hq => by have := hm.read; omega
theorem size_f (hE : PEOk E P) (hs : Fit E P s) (hf : 5 * (E.toks.length - s.read) ≤ f) : Fine E P s (sizeM f E s) (Nt s) := by
  unfold sizeM
  ((with_reducible refine Fine.bind (need_f (by assumption) (by assumption)) ?_; ((rintro _ _ ⟨_, _, _, _, hst⟩ _; have := hst.base; have := hst.most))))
  ((with_reducible refine Fine.bind (need_f (by assumption) (by assumption)) ?_; ((rintro _ _ ⟨_, _, _, _, hst⟩ _; have := hst.base; have := hst.most))))
  ((with_reducible refine Fine.bind (typed_f (by assumption) (by assumption) (by omega)) ?_; ((rintro _ _ ⟨_, _, _, _, hst⟩ _; have := hst.base; have := hst.most))))
  ((with_reducible refine Fine.bind (counted_f (by assumption) (by assumption) (by omega) (by omega)) ?_; ((rintro _ _ ⟨_, _, _, _, hst⟩ _; have := hst.base; have := hst.most))))
  ((with_reducible refine Fine.bind (need_f (by assumption) (by assumption)) ?_; ((rintro _ _ ⟨_, _, _, _, hst⟩ _; have := hst.base; have := hst.most))))
  (exact (add_f (by assumption) ⟨by dsimp only; omega, by dsimp only; omega, by dsimp only; omega, by dsimp only; omega, by dsimp only; omega, PEOk.pos (by assumption) _, by dsimp only; omega⟩).mono (fun a s' hm hq => by have := hm.read; omega))
theorem pr_f (hE : PEOk E P) (hR : RecOk E P f rec) (hs : Fit E P s) (hd : s.depth + 1 + f < big) (hf : 5 * (E.toks.length - s.read) ≤ f) : Fine E P s (prM f rec E s) (Nt s) := by
  unfold prM
  split
  · exact size_f hE hs hf
  · split
    · rename_i h
      have hlt := fronts_in hE h
      ((with_reducible refine Fine.bind (take_f (by assumption) (by assumption) (by first | assumption | omega)) ?_; ((rintro _ _ ⟨_, _, _, _, hst⟩ _; have := hst.base; have := hst.most))))
      ((with_reducible refine Fine.bind (deepRec_f (by assumption) (by assumption) (by omega) (by simp only [rank]; omega) (by simp only [leastOk])) ?_; ((rintro _ _ ⟨_, _, _, _, hst⟩ _; have := hst.base; have := hst.most))))
      (exact (add_f (by assumption) ⟨by dsimp only; omega, by dsimp only; omega, by dsimp only; omega, by dsimp only; omega, by dsimp only; omega, PEOk.pos (by assumption) _, by dsimp only; omega⟩).mono (fun a s' hm hq => by have := hm.read; omega))
    · split
      · rename_i h
        have hlt := or_in hE h (by decide) (by decide)
        ((with_reducible refine Fine.bind (take_f (by assumption) (by assumption) (by first | assumption | omega)) ?_; ((rintro _ _ ⟨_, _, _, _, hst⟩ _; have := hst.base; have := hst.most))))
        ((with_reducible refine Fine.bind (deepRec_f (by assumption) (by assumption) (by omega) (by simp only [rank]; omega) (by simp only [leastOk])) ?_; ((rintro _ _ ⟨_, _, _, _, hst⟩ _; have := hst.base; have := hst.most))))
        (exact (add_f (by assumption) ⟨by dsimp only; omega, by dsimp only; omega, by dsimp only; omega, by dsimp only; omega, by dsimp only; omega, PEOk.pos (by assumption) _, by dsimp only; omega⟩).mono (fun a s' hm hq => by have := hm.read; omega))
      · split
        · rename_i h
          have hlt := is_in hE h (by decide)
          split
          · ((with_reducible refine Fine.bind (take_f (by assumption) (by assumption) (by first | assumption | omega)) ?_; ((rintro _ _ ⟨_, _, _, _, hst⟩ _; have := hst.base; have := hst.most))))
            ((with_reducible refine Fine.bind (typed_f (by assumption) (by assumption) (by omega)) ?_; ((rintro _ _ ⟨_, _, _, _, hst⟩ _; have := hst.base; have := hst.most))))
            ((with_reducible refine Fine.bind (need_f (by assumption) (by assumption)) ?_; ((rintro _ _ ⟨_, _, _, _, hst⟩ _; have := hst.base; have := hst.most))))
            ((with_reducible refine Fine.bind (deepRec_f (by assumption) (by assumption) (by omega) (by simp only [rank]; omega) (by simp only [leastOk])) ?_; ((rintro _ _ ⟨_, _, _, _, hst⟩ _; have := hst.base; have := hst.most))))
            (exact (add_f (by assumption) ⟨by dsimp only; omega, by dsimp only; omega, by dsimp only; omega, by dsimp only; omega, by dsimp only; omega, PEOk.pos (by assumption) _, by dsimp only; omega⟩).mono (fun a s' hm hq => by have := hm.read; omega))
          · exact post_f hE hR hs hd hf
        · exact post_f hE hR hs hd hf
end
end Go.Proofs.YtaamllikceaifaaGreatDoor.Tr
namespace Go.Proofs.YtaamllikceaifaaGreatDoor.Tr
open Sp
set_option linter.unusedVariables false

section
variable {E : PE} {P : Int} {s : S} {f : Nat} {rec : NTm → S → Res Int}
theorem block_f (hE : PEOk E P) (hR : RecOk E P f rec) (hs : Fit E P s) (hd : s.depth + 1 + f < big) (hf : 5 * (E.toks.length - s.read) ≤ f) : Fine E P s (blockM f rec E s) (Nt s) := by
  unfold blockM
  ((with_reducible refine Fine.bind (need_f (by assumption) (by assumption)) ?_; ((rintro _ _ ⟨_, _, _, _, hst⟩ _; have := hst.base; have := hst.most))))
  refine Fine.bind (bind_list (sts_f hE f _ (by assumption) (fun s' h1 h2 h3 => ?_) (by omega))) ?_
  · have := h1.most
    exact deepRec_f hR h1 (by omega) (by simp only [rank]; omega) trivial
  · ((rintro _ _ ⟨_, _, _, _, hst⟩ _; have := hst.base; have := hst.most))
    ((with_reducible refine Fine.bind (need_f (by assumption) (by assumption)) ?_; ((rintro _ _ ⟨_, _, _, _, hst⟩ _; have := hst.base; have := hst.most))))
    (exact (add_f (by assumption) ⟨by dsimp only; omega, by dsimp only; omega, by dsimp only; omega, by dsimp only; omega, by dsimp only; omega, PEOk.pos (by assumption) _, by dsimp only; omega⟩).mono (fun a s' hm hq => by have := hm.read; omega))
theorem unless_f {x : List UInt8} (hE : PEOk E P) (hR : RecOk E P f rec) (hs : Fit E P s) (hd : s.depth + 1 + f < big) (hf : 5 * (E.toks.length - s.read) + 4 ≤ f) : Fine E P s (unlessM rec E x s) (fun a s' => -1 ≤ a ∧ a < (s'.nodes.length : Int)) := by
  unfold unlessM
  ((with_reducible refine tookThen (took_f (by assumption) (by assumption)) ?_ ?_ <;> rintro _ ⟨_, _, _, _, hst⟩ _ <;> (have := hst.base; have := hst.most; simp only [Bool.false_eq_true, if_false, if_true])))
  · (exact Fine.ok (by assumption) (by first | trivial | omega))
  · ((with_reducible refine Fine.bind (deepRec_f (by assumption) (by assumption) (by omega) (by simp only [rank]; omega) (by simp only [leastOk])) ?_; ((rintro _ _ ⟨_, _, _, _, hst⟩ _; have := hst.base; have := hst.most))))
    ((with_reducible refine Fine.bind (need_f (by assumption) (by assumption)) ?_; ((rintro _ _ ⟨_, _, _, _, hst⟩ _; have := hst.base; have := hst.most))))
    (exact Fine.ok (by assumption) (by first | trivial | omega))
theorem marked_f (hE : PEOk E P) (hR : RecOk E P f rec) (hs : Fit E P s) (hd : s.depth + 1 + f < big) (hf : 5 * (E.toks.length - s.read) ≤ f) : Fine E P s (markedM rec E s) (Nt s) := by
  unfold markedM
  ((with_reducible refine Fine.bind (need_f (by assumption) (by assumption)) ?_; ((rintro _ _ ⟨_, _, _, _, hst⟩ _; have := hst.base; have := hst.most))))
  (exact (deepRec_f (by assumption) (by assumption) (by omega) (by simp only [rank]; omega) (by simp only [leastOk])).mono (fun a s' hm hq => by have := hm.read; omega))
/-- What simple makes of a node. -/
def Half (P : Int) (a : Nd) (s' : S) : Prop := NdOk P s'.types.length s'.nodes.length a
theorem simp_f {n : Nd} (hE : PEOk E P) (hR : RecOk E P f rec) (hs : Fit E P s) (hd : s.depth + 1 + f < big) (hf : 5 * (E.toks.length - s.read) + 4 ≤ f)
    (ha : n.a = -1) (hb : n.b = -1) (hc : n.c = -1) (hdd : n.d = -1) (ht : n.ty = 0) (hk : n.kind = 30) (hp : 0 ≤ n.pos ∧ n.pos ≤ P) : Fine E P s (simpM f rec E n s) (Half P) := by
  unfold simpM
  have := hs.base
  have := hs.most
  split
  · (exact Fine.ok (by assumption) ⟨by dsimp only; omega, by dsimp only; omega, by dsimp only; omega, by dsimp only; omega, by dsimp only; omega, by dsimp only; omega, by dsimp only; omega⟩)
  ((with_reducible refine tookThen (took_f (by assumption) (by assumption)) ?_ ?_ <;> rintro _ ⟨_, _, _, _, hst⟩ _ <;> (have := hst.base; have := hst.most; simp only [Bool.false_eq_true, if_false, if_true])))
  · ((with_reducible refine Fine.bind (deepRec_f (by assumption) (by assumption) (by omega) (by simp only [rank]; omega) (by simp only [leastOk])) ?_; ((rintro _ _ ⟨_, _, _, _, hst⟩ _; have := hst.base; have := hst.most))))
    ((with_reducible refine Fine.bind (need_f (by assumption) (by assumption)) ?_; ((rintro _ _ ⟨_, _, _, _, hst⟩ _; have := hst.base; have := hst.most))))
    ((with_reducible refine Fine.bind (bracket_f (by assumption) (by assumption) (by assumption) (by omega) (by omega)) ?_; ((rintro _ _ ⟨_, _, _, _, hst⟩ _; have := hst.base; have := hst.most))))
    (exact Fine.ok (by assumption) ⟨by dsimp only; omega, by dsimp only; omega, by dsimp only; omega, by dsimp only; omega, by dsimp only; omega, by dsimp only; omega, by dsimp only; omega⟩)
  ((with_reducible refine tookThen (took_f (by assumption) (by assumption)) ?_ ?_ <;> rintro _ ⟨_, _, _, _, hst⟩ _ <;> (have := hst.base; have := hst.most; simp only [Bool.false_eq_true, if_false, if_true])))
  · (exact Fine.ok (by assumption) ⟨by dsimp only; omega, by dsimp only; omega, by dsimp only; omega, by dsimp only; omega, by dsimp only; omega, by dsimp only; omega, by dsimp only; omega⟩)
  ((with_reducible refine tookThen (took_f (by assumption) (by assumption)) ?_ ?_ <;> rintro _ ⟨_, _, _, _, hst⟩ _ <;> (have := hst.base; have := hst.most; simp only [Bool.false_eq_true, if_false, if_true])))
  · (exact Fine.ok (by assumption) ⟨by dsimp only; omega, by dsimp only; omega, by dsimp only; omega, by dsimp only; omega, by dsimp only; omega, by dsimp only; omega, by dsimp only; omega⟩)
  ((with_reducible refine tookThen (took_f (by assumption) (by assumption)) ?_ ?_ <;> rintro _ ⟨_, _, _, _, hst⟩ _ <;> (have := hst.base; have := hst.most; simp only [Bool.false_eq_true, if_false, if_true])))
  · split
    · (exact Fine.ok (by assumption) ⟨by dsimp only; omega, by dsimp only; omega, by dsimp only; omega, by dsimp only; omega, by dsimp only; omega, by dsimp only; omega, by dsimp only; omega⟩)
    · ((with_reducible refine Fine.bind (deepRec_f (by assumption) (by assumption) (by omega) (by simp only [rank]; omega) (by simp only [leastOk])) ?_; ((rintro _ _ ⟨_, _, _, _, hst⟩ _; have := hst.base; have := hst.most))))
      (exact Fine.ok (by assumption) ⟨by dsimp only; omega, by dsimp only; omega, by dsimp only; omega, by dsimp only; omega, by dsimp only; omega, by dsimp only; omega, by dsimp only; omega⟩)
  ((with_reducible refine tookThen (took_f (by assumption) (by assumption)) ?_ ?_ <;> rintro _ ⟨_, _, _, _, hst⟩ _ <;> (have := hst.base; have := hst.most; simp only [Bool.false_eq_true, if_false, if_true])))
  · ((with_reducible refine Fine.bind (name_f (by assumption) (by assumption)) ?_; ((rintro _ _ ⟨_, _, _, _, hst⟩ _; have := hst.base; have := hst.most))))
    (exact Fine.ok (by assumption) ⟨by dsimp only; omega, by dsimp only; omega, by dsimp only; omega, by dsimp only; omega, by dsimp only; omega, by dsimp only; omega, by dsimp only; omega⟩)
  split
  · ((with_reducible refine Fine.bind (typed_f (by assumption) (by assumption) (by omega)) ?_; ((rintro _ _ ⟨_, _, _, _, hst⟩ _; have := hst.base; have := hst.most))))
    ((with_reducible refine Fine.bind (name_f (by assumption) (by assumption)) ?_; ((rintro _ _ ⟨_, _, _, _, hst⟩ _; have := hst.base; have := hst.most))))
    ((with_reducible refine Fine.bind (counted_f (by assumption) (by assumption) (by omega) (by omega)) ?_; ((rintro _ _ ⟨_, _, _, _, hst⟩ _; have := hst.base; have := hst.most))))
    ((with_reducible refine tookThen (took_f (by assumption) (by assumption)) ?_ ?_ <;> rintro _ ⟨_, _, _, _, hst⟩ _ <;> (have := hst.base; have := hst.most; simp only [Bool.false_eq_true, if_false, if_true])))
    · ((with_reducible refine Fine.bind (deepRec_f (by assumption) (by assumption) (by omega) (by simp only [rank]; omega) (by simp only [leastOk])) ?_; ((rintro _ _ ⟨_, _, _, _, hst⟩ _; have := hst.base; have := hst.most))))
      (exact Fine.ok (by assumption) ⟨by dsimp only; omega, by dsimp only; omega, by dsimp only; omega, by dsimp only; omega, by dsimp only; omega, by dsimp only; omega, by dsimp only; omega⟩)
    · (exact Fine.ok (by assumption) ⟨by dsimp only; omega, by dsimp only; omega, by dsimp only; omega, by dsimp only; omega, by dsimp only; omega, by dsimp only; omega, by dsimp only; omega⟩)
  · ((with_reducible refine Fine.bind (deepRec_f (by assumption) (by assumption) (by omega) (by simp only [rank]; omega) (by simp only [leastOk])) ?_; ((rintro _ _ ⟨_, _, _, _, hst⟩ _; have := hst.base; have := hst.most))))
    (exact Fine.ok (by assumption) ⟨by dsimp only; omega, by dsimp only; omega, by dsimp only; omega, by dsimp only; omega, by dsimp only; omega, by dsimp only; omega, by dsimp only; omega⟩)
theorem st_f (hE : PEOk E P) (hR : RecOk E P f rec) (hs : Fit E P s) (hd : s.depth + 1 + f < big) (hf : 5 * (E.toks.length - s.read) + 4 ≤ f) : Fine E P s (stM f rec E s) (Nt s) := by
  unfold stM
  have := hs.base
  have := hs.most
  have hp := hE.pos s
  split
  · exact block_f hE hR hs hd (by omega)
  ((with_reducible refine tookThen (took_f (by assumption) (by assumption)) ?_ ?_ <;> rintro _ ⟨_, _, _, _, hst⟩ _ <;> (have := hst.base; have := hst.most; simp only [Bool.false_eq_true, if_false, if_true])))
  · ((with_reducible refine Fine.bind (bracket_f (by assumption) (by assumption) (by assumption) (by omega) (by omega)) ?_; ((rintro _ _ ⟨_, _, _, _, hst⟩ _; have := hst.base; have := hst.most))))
    ((with_reducible refine Fine.bind (deepRec_f (by assumption) (by assumption) (by omega) (by simp only [rank]; omega) (by simp only [leastOk])) ?_; ((rintro _ _ ⟨_, _, _, _, hst⟩ _; have := hst.base; have := hst.most))))
    ((with_reducible refine tookThen (took_f (by assumption) (by assumption)) ?_ ?_ <;> rintro _ ⟨_, _, _, _, hst⟩ _ <;> (have := hst.base; have := hst.most; simp only [Bool.false_eq_true, if_false, if_true])))
    · ((with_reducible refine Fine.bind (deepRec_f (by assumption) (by assumption) (by omega) (by simp only [rank]; omega) (by simp only [leastOk])) ?_; ((rintro _ _ ⟨_, _, _, _, hst⟩ _; have := hst.base; have := hst.most))))
      (exact (add_f (by assumption) ⟨by dsimp only; omega, by dsimp only; omega, by dsimp only; omega, by dsimp only; omega, by dsimp only; omega, PEOk.pos (by assumption) _, by dsimp only; omega⟩).mono (fun a s' hm hq => by have := hm.read; omega))
    · (exact (add_f (by assumption) ⟨by dsimp only; omega, by dsimp only; omega, by dsimp only; omega, by dsimp only; omega, by dsimp only; omega, PEOk.pos (by assumption) _, by dsimp only; omega⟩).mono (fun a s' hm hq => by have := hm.read; omega))
  ((with_reducible refine tookThen (took_f (by assumption) (by assumption)) ?_ ?_ <;> rintro _ ⟨_, _, _, _, hst⟩ _ <;> (have := hst.base; have := hst.most; simp only [Bool.false_eq_true, if_false, if_true])))
  · ((with_reducible refine Fine.bind (bracket_f (by assumption) (by assumption) (by assumption) (by omega) (by omega)) ?_; ((rintro _ _ ⟨_, _, _, _, hst⟩ _; have := hst.base; have := hst.most))))
    ((with_reducible refine Fine.bind (deepRec_f (by assumption) (by assumption) (by omega) (by simp only [rank]; omega) (by simp only [leastOk])) ?_; ((rintro _ _ ⟨_, _, _, _, hst⟩ _; have := hst.base; have := hst.most))))
    (exact (add_f (by assumption) ⟨by dsimp only; omega, by dsimp only; omega, by dsimp only; omega, by dsimp only; omega, by dsimp only; omega, PEOk.pos (by assumption) _, by dsimp only; omega⟩).mono (fun a s' hm hq => by have := hm.read; omega))
  ((with_reducible refine tookThen (took_f (by assumption) (by assumption)) ?_ ?_ <;> rintro _ ⟨_, _, _, _, hst⟩ _ <;> (have := hst.base; have := hst.most; simp only [Bool.false_eq_true, if_false, if_true])))
  · ((with_reducible refine Fine.bind (need_f (by assumption) (by assumption)) ?_; ((rintro _ _ ⟨_, _, _, _, hst⟩ _; have := hst.base; have := hst.most))))
    refine Fine.bind (unless_f hE hR (by assumption) (by omega) (by omega)) ?_
    ((rintro _ _ ⟨_, _, _, _, hst⟩ _; have := hst.base; have := hst.most))
    refine Fine.bind (unless_f hE hR (by assumption) (by omega) (by omega)) ?_
    ((rintro _ _ ⟨_, _, _, _, hst⟩ _; have := hst.base; have := hst.most))
    refine Fine.bind (unless_f hE hR (by assumption) (by omega) (by omega)) ?_
    ((rintro _ _ ⟨_, _, _, _, hst⟩ _; have := hst.base; have := hst.most))
    ((with_reducible refine Fine.bind (deepRec_f (by assumption) (by assumption) (by omega) (by simp only [rank]; omega) (by simp only [leastOk])) ?_; ((rintro _ _ ⟨_, _, _, _, hst⟩ _; have := hst.base; have := hst.most))))
    (exact (add_f (by assumption) ⟨by dsimp only; omega, by dsimp only; omega, by dsimp only; omega, by dsimp only; omega, by dsimp only; omega, PEOk.pos (by assumption) _, by dsimp only; omega⟩).mono (fun a s' hm hq => by have := hm.read; omega))
  ((with_reducible refine tookThen (took_f (by assumption) (by assumption)) ?_ ?_ <;> rintro _ ⟨_, _, _, _, hst⟩ _ <;> (have := hst.base; have := hst.most; simp only [Bool.false_eq_true, if_false, if_true])))
  · ((with_reducible refine Fine.bind (bracket_f (by assumption) (by assumption) (by assumption) (by omega) (by omega)) ?_; ((rintro _ _ ⟨_, _, _, _, hst⟩ _; have := hst.base; have := hst.most))))
    refine Fine.bind (block_f hE hR (by assumption) (by omega) (by omega)) ?_
    ((rintro _ _ ⟨_, _, _, _, hst⟩ _; have := hst.base; have := hst.most))
    (exact (add_f (by assumption) ⟨by dsimp only; omega, by dsimp only; omega, by dsimp only; omega, by dsimp only; omega, by dsimp only; omega, PEOk.pos (by assumption) _, by dsimp only; omega⟩).mono (fun a s' hm hq => by have := hm.read; omega))
  ((with_reducible refine tookThen (took_f (by assumption) (by assumption)) ?_ ?_ <;> rintro _ ⟨_, _, _, _, hst⟩ _ <;> (have := hst.base; have := hst.most; simp only [Bool.false_eq_true, if_false, if_true])))
  · ((with_reducible refine Fine.bind (signed_f (by assumption) (by assumption)) ?_; ((rintro _ _ ⟨_, _, _, _, hst⟩ _; have := hst.base; have := hst.most))))
    refine Fine.bind (marked_f hE hR (by assumption) (by omega) (by omega)) ?_
    ((rintro _ _ ⟨_, _, _, _, hst⟩ _; have := hst.base; have := hst.most))
    (exact (add_f (by assumption) ⟨by dsimp only; omega, by dsimp only; omega, by dsimp only; omega, by dsimp only; omega, by dsimp only; omega, PEOk.pos (by assumption) _, by dsimp only; omega⟩).mono (fun a s' hm hq => by have := hm.read; omega))
  ((with_reducible refine tookThen (took_f (by assumption) (by assumption)) ?_ ?_ <;> rintro _ ⟨_, _, _, _, hst⟩ _ <;> (have := hst.base; have := hst.most; simp only [Bool.false_eq_true, if_false, if_true])))
  · refine Fine.bind (marked_f hE hR (by assumption) (by omega) (by omega)) ?_
    ((rintro _ _ ⟨_, _, _, _, hst⟩ _; have := hst.base; have := hst.most))
    (exact (add_f (by assumption) ⟨by dsimp only; omega, by dsimp only; omega, by dsimp only; omega, by dsimp only; omega, by dsimp only; omega, PEOk.pos (by assumption) _, by dsimp only; omega⟩).mono (fun a s' hm hq => by have := hm.read; omega))
  split
  · ((with_reducible refine Fine.bind (name_f (by assumption) (by assumption)) ?_; ((rintro _ _ ⟨_, _, _, _, hst⟩ _; have := hst.base; have := hst.most))))
    refine Fine.bind (marked_f hE hR (by assumption) (by omega) (by omega)) ?_
    ((rintro _ _ ⟨_, _, _, _, hst⟩ _; have := hst.base; have := hst.most))
    (exact (add_f (by assumption) ⟨by dsimp only; omega, by dsimp only; omega, by dsimp only; omega, by dsimp only; omega, by dsimp only; omega, PEOk.pos (by assumption) _, by dsimp only; omega⟩).mono (fun a s' hm hq => by have := hm.read; omega))
  · refine Fine.bind (simp_f hE hR (by assumption) (by omega) (by omega) rfl rfl rfl rfl rfl rfl hp) ?_
    rintro n s1 ⟨_, _, _, _, hst⟩ hn
    have := hst.most
    refine Fine.bind (need_f hE hst) ?_
    rintro _ s2 ⟨_, _, hn1, hn2, hst2⟩ _
    have hq : NdOk P s2.types.length s2.nodes.length n := by
      obtain ⟨h1, h2, h3, h4, h5, h6, h7⟩ := hn
      exact ⟨by omega, by omega, by omega, by omega, by omega, h6, h7⟩
    exact (add_f hst2 hq).mono (fun a s' hm hq => by have := hm.read; omega)
theorem go_f (hE : PEOk E P) : ∀ f, RecOk E P f (goM f E)
  | 0 => fun nt s hs hd hf hl => absurd hf (by omega)
  | f + 1 => fun nt s hs hd hf hl => by
    have hR := go_f hE f
    cases nt with
    | ex => exact ex_f hE hR hs (by omega) (by simp only [rank] at hf; omega)
    | ch => exact ch_f hE hR hs (by omega) (by simp only [rank] at hf; omega)
    | bi l => exact bi_f hE hR hs (by omega) hl (by simp only [rank] at hf; omega)
    | pr => exact pr_f hE hR hs (by omega) (by simp only [rank] at hf; omega)
    | st => exact st_f hE hR hs (by omega) (by simp only [rank] at hf; omega)
theorem field_f (hE : PEOk E P) (hs : Fit E P s) (hf : E.toks.length - s.read ≤ f) : Fine E P s (fieldM f E s) (Nt s) := by
  unfold fieldM
  ((with_reducible refine Fine.bind (typed_f (by assumption) (by assumption) (by omega)) ?_; ((rintro _ _ ⟨_, _, _, _, hst⟩ _; have := hst.base; have := hst.most))))
  ((with_reducible refine Fine.bind (name_f (by assumption) (by assumption)) ?_; ((rintro _ _ ⟨_, _, _, _, hst⟩ _; have := hst.base; have := hst.most))))
  ((with_reducible refine Fine.bind (counted_f (by assumption) (by assumption) (by omega) (by omega)) ?_; ((rintro _ _ ⟨_, _, _, _, hst⟩ _; have := hst.base; have := hst.most))))
  ((with_reducible refine Fine.bind (need_f (by assumption) (by assumption)) ?_; ((rintro _ _ ⟨_, _, _, _, hst⟩ _; have := hst.base; have := hst.most))))
  (exact (add_f (by assumption) ⟨by dsimp only; omega, by dsimp only; omega, by dsimp only; omega, by dsimp only; omega, by dsimp only; omega, PEOk.pos (by assumption) _, by dsimp only; omega⟩).mono (fun a s' hm hq => by have := hm.read; omega))
theorem param_f (hE : PEOk E P) (hs : Fit E P s) (hf : E.toks.length - s.read ≤ f) : Fine E P s (paramM f E s) (Nt s) := by
  unfold paramM
  ((with_reducible refine Fine.bind (typed_f (by assumption) (by assumption) (by omega)) ?_; ((rintro _ _ ⟨_, _, _, _, hst⟩ _; have := hst.base; have := hst.most))))
  ((with_reducible refine Fine.bind (name_f (by assumption) (by assumption)) ?_; ((rintro _ _ ⟨_, _, _, _, hst⟩ _; have := hst.base; have := hst.most))))
  (exact (add_f (by assumption) ⟨by dsimp only; omega, by dsimp only; omega, by dsimp only; omega, by dsimp only; omega, by dsimp only; omega, PEOk.pos (by assumption) _, by dsimp only; omega⟩).mono (fun a s' hm hq => by have := hm.read; omega))
theorem structure_f (hE : PEOk E P) (hs : Fit E P s) (hf : E.toks.length - s.read ≤ f) : Fine E P s (structureM f E s) (Nt s) := by
  unfold structureM
  ((with_reducible refine Fine.bind (need_f (by assumption) (by assumption)) ?_; ((rintro _ _ ⟨_, _, _, _, hst⟩ _; have := hst.base; have := hst.most))))
  ((with_reducible refine Fine.bind (name_f (by assumption) (by assumption)) ?_; ((rintro _ _ ⟨_, _, _, _, hst⟩ _; have := hst.base; have := hst.most))))
  ((with_reducible refine Fine.bind (need_f (by assumption) (by assumption)) ?_; ((rintro _ _ ⟨_, _, _, _, hst⟩ _; have := hst.base; have := hst.most))))
  refine Fine.bind (bind_list (fields_f hE f _ (by assumption) (fun s' h1 h2 h3 => ?_) (by omega))) ?_
  · have := h1.most
    exact field_f hE h1 (by omega)
  · ((rintro _ _ ⟨_, _, _, _, hst⟩ _; have := hst.base; have := hst.most))
    ((with_reducible refine Fine.bind (need_f (by assumption) (by assumption)) ?_; ((rintro _ _ ⟨_, _, _, _, hst⟩ _; have := hst.base; have := hst.most))))
    ((with_reducible refine Fine.bind (need_f (by assumption) (by assumption)) ?_; ((rintro _ _ ⟨_, _, _, _, hst⟩ _; have := hst.base; have := hst.most))))
    (exact (add_f (by assumption) ⟨by dsimp only; omega, by dsimp only; omega, by dsimp only; omega, by dsimp only; omega, by dsimp only; omega, PEOk.pos (by assumption) _, by dsimp only; omega⟩).mono (fun a s' hm hq => by have := hm.read; omega))
theorem whole_f (hE : PEOk E P) (hs : Fit E P s) (hd : s.depth + 1 + f < big) (hf : 5 * (E.toks.length - s.read) ≤ f) : Fine E P s (wholeM f E s) (Nt s) := by
  unfold wholeM
  have hR := go_f hE f
  split
  · exact structure_f hE hs (by omega)
  ((with_reducible refine Fine.bind (typed_f (by assumption) (by assumption) (by omega)) ?_; ((rintro _ _ ⟨_, _, _, _, hst⟩ _; have := hst.base; have := hst.most))))
  ((with_reducible refine Fine.bind (name_f (by assumption) (by assumption)) ?_; ((rintro _ _ ⟨_, _, _, _, hst⟩ _; have := hst.base; have := hst.most))))
  ((with_reducible refine tookThen (took_f (by assumption) (by assumption)) ?_ ?_ <;> rintro _ ⟨_, _, _, _, hst⟩ _ <;> (have := hst.base; have := hst.most; simp only [Bool.false_eq_true, if_false, if_true])))
  · refine Fine.bind (bind_list (commas_f hE f _ _ (by assumption) (fun s' h1 h2 h3 => ?_) (by omega))) ?_
    · have := h1.most
      exact param_f hE h1 (by omega)
    · ((rintro _ _ ⟨_, _, _, _, hst⟩ _; have := hst.base; have := hst.most))
      ((with_reducible refine Fine.bind (need_f (by assumption) (by assumption)) ?_; ((rintro _ _ ⟨_, _, _, _, hst⟩ _; have := hst.base; have := hst.most))))
      refine Fine.bind (block_f hE hR (by assumption) (by omega) (by omega)) ?_
      ((rintro _ _ ⟨_, _, _, _, hst⟩ _; have := hst.base; have := hst.most))
      (exact (add_f (by assumption) ⟨by dsimp only; omega, by dsimp only; omega, by dsimp only; omega, by dsimp only; omega, by dsimp only; omega, PEOk.pos (by assumption) _, by dsimp only; omega⟩).mono (fun a s' hm hq => by have := hm.read; omega))
  · ((with_reducible refine Fine.bind (counted_f (by assumption) (by assumption) (by omega) (by omega)) ?_; ((rintro _ _ ⟨_, _, _, _, hst⟩ _; have := hst.base; have := hst.most))))
    ((with_reducible refine tookThen (took_f (by assumption) (by assumption)) ?_ ?_ <;> rintro _ ⟨_, _, _, _, hst⟩ _ <;> (have := hst.base; have := hst.most; simp only [Bool.false_eq_true, if_false, if_true])))
    · ((with_reducible refine Fine.bind (signed_f (by assumption) (by assumption)) ?_; ((rintro _ _ ⟨_, _, _, _, hst⟩ _; have := hst.base; have := hst.most))))
      ((with_reducible refine Fine.bind (need_f (by assumption) (by assumption)) ?_; ((rintro _ _ ⟨_, _, _, _, hst⟩ _; have := hst.base; have := hst.most))))
      (exact (add_f (by assumption) ⟨by dsimp only; omega, by dsimp only; omega, by dsimp only; omega, by dsimp only; omega, by dsimp only; omega, PEOk.pos (by assumption) _, by dsimp only; omega⟩).mono (fun a s' hm hq => by have := hm.read; omega))
    · ((with_reducible refine Fine.bind (need_f (by assumption) (by assumption)) ?_; ((rintro _ _ ⟨_, _, _, _, hst⟩ _; have := hst.base; have := hst.most))))
      (exact (add_f (by assumption) ⟨by dsimp only; omega, by dsimp only; omega, by dsimp only; omega, by dsimp only; omega, by dsimp only; omega, PEOk.pos (by assumption) _, by dsimp only; omega⟩).mono (fun a s' hm hq => by have := hm.read; omega))
theorem start_fit (P : Int) : Fit E P start0 where
  most := Nat.zero_le _
  nodes := fun i x h => by cases h
  base := by decide
  first := by decide
  types := fun i x h h4 => by
    rw [List.getElem?_eq_none (by have : start0.types.length = 4 := by decide
                                  omega)] at h
    cases h
theorem program_f (hE : PEOk E P) (hf : 5 * E.toks.length + 1 ≤ f) (hb : f + 1 < big) : Fine E P start0 (programM f E) (fun a s' => -1 ≤ a ∧ a < (s'.nodes.length : Int)) := by
  unfold programM
  have hz : start0.read = 0 := rfl
  have hz2 : start0.depth = 0 := rfl
  refine bind_list (wholes_f hE f _ (start_fit P) (fun s' h1 h2 h3 h4 => ?_) (by omega))
  have := h1.most
  exact whole_f hE h1 (by omega) (by omega)
end
end Go.Proofs.YtaamllikceaifaaGreatDoor.Tr
