/-
  Layer 10: how many instructions a sweep keeps, on lists.
-/
import Derived.Test.YtgnpbodhjmappaaQMR
import Derived.Test.YtgnpbodhjmappaaQLA
namespace Go.Proofs.Ytgnpbodhjmappaa.Cd
set_option maxRecDepth 100000
set_option linter.unusedVariables false
set_option linter.unusedSimpArgs false

theorem countP_same {α β : Type} {f : α → Bool} {g : β → Bool} : ∀ (l : List α) (m : List β), l.length = m.length → (∀ (p : Nat) (x : α) (y : β), l[p]? = some x → m[p]? = some y → f x = g y) → l.countP f = m.countP g
  | [], [], _, _ => rfl
  | [], _ :: _, h, _ => by cases h
  | _ :: _, [], h, _ => by cases h
  | x :: l, y :: m, h, k => by
    rw [List.countP_cons, List.countP_cons, countP_same l m (by simpa using h) (fun p a b ha hb => k (p + 1) a b (by simpa using ha) (by simpa using hb)), k 0 x y rfl rfl]
theorem countP_less {α β : Type} {f : α → Bool} {g h : β → Bool} : ∀ (l : List α) (m : List β), l.length = m.length → (∀ (p : Nat) (x : α) (y : β), l[p]? = some x → m[p]? = some y → f x = true → g y = true ∨ h y = true) → l.countP f ≤ m.countP g + m.countP h
  | [], [], _, _ => Nat.zero_le _
  | [], _ :: _, hl, _ => by cases hl
  | _ :: _, [], hl, _ => by cases hl
  | x :: l, y :: m, hl, k => by
    have ih := countP_less (f := f) (g := g) (h := h) l m (by simpa using hl) (fun p a b ha hb => k (p + 1) a b (by simpa using ha) (by simpa using hb))
    have h0 := k 0 x y rfl rfl
    rw [List.countP_cons, List.countP_cons, List.countP_cons]
    cases hf : f x with
    | false => simp only [Bool.false_eq_true, if_false]; omega
    | true =>
      rcases h0 hf with h1 | h1
      · rw [h1]; simp only [if_true]; omega
      · rw [h1]; simp only [if_true]; omega
def reachL10 (c : List Ins) : List Bool := (List.range c.length).map (fun p : Nat => reachedB c (p : Int))
theorem reachL10_len (c : List Ins) : (reachL10 c).length = c.length := by simp [reachL10]
theorem reachL10_at {c : List Ins} {p : Nat} (hp : p < c.length) : (reachL10 c)[p]? = some (reachedB c (p : Int)) := by
  unfold reachL10
  rw [List.getElem?_map, List.getElem?_range hp]; rfl
/-- What each instruction is: reached or not, and which. -/
def bothL (c : List Ins) : List (Bool × Ins) := List.zip (reachL10 c) c
theorem bothL_len (c : List Ins) : (bothL c).length = c.length := by unfold bothL; rw [List.length_zip, reachL10_len]; omega
theorem bothL_at {c : List Ins} {p : Nat} {i : Ins} (hi : c[p]? = some i) : (bothL c)[p]? = some (reachedB c (p : Int), i) := by
  unfold bothL
  rw [List.getElem?_zip_eq_some]
  exact ⟨reachL10_at (List.getElem?_eq_some_iff.1 hi).1, hi⟩
def isGone (x : Bool × Ins) : Bool := !x.1
def isPure (x : Bool × Ins) : Bool := x.1 && pureI x.2
def isKept (x : Bool × Ins) : Bool := x.1 && !pureI x.2
theorem count_more {α : Type} (f : α → Bool) {l : List α} {k : Nat} {x : α} (h : l[k]? = some x) : (l.take (k + 1)).countP f = (l.take k).countP f + (if f x = true then 1 else 0) := by
  rw [List.take_add_one, h, List.countP_append]
  simp [List.countP_cons]
theorem count_left (K0 : List Bool) : ∀ (K : List Bool) (c : List Ins), (leftC K0 K c).countP (fun i => !pureI i) = (List.zip K c).countP isKept
  | [], _ => by simp [leftC]
  | _ :: _, [] => by simp [leftC]
  | b :: K, i :: c => by
    have ih := count_left K0 K c
    have hm : pureI (moveI K0 i) = pureI i := rfl
    rw [List.zip_cons_cons, List.countP_cons]
    unfold leftC
    cases b with
    | true => rw [if_pos rfl, List.countP_cons, ih, hm]; simp [isKept]
    | false => rw [if_neg (by simp), ih]; simp [isKept]
theorem count_all : ∀ (K : List Bool) (c : List Ins), K.length = c.length → (K.filter id).length + (List.zip K c).countP isGone = c.length
  | [], [], _ => rfl
  | [], _ :: _, h => by cases h
  | _ :: _, [], h => by cases h
  | b :: K, i :: c, h => by
    have ih := count_all K c (by simpa using h)
    rw [List.zip_cons_cons, List.countP_cons]
    cases b <;> simp [isGone] <;> omega
/-- What a sweep keeps, and leaves out. -/
theorem sweep_counts {f : Fnc} (h : RightF f) : (sweepF f).code.countP (fun i => !pureI i) = (bothL f.code).countP isKept ∧ (bothL f.code).countP isGone + (sweepF f).code.length ≤ f.code.length ∧ f.code.length ≤ (bothL f.code).countP isGone + (bothL f.code).countP isPure + (sweepF f).code.length := by
  obtain ⟨h1, h2⟩ := sweepK_spec h
  have hc := closed_of h
  have h0 := h.code.1
  obtain ⟨K, hK⟩ : ∃ K, sweepK f.code = K := ⟨_, rfl⟩
  rw [sweepF_yes h, hK]
  rw [hK] at h1 h2
  have hl := h1.len
  have hz : (List.zip K f.code).length = (bothL f.code).length := by rw [List.length_zip, bothL_len]; omega
  have hat : ∀ (p : Nat) (x y : Bool × Ins), (List.zip K f.code)[p]? = some x → (bothL f.code)[p]? = some y → ∃ i, f.code[p]? = some i ∧ K[p]? = some x.1 ∧ x.2 = i ∧ y = (reachedB f.code (p : Int), i) := by
    intro p x y hx hy
    rw [List.getElem?_zip_eq_some] at hx
    have := bothL_at hx.2
    rw [hy] at this
    injection this with this
    exact ⟨x.2, hx.2, hx.1, rfl, this⟩
  have hkr : ∀ p : Nat, K[p]? = some true → reachedB f.code (p : Int) = true := fun p hp => (reachedB_iff hc h0 _).2 (h1.kept hp)
  have e : (keepF K f).code.length = (K.filter id).length := leftC_len K K f.code hl
  have e2 := count_all K f.code hl
  refine ⟨?_, ?_, ?_⟩
  · show (leftC K K f.code).countP _ = _
    rw [count_left]
    refine countP_same _ _ hz (fun p x y hx hy => ?_)
    obtain ⟨i, a1, a2, a3, rfl⟩ := hat p x y hx hy
    obtain ⟨b, j⟩ := x
    simp only at a2 a3
    subst a3
    show (b && !pureI j) = (reachedB f.code (p : Int) && !pureI j)
    cases b with
    | true => rw [hkr p a2]
    | false =>
      cases hr : reachedB f.code (p : Int) with
      | false => rfl
      | true =>
        have := (h1.went a1 a2 ((reachedB_iff hc h0 _).1 hr)).1
        rw [this]; rfl
  · have : (bothL f.code).countP isGone ≤ (List.zip K f.code).countP isGone + (List.zip K f.code).countP isGone - (List.zip K f.code).countP isGone := by
      have := countP_less (f := isGone) (g := isGone) (h := fun _ => false) (bothL f.code) (List.zip K f.code) hz.symm (fun p y x hy hx hg => by
        obtain ⟨i, a1, a2, a3, rfl⟩ := hat p x y hx hy
        obtain ⟨b, j⟩ := x
        left
        show (!b) = true
        cases b with
        | false => rfl
        | true =>
          have := hkr p a2
          unfold isGone at hg
          simp only [this] at hg
          cases hg)
      simp at this
      omega
    omega
  · have := countP_less (f := isGone) (g := isGone) (h := isPure) (List.zip K f.code) (bothL f.code) hz (fun p x y hx hy hg => by
      obtain ⟨i, a1, a2, a3, rfl⟩ := hat p x y hx hy
      obtain ⟨b, j⟩ := x
      simp only at a2 a3
      subst a3
      have hb : b = false := by unfold isGone at hg; simpa using hg
      subst hb
      cases hr : reachedB f.code (p : Int) with
      | false => left; rfl
      | true =>
        right
        have := (h1.went a1 a2 ((reachedB_iff hc h0 _).1 hr)).1
        show (true && pureI j) = true
        rw [this]; rfl)
    omega
/-- Where all is reached, and nothing pure, a function stays. -/
theorem sweep_same {f : Fnc} (h : RightF f) (h1 : (bothL f.code).countP isGone = 0) (h2 : (bothL f.code).countP isPure = 0) : sweepF f = f := by
  rw [List.countP_eq_zero] at h1 h2
  have hr : ∀ p : Nat, p < f.code.length → reachedB f.code (p : Int) = true := fun p hp => by
    have := h1 _ (List.mem_of_getElem? (bothL_at (List.getElem?_eq_getElem hp)))
    unfold isGone at this
    simpa using this
  refine sweepF_stays h (fun p hp => (reachedB_iff (closed_of h) h.code.1 _).1 (hr p hp)) (fun p i hi hp => ?_)
  have := h2 _ (List.mem_of_getElem? (bothL_at hi))
  unfold isPure at this
  simp only [hr p (List.getElem?_eq_some_iff.1 hi).1, hp] at this
  exact absurd rfl this
end Go.Proofs.Ytgnpbodhjmappaa.Cd
