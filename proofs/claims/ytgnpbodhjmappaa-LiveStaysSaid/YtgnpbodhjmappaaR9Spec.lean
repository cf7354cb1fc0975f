/-
  What is come to in a function's code, on lists.
-/
import Derived.Test.YtgnpbodhjmappaaR7Spec
namespace Go.Proofs.Ytgnpbodhjmappaa.Cd

def nexts (c : List Ins) (n : Int) : List Int := match c[n.toNat]? with | some i => next i n | none => []
theorem nexts_at {c : List Ins} {x : Int} {i : Ins} (h : c[x.toNat]? = some i) : nexts c x = next i x := by unfold nexts; rw [h]
def addNew (no : Int) : List Int → List Int → List Int
  | out, [] => out
  | out, x :: xs => addNew no (if x ≠ no ∧ x ∉ out then out ++ [x] else out) xs
def withoutF (c : List Ins) (no : Int) : Nat → List Int → Nat → List Int
  | 0, out, _ => out
  | f + 1, out, k => match out[k]? with
    | none => out
    | some x => withoutF c no f (addNew no out (nexts c x)) (k + 1)
/-- What is come to from one, if another one is not gone through. -/
def without (c : List Ins) (a no : Int) : List Int := if a = no then [] else withoutF c no (c.length + 1) [a] 0
/-- Is an instruction one of these? -/
def Inside (c : List Ins) (x : Int) : Prop := 0 ≤ x ∧ x < c.length
/-- Each goes on within. -/
def Closed (c : List Ins) : Prop := ∀ x, Inside c x → ∀ y ∈ nexts c x, Inside c y
inductive Reach (c : List Ins) (no a : Int) : Int → Prop where
  | start : a ≠ no → Reach c no a a
  | more {x y : Int} : Reach c no a x → y ∈ nexts c x → y ≠ no → Reach c no a y
/-- Reached by a way of the other end first. -/
theorem Reach.ahead {c : List Ins} {no a b x : Int} (ha : a ≠ no) (hab : b ∈ nexts c a) (h : Reach c no b x) : Reach c no a x := by
  induction h with
  | start hb => exact .more (.start ha) hab hb
  | more _ hy hn ih => exact .more ih hy hn
theorem Reach.trans {c : List Ins} {no a b x : Int} (h : Reach c no a b) (k : Reach c no b x) : Reach c no a x := by
  induction k with
  | start _ => exact h
  | more _ hy hn ih => exact .more ih hy hn
theorem Reach.not {c : List Ins} {no a x : Int} (h : Reach c no a x) : x ≠ no := by
  cases h <;> assumption
theorem Reach.first {c : List Ins} {no a x : Int} (h : Reach c no a x) : a ≠ no := by
  induction h with
  | start h => exact h
  | more _ _ _ ih => exact ih
theorem Reach.inside {c : List Ins} {no a x : Int} (hc : Closed c) (ha : Inside c a) (h : Reach c no a x) : Inside c x := by
  induction h with
  | start _ => exact ha
  | more _ hy _ ih => exact hc _ ih _ hy
/-- What stands in the rows stays there, in order. -/
theorem addNew_grows (no : Int) : ∀ (l out : List Int), ∃ t, addNew no out l = out ++ t
  | [], out => ⟨[], by simp [addNew]⟩
  | x :: l, out => by
    unfold addNew
    split
    · obtain ⟨t, ht⟩ := addNew_grows no l (out ++ [x])
      exact ⟨x :: t, by rw [ht]; simp⟩
    · exact addNew_grows no l out
theorem addNew_mem (no : Int) : ∀ (l out : List Int) (y : Int), y ∈ addNew no out l ↔ y ∈ out ∨ (y ∈ l ∧ y ≠ no)
  | [], out, y => by simp [addNew]
  | x :: l, out, y => by
    unfold addNew
    rw [addNew_mem no l]
    by_cases h : x ≠ no ∧ x ∉ out
    · rw [if_pos h]
      simp only [List.mem_append, List.mem_cons, List.not_mem_nil, or_false]
      constructor
      · rintro ((h1 | rfl) | h1)
        · exact .inl h1
        · exact .inr ⟨.inl rfl, h.1⟩
        · exact .inr ⟨.inr h1.1, h1.2⟩
      · rintro (h1 | ⟨rfl | h1, h2⟩)
        · exact .inl (.inl h1)
        · exact .inl (.inr rfl)
        · exact .inr ⟨h1, h2⟩
    · rw [if_neg h]
      simp only [List.mem_cons]
      constructor
      · rintro (h1 | h1)
        · exact .inl h1
        · exact .inr ⟨.inr h1.1, h1.2⟩
      · rintro (h1 | ⟨rfl | h1, h2⟩)
        · exact .inl h1
        · exact .inl (by
            by_cases h3 : y ∈ out
            · exact h3
            · exact absurd ⟨h2, h3⟩ h)
        · exact .inr ⟨h1, h2⟩
theorem addNew_nodup (no : Int) : ∀ (l out : List Int), out.Nodup → (addNew no out l).Nodup
  | [], out, h => by simpa [addNew] using h
  | x :: l, out, h => by
    unfold addNew
    split
    · rename_i h1
      refine addNew_nodup no l _ ?_
      rw [List.nodup_append]
      exact ⟨h, by simp, fun a ha b hb e => h1.2 (by rw [List.mem_singleton] at hb; rw [← hb, ← e]; exact ha)⟩
    · exact addNew_nodup no l out h
theorem nodup_lt : ∀ (n : Nat) (l : List Nat), l.Nodup → (∀ x ∈ l, x < n) → l.length ≤ n
  | 0, [], _, _ => Nat.le_refl _
  | 0, x :: _, _, h => absurd (h x (by simp)) (by omega)
  | n + 1, l, hn, h => by
    have h1 := nodup_lt n (l.erase n) (hn.erase n) (fun x hx => by
      have h2 := (List.Nodup.mem_erase_iff hn).1 hx
      have := h x h2.2
      have := h2.1
      omega)
    have h2 : l.length ≤ (l.erase n).length + 1 := by rw [List.length_erase]; split <;> omega
    omega
/-- So many that are inside, and none twice, are as many as there are at most. -/
theorem nodup_le {c : List Ins} {out : List Int} (h : out.Nodup) (hi : ∀ x ∈ out, Inside c x) : out.length ≤ c.length := by
  have h1 : ∀ (l : List Int), l.Nodup → (∀ x ∈ l, Inside c x) → (l.map Int.toNat).Nodup := by
    intro l
    induction l with
    | nil => intro _ _; simp
    | cons a l ih =>
      intro hn hi
      rw [List.nodup_cons] at hn
      rw [List.map_cons, List.nodup_cons]
      refine ⟨fun hm => ?_, ih hn.2 (fun x hx => hi x (by simp [hx]))⟩
      obtain ⟨b, hb, hab⟩ := List.mem_map.1 hm
      have h3 := hi a (by simp)
      have h4 := hi b (by simp [hb])
      unfold Inside at h3 h4
      have : a = b := by omega
      exact hn.1 (this ▸ hb)
  have := nodup_lt c.length (out.map Int.toNat) (h1 out h hi) (fun k hk => by
    obtain ⟨x, hx, rfl⟩ := List.mem_map.1 hk
    have := hi x hx
    unfold Inside at this
    omega)
  simpa using this
/-- How far the search is: none twice, all inside and come to, and what the first k go on at stands there. -/
structure Far (c : List Ins) (no a : Int) (out : List Int) (k : Nat) : Prop where
  nodup : out.Nodup
  inside : ∀ x ∈ out, Inside c x
  reach : ∀ x ∈ out, Reach c no a x
  first : a ∈ out
  done : ∀ i x, i < k → out[i]? = some x → ∀ y ∈ nexts c x, y ≠ no → y ∈ out
theorem Far.begin {c : List Ins} {no a : Int} (ha : Inside c a) (hn : a ≠ no) : Far c no a [a] 0 :=
  ⟨by simp, fun x hx => by rw [List.mem_singleton] at hx; rw [hx]; exact ha, fun x hx => by rw [List.mem_singleton] at hx; rw [hx]; exact .start hn, by simp, fun i x h => by omega⟩
theorem Far.more {c : List Ins} {no a : Int} {out : List Int} {k : Nat} {x : Int} (hc : Closed c) (h : Far c no a out k) (hx : out[k]? = some x) : Far c no a (addNew no out (nexts c x)) (k + 1) := by
  have hm : x ∈ out := List.mem_of_getElem? hx
  obtain ⟨t, ht⟩ := addNew_grows no (nexts c x) out
  refine ⟨addNew_nodup no _ _ h.nodup, fun y hy => ?_, fun y hy => ?_, (addNew_mem no _ _ _).2 (.inl h.first), fun i z hi hz y hy hn => ?_⟩
  · rcases (addNew_mem no _ _ _).1 hy with h1 | h1
    · exact h.inside y h1
    · exact hc x (h.inside x hm) y h1.1
  · rcases (addNew_mem no _ _ _).1 hy with h1 | h1
    · exact h.reach y h1
    · exact .more (h.reach x hm) h1.1 h1.2
  · have hk : k < out.length := (List.getElem?_eq_some_iff.1 hx).1
    rw [ht, List.getElem?_append_left (by omega)] at hz
    by_cases hik : i < k
    · exact (addNew_mem no _ _ _).2 (.inl (h.done i z hik hz y hy hn))
    · have : i = k := by omega
      subst this
      rw [hx] at hz
      injection hz with hz
      subst hz
      exact (addNew_mem no _ _ _).2 (.inr ⟨hy, hn⟩)
theorem Far.all {c : List Ins} {no a : Int} {out : List Int} {k : Nat} (h : Far c no a out k) (hk : out.length ≤ k) {x : Int} : x ∈ out ↔ Reach c no a x := by
  refine ⟨h.reach x, fun hr => ?_⟩
  induction hr with
  | start _ => exact h.first
  | more _ hy hn ih =>
    obtain ⟨i, hi⟩ := List.mem_iff_getElem?.1 ih
    have := (List.getElem?_eq_some_iff.1 hi).1
    exact h.done i _ (by omega) hi _ hy hn
theorem withoutF_far {c : List Ins} {no a : Int} (hc : Closed c) : ∀ (f : Nat) (out : List Int) (k : Nat), Far c no a out k → k ≤ out.length → c.length < f + k →
    ∃ k', Far c no a (withoutF c no f out k) k' ∧ (withoutF c no f out k).length ≤ k'
  | 0, out, k, h, hk, hf => by
    have := nodup_le h.nodup h.inside
    omega
  | f + 1, out, k, h, hk, hf => by
    unfold withoutF
    cases hx : out[k]? with
    | none => exact ⟨k, h, by rw [List.getElem?_eq_none_iff] at hx; exact hx⟩
    | some x =>
      have h1 := h.more hc hx
      obtain ⟨t, ht⟩ := addNew_grows no (nexts c x) out
      have h2 : k < out.length := (List.getElem?_eq_some_iff.1 hx).1
      exact withoutF_far hc f _ (k + 1) h1 (by rw [ht, List.length_append]; omega) (by omega)
theorem without_mem {c : List Ins} {no a : Int} (hc : Closed c) (ha : Inside c a) (x : Int) : x ∈ without c a no ↔ Reach c no a x := by
  unfold without
  split
  · rename_i h
    exact ⟨fun hx => by simp at hx, fun hx => absurd h hx.first⟩
  · rename_i h
    obtain ⟨k, h1, h2⟩ := withoutF_far hc (c.length + 1) [a] 0 (Far.begin ha h) (by simp) (by omega)
    exact h1.all h2
theorem without_inside {c : List Ins} {no a : Int} (hc : Closed c) (ha : Inside c a) {x : Int} (h : x ∈ without c a no) : Inside c x := ((without_mem hc ha x).1 h).inside hc ha

/-! ### What may be goes on within -/
theorem all_at {α : Type} {p : α → Bool} {l : List α} (h : l.all p = true) {i : Nat} {x : α} (hi : l[i]? = some x) : p x = true := List.all_eq_true.1 h x (List.mem_of_getElem? hi)
structure RightI (i : Ins) (regs frame len : Int) : Prop where
  low : 1 ≤ i.kind
  high : i.kind ≤ 13
  uses : ∀ r ∈ Cd.uses i, 0 ≤ r ∧ r < regs
  dst : dstOk i regs = true
  n : nOk i frame = true
  op : opOk i = true
  dest : toOk i len = true
  plain : i = plainOf i
theorem rightI_iff {i : Ins} {regs frame len : Int} : rightI i regs frame len = true ↔ RightI i regs frame len := by
  unfold rightI
  simp only [Bool.and_eq_true, decide_eq_true_eq, List.all_eq_true, regOk]
  constructor
  · rintro ⟨⟨⟨⟨⟨⟨⟨a, b⟩, c⟩, d⟩, e⟩, f⟩, g⟩, h⟩
    exact ⟨a, b, c, d, e, f, g, h⟩
  · rintro ⟨a, b, c, d, e, f, g, h⟩
    exact ⟨⟨⟨⟨⟨⟨⟨a, b⟩, c⟩, d⟩, e⟩, f⟩, g⟩, h⟩
structure RightF (f : Fnc) : Prop where
  name : f.name ≠ []
  params : 0 ≤ f.params ∧ f.params ≤ 6
  regs : f.params ≤ f.regs ∧ f.regs ≤ 4096
  frame : 0 ≤ f.frame ∧ f.frame ≤ 4096
  code : 0 < f.code.length ∧ f.code.length ≤ 8192
  all : ∀ i ∈ f.code, RightI i f.regs f.frame f.code.length
  last : 11 ≤ lastKind f.code
theorem rightF_iff {f : Fnc} : rightF f = true ↔ RightF f := by
  unfold rightF headOk
  simp only [Bool.and_eq_true, decide_eq_true_eq, List.all_eq_true, rightI_iff]
  constructor
  · rintro ⟨⟨⟨⟨⟨⟨⟨⟨⟨⟨a, b⟩, c⟩, d⟩, e⟩, g⟩, h⟩, i⟩, j⟩, k⟩, l⟩
    exact ⟨a, ⟨b, c⟩, ⟨d, e⟩, ⟨g, h⟩, ⟨i, j⟩, k, l⟩
  · rintro ⟨a, ⟨b, c⟩, ⟨d, e⟩, ⟨g, h⟩, ⟨i, j⟩, k, l⟩
    exact ⟨⟨⟨⟨⟨⟨⟨⟨⟨⟨a, b⟩, c⟩, d⟩, e⟩, g⟩, h⟩, i⟩, j⟩, k⟩, l⟩
theorem closed_of {f : Fnc} (h : RightF f) : Closed f.code := by
  intro x hx y hy
  cases hi : f.code[x.toNat]? with
  | none => unfold nexts at hy; rw [hi] at hy; simp at hy
  | some i =>
    rw [nexts_at hi] at hy
    unfold Inside at hx ⊢
    have hr := h.all i (List.mem_of_getElem? hi)
    have ht := hr.dest
    unfold toOk regOk at ht
    unfold next at hy
    by_cases h1 : i.kind = 11
    · rw [if_pos h1] at hy ht
      simp at hy ht
      subst hy; exact ht
    · rw [if_neg h1] at hy ht
      by_cases h2 : i.kind = 12
      · rw [if_pos h2] at hy ht
        simp at hy ht
        rcases hy with rfl | rfl
        · exact ht.1
        · exact ht.2
      · rw [if_neg h2] at hy
        by_cases h3 : i.kind = 13
        · rw [if_pos h3] at hy; simp at hy
        · rw [if_neg h3] at hy
          simp at hy
          subst hy
          have hlt := (List.getElem?_eq_some_iff.1 hi).1
          by_cases hl : x.toNat + 1 < f.code.length
          · omega
          · exfalso
            have hlast := h.last
            have e : f.code.getLast? = some i := by rw [List.getLast?_eq_getElem?, ← hi]; congr 1; omega
            unfold lastKind at hlast
            rw [e] at hlast
            have := hr.high
            simp only at hlast
            omega
end Go.Proofs.Ytgnpbodhjmappaa.Cd
