/-
  Layer 11: what is known of registers, on lists: the least that holds together, and how it is found.
-/
import Derived.Test.YtoffcljjfdifaaaQLB
namespace Go.Proofs.Ytoffcljjfdifaaa.Cd
set_option linter.unusedVariables false

theorem within_iff (a b : Val) : withinV a b ↔ a.kind = 0 ∨ a = b ∨ b = ⟨2, 0⟩ := by
  unfold withinV joinV
  by_cases ha : a.kind = 0
  · simp [ha]
  · rw [if_neg ha]
    by_cases hb : b.kind = 0
    · rw [if_pos hb]
      constructor
      · intro h; exact .inr (.inl h)
      · rintro (h | h | h)
        · exact absurd h ha
        · exact h
        · rw [h] at hb; exact absurd hb (by decide)
    · rw [if_neg hb]
      by_cases he : a = b
      · simp [he]
      · rw [if_neg he]
        constructor
        · intro h; exact .inr (.inr h.symm)
        · rintro (h | h | h)
          · exact absurd h ha
          · exact absurd h he
          · exact h.symm
theorem withinV.refl (a : Val) : withinV a a := (within_iff a a).2 (.inr (.inl rfl))
theorem withinV.trans {a b c : Val} (h : withinV a b) (k : withinV b c) : withinV a c := by
  rw [within_iff] at h k ⊢
  rcases h with h | h | h
  · exact .inl h
  · subst h; exact k
  · rcases k with k | k | k
    · subst h; exact absurd k (by decide)
    · subst k; exact .inr (.inr h)
    · exact .inr (.inr k)
theorem join_left (a b : Val) : withinV a (joinV a b) := by
  rw [within_iff]
  unfold joinV
  by_cases ha : a.kind = 0
  · exact .inl ha
  · rw [if_neg ha]
    by_cases hb : b.kind = 0
    · rw [if_pos hb]; exact .inr (.inl rfl)
    · rw [if_neg hb]
      by_cases he : a = b
      · rw [if_pos he]; exact .inr (.inl rfl)
      · rw [if_neg he]; exact .inr (.inr rfl)
theorem join_right (a b : Val) : withinV b (joinV a b) := by
  rw [within_iff]
  unfold joinV
  by_cases ha : a.kind = 0
  · rw [if_pos ha]; exact .inr (.inl rfl)
  · rw [if_neg ha]
    by_cases hb : b.kind = 0
    · rw [if_pos hb]; exact .inl hb
    · rw [if_neg hb]
      by_cases he : a = b
      · rw [if_pos he]; exact .inr (.inl he.symm)
      · rw [if_neg he]; exact .inr (.inr rfl)
theorem join_least {a b c : Val} (h : withinV a c) (k : withinV b c) : withinV (joinV a b) c := by
  unfold joinV
  by_cases ha : a.kind = 0
  · rw [if_pos ha]; exact k
  · rw [if_neg ha]
    by_cases hb : b.kind = 0
    · rw [if_pos hb]; exact h
    · rw [if_neg hb]
      by_cases he : a = b
      · rw [if_pos he]; exact h
      · rw [if_neg he, within_iff]
        rw [within_iff] at h k
        rcases h with h | h | h
        · exact absurd h ha
        · rcases k with k | k | k
          · exact absurd k hb
          · exact absurd (h.trans k.symm) he
          · exact .inr (.inr k)
        · exact .inr (.inr h)
/-- A value as it may be: a number only where it is known, and a word. -/
def OkV (a : Val) : Prop := (a.kind = 0 ∧ a.n = 0) ∨ (a.kind = 1 ∧ isW a.n = true) ∨ (a.kind = 2 ∧ a.n = 0)
theorem OkV.eq {a : Val} (h : OkV a) : a = ⟨0, 0⟩ ∨ (a.kind = 1 ∧ isW a.n = true) ∨ a = ⟨2, 0⟩ := by
  obtain ⟨k, n⟩ := a
  rcases h with ⟨h1, h2⟩ | h | ⟨h1, h2⟩
  · simp only at h1 h2; subst h1 h2; exact .inl rfl
  · exact .inr (.inl h)
  · simp only at h1 h2; subst h1 h2; exact .inr (.inr rfl)
theorem OkV.zero {a : Val} (h : OkV a) (hk : a.kind = 0) : a = ⟨0, 0⟩ := by
  rcases h.eq with h | h | h
  · exact h
  · have := h.1; omega
  · subst h; exact absurd hk (by decide)
theorem OkV.any {a : Val} (h : OkV a) (hk : a.kind ≠ 0) (hk1 : a.kind ≠ 1) : a = ⟨2, 0⟩ := by
  rcases h.eq with h | h | h
  · subst h; exact absurd rfl hk
  · exact absurd h.1 hk1
  · exact h
theorem OkV.join {a b : Val} (ha : OkV a) (hb : OkV b) : OkV (joinV a b) := by
  unfold joinV
  split
  · exact hb
  · split
    · exact ha
    · split
      · exact ha
      · exact .inr (.inr ⟨rfl, rfl⟩)
theorem withinV.anti {a b : Val} (ha : OkV a) (hb : OkV b) (h : withinV a b) (k : withinV b a) : a = b := by
  rw [within_iff] at h k
  rcases h with h | h | h
  · rcases k with k | k | k
    · rw [ha.zero h, hb.zero k]
    · exact k.symm
    · subst k; exact absurd h (by decide)
  · exact h
  · rcases k with k | k | k
    · subst h; exact absurd k (by decide)
    · exact k.symm
    · rw [h, k]
theorem withinV.kind {a b : Val} (h : withinV a b) (ha : a.kind ≠ 0) : b.kind ≠ 0 := by
  rw [within_iff] at h
  rcases h with h | h | h
  · exact absurd h ha
  · subst h; exact ha
  · subst h; decide
theorem join_same (a : Val) : joinV a a = a := by
  unfold joinV; simp
/-- Rows, one within the other. -/
theorem withinL.refl (v : List Val) : withinL v v := ⟨rfl, fun r a b h k => by rw [h] at k; injection k with k; subst k; exact .refl a⟩
theorem withinL.trans {u v w : List Val} (h : withinL u v) (k : withinL v w) : withinL u w := by
  refine ⟨h.1.trans k.1, fun r a c ha hc => ?_⟩
  have hr := (List.getElem?_eq_some_iff.1 ha).1
  have hb := List.getElem?_eq_getElem (l := v) (i := r) (by have := h.1; omega)
  exact (h.2 r a _ ha hb).trans (k.2 r _ c hb hc)
theorem withinL.full {v w : List Val} (h : withinL v w) (hv : fullV v) : fullV w := by
  intro b hb
  obtain ⟨r, hr, rfl⟩ := List.getElem_of_mem hb
  have hr' : r < v.length := by have := h.1; omega
  exact (h.2 r v[r] w[r] (List.getElem?_eq_getElem hr') (List.getElem?_eq_getElem hr)).kind (hv _ (List.getElem_mem hr'))
theorem withinL.getD {v w : List Val} (h : withinL v w) (r : Nat) : withinV (v.getD r ⟨0, 0⟩) (w.getD r ⟨0, 0⟩) := by
  rw [List.getD_eq_getElem?_getD, List.getD_eq_getElem?_getD]
  by_cases hr : r < v.length
  · have hr' : r < w.length := by have := h.1; omega
    rw [List.getElem?_eq_getElem hr, List.getElem?_eq_getElem hr']
    exact h.2 r _ _ (List.getElem?_eq_getElem hr) (List.getElem?_eq_getElem hr')
  · have hr' : ¬ r < w.length := by have := h.1; omega
    rw [List.getElem?_eq_none (by omega), List.getElem?_eq_none (by omega)]
    exact .refl _
theorem withinL.set {v w : List Val} (h : withinL v w) (d : Nat) {a b : Val} (hab : withinV a b) : withinL (v.set d a) (w.set d b) := by
  refine ⟨by simp [h.1], fun r x y hx hy => ?_⟩
  rw [List.getElem?_set] at hx hy
  by_cases hd : d = r
  · rw [if_pos hd] at hx hy
    split at hx
    · split at hy
      · injection hx with hx; injection hy with hy; subst hx hy; exact hab
      · cases hy
    · cases hx
  · rw [if_neg hd] at hx hy
    exact h.2 r x y hx hy
theorem fullV.getD {v : List Val} (h : fullV v) {r : Nat} (hr : r < v.length) : (v.getD r ⟨0, 0⟩).kind ≠ 0 := by
  rw [List.getD_eq_getElem?_getD, List.getElem?_eq_getElem hr]
  exact h _ (List.getElem_mem hr)
def joinL (v c : List Val) : List Val := List.zipWith joinV v c
theorem joinL_at {v c : List Val} {r : Nat} {a b : Val} (ha : v[r]? = some a) (hb : c[r]? = some b) : (joinL v c)[r]? = some (joinV a b) := by
  unfold joinL; rw [List.getElem?_zipWith, ha, hb]
theorem joinL_len {v c : List Val} (h : c.length = v.length) : (joinL v c).length = v.length := by
  unfold joinL; rw [List.length_zipWith]; omega
theorem joinL_left {v c : List Val} (h : c.length = v.length) : withinL v (joinL v c) := by
  refine ⟨(joinL_len h).symm, fun r a b ha hb => ?_⟩
  have hr := (List.getElem?_eq_some_iff.1 ha).1
  rw [joinL_at ha (List.getElem?_eq_getElem (l := c) (i := r) (by omega))] at hb
  injection hb with hb; subst hb
  exact join_left _ _
theorem joinL_right {v c : List Val} (h : c.length = v.length) : withinL c (joinL v c) := by
  refine ⟨h.trans (joinL_len h).symm, fun r a b ha hb => ?_⟩
  have hr := (List.getElem?_eq_some_iff.1 ha).1
  rw [joinL_at (List.getElem?_eq_getElem (l := v) (i := r) (by omega)) ha] at hb
  injection hb with hb; subst hb
  exact join_right _ _
theorem joinL_least {v c t : List Val} (h : withinL v t) (k : withinL c t) : withinL (joinL v c) t := by
  have hl : c.length = v.length := k.1.trans h.1.symm
  refine ⟨(joinL_len hl).trans h.1, fun r a b ha hb => ?_⟩
  have hr : r < v.length := by have := (List.getElem?_eq_some_iff.1 ha).1; rw [joinL_len hl] at this; exact this
  have e1 := List.getElem?_eq_getElem hr
  have e2 := List.getElem?_eq_getElem (l := c) (i := r) (by omega)
  rw [joinL_at e1 e2] at ha
  injection ha with ha; subst ha
  exact join_least (h.2 r _ b e1 hb) (k.2 r _ b e2 hb)
theorem mem_joinL {v c : List Val} {a : Val} (h : a ∈ joinL v c) : ∃ x ∈ v, ∃ y ∈ c, a = joinV x y := by
  unfold joinL at h
  obtain ⟨r, hr, rfl⟩ := List.getElem_of_mem h
  rw [List.length_zipWith] at hr
  exact ⟨v[r], List.getElem_mem (by omega), c[r], List.getElem_mem (by omega), by rw [List.getElem_zipWith]⟩
/-- What comes behind an instruction goes up with what is ahead. -/
theorem behV_up {g : Fnc} {i : Ins} {v w : List Val} {x : Val} (hi : RightI i g.regs g.frame g.code.length) (hl : (v.length : Int) = g.regs) (hv : fullV v) (h : withinL v w) (hx : behV i v = some x) : ∃ y, behV i w = some y ∧ withinV x y := by
  have hu := hi.uses
  unfold behV at hx ⊢
  by_cases h1 : i.kind = 1
  · rw [if_pos h1] at hx ⊢; injection hx with hx; exact ⟨_, rfl, by subst hx; exact .refl _⟩
  rw [if_neg h1] at hx ⊢
  by_cases h4 : i.kind = 4
  · rw [if_pos h4] at hx ⊢; injection hx with hx; exact ⟨_, rfl, by subst hx; exact h.getD _⟩
  rw [if_neg h4] at hx ⊢
  by_cases h2 : i.kind = 2 ∨ i.kind = 3
  · rw [if_pos h2] at hx ⊢
    simp only at hx ⊢
    have ha := hu i.a (by unfold uses readsA; rcases h2 with h | h <;> simp [h])
    have qa := h.getD i.a.toNat
    have fa := hv.getD (r := i.a.toNat) (by omega)
    have qb : withinV (if i.kind = 3 then v.getD i.b.toNat ⟨0, 0⟩ else (⟨1, 0⟩ : Val)) (if i.kind = 3 then w.getD i.b.toNat ⟨0, 0⟩ else (⟨1, 0⟩ : Val)) := by
      split
      · exact h.getD _
      · exact .refl _
    have fb : (if i.kind = 3 then v.getD i.b.toNat ⟨0, 0⟩ else (⟨1, 0⟩ : Val)).kind ≠ 0 := by
      split
      · rename_i h3
        have hb := hu i.b (by unfold uses readsA readsB; simp [h3])
        exact hv.getD (r := i.b.toNat) (by omega)
      · decide
    generalize v.getD i.a.toNat ⟨0, 0⟩ = a at *
    generalize w.getD i.a.toNat ⟨0, 0⟩ = a' at *
    generalize (if i.kind = 3 then v.getD i.b.toNat ⟨0, 0⟩ else (⟨1, 0⟩ : Val)) = b at *
    generalize (if i.kind = 3 then w.getD i.b.toNat ⟨0, 0⟩ else (⟨1, 0⟩ : Val)) = b' at *
    have any : ∀ z : Val, withinV z ⟨2, 0⟩ := fun z => (within_iff _ _).2 (.inr (.inr rfl))
    by_cases hn' : a'.kind ≠ 1 ∨ b'.kind ≠ 1
    · rw [if_pos hn']; exact ⟨_, rfl, any _⟩
    · rw [if_neg hn']
      have ea : a = a' := by
        rw [within_iff] at qa
        rcases qa with q | q | q
        · exact absurd q fa
        · exact q
        · exact absurd (.inl (by rw [q]; decide)) hn'
      have eb : b = b' := by
        rw [within_iff] at qb
        rcases qb with q | q | q
        · exact absurd q fb
        · exact q
        · exact absurd (.inr (by rw [q]; decide)) hn'
      subst ea eb
      rw [if_neg hn'] at hx
      exact ⟨x, hx, .refl _⟩
  rw [if_neg h2] at hx ⊢
  injection hx with hx
  exact ⟨_, rfl, by subst hx; exact .refl _⟩
theorem setV_up {i : Ins} {v w : List Val} {x y : Val} (h : withinL v w) (hx : withinV x y) : withinL (setV i v x) (setV i w y) := by
  unfold setV
  split
  · exact h.set _ hx
  · exact h
theorem setV_len (i : Ins) (v : List Val) (x : Val) : (setV i v x).length = v.length := by
  unfold setV; split <;> simp
theorem goesV_up {g : Fnc} {i : Ins} {v w : List Val} {p q : Int} (hi : RightI i g.regs g.frame g.code.length) (hl : (v.length : Int) = g.regs) (hv : fullV v) (h : withinL v w) (hq : q ∈ goesV i v p) : q ∈ goesV i w p := by
  unfold goesV at hq ⊢
  by_cases h12 : i.kind = 12
  · have ha := hi.uses i.a (by unfold uses readsA; simp [h12])
    have qa := h.getD i.a.toNat
    have fa := hv.getD (r := i.a.toNat) (by omega)
    have nx : next i p = [i.dest, i.els] := by unfold next; rw [if_neg (by omega), if_pos h12]
    by_cases hk : (w.getD i.a.toNat ⟨0, 0⟩).kind = 1
    · rw [if_pos ⟨h12, hk⟩]
      have e : v.getD i.a.toNat ⟨0, 0⟩ = w.getD i.a.toNat ⟨0, 0⟩ := by
        rw [within_iff] at qa
        rcases qa with q | q | q
        · exact absurd q fa
        · exact q
        · rw [q] at hk; exact absurd hk (by decide)
      rw [e, if_pos ⟨h12, hk⟩] at hq
      exact hq
    · rw [if_neg (fun e => hk e.2), nx]
      split at hq
      · rw [List.mem_singleton] at hq
        subst hq
        split <;> simp
      · rwa [nx] at hq
  · rw [if_neg (fun e => h12 e.1)] at hq ⊢
    exact hq
theorem goesV_set (i : Ins) (v : List Val) (x : Val) (p : Int) : goesV i (setV i v x) p = goesV i v p := by
  unfold goesV
  by_cases h12 : i.kind = 12
  · have : setV i v x = v := by
      unfold setV sets
      rw [if_neg (by rw [if_neg (by omega)]; omega)]
    rw [this]
  · rw [if_neg (fun e => h12 e.1), if_neg (fun e => h12 e.1)]
theorem goesV_next {i : Ins} {v : List Val} {p q : Int} (h : q ∈ goesV i v p) : q ∈ next i p := by
  unfold goesV at h
  split at h
  · rename_i h12
    rw [List.mem_singleton] at h
    unfold next
    rw [if_neg (by omega), if_pos h12.1]
    subst h
    split <;> simp
  · exact h
end Go.Proofs.Ytoffcljjfdifaaa.Cd
