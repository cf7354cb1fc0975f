/-
  Layer 11: what is known of registers, on lists: the least that holds together, and how it is found.
  Layer 11: what is known of registers, on lists: what holds at each step of the program's search, and at its end.
-/
import Derived.Test.YtpajndeongcjbaaQLB
namespace Go.Proofs.Ytpajndeongcjbaa.Cd
set_option linter.unusedVariables false

theorem within_iff (a b : Val) : withinV a b ↔ a.kind = 0 ∨ a = b ∨ b = ⟨2, 0⟩ := by
  unfold withinV joinV
  by_cases ha : a.kind = 0
  · simp [ha]
  · rw [if_neg ha]
    by_cases hb : b.kind = 0
    · rw [if_pos hb]
      constructor
      · intro h; exact .inr (.inl h)
      · rintro (h | h | h)
        · exact absurd h ha
        · exact h
        · rw [h] at hb; exact absurd hb (by decide)
    · rw [if_neg hb]
      by_cases he : a = b
      · simp [he]
      · rw [if_neg he]
        constructor
        · intro h; exact .inr (.inr h.symm)
        · rintro (h | h | h)
          · exact absurd h ha
          · exact absurd h he
          · exact h.symm
theorem withinV.refl (a : Val) : withinV a a := (within_iff a a).2 (.inr (.inl rfl))
theorem withinV.trans {a b c : Val} (h : withinV a b) (k : withinV b c) : withinV a c := by
  rw [within_iff] at h k ⊢
  rcases h with h | h | h
  · exact .inl h
  · subst h; exact k
  · rcases k with k | k | k
    · subst h; exact absurd k (by decide)
    · subst k; exact .inr (.inr h)
    · exact .inr (.inr k)
theorem join_left (a b : Val) : withinV a (joinV a b) := by
  rw [within_iff]
  unfold joinV
  by_cases ha : a.kind = 0
  · exact .inl ha
  · rw [if_neg ha]
    by_cases hb : b.kind = 0
    · rw [if_pos hb]; exact .inr (.inl rfl)
    · rw [if_neg hb]
      by_cases he : a = b
      · rw [if_pos he]; exact .inr (.inl rfl)
      · rw [if_neg he]; exact .inr (.inr rfl)
theorem join_right (a b : Val) : withinV b (joinV a b) := by
  rw [within_iff]
  unfold joinV
  by_cases ha : a.kind = 0
  · rw [if_pos ha]; exact .inr (.inl rfl)
  · rw [if_neg ha]
    by_cases hb : b.kind = 0
    · rw [if_pos hb]; exact .inl hb
    · rw [if_neg hb]
      by_cases he : a = b
      · rw [if_pos he]; exact .inr (.inl he.symm)
      · rw [if_neg he]; exact .inr (.inr rfl)
theorem join_least {a b c : Val} (h : withinV a c) (k : withinV b c) : withinV (joinV a b) c := by
  unfold joinV
  by_cases ha : a.kind = 0
  · rw [if_pos ha]; exact k
  · rw [if_neg ha]
    by_cases hb : b.kind = 0
    · rw [if_pos hb]; exact h
    · rw [if_neg hb]
      by_cases he : a = b
      · rw [if_pos he]; exact h
      · rw [if_neg he, within_iff]
        rw [within_iff] at h k
        rcases h with h | h | h
        · exact absurd h ha
        · rcases k with k | k | k
          · exact absurd k hb
          · exact absurd (h.trans k.symm) he
          · exact .inr (.inr k)
        · exact .inr (.inr h)
/-- A value as it may be: a number only where it is known, and a word. -/
def OkV (a : Val) : Prop := (a.kind = 0 ∧ a.n = 0) ∨ (a.kind = 1 ∧ isW a.n = true) ∨ (a.kind = 2 ∧ a.n = 0)
theorem OkV.eq {a : Val} (h : OkV a) : a = ⟨0, 0⟩ ∨ (a.kind = 1 ∧ isW a.n = true) ∨ a = ⟨2, 0⟩ := by
  obtain ⟨k, n⟩ := a
  rcases h with ⟨h1, h2⟩ | h | ⟨h1, h2⟩
  · simp only at h1 h2; subst h1 h2; exact .inl rfl
  · exact .inr (.inl h)
  · simp only at h1 h2; subst h1 h2; exact .inr (.inr rfl)
theorem OkV.zero {a : Val} (h : OkV a) (hk : a.kind = 0) : a = ⟨0, 0⟩ := by
  rcases h.eq with h | h | h
  · exact h
  · have := h.1; omega
  · subst h; exact absurd hk (by decide)
theorem OkV.any {a : Val} (h : OkV a) (hk : a.kind ≠ 0) (hk1 : a.kind ≠ 1) : a = ⟨2, 0⟩ := by
  rcases h.eq with h | h | h
  · subst h; exact absurd rfl hk
  · exact absurd h.1 hk1
  · exact h
theorem OkV.join {a b : Val} (ha : OkV a) (hb : OkV b) : OkV (joinV a b) := by
  unfold joinV
  split
  · exact hb
  · split
    · exact ha
    · split
      · exact ha
      · exact .inr (.inr ⟨rfl, rfl⟩)
theorem withinV.anti {a b : Val} (ha : OkV a) (hb : OkV b) (h : withinV a b) (k : withinV b a) : a = b := by
  rw [within_iff] at h k
  rcases h with h | h | h
  · rcases k with k | k | k
    · rw [ha.zero h, hb.zero k]
    · exact k.symm
    · subst k; exact absurd h (by decide)
  · exact h
  · rcases k with k | k | k
    · subst h; exact absurd k (by decide)
    · exact k.symm
    · rw [h, k]
theorem withinV.kind {a b : Val} (h : withinV a b) (ha : a.kind ≠ 0) : b.kind ≠ 0 := by
  rw [within_iff] at h
  rcases h with h | h | h
  · exact absurd h ha
  · subst h; exact ha
  · subst h; decide
theorem join_same (a : Val) : joinV a a = a := by
  unfold joinV; simp
/-- Rows, one within the other. -/
theorem withinL.refl (v : List Val) : withinL v v := ⟨rfl, fun r a b h k => by rw [h] at k; injection k with k; subst k; exact .refl a⟩
theorem withinL.trans {u v w : List Val} (h : withinL u v) (k : withinL v w) : withinL u w := by
  refine ⟨h.1.trans k.1, fun r a c ha hc => ?_⟩
  have hr := (List.getElem?_eq_some_iff.1 ha).1
  have hb := List.getElem?_eq_getElem (l := v) (i := r) (by have := h.1; omega)
  exact (h.2 r a _ ha hb).trans (k.2 r _ c hb hc)
theorem withinL.full {v w : List Val} (h : withinL v w) (hv : fullV v) : fullV w := by
  intro b hb
  obtain ⟨r, hr, rfl⟩ := List.getElem_of_mem hb
  have hr' : r < v.length := by have := h.1; omega
  exact (h.2 r v[r] w[r] (List.getElem?_eq_getElem hr') (List.getElem?_eq_getElem hr)).kind (hv _ (List.getElem_mem hr'))
theorem withinL.getD {v w : List Val} (h : withinL v w) (r : Nat) : withinV (v.getD r ⟨0, 0⟩) (w.getD r ⟨0, 0⟩) := by
  rw [List.getD_eq_getElem?_getD, List.getD_eq_getElem?_getD]
  by_cases hr : r < v.length
  · have hr' : r < w.length := by have := h.1; omega
    rw [List.getElem?_eq_getElem hr, List.getElem?_eq_getElem hr']
    exact h.2 r _ _ (List.getElem?_eq_getElem hr) (List.getElem?_eq_getElem hr')
  · have hr' : ¬ r < w.length := by have := h.1; omega
    rw [List.getElem?_eq_none (by omega), List.getElem?_eq_none (by omega)]
    exact .refl _
theorem withinL.set {v w : List Val} (h : withinL v w) (d : Nat) {a b : Val} (hab : withinV a b) : withinL (v.set d a) (w.set d b) := by
  refine ⟨by simp [h.1], fun r x y hx hy => ?_⟩
  rw [List.getElem?_set] at hx hy
  by_cases hd : d = r
  · rw [if_pos hd] at hx hy
    split at hx
    · split at hy
      · injection hx with hx; injection hy with hy; subst hx hy; exact hab
      · cases hy
    · cases hx
  · rw [if_neg hd] at hx hy
    exact h.2 r x y hx hy
theorem fullV.getD {v : List Val} (h : fullV v) {r : Nat} (hr : r < v.length) : (v.getD r ⟨0, 0⟩).kind ≠ 0 := by
  rw [List.getD_eq_getElem?_getD, List.getElem?_eq_getElem hr]
  exact h _ (List.getElem_mem hr)
def joinL (v c : List Val) : List Val := List.zipWith joinV v c
theorem joinL_at {v c : List Val} {r : Nat} {a b : Val} (ha : v[r]? = some a) (hb : c[r]? = some b) : (joinL v c)[r]? = some (joinV a b) := by
  unfold joinL; rw [List.getElem?_zipWith, ha, hb]
theorem joinL_len {v c : List Val} (h : c.length = v.length) : (joinL v c).length = v.length := by
  unfold joinL; rw [List.length_zipWith]; omega
theorem joinL_left {v c : List Val} (h : c.length = v.length) : withinL v (joinL v c) := by
  refine ⟨(joinL_len h).symm, fun r a b ha hb => ?_⟩
  have hr := (List.getElem?_eq_some_iff.1 ha).1
  rw [joinL_at ha (List.getElem?_eq_getElem (l := c) (i := r) (by omega))] at hb
  injection hb with hb; subst hb
  exact join_left _ _
theorem joinL_right {v c : List Val} (h : c.length = v.length) : withinL c (joinL v c) := by
  refine ⟨h.trans (joinL_len h).symm, fun r a b ha hb => ?_⟩
  have hr := (List.getElem?_eq_some_iff.1 ha).1
  rw [joinL_at (List.getElem?_eq_getElem (l := v) (i := r) (by omega)) ha] at hb
  injection hb with hb; subst hb
  exact join_right _ _
theorem joinL_least {v c t : List Val} (h : withinL v t) (k : withinL c t) : withinL (joinL v c) t := by
  have hl : c.length = v.length := k.1.trans h.1.symm
  refine ⟨(joinL_len hl).trans h.1, fun r a b ha hb => ?_⟩
  have hr : r < v.length := by have := (List.getElem?_eq_some_iff.1 ha).1; rw [joinL_len hl] at this; exact this
  have e1 := List.getElem?_eq_getElem hr
  have e2 := List.getElem?_eq_getElem (l := c) (i := r) (by omega)
  rw [joinL_at e1 e2] at ha
  injection ha with ha; subst ha
  exact join_least (h.2 r _ b e1 hb) (k.2 r _ b e2 hb)
theorem mem_joinL {v c : List Val} {a : Val} (h : a ∈ joinL v c) : ∃ x ∈ v, ∃ y ∈ c, a = joinV x y := by
  unfold joinL at h
  obtain ⟨r, hr, rfl⟩ := List.getElem_of_mem h
  rw [List.length_zipWith] at hr
  exact ⟨v[r], List.getElem_mem (by omega), c[r], List.getElem_mem (by omega), by rw [List.getElem_zipWith]⟩
/-- What comes behind an instruction goes up with what is ahead. -/
theorem behV_up {g : Fnc} {i : Ins} {v w : List Val} {x : Val} (hi : RightI i g.regs g.frame g.code.length) (hl : (v.length : Int) = g.regs) (hv : fullV v) (h : withinL v w) (hx : behV i v = some x) : ∃ y, behV i w = some y ∧ withinV x y := by
  have hu := hi.uses
  unfold behV at hx ⊢
  by_cases h1 : i.kind = 1
  · rw [if_pos h1] at hx ⊢; injection hx with hx; exact ⟨_, rfl, by subst hx; exact .refl _⟩
  rw [if_neg h1] at hx ⊢
  by_cases h4 : i.kind = 4
  · rw [if_pos h4] at hx ⊢; injection hx with hx; exact ⟨_, rfl, by subst hx; exact h.getD _⟩
  rw [if_neg h4] at hx ⊢
  by_cases h2 : i.kind = 2 ∨ i.kind = 3
  · rw [if_pos h2] at hx ⊢
    simp only at hx ⊢
    have ha := hu i.a (by unfold uses readsA; rcases h2 with h | h <;> simp [h])
    have qa := h.getD i.a.toNat
    have fa := hv.getD (r := i.a.toNat) (by omega)
    have qb : withinV (if i.kind = 3 then v.getD i.b.toNat ⟨0, 0⟩ else (⟨1, 0⟩ : Val)) (if i.kind = 3 then w.getD i.b.toNat ⟨0, 0⟩ else (⟨1, 0⟩ : Val)) := by
      split
      · exact h.getD _
      · exact .refl _
    have fb : (if i.kind = 3 then v.getD i.b.toNat ⟨0, 0⟩ else (⟨1, 0⟩ : Val)).kind ≠ 0 := by
      split
      · rename_i h3
        have hb := hu i.b (by unfold uses readsA readsB; simp [h3])
        exact hv.getD (r := i.b.toNat) (by omega)
      · decide
    generalize v.getD i.a.toNat ⟨0, 0⟩ = a at *
    generalize w.getD i.a.toNat ⟨0, 0⟩ = a' at *
    generalize (if i.kind = 3 then v.getD i.b.toNat ⟨0, 0⟩ else (⟨1, 0⟩ : Val)) = b at *
    generalize (if i.kind = 3 then w.getD i.b.toNat ⟨0, 0⟩ else (⟨1, 0⟩ : Val)) = b' at *
    have any : ∀ z : Val, withinV z ⟨2, 0⟩ := fun z => (within_iff _ _).2 (.inr (.inr rfl))
    by_cases hn' : a'.kind ≠ 1 ∨ b'.kind ≠ 1
    · rw [if_pos hn']; exact ⟨_, rfl, any _⟩
    · rw [if_neg hn']
      have ea : a = a' := by
        rw [within_iff] at qa
        rcases qa with q | q | q
        · exact absurd q fa
        · exact q
        · exact absurd (.inl (by rw [q]; decide)) hn'
      have eb : b = b' := by
        rw [within_iff] at qb
        rcases qb with q | q | q
        · exact absurd q fb
        · exact q
        · exact absurd (.inr (by rw [q]; decide)) hn'
      subst ea eb
      rw [if_neg hn'] at hx
      exact ⟨x, hx, .refl _⟩
  rw [if_neg h2] at hx ⊢
  injection hx with hx
  exact ⟨_, rfl, by subst hx; exact .refl _⟩
theorem setV_up {i : Ins} {v w : List Val} {x y : Val} (h : withinL v w) (hx : withinV x y) : withinL (setV i v x) (setV i w y) := by
  unfold setV
  split
  · exact h.set _ hx
  · exact h
theorem setV_len (i : Ins) (v : List Val) (x : Val) : (setV i v x).length = v.length := by
  unfold setV; split <;> simp
theorem goesV_up {g : Fnc} {i : Ins} {v w : List Val} {p q : Int} (hi : RightI i g.regs g.frame g.code.length) (hl : (v.length : Int) = g.regs) (hv : fullV v) (h : withinL v w) (hq : q ∈ goesV i v p) : q ∈ goesV i w p := by
  unfold goesV at hq ⊢
  by_cases h12 : i.kind = 12
  · have ha := hi.uses i.a (by unfold uses readsA; simp [h12])
    have qa := h.getD i.a.toNat
    have fa := hv.getD (r := i.a.toNat) (by omega)
    have nx : next i p = [i.dest, i.els] := by unfold next; rw [if_neg (by omega), if_pos h12]
    by_cases hk : (w.getD i.a.toNat ⟨0, 0⟩).kind = 1
    · rw [if_pos ⟨h12, hk⟩]
      have e : v.getD i.a.toNat ⟨0, 0⟩ = w.getD i.a.toNat ⟨0, 0⟩ := by
        rw [within_iff] at qa
        rcases qa with q | q | q
        · exact absurd q fa
        · exact q
        · rw [q] at hk; exact absurd hk (by decide)
      rw [e, if_pos ⟨h12, hk⟩] at hq
      exact hq
    · rw [if_neg (fun e => hk e.2), nx]
      split at hq
      · rw [List.mem_singleton] at hq
        subst hq
        split <;> simp
      · rwa [nx] at hq
  · rw [if_neg (fun e => h12 e.1)] at hq ⊢
    exact hq
theorem goesV_set (i : Ins) (v : List Val) (x : Val) (p : Int) : goesV i (setV i v x) p = goesV i v p := by
  unfold goesV
  by_cases h12 : i.kind = 12
  · have : setV i v x = v := by
      unfold setV sets
      rw [if_neg (by rw [if_neg (by omega)]; omega)]
    rw [this]
  · rw [if_neg (fun e => h12 e.1), if_neg (fun e => h12 e.1)]
theorem goesV_next {i : Ins} {v : List Val} {p q : Int} (h : q ∈ goesV i v p) : q ∈ next i p := by
  unfold goesV at h
  split at h
  · rename_i h12
    rw [List.mem_singleton] at h
    unfold next
    rw [if_neg (by omega), if_pos h12.1]
    subst h
    split <;> simp
  · exact h
end Go.Proofs.Ytpajndeongcjbaa.Cd
namespace Go.Proofs.Ytpajndeongcjbaa.Cd
open Go.RowKit (wrap32 wrap64)
set_option linter.unusedVariables false

def firstL (g : Fnc) : List Val := (List.range g.regs.toNat).map (firstV g)
theorem firstL_len (g : Fnc) : (firstL g).length = g.regs.toNat := by simp [firstL]
theorem firstL_at {g : Fnc} {r : Nat} (h : (r : Int) < g.regs) : (firstL g)[r]? = some (firstV g r) := by
  unfold firstL; rw [List.getElem?_map, List.getElem?_range (by omega)]; rfl
theorem firstL_full (g : Fnc) : fullV (firstL g) := by
  intro a ha
  unfold firstL at ha
  obtain ⟨r, _, rfl⟩ := List.mem_map.1 ha
  unfold firstV; split <;> decide
theorem firstL_ok (g : Fnc) : ∀ a ∈ firstL g, OkV a := by
  intro a ha
  unfold firstL at ha
  obtain ⟨r, _, rfl⟩ := List.mem_map.1 ha
  unfold firstV; split
  · exact .inr (.inr ⟨rfl, rfl⟩)
  · exact .inr (.inl ⟨rfl, by decide⟩)
/-- Some values that hold together. -/
structure PreV (g : Fnc) (T : List (List Val)) : Prop where
  len : T.length = g.code.length
  row : ∀ v ∈ T, (v.length : Int) = g.regs
  first : ∀ v, T[0]? = some v → withinL (firstL g) v
  edge : ∀ (k : Nat) (i : Ins) (v : List Val) (x : Val), g.code[k]? = some i → T[k]? = some v → fullV v → behV i v = some x → ∀ p ∈ goesV i v k, ∀ w, T[p.toNat]? = some w → withinL (setV i v x) w
/-- Is a value above all that comes to a register of an instruction? -/
def UpB (g : Fnc) (S : List (List Val)) (t r : Nat) (b : Val) : Prop :=
  (t = 0 → (r : Int) < g.regs → withinV (firstV g r) b) ∧ ∀ (k : Nat) (i : Ins) (v : List Val) (x a : Val), g.code[k]? = some i → S[k]? = some v → fullV v → behV i v = some x → (t : Int) ∈ goesV i v k → (setV i v x)[r]? = some a → withinV a b
structure InvV (g : Fnc) (S : List (List Val)) (op : List Int) (X : Nat → Prop) : Prop where
  len : S.length = g.code.length
  row : ∀ v ∈ S, (v.length : Int) = g.regs
  ok : ∀ v ∈ S, ∀ a ∈ v, OkV a
  opn : ∀ p ∈ op, ∃ (k : Nat) (v : List Val), p = (k : Int) ∧ S[k]? = some v ∧ fullV v
  first : ∀ v, S[0]? = some v → withinL (firstL g) v
  closed : ∀ (k : Nat) (i : Ins) (v : List Val) (x : Val), ¬ X k → (k : Int) ∉ op → g.code[k]? = some i → S[k]? = some v → fullV v → behV i v = some x → ∀ p ∈ goesV i v k, ∀ w, S[p.toNat]? = some w → withinL (setV i v x) w
  supp : ∀ (t r : Nat) (b : Val) (w : List Val) (a : Val), UpB g S t r b → S[t]? = some w → w[r]? = some a → withinV a b
  least : ∀ T, PreV g T → ∀ (k : Nat) (v t : List Val), S[k]? = some v → T[k]? = some t → withinL v t
def zerosV (g : Fnc) : List (List Val) := List.replicate g.code.length (List.replicate g.regs.toNat ⟨0, 0⟩)
theorem join_zeros (g : Fnc) : joinL (List.replicate g.regs.toNat ⟨0, 0⟩) (firstL g) = firstL g := by
  apply List.ext_getElem?
  intro r
  unfold joinL
  rw [List.getElem?_zipWith]
  by_cases hr : r < g.regs.toNat
  · rw [List.getElem?_replicate, if_pos hr, firstL_at (by omega)]
    simp [joinV]
  · rw [List.getElem?_replicate, if_neg hr, List.getElem?_eq_none (by rw [firstL_len]; omega)]
theorem begin_at {g : Fnc} {k : Nat} {v : List Val} (h : ((zerosV g).set 0 (firstL g))[k]? = some v) : (k = 0 ∧ v = firstL g) ∨ (k ≠ 0 ∧ v = List.replicate g.regs.toNat ⟨0, 0⟩) := by
  unfold zerosV at h
  by_cases hk : 0 = k
  · subst hk
    rw [List.getElem?_set] at h
    simp only [if_true] at h
    split at h
    · injection h with h; exact .inl ⟨rfl, h.symm⟩
    · cases h
  · rw [List.getElem?_set_ne hk, List.getElem?_replicate] at h
    split at h
    · injection h with h; exact .inr ⟨fun e => hk e.symm, h.symm⟩
    · cases h
theorem InvV.begin {g : Fnc} (h : RightF g) : InvV g ((zerosV g).set 0 (firstL g)) [0] (fun _ => False) := by
  have hn : g.code.length ≠ 0 := by have := h.code; omega
  have hr0 : 0 ≤ g.regs := by have := h.params; have := h.regs; omega
  have len0 : ((zerosV g).set 0 (firstL g)).length = g.code.length := by simp [zerosV]
  have at0 : ((zerosV g).set 0 (firstL g))[0]? = some (firstL g) := List.getElem?_set_self (by simp [zerosV]; omega)
  refine ⟨len0, ?_, ?_, ?_, ?_, ?_, ?_, ?_⟩
  · intro v hv
    obtain ⟨k, hk⟩ := List.mem_iff_getElem?.1 hv
    rcases begin_at hk with ⟨_, rfl⟩ | ⟨_, rfl⟩
    · rw [firstL_len]; omega
    · rw [List.length_replicate]; omega
  · intro v hv
    obtain ⟨k, hk⟩ := List.mem_iff_getElem?.1 hv
    rcases begin_at hk with ⟨_, rfl⟩ | ⟨_, rfl⟩
    · exact firstL_ok g
    · intro a ha; rw [List.eq_of_mem_replicate ha]; exact .inl ⟨rfl, rfl⟩
  · intro p hp
    rw [List.mem_singleton] at hp
    exact ⟨0, _, hp, at0, firstL_full g⟩
  · intro v hv
    rw [at0] at hv; injection hv with hv; subst hv; exact .refl _
  · intro k i v x _ hk hi hv hf hx p hp w hw
    rcases begin_at hv with ⟨rfl, _⟩ | ⟨hk0, rfl⟩
    · exact absurd (by simp) hk
    · have hr : g.regs.toNat = 0 := by
        rcases Nat.eq_zero_or_pos g.regs.toNat with h | h
        · exact h
        · exact absurd rfl (hf ⟨0, 0⟩ (by rw [List.mem_replicate]; exact ⟨by omega, rfl⟩))
      have hwl : w.length = 0 := by
        rcases begin_at hw with ⟨_, rfl⟩ | ⟨_, rfl⟩
        · rw [firstL_len]; exact hr
        · rw [List.length_replicate]; exact hr
      refine ⟨by rw [setV_len, List.length_replicate, hwl, hr], fun r a b ha hb => ?_⟩
      have := (List.getElem?_eq_some_iff.1 hb).1
      omega
  · intro t r b w a hb hw ha
    rcases begin_at hw with ⟨rfl, rfl⟩ | ⟨_, rfl⟩
    · have hr := (List.getElem?_eq_some_iff.1 ha).1
      rw [firstL_len] at hr
      rw [firstL_at (by omega)] at ha
      injection ha with ha; subst ha
      exact hb.1 rfl (by omega)
    · rw [List.getElem?_replicate] at ha
      split at ha
      · injection ha with ha; subst ha; exact (within_iff _ _).2 (.inl rfl)
      · cases ha
  · intro T hT k v t hv ht
    rcases begin_at hv with ⟨rfl, rfl⟩ | ⟨_, rfl⟩
    · exact hT.first t ht
    · refine ⟨?_, fun r a b ha _ => ?_⟩
      · have := hT.row t (List.mem_of_getElem? ht)
        rw [List.length_replicate]; omega
      · rw [List.getElem?_replicate] at ha
        split at ha
        · injection ha with ha; subst ha; exact (within_iff _ _).2 (.inl rfl)
        · cases ha
section
variable {g : Fnc} {S : List (List Val)} {op : List Int} {X : Nat → Prop}
theorem InvV.rowAt (h : InvV g S op X) {k : Nat} {v : List Val} (hv : S[k]? = some v) : (v.length : Int) = g.regs := h.row v (List.mem_of_getElem? hv)
theorem InvV.pop {k : Nat} (h : InvV g S (op ++ [(k : Int)]) (fun _ => False)) : InvV g S op (fun j => j = k) :=
  ⟨h.len, h.row, h.ok, fun p hp => h.opn p (by simp [hp]), h.first,
    fun j i v x hX hj hi hv hf hx => h.closed j i v x (fun e => e) (by
      rw [List.mem_append, List.mem_singleton]
      rintro (e | e)
      · exact hj e
      · exact hX (by omega)) hi hv hf hx,
    h.supp, h.least⟩
/-- What is known of fewer, and of more. -/
theorem UpB.up {S' : List (List Val)} (hR : RightF g) (hrow : ∀ v ∈ S, (v.length : Int) = g.regs) (hup : ∀ (k : Nat) (v : List Val), S[k]? = some v → ∃ v', S'[k]? = some v' ∧ withinL v v') {t r : Nat} {b : Val} (h : UpB g S' t r b) : UpB g S t r b := by
  refine ⟨h.1, fun k i v x a hi hv hf hx hg ha => ?_⟩
  obtain ⟨v', hv', hw⟩ := hup k v hv
  have hI := hR.all i (List.mem_of_getElem? hi)
  have hl := hrow v (List.mem_of_getElem? hv)
  obtain ⟨y, hy, hxy⟩ := behV_up hI hl hf hw hx
  have hs := setV_up (i := i) hw hxy
  have hr := (List.getElem?_eq_some_iff.1 ha).1
  have ha' := List.getElem?_eq_getElem (l := setV i v' y) (i := r) (by have := hs.1; omega)
  exact (hs.2 r a _ ha ha').trans (h.2 k i v' y _ hi hv' (hw.full hf) hy (goesV_up hI hl hf hw hg) ha')
theorem isW_wrap {n : Int} (h : wrap32 n = n) : isW n = true := by
  have := wrap32_bd n
  unfold isW
  rw [decide_eq_true_eq]
  omega
theorem beh_ok {i : Ins} {v : List Val} {x : Val} (hI : RightI i g.regs g.frame g.code.length) (hl : (v.length : Int) = g.regs) (hok : ∀ a ∈ v, OkV a) (hx : behV i v = some x) : OkV x := by
  unfold behV at hx
  split at hx
  · rename_i h1
    injection hx with hx; subst hx
    have := hI.n
    unfold nOk at this
    rw [if_pos h1] at this
    exact .inr (.inl ⟨rfl, this⟩)
  split at hx
  · rename_i h4
    injection hx with hx; subst hx
    have ha := hI.uses i.a (by unfold uses readsA; simp [h4])
    rw [List.getD_eq_getElem?_getD, List.getElem?_eq_getElem (show i.a.toNat < v.length by omega)]
    exact hok _ (List.getElem_mem _)
  split at hx
  · simp only at hx
    generalize (if i.kind = 3 then v.getD i.b.toNat ⟨0, 0⟩ else (⟨1, 0⟩ : Val)) = b at hx
    split at hx
    · injection hx with hx; subst hx; exact .inr (.inr ⟨rfl, rfl⟩)
    · split at hx
      · injection hx with hx; subst hx; exact .inr (.inl ⟨rfl, isW_wrap (doV_word _ _ _)⟩)
      · cases hx
  · injection hx with hx; subst hx; exact .inr (.inr ⟨rfl, rfl⟩)
theorem beh_full {i : Ins} {v : List Val} {x : Val} (hI : RightI i g.regs g.frame g.code.length) (hl : (v.length : Int) = g.regs) (hf : fullV v) (hx : behV i v = some x) : x.kind ≠ 0 := by
  unfold behV at hx
  split at hx
  · injection hx with hx; subst hx; show (1 : Int) ≠ 0; decide
  split at hx
  · rename_i h4
    injection hx with hx; subst hx
    have ha := hI.uses i.a (by unfold uses readsA; simp [h4])
    exact hf.getD (by omega)
  split at hx
  · simp only at hx
    generalize (if i.kind = 3 then v.getD i.b.toNat ⟨0, 0⟩ else (⟨1, 0⟩ : Val)) = b at hx
    split at hx
    · injection hx with hx; subst hx; decide
    · split at hx
      · injection hx with hx; subst hx; show (1 : Int) ≠ 0; decide
      · cases hx
  · injection hx with hx; subst hx; decide
theorem set_full {i : Ins} {v : List Val} {x : Val} (hf : fullV v) (hx : x.kind ≠ 0) : fullV (setV i v x) := by
  unfold setV
  split
  · intro a ha
    rcases List.mem_or_eq_of_mem_set ha with h | h
    · exact hf a h
    · subst h; exact hx
  · exact hf
theorem set_ok {i : Ins} {v : List Val} {x : Val} (hf : ∀ a ∈ v, OkV a) (hx : OkV x) : ∀ a ∈ setV i v x, OkV a := by
  unfold setV
  split
  · intro a ha
    rcases List.mem_or_eq_of_mem_set ha with h | h
    · exact hf a h
    · subst h; exact hx
  · exact hf
theorem join_full {v c : List Val} (h : c.length = v.length) (hc : fullV c) : fullV (joinL v c) := (joinL_right h).full hc
theorem set_up {k p : Nat} {w w' v : List Val} (hw : S[p]? = some w) (hup : withinL w w') (hv : S[k]? = some v) : ∃ v', (S.set p w')[k]? = some v' ∧ withinL v v' := by
  by_cases hp : p = k
  · subst hp
    rw [hw] at hv; injection hv with hv; subst hv
    exact ⟨w', List.getElem?_set_self (List.getElem?_eq_some_iff.1 hw).1, hup⟩
  · exact ⟨v, by rw [List.getElem?_set_ne hp]; exact hv, .refl _⟩
/-- What comes along an edge is put in. -/
theorem InvV.edge {k p : Nat} {i : Ins} {v w : List Val} {x : Val} (hR : RightF g) (h : InvV g S op (fun j => j = k)) (hi : g.code[k]? = some i) (hv : S[k]? = some v) (hf : fullV v) (hx : behV i v = some x) (hp : (p : Int) ∈ goesV i v k) (hw : S[p]? = some w) :
    InvV g (S.set p (joinL w (setV i v x))) (if joinL w (setV i v x) = w then op else op ++ [(p : Int)]) (fun j => j = k) := by
  have hI := hR.all i (List.mem_of_getElem? hi)
  have hl := h.rowAt hv
  have hlw := h.rowAt hw
  have hcl : (setV i v x).length = w.length := by rw [setV_len]; omega
  have hpl := (List.getElem?_eq_some_iff.1 hw).1
  have hleft := joinL_left hcl
  have hxk := beh_full hI hl hf hx
  have hxo := beh_ok hI hl (h.ok v (List.mem_of_getElem? hv)) hx
  have hup : ∀ (k : Nat) (u : List Val), S[k]? = some u → ∃ u', (S.set p (joinL w (setV i v x)))[k]? = some u' ∧ withinL u u' := fun k u hu => set_up hw hleft hu
  have hmem : ∀ u ∈ S.set p (joinL w (setV i v x)), u ∈ S ∨ u = joinL w (setV i v x) := fun u hu => List.mem_or_eq_of_mem_set hu
  have hdown : ∀ (j : Nat) (u' : List Val), (S.set p (joinL w (setV i v x)))[j]? = some u' → (j = p ∧ u' = joinL w (setV i v x)) ∨ (j ≠ p ∧ S[j]? = some u') := by
    intro j u' hu
    by_cases hj : p = j
    · subst hj
      rw [List.getElem?_set_self hpl] at hu
      injection hu with hu
      exact .inl ⟨rfl, hu.symm⟩
    · rw [List.getElem?_set_ne hj] at hu
      exact .inr ⟨fun e => hj e.symm, hu⟩
  refine ⟨by rw [List.length_set]; exact h.len, ?_, ?_, ?_, ?_, ?_, ?_, ?_⟩
  · intro u hu
    rcases hmem u hu with hu | rfl
    · exact h.row u hu
    · rw [joinL_len hcl]; exact hlw
  · intro u hu a ha
    rcases hmem u hu with hu | rfl
    · exact h.ok u hu a ha
    · obtain ⟨y, hy, z, hz, rfl⟩ := mem_joinL ha
      exact (h.ok w (List.mem_of_getElem? hw) y hy).join (set_ok (h.ok v (List.mem_of_getElem? hv)) hxo z hz)
  · have old : ∀ q ∈ op, ∃ (j : Nat) (u : List Val), q = (j : Int) ∧ (S.set p (joinL w (setV i v x)))[j]? = some u ∧ fullV u := by
      intro q hq
      obtain ⟨j, u, e1, e2, e3⟩ := h.opn q hq
      obtain ⟨u', e4, e5⟩ := hup j u e2
      exact ⟨j, u', e1, e4, e5.full e3⟩
    intro q hq
    split at hq
    · exact old q hq
    · rcases List.mem_append.1 hq with hq | hq
      · exact old q hq
      · rw [List.mem_singleton] at hq
        exact ⟨p, _, hq, List.getElem?_set_self hpl, join_full hcl (set_full hf hxk)⟩
  · intro u hu
    rcases hdown 0 u hu with ⟨e, rfl⟩ | ⟨_, hu⟩
    · subst e
      exact (h.first w hw).trans hleft
    · exact h.first u hu
  · intro j i' u y hX hj hi' hu hfu hy q hq u2 hu2
    rcases hdown j u hu with ⟨rfl, rfl⟩ | ⟨hjp, hu'⟩
    · by_cases he : joinL w (setV i v x) = w
      · rw [if_pos he] at hj
        rw [he] at hu hfu hy hq ⊢
        rcases hdown q.toNat u2 hu2 with ⟨e, rfl⟩ | ⟨_, hu2'⟩
        · rw [he]
          exact h.closed j i' w y hX hj hi' hw hfu hy q hq w (by rw [e]; exact hw)
        · exact h.closed j i' w y hX hj hi' hw hfu hy q hq u2 hu2'
      · rw [if_neg he] at hj
        exact absurd (by simp) hj
    · have hj' : (j : Int) ∉ op := by
        split at hj
        · exact hj
        · exact fun e => hj (List.mem_append_left _ e)
      rcases hdown q.toNat u2 hu2 with ⟨e, rfl⟩ | ⟨_, hu2'⟩
      · exact (h.closed j i' u y hX hj' hi' hu' hfu hy q hq w (by rw [e]; exact hw)).trans hleft
      · exact h.closed j i' u y hX hj' hi' hu' hfu hy q hq u2 hu2'
  · intro t r b u a hb hu ha
    have hb' := hb.up hR h.row hup
    rcases hdown t u hu with ⟨rfl, rfl⟩ | ⟨_, hu'⟩
    · have hr : r < w.length := by have := (List.getElem?_eq_some_iff.1 ha).1; rw [joinL_len hcl] at this; exact this
      have e1 := List.getElem?_eq_getElem hr
      have e2 := List.getElem?_eq_getElem (l := setV i v x) (i := r) (by omega)
      rw [joinL_at e1 e2] at ha
      injection ha with ha; subst ha
      exact join_least (h.supp t r b w _ hb' hw e1) (hb'.2 k i v x _ hi hv hf hx hp e2)
    · exact h.supp t r b u a hb' hu' ha
  · intro T hT j u t hu ht
    rcases hdown j u hu with ⟨rfl, rfl⟩ | ⟨_, hu'⟩
    · refine joinL_least (h.least T hT j w t hw ht) ?_
      have hkl := (List.getElem?_eq_some_iff.1 hi).1
      have hTk := List.getElem?_eq_getElem (l := T) (i := k) (by rw [hT.len]; exact hkl)
      have hvt := h.least T hT k v _ hv hTk
      obtain ⟨y, hy, hxy⟩ := behV_up hI hl hf hvt hx
      exact (setV_up hvt hxy).trans (hT.edge k i _ y hi hTk (hvt.full hf) hy j (goesV_up hI hl hf hvt hp) t (by simpa using ht))
    · exact h.least T hT j u t hu' ht
/-- All edges of one are done. -/
theorem InvV.done {k : Nat} {i : Ins} {v : List Val} (h : InvV g S op (fun j => j = k)) (hi : g.code[k]? = some i) (hv : S[k]? = some v) (hall : ∀ x, behV i v = some x → ∀ p ∈ goesV i v k, ∀ w, S[p.toNat]? = some w → withinL (setV i v x) w) : InvV g S op (fun _ => False) := by
  refine ⟨h.len, h.row, h.ok, h.opn, h.first, fun j i' u x _ hj hi' hu hf hx p hp w hw => ?_, h.supp, h.least⟩
  by_cases hjk : j = k
  · subst hjk
    rw [hi] at hi'; injection hi' with hi'; subst hi'
    rw [hv] at hu; injection hu with hu; subst hu
    exact hall x hx p hp w hw
  · exact h.closed j i' u x hjk hj hi' hu hf hx p hp w hw
end
/-- The least that holds together. -/
structure Sol (g : Fnc) (S : List (List Val)) : Prop where
  pre : PreV g S
  ok : ∀ v ∈ S, ∀ a ∈ v, OkV a
  supp : ∀ (t r : Nat) (b : Val) (w : List Val) (a : Val), UpB g S t r b → S[t]? = some w → w[r]? = some a → withinV a b
  least : ∀ T, PreV g T → ∀ (k : Nat) (v t : List Val), S[k]? = some v → T[k]? = some t → withinL v t
theorem InvV.sol {g : Fnc} {S : List (List Val)} (h : InvV g S [] (fun _ => False)) : Sol g S :=
  ⟨⟨h.len, h.row, h.first, fun k i v x hi hv hf hx => h.closed k i v x (fun e => e) (by simp) hi hv hf hx⟩, h.ok, h.supp, h.least⟩
theorem withinL.anti {v w : List Val} (hv : ∀ a ∈ v, OkV a) (hw : ∀ a ∈ w, OkV a) (h : withinL v w) (k : withinL w v) : v = w := by
  apply List.ext_getElem?
  intro r
  by_cases hr : r < v.length
  · have e1 := List.getElem?_eq_getElem hr
    have e2 := List.getElem?_eq_getElem (l := w) (i := r) (by have := h.1; omega)
    rw [e1, e2]
    exact congrArg some (withinV.anti (hv _ (List.getElem_mem hr)) (hw _ (List.getElem_mem _)) (h.2 r _ _ e1 e2) (k.2 r _ _ e2 e1))
  · rw [List.getElem?_eq_none (by omega), List.getElem?_eq_none (by have := h.1; omega)]
theorem Sol.unique {g : Fnc} {S T : List (List Val)} (h : Sol g S) (k : Sol g T) : S = T := by
  apply List.ext_getElem?
  intro r
  by_cases hr : r < S.length
  · have e1 := List.getElem?_eq_getElem hr
    have e2 := List.getElem?_eq_getElem (l := T) (i := r) (by have := h.pre.len; have := k.pre.len; omega)
    rw [e1, e2]
    exact congrArg some (withinL.anti (h.ok _ (List.getElem_mem hr)) (k.ok _ (List.getElem_mem _)) (h.least T k.pre r _ _ e1 e2) (k.least S h.pre r _ _ e2 e1))
  · rw [List.getElem?_eq_none (by omega), List.getElem?_eq_none (by have := h.pre.len; have := k.pre.len; omega)]
theorem Sol.solV {g : Fnc} {S : List (List Val)} (h : Sol g S) : SolV g S := by
  refine ⟨h.pre.len, h.pre.row, fun v r a hv ha => ?_, fun k i v x hi hv hf hx p hp w hw => h.pre.edge k i v x hi hv hf hx p (by rwa [goesV_set] at hp) w hw⟩
  have hr := (List.getElem?_eq_some_iff.1 ha).1
  have hl := h.pre.row v (List.mem_of_getElem? hv)
  exact (h.pre.first v hv).2 r _ a (firstL_at (by omega)) ha

/-! ### How long it takes -/
def lackV (a : Val) : Nat := if a.kind = 0 then 2 else if a.kind = 1 then 1 else 0
def lackL (v : List Val) : Nat := (v.map lackV).sum
def lackS (S : List (List Val)) : Nat := (S.map lackL).sum
theorem lackV_le (a : Val) : lackV a ≤ 2 := by unfold lackV; split <;> (try split) <;> omega
theorem lackV_join {a b : Val} (ha : OkV a) (hb : OkV b) : lackV (joinV a b) ≤ lackV a ∧ (joinV a b ≠ a → lackV (joinV a b) < lackV a) := by
  have h := join_left a b
  have ho := ha.join hb
  generalize joinV a b = c at *
  rw [within_iff] at h
  rcases h with h | h | h
  · rw [ha.zero h]
    rcases ho.eq with e | e | e
    · subst e; exact ⟨Nat.le_refl _, fun q => absurd rfl q⟩
    · have : lackV c = 1 := by unfold lackV; rw [if_neg (by omega), if_pos e.1]
      rw [this]; exact ⟨by decide, fun _ => by decide⟩
    · subst e; exact ⟨by decide, fun _ => by decide⟩
  · subst h; exact ⟨Nat.le_refl _, fun q => absurd rfl q⟩
  · subst h
    have h2 : lackV ⟨2, 0⟩ = 0 := by decide
    rw [h2]
    refine ⟨Nat.zero_le _, fun q => ?_⟩
    rcases ha.eq with e | e | e
    · subst e; decide
    · unfold lackV; rw [if_neg (by omega), if_pos e.1]; omega
    · exact absurd e.symm q
theorem lackL_join : ∀ (v c : List Val), c.length = v.length → (∀ a ∈ v, OkV a) → (∀ a ∈ c, OkV a) → lackL (joinL v c) ≤ lackL v ∧ (joinL v c ≠ v → lackL (joinL v c) < lackL v)
  | [], _, _, _, _ => ⟨Nat.le_refl _, fun q => absurd rfl q⟩
  | _ :: _, [], h, _, _ => by cases h
  | a :: v, b :: c, h, hv, hc => by
    have h1 := lackV_join (hv a (by simp)) (hc b (by simp))
    have h2 := lackL_join v c (by simpa using h) (fun x hx => hv x (by simp [hx])) (fun x hx => hc x (by simp [hx]))
    have e : joinL (a :: v) (b :: c) = joinV a b :: joinL v c := rfl
    have e1 : lackL (joinV a b :: joinL v c) = lackV (joinV a b) + lackL (joinL v c) := by simp [lackL]
    have e2 : lackL (a :: v) = lackV a + lackL v := by simp [lackL]
    rw [e, e1, e2]
    refine ⟨by omega, fun q => ?_⟩
    by_cases hq : joinV a b = a
    · have : joinL v c ≠ v := fun e3 => q (by rw [hq, e3])
      have := h2.2 this
      omega
    · have := h1.2 hq
      omega
theorem lackS_set : ∀ (S : List (List Val)) (p : Nat) (w w' : List Val), S[p]? = some w → lackS (S.set p w') + lackL w = lackS S + lackL w'
  | [], _, _, _, h => by simp at h
  | v :: S, 0, w, w', h => by
    simp only [List.getElem?_cons_zero, Option.some.injEq] at h
    subst h
    simp only [List.set_cons_zero, lackS, List.map_cons, List.sum_cons]
    omega
  | v :: S, p + 1, w, w', h => by
    simp only [List.getElem?_cons_succ] at h
    have := lackS_set S p w w' h
    simp only [List.set_cons_succ, lackS, List.map_cons, List.sum_cons] at this ⊢
    omega
theorem lackL_le : ∀ (v : List Val), lackL v ≤ 2 * v.length
  | [] => Nat.le_refl _
  | a :: v => by
    have := lackL_le v
    have := lackV_le a
    simp only [lackL, List.map_cons, List.sum_cons, List.length_cons] at *
    omega
theorem lackS_le : ∀ (S : List (List Val)) (R : Nat), (∀ v ∈ S, v.length = R) → lackS S ≤ 2 * (S.length * R)
  | [], _, _ => by simp [lackS]
  | v :: S, R, h => by
    have h1 := lackS_le S R (fun x hx => h x (by simp [hx]))
    have h2 := lackL_le v
    rw [h v (by simp)] at h2
    simp only [lackS, List.map_cons, List.sum_cons, List.length_cons] at *
    rw [Nat.add_mul]
    omega
end Go.Proofs.Ytpajndeongcjbaa.Cd
