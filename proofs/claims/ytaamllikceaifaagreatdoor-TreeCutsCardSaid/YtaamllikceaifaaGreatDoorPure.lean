/-
  Laws of the tokens of a source, on lists of bytes: a blank behind, a token alone, more fuel. Of no program.
-/
import Derived.Test.YtaamllikceaifaaGreatDoorSpec
namespace Go.Proofs.YtaamllikceaifaaGreatDoor.Sp

/-! ### A blank behind -/
theorem pre_ext : ∀ {p : List UInt8} (l X : List UInt8), (32 : UInt8) ∉ p → p.isPrefixOf (l ++ 32 :: X) = p.isPrefixOf l
  | [], l, X, _ => by simp
  | a :: p, [], X, h => by
    have ha : a ≠ 32 := fun e => h (by simp [e])
    simp [List.isPrefixOf, ha]
  | a :: p, b :: l, X, h => by
    have := pre_ext (p := p) l X (fun e => h (by simp [e]))
    simp [List.isPrefixOf, this]
theorem lets_ext : ∀ (l X : List UInt8), lets (l ++ 32 :: X) = lets l
  | [], X => by simp [lets, show isLD 32 = false by decide]
  | a :: l, X => by
    have := lets_ext l X
    unfold lets at *
    rw [List.cons_append, List.takeWhile_cons, List.takeWhile_cons, this]
theorem firstOf_ext : ∀ {ps : List (List UInt8)} (l X : List UInt8), (∀ p ∈ ps, (32 : UInt8) ∉ p) → firstOf ps (l ++ 32 :: X) = firstOf ps l
  | [], _, _, _ => rfl
  | p :: ps, l, X, h => by
    unfold firstOf
    rw [pre_ext l X (h p (by simp)), firstOf_ext l X (fun q hq => h q (by simp [hq]))]
theorem signs_32 : ∀ p ∈ signsL, (32 : UInt8) ∉ p := by decide +kernel
theorem quoted_ext {t : List UInt8} {p : Nat × Nat} (X : List UInt8) (h : quoted t = some p) : quoted (t ++ X) = some p := by
  unfold quoted at h
  split at h
  · rename_i c d t
    by_cases h1 : d.toNat = 39 ∧ c.toNat ≠ 39 ∧ c.toNat ≠ 92 ∧ c.toNat ≠ 10
    · rw [if_pos h1] at h
      simp [quoted, h1] at h ⊢; exact h
    · rw [if_neg h1] at h
      cases t with
      | nil => simp at h
      | cons e t =>
        simp only [List.cons_append, quoted]
        rw [if_neg h1]
        exact h
  · simp at h
theorem findNl_ext : ∀ {l : List UInt8} {e : Nat} (X : List UInt8), findNl l = some e → findNl (l ++ X) = some e
  | [], e, X, h => by simp [findNl] at h
  | c :: t, e, X, h => by
    unfold findNl at h
    rw [List.cons_append]
    unfold findNl
    split at h
    · rename_i hc; rw [if_pos hc]; exact h
    · rename_i hc; rw [if_neg hc]
      simp only [Option.map_eq_some_iff] at h
      obtain ⟨a, ha, rfl⟩ := h
      rw [findNl_ext X ha]; rfl
theorem pre_app {p l : List UInt8} (X : List UInt8) (h : p.isPrefixOf l = true) : p.isPrefixOf (l ++ X) = true :=
  List.isPrefixOf_iff_prefix.2 ((List.isPrefixOf_iff_prefix.1 h).trans (List.prefix_append _ _))
theorem findClose_ext : ∀ {l : List UInt8} {e : Nat} (X : List UInt8), findClose l = some e → findClose (l ++ X) = some e
  | [], e, X, h => by simp [findClose] at h
  | c :: t, e, X, h => by
    unfold findClose at h
    split at h
    · rename_i hc
      have h2 := pre_app X hc
      rw [List.cons_append] at h2 ⊢
      unfold findClose
      rw [if_pos h2]; exact h
    · rename_i hc
      simp only [Option.map_eq_some_iff] at h
      obtain ⟨a, ha, rfl⟩ := h
      have ih := findClose_ext X ha
      by_cases h2 : [42, 47].isPrefixOf (c :: (t ++ X)) = true
      · exfalso
        -- the first two bytes of what is found lie within l already
        have hlen := findClose_lt ha
        cases t with
        | nil => simp at hlen
        | cons d t => apply hc; simpa [List.isPrefixOf] using h2
      · rw [List.cons_append]
        unfold findClose
        rw [if_neg h2, ih]; rfl
theorem tokSt_ext {c : UInt8} {t : List UInt8} (X : List UInt8) {k : Int} {len n : Nat} (h : tokSt c t = .tok k len n) : tokSt c (t ++ 32 :: X) = .tok k len n := by
  have hl : lets (c :: (t ++ 32 :: X)) = lets (c :: t) := lets_ext (c :: t) X
  have hs : firstOf signsL (c :: (t ++ 32 :: X)) = firstOf signsL (c :: t) := firstOf_ext (c :: t) X signs_32
  unfold tokSt at h ⊢
  rw [hl, hs]
  split
  · rename_i h1; rw [if_pos h1] at h; exact h
  · rename_i h1; rw [if_neg h1] at h
    split
    · rename_i h2; rw [if_pos h2] at h; exact h
    · rename_i h2; rw [if_neg h2] at h
      split
      · rename_i h3; rw [if_pos h3] at h
        cases hq : quoted t with
        | none => rw [hq] at h; simp at h
        | some p => rw [hq] at h; rw [quoted_ext _ hq]; exact h
      · rename_i h3; rw [if_neg h3] at h; exact h
theorem step_cons (c : UInt8) (t : List UInt8) : step (c :: t) =
    if isWhite c then .white 1
    else if [47, 47].isPrefixOf (c :: t) then (match findNl (c :: t) with | none => .line | some e => .white e)
    else if [47, 42].isPrefixOf (c :: t) then (match findClose (t.drop 1) with | none => .bad 2 | some i => .white (i + 4))
    else tokSt c t := rfl
theorem tokSt_not {c : UInt8} {t : List UInt8} : tokSt c t ≠ .fin ∧ tokSt c t ≠ .line ∧ ∀ n, tokSt c t ≠ .white n := by
  unfold tokSt
  refine ⟨?_, ?_, fun n => ?_⟩ <;> (repeat' split) <;> simp
/-- A token, or white space that ends within, stays what it is with a blank and more behind it. -/
theorem step_ext_tok {l : List UInt8} (X : List UInt8) {k : Int} {len n : Nat} (h : step l = .tok k len n) : step (l ++ 32 :: X) = .tok k len n := by
  cases l with
  | nil => simp [step] at h
  | cons c t =>
    rw [step_cons] at h
    rw [List.cons_append, step_cons]
    have e1 : [47, 47].isPrefixOf (c :: (t ++ 32 :: X)) = [47, 47].isPrefixOf (c :: t) := pre_ext (c :: t) X (by decide)
    have e2 : [47, 42].isPrefixOf (c :: (t ++ 32 :: X)) = [47, 42].isPrefixOf (c :: t) := pre_ext (c :: t) X (by decide)
    rw [e1, e2]
    split at h
    · simp at h
    · rename_i h1; rw [if_neg h1]
      split at h
      · split at h <;> simp at h
      · rename_i h2; rw [if_neg h2]
        split at h
        · split at h <;> simp at h
        · rename_i h3; rw [if_neg h3]
          exact tokSt_ext X h
theorem step_ext_white {l : List UInt8} (X : List UInt8) {n : Nat} (h : step l = .white n) : step (l ++ 32 :: X) = .white n := by
  cases l with
  | nil => simp [step] at h
  | cons c t =>
    rw [step_cons] at h
    rw [List.cons_append, step_cons]
    have e1 : [47, 47].isPrefixOf (c :: (t ++ 32 :: X)) = [47, 47].isPrefixOf (c :: t) := pre_ext (c :: t) X (by decide)
    have e2 : [47, 42].isPrefixOf (c :: (t ++ 32 :: X)) = [47, 42].isPrefixOf (c :: t) := pre_ext (c :: t) X (by decide)
    rw [e1, e2]
    split at h
    · rename_i h1; rw [if_pos h1]; exact h
    · rename_i h1; rw [if_neg h1]
      split at h
      · rename_i h2; rw [if_pos h2]
        cases hf : findNl (c :: t) with
        | none => rw [hf] at h; simp at h
        | some e =>
          rw [hf] at h
          have := findNl_ext (32 :: X) hf
          rw [List.cons_append] at this
          rw [this]; exact h
      · rename_i h2; rw [if_neg h2]
        split at h
        · rename_i h3; rw [if_pos h3]
          cases hf : findClose (t.drop 1) with
          | none => rw [hf] at h; simp at h
          | some e =>
            rw [hf] at h
            have hle := findClose_lt hf
            have h4 : 1 ≤ t.length := by simp at hle; omega
            have := findClose_ext (32 :: X) hf
            rw [List.drop_append_of_le_length h4, this]; exact h
        · exact absurd h (tokSt_not.2.2 n)

/-! ### A token alone -/
theorem lets_lets (l : List UInt8) : lets (lets l) = lets l := by
  unfold lets; induction l with
  | nil => rfl
  | cons a l ih =>
    rw [List.takeWhile_cons]
    split
    · rename_i h; rw [List.takeWhile_cons, if_pos h, ih]
    · rfl
theorem take_lets (l : List UInt8) : l.take (lets l).length = lets l := by
  have := List.takeWhile_prefix isLD (l := l)
  exact (List.prefix_iff_eq_take.1 this).symm
theorem firstOf_self : ∀ {ps : List (List UInt8)} {l p : List UInt8}, firstOf ps l = some p → firstOf ps p = some p
  | [], _, _, h => by simp [firstOf] at h
  | q :: ps, l, p, h => by
    have hm := (firstOf_mem h).2
    unfold firstOf at h ⊢
    split at h
    · simp at h; subst h; simp
    · rename_i hq
      rw [if_neg (fun hqp => hq ?_), firstOf_self h]
      exact List.isPrefixOf_iff_prefix.2 ((List.isPrefixOf_iff_prefix.1 hqp).trans hm)
theorem pre_take {p l : List UInt8} (k : Nat) (h : p.isPrefixOf l = false) : p.isPrefixOf (l.take k) = false := by
  cases hb : p.isPrefixOf (l.take k) with
  | false => rfl
  | true => rw [← h]; exact (List.isPrefixOf_iff_prefix.2 ((List.isPrefixOf_iff_prefix.1 hb).trans (List.take_prefix _ _))).symm
theorem quoted_take {t : List UInt8} {p : Nat × Nat} (h : quoted t = some p) : quoted (t.take (p.1 - 1)) = some p := by
  unfold quoted at h
  split at h
  · rename_i c d t
    by_cases h1 : d.toNat = 39 ∧ c.toNat ≠ 39 ∧ c.toNat ≠ 92 ∧ c.toNat ≠ 10
    · rw [if_pos h1] at h
      simp at h; subst h
      simp [quoted, h1]
    · rw [if_neg h1] at h
      cases t with
      | nil => simp at h
      | cons e t =>
        simp only at h
        split at h
        · rename_i h2
          cases he : escape d with
          | none => rw [he] at h; simp at h
          | some v =>
            rw [he] at h
            simp at h; subst h
            simp only [Nat.add_one_sub_one, List.take_succ_cons, quoted]
            rw [if_neg h1]
            simp [h2, he]
        · simp at h
  · simp at h
theorem tokSt_alone {c : UInt8} {t : List UInt8} {k : Int} {len n : Nat} (h : tokSt c t = .tok k len n) : tokSt c (t.take (len - 1)) = .tok k len n := by
  unfold tokSt at h ⊢
  split at h
  · rename_i h1
    rw [if_pos h1]
    simp at h; obtain ⟨rfl, rfl, rfl⟩ := h
    have hp := lets_pos (c := c) (t := t) (by simp [isLD, h1])
    have : c :: t.take ((lets (c :: t)).length - 1) = lets (c :: t) := by
      have := take_lets (c :: t)
      obtain ⟨m, hm⟩ : ∃ m, (lets (c :: t)).length = m + 1 := ⟨_, (Nat.sub_add_cancel hp).symm⟩
      rw [hm] at this ⊢; simpa using this
    rw [this, lets_lets]
  · rename_i h1; rw [if_neg h1]
    split at h
    · rename_i h2; rw [if_pos h2]
      have hp := lets_pos (c := c) (t := t) (by simp [isLD, h2])
      cases hv : value (lets (c :: t)) with
      | none => rw [hv] at h; simp at h
      | some v =>
        rw [hv] at h
        simp at h; obtain ⟨rfl, rfl, rfl⟩ := h
        have : c :: t.take ((lets (c :: t)).length - 1) = lets (c :: t) := by
          have := take_lets (c :: t)
          obtain ⟨m, hm⟩ : ∃ m, (lets (c :: t)).length = m + 1 := ⟨_, (Nat.sub_add_cancel hp).symm⟩
          rw [hm] at this ⊢; simpa using this
        rw [this, lets_lets, hv]
    · rename_i h2; rw [if_neg h2]
      split at h
      · rename_i h3; rw [if_pos h3]
        cases hq : quoted t with
        | none => rw [hq] at h; simp at h
        | some p =>
          rw [hq] at h
          simp at h; obtain ⟨rfl, rfl, rfl⟩ := h
          rw [quoted_take hq]
      · rename_i h3; rw [if_neg h3]
        cases hf : firstOf signsL (c :: t) with
        | none => rw [hf] at h; simp at h
        | some p =>
          rw [hf] at h
          simp at h; obtain ⟨rfl, rfl, rfl⟩ := h
          obtain ⟨hm, hpre⟩ := firstOf_mem hf
          have hp := (signs_len _ hm).1
          have : c :: t.take (p.length - 1) = p := by
            have := (List.prefix_iff_eq_take.1 hpre).symm
            obtain ⟨m, hm⟩ : ∃ m, p.length = m + 1 := ⟨_, (Nat.sub_add_cancel hp).symm⟩
            rw [hm] at this ⊢; simpa using this
          rw [this, firstOf_self hf]
/-- A token's text, with a blank behind it, begins with this very token. -/
theorem step_alone {l : List UInt8} (X : List UInt8) {k : Int} {len n : Nat} (h : step l = .tok k len n) : step (l.take len ++ 32 :: X) = .tok k len n := by
  have hlen := step_tok h
  apply step_ext_tok
  cases l with
  | nil => simp [step] at h
  | cons c t =>
    obtain ⟨m, rfl⟩ : ∃ m, len = m + 1 := ⟨_, (Nat.sub_add_cancel hlen.1).symm⟩
    rw [step_cons] at h
    rw [List.take_succ_cons, step_cons]
    split at h
    · simp at h
    · rename_i h1; rw [if_neg h1]
      split at h
      · split at h <;> simp at h
      · rename_i h2
        have e2 := pre_take (m + 1) (Bool.eq_false_iff.2 h2)
        rw [List.take_succ_cons] at e2
        rw [if_neg (by rw [e2]; simp)]
        split at h
        · split at h <;> simp at h
        · rename_i h3
          have e3 := pre_take (m + 1) (Bool.eq_false_iff.2 h3)
          rw [List.take_succ_cons] at e3
          rw [if_neg (by rw [e3]; simp)]
          exact tokSt_alone h

/-! ### Fuel -/
theorem scanF_fuel : ∀ (f g : Nat) (l : List UInt8) (p c : Nat), l.length < f → l.length < g → scanF f l p c = scanF g l p c
  | 0, _, _, _, _, h, _ => by omega
  | _, 0, _, _, _, _, h => by omega
  | f + 1, g + 1, l, p, c, hf, hg => by
    unfold scanF
    cases hs : step l with
    | fin => rfl
    | line => rfl
    | bad e => rfl
    | white n =>
      have := step_white hs
      exact scanF_fuel f g _ _ _ (by simp; omega) (by simp; omega)
    | tok k len n =>
      have := step_tok hs
      simp only
      rw [scanF_fuel f g _ _ _ (by simp; omega) (by simp; omega)]
/-- The tokens of what is left, with fuel enough. -/
def scanR (l : List UInt8) (p c : Nat) : Res := scanF (l.length + 1) l p c
theorem scanR_eq (l : List UInt8) (p c : Nat) : scanR l p c = match step l with
    | .fin => .ok [⟨0, [], 0, p⟩]
    | .line => .ok [⟨0, [], 0, p + l.length⟩]
    | .white n => scanR (l.drop n) (p + n) c
    | .bad e => .error (p, e)
    | .tok k len n => if c = 8192 then .error (p, 4) else (scanR (l.drop len) (p + len) (c + 1)).map (⟨k, l.take len, n, p⟩ :: ·) := by
  conv => lhs; unfold scanR scanF
  cases hs : step l with
  | fin => rfl
  | line => rfl
  | bad e => rfl
  | white n =>
    have := step_white hs
    exact scanF_fuel _ _ _ _ _ (by simp; omega) (by simp)
  | tok k len n =>
    have := step_tok hs
    simp only [scanR]
    rw [scanF_fuel l.length ((l.drop len).length + 1) _ _ _ (by simp; omega) (by simp)]
theorem scan_eq (l : List UInt8) : scan l = if 32768 < l.length then .error (0, 4) else scanR l 0 0 := rfl
end Go.Proofs.YtaamllikceaifaaGreatDoor.Sp
