/-
  White space and comments ahead of a token, on lists of bytes. Of no program.
-/
import Derived.Test.YtaamllikceaifaaGreatDoorPure
namespace Go.Proofs.YtaamllikceaifaaGreatDoor.Sp

/-- Does a text begin with a comment that has no end? -/
def isOpen (l : List UInt8) : Bool := [47, 42].isPrefixOf l && (findClose (l.drop 2)).isNone
/-- How many bytes of white space and comments a text begins with; false: there a comment has no end. -/
def gapF : Nat → List UInt8 → Nat × Bool
  | 0, _ => (0, true)
  | f + 1, l =>
    match step l with
    | .white n => (n + (gapF f (l.drop n)).1, (gapF f (l.drop n)).2)
    | .line => (l.length, true)
    | _ => (0, !isOpen l)
theorem gapF_fuel : ∀ (f g : Nat) (l : List UInt8), l.length < f → l.length < g → gapF f l = gapF g l
  | 0, _, _, h, _ => by omega
  | _, 0, _, _, h => by omega
  | f + 1, g + 1, l, hf, hg => by
    unfold gapF
    cases hs : step l with
    | white n =>
      have := step_white hs
      simp only
      rw [gapF_fuel f g _ (by simp; omega) (by simp; omega)]
    | _ => rfl
def gapR (l : List UInt8) : Nat × Bool := gapF (l.length + 1) l
theorem gapR_eq (l : List UInt8) : gapR l = match step l with
    | .white n => (n + (gapR (l.drop n)).1, (gapR (l.drop n)).2)
    | .line => (l.length, true)
    | _ => (0, !isOpen l) := by
  conv => lhs; unfold gapR gapF
  cases hs : step l with
  | white n =>
    have := step_white hs
    simp only [gapR]
    rw [gapF_fuel l.length ((l.drop n).length + 1) _ (by simp; omega) (by simp)]
  | _ => rfl
theorem gapR_white {l : List UInt8} {n : Nat} (h : step l = .white n) : gapR l = (n + (gapR (l.drop n)).1, (gapR (l.drop n)).2) := by rw [gapR_eq, h]
theorem gapR_line {l : List UInt8} (h : step l = .line) : gapR l = (l.length, true) := by rw [gapR_eq, h]
theorem gapR_nil : gapR [] = (0, true) := by decide +kernel
/-- What stands behind the gap. -/
theorem scan_gap : ∀ (n : Nat) (l : List UInt8) (p c : Nat), l.length ≤ n → scanR l p c =
    if (gapR l).2 = false then .error (p + (gapR l).1, 2)
    else match l.drop (gapR l).1 with
      | [] => .ok [⟨0, [], 0, p + (gapR l).1⟩]
      | a :: t => match tokSt a t with
        | .tok k len v => if c = 8192 then .error (p + (gapR l).1, 4) else (scanR ((a :: t).drop len) (p + (gapR l).1 + len) (c + 1)).map (⟨k, (a :: t).take len, v, p + (gapR l).1⟩ :: ·)
        | .bad e => .error (p + (gapR l).1, e)
        | _ => .error (0, 0) := by
  intro n
  induction n with
  | zero =>
    intro l p c h
    obtain rfl : l = [] := List.eq_nil_of_length_eq_zero (by omega)
    rw [scanR_eq, gapR_nil]
    rfl
  | succ n ih =>
    intro l p c h
    cases hs : step l with
    | white m =>
      have hm := step_white hs
      rw [scanR_eq, hs, gapR_white hs]
      simp only
      rw [ih (l.drop m) (p + m) c (by simp; omega), List.drop_drop, Nat.add_assoc]
    | line =>
      rw [scanR_eq, hs, gapR_line hs]
      simp
    | fin =>
      have : l = [] := by
        cases l with
        | nil => rfl
        | cons a t =>
          exfalso
          rw [step_cons] at hs
          split at hs
          · simp at hs
          · split at hs
            · split at hs <;> simp at hs
            · split at hs
              · split at hs <;> simp at hs
              · exact tokSt_not.1 hs
      subst this
      rw [scanR_eq, gapR_nil]
      rfl
    | bad e =>
      have hg : gapR l = (0, !isOpen l) := by rw [gapR_eq, hs]
      rw [scanR_eq, hs, hg]
      cases l with
      | nil => simp [step] at hs
      | cons a t =>
        cases ho : isOpen (a :: t) with
        | true =>
          have : e = 2 := by
            rw [step_cons] at hs
            unfold isOpen at ho
            simp only [Bool.and_eq_true] at ho
            split at hs
            · simp at hs
            · split at hs
              · split at hs <;> simp at hs
              · rw [if_pos ho.1] at hs
                split at hs
                · simp at hs; exact hs.symm
                · simp at hs
          subst this
          simp
        | false =>
          simp only [Bool.not_false, Bool.true_eq_false, if_false, List.drop_zero, Nat.add_zero]
          have : tokSt a t = .bad e := by
            rw [step_cons] at hs
            unfold isOpen at ho
            split at hs
            · simp at hs
            · split at hs
              · split at hs <;> simp at hs
              · split at hs
                · rename_i h3
                  exfalso
                  rw [h3] at ho
                  simp only [Bool.true_and, List.drop_succ_cons] at ho
                  cases hf : findClose (t.drop 1) with
                  | none => rw [hf] at ho; simp at ho
                  | some i => rw [hf] at hs; simp at hs
                · exact hs
          rw [this]
    | tok k len v =>
      have hg : gapR l = (0, !isOpen l) := by rw [gapR_eq, hs]
      rw [scanR_eq, hs, hg]
      cases l with
      | nil => simp [step] at hs
      | cons a t =>
        have hstep := hs
        rw [step_cons] at hs
        split at hs
        · simp at hs
        · split at hs
          · split at hs <;> simp at hs
          · split at hs
            · split at hs <;> simp at hs
            · rename_i h3
              have ho : isOpen (a :: t) = false := by unfold isOpen; simp [h3]
              rw [ho]
              simp [hs]
theorem gapF_le : ∀ (f : Nat) (l : List UInt8), (gapF f l).1 ≤ l.length
  | 0, _ => by simp [gapF]
  | f + 1, l => by
    unfold gapF
    cases hs : step l with
    | white n =>
      have := step_white hs
      have ih := gapF_le f (l.drop n)
      simp at ih ⊢; omega
    | _ => simp
theorem gapR_le (l : List UInt8) : (gapR l).1 ≤ l.length := gapF_le _ l
theorem tokSt_len {c : UInt8} {t : List UInt8} {k : Int} {len n : Nat} (h : tokSt c t = .tok k len n) : 1 ≤ len ∧ len ≤ (c :: t).length := by
  unfold tokSt at h
  split at h
  · rename_i hl
    simp at h; obtain ⟨_, rfl, _⟩ := h
    exact ⟨lets_pos (by simp [isLD, hl]), lets_le _⟩
  · split at h
    · rename_i hd
      split at h
      · simp at h
      · simp at h; obtain ⟨_, rfl, _⟩ := h
        exact ⟨lets_pos (by simp [isLD, hd]), lets_le _⟩
    · split at h
      · split at h
        · simp at h
        · rename_i hq
          simp at h; obtain ⟨_, rfl, _⟩ := h
          have := quoted_len hq
          simp; omega
      · split at h
        · simp at h
        · rename_i hf
          simp at h; obtain ⟨_, rfl, _⟩ := h
          obtain ⟨h1, h2⟩ := firstOf_mem hf
          exact ⟨(signs_len _ h1).1, h2.length_le⟩
theorem tokSt_bad {c : UInt8} {t : List UInt8} {x : Int} (h : tokSt c t = .bad x) : x = 2 ∨ x = 3 := by
  unfold tokSt at h
  (repeat' split at h) <;> simp at h <;> omega
theorem scan_open {l : List UInt8} {m : Nat} (p c : Nat) (h : gapR l = (m, false)) : scanR l p c = .error (p + m, 2) := by
  rw [scan_gap _ l p c (Nat.le_refl _), h]; rfl
theorem scan_fin {l : List UInt8} {m : Nat} (p c : Nat) (h : gapR l = (m, true)) (hd : l.drop m = []) : scanR l p c = .ok [⟨0, [], 0, p + m⟩] := by
  rw [scan_gap _ l p c (Nat.le_refl _), h]
  simp only [Bool.true_eq_false, if_false, hd]
theorem scan_bad {l t : List UInt8} {a : UInt8} {m : Nat} {e : Int} (p c : Nat) (h : gapR l = (m, true)) (hd : l.drop m = a :: t) (ht : tokSt a t = .bad e) : scanR l p c = .error (p + m, e) := by
  rw [scan_gap _ l p c (Nat.le_refl _), h]
  simp only [Bool.true_eq_false, if_false, hd, ht]
theorem scan_tok {l t : List UInt8} {a : UInt8} {m : Nat} {k : Int} {len n : Nat} (p c : Nat) (h : gapR l = (m, true)) (hd : l.drop m = a :: t) (ht : tokSt a t = .tok k len n) :
    scanR l p c = if c = 8192 then .error (p + m, 4) else (scanR ((a :: t).drop len) (p + m + len) (c + 1)).map (⟨k, (a :: t).take len, n, p + m⟩ :: ·) := by
  rw [scan_gap _ l p c (Nat.le_refl _), h]
  simp only [Bool.true_eq_false, if_false, hd, ht]
end Go.Proofs.YtaamllikceaifaaGreatDoor.Sp
