/-
  The texts of a source's tokens, with a blank behind each, are the same tokens, on lists. Of no program.
-/
import Derived.Test.YtbafkkifdfmldaaDoorPlaced
namespace Go.Proofs.YtbafkkifdfmldaaDoor.Sp

def joinT (ts : List Tok) : List UInt8 := ts.flatMap fun t => t.text ++ [32]
def strip (t : Tok) : Tok := { t with pos := 0 }
/-- Each token alone is what it is. -/
def Sol : Nat → List Tok → Prop
  | _, [] => False
  | _, [t] => t.k = 0 ∧ t.text = [] ∧ t.n = 0
  | c, t :: u :: r => c ≠ 8192 ∧ 1 ≤ t.text.length ∧ (∀ X, step (t.text ++ 32 :: X) = .tok t.k t.text.length t.n) ∧ Sol (c + 1) (u :: r)
theorem step_fin {l : List UInt8} (h : step l = .fin) : l = [] := by
  cases l with
  | nil => rfl
  | cons a t =>
    exfalso
    rw [step_cons] at h
    split at h
    · simp at h
    · split at h
      · split at h <;> simp at h
      · split at h
        · split at h <;> simp at h
        · exact tokSt_not.1 h
theorem solid : ∀ (n : Nat) (l : List UInt8) (p c : Nat) (ts : List Tok), l.length ≤ n → scanR l p c = .ok ts → Sol c ts := by
  intro n
  induction n with
  | zero =>
    intro l p c ts hn h
    obtain rfl : l = [] := List.eq_nil_of_length_eq_zero (by omega)
    rw [scanR_eq] at h
    simp [step] at h
    subst h
    exact ⟨rfl, rfl, rfl⟩
  | succ n ih =>
    intro l p c ts hn h
    rw [scanR_eq] at h
    cases hs : step l with
    | fin => rw [hs] at h; simp at h; subst h; exact ⟨rfl, rfl, rfl⟩
    | line => rw [hs] at h; simp at h; subst h; exact ⟨rfl, rfl, rfl⟩
    | bad e => rw [hs] at h; simp at h
    | white m =>
      rw [hs] at h
      have hm := step_white hs
      exact ih (l.drop m) (p + m) c ts (by simp; omega) h
    | tok k len v =>
      rw [hs] at h
      have hl := step_tok hs
      simp only at h
      split at h
      · cases h
      · rename_i hc
        cases hr : scanR (l.drop len) (p + len) (c + 1) with
        | error e => rw [hr] at h; cases h
        | ok r =>
          rw [hr] at h
          injection h with h
          subst h
          have := ih (l.drop len) (p + len) (c + 1) r (by simp; omega) hr
          have hlen : (l.take len).length = len := by simp; omega
          cases r with
          | nil => exact this.elim
          | cons u r =>
            refine ⟨hc, by simp only [hlen]; exact hl.1, fun X => ?_, this⟩
            simp only [hlen]
            exact step_alone X hs
theorem joinT_cons (t : Tok) (ts : List Tok) : joinT (t :: ts) = t.text ++ 32 :: joinT ts := by simp [joinT]
theorem again : ∀ (ts : List Tok) (c p : Nat), Sol c ts → ∃ ts', scanR (joinT ts) p c = .ok ts' ∧ ts'.map strip = ts.map strip
  | [], _, _, h => h.elim
  | [t], c, p, ⟨h1, h2, h3⟩ => by
    refine ⟨[⟨0, [], 0, p + 1⟩], ?_, ?_⟩
    · have e : joinT [t] = [32] := by simp [joinT, h2]
      rw [e, scanR_eq, show step [32] = .white 1 by rfl]
      simp only [List.drop_succ_cons, List.drop_nil]
      rw [scanR_eq]
      rfl
    · obtain ⟨k, text, n, q⟩ := t
      simp only at h1 h2 h3
      subst h1; subst h2; subst h3
      rfl
  | t :: u :: r, c, p, ⟨hc, hl, hs, h⟩ => by
    obtain ⟨ts', h1, h2⟩ := again (u :: r) (c + 1) (p + t.text.length + 1) h
    refine ⟨⟨t.k, t.text, t.n, p⟩ :: ts', ?_, ?_⟩
    · rw [joinT_cons, scanR_eq, hs]
      simp only [if_neg hc, List.drop_left, List.take_left]
      rw [scanR_eq, show step (32 :: joinT (u :: r)) = .white 1 by rw [step_cons]; rfl]
      simp only [List.drop_succ_cons, List.drop_zero]
      rw [h1]; rfl
    · simp only [List.map_cons, List.cons.injEq]
      exact ⟨rfl, by simpa using h2⟩
theorem joinT_le (l : List UInt8) : ∀ (ts : List Tok) (a : Nat), Pl l a ts → (joinT ts).length + 2 * a ≤ 2 * l.length + 1
  | [], _, h => h.elim
  | [t], a, ⟨_, h2, _, _, h5⟩ => by simp [joinT, h2]; omega
  | t :: u :: r, a, ⟨h1, h2, _, _, h5, _, h⟩ => by
    have := joinT_le l (u :: r) _ h
    have hp : 0 < t.text.length := List.length_pos_iff.2 h5
    rw [joinT_cons]
    simp only [List.length_append, List.length_cons]
    omega
theorem scan_again {l : List UInt8} {ts : List Tok} (hl : l.length ≤ 4000) (h : scan l = .ok ts) : (joinT ts).length ≤ 8001 ∧ ∃ ts', scan (joinT ts) = .ok ts' ∧ ts'.map strip = ts.map strip := by
  have hj := joinT_le l ts 0 (scan_placed h)
  have hS : Sol 0 ts := by
    rw [scan_eq, if_neg (by omega)] at h
    exact solid l.length l 0 0 ts (Nat.le_refl _) h
  obtain ⟨ts', h1, h2⟩ := again ts 0 0 hS
  refine ⟨by omega, ts', ?_, h2⟩
  rw [scan_eq, if_neg (by omega)]
  exact h1
theorem joinT_take (ts : List Tok) (i : Nat) (t : Tok) (h : ts[i]? = some t) : joinT (ts.take (i + 1)) = joinT (ts.take i) ++ (t.text ++ [32]) := by
  have hi : i < ts.length := (List.getElem?_eq_some_iff.1 h).1
  rw [List.take_succ_eq_append_getElem hi]
  have : ts[i] = t := (List.getElem?_eq_some_iff.1 h).2
  simp [joinT, this]
theorem joinT_mono (ts : List Tok) (i : Nat) : (joinT (ts.take i)).length ≤ (joinT ts).length := by
  have : joinT ts = joinT (ts.take i) ++ joinT (ts.drop i) := by
    unfold joinT
    rw [← List.flatMap_append, List.take_append_drop]
  rw [this]; simp
end Go.Proofs.YtbafkkifdfmldaaDoor.Sp
