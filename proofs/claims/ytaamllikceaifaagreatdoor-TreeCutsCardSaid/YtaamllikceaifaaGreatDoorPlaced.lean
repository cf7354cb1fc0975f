/-
  Where the tokens of a source stand, on lists. Of no program.
-/
import Derived.Test.YtaamllikceaifaaGreatDoorGap
namespace Go.Proofs.YtaamllikceaifaaGreatDoor.Sp

theorem valFrom_lt (b : Nat) : ∀ (l : List UInt8) (acc v : Nat), acc ≤ 4294967295 → valFrom b acc l = some v → v ≤ 4294967295
  | [], acc, v, h, hv => by simp [valFrom] at hv; omega
  | c :: t, acc, v, h, hv => by
    unfold valFrom at hv
    split at hv
    · split at hv
      · rename_i h2
        exact valFrom_lt b t _ v h2 hv
      · simp at hv
    · simp at hv
theorem val_lt {b : Nat} {l : List UInt8} {v : Nat} (h : val b l = some v) : v ≤ 4294967295 := by
  unfold val at h
  split at h
  · simp at h
  · exact valFrom_lt b l 0 v (by omega) h
theorem value_lt {l : List UInt8} {v : Nat} (h : value l = some v) : v ≤ 4294967295 := by
  unfold value at h
  split at h <;> exact val_lt h
theorem tokSt_kind {c : UInt8} {t : List UInt8} {k : Int} {len n : Nat} (h : tokSt c t = .tok k len n) : 1 ≤ k ∧ k ≤ 4 ∧ n ≤ 4294967295 := by
  unfold tokSt at h
  split at h
  · simp at h; obtain ⟨rfl, _, rfl⟩ := h
    split <;> omega
  · split at h
    · split at h
      · simp at h
      · rename_i hv
        simp at h; obtain ⟨rfl, _, rfl⟩ := h
        have := value_lt hv
        omega
    · split at h
      · split at h
        · simp at h
        · rename_i hq
          simp at h; obtain ⟨rfl, _, rfl⟩ := h
          have := quoted_len hq
          omega
      · split at h
        · simp at h
        · simp at h; obtain ⟨rfl, _, rfl⟩ := h
          omega
theorem step_kind {l : List UInt8} {k : Int} {len n : Nat} (h : step l = .tok k len n) : 1 ≤ k ∧ k ≤ 4 ∧ n ≤ 4294967295 := by
  cases l with
  | nil => simp [step] at h
  | cons c t =>
    rw [step_cons] at h
    split at h
    · simp at h
    · split at h
      · split at h <;> simp at h
      · split at h
        · split at h <;> simp at h
        · exact tokSt_kind h
/-- The tokens stand one behind the other, from a place on; the last one is the end. -/
def Pl (l : List UInt8) : Nat → List Tok → Prop
  | _, [] => False
  | a, [t] => t.k = 0 ∧ t.text = [] ∧ t.n = 0 ∧ t.pos = l.length ∧ a ≤ l.length
  | a, t :: u :: r => a ≤ t.pos ∧ t.pos + t.text.length ≤ l.length ∧ (l.drop t.pos).take t.text.length = t.text ∧ 1 ≤ t.k ∧ t.text ≠ [] ∧ t.n ≤ 4294967295 ∧ Pl l (t.pos + t.text.length) (u :: r)
theorem Pl.mono {l : List UInt8} : ∀ {ts : List Tok} {a b : Nat}, Pl l a ts → b ≤ a → Pl l b ts
  | [], _, _, h, _ => h
  | [t], a, b, ⟨h1, h2, h3, h4, h5⟩, hb => ⟨h1, h2, h3, h4, by omega⟩
  | t :: u :: r, a, b, ⟨h1, h2⟩, hb => ⟨by omega, h2⟩
theorem placed (l : List UInt8) : ∀ (n p c : Nat) (ts : List Tok), l.length - p ≤ n → p ≤ l.length → scanR (l.drop p) p c = .ok ts → Pl l p ts := by
  intro n
  induction n with
  | zero =>
    intro p c ts hn hp h
    have e : l.drop p = [] := List.drop_eq_nil_of_le (by omega)
    rw [e, scanR_eq] at h
    simp [step] at h
    subst h
    exact ⟨rfl, rfl, rfl, by simp only; omega, hp⟩
  | succ n ih =>
    intro p c ts hn hp h
    rw [scanR_eq] at h
    cases hs : step (l.drop p) with
    | fin =>
      rw [hs] at h
      simp at h
      subst h
      have : l.drop p = [] := by
        cases hd : l.drop p with
        | nil => rfl
        | cons a t =>
          exfalso
          rw [hd, step_cons] at hs
          split at hs
          · simp at hs
          · split at hs
            · split at hs <;> simp at hs
            · split at hs
              · split at hs <;> simp at hs
              · exact tokSt_not.1 hs
      have := congrArg List.length this
      simp at this
      exact ⟨rfl, rfl, rfl, by simp only; omega, hp⟩
    | line =>
      rw [hs] at h
      simp at h
      subst h
      exact ⟨rfl, rfl, rfl, by simp only; omega, hp⟩
    | bad e => rw [hs] at h; simp at h
    | white m =>
      rw [hs] at h
      have hm := step_white hs
      simp at hm
      simp only [List.drop_drop] at h
      exact (ih (p + m) c ts (by omega) (by omega) h).mono (by omega)
    | tok k len v =>
      rw [hs] at h
      have hl := step_tok hs
      have hk := step_kind hs
      simp only [List.drop_drop] at h
      simp at hl
      split at h
      · cases h
      · cases hr : scanR (l.drop (p + len)) (p + len) (c + 1) with
        | error e => rw [hr] at h; cases h
        | ok r =>
          rw [hr] at h
          injection h with h
          subst h
          have := ih (p + len) (c + 1) r (by omega) (by omega) hr
          have hlen : ((l.drop p).take len).length = len := by simp; omega
          cases r with
          | nil => exact this.elim
          | cons u r =>
            refine ⟨Nat.le_refl _, ?_, ?_, hk.1, ?_, hk.2.2, ?_⟩
            · simp only [hlen]; omega
            · simp only [hlen]
            · intro e
              simp only at e
              have := congrArg List.length e
              rw [hlen] at this
              simp at this; omega
            · simp only [hlen]; exact this
theorem scan_placed {l : List UInt8} {ts : List Tok} (h : scan l = .ok ts) : Pl l 0 ts := by
  unfold scan at h
  split at h
  · cases h
  · exact placed l l.length 0 0 ts (by omega) (by omega) h
theorem Pl.last {l : List UInt8} : ∀ {ts : List Tok} {a : Nat}, Pl l a ts → ∃ t, ts[ts.length - 1]? = some t ∧ t.pos = l.length
  | [], _, h => h.elim
  | [t], a, ⟨_, _, _, h4, _⟩ => ⟨t, rfl, h4⟩
  | t :: u :: r, a, ⟨_, _, _, _, _, _, h⟩ => by
    obtain ⟨x, hx, hp⟩ := Pl.last h
    exact ⟨x, by simpa using hx, hp⟩
theorem scanR_code (l : List UInt8) : ∀ (n p c : Nat) (x : Nat × Int), l.length - p ≤ n → p ≤ l.length → scanR (l.drop p) p c = .error x → 2 ≤ x.2 ∧ x.2 ≤ 4 := by
  intro n
  induction n with
  | zero =>
    intro p c x hn hp h
    have e : l.drop p = [] := List.drop_eq_nil_of_le (by omega)
    rw [e, scanR_eq] at h
    simp [step] at h
  | succ n ih =>
    intro p c x hn hp h
    rw [scanR_eq] at h
    cases hs : step (l.drop p) with
    | fin => rw [hs] at h; cases h
    | line => rw [hs] at h; cases h
    | bad e =>
      rw [hs] at h
      injection h with h
      subst h
      cases hd : l.drop p with
      | nil => rw [hd] at hs; simp [step] at hs
      | cons a t =>
        rw [hd, step_cons] at hs
        split at hs
        · simp at hs
        · split at hs
          · split at hs <;> simp at hs
          · split at hs
            · split at hs
              · simp at hs; subst hs; simp
              · simp at hs
            · have := tokSt_bad hs; simp only; omega
    | white m =>
      rw [hs] at h
      have hm := step_white hs
      simp at hm
      simp only [List.drop_drop] at h
      exact ih (p + m) c x (by omega) (by omega) h
    | tok k len v =>
      rw [hs] at h
      have hl := step_tok hs
      simp at hl
      simp only [List.drop_drop] at h
      split at h
      · injection h with h; subst h; simp
      · cases hr : scanR (l.drop (p + len)) (p + len) (c + 1) with
        | ok r => rw [hr] at h; cases h
        | error e =>
          rw [hr] at h
          injection h with h
          subst h
          exact ih (p + len) (c + 1) e (by omega) (by omega) hr
theorem scan_code {l : List UInt8} {p : Nat} {x : Int} (h : scan l = .error (p, x)) : 2 ≤ x ∧ x ≤ 4 := by
  unfold scan at h
  split at h
  · injection h with h; simp at h; omega
  · exact scanR_code l l.length 0 0 _ (by omega) (by omega) h
theorem scanF_few : ∀ (f : Nat) (l : List UInt8) (p c : Nat) (ts : List Tok), c ≤ 8192 → scanF f l p c = .ok ts → c + ts.length ≤ 8193
  | 0, _, _, _, _, _, h => by simp [scanF] at h
  | f + 1, l, p, c, ts, hc, h => by
    unfold scanF at h
    split at h
    · injection h with h; subst h; simp; omega
    · injection h with h; subst h; simp; omega
    · exact scanF_few f _ _ _ _ hc h
    · injection h
    · split at h
      · injection h
      · rename_i k len n _ hne
        cases hr : scanF f (l.drop len) (p + len) (c + 1) with
        | error e => rw [hr] at h; injection h
        | ok r =>
          rw [hr] at h; injection h with h; subst h
          have := scanF_few f _ _ _ _ (by omega) hr
          simp; omega
theorem scan_few {l : List UInt8} {ts : List Tok} (h : scan l = .ok ts) : ts.length ≤ 8193 := by
  unfold scan at h
  split at h
  · injection h
  · have := scanF_few _ _ _ _ _ (by omega) h
    omega
end Go.Proofs.YtaamllikceaifaaGreatDoor.Sp
