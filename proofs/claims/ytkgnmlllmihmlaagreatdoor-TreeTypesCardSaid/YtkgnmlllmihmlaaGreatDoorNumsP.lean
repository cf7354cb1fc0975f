/-
  Numerals are scanned as their numbers, on lists. Of no program.
-/
import Derived.Test.YtkgnmlllmihmlaaGreatDoorPure
import Derived.Lib.ItoaNum
namespace Go.Proofs.YtkgnmlllmihmlaaGreatDoor.Sp
open Go.Lib (decDigits)
set_option linter.unusedVariables false
set_option linter.unusedSimpArgs false

/-- What one digit more makes of a value. -/
def more (b : Nat) (c : UInt8) (a : Nat) : Option Nat := if hex c < b then (if a * b + hex c ≤ 4294967295 then some (a * b + hex c) else none) else none
theorem valFrom_snoc (b : Nat) (c : UInt8) : ∀ (l : List UInt8) (acc : Nat), valFrom b acc (l ++ [c]) = (valFrom b acc l).bind (more b c)
  | [], acc => by
    show valFrom b acc [c] = more b c acc
    unfold valFrom more
    rfl
  | d :: l, acc => by
    rw [List.cons_append]
    unfold valFrom
    split
    · split
      · exact valFrom_snoc b c l _
      · rfl
    · rfl
def hd (r : Nat) : Nat := if r < 10 then 48 + r else 87 + r
def hexL (u : Nat) : List UInt8 := if h : u < 16 then [UInt8.ofNat (hd u)] else hexL (u / 16) ++ [UInt8.ofNat (hd (u % 16))]
termination_by u
decreasing_by omega
theorem hexL_small {u : Nat} (h : u < 16) : hexL u = [UInt8.ofNat (hd u)] := by rw [hexL, dif_pos h]
theorem hexL_big {u : Nat} (h : ¬ u < 16) : hexL u = hexL (u / 16) ++ [UInt8.ofNat (hd (u % 16))] := by rw [hexL, dif_neg h]
theorem dec_small {u : Nat} (h : u < 10) : decDigits u = [UInt8.ofNat (48 + u)] := by rw [decDigits, dif_pos h]
theorem dec_big {u : Nat} (h : ¬ u < 10) : decDigits u = decDigits (u / 10) ++ [UInt8.ofNat (48 + u % 10)] := by rw [decDigits, dif_neg h]
theorem dec_digit : ∀ r, r < 10 → hex (UInt8.ofNat (48 + r)) = r ∧ isDig (UInt8.ofNat (48 + r)) = true := by decide +kernel
def hexy (c : UInt8) : Bool := isLD c && (decide (c.toNat ≤ 57) || (decide (97 ≤ c.toNat) && decide (c.toNat ≤ 102)))
theorem hex_digit : ∀ r, r < 16 → hex (UInt8.ofNat (hd r)) = r ∧ hexy (UInt8.ofNat (hd r)) = true := by decide +kernel
theorem dec_val (u : Nat) : valFrom 10 0 (decDigits u) = if u ≤ 4294967295 then some u else none := by
  induction u using Nat.strongRecOn with
  | _ u ih =>
    by_cases h : u < 10
    · rw [dec_small h]
      unfold valFrom valFrom
      rw [(dec_digit u h).1, if_pos (by omega), if_pos (by omega), if_pos (by omega)]
      simp
    · rw [dec_big h, valFrom_snoc, ih (u / 10) (by omega)]
      have hd := (dec_digit (u % 10) (by omega)).1
      by_cases h1 : u / 10 ≤ 4294967295
      · rw [if_pos h1]
        show more 10 _ (u / 10) = _
        unfold more
        rw [hd, if_pos (by omega), show u / 10 * 10 + u % 10 = u by omega]
      · rw [if_neg h1, if_neg (by omega)]; rfl
theorem hex_val (u : Nat) (hu : u ≤ 4294967295) : valFrom 16 0 (hexL u) = some u := by
  induction u using Nat.strongRecOn with
  | _ u ih =>
    by_cases h : u < 16
    · rw [hexL_small h]
      unfold valFrom valFrom
      rw [(hex_digit u h).1, if_pos (by omega), if_pos (by omega)]
      simp
    · rw [hexL_big h, valFrom_snoc, ih (u / 16) (by omega) (by omega)]
      have hd := (hex_digit (u % 16) (by omega)).1
      show more 16 _ (u / 16) = _
      unfold more
      rw [hd, if_pos (by omega), show u / 16 * 16 + u % 16 = u by omega, if_pos hu]
theorem dec_all (u : Nat) : ∀ c ∈ decDigits u, isDig c = true := by
  induction u using Nat.strongRecOn with
  | _ u ih =>
    intro c hc
    by_cases h : u < 10
    · rw [dec_small h, List.mem_singleton] at hc; subst hc
      exact (dec_digit u h).2
    · rw [dec_big h, List.mem_append, List.mem_singleton] at hc
      rcases hc with hc | hc
      · exact ih (u / 10) (by omega) c hc
      · subst hc; exact (dec_digit (u % 10) (by omega)).2
theorem hex_all (u : Nat) : ∀ c ∈ hexL u, hexy c = true := by
  induction u using Nat.strongRecOn with
  | _ u ih =>
    intro c hc
    by_cases h : u < 16
    · rw [hexL_small h, List.mem_singleton] at hc; subst hc
      exact (hex_digit u h).2
    · rw [hexL_big h, List.mem_append, List.mem_singleton] at hc
      rcases hc with hc | hc
      · exact ih (u / 16) (by omega) c hc
      · subst hc; exact (hex_digit (u % 16) (by omega)).2
theorem dec_ne (u : Nat) : decDigits u ≠ [] := by
  by_cases h : u < 10
  · rw [dec_small h]; simp
  · rw [dec_big h]; simp
theorem hex_ne (u : Nat) : hexL u ≠ [] := by
  by_cases h : u < 16
  · rw [hexL_small h]; simp
  · rw [hexL_big h]; simp
theorem isU_last {l : List UInt8} (h : ∀ c ∈ l, c ≠ 117 ∧ c ≠ 85) : isU l = false := by
  unfold isU
  cases hl : l.getLast? with
  | none => rfl
  | some c =>
    have hm : c ∈ l := List.mem_of_getLast? hl
    have := h c hm
    simp [this.1, this.2]
theorem unU_id {l : List UInt8} (h : ∀ c ∈ l, c ≠ 117 ∧ c ≠ 85) : unU l = l := by
  unfold unU; rw [if_neg (by rw [isU_last h]; simp)]
theorem unU_snoc (l : List UInt8) (c : UInt8) (h : c = 117 ∨ c = 85) : unU (l ++ [c]) = l := by
  unfold unU
  rw [if_pos (by unfold isU; rcases h with rfl | rfl <;> simp)]
  simp
theorem isHexP_no {l : List UInt8} (h : ∀ c ∈ l, c ≠ 120 ∧ c ≠ 88) : isHexP l = false := by
  unfold isHexP
  match l, h with
  | [], _ => rfl
  | [a], _ => simp [List.isPrefixOf]
  | a :: b :: t, h =>
    have := h b (by simp)
    simp [List.isPrefixOf, this.1, this.2]
    exact ⟨fun _ e => this.1 e.symm, fun _ e => this.2 e.symm⟩
theorem dig_not {c : UInt8} (h : isDig c = true) : c ≠ 117 ∧ c ≠ 85 ∧ c ≠ 120 ∧ c ≠ 88 := by
  refine ⟨?_, ?_, ?_, ?_⟩ <;> (intro e; subst e; revert h; decide)
theorem hexy_not {c : UInt8} (h : hexy c = true) : c ≠ 117 ∧ c ≠ 85 ∧ c ≠ 120 ∧ c ≠ 88 := by
  refine ⟨?_, ?_, ?_, ?_⟩ <;> (intro e; subst e; revert h; decide)
theorem val_of {b : Nat} {l : List UInt8} (h : l ≠ []) : val b l = valFrom b 0 l := by unfold val; rw [if_neg h]
theorem value_dec (u : Nat) : value (decDigits u) = if u ≤ 4294967295 then some u else none := by
  have h := fun c hc => dig_not (dec_all u c hc)
  unfold value
  rw [if_neg (by rw [isHexP_no fun c hc => ⟨(h c hc).2.2.1, (h c hc).2.2.2⟩]; simp), unU_id fun c hc => ⟨(h c hc).1, (h c hc).2.1⟩, val_of (dec_ne u), dec_val]
theorem value_decu (u : Nat) (hu : u ≤ 4294967295) : value (decDigits u ++ [117]) = some u := by
  have h := fun c hc => dig_not (dec_all u c hc)
  have h2 : ∀ c ∈ decDigits u ++ [117], c ≠ 120 ∧ c ≠ 88 := by
    intro c hc
    simp at hc
    rcases hc with hc | rfl
    · exact ⟨(h c hc).2.2.1, (h c hc).2.2.2⟩
    · decide
  unfold value
  rw [if_neg (by rw [isHexP_no h2]; simp), unU_snoc _ _ (.inl rfl), val_of (dec_ne u), dec_val, if_pos hu]
theorem value_hex (u : Nat) (hu : u ≤ 4294967295) : value (48 :: 120 :: hexL u) = some u := by
  have h := fun c hc => hexy_not (hex_all u c hc)
  unfold value
  rw [if_pos (by unfold isHexP; simp [List.isPrefixOf])]
  show val 16 (unU (hexL u)) = _
  rw [unU_id fun c hc => ⟨(h c hc).1, (h c hc).2.1⟩, val_of (hex_ne u), hex_val u hu]
theorem value_hexU (u : Nat) (hu : u ≤ 4294967295) : value (48 :: 88 :: (hexL u ++ [85])) = some u := by
  unfold value
  rw [if_pos (by unfold isHexP; simp [List.isPrefixOf])]
  show val 16 (unU (hexL u ++ [85])) = _
  rw [unU_snoc _ _ (.inr rfl), val_of (hex_ne u), hex_val u hu]
theorem lets_all {l : List UInt8} (h : ∀ c ∈ l, isLD c = true) : lets l = l := by
  unfold lets
  induction l with
  | nil => rfl
  | cons a t ih =>
    rw [List.takeWhile_cons, if_pos (h a (by simp)), ih fun c hc => h c (by simp [hc])]
/-- A numeral alone. -/
theorem scan_num {c : UInt8} {t : List UInt8} (hc : isDig c = true) (h : ∀ d ∈ c :: t, isLD d = true) (hl : (c :: t).length ≤ 32768) :
    scan (c :: t) = match value (c :: t) with | none => .error (0, 3) | some v => .ok [⟨3, c :: t, v, 0⟩, ⟨0, [], 0, (c :: t).length⟩] := by
  have h1 : isWhite c = false ∧ isLet c = false ∧ c ≠ 47 := by
    refine ⟨?_, ?_, ?_⟩
    · unfold isWhite
      simp
      refine ⟨⟨⟨?_, ?_⟩, ?_⟩, ?_⟩ <;> (intro e; subst e; revert hc; decide)
    · unfold isDig at hc; unfold isLet; simp at hc ⊢; omega
    · intro e; subst e; revert hc; decide
  have hs : step (c :: t) = match value (c :: t) with | none => .bad 3 | some v => .tok 3 (c :: t).length v := by
    rw [step_cons, if_neg (by rw [h1.1]; simp), if_neg (by simp [List.isPrefixOf]; intro e; exact absurd e.symm h1.2.2), if_neg (by simp [List.isPrefixOf]; intro e; exact absurd e.symm h1.2.2)]
    unfold tokSt
    rw [if_neg (by rw [h1.2.1]; simp), if_pos hc, lets_all h]
    rfl
  rw [scan_eq, if_neg (by omega), scanR_eq, hs]
  cases value (c :: t) with
  | none => rfl
  | some v =>
    simp only
    rw [if_neg (by decide), List.drop_length, List.take_length, scanR_eq]
    simp [step, Except.map]
theorem dig_LD {c : UInt8} (h : isDig c = true) : isLD c = true := by unfold isLD; rw [h]; simp
theorem hexy_LD {c : UInt8} (h : hexy c = true) : isLD c = true := by unfold hexy at h; simp at h; exact h.1
theorem scan_dec (u : Nat) (hl : (decDigits u).length ≤ 1000) : scan (decDigits u) = if u ≤ 4294967295 then .ok [⟨3, decDigits u, u, 0⟩, ⟨0, [], 0, (decDigits u).length⟩] else .error (0, 3) := by
  have ha := dec_all u
  have hv := value_dec u
  cases hd : decDigits u with
  | nil => exact absurd hd (dec_ne u)
  | cons c t =>
    rw [hd] at ha hv hl
    rw [scan_num (ha c (by simp)) (fun d hd => dig_LD (ha d hd)) (by omega), hv]
    by_cases hu : u ≤ 4294967295
    · rw [if_pos hu, if_pos hu]
    · rw [if_neg hu, if_neg hu]
theorem scan_decu (u : Nat) (hu : u ≤ 4294967295) (hl : (decDigits u).length ≤ 1000) : scan (decDigits u ++ [117]) = .ok [⟨3, decDigits u ++ [117], u, 0⟩, ⟨0, [], 0, (decDigits u ++ [117]).length⟩] := by
  have ha := dec_all u
  have hv := value_decu u hu
  cases hd : decDigits u with
  | nil => exact absurd hd (dec_ne u)
  | cons c t =>
    rw [hd] at ha hv hl
    rw [List.cons_append] at hv ⊢
    rw [scan_num (ha c (by simp)) (fun d hd => by
      simp at hd
      rcases hd with hd | hd | hd
      · exact dig_LD (ha d (by simp [hd]))
      · exact dig_LD (ha d (by simp [hd]))
      · subst hd; decide) (by simp at hl ⊢; omega), hv]
theorem scan_hex (u : Nat) (hu : u ≤ 4294967295) (hl : (hexL u).length ≤ 1000) : scan (48 :: 120 :: hexL u) = .ok [⟨3, 48 :: 120 :: hexL u, u, 0⟩, ⟨0, [], 0, (48 :: 120 :: hexL u).length⟩] := by
  rw [scan_num (by decide) (fun d hd => by
    simp at hd
    rcases hd with hd | hd | hd
    · subst hd; decide
    · subst hd; decide
    · exact hexy_LD (hex_all u d hd)) (by simp; omega), value_hex u hu]
theorem scan_hexU (u : Nat) (hu : u ≤ 4294967295) (hl : (hexL u).length ≤ 1000) : scan (48 :: 88 :: (hexL u ++ [85])) = .ok [⟨3, 48 :: 88 :: (hexL u ++ [85]), u, 0⟩, ⟨0, [], 0, (48 :: 88 :: (hexL u ++ [85])).length⟩] := by
  rw [scan_num (by decide) (fun d hd => by
    simp at hd
    rcases hd with hd | hd | hd | hd
    · subst hd; decide
    · subst hd; decide
    · exact hexy_LD (hex_all u d hd)
    · subst hd; decide) (by simp; omega), value_hexU u hu]
theorem hexL_len : ∀ (k u : Nat), u < 16 ^ (k + 1) → (hexL u).length ≤ k + 1
  | 0, u, h => by rw [hexL_small (by simpa using h)]; simp
  | k + 1, u, h => by
    by_cases hs : u < 16
    · rw [hexL_small hs]; simp
    · rw [hexL_big hs]
      have := hexL_len k (u / 16) (by rw [Nat.pow_succ] at h; omega)
      simp; omega
theorem dec_len : ∀ (k u : Nat), u < 10 ^ (k + 1) → (decDigits u).length ≤ k + 1
  | 0, u, h => by rw [dec_small (by simpa using h)]; simp
  | k + 1, u, h => by
    by_cases hs : u < 10
    · rw [dec_small hs]; simp
    · rw [dec_big hs]
      have := dec_len k (u / 10) (by rw [Nat.pow_succ] at h; omega)
      simp; omega
end Go.Proofs.YtkgnmlllmihmlaaGreatDoor.Sp
