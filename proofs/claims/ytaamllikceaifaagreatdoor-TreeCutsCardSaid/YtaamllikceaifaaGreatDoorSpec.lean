/-
  The tokens of a source, on lists of bytes: plain functions, of no program.
-/
import Derived.Lib.Index
import Derived.Lib.IndexLaws
import Derived.Lib.Bytealg
import Derived.Lib.Strings
namespace Go.Proofs.YtaamllikceaifaaGreatDoor.Sp

def isWhite (c : UInt8) : Bool := c == 32 || c == 9 || c == 10 || c == 13
def isLet (c : UInt8) : Bool := (decide (97 ≤ c.toNat) && decide (c.toNat ≤ 122)) || (decide (65 ≤ c.toNat) && decide (c.toNat ≤ 90)) || decide (c.toNat = 95)
def isDig (c : UInt8) : Bool := decide (48 ≤ c.toNat) && decide (c.toNat ≤ 57)
def isLD (c : UInt8) : Bool := isLet c || isDig c
def lets (l : List UInt8) : List UInt8 := l.takeWhile isLD

/-- The place of the first byte 10. -/
def findNl : List UInt8 → Option Nat
  | [] => none
  | c :: t => if c = 10 then some 0 else (findNl t).map (· + 1)
/-- The place of the first star and slash. -/
def findClose : List UInt8 → Option Nat
  | [] => none
  | c :: t => if [42, 47].isPrefixOf (c :: t) then some 0 else (findClose t).map (· + 1)

def wordsL : List (List UInt8) := [[98, 114, 101, 97, 107], [99, 97, 115, 101], [99, 104, 97, 114], [99, 111, 110, 116, 105, 110, 117, 101], [100, 101, 102, 97, 117, 108, 116], [100, 111], [101, 108, 115, 101], [102, 111, 114], [103, 101, 116, 99], [103, 111, 116, 111], [105, 102], [105, 110, 116], [112, 117, 116, 99], [114, 101, 116, 117, 114, 110], [115, 105, 122, 101, 111, 102], [115, 116, 114, 117, 99, 116], [115, 119, 105, 116, 99, 104], [117, 110, 115, 105, 103, 110, 101, 100], [118, 111, 105, 100], [119, 104, 105, 108, 101]]
def isWord (l : List UInt8) : Bool := wordsL.contains l
def signsL : List (List UInt8) := [[60, 60, 61], [62, 62, 61], [43, 43], [45, 45], [45, 62], [43, 61], [45, 61], [42, 61], [47, 61], [37, 61], [38, 61], [124, 61], [94, 61], [60, 60], [62, 62], [60, 61], [62, 61], [61, 61], [33, 61], [38, 38], [124, 124], [43], [45], [42], [47], [37], [38], [124], [94], [126], [33], [60], [62], [61], [63], [58], [59], [44], [46], [40], [41], [91], [93], [123], [125]]
/-- The first one of some texts that a text begins with. -/
def firstOf : List (List UInt8) → List UInt8 → Option (List UInt8)
  | [], _ => none
  | p :: ps, l => if p.isPrefixOf l then some p else firstOf ps l

/-- What a digit stands for, of whatever base up to 16; 99: none. -/
def hex (c : UInt8) : Nat :=
  if 48 ≤ c.toNat ∧ c.toNat ≤ 57 then c.toNat - 48
  else if 97 ≤ c.toNat ∧ c.toNat ≤ 102 then c.toNat - 87
  else if 65 ≤ c.toNat ∧ c.toNat ≤ 70 then c.toNat - 55
  else 99
/-- The value of digits of a base behind what has been read; none: no digit, or too great. -/
def valFrom (b acc : Nat) : List UInt8 → Option Nat
  | [] => some acc
  | c :: t => if hex c < b then (if acc * b + hex c ≤ 4294967295 then valFrom b (acc * b + hex c) t else none) else none
def val (b : Nat) (l : List UInt8) : Option Nat := if l = [] then none else valFrom b 0 l
def isHexP (l : List UInt8) : Bool := [48, 120].isPrefixOf l || [48, 88].isPrefixOf l
def isU (l : List UInt8) : Bool := l.getLast? == some 117 || l.getLast? == some 85
def unU (l : List UInt8) : List UInt8 := if isU l then l.dropLast else l
/-- The number that letters and digits are. -/
def value (l : List UInt8) : Option Nat := if isHexP l then val 16 (unU (l.drop 2)) else val 10 (unU l)

def escape (c : UInt8) : Option Nat :=
  if c.toNat = 110 then some 10 else if c.toNat = 116 then some 9 else if c.toNat = 48 then some 0 else if c.toNat = 92 then some 92 else if c.toNat = 39 then some 39 else none
/-- A number with bytes 39, behind the first one of them: how long it is, all in all, and what it is. -/
def quoted : List UInt8 → Option (Nat × Nat)
  | c :: d :: t =>
    if d.toNat = 39 ∧ c.toNat ≠ 39 ∧ c.toNat ≠ 92 ∧ c.toNat ≠ 10 then some (3, c.toNat)
    else match t with
      | e :: _ => if e.toNat = 39 ∧ c.toNat = 92 then (escape d).map fun v => (4, v) else none
      | [] => none
  | _ => none

/-- What a text begins with. -/
inductive St where
  | white (n : Nat)
  | line
  | fin
  | bad (e : Int)
  | tok (k : Int) (len n : Nat)

/-- The token that a text begins with that does not begin with white space or a comment. -/
def tokSt (c : UInt8) (t : List UInt8) : St :=
  if isLet c then .tok (if isWord (lets (c :: t)) then 2 else 1) (lets (c :: t)).length 0
  else if isDig c then (match value (lets (c :: t)) with | none => .bad 3 | some v => .tok 3 (lets (c :: t)).length v)
  else if c = 39 then (match quoted t with | none => .bad 2 | some p => .tok 3 p.1 p.2)
  else match firstOf signsL (c :: t) with | none => .bad 2 | some p => .tok 4 p.length 0

def step (l : List UInt8) : St :=
  match l with
  | [] => .fin
  | c :: t =>
    if isWhite c then .white 1
    else if [47, 47].isPrefixOf (c :: t) then (match findNl (c :: t) with | none => .line | some e => .white e)
    else if [47, 42].isPrefixOf (c :: t) then (match findClose (t.drop 1) with | none => .bad 2 | some i => .white (i + 4))
    else tokSt c t

structure Tok where
  k : Int
  text : List UInt8
  n : Nat
  pos : Nat

abbrev Res := Except (Nat × Int) (List Tok)

/-- The tokens of what is left of a source, from a place on, behind so many tokens. -/
def scanF : Nat → List UInt8 → Nat → Nat → Res
  | 0, _, p, _ => .error (p, 0)
  | f + 1, l, p, cnt =>
    match step l with
    | .fin => .ok [⟨0, [], 0, p⟩]
    | .line => .ok [⟨0, [], 0, p + l.length⟩]
    | .white n => scanF f (l.drop n) (p + n) cnt
    | .bad e => .error (p, e)
    | .tok k len n => if cnt = 8192 then .error (p, 4) else (scanF f (l.drop len) (p + len) (cnt + 1)).map (⟨k, l.take len, n, p⟩ :: ·)

/-- The tokens of a source. -/
def scan (l : List UInt8) : Res := if 32768 < l.length then .error (0, 4) else scanF (l.length + 1) l 0 0

/-! ### How long what is read is -/
theorem findNl_lt : ∀ {l : List UInt8} {e : Nat}, findNl l = some e → e < l.length
  | [], e, h => by simp [findNl] at h
  | c :: t, e, h => by
    unfold findNl at h
    split at h
    · simp at h; subst h; simp
    · simp only [Option.map_eq_some_iff] at h
      obtain ⟨a, ha, rfl⟩ := h
      have := findNl_lt ha
      simp; omega
theorem findClose_lt : ∀ {l : List UInt8} {e : Nat}, findClose l = some e → e + 2 ≤ l.length
  | [], e, h => by simp [findClose] at h
  | c :: t, e, h => by
    unfold findClose at h
    split at h
    · rename_i hp
      simp at h; subst h
      have := List.IsPrefix.length_le (List.isPrefixOf_iff_prefix.1 hp)
      simpa using this
    · simp only [Option.map_eq_some_iff] at h
      obtain ⟨a, ha, rfl⟩ := h
      have := findClose_lt ha
      simp; omega
theorem lets_le (l : List UInt8) : (lets l).length ≤ l.length := by
  unfold lets; exact (List.takeWhile_prefix _).length_le
theorem lets_pos {c : UInt8} {t : List UInt8} (h : isLD c = true) : 1 ≤ (lets (c :: t)).length := by
  simp [lets, h]
theorem firstOf_mem : ∀ {ps : List (List UInt8)} {l p : List UInt8}, firstOf ps l = some p → p ∈ ps ∧ p <+: l
  | [], _, _, h => by simp [firstOf] at h
  | q :: ps, l, p, h => by
    unfold firstOf at h
    split at h
    · rename_i hq
      simp at h; subst h
      exact ⟨by simp, List.isPrefixOf_iff_prefix.1 hq⟩
    · obtain ⟨h1, h2⟩ := firstOf_mem h
      exact ⟨by simp [h1], h2⟩
theorem signs_len : ∀ p ∈ signsL, 1 ≤ p.length ∧ p.length ≤ 3 := by decide +kernel
theorem quoted_len {t : List UInt8} {p : Nat × Nat} (h : quoted t = some p) : 3 ≤ p.1 ∧ p.1 ≤ t.length + 1 ∧ p.2 < 256 := by
  unfold quoted at h
  split at h
  · rename_i c d t
    split at h
    · simp at h; subst h; simp; exact c.toNat_lt
    · split at h
      · split at h
        · simp only [Option.map_eq_some_iff] at h
          obtain ⟨a, ha, rfl⟩ := h
          refine ⟨by simp, by simp, ?_⟩
          simp only
          unfold escape at ha
          (repeat' split at ha) <;> simp at ha <;> omega
        · simp at h
      · simp at h
  · simp at h
theorem step_white {l : List UInt8} {n : Nat} (h : step l = .white n) : 1 ≤ n ∧ n ≤ l.length := by
  unfold step at h
  split at h
  · simp at h
  · rename_i c t
    split at h
    · simp at h; subst h; simp
    · split at h
      · split at h
        · simp at h
        · rename_i hp _ e he
          simp at h; subst h
          have := findNl_lt he
          refine ⟨?_, by omega⟩
          rcases Nat.eq_zero_or_pos e with h0 | h0
          · subst h0
            unfold findNl at he
            split at he
            · rename_i hc
              subst hc
              simp [List.isPrefixOf] at hp
            · simp only [Option.map_eq_some_iff] at he
              obtain ⟨a, _, ha⟩ := he
              omega
          · exact h0
      · split at h
        · split at h
          · simp at h
          · rename_i i hi
            simp at h; subst h
            have := findClose_lt hi
            simp at this ⊢
            omega
        · unfold tokSt at h
          (repeat' split at h) <;> simp at h
theorem step_tok {l : List UInt8} {k : Int} {len n : Nat} (h : step l = .tok k len n) : 1 ≤ len ∧ len ≤ l.length := by
  unfold step at h
  split at h
  · simp at h
  · rename_i c t
    split at h
    · simp at h
    · split at h
      · split at h <;> simp at h
      · split at h
        · split at h <;> simp at h
        · unfold tokSt at h
          split at h
          · rename_i hl
            simp at h; obtain ⟨_, rfl, _⟩ := h
            exact ⟨lets_pos (by simp [isLD, hl]), lets_le _⟩
          · split at h
            · rename_i hd
              split at h
              · simp at h
              · simp at h; obtain ⟨_, rfl, _⟩ := h
                exact ⟨lets_pos (by simp [isLD, hd]), lets_le _⟩
            · split at h
              · split at h
                · simp at h
                · rename_i hq
                  simp at h; obtain ⟨_, rfl, _⟩ := h
                  have := quoted_len hq
                  simp; omega
              · split at h
                · simp at h
                · rename_i hf
                  simp at h; obtain ⟨_, rfl, _⟩ := h
                  obtain ⟨h1, h2⟩ := firstOf_mem hf
                  exact ⟨(signs_len _ h1).1, h2.length_le⟩

/-! ### The library's words -/
theorem indexByte_nl : ∀ (l : List UInt8), Lib.indexByte l 10 = match findNl l with | none => -1 | some e => (e : Int)
  | [] => rfl
  | c :: t => by
    unfold Lib.indexByte findNl
    have ih := indexByte_nl t
    by_cases h : c = 10
    · subst h; simp
    · have hb : (c == 10) = false := by simpa using h
      rw [ih]
      cases hf : findNl t with
      | none => simp [h]
      | some e =>
        simp [h]
theorem index_close : ∀ (l : List UInt8), Lib.index l [42, 47] = match findClose l with | none => -1 | some e => (e : Int)
  | [] => rfl
  | c :: t => by
    unfold Lib.index findClose
    have ih := index_close t
    by_cases h : [42, 47].isPrefixOf (c :: t) = true
    · rw [if_pos h, if_pos h]; rfl
    · rw [if_neg h, if_neg h, ih]
      cases hf : findClose t with
      | none => simp
      | some e =>
        have : ((e : Int) == -1) = false := by rw [beq_eq_false_iff_ne]; omega
        simp [this]
end Go.Proofs.YtaamllikceaifaaGreatDoor.Sp
