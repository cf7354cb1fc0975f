/-
  The table of types, on lists: plain functions, of no program.
-/
import Derived.Lib.ItoaNum
namespace Go.Proofs.YtemnlkgjgalipaaDoor.Tp

/-- A type. -/
structure Ty where
  kind : Int
  elem : Int
  n : Int
  name : List UInt8
theorem Ty.ext_iff' (a b : Ty) : (a.kind = b.kind ∧ a.elem = b.elem ∧ a.n = b.n ∧ a.name = b.name) ↔ a = b := by
  cases a; cases b; simp
instance : DecidableEq Ty := fun a b => decidable_of_iff _ (Ty.ext_iff' a b)
/-- A field as it is given: its name and its type. -/
abbrev Fl := List UInt8 × Int
/-- A field as it is kept: its name, where it stands, its type. -/
abbrev Pl := List UInt8 × Int × Int
/-- What is kept of a type. -/
structure En where
  self : Ty
  size : Int
  flds : Option (List Pl)
abbrev Tab := List En
def zeroT : Ty := ⟨0, 0, 0, []⟩
def zeroE : En := ⟨zeroT, 0, none⟩
/-- The first four. -/
def newT : Tab := [⟨⟨0, 0, 0, []⟩, 0, none⟩, ⟨⟨1, 0, 0, []⟩, 1, none⟩, ⟨⟨2, 0, 0, []⟩, 1, none⟩, ⟨⟨3, 0, 0, []⟩, 1, none⟩]
def ent (T : Tab) (n : Int) : Option En := if n < 0 then none else T[n.toNat]?
/-- Where a type stands. -/
def find : Tab → Ty → Option Nat
  | [], _ => none
  | e :: T, x => if e.self = x then some 0 else (find T x).map (· + 1)
def num (T : Tab) (x : Ty) (size : Int) : Int × Int × Tab :=
  match find T x with
  | some i => (i, 0, T)
  | none => if T.length = 256 then (0, 4, T) else (T.length, 0, T ++ [⟨x, size, none⟩])
def sizeOf (T : Tab) (n : Int) : Int := ((ent T n).getD zeroE).size
def pointer (T : Tab) (elem : Int) : Int × Int × Tab :=
  match ent T elem with
  | none => (0, 1, T)
  | some _ => num T ⟨4, elem, 0, []⟩ 1
def array (T : Tab) (elem n : Int) : Int × Int × Tab :=
  match ent T elem with
  | none => (0, 1, T)
  | some e => if e.size ≤ 0 then (0, 8, T) else if n < 1 ∨ 1024 < n ∨ 4096 < n * e.size then (0, 4, T) else num T ⟨5, elem, n, []⟩ (n * e.size)
def strct (T : Tab) (name : List UInt8) : Int × Int × Tab :=
  if name = [] then (0, 1, T) else num T ⟨6, 0, 0, name⟩ 0
/-- Each field has a name of its own. -/
def named (l : List Fl) : Bool := l.all (fun f => !f.1.isEmpty) && decide (l.map (·.1)).Nodup
/-- Where fields stand that follow one another, from a place on; none: one has no size. -/
def layF (T : Tab) : List Fl → Int → Option (List Pl × Int)
  | [], o => some ([], o)
  | f :: l, o => if sizeOf T f.2 ≤ 0 then none else (layF T l (o + sizeOf T f.2)).map fun r => ((f.1, o, f.2) :: r.1, r.2)
def lay (T : Tab) (l : List Fl) : Except Int (List Pl × Int) :=
  if l = [] then .error 8 else
  match layF T l 0 with
  | none => .error 8
  | some r => if 4096 < r.2 then .error 4 else .ok r
def setF (T : Tab) (i : Nat) (r : List Pl × Int) : Tab := T.modify i fun e => ⟨e.self, r.2, some r.1⟩
def isDef (T : Tab) (n : Int) : Bool := match ent T n with | some e => e.flds.isSome | none => false
def define (T : Tab) (name : List UInt8) (l : List Fl) : Int × Tab :=
  match strct T name with
  | (n, er, T1) => if er ≠ 0 then (er, T1) else if isDef T1 n = true ∨ named l = false then (7, T1) else
    match lay T1 l with
    | .error x => (x, T1)
    | .ok r => (0, setF T1 n.toNat r)
def pick (l : List Pl) (name : List UInt8) : Int × Int × Bool :=
  match l.find? (fun f => f.1 = name) with
  | some f => (f.2.1, f.2.2, true)
  | none => (0, 0, false)
def field (T : Tab) (n : Int) (name : List UInt8) : Int × Int × Bool :=
  match (ent T n).bind (·.flds) with
  | some l => pick l name
  | none => (0, 0, false)
def scalar (T : Tab) (n : Int) : Bool :=
  match ent T n with
  | some e => decide (1 ≤ e.self.kind ∧ e.self.kind ≤ 4)
  | none => false
def baseText (k : Int) : List UInt8 := if k = 0 then [118, 111, 105, 100] else if k = 1 then [105, 110, 116] else if k = 2 then [117, 110, 115, 105, 103, 110, 101, 100] else if k = 3 then [99, 104, 97, 114] else []
def structL : List UInt8 := [115, 116, 114, 117, 99, 116, 32]
/-- The text of the entry i, in so many steps. -/
def textF (T : Tab) : Nat → Nat → List UInt8
  | 0, _ => []
  | f + 1, i =>
    match T[i]? with
    | none => []
    | some e => if e.self.kind = 4 then textF T f e.self.elem.toNat ++ [42]
      else if e.self.kind = 5 then textF T f e.self.elem.toNat ++ ([91] ++ Lib.decDigits e.self.n.toNat ++ [93])
      else if e.self.kind = 6 then structL ++ e.self.name
      else baseText e.self.kind
def text (T : Tab) (n : Int) : List UInt8 := if n < 0 then [] else textF T (n.toNat + 1) n.toNat

/-- What holds of every table that the calls make. -/
structure Good (T : Tab) : Prop where
  few : T.length ≤ 256
  size : ∀ (i : Nat) (e : En), T[i]? = some e → 0 ≤ e.size ∧ e.size ≤ 4096
  kind : ∀ (i : Nat) (e : En), T[i]? = some e → 0 ≤ e.self.kind ∧ e.self.kind ≤ 6
  down : ∀ (i : Nat) (e : En), T[i]? = some e → (e.self.kind = 4 ∨ e.self.kind = 5) → 0 ≤ e.self.elem ∧ e.self.elem < i
  count : ∀ (i : Nat) (e : En), T[i]? = some e → 0 ≤ e.self.n ∧ e.self.n ≤ 1024
  short : ∀ (i : Nat) (e : En), T[i]? = some e → e.self.name.length ≤ 100
  flds : ∀ (i : Nat) (e : En) (l : List Pl), T[i]? = some e → e.flds = some l → e.self.kind = 6

theorem ent_nat (T : Tab) (i : Nat) : ent T i = T[i]? := by unfold ent; rw [if_neg (by omega)]; simp
theorem ent_some {T : Tab} {n : Int} {e : En} (h : ent T n = some e) : ∃ i : Nat, n = i ∧ i < T.length ∧ T[i]? = some e := by
  unfold ent at h
  split at h
  · cases h
  · refine ⟨n.toNat, by omega, ?_, h⟩
    rcases Nat.lt_or_ge n.toNat T.length with h1 | h1
    · exact h1
    · rw [List.getElem?_eq_none h1] at h; cases h
theorem find_some : ∀ {T : Tab} {x : Ty} {i : Nat}, find T x = some i → ∃ e, T[i]? = some e ∧ e.self = x ∧ i < T.length
  | e :: T, x, i, h => by
    unfold find at h
    split at h
    · injection h with h; subst h; exact ⟨e, rfl, by assumption, by simp⟩
    · cases hf : find T x with
      | none => rw [hf] at h; cases h
      | some j =>
        rw [hf] at h
        simp at h
        subst h
        obtain ⟨e2, h1, h2, h3⟩ := find_some hf
        exact ⟨e2, by simpa using h1, h2, by simp; omega⟩
theorem find_none : ∀ {T : Tab} {x : Ty}, find T x = none → ∀ (i : Nat) (e : En), T[i]? = some e → e.self ≠ x
  | [], _, _, i, e, h => by simp at h
  | a :: T, x, h, i, e, he => by
    unfold find at h
    split at h
    · cases h
    · cases i with
      | zero => simp at he; subst he; assumption
      | succ i =>
        simp at he
        cases hf : find T x with
        | none => exact find_none hf i e he
        | some j => rw [hf] at h; cases h
theorem good_new : Good newT := by
  have h : ∀ i e, newT[i]? = some e → i < 4 ∧ (0 ≤ e.size ∧ e.size ≤ 4096) ∧ (0 ≤ e.self.kind ∧ e.self.kind ≤ 3) ∧ e.self.n = 0 ∧ e.self.name = [] ∧ e.flds = none := by
    intro i e h
    rcases i with _ | _ | _ | _ | i
    · simp [newT] at h; subst h; simp
    · simp [newT] at h; subst h; simp
    · simp [newT] at h; subst h; simp
    · simp [newT] at h; subst h; simp
    · simp [newT] at h
  refine ⟨by decide, fun i e he => (h i e he).2.1, fun i e he => ?_, fun i e he hk => ?_, fun i e he => ?_, fun i e he => ?_, fun i e l he hl => ?_⟩
  · have := (h i e he).2.2.1; omega
  · have := (h i e he).2.2.1; omega
  · have := (h i e he).2.2.2.1; omega
  · have := (h i e he).2.2.2.2.1; rw [this]; simp
  · rw [(h i e he).2.2.2.2.2] at hl; cases hl
theorem getElem?_snoc {α : Type} {T : List α} {x e : α} {i : Nat} (h : (T ++ [x])[i]? = some e) : T[i]? = some e ∨ (i = T.length ∧ e = x) := by
  rcases Nat.lt_trichotomy i T.length with h1 | h1 | h1
  · left; rwa [List.getElem?_append_left h1] at h
  · right; subst h1; simp at h; exact ⟨rfl, h.symm⟩
  · rw [List.getElem?_append_right (by omega)] at h
    have : i - T.length ≥ 1 := by omega
    rw [List.getElem?_eq_none (by simp; omega)] at h
    cases h
/-- A type that may come in. -/
structure May (T : Tab) (x : Ty) (size : Int) : Prop where
  size : 0 ≤ size ∧ size ≤ 4096
  kind : 0 ≤ x.kind ∧ x.kind ≤ 6
  down : (x.kind = 4 ∨ x.kind = 5) → 0 ≤ x.elem ∧ x.elem < T.length
  count : 0 ≤ x.n ∧ x.n ≤ 1024
  short : x.name.length ≤ 100
theorem good_snoc {T : Tab} {x : Ty} {size : Int} (h : Good T) (hl : T.length ≠ 256) (m : May T x size) : Good (T ++ [⟨x, size, none⟩]) := by
  refine ⟨by have := h.few; simp; omega, fun i e he => ?_, fun i e he => ?_, fun i e he hk => ?_, fun i e he => ?_, fun i e he => ?_, fun i e l he hl => ?_⟩
  all_goals rcases getElem?_snoc he with h1 | ⟨rfl, rfl⟩
  · exact h.size i e h1
  · exact m.size
  · exact h.kind i e h1
  · exact m.kind
  · exact h.down i e h1 hk
  · exact m.down hk
  · exact h.count i e h1
  · exact m.count
  · exact h.short i e h1
  · exact m.short
  · exact h.flds i e l h1 hl
  · cases hl
theorem good_num {T : Tab} {x : Ty} {size : Int} (h : Good T) (m : May T x size) : Good (num T x size).2.2 := by
  unfold num
  split
  · exact h
  · split
    · exact h
    · exact good_snoc h (by assumption) m
theorem good_pointer {T : Tab} {elem : Int} (h : Good T) : Good (pointer T elem).2.2 := by
  unfold pointer
  split
  · exact h
  · rename_i e he
    obtain ⟨i, rfl, hi, _⟩ := ent_some he
    exact good_num h ⟨by decide, by simp, fun _ => ⟨by simp, by simpa using hi⟩, by simp, by simp⟩
theorem good_array {T : Tab} {elem n : Int} (h : Good T) : Good (array T elem n).2.2 := by
  unfold array
  split
  · exact h
  · rename_i e he
    obtain ⟨i, rfl, hi, hT⟩ := ent_some he
    have hs := h.size i e hT
    split
    · exact h
    · split
      · exact h
      · have h1 : 0 ≤ n * e.size := Int.mul_nonneg (by omega) hs.1
        exact good_num h ⟨⟨h1, by omega⟩, by simp, fun _ => ⟨by simp, by simpa using hi⟩, ⟨by simp; omega, by simp; omega⟩, by simp⟩
theorem good_strct {T : Tab} {name : List UInt8} (h : Good T) (hn : name.length ≤ 100) : Good (strct T name).2.2 := by
  unfold strct
  split
  · exact h
  · exact good_num h ⟨by decide, by simp, fun h => by simp at h, by simp, hn⟩
theorem layF_le {T : Tab} : ∀ {l : List Fl} {o : Int} {r : List Pl × Int}, layF T l o = some r → o ≤ r.2
  | [], o, r, h => by simp [layF] at h; subst h; exact Int.le_refl _
  | f :: l, o, r, h => by
    unfold layF at h
    split at h
    · cases h
    · cases hr : layF T l (o + sizeOf T f.2) with
      | none => rw [hr] at h; cases h
      | some q =>
        rw [hr] at h
        simp at h
        subst h
        have := layF_le hr
        simp; omega
theorem lay_size {T : Tab} {l : List Fl} {r : List Pl × Int} (h : lay T l = .ok r) : 0 ≤ r.2 ∧ r.2 ≤ 4096 := by
  unfold lay at h
  split at h
  · cases h
  · split at h
    · cases h
    · rename_i q hq
      split at h
      · cases h
      · injection h with h
        subst h
        have := layF_le hq
        omega
theorem getElem?_setF {T : Tab} {n : Nat} {r : List Pl × Int} {i : Nat} {e : En} (h : (setF T n r)[i]? = some e) : (T[i]? = some e ∧ i ≠ n) ∨ (i = n ∧ ∃ e0, T[i]? = some e0 ∧ e = ⟨e0.self, r.2, some r.1⟩) := by
  unfold setF at h
  rw [List.getElem?_modify] at h
  cases hT : T[i]? with
  | none => rw [hT] at h; simp at h
  | some e0 =>
    rw [hT] at h
    by_cases hn : n = i
    · subst hn; simp at h; exact .inr ⟨rfl, e0, rfl, h.symm⟩
    · simp [hn] at h; subst h; exact .inl ⟨rfl, fun e => hn e.symm⟩
theorem good_setF {T : Tab} {n : Nat} {r : List Pl × Int} (h : Good T) (hr : 0 ≤ r.2 ∧ r.2 ≤ 4096) (hk : ∀ e, T[n]? = some e → e.self.kind = 6) : Good (setF T n r) := by
  refine ⟨by have := h.few; unfold setF; simpa using this, fun i e he => ?_, fun i e he => ?_, fun i e he hk' => ?_, fun i e he => ?_, fun i e he => ?_, fun i e l he hl => ?_⟩
  all_goals rcases getElem?_setF he with ⟨h1, _⟩ | ⟨rfl, e0, h1, rfl⟩
  · exact h.size i e h1
  · exact hr
  · exact h.kind i e h1
  · exact h.kind i e0 h1
  · exact h.down i e h1 hk'
  · exact h.down i e0 h1 hk'
  · exact h.count i e h1
  · exact h.count i e0 h1
  · exact h.short i e h1
  · exact h.short i e0 h1
  · exact h.flds i e l h1 hl
  · exact hk e0 h1
theorem num_at {T : Tab} {x : Ty} {size : Int} (h : (num T x size).2.1 = 0) : ∃ i : Nat, (num T x size).1 = i ∧ ∃ e, (num T x size).2.2[i]? = some e ∧ e.self = x ∧ i < (num T x size).2.2.length := by
  unfold num at h ⊢
  split
  · rename_i i hi
    obtain ⟨e, h1, h2, h3⟩ := find_some hi
    exact ⟨i, rfl, e, h1, h2, h3⟩
  · rename_i hi
    rw [hi] at h
    simp only at h
    split
    · rename_i hl; rw [if_pos hl] at h; simp at h
    · exact ⟨T.length, rfl, ⟨x, size, none⟩, by simp, rfl, by simp⟩
theorem strct_at {T : Tab} {name : List UInt8} (h : (strct T name).2.1 = 0) : ∃ i : Nat, (strct T name).1 = i ∧ ∃ e, (strct T name).2.2[i]? = some e ∧ e.self = ⟨6, 0, 0, name⟩ ∧ i < (strct T name).2.2.length := by
  unfold strct at h ⊢
  split
  · rename_i hn; rw [if_pos hn] at h; simp at h
  · rename_i hn; rw [if_neg hn] at h; exact num_at h
theorem good_define {T : Tab} {name : List UInt8} {l : List Fl} (h : Good T) (hn : name.length ≤ 100) : Good (define T name l).2 := by
  unfold define
  have h1 := good_strct h hn
  have h2 := @strct_at T name
  rcases hs : strct T name with ⟨n, er, T1⟩
  rw [hs] at h1 h2
  simp only at h1 h2 ⊢
  split
  · exact h1
  · rename_i he
    obtain ⟨i, rfl, e, hi, hk, _⟩ := h2 (by omega)
    split
    · exact h1
    · split
      · exact h1
      · rename_i r hr
        exact good_setF h1 (lay_size hr) (fun e' he' => by
          simp at he'
          rw [hi] at he'
          cases he'
          rw [hk])
end Go.Proofs.YtemnlkgjgalipaaDoor.Tp
