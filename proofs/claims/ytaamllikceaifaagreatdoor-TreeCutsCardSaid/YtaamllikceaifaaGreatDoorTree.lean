/-
  The tree of a list of tokens, on lists: plain functions, of no program. Of the grammar only what some sources need: none where anything else comes.
-/
import Derived.Test.YtaamllikceaifaaGreatDoorSpec
namespace Go.Proofs.YtaamllikceaifaaGreatDoor.Tr
open Sp

/-- A type. -/
structure Ty where
  kind : Int
  elem : Int
  n : Int
  name : List UInt8
theorem Ty.ext_iff' (a b : Ty) : (a.kind = b.kind ∧ a.elem = b.elem ∧ a.n = b.n ∧ a.name = b.name) ↔ a = b := by
  cases a; cases b; simp
instance : DecidableEq Ty := fun a b => decidable_of_iff _ (Ty.ext_iff' a b)
/-- A node. -/
structure Nd where
  kind : Int
  a : Int
  b : Int
  c : Int
  d : Int
  text : List UInt8
  n : Int
  ty : Int
  pos : Int
/-- The tokens, without the end; and what stands behind them. -/
structure PE where
  toks : List Tok
  fin : Tok
/-- How far they are read. -/
structure S where
  read : Nat
  depth : Nat
  nodes : List Nd
  types : List Ty

abbrev wStruct : List UInt8 := [115, 116, 114, 117, 99, 116]
abbrev wVoid : List UInt8 := [118, 111, 105, 100]
abbrev wInt : List UInt8 := [105, 110, 116]
abbrev wUnsigned : List UInt8 := [117, 110, 115, 105, 103, 110, 101, 100]
abbrev wChar : List UInt8 := [99, 104, 97, 114]
abbrev wReturn : List UInt8 := [114, 101, 116, 117, 114, 110]
abbrev wSizeof : List UInt8 := [115, 105, 122, 101, 111, 102]
def namesL : List (List UInt8) := [wVoid, wInt, wUnsigned, wChar]

def ahd (E : PE) (s : S) (k : Nat) : Tok := E.toks.getD (s.read + k) E.fin
def nowT (E : PE) (s : S) : Tok := ahd E s 0
def sameT (t : Tok) (x : List UInt8) : Bool := t.text == x && (if isWord x then t.k == 2 else t.k == 4)
def isT (E : PE) (s : S) (x : List UInt8) : Bool := sameT (nowT E s) x
def big : Nat := 1099511627776
def takeT (s : S) : Option S := if s.depth ≤ 100 ∧ s.read < big then some { s with read := s.read + 1 } else none
def needT (E : PE) (x : List UInt8) (s : S) : Option S := if isT E s x then takeT s else none
def tookT (E : PE) (x : List UInt8) (s : S) : Option (Bool × S) := if isT E s x then (takeT s).map (fun s' => (true, s')) else some (false, s)
def kindT (E : PE) (k : Int) (s : S) : Option (Tok × S) := if (nowT E s).k = k then (takeT s).map (fun s' => (nowT E s, s')) else none
def sgn (E : PE) (s : S) : List UInt8 := if (nowT E s).k = 4 then (nowT E s).text else []
def addT (n : Nd) (s : S) : Option (Int × S) := if s.nodes.length < 8192 then some (s.nodes.length, { s with nodes := s.nodes ++ [n] }) else none
def nodeAt (E : PE) (s : S) (k : Int) : Nd := ⟨k, -1, -1, -1, -1, [], 0, 0, (nowT E s).pos⟩
def deep (m : S → Option (Int × S)) (s : S) : Option (Int × S) :=
  if s.depth < big then (m { s with depth := s.depth + 1 }).bind fun r => if r.2.depth = s.depth + 1 then some (r.1, { r.2 with depth := s.depth }) else none else none
/-- A list, of its items, the last one first. -/
def listR : List Int → Int → S → Option (Int × S)
  | [], rest, s => some (rest, s)
  | x :: xs, rest, s => if x < 0 then none else match s.nodes[x.toNat]? with
    | none => none
    | some nd => (addT ⟨20, x, rest, -1, -1, [], 0, 0, nd.pos⟩ s).bind fun r => listR xs r.1 r.2
def listOf (xs : List Int) (s : S) : Option (Int × S) := listR xs.reverse (-1) s

/-! ### Types -/
def findT : List Ty → Ty → Option Nat
  | [], _ => none
  | e :: T, x => if e = x then some 0 else (findT T x).map (· + 1)
def numbered (t : Ty) (s : S) : Option (Int × S) :=
  match findT s.types t with
  | some i => some (i, s)
  | none => if s.types.length < 256 then some (s.types.length, { s with types := s.types ++ [t] }) else none
def plainF (E : PE) (s : S) : Option (Int × S) :=
  if isT E s wVoid then (takeT s).map (fun s' => ((0 : Int), s'))
  else if isT E s wInt then (takeT s).map (fun s' => ((1 : Int), s'))
  else if isT E s wUnsigned then (takeT s).map (fun s' => ((2 : Int), s'))
  else if isT E s wChar then (takeT s).map (fun s' => ((3 : Int), s'))
  else (needT E wStruct s).bind fun s1 => (kindT E 1 s1).bind fun r => numbered ⟨6, 0, 0, r.1.text⟩ r.2
def starsF : Nat → PE → Int → S → Option (Int × S)
  | 0, _, _, _ => none
  | f + 1, E, t, s => if isT E s [42] then (takeT s).bind fun s1 => (numbered ⟨4, t, 0, []⟩ s1).bind fun r => starsF f E r.1 r.2 else some (t, s)
def typedF (f : Nat) (E : PE) (s : S) : Option (Int × S) := (plainF E s).bind fun r => starsF f E r.1 r.2
def countedF (E : PE) (t : Int) (s : S) : Option (Int × S) :=
  if isT E s [91] then (takeT s).bind fun s1 => (kindT E 3 s1).bind fun r => (needT E [93] r.2).bind fun s3 => numbered ⟨5, t, r.1.n, []⟩ s3 else some (t, s)

/-! ### Expressions -/
def strength (o : List UInt8) : Int :=
  if o = [124, 124] then 2 else if o = [38, 38] then 3 else if o = [124] then 4 else if o = [94] then 5 else if o = [38] then 6
  else if o = [61, 61] ∨ o = [33, 61] then 7 else if o = [60] ∨ o = [60, 61] ∨ o = [62] ∨ o = [62, 61] then 8
  else if o = [60, 60] ∨ o = [62, 62] then 9 else if o = [43] ∨ o = [45] then 10 else if o = [42] ∨ o = [47] ∨ o = [37] then 11 else 0
def assignsL : List (List UInt8) := [[61], [43, 61], [45, 61], [42, 61], [47, 61], [37, 61], [38, 61], [124, 61], [94, 61], [60, 60, 61], [62, 62, 61]]
/-- Signs that stand ahd of an expression, but for a bracket. -/
def fronts : List (List UInt8) := [[45], [33], [126], [42], [38], [43, 43], [45, 45]]
/-- Signs that stand behind one. -/
def behinds : List (List UInt8) := [[91], [46], [45, 62], [43, 43], [45, 45]]
inductive NT where
  | ex
  | ch
  | bi (least : Int)
  | pr
def exF (rec : NT → S → Option (Int × S)) (E : PE) (s : S) : Option (Int × S) :=
  (rec .ch s).bind fun r => if assignsL.contains (sgn E r.2) then none else some r
def chF (rec : NT → S → Option (Int × S)) (E : PE) (s : S) : Option (Int × S) :=
  (rec (.bi 2) s).bind fun r => if isT E r.2 [63] then none else some r
def biL : Nat → (NT → S → Option (Int × S)) → PE → Int → Int → S → Option (Int × S)
  | 0, _, _, _, _, _ => none
  | f + 1, rec, E, least, left, s =>
    if strength (sgn E s) < least then some (left, s)
    else (takeT s).bind fun s1 => (rec (.bi (strength (sgn E s) + 1)) s1).bind fun r =>
      (addT { nodeAt E s 4 with text := (nowT E s).text, a := left, b := r.1 } r.2).bind fun q => biL f rec E least q.1 q.2
def biF (f : Nat) (rec : NT → S → Option (Int × S)) (E : PE) (least : Int) (s : S) : Option (Int × S) := (rec .pr s).bind fun r => biL f rec E least r.1 r.2
def bracketF (rec : NT → S → Option (Int × S)) (E : PE) (s : S) : Option (Int × S) :=
  (needT E [40] s).bind fun s1 => (deep (rec .ex) s1).bind fun r => (needT E [41] r.2).bind fun s3 => some (r.1, s3)
def primF (rec : NT → S → Option (Int × S)) (E : PE) (s : S) : Option (Int × S) :=
  if isT E s [40] then bracketF rec E s
  else (kindT E 3 s).bind fun r => addT { nodeAt E s 1 with n := r.1.n } r.2
def postF (rec : NT → S → Option (Int × S)) (E : PE) (s : S) : Option (Int × S) :=
  (primF rec E s).bind fun r => if behinds.contains (sgn E r.2) then none else some r
def prF (rec : NT → S → Option (Int × S)) (E : PE) (s : S) : Option (Int × S) :=
  if isT E s wSizeof then none else if fronts.contains (sgn E s) then none else if sgn E s = [40] ∧ (ahd E s 1).k = 2 then none else postF rec E s
def go : Nat → PE → NT → S → Option (Int × S)
  | 0, _, _, _ => none
  | f + 1, E, .ex, s => exF (go f E) E s
  | f + 1, E, .ch, s => chF (go f E) E s
  | f + 1, E, .bi l, s => biF f (go f E) E l s
  | f + 1, E, .pr, s => prF (go f E) E s

/-! ### Statements -/
/-- The words that begin a statement of another kind. -/
def stWords : List (List UInt8) := [[105, 102], [119, 104, 105, 108, 101], [102, 111, 114], [115, 119, 105, 116, 99, 104], [99, 97, 115, 101], [100, 101, 102, 97, 117, 108, 116]]
def siWords : List (List UInt8) := [[100, 111], [98, 114, 101, 97, 107], [99, 111, 110, 116, 105, 110, 117, 101]]
def simpF (f : Nat) (E : PE) (n : Nd) (s : S) : Option (Nd × S) :=
  if isT E s [59] then some ({ n with kind := 44 }, s)
  else if siWords.any (isT E s) then none
  else (needT E wReturn s).bind fun s1 => if isT E s1 [59] then none else (deep (go f E .ex) s1).bind fun r => some ({ n with kind := 37, a := r.1 }, r.2)
def stF (f : Nat) (E : PE) (s : S) : Option (Int × S) :=
  if isT E s [123] then none else if stWords.any (isT E s) then none
  else if (nowT E s).k = 1 then none
  else (simpF f E (nodeAt E s 30) s).bind fun r => (needT E [59] r.2).bind fun s2 => addT r.1 s2
def stsF : Nat → (S → Option (Int × S)) → PE → S → Option (List Int × S)
  | 0, _, _, _ => none
  | k + 1, m, E, s => if isT E s [125] then some ([], s) else (deep m s).bind fun r => (stsF k m E r.2).bind fun q => some (r.1 :: q.1, q.2)
def blockF (f : Nat) (E : PE) (s : S) : Option (Int × S) :=
  (needT E [123] s).bind fun s1 => (stsF f (stF f E) E s1).bind fun r => (listOf r.1 r.2).bind fun q => (needT E [125] q.2).bind fun s4 => addT { nodeAt E s 43 with a := q.1 } s4

/-! ### Wholes -/
def wholeF (f : Nat) (E : PE) (s : S) : Option (Int × S) :=
  if isT E s wStruct ∧ (ahd E s 1).k = 1 ∧ sameT (ahd E s 2) [123] = true then none
  else (typedF f E s).bind fun r => (kindT E 1 r.2).bind fun q =>
    if isT E q.2 [40] then (takeT q.2).bind fun s3 => if isT E s3 [41] then (takeT s3).bind fun s4 => (blockF f E s4).bind fun z =>
        addT { nodeAt E s 50 with ty := r.1, text := q.1.text, b := z.1 } z.2 else none
    else (countedF E r.1 q.2).bind fun z => if isT E z.2 [61] then none else (needT E [59] z.2).bind fun s4 => addT { nodeAt E s 52 with ty := z.1, text := q.1.text } s4
def wholesF : Nat → (S → Option (Int × S)) → PE → S → Option (List Int × S)
  | 0, _, _, _ => none
  | k + 1, m, E, s => if s.read < E.toks.length then (m s).bind fun r => (wholesF k m E r.2).bind fun q => some (r.1 :: q.1, q.2) else some ([], s)

/-- A tree. -/
structure Tree where
  nodes : List Nd
  types : List Ty
  top : Int
def start0 : S := ⟨0, 0, [], [⟨0, 0, 0, []⟩, ⟨1, 0, 0, []⟩, ⟨2, 0, 0, []⟩, ⟨3, 0, 0, []⟩]⟩
def parseT (f : Nat) (E : PE) : Option Tree := (wholesF f (wholeF f E) E start0).bind fun r => (listOf r.1 r.2).bind fun q => some ⟨q.2.nodes, q.2.types, q.1⟩
def envOf (l : List Tok) : Option PE := match l.getLast? with
  | none => none
  | some t => if t.k = 0 then some ⟨l.dropLast, t⟩ else none
def readT (f : Nat) (src : List UInt8) : Option Tree := match scan src with
  | .ok l => (envOf l).bind (parseT f)
  | .error _ => none
end Go.Proofs.YtaamllikceaifaaGreatDoor.Tr
