/-
  The whole grammar of the document, on lists, with its errors: plain functions, of no program.
-/
import Derived.Test.YtaamllikceaifaaGreatDoorTree
namespace Go.Proofs.YtaamllikceaifaaGreatDoor.Tr
open Sp

/-- What came of reading: an answer and where it stands; an error, and where; or the fuel was too little. -/
inductive Res (α : Type) where
  | ok (a : α) (s : S)
  | bad (e : Int) (s : S)
  | out
def Res.bind {α β : Type} (r : Res α) (k : α → S → Res β) : Res β := match r with
  | .ok a s => k a s
  | .bad e s => .bad e s
  | .out => .out
theorem Res.bind_ok {α β : Type} (a : α) (s : S) (k : α → S → Res β) : (Res.ok a s).bind k = k a s := rfl
theorem Res.bind_bad {α β : Type} (e : Int) (s : S) (k : α → S → Res β) : (Res.bad e s : Res α).bind k = .bad e s := rfl
theorem Res.bind_ne {α β : Type} {r : Res α} {k : α → S → Res β} (h : r.bind k ≠ .out) : r ≠ .out := by rintro rfl; exact h rfl

abbrev wIf : List UInt8 := [105, 102]
abbrev wElse : List UInt8 := [101, 108, 115, 101]
abbrev wWhile : List UInt8 := [119, 104, 105, 108, 101]
abbrev wFor : List UInt8 := [102, 111, 114]
abbrev wSwitch : List UInt8 := [115, 119, 105, 116, 99, 104]
abbrev wCase : List UInt8 := [99, 97, 115, 101]
abbrev wDefault : List UInt8 := [100, 101, 102, 97, 117, 108, 116]
abbrev wDo : List UInt8 := [100, 111]
abbrev wBreak : List UInt8 := [98, 114, 101, 97, 107]
abbrev wContinue : List UInt8 := [99, 111, 110, 116, 105, 110, 117, 101]
abbrev wGoto : List UInt8 := [103, 111, 116, 111]
abbrev wGetc : List UInt8 := [103, 101, 116, 99]
abbrev wPutc : List UInt8 := [112, 117, 116, 99]

/-- Where the next token stands. -/
def here (E : PE) (s : S) : Int := (nowT E s).pos

/-! ### Tokens -/
def takeM (E : PE) (s : S) : Res Tok := if 100 < s.depth then .bad 6 s else if s.read < big then .ok (nowT E s) { s with read := s.read + 1 } else .out
def tookM (E : PE) (x : List UInt8) (s : S) : Res Bool := if isT E s x then (takeM E s).bind fun _ s1 => .ok true s1 else .ok false s
def needM (E : PE) (x : List UInt8) (s : S) : Res Unit := (tookM E x s).bind fun b s1 => if b then .ok () s1 else .bad 5 s1
def kindM (E : PE) (k : Int) (s : S) : Res Tok := if (nowT E s).k = k then takeM E s else .bad 5 s
def nameM (E : PE) (s : S) : Res (List UInt8) := (kindM E 1 s).bind fun t s1 => .ok t.text s1
def numberM (E : PE) (s : S) : Res Int := (kindM E 3 s).bind fun t s1 => .ok t.n s1
def signedM (E : PE) (s : S) : Res Int := (tookM E [45] s).bind fun b s1 => if b then (numberM E s1).bind fun n s2 => .ok (-n) s2 else numberM E s1
def addM (n : Nd) (s : S) : Res Int := if s.nodes.length < 8192 then .ok s.nodes.length { s with nodes := s.nodes ++ [n] } else .bad 4 s
def deepM (m : S → Res Int) (s : S) : Res Int :=
  if s.depth < big then match m { s with depth := s.depth + 1 } with
    | .ok a s1 => if s1.depth = s.depth + 1 then .ok a { s1 with depth := s.depth } else .out
    | .bad e s1 => if s1.depth = s.depth + 1 then .bad e { s1 with depth := s.depth } else .out
    | .out => .out
  else .out
/-- A list, of its items, the last one first. -/
def listRM : List Int → Int → S → Res Int
  | [], rest, s => .ok rest s
  | x :: xs, rest, s => if x < 0 then .out else match s.nodes[x.toNat]? with
    | none => .out
    | some nd => (addM ⟨20, x, rest, -1, -1, [], 0, 0, nd.pos⟩ s).bind fun r s1 => listRM xs r s1
def listM (xs : List Int) (s : S) : Res Int := listRM xs.reverse (-1) s

/-! ### Types -/
def numberedM (t : Ty) (s : S) : Res Int :=
  match findT s.types t with
  | some i => .ok i s
  | none => if s.types.length < 256 then .ok s.types.length { s with types := s.types ++ [t] } else .bad 4 s
abbrev structM (E : PE) (s : S) : Res Int := (needM E wStruct s).bind fun _ s1 => (nameM E s1).bind fun x s2 => numberedM ⟨6, 0, 0, x⟩ s2
def plainM (E : PE) (s : S) : Res Int :=
  (tookM E wVoid s).bind fun b s1 => if b then .ok 0 s1 else
  (tookM E wInt s1).bind fun b s2 => if b then .ok 1 s2 else
  (tookM E wUnsigned s2).bind fun b s3 => if b then .ok 2 s3 else
  (tookM E wChar s3).bind fun b s4 => if b then .ok 3 s4 else structM E s4
def starsM : Nat → PE → Int → S → Res Int
  | 0, _, _, _ => .out
  | f + 1, E, t, s => (tookM E [42] s).bind fun b s1 => if b then (numberedM ⟨4, t, 0, []⟩ s1).bind fun r s2 => starsM f E r s2 else .ok t s1
def typedM (f : Nat) (E : PE) (s : S) : Res Int := (plainM E s).bind fun r s1 => starsM f E r s1
def countedM (E : PE) (t : Int) (s : S) : Res Int :=
  (tookM E [91] s).bind fun b s1 => if b then (numberM E s1).bind fun n s2 => (needM E [93] s2).bind fun _ s3 => numberedM ⟨5, t, n, []⟩ s3 else .ok t s1
def beginsT (t : Tok) : Bool := t.k == 2 && (t.text == wStruct || namesL.contains t.text)

/-! ### Lists -/
def stsM : Nat → (S → Res Int) → PE → S → Res (List Int)
  | 0, _, _, _ => .out
  | k + 1, m, E, s => if isT E s [125] then .ok [] s else (deepM m s).bind fun x s1 => (stsM k m E s1).bind fun xs s2 => .ok (x :: xs) s2
def wholesM : Nat → (S → Res Int) → PE → S → Res (List Int)
  | 0, _, _, _ => .out
  | k + 1, m, E, s => if s.read < E.toks.length then (m s).bind fun x s1 => (wholesM k m E s1).bind fun xs s2 => .ok (x :: xs) s2 else .ok [] s
def fieldsM : Nat → (S → Res Int) → PE → S → Res (List Int)
  | 0, _, _, _ => .out
  | k + 1, m, E, s => (m s).bind fun x s1 => if isT E s1 [125] then .ok [x] s1 else (fieldsM k m E s1).bind fun xs s2 => .ok (x :: xs) s2
/-- A list whose items stand between commas; more: may one more come? -/
def commasM : Nat → Bool → (S → Res Int) → PE → S → Res (List Int)
  | 0, _, _, _, _ => .out
  | k + 1, more, m, E, s => if more then (m s).bind fun x s1 => (tookM E [44] s1).bind fun b s2 => (commasM k b m E s2).bind fun xs s3 => .ok (x :: xs) s3 else .ok [] s

/-! ### Expressions and statements -/
inductive NTm where
  | ex
  | ch
  | bi (least : Int)
  | pr
  | st
section
variable (f : Nat) (rec : NTm → S → Res Int) (E : PE)
def exM (s : S) : Res Int :=
  (rec .ch s).bind fun l s1 => if assignsL.contains (sgn E s1) then
    (takeM E s1).bind fun t s2 => (deepM (rec .ex) s2).bind fun r s3 => addM ⟨5, l, r, -1, -1, t.text, 0, 0, here E s1⟩ s3
  else .ok l s1
def chM (s : S) : Res Int :=
  (rec (.bi 2) s).bind fun l s1 => if isT E s1 [63] then
    (takeM E s1).bind fun _ s2 => (deepM (rec .ex) s2).bind fun r s3 => (needM E [58] s3).bind fun _ s4 => (deepM (rec .ch) s4).bind fun q s5 =>
      addM ⟨6, l, r, q, -1, [], 0, 0, here E s1⟩ s5
  else .ok l s1
def biML : Nat → Int → Int → S → Res Int
  | 0, _, _, _ => .out
  | g + 1, least, left, s =>
    if strength (sgn E s) < least then .ok left s
    else (takeM E s).bind fun t s1 => (rec (.bi (strength (sgn E s) + 1)) s1).bind fun r s2 =>
      (addM ⟨4, left, r, -1, -1, t.text, 0, 0, here E s⟩ s2).bind fun q s3 => biML g least q s3
def biM (least : Int) (s : S) : Res Int := (rec .pr s).bind fun l s1 => biML rec E f least l s1
def bracketM (s : S) : Res Int :=
  (needM E [40] s).bind fun _ s1 => (deepM (rec .ex) s1).bind fun r s2 => (needM E [41] s2).bind fun _ s3 => .ok r s3
def primM (s : S) : Res Int :=
  if isT E s [40] then bracketM rec E s
  else if (nowT E s).k = 3 then (numberM E s).bind fun n s1 => addM ⟨1, -1, -1, -1, -1, [], n, 0, here E s⟩ s1
  else (tookM E wGetc s).bind fun b s1 => if b then (needM E [40] s1).bind fun _ s2 => (needM E [41] s2).bind fun _ s3 => addM ⟨14, -1, -1, -1, -1, [], 0, 0, here E s⟩ s3
  else (tookM E wPutc s1).bind fun b s2 => if b then (bracketM rec E s2).bind fun r s3 => addM ⟨15, r, -1, -1, -1, [], 0, 0, here E s⟩ s3
  else (nameM E s2).bind fun x s3 => (tookM E [40] s3).bind fun b s4 => if b then
      ((commasM f (!isT E s4 [41]) (deepM (rec .ex)) E s4).bind listM).bind fun q s6 => (needM E [41] s6).bind fun _ s7 => addM ⟨9, q, -1, -1, -1, x, 0, 0, here E s⟩ s7
    else addM ⟨2, -1, -1, -1, -1, x, 0, 0, here E s⟩ s4
def postML : Nat → Int → S → Res Int
  | 0, _, _ => .out
  | g + 1, left, s =>
    if sgn E s = [91] then (takeM E s).bind fun _ s1 => (deepM (rec .ex) s1).bind fun r s2 => (needM E [93] s2).bind fun _ s3 => (addM ⟨7, left, r, -1, -1, [], 0, 0, here E s⟩ s3).bind fun q s4 => postML g q s4
    else if sgn E s = [46] then (takeM E s).bind fun _ s1 => (nameM E s1).bind fun x s2 => (addM ⟨8, left, -1, -1, -1, x, 0, 0, here E s⟩ s2).bind fun q s3 => postML g q s3
    else if sgn E s = [45, 62] then (takeM E s).bind fun _ s1 => (nameM E s1).bind fun x s2 => (addM ⟨8, left, -1, -1, -1, x, 1, 0, here E s⟩ s2).bind fun q s3 => postML g q s3
    else if sgn E s = [43, 43] ∨ sgn E s = [45, 45] then (takeM E s).bind fun t s1 => (addM ⟨13, left, -1, -1, -1, t.text, 0, 0, here E s⟩ s1).bind fun q s2 => postML g q s2
    else .ok left s
def postM (s : S) : Res Int := (primM f rec E s).bind fun l s1 => postML rec E f l s1
def sizeM (s : S) : Res Int :=
  (needM E wSizeof s).bind fun _ s1 => (needM E [40] s1).bind fun _ s2 => (typedM f E s2).bind fun t s3 => (countedM E t s3).bind fun q s4 => (needM E [41] s4).bind fun _ s5 =>
    addM ⟨11, -1, -1, -1, -1, [], 0, q, here E s⟩ s5
abbrev tailM (n : Nd) (s : S) : Res Int := (deepM (rec .pr) s).bind fun r s1 => addM { n with a := r } s1
def frontsA : List (List UInt8) := [[45], [33], [126], [42], [38]]
def prM (s : S) : Res Int :=
  if isT E s wSizeof then sizeM f E s
  else if frontsA.contains (sgn E s) then (takeM E s).bind fun t s1 => tailM rec ⟨3, -1, -1, -1, -1, t.text, 0, 0, here E s⟩ s1
  else if sgn E s = [43, 43] ∨ sgn E s = [45, 45] then (takeM E s).bind fun t s1 => tailM rec ⟨12, -1, -1, -1, -1, t.text, 0, 0, here E s⟩ s1
  else if sgn E s = [40] then
    if beginsT (ahd E s 1) then (takeM E s).bind fun _ s1 => (typedM f E s1).bind fun t s2 => (needM E [41] s2).bind fun _ s3 => tailM rec ⟨10, -1, -1, -1, -1, [], 0, t, here E s⟩ s3
    else postM f rec E s
  else postM f rec E s

def blockM (s : S) : Res Int :=
  (needM E [123] s).bind fun _ s1 => ((stsM f (rec .st) E s1).bind listM).bind fun q s3 => (needM E [125] s3).bind fun _ s4 => addM ⟨43, q, -1, -1, -1, [], 0, 0, here E s⟩ s4
def unlessM (x : List UInt8) (s : S) : Res Int :=
  (tookM E x s).bind fun b s1 => if b then .ok (-1) s1 else (deepM (rec .ex) s1).bind fun r s2 => (needM E x s2).bind fun _ s3 => .ok r s3
def markedM (s : S) : Res Int := (needM E [58] s).bind fun _ s1 => deepM (rec .st) s1
def simpM (n : Nd) (s : S) : Res Nd :=
  if isT E s [59] then .ok { n with kind := 44 } s
  else (tookM E wDo s).bind fun b s1 => if b then (deepM (rec .st) s1).bind fun r s2 => (needM E wWhile s2).bind fun _ s3 => (bracketM rec E s3).bind fun q s4 => .ok { n with kind := 33, a := q, b := r } s4
  else (tookM E wBreak s1).bind fun b s2 => if b then .ok { n with kind := 35 } s2
  else (tookM E wContinue s2).bind fun b s3 => if b then .ok { n with kind := 36 } s3
  else (tookM E wReturn s3).bind fun b s4 => if b then if isT E s4 [59] then .ok { n with kind := 37 } s4 else (deepM (rec .ex) s4).bind fun r s5 => .ok { n with kind := 37, a := r } s5
  else (tookM E wGoto s4).bind fun b s5 => if b then (nameM E s5).bind fun x s6 => .ok { n with kind := 38, text := x } s6
  else if beginsT (nowT E s5) then (typedM f E s5).bind fun t s6 => (nameM E s6).bind fun x s7 => (countedM E t s7).bind fun q s8 => (tookM E [61] s8).bind fun b s9 =>
      if b then (deepM (rec .ex) s9).bind fun r s10 => .ok { n with kind := 45, ty := q, text := x, a := r } s10 else .ok { n with kind := 45, ty := q, text := x } s9
  else (deepM (rec .ex) s5).bind fun r s6 => .ok { n with a := r } s6
def stM (s : S) : Res Int :=
  if isT E s [123] then blockM f rec E s
  else (tookM E wIf s).bind fun b s1 => if b then (bracketM rec E s1).bind fun r s2 => (deepM (rec .st) s2).bind fun q s3 => (tookM E wElse s3).bind fun b s4 =>
      if b then (deepM (rec .st) s4).bind fun z s5 => addM ⟨31, r, q, z, -1, [], 0, 0, here E s⟩ s5 else addM ⟨31, r, q, -1, -1, [], 0, 0, here E s⟩ s4
  else (tookM E wWhile s1).bind fun b s2 => if b then (bracketM rec E s2).bind fun r s3 => (deepM (rec .st) s3).bind fun q s4 => addM ⟨32, r, q, -1, -1, [], 0, 0, here E s⟩ s4
  else (tookM E wFor s2).bind fun b s3 => if b then (needM E [40] s3).bind fun _ s4 => (unlessM rec E [59] s4).bind fun x s5 => (unlessM rec E [59] s5).bind fun y s6 => (unlessM rec E [41] s6).bind fun z s7 =>
      (deepM (rec .st) s7).bind fun q s8 => addM ⟨34, x, y, z, q, [], 0, 0, here E s⟩ s8
  else (tookM E wSwitch s3).bind fun b s4 => if b then (bracketM rec E s4).bind fun r s5 => (blockM f rec E s5).bind fun q s6 => addM ⟨40, r, q, -1, -1, [], 0, 0, here E s⟩ s6
  else (tookM E wCase s4).bind fun b s5 => if b then (signedM E s5).bind fun n s6 => (markedM rec E s6).bind fun q s7 => addM ⟨41, q, -1, -1, -1, [], n, 0, here E s⟩ s7
  else (tookM E wDefault s5).bind fun b s6 => if b then (markedM rec E s6).bind fun q s7 => addM ⟨42, q, -1, -1, -1, [], 0, 0, here E s⟩ s7
  else if (nowT E s6).k = 1 ∧ sameT (ahd E s6 1) [58] = true then (nameM E s6).bind fun x s7 => (markedM rec E s7).bind fun q s8 => addM ⟨39, q, -1, -1, -1, x, 0, 0, here E s⟩ s8
  else (simpM f rec E ⟨30, -1, -1, -1, -1, [], 0, 0, here E s⟩ s6).bind fun n s7 => (needM E [59] s7).bind fun _ s8 => addM n s8
end
def goM : Nat → PE → NTm → S → Res Int
  | 0, _, _, _ => .out
  | f + 1, E, .ex, s => exM (goM f E) E s
  | f + 1, E, .ch, s => chM (goM f E) E s
  | f + 1, E, .bi l, s => biM f (goM f E) E l s
  | f + 1, E, .pr, s => prM f (goM f E) E s
  | f + 1, E, .st, s => stM f (goM f E) E s

/-! ### Wholes -/
def fieldM (f : Nat) (E : PE) (s : S) : Res Int :=
  (typedM f E s).bind fun t s1 => (nameM E s1).bind fun x s2 => (countedM E t s2).bind fun q s3 => (needM E [59] s3).bind fun _ s4 => addM ⟨51, -1, -1, -1, -1, x, 0, q, here E s⟩ s4
def paramM (f : Nat) (E : PE) (s : S) : Res Int :=
  (typedM f E s).bind fun t s1 => (nameM E s1).bind fun x s2 => addM ⟨51, -1, -1, -1, -1, x, 0, t, here E s⟩ s2
def structureM (f : Nat) (E : PE) (s : S) : Res Int :=
  (needM E wStruct s).bind fun _ s1 => (nameM E s1).bind fun x s2 => (needM E [123] s2).bind fun _ s3 => ((fieldsM f (fieldM f E) E s3).bind listM).bind fun q s5 =>
    (needM E [125] s5).bind fun _ s6 => (needM E [59] s6).bind fun _ s7 => addM ⟨53, q, -1, -1, -1, x, 0, 0, here E s⟩ s7
def wholeM (f : Nat) (E : PE) (s : S) : Res Int :=
  if isT E s wStruct = true ∧ (ahd E s 1).k = 1 ∧ sameT (ahd E s 2) [123] = true then structureM f E s
  else (typedM f E s).bind fun t s1 => (nameM E s1).bind fun x s2 => (tookM E [40] s2).bind fun b s3 =>
    if b then ((commasM f (!isT E s3 [41]) (paramM f E) E s3).bind listM).bind fun q s5 => (needM E [41] s5).bind fun _ s6 => (blockM f (goM f E) E s6).bind fun z s7 =>
        addM ⟨50, q, z, -1, -1, x, 0, t, here E s⟩ s7
    else (countedM E t s3).bind fun q s4 => (tookM E [61] s4).bind fun b s5 =>
      if b then (signedM E s5).bind fun n s6 => (needM E [59] s6).bind fun _ s7 => addM ⟨52, -1, -1, -1, -1, x, n, q, here E s⟩ s7
      else (needM E [59] s5).bind fun _ s6 => addM ⟨52, -1, -1, -1, -1, x, 0, q, here E s⟩ s6
def programM (f : Nat) (E : PE) : Res Int := (wholesM f (wholeM f E) E start0).bind listM

/-- What Parse answers: a tree, or where and which error. -/
inductive Ans3 where
  | tree (T : Tree)
  | err (pos : Int) (e : Int)
def parseR (E : PE) (r : Res Int) : Ans3 := match r with
  | .ok q s => .tree ⟨s.nodes, s.types, q⟩
  | .bad e s => .err (nowT E s).pos e
  | .out => .err 0 0
end Go.Proofs.YtaamllikceaifaaGreatDoor.Tr
