/-
  Layer 7's units on lists: plain functions, of no program.
-/
namespace Go.Proofs.Ytgnpbodhjmappaa.Cd

/-- An instruction. -/
structure Ins where
  kind : Int
  op : Int
  dst : Int
  a : Int
  b : Int
  n : Int
  text : List UInt8
  x0 : Int
  x1 : Int
  x2 : Int
  x3 : Int
  x4 : Int
  x5 : Int
  dest : Int
  els : Int
theorem Ins.ext_iff' (i o : Ins) : (i.kind = o.kind ∧ i.op = o.op ∧ i.dst = o.dst ∧ i.a = o.a ∧ i.b = o.b ∧ i.n = o.n ∧ i.text = o.text ∧ i.x0 = o.x0 ∧ i.x1 = o.x1 ∧ i.x2 = o.x2 ∧ i.x3 = o.x3 ∧ i.x4 = o.x4 ∧ i.x5 = o.x5 ∧ i.dest = o.dest ∧ i.els = o.els) ↔ i = o := by
  cases i; cases o; simp
instance : DecidableEq Ins := fun a b => decidable_of_iff _ (Ins.ext_iff' a b)
def Ins.args (i : Ins) : List Int := [i.x0, i.x1, i.x2, i.x3, i.x4, i.x5]
theorem Ins.args_length (i : Ins) : i.args.length = 6 := rfl
/-- A function; a global; a unit. -/
structure Fnc where
  name : List UInt8
  params : Int
  regs : Int
  frame : Int
  code : List Ins
theorem Fnc.ext_iff' (f g : Fnc) : (f.name = g.name ∧ f.params = g.params ∧ f.regs = g.regs ∧ f.frame = g.frame ∧ f.code = g.code) ↔ f = g := by
  cases f; cases g; simp
instance : DecidableEq Fnc := fun a b => decidable_of_iff _ (Fnc.ext_iff' a b)
structure Glo where
  name : List UInt8
  pos : Int
  size : Int
  init : Int
structure Uni where
  funcs : List Fnc
  globals : List Glo
  top : Int

def readsA (k : Int) : Bool := k == 2 || k == 3 || k == 4 || k == 6 || k == 7 || k == 10 || k == 12 || k == 13
def readsB (k : Int) : Bool := k == 3 || k == 7
/-- What an instruction reads. -/
def uses (i : Ins) : List Int := (if readsA i.kind then [i.a] else []) ++ (if readsB i.kind then [i.b] else []) ++ (if i.kind = 8 then i.args.take i.n.toNat else [])
/-- What it sets; -1: nothing. -/
def sets (i : Ins) : Int := if (1 ≤ i.kind ∧ i.kind ≤ 6) ∨ i.kind = 8 ∨ i.kind = 9 then i.dst else -1
/-- Where it goes on. -/
def next (i : Ins) (at_ : Int) : List Int := if i.kind = 11 then [i.dest] else if i.kind = 12 then [i.dest, i.els] else if i.kind = 13 then [] else [at_ + 1]
def isW (n : Int) : Bool := decide (-2147483648 ≤ n ∧ n ≤ 2147483647)
def ifI (c : Prop) [Decidable c] (x y : Int) : Int := if c then x else y
/-- An instruction with what its kind has, and nothing else. -/
def plainOf (i : Ins) : Ins where
  kind := i.kind
  op := ifI (i.kind = 2 ∨ i.kind = 3) i.op 0
  dst := ifI (i.kind ≤ 9 ∧ i.kind ≠ 7) i.dst (-1)
  a := ifI (readsA i.kind = true) i.a 0
  b := ifI (readsB i.kind = true) i.b 0
  n := ifI (i.kind = 1 ∨ i.kind = 5 ∨ i.kind = 8) i.n 0
  text := if i.kind = 8 then i.text else []
  x0 := ifI (i.kind = 8 ∧ 0 < i.n) i.x0 0
  x1 := ifI (i.kind = 8 ∧ 1 < i.n) i.x1 0
  x2 := ifI (i.kind = 8 ∧ 2 < i.n) i.x2 0
  x3 := ifI (i.kind = 8 ∧ 3 < i.n) i.x3 0
  x4 := ifI (i.kind = 8 ∧ 4 < i.n) i.x4 0
  x5 := ifI (i.kind = 8 ∧ 5 < i.n) i.x5 0
  dest := ifI (i.kind = 11 ∨ i.kind = 12) i.dest 0
  els := ifI (i.kind = 12) i.els (-1)
def regOk (regs r : Int) : Bool := decide (0 ≤ r) && decide (r < regs)
def dstOk (i : Ins) (regs : Int) : Bool := if i.kind = 8 then decide (-1 ≤ i.dst) && decide (i.dst < regs) else if i.kind ≤ 9 ∧ i.kind ≠ 7 then regOk regs i.dst else true
def nOk (i : Ins) (frame : Int) : Bool := if i.kind = 1 then isW i.n else if i.kind = 5 then decide (0 ≤ i.n) && decide (i.n ≤ frame) else if i.kind = 8 then decide (0 ≤ i.n) && decide (i.n ≤ 6) && decide (i.text ≠ []) else true
def opOk (i : Ins) : Bool := if i.kind = 2 then decide (20 ≤ i.op) && decide (i.op ≤ 23) else if i.kind = 3 then decide (1 ≤ i.op) && decide (i.op ≤ 19) else true
def toOk (i : Ins) (len : Int) : Bool := if i.kind = 11 then regOk len i.dest else if i.kind = 12 then regOk len i.dest && regOk len i.els else true
/-- May an instruction be? -/
def rightI (i : Ins) (regs frame len : Int) : Bool :=
  decide (1 ≤ i.kind) && decide (i.kind ≤ 13) && (uses i).all (regOk regs) && dstOk i regs && nOk i frame && opOk i && toOk i len && decide (i = plainOf i)
def headOk (f : Fnc) : Bool :=
  decide (f.name ≠ []) && decide (0 ≤ f.params) && decide (f.params ≤ 6) && decide (f.params ≤ f.regs) && decide (f.regs ≤ 4096) && decide (0 ≤ f.frame) && decide (f.frame ≤ 4096) && decide (0 < f.code.length) && decide (f.code.length ≤ 8192)
def lastKind (l : List Ins) : Int := match l.getLast? with | some i => i.kind | none => 0
/-- May a function be? -/
def rightF (f : Fnc) : Bool := headOk f && f.code.all (fun i => rightI i f.regs f.frame f.code.length) && decide (11 ≤ lastKind f.code)
/-- The place of the first function of a name. -/
def findN : List Fnc → List UInt8 → Option Nat
  | [], _ => none
  | f :: fs, s => if f.name = s then some 0 else (findN fs s).map (· + 1)
def findI (fs : List Fnc) (s : List UInt8) : Int := match findN fs s with | some k => k | none => -1
def globOk (top : Int) (g : Glo) : Bool := decide (1 ≤ g.pos) && decide (0 ≤ g.size) && decide (g.pos ≤ top) && decide (g.size ≤ top) && decide (g.pos + g.size ≤ top) && isW g.init
def callOk (fs : List Fnc) (i : Ins) : Bool := if i.kind = 8 then (match findN fs i.text with | some k => (match fs[k]? with | some g => decide (g.params = i.n) | none => false) | none => false) else true
def funcOk (fs : List Fnc) (k : Nat) (f : Fnc) : Bool := rightF f && decide (findN fs f.name = some k) && f.code.all (callOk fs)
def funcsOk (fs : List Fnc) : Nat → List Fnc → Bool
  | _, [] => true
  | k, f :: l => funcOk fs k f && funcsOk fs (k + 1) l
/-- May a unit be? -/
def rightU (u : Uni) : Bool := decide (u.funcs.length ≤ 64) && decide (1 ≤ u.top) && decide (u.top ≤ 4096) && u.globals.all (globOk u.top) && funcsOk u.funcs 0 u.funcs
end Go.Proofs.Ytgnpbodhjmappaa.Cd
