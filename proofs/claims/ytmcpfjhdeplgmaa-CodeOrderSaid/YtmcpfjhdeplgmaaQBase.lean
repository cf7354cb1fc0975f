/-
  Layer 7's units on lists: plain functions, of no program.
  Rows of structs in memory, read only: what lies below a bound stays.
  What is come to in a function's code, on lists.
  A region that draws its order, whose last operation waits for all the others: what its loads read need not hold behind that one. Of no program.
  Plain facts on words of 32 bits: a wrapped number is a bit vector's number; sums, products and bits go through.
-/
import Derived.Test.YtmcpfjhdeplgmaaRows
import Derived.Deep.Light
import Derived.WalkMore
import Derived.ScopeJumps
import Derived.WalkKit
import Derived.WalkSpells
import Derived.WalkLawsBesides
import Derived.Lib.Hide
import Derived.Deep.AppendLies
import Derived.OwnWalk
import Derived.Deep.QuietTactic
import Derived.BigQuiet
import Derived.OrdersHeld
import Derived.Deep.RegionHeld
namespace Go.Proofs.Ytmcpfjhdeplgmaa.Cd

/-- An instruction. -/
structure Ins where
  kind : Int
  op : Int
  dst : Int
  a : Int
  b : Int
  n : Int
  text : List UInt8
  x0 : Int
  x1 : Int
  x2 : Int
  x3 : Int
  x4 : Int
  x5 : Int
  dest : Int
  els : Int
theorem Ins.ext_iff' (i o : Ins) : (i.kind = o.kind ∧ i.op = o.op ∧ i.dst = o.dst ∧ i.a = o.a ∧ i.b = o.b ∧ i.n = o.n ∧ i.text = o.text ∧ i.x0 = o.x0 ∧ i.x1 = o.x1 ∧ i.x2 = o.x2 ∧ i.x3 = o.x3 ∧ i.x4 = o.x4 ∧ i.x5 = o.x5 ∧ i.dest = o.dest ∧ i.els = o.els) ↔ i = o := by
  cases i; cases o; simp
instance : DecidableEq Ins := fun a b => decidable_of_iff _ (Ins.ext_iff' a b)
def Ins.args (i : Ins) : List Int := [i.x0, i.x1, i.x2, i.x3, i.x4, i.x5]
theorem Ins.args_length (i : Ins) : i.args.length = 6 := rfl
/-- A function; a global; a unit. -/
structure Fnc where
  name : List UInt8
  params : Int
  regs : Int
  frame : Int
  code : List Ins
theorem Fnc.ext_iff' (f g : Fnc) : (f.name = g.name ∧ f.params = g.params ∧ f.regs = g.regs ∧ f.frame = g.frame ∧ f.code = g.code) ↔ f = g := by
  cases f; cases g; simp
instance : DecidableEq Fnc := fun a b => decidable_of_iff _ (Fnc.ext_iff' a b)
structure Glo where
  name : List UInt8
  pos : Int
  size : Int
  init : Int
structure Uni where
  funcs : List Fnc
  globals : List Glo
  top : Int

def readsA (k : Int) : Bool := k == 2 || k == 3 || k == 4 || k == 6 || k == 7 || k == 10 || k == 12 || k == 13
def readsB (k : Int) : Bool := k == 3 || k == 7
/-- What an instruction reads. -/
def uses (i : Ins) : List Int := (if readsA i.kind then [i.a] else []) ++ (if readsB i.kind then [i.b] else []) ++ (if i.kind = 8 then i.args.take i.n.toNat else [])
/-- What it sets; -1: nothing. -/
def sets (i : Ins) : Int := if (1 ≤ i.kind ∧ i.kind ≤ 6) ∨ i.kind = 8 ∨ i.kind = 9 then i.dst else -1
/-- Where it goes on. -/
def next (i : Ins) (at_ : Int) : List Int := if i.kind = 11 then [i.dest] else if i.kind = 12 then [i.dest, i.els] else if i.kind = 13 then [] else [at_ + 1]
def isW (n : Int) : Bool := decide (-2147483648 ≤ n ∧ n ≤ 2147483647)
def ifI (c : Prop) [Decidable c] (x y : Int) : Int := if c then x else y
/-- An instruction with what its kind has, and nothing else. -/
def plainOf (i : Ins) : Ins where
  kind := i.kind
  op := ifI (i.kind = 2 ∨ i.kind = 3) i.op 0
  dst := ifI (i.kind ≤ 9 ∧ i.kind ≠ 7) i.dst (-1)
  a := ifI (readsA i.kind = true) i.a 0
  b := ifI (readsB i.kind = true) i.b 0
  n := ifI (i.kind = 1 ∨ i.kind = 5 ∨ i.kind = 8) i.n 0
  text := if i.kind = 8 then i.text else []
  x0 := ifI (i.kind = 8 ∧ 0 < i.n) i.x0 0
  x1 := ifI (i.kind = 8 ∧ 1 < i.n) i.x1 0
  x2 := ifI (i.kind = 8 ∧ 2 < i.n) i.x2 0
  x3 := ifI (i.kind = 8 ∧ 3 < i.n) i.x3 0
  x4 := ifI (i.kind = 8 ∧ 4 < i.n) i.x4 0
  x5 := ifI (i.kind = 8 ∧ 5 < i.n) i.x5 0
  dest := ifI (i.kind = 11 ∨ i.kind = 12) i.dest 0
  els := ifI (i.kind = 12) i.els (-1)
def regOk (regs r : Int) : Bool := decide (0 ≤ r) && decide (r < regs)
def dstOk (i : Ins) (regs : Int) : Bool := if i.kind = 8 then decide (-1 ≤ i.dst) && decide (i.dst < regs) else if i.kind ≤ 9 ∧ i.kind ≠ 7 then regOk regs i.dst else true
def nOk (i : Ins) (frame : Int) : Bool := if i.kind = 1 then isW i.n else if i.kind = 5 then decide (0 ≤ i.n) && decide (i.n ≤ frame) else if i.kind = 8 then decide (0 ≤ i.n) && decide (i.n ≤ 6) && decide (i.text ≠ []) else true
def opOk (i : Ins) : Bool := if i.kind = 2 then decide (20 ≤ i.op) && decide (i.op ≤ 23) else if i.kind = 3 then decide (1 ≤ i.op) && decide (i.op ≤ 19) else true
def toOk (i : Ins) (len : Int) : Bool := if i.kind = 11 then regOk len i.dest else if i.kind = 12 then regOk len i.dest && regOk len i.els else true
/-- May an instruction be? -/
def rightI (i : Ins) (regs frame len : Int) : Bool :=
  decide (1 ≤ i.kind) && decide (i.kind ≤ 13) && (uses i).all (regOk regs) && dstOk i regs && nOk i frame && opOk i && toOk i len && decide (i = plainOf i)
def headOk (f : Fnc) : Bool :=
  decide (f.name ≠ []) && decide (0 ≤ f.params) && decide (f.params ≤ 6) && decide (f.params ≤ f.regs) && decide (f.regs ≤ 4096) && decide (0 ≤ f.frame) && decide (f.frame ≤ 4096) && decide (0 < f.code.length) && decide (f.code.length ≤ 8192)
def lastKind (l : List Ins) : Int := match l.getLast? with | some i => i.kind | none => 0
/-- May a function be? -/
def rightF (f : Fnc) : Bool := headOk f && f.code.all (fun i => rightI i f.regs f.frame f.code.length) && decide (11 ≤ lastKind f.code)
/-- The place of the first function of a name. -/
def findN : List Fnc → List UInt8 → Option Nat
  | [], _ => none
  | f :: fs, s => if f.name = s then some 0 else (findN fs s).map (· + 1)
def findI (fs : List Fnc) (s : List UInt8) : Int := match findN fs s with | some k => k | none => -1
def globOk (top : Int) (g : Glo) : Bool := decide (1 ≤ g.pos) && decide (0 ≤ g.size) && decide (g.pos ≤ top) && decide (g.size ≤ top) && decide (g.pos + g.size ≤ top) && isW g.init
def callOk (fs : List Fnc) (i : Ins) : Bool := if i.kind = 8 then (match findN fs i.text with | some k => (match fs[k]? with | some g => decide (g.params = i.n) | none => false) | none => false) else true
def funcOk (fs : List Fnc) (k : Nat) (f : Fnc) : Bool := rightF f && decide (findN fs f.name = some k) && f.code.all (callOk fs)
def funcsOk (fs : List Fnc) : Nat → List Fnc → Bool
  | _, [] => true
  | k, f :: l => funcOk fs k f && funcsOk fs (k + 1) l
/-- May a unit be? -/
def rightU (u : Uni) : Bool := decide (u.funcs.length ≤ 64) && decide (1 ≤ u.top) && decide (u.top ≤ 4096) && u.globals.all (globOk u.top) && funcsOk u.funcs 0 u.funcs
end Go.Proofs.Ytmcpfjhdeplgmaa.Cd
namespace Go.Proofs.Ytmcpfjhdeplgmaa
open Go.RowKit Cd
set_option linter.unusedVariables false

abbrev Cd.sb (l : List UInt8) : ByteArray := ⟨l.toArray⟩
theorem Cd.sb_toList (l : List UInt8) : (sb l).data.toList = l := rfl
/-- These cells lie at an address, in a block below B. -/
def RowAt (w : World) (B : Nat) (a : Option Addr) (cs : List Value) : Prop :=
  0 < cs.length → ∃ b off, a = some ⟨b, off, none⟩ ∧ b < B ∧ B ≤ w.heap.size ∧ ∀ (j : Nat) (u : Value), cs[j]? = some u → w.cell? ⟨b, off + j, none⟩ = some u
theorem RowAt.nil (w : World) (B : Nat) (a : Option Addr) : RowAt w B a [] := fun h => absurd h (by simp)
theorem RowAt.below {w w' : World} {B : Nat} {a : Option Addr} {cs : List Value} (h : RowAt w B a cs) (hb : Below B w w') : RowAt w' B a cs := fun h0 => by
  obtain ⟨b, off, ha, hlt, hB, hc⟩ := h h0
  exact ⟨b, off, ha, hlt, Nat.le_trans hB hb.size, fun j u hu => by rw [hb.cell (p := ⟨b, off + j, none⟩) hlt]; exact hc j u hu⟩
theorem RowAt.mono {w : World} {B B' : Nat} {a : Option Addr} {cs : List Value} (h : RowAt w B a cs) (hB : B ≤ B') (hw : B' ≤ w.heap.size) : RowAt w B' a cs := fun h0 => by
  obtain ⟨b, off, ha, hlt, _, hc⟩ := h h0
  exact ⟨b, off, ha, by omega, hw, hc⟩
/-- The cells of one item of a row of items of k cells. -/
theorem flat_at {α : Type} {f : α → List Value} {k : Nat} (hk : ∀ x, (f x).length = k) : ∀ (l : List α) (i j : Nat) (x : α), l[i]? = some x → j < k → (l.flatMap f)[i * k + j]? = (f x)[j]?
  | [], i, j, x, h, _ => by simp at h
  | y :: l, 0, j, x, h, hj => by
    have : y = x := by simpa using h
    subst this
    rw [List.flatMap_cons, Nat.zero_mul, Nat.zero_add, List.getElem?_append_left (by rw [hk]; exact hj)]
  | y :: l, i + 1, j, x, h, hj => by
    rw [List.flatMap_cons, List.getElem?_append_right (by rw [hk, Nat.succ_mul]; omega), hk]
    have e : (i + 1) * k + j - k = i * k + j := by rw [Nat.succ_mul]; omega
    rw [e]
    exact flat_at hk l i j x (by simpa using h) hj
theorem flat_len {α : Type} {f : α → List Value} {k : Nat} (hk : ∀ x, (f x).length = k) : ∀ (l : List α), (l.flatMap f).length = l.length * k
  | [] => by simp
  | y :: l => by rw [List.flatMap_cons, List.length_append, hk, flat_len hk l, List.length_cons, Nat.succ_mul]; omega
/-- Item i's cell j. -/
theorem RowAt.item {α : Type} {f : α → List Value} {k : Nat} (hk : ∀ x, (f x).length = k) {w : World} {B : Nat} {a : Option Addr} {l : List α} (h : RowAt w B a (l.flatMap f)) {i : Nat} {x : α} (hi : l[i]? = some x) (hk0 : 0 < k) :
    ∃ b off, a = some ⟨b, off, none⟩ ∧ b < B ∧ B ≤ w.heap.size ∧ ∀ (j : Nat) (u : Value), (f x)[j]? = some u → w.cell? ⟨b, off + (i * k + j), none⟩ = some u := by
  have hlt : i < l.length := (List.getElem?_eq_some_iff.1 hi).1
  obtain ⟨b, off, ha, hb, hB, hc⟩ := h (by rw [flat_len hk]; exact Nat.mul_pos (by omega) hk0)
  refine ⟨b, off, ha, hb, hB, fun j u hu => hc _ u ?_⟩
  have hj : j < k := by rw [← hk x]; exact (List.getElem?_eq_some_iff.1 hu).1
  rw [flat_at hk l i j x hi hj, hu]
/-- Where a row that is not empty lies. -/
theorem RowAt.form {w : World} {B : Nat} {a : Option Addr} {cs : List Value} (h : RowAt w B a cs) (h0 : 0 < cs.length) : ∃ b off, a = some ⟨b, off, none⟩ ∧ b < B ∧ B ≤ w.heap.size := by
  obtain ⟨b, off, ha, hb, hB, _⟩ := h h0
  exact ⟨b, off, ha, hb, hB⟩

/-! ### Instructions, functions, globals -/
abbrev inV (i : Ins) : Value := .agg #[Value.int .i64 i.kind, Value.int .i64 i.op, Value.int .i64 i.dst, Value.int .i64 i.a, Value.int .i64 i.b, Value.int .i64 i.n, Value.string (sb i.text), Value.int .i64 i.x0, Value.int .i64 i.x1, Value.int .i64 i.x2, Value.int .i64 i.x3, Value.int .i64 i.x4, Value.int .i64 i.x5, Value.int .i64 i.dest, Value.int .i64 i.els]
abbrev inO (i : Ins) : Obj := .cells #[Value.int .i64 i.kind, Value.int .i64 i.op, Value.int .i64 i.dst, Value.int .i64 i.a, Value.int .i64 i.b, Value.int .i64 i.n, Value.string (sb i.text), Value.int .i64 i.x0, Value.int .i64 i.x1, Value.int .i64 i.x2, Value.int .i64 i.x3, Value.int .i64 i.x4, Value.int .i64 i.x5, Value.int .i64 i.dest, Value.int .i64 i.els] 46
def inCells (i : Ins) : List Value := [Value.int .i64 i.kind, Value.int .i64 i.op, Value.int .i64 i.dst, Value.int .i64 i.a, Value.int .i64 i.b, Value.int .i64 i.n, Value.string (sb i.text), Value.int .i64 i.x0, Value.int .i64 i.x1, Value.int .i64 i.x2, Value.int .i64 i.x3, Value.int .i64 i.x4, Value.int .i64 i.x5, Value.int .i64 i.dest, Value.int .i64 i.els]
theorem inCells_len (i : Ins) : (inCells i).length = 15 := rfl
theorem nv15 {w : World} {b : Nat} {x0 x1 x2 x3 x4 x5 x6 x7 x8 x9 x10 x11 x12 x13 x14 : Value} {t : TypeId} (h : w.heap[b]? = some (.cells #[x0, x1, x2, x3, x4, x5, x6, x7, x8, x9, x10, x11, x12, x13, x14] t (0, 0))) :
    w.cell? ⟨b, 0, none⟩ = some x0 ∧ w.cell? ⟨b, 1, none⟩ = some x1 ∧ w.cell? ⟨b, 2, none⟩ = some x2 ∧ w.cell? ⟨b, 3, none⟩ = some x3 ∧ w.cell? ⟨b, 4, none⟩ = some x4 ∧ w.cell? ⟨b, 5, none⟩ = some x5 ∧ w.cell? ⟨b, 6, none⟩ = some x6 ∧ w.cell? ⟨b, 7, none⟩ = some x7 ∧ w.cell? ⟨b, 8, none⟩ = some x8 ∧ w.cell? ⟨b, 9, none⟩ = some x9 ∧ w.cell? ⟨b, 10, none⟩ = some x10 ∧ w.cell? ⟨b, 11, none⟩ = some x11 ∧ w.cell? ⟨b, 12, none⟩ = some x12 ∧ w.cell? ⟨b, 13, none⟩ = some x13 ∧ w.cell? ⟨b, 14, none⟩ = some x14 := by
  refine ⟨?_, ?_, ?_, ?_, ?_, ?_, ?_, ?_, ?_, ?_, ?_, ?_, ?_, ?_, ?_⟩ <;> (rw [cell_of_row w b _ _ _ _ h]; rfl)
theorem lt_heap {w : World} {b : Nat} {o : Obj} (h : w.heap[b]? = some o) : b < w.heap.size := (Array.getElem?_eq_some_iff.1 h).1
theorem own_keep {w w' : World} {base : Nat} {e : TypeId} {size n : Nat} {v : Value} {xs : List Value} (h : w.ownsRow base e size v n xs) (hb : ∀ g, v.ownBlock = some g → w'.heap[g]? = w.heap[g]?) : w'.ownsRow base e size v n xs := by
  obtain ⟨h1, h2⟩ := h
  refine ⟨h1, ?_⟩
  rcases h2 with h2 | ⟨g, cap, cur, hv, hg, hh, r⟩
  · exact .inl h2
  · exact .inr ⟨g, cap, cur, hv, hg, (hb g (by simp [hv, Value.ownBlock])).trans hh, r⟩
theorem row_slice {w : World} {B size n : Nat} {e : TypeId} {v : Value} {xs : List Value} (h : w.ownsRow B e size v n xs) : ∃ a c, v = .slice a n c := by
  obtain ⟨_, ⟨rfl, rfl⟩ | ⟨g, cap, cur, rfl, _⟩⟩ := h
  · exact ⟨_, _, rfl⟩
  · exact ⟨_, _, rfl⟩
theorem ownsRow_le {w : World} {base base' size n : Nat} {e : TypeId} {v : Value} {xs : List Value} (h : w.ownsRow base e size v n xs) (hb : base' ≤ base) : w.ownsRow base' e size v n xs := by
  obtain ⟨h1, h2⟩ := h
  exact ⟨h1, h2.imp id fun ⟨g, cap, cur, hv, hg, r⟩ => ⟨g, cap, cur, hv, Nat.le_trans hb hg, r⟩⟩
theorem infoInt : (Try.prog.info? 3).map (fun i => (i.zero, i.size, i.bytes)) = some (some (.int .i64 0), 1, 8) := by kernel_rfl
/-- The answer: a row of numbers in memory of its own. -/
def ListPost (xs : List Int) (w : World) (e : Ending) (w' : World) : Prop :=
  ∃ v, e = .returned v ∧ w'.ownsRow w.heap.size 3 1 v xs.length (xs.map (Value.int .i64)) ∧ Below w.heap.size w w'
/-- The answer of what makes memory of its own alone. -/
def RPost (v : Value) (w : World) (e : Ending) (w' : World) : Prop := e = .returned v ∧ Below w.heap.size w w'
/-- A function as a value, its code at an address. -/
structure FnR where
  f : Fnc
  ca : Option Addr
  cc : Nat
abbrev fnV (r : FnR) : Value := .agg #[.string (sb r.f.name), .int .i64 r.f.params, .int .i64 r.f.regs, .int .i64 r.f.frame, .slice r.ca r.f.code.length r.cc]
abbrev fnO (r : FnR) : Obj := .cells #[.string (sb r.f.name), .int .i64 r.f.params, .int .i64 r.f.regs, .int .i64 r.f.frame, .slice r.ca r.f.code.length r.cc] 30
def fnCells (r : FnR) : List Value := [.string (sb r.f.name), .int .i64 r.f.params, .int .i64 r.f.regs, .int .i64 r.f.frame, .slice r.ca r.f.code.length r.cc]
theorem fnCells_len (r : FnR) : (fnCells r).length = 5 := rfl
def glCells (g : Glo) : List Value := [.string (sb g.name), .int .i64 g.pos, .int .i64 g.size, .int .i64 g.init]
theorem glCells_len (g : Glo) : (glCells g).length = 4 := rfl
/-- The code of a function lies in memory. -/
def CodeAt (w : World) (B : Nat) (r : FnR) : Prop := RowAt w B r.ca (r.f.code.flatMap inCells)
theorem CodeAt.below {w w' : World} {B : Nat} {r : FnR} (h : CodeAt w B r) (hb : Below B w w') : CodeAt w' B r := RowAt.below h hb
/-- The numbers of an instruction are ints. -/
def Wd (n : Int) : Prop := -9223372036854775808 ≤ n ∧ n ≤ 9223372036854775807
structure InW (i : Ins) : Prop where
  kind : Wd i.kind
  op : Wd i.op
  dst : Wd i.dst
  a : Wd i.a
  b : Wd i.b
  n : Wd i.n
  args : ∀ x ∈ i.args, Wd x
  dest : Wd i.dest
  els : Wd i.els
  text : i.text.length ≤ maxLen
end Go.Proofs.Ytmcpfjhdeplgmaa
namespace Go.Proofs.Ytmcpfjhdeplgmaa.Cd

def nexts (c : List Ins) (n : Int) : List Int := match c[n.toNat]? with | some i => next i n | none => []
theorem nexts_at {c : List Ins} {x : Int} {i : Ins} (h : c[x.toNat]? = some i) : nexts c x = next i x := by unfold nexts; rw [h]
def addNew (no : Int) : List Int → List Int → List Int
  | out, [] => out
  | out, x :: xs => addNew no (if x ≠ no ∧ x ∉ out then out ++ [x] else out) xs
def withoutF (c : List Ins) (no : Int) : Nat → List Int → Nat → List Int
  | 0, out, _ => out
  | f + 1, out, k => match out[k]? with
    | none => out
    | some x => withoutF c no f (addNew no out (nexts c x)) (k + 1)
/-- What is come to from one, if another one is not gone through. -/
def without (c : List Ins) (a no : Int) : List Int := if a = no then [] else withoutF c no (c.length + 1) [a] 0
/-- Is an instruction one of these? -/
def Inside (c : List Ins) (x : Int) : Prop := 0 ≤ x ∧ x < c.length
/-- Each goes on within. -/
def Closed (c : List Ins) : Prop := ∀ x, Inside c x → ∀ y ∈ nexts c x, Inside c y
inductive Reach (c : List Ins) (no a : Int) : Int → Prop where
  | start : a ≠ no → Reach c no a a
  | more {x y : Int} : Reach c no a x → y ∈ nexts c x → y ≠ no → Reach c no a y
/-- Reached by a way of the other end first. -/
theorem Reach.ahead {c : List Ins} {no a b x : Int} (ha : a ≠ no) (hab : b ∈ nexts c a) (h : Reach c no b x) : Reach c no a x := by
  induction h with
  | start hb => exact .more (.start ha) hab hb
  | more _ hy hn ih => exact .more ih hy hn
theorem Reach.trans {c : List Ins} {no a b x : Int} (h : Reach c no a b) (k : Reach c no b x) : Reach c no a x := by
  induction k with
  | start _ => exact h
  | more _ hy hn ih => exact .more ih hy hn
theorem Reach.not {c : List Ins} {no a x : Int} (h : Reach c no a x) : x ≠ no := by
  cases h <;> assumption
theorem Reach.first {c : List Ins} {no a x : Int} (h : Reach c no a x) : a ≠ no := by
  induction h with
  | start h => exact h
  | more _ _ _ ih => exact ih
theorem Reach.inside {c : List Ins} {no a x : Int} (hc : Closed c) (ha : Inside c a) (h : Reach c no a x) : Inside c x := by
  induction h with
  | start _ => exact ha
  | more _ hy _ ih => exact hc _ ih _ hy
/-- What stands in the rows stays there, in order. -/
theorem addNew_grows (no : Int) : ∀ (l out : List Int), ∃ t, addNew no out l = out ++ t
  | [], out => ⟨[], by simp [addNew]⟩
  | x :: l, out => by
    unfold addNew
    split
    · obtain ⟨t, ht⟩ := addNew_grows no l (out ++ [x])
      exact ⟨x :: t, by rw [ht]; simp⟩
    · exact addNew_grows no l out
theorem addNew_mem (no : Int) : ∀ (l out : List Int) (y : Int), y ∈ addNew no out l ↔ y ∈ out ∨ (y ∈ l ∧ y ≠ no)
  | [], out, y => by simp [addNew]
  | x :: l, out, y => by
    unfold addNew
    rw [addNew_mem no l]
    by_cases h : x ≠ no ∧ x ∉ out
    · rw [if_pos h]
      simp only [List.mem_append, List.mem_cons, List.not_mem_nil, or_false]
      constructor
      · rintro ((h1 | rfl) | h1)
        · exact .inl h1
        · exact .inr ⟨.inl rfl, h.1⟩
        · exact .inr ⟨.inr h1.1, h1.2⟩
      · rintro (h1 | ⟨rfl | h1, h2⟩)
        · exact .inl (.inl h1)
        · exact .inl (.inr rfl)
        · exact .inr ⟨h1, h2⟩
    · rw [if_neg h]
      simp only [List.mem_cons]
      constructor
      · rintro (h1 | h1)
        · exact .inl h1
        · exact .inr ⟨.inr h1.1, h1.2⟩
      · rintro (h1 | ⟨rfl | h1, h2⟩)
        · exact .inl h1
        · exact .inl (by
            by_cases h3 : y ∈ out
            · exact h3
            · exact absurd ⟨h2, h3⟩ h)
        · exact .inr ⟨h1, h2⟩
theorem addNew_nodup (no : Int) : ∀ (l out : List Int), out.Nodup → (addNew no out l).Nodup
  | [], out, h => by simpa [addNew] using h
  | x :: l, out, h => by
    unfold addNew
    split
    · rename_i h1
      refine addNew_nodup no l _ ?_
      rw [List.nodup_append]
      exact ⟨h, by simp, fun a ha b hb e => h1.2 (by rw [List.mem_singleton] at hb; rw [← hb, ← e]; exact ha)⟩
    · exact addNew_nodup no l out h
theorem nodup_lt : ∀ (n : Nat) (l : List Nat), l.Nodup → (∀ x ∈ l, x < n) → l.length ≤ n
  | 0, [], _, _ => Nat.le_refl _
  | 0, x :: _, _, h => absurd (h x (by simp)) (by omega)
  | n + 1, l, hn, h => by
    have h1 := nodup_lt n (l.erase n) (hn.erase n) (fun x hx => by
      have h2 := (List.Nodup.mem_erase_iff hn).1 hx
      have := h x h2.2
      have := h2.1
      omega)
    have h2 : l.length ≤ (l.erase n).length + 1 := by rw [List.length_erase]; split <;> omega
    omega
/-- So many that are inside, and none twice, are as many as there are at most. -/
theorem nodup_le {c : List Ins} {out : List Int} (h : out.Nodup) (hi : ∀ x ∈ out, Inside c x) : out.length ≤ c.length := by
  have h1 : ∀ (l : List Int), l.Nodup → (∀ x ∈ l, Inside c x) → (l.map Int.toNat).Nodup := by
    intro l
    induction l with
    | nil => intro _ _; simp
    | cons a l ih =>
      intro hn hi
      rw [List.nodup_cons] at hn
      rw [List.map_cons, List.nodup_cons]
      refine ⟨fun hm => ?_, ih hn.2 (fun x hx => hi x (by simp [hx]))⟩
      obtain ⟨b, hb, hab⟩ := List.mem_map.1 hm
      have h3 := hi a (by simp)
      have h4 := hi b (by simp [hb])
      unfold Inside at h3 h4
      have : a = b := by omega
      exact hn.1 (this ▸ hb)
  have := nodup_lt c.length (out.map Int.toNat) (h1 out h hi) (fun k hk => by
    obtain ⟨x, hx, rfl⟩ := List.mem_map.1 hk
    have := hi x hx
    unfold Inside at this
    omega)
  simpa using this
/-- How far the search is: none twice, all inside and come to, and what the first k go on at stands there. -/
structure Far (c : List Ins) (no a : Int) (out : List Int) (k : Nat) : Prop where
  nodup : out.Nodup
  inside : ∀ x ∈ out, Inside c x
  reach : ∀ x ∈ out, Reach c no a x
  first : a ∈ out
  done : ∀ i x, i < k → out[i]? = some x → ∀ y ∈ nexts c x, y ≠ no → y ∈ out
theorem Far.begin {c : List Ins} {no a : Int} (ha : Inside c a) (hn : a ≠ no) : Far c no a [a] 0 :=
  ⟨by simp, fun x hx => by rw [List.mem_singleton] at hx; rw [hx]; exact ha, fun x hx => by rw [List.mem_singleton] at hx; rw [hx]; exact .start hn, by simp, fun i x h => by omega⟩
theorem Far.more {c : List Ins} {no a : Int} {out : List Int} {k : Nat} {x : Int} (hc : Closed c) (h : Far c no a out k) (hx : out[k]? = some x) : Far c no a (addNew no out (nexts c x)) (k + 1) := by
  have hm : x ∈ out := List.mem_of_getElem? hx
  obtain ⟨t, ht⟩ := addNew_grows no (nexts c x) out
  refine ⟨addNew_nodup no _ _ h.nodup, fun y hy => ?_, fun y hy => ?_, (addNew_mem no _ _ _).2 (.inl h.first), fun i z hi hz y hy hn => ?_⟩
  · rcases (addNew_mem no _ _ _).1 hy with h1 | h1
    · exact h.inside y h1
    · exact hc x (h.inside x hm) y h1.1
  · rcases (addNew_mem no _ _ _).1 hy with h1 | h1
    · exact h.reach y h1
    · exact .more (h.reach x hm) h1.1 h1.2
  · have hk : k < out.length := (List.getElem?_eq_some_iff.1 hx).1
    rw [ht, List.getElem?_append_left (by omega)] at hz
    by_cases hik : i < k
    · exact (addNew_mem no _ _ _).2 (.inl (h.done i z hik hz y hy hn))
    · have : i = k := by omega
      subst this
      rw [hx] at hz
      injection hz with hz
      subst hz
      exact (addNew_mem no _ _ _).2 (.inr ⟨hy, hn⟩)
theorem Far.all {c : List Ins} {no a : Int} {out : List Int} {k : Nat} (h : Far c no a out k) (hk : out.length ≤ k) {x : Int} : x ∈ out ↔ Reach c no a x := by
  refine ⟨h.reach x, fun hr => ?_⟩
  induction hr with
  | start _ => exact h.first
  | more _ hy hn ih =>
    obtain ⟨i, hi⟩ := List.mem_iff_getElem?.1 ih
    have := (List.getElem?_eq_some_iff.1 hi).1
    exact h.done i _ (by omega) hi _ hy hn
theorem withoutF_far {c : List Ins} {no a : Int} (hc : Closed c) : ∀ (f : Nat) (out : List Int) (k : Nat), Far c no a out k → k ≤ out.length → c.length < f + k →
    ∃ k', Far c no a (withoutF c no f out k) k' ∧ (withoutF c no f out k).length ≤ k'
  | 0, out, k, h, hk, hf => by
    have := nodup_le h.nodup h.inside
    omega
  | f + 1, out, k, h, hk, hf => by
    unfold withoutF
    cases hx : out[k]? with
    | none => exact ⟨k, h, by rw [List.getElem?_eq_none_iff] at hx; exact hx⟩
    | some x =>
      have h1 := h.more hc hx
      obtain ⟨t, ht⟩ := addNew_grows no (nexts c x) out
      have h2 : k < out.length := (List.getElem?_eq_some_iff.1 hx).1
      exact withoutF_far hc f _ (k + 1) h1 (by rw [ht, List.length_append]; omega) (by omega)
theorem without_mem {c : List Ins} {no a : Int} (hc : Closed c) (ha : Inside c a) (x : Int) : x ∈ without c a no ↔ Reach c no a x := by
  unfold without
  split
  · rename_i h
    exact ⟨fun hx => by simp at hx, fun hx => absurd h hx.first⟩
  · rename_i h
    obtain ⟨k, h1, h2⟩ := withoutF_far hc (c.length + 1) [a] 0 (Far.begin ha h) (by simp) (by omega)
    exact h1.all h2
theorem without_inside {c : List Ins} {no a : Int} (hc : Closed c) (ha : Inside c a) {x : Int} (h : x ∈ without c a no) : Inside c x := ((without_mem hc ha x).1 h).inside hc ha

/-! ### What may be goes on within -/
theorem all_at {α : Type} {p : α → Bool} {l : List α} (h : l.all p = true) {i : Nat} {x : α} (hi : l[i]? = some x) : p x = true := List.all_eq_true.1 h x (List.mem_of_getElem? hi)
structure RightI (i : Ins) (regs frame len : Int) : Prop where
  low : 1 ≤ i.kind
  high : i.kind ≤ 13
  uses : ∀ r ∈ Cd.uses i, 0 ≤ r ∧ r < regs
  dst : dstOk i regs = true
  n : nOk i frame = true
  op : opOk i = true
  dest : toOk i len = true
  plain : i = plainOf i
theorem rightI_iff {i : Ins} {regs frame len : Int} : rightI i regs frame len = true ↔ RightI i regs frame len := by
  unfold rightI
  simp only [Bool.and_eq_true, decide_eq_true_eq, List.all_eq_true, regOk]
  constructor
  · rintro ⟨⟨⟨⟨⟨⟨⟨a, b⟩, c⟩, d⟩, e⟩, f⟩, g⟩, h⟩
    exact ⟨a, b, c, d, e, f, g, h⟩
  · rintro ⟨a, b, c, d, e, f, g, h⟩
    exact ⟨⟨⟨⟨⟨⟨⟨a, b⟩, c⟩, d⟩, e⟩, f⟩, g⟩, h⟩
structure RightF (f : Fnc) : Prop where
  name : f.name ≠ []
  params : 0 ≤ f.params ∧ f.params ≤ 6
  regs : f.params ≤ f.regs ∧ f.regs ≤ 4096
  frame : 0 ≤ f.frame ∧ f.frame ≤ 4096
  code : 0 < f.code.length ∧ f.code.length ≤ 8192
  all : ∀ i ∈ f.code, RightI i f.regs f.frame f.code.length
  last : 11 ≤ lastKind f.code
theorem rightF_iff {f : Fnc} : rightF f = true ↔ RightF f := by
  unfold rightF headOk
  simp only [Bool.and_eq_true, decide_eq_true_eq, List.all_eq_true, rightI_iff]
  constructor
  · rintro ⟨⟨⟨⟨⟨⟨⟨⟨⟨⟨a, b⟩, c⟩, d⟩, e⟩, g⟩, h⟩, i⟩, j⟩, k⟩, l⟩
    exact ⟨a, ⟨b, c⟩, ⟨d, e⟩, ⟨g, h⟩, ⟨i, j⟩, k, l⟩
  · rintro ⟨a, ⟨b, c⟩, ⟨d, e⟩, ⟨g, h⟩, ⟨i, j⟩, k, l⟩
    exact ⟨⟨⟨⟨⟨⟨⟨⟨⟨⟨a, b⟩, c⟩, d⟩, e⟩, g⟩, h⟩, i⟩, j⟩, k⟩, l⟩
theorem closed_of {f : Fnc} (h : RightF f) : Closed f.code := by
  intro x hx y hy
  cases hi : f.code[x.toNat]? with
  | none => unfold nexts at hy; rw [hi] at hy; simp at hy
  | some i =>
    rw [nexts_at hi] at hy
    unfold Inside at hx ⊢
    have hr := h.all i (List.mem_of_getElem? hi)
    have ht := hr.dest
    unfold toOk regOk at ht
    unfold next at hy
    by_cases h1 : i.kind = 11
    · rw [if_pos h1] at hy ht
      simp at hy ht
      subst hy; exact ht
    · rw [if_neg h1] at hy ht
      by_cases h2 : i.kind = 12
      · rw [if_pos h2] at hy ht
        simp at hy ht
        rcases hy with rfl | rfl
        · exact ht.1
        · exact ht.2
      · rw [if_neg h2] at hy
        by_cases h3 : i.kind = 13
        · rw [if_pos h3] at hy; simp at hy
        · rw [if_neg h3] at hy
          simp at hy
          subst hy
          have hlt := (List.getElem?_eq_some_iff.1 hi).1
          by_cases hl : x.toNat + 1 < f.code.length
          · omega
          · exfalso
            have hlast := h.last
            have e : f.code.getLast? = some i := by rw [List.getLast?_eq_getElem?, ← hi]; congr 1; omega
            unfold lastKind at hlast
            rw [e] at hlast
            have := hr.high
            simp only at hlast
            omega
end Go.Proofs.Ytmcpfjhdeplgmaa.Cd
namespace Go.Proofs.Ytmcpfjhdeplgmaa

section
variable {P : Program} {ops : Array Oper} {Q : Exit → Act → World → Prop} {md : Region.Mode} {S : World → Prop} {m : Nat}

/-- Does operation m wait for each of the others? -/
def waitsAll (md : Region.Mode) (ops : Array Oper) (m : Nat) : Bool :=
  (List.range ops.size).all fun i => i == m || ((ops[m]?).map fun o => o.after.any fun e => Region.binds md e && e.on == i).getD false
theorem waitsAll_spec (h : waitsAll md ops m = true) {i : Nat} (hi : i < ops.size) (hne : i ≠ m) {listed : Array Bool} (hr : m ∈ Region.ready md ops listed) : listed.getD i false = true := by
  unfold waitsAll at h
  rw [List.all_eq_true] at h
  have h1 := h i (by simpa using hi)
  obtain ⟨_, o, ho, hall⟩ := mem_ready.1 hr
  have hb : (i == m) = false := by simpa using hne
  rw [hb, ho] at h1
  simp only [Bool.false_or, Option.map_some, Option.getD_some] at h1
  rw [Array.any_eq_true'] at h1
  obtain ⟨e, he, hon⟩ := h1
  simp only [Bool.and_eq_true, beq_iff_eq] at hon
  have := hall e he hon.1
  rw [hon.2] at this
  exact this
/-- Does operation m wait for operation i? -/
def waitsOn (md : Region.Mode) (ops : Array Oper) (m i : Nat) : Bool := ((ops[m]?).map fun o => o.after.any fun e => Region.binds md e && e.on == i).getD false
theorem waitsOn_spec {i : Nat} (h : waitsOn md ops m i = true) {listed : Array Bool} (hr : m ∈ Region.ready md ops listed) : listed.getD i false = true := by
  unfold waitsOn at h
  obtain ⟨_, o, ho, hall⟩ := mem_ready.1 hr
  rw [ho] at h
  simp only [Option.map_some, Option.getD_some] at h
  rw [Array.any_eq_true'] at h
  obtain ⟨e, he, hon⟩ := h
  simp only [Bool.and_eq_true, beq_iff_eq] at hon
  have := hall e he hon.1
  rw [hon.2] at this
  exact this
/-- Whatever order is picked, and S holds behind each operation that is carried out, but for the last one. -/
def anyL (P : Program) (md : Region.Mode) (ops : Array Oper) (Q : Exit → Act → World → Prop) (S : World → Prop) (m : Nat) : Nat → Array Bool → Act → World → Prop
  | 0, listed, a, w => Region.ready md ops listed = [] ∧ Q .normal a w
  | fuel + 1, listed, a, w =>
    (Region.ready md ops listed = [] → Q .normal a w) ∧
    ∀ i ∈ Region.ready md ops listed, wpOp P ops Q i (fun a' w' => (i ≠ m → S w') ∧ anyL P md ops Q S m fuel (listed.setIfInBounds i true) a' w') a w
theorem any_of_anyL : ∀ (fuel : Nat) (listed : Array Bool) (a : Act) (w : World), anyL P md ops Q S m fuel listed a w → wpAny P md ops Q fuel listed a w
  | 0, _, _, _, h => h
  | fuel + 1, _, _, _, h => ⟨h.1, fun i hi => wpOp_mono (fun a' w' h' => any_of_anyL fuel _ a' w' h'.2) (h.2 i hi)⟩
theorem anyL_first {i : Nat} {oi : Oper} {v : Value} (hi : ops[i]? = some oi) (him : i ≠ m) (hm : waitsOn md ops m i = true) (hsel : ∀ (j : Nat) (o : Oper) cs b, ops[j]? = some o → o.op ≠ .select cs b)
    (hQ : ∀ c a w, Q (.panic c) (a.put oi.dst v) w → Q (.panic c) a w) :
    ∀ (fuel : Nat) (listed : Array Bool) (a : Act) (w : World),
      (∀ j oj, ops[j]? = some oj → j ≠ i → listed.getD j true = false → (∀ e ∈ oj.after, Region.binds md e = true → e.on ≠ i) → oi.apart ops oj = true) →
      i ∈ Region.ready md ops listed → YieldsIf P ops S oi v a → S w →
      anyL P md ops Q S m fuel (listed.setIfInBounds i true) (a.put oi.dst v) w → anyL P md ops Q S m (fuel + 1) listed a w := by
  intro fuel
  induction fuel with
  | zero =>
    intro listed a w _ hr hy hS H
    refine ⟨fun h => (by rw [h] at hr; cases hr), fun j hj => ?_⟩
    by_cases hji : j = i
    · subst hji; exact hy.wpOp hi hS ⟨fun _ => hS, H⟩
    · have := ready_mono hj hji
      rw [H.1] at this
      cases this
  | succ fuel ih =>
    intro listed a w hfree hr hy hS H
    refine ⟨fun h => (by rw [h] at hr; cases hr), fun j hj => ?_⟩
    by_cases hji : j = i
    · subst hji; exact hy.wpOp hi hS ⟨fun _ => hS, H⟩
    · have hun := (mem_ready.1 hr).1
      have hgi : listed.getD i false = false := by
        cases hc : listed[i]? with
        | none => simp [hc] at hun
        | some b => simp [hc] at hun ⊢; exact hun
      have hjm : j ≠ m := fun e => by
        subst e
        have := waitsOn_spec hm hj
        rw [hgi] at this; cases this
      have h1 := H.2 j (ready_mono hj hji)
      obtain ⟨hjun, oj, hoj, hall⟩ := mem_ready.1 hj
      have hnot : ∀ e ∈ oj.after, Region.binds md e = true → e.on ≠ i := fun e he hb heq => by
        have h2 := hall e he hb
        rw [heq, hgi] at h2; cases h2
      have h2 := wpOp_putIf hoj (hfree j oj hoj hji hjun hnot) (fun cs b => hsel i oi cs b hi) (fun cs b => hsel j oj cs b hoj) hQ hy h1
      have hfree' : ∀ k ok, ops[k]? = some ok → k ≠ i → (listed.setIfInBounds j true).getD k true = false →
          (∀ e ∈ ok.after, Region.binds md e = true → e.on ≠ i) → oi.apart ops ok = true := fun k ok hk hki hk1 hno => by
        refine hfree k ok hk hki ?_ hno
        by_cases hjk : j = k
        · subst hjk; exact hjun
        · rw [getD_set_ne true hjk] at hk1; exact hk1
      refine wpOp_mono (fun a' w' h3 => ⟨h3.2.1, ih (listed.setIfInBounds j true) a' w' hfree' (ready_mono hr (Ne.symm hji)) h3.1 (h3.2.1 hjm) ?_⟩) h2
      rw [Array.setIfInBounds_comm _ _ hji]
      exact h3.2.2
/-- Take number i first. -/
theorem anyL_take {i : Nat} {oi : Oper} {v : Value} {fuel : Nat} {listed : Array Bool} {a : Act} {w : World} (hi : ops[i]? = some oi) (him : (i == m) = false) (hm : waitsOn md ops m i = true)
    (hs : Region.noSelect ops = true) (hf : Region.free md ops listed i = true) (hr : (Region.ready md ops listed).contains i = true)
    (hQ : ∀ c a w, Q (.panic c) (a.put oi.dst v) w → Q (.panic c) a w) (hy : YieldsIf P ops S oi v a) (hS : S w)
    (h : anyL P md ops Q S m fuel (listed.setIfInBounds i true) (a.put oi.dst v) w) : anyL P md ops Q S m (fuel + 1) listed a w :=
  anyL_first hi (by simpa using him) hm (Region.noSelect_spec hs) hQ fuel listed a w (Region.free_spec hi hf) (by simpa using hr) hy hS h
theorem anyL_firstH {i : Nat} {oi : Oper} {v : Value} (hi : ops[i]? = some oi) (hm : ops.size ≤ m) (hsel : ∀ (j : Nat) (o : Oper) cs b, ops[j]? = some o → o.op ≠ .select cs b)
    (hQ : ∀ c a w, Q (.panic c) (a.put oi.dst v) w → Q (.panic c) a w) :
    ∀ (fuel : Nat) (listed : Array Bool) (a : Act) (w : World),
      (∀ j oj, ops[j]? = some oj → j ≠ i → listed.getD j true = false → (∀ e ∈ oj.after, Region.binds md e = true → e.on ≠ i) → oi.apart ops oj = true) →
      i ∈ Region.ready md ops listed → YieldsIf P ops S oi v a → S w →
      anyL P md ops Q S m fuel (listed.setIfInBounds i true) (a.put oi.dst v) w → anyL P md ops Q S m (fuel + 1) listed a w := by
  intro fuel
  induction fuel with
  | zero =>
    intro listed a w _ hr hy hS H
    refine ⟨fun h => (by rw [h] at hr; cases hr), fun j hj => ?_⟩
    by_cases hji : j = i
    · subst hji; exact hy.wpOp hi hS ⟨fun _ => hS, H⟩
    · have := ready_mono hj hji
      rw [H.1] at this
      cases this
  | succ fuel ih =>
    intro listed a w hfree hr hy hS H
    refine ⟨fun h => (by rw [h] at hr; cases hr), fun j hj => ?_⟩
    by_cases hji : j = i
    · subst hji; exact hy.wpOp hi hS ⟨fun _ => hS, H⟩
    · have hun := (mem_ready.1 hr).1
      have hgi : listed.getD i false = false := by
        cases hc : listed[i]? with
        | none => simp [hc] at hun
        | some b => simp [hc] at hun ⊢; exact hun
      have hjm : j ≠ m := fun e => by
        obtain ⟨_, oj, hoj, _⟩ := mem_ready.1 hj
        have := (Array.getElem?_eq_some_iff.1 hoj).1
        omega
      have h1 := H.2 j (ready_mono hj hji)
      obtain ⟨hjun, oj, hoj, hall⟩ := mem_ready.1 hj
      have hnot : ∀ e ∈ oj.after, Region.binds md e = true → e.on ≠ i := fun e he hb heq => by
        have h2 := hall e he hb
        rw [heq, hgi] at h2; cases h2
      have h2 := wpOp_putIf hoj (hfree j oj hoj hji hjun hnot) (fun cs b => hsel i oi cs b hi) (fun cs b => hsel j oj cs b hoj) hQ hy h1
      have hfree' : ∀ k ok, ops[k]? = some ok → k ≠ i → (listed.setIfInBounds j true).getD k true = false →
          (∀ e ∈ ok.after, Region.binds md e = true → e.on ≠ i) → oi.apart ops ok = true := fun k ok hk hki hk1 hno => by
        refine hfree k ok hk hki ?_ hno
        by_cases hjk : j = k
        · subst hjk; exact hjun
        · rw [getD_set_ne true hjk] at hk1; exact hk1
      refine wpOp_mono (fun a' w' h3 => ⟨h3.2.1, ih (listed.setIfInBounds j true) a' w' hfree' (ready_mono hr (Ne.symm hji)) h3.1 (h3.2.1 hjm) ?_⟩) h2
      rw [Array.setIfInBounds_comm _ _ hji]
      exact h3.2.2
/-- The same, where S holds behind each operation. -/
theorem anyL_takeH {i : Nat} {oi : Oper} {v : Value} {fuel : Nat} {listed : Array Bool} {a : Act} {w : World} (hi : ops[i]? = some oi) (hm : decide (ops.size ≤ m) = true)
    (hs : Region.noSelect ops = true) (hf : Region.free md ops listed i = true) (hr : (Region.ready md ops listed).contains i = true)
    (hQ : ∀ c a w, Q (.panic c) (a.put oi.dst v) w → Q (.panic c) a w) (hy : YieldsIf P ops S oi v a) (hS : S w)
    (h : anyL P md ops Q S m fuel (listed.setIfInBounds i true) (a.put oi.dst v) w) : anyL P md ops Q S m (fuel + 1) listed a w :=
  anyL_firstH hi (by simpa using hm) (Region.noSelect_spec hs) hQ fuel listed a w (Region.free_spec hi hf) (by simpa using hr) hy hS h
/-- One alone may come up. -/
theorem anyL_one {i : Nat} {o : Oper} {fuel : Nat} {listed : Array Bool} {a : Act} {w : World} (hr : Region.ready md ops listed = [i]) (ho : ops[i]? = some o)
    (h : ∀ K' : Act → World → Prop, Shut (∀ a w, (i ≠ m → S w) → anyL P md ops Q S m fuel (listed.setIfInBounds i true) a w → K' a w) → if Region.wanted o (yielded ops a.tmps) = true then Oper.wp P o a w K' Q else K' (a.put o.dst undef) w) :
    anyL P md ops Q S m (fuel + 1) listed a w := by
  refine ⟨fun h0 => (by rw [hr] at h0; cases h0), fun j hj => ?_⟩
  rw [hr] at hj
  obtain rfl : j = i := by simpa using hj
  exact wpOp_step ho (fun K' hK => h K' (fun a w hS hW => hK a w ⟨hS, hW⟩))
/-- One of two may come up. -/
theorem anyL_two {i j : Nat} {oi oj : Oper} {fuel : Nat} {listed : Array Bool} {a : Act} {w : World} (hr : Region.ready md ops listed = [i, j]) (hoi : ops[i]? = some oi) (hoj : ops[j]? = some oj)
    (h1 : ∀ K' : Act → World → Prop, Shut (∀ a w, (i ≠ m → S w) → anyL P md ops Q S m fuel (listed.setIfInBounds i true) a w → K' a w) → if Region.wanted oi (yielded ops a.tmps) = true then Oper.wp P oi a w K' Q else K' (a.put oi.dst undef) w)
    (h2 : ∀ K' : Act → World → Prop, Shut (∀ a w, (j ≠ m → S w) → anyL P md ops Q S m fuel (listed.setIfInBounds j true) a w → K' a w) → if Region.wanted oj (yielded ops a.tmps) = true then Oper.wp P oj a w K' Q else K' (a.put oj.dst undef) w) :
    anyL P md ops Q S m (fuel + 1) listed a w := by
  refine ⟨fun h0 => (by rw [hr] at h0; cases h0), fun k hk => ?_⟩
  rw [hr] at hk
  rcases List.mem_cons.1 hk with rfl | hk
  · exact wpOp_step hoi (fun K' hK => h1 K' (fun a w hS hW => hK a w ⟨hS, hW⟩))
  · obtain rfl : k = j := by simpa using hk
    exact wpOp_step hoj (fun K' hK => h2 K' (fun a w hS hW => hK a w ⟨hS, hW⟩))
theorem anyL_done {listed : Array Bool} {a : Act} {w : World} (hr : Region.ready md ops listed = []) (h : Q .normal a w) :
    ∀ fuel, anyL P md ops Q S m fuel listed a w
  | 0 => ⟨hr, h⟩
  | _ + 1 => ⟨fun _ => h, by rw [hr]; simp⟩
theorem region_last {id : Nat} {a : Act} {w : World} (S : World → Prop) (m : Nat) (hm : P.follows .mixedOrders = true)
    (h : anyL P .any ops Q S m ops.size (Array.replicate ops.size false) a w.drew) : (Code.region id ops true).wp P Q a w :=
  wp_region_any hm (any_of_anyL _ _ _ _ h)
end
end Go.Proofs.Ytmcpfjhdeplgmaa
namespace Go.Proofs.Ytmcpfjhdeplgmaa
open Go.RowKit (wrap32 wrap64)

def bv (n : Int) : BitVec 32 := BitVec.ofInt 32 n
theorem wrap32_bv (n : Int) : wrap32 n = (bv n).toInt := by
  unfold wrap32 bv
  rw [BitVec.toInt_ofInt, Int.bmod_def]
  simp
  split <;> omega
theorem bv_wrap (n : Int) : bv (wrap32 n) = bv n := by rw [wrap32_bv, bv, BitVec.ofInt_toInt, bv]
theorem wrap32_wrap32 (n : Int) : wrap32 (wrap32 n) = wrap32 n := by rw [wrap32_bv (wrap32 n), bv_wrap, ← wrap32_bv]
theorem bv_wrap64 (n : Int) : bv (wrap64 n) = bv n := by
  apply BitVec.eq_of_toInt_eq
  rw [← wrap32_bv, ← wrap32_bv]; unfold wrap32 wrap64; omega
theorem bv_add (a b : Int) : bv (a + b) = bv a + bv b := BitVec.ofInt_add _ _
theorem bv_mul (a b : Int) : bv (a * b) = bv a * bv b := BitVec.ofInt_mul _ _
theorem bv_neg (a : Int) : bv (-a) = - bv a := BitVec.ofInt_neg
theorem bv_sub (a b : Int) : bv (a - b) = bv a - bv b := by rw [Int.sub_eq_add_neg, bv_add, bv_neg, BitVec.sub_eq_add_neg]
theorem wrap32_eq_iff (a b : Int) : wrap32 a = wrap32 b ↔ bv a = bv b := by
  rw [wrap32_bv, wrap32_bv]; exact BitVec.toInt_inj
theorem bv_toNat64 (x : BitVec 64) : bv (x.toNat : Int) = x.setWidth 32 := by
  apply BitVec.eq_of_toNat_eq
  simp [bv, BitVec.toNat_setWidth]
theorem ofInt64_setWidth (a : Int) : (BitVec.ofInt 64 a).setWidth 32 = bv a := by
  apply BitVec.eq_of_toNat_eq
  simp [bv, BitVec.toNat_setWidth, BitVec.toNat_ofInt]
  omega
theorem bits_bv (x : BitVec 64) : bv (IntKind.i64.wrap (x.toNat : Int)) = x.setWidth 32 := by
  rw [IntWalk.i64_left, bv_wrap64, bv_toNat64]
theorem bv_and (a b : Int) : bv (bits .and .i64 a b) = bv a &&& bv b := by
  show bv (IntKind.i64.wrap ((BitVec.ofInt 64 a &&& BitVec.ofInt 64 b).toNat : Int)) = _
  rw [bits_bv, BitVec.setWidth_and, ofInt64_setWidth, ofInt64_setWidth]
theorem bv_or (a b : Int) : bv (bits .or .i64 a b) = bv a ||| bv b := by
  show bv (IntKind.i64.wrap ((BitVec.ofInt 64 a ||| BitVec.ofInt 64 b).toNat : Int)) = _
  rw [bits_bv, BitVec.setWidth_or, ofInt64_setWidth, ofInt64_setWidth]
theorem bv_xor (a b : Int) : bv (bits .xor .i64 a b) = bv a ^^^ bv b := by
  show bv (IntKind.i64.wrap ((BitVec.ofInt 64 a ^^^ BitVec.ofInt 64 b).toNat : Int)) = _
  rw [bits_bv, BitVec.setWidth_xor, ofInt64_setWidth, ofInt64_setWidth]
theorem bits_mask (b : Int) (k : Nat) (hk : k < 63) : bits .and .i64 b ((2 ^ k - 1 : Nat) : Int) = b % ((2 ^ k : Nat) : Int) := by
  show IntKind.i64.wrap ((BitVec.ofInt 64 b &&& BitVec.ofInt 64 ((2 ^ k - 1 : Nat) : Int)).toNat : Int) = _
  have hp : (2 : Nat) ^ k < 2 ^ 63 := Nat.pow_lt_pow_right (by omega) hk
  have hq : 0 < (2 : Nat) ^ k := Nat.pow_pos (by omega)
  have e1 : (BitVec.ofInt 64 ((2 ^ k - 1 : Nat) : Int)).toNat = 2 ^ k - 1 := by
    rw [BitVec.toNat_ofInt]; simp only [Nat.reducePow] at *; omega
  have e2 : ((BitVec.ofInt 64 b).toNat : Int) = b % 18446744073709551616 := by
    rw [BitVec.toNat_ofInt]; simp only [Nat.reducePow]; omega
  rw [BitVec.toNat_and, e1, Nat.and_two_pow_sub_one_eq_mod]
  have e3 : (((BitVec.ofInt 64 b).toNat % 2 ^ k : Nat) : Int) = b % ((2 ^ k : Nat) : Int) := by
    rw [Int.natCast_emod, e2]
    refine Int.emod_emod_of_dvd _ ?_
    have : (2 : Nat) ^ k ∣ 2 ^ 64 := Nat.pow_dvd_pow 2 (by omega)
    exact Int.natCast_dvd_natCast.2 this
  rw [e3]
  have h1 := Int.emod_nonneg b (b := ((2 ^ k : Nat) : Int)) (by omega)
  have h2 := Int.emod_lt_of_pos b (b := ((2 ^ k : Nat) : Int)) (by omega)
  exact IntWalk.i64_in _ (by simp only [Nat.reducePow] at *; omega)
theorem bits_and31 (b : Int) : bits .and .i64 b 31 = b % 32 := bits_mask b 5 (by omega)
theorem bits_and255 (b : Int) : bits .and .i64 b 255 = b % 256 := bits_mask b 8 (by omega)
theorem bv_not (a : Int) : bv (-a - 1) = ~~~ bv a := by
  rw [bv_sub, bv_neg]
  show - bv a - 1#32 = _
  rw [BitVec.neg_eq_not_add, BitVec.add_sub_cancel]
end Go.Proofs.Ytmcpfjhdeplgmaa
