/-
  Layer 7's units on lists: plain functions, of no program.
-/
import Derived.Test.YtgnpbodhjmappaaRows
import Derived.Deep.Light
import Derived.WalkMore
import Derived.ScopeJumps
import Derived.WalkKit
import Derived.WalkSpells
import Derived.WalkLawsBesides
import Derived.Lib.Hide
import Derived.Deep.AppendLies
import Derived.OwnWalk
import Derived.Deep.QuietTactic
import Derived.BigQuiet
import Derived.Laws.StructEq
import Derived.ChangeKeysEq
set_option linter.unusedVariables false
set_option linter.unusedSimpArgs false
namespace Go.Proofs.Ytgnpbodhjmappaa.Cd

structure Ins where
  kind : Int
  op : Int
  dst : Int
  a : Int
  b : Int
  n : Int
  text : List UInt8
  x0 : Int
  x1 : Int
  x2 : Int
  x3 : Int
  x4 : Int
  x5 : Int
  dest : Int
  els : Int
theorem Ins.ext_iff' (i o : Ins) : (i.kind = o.kind ∧ i.op = o.op ∧ i.dst = o.dst ∧ i.a = o.a ∧ i.b = o.b ∧ i.n = o.n ∧ i.text = o.text ∧ i.x0 = o.x0 ∧ i.x1 = o.x1 ∧ i.x2 = o.x2 ∧ i.x3 = o.x3 ∧ i.x4 = o.x4 ∧ i.x5 = o.x5 ∧ i.dest = o.dest ∧ i.els = o.els) ↔ i = o := by
  cases i; cases o; simp
instance : DecidableEq Ins := fun a b => decidable_of_iff _ (Ins.ext_iff' a b)
def Ins.args (i : Ins) : List Int := [i.x0, i.x1, i.x2, i.x3, i.x4, i.x5]
theorem Ins.args_length (i : Ins) : i.args.length = 6 := rfl
structure Fnc where
  name : List UInt8
  params : Int
  regs : Int
  frame : Int
  code : List Ins
theorem Fnc.ext_iff' (f g : Fnc) : (f.name = g.name ∧ f.params = g.params ∧ f.regs = g.regs ∧ f.frame = g.frame ∧ f.code = g.code) ↔ f = g := by
  cases f; cases g; simp
instance : DecidableEq Fnc := fun a b => decidable_of_iff _ (Fnc.ext_iff' a b)
structure Glo where
  name : List UInt8
  pos : Int
  size : Int
  init : Int
structure Uni where
  funcs : List Fnc
  globals : List Glo
  top : Int

def readsA (k : Int) : Bool := k == 2 || k == 3 || k == 4 || k == 6 || k == 7 || k == 10 || k == 12 || k == 13
def readsB (k : Int) : Bool := k == 3 || k == 7
def uses (i : Ins) : List Int := (if readsA i.kind then [i.a] else []) ++ (if readsB i.kind then [i.b] else []) ++ (if i.kind = 8 then i.args.take i.n.toNat else [])
def sets (i : Ins) : Int := if (1 ≤ i.kind ∧ i.kind ≤ 6) ∨ i.kind = 8 ∨ i.kind = 9 then i.dst else -1
def next (i : Ins) (at_ : Int) : List Int := if i.kind = 11 then [i.dest] else if i.kind = 12 then [i.dest, i.els] else if i.kind = 13 then [] else [at_ + 1]
def isW (n : Int) : Bool := decide (-2147483648 ≤ n ∧ n ≤ 2147483647)
def ifI (c : Prop) [Decidable c] (x y : Int) : Int := if c then x else y
def plainOf (i : Ins) : Ins where
  kind := i.kind
  op := ifI (i.kind = 2 ∨ i.kind = 3) i.op 0
  dst := ifI (i.kind ≤ 9 ∧ i.kind ≠ 7) i.dst (-1)
  a := ifI (readsA i.kind = true) i.a 0
  b := ifI (readsB i.kind = true) i.b 0
  n := ifI (i.kind = 1 ∨ i.kind = 5 ∨ i.kind = 8) i.n 0
  text := if i.kind = 8 then i.text else []
  x0 := ifI (i.kind = 8 ∧ 0 < i.n) i.x0 0
  x1 := ifI (i.kind = 8 ∧ 1 < i.n) i.x1 0
  x2 := ifI (i.kind = 8 ∧ 2 < i.n) i.x2 0
  x3 := ifI (i.kind = 8 ∧ 3 < i.n) i.x3 0
  x4 := ifI (i.kind = 8 ∧ 4 < i.n) i.x4 0
  x5 := ifI (i.kind = 8 ∧ 5 < i.n) i.x5 0
  dest := ifI (i.kind = 11 ∨ i.kind = 12) i.dest 0
  els := ifI (i.kind = 12) i.els (-1)
def regOk (regs r : Int) : Bool := decide (0 ≤ r) && decide (r < regs)
def dstOk (i : Ins) (regs : Int) : Bool := if i.kind = 8 then decide (-1 ≤ i.dst) && decide (i.dst < regs) else if i.kind ≤ 9 ∧ i.kind ≠ 7 then regOk regs i.dst else true
def nOk (i : Ins) (frame : Int) : Bool := if i.kind = 1 then isW i.n else if i.kind = 5 then decide (0 ≤ i.n) && decide (i.n ≤ frame) else if i.kind = 8 then decide (0 ≤ i.n) && decide (i.n ≤ 6) && decide (i.text ≠ []) else true
def opOk (i : Ins) : Bool := if i.kind = 2 then decide (20 ≤ i.op) && decide (i.op ≤ 23) else if i.kind = 3 then decide (1 ≤ i.op) && decide (i.op ≤ 19) else true
def toOk (i : Ins) (len : Int) : Bool := if i.kind = 11 then regOk len i.dest else if i.kind = 12 then regOk len i.dest && regOk len i.els else true
def rightI (i : Ins) (regs frame len : Int) : Bool :=
  decide (1 ≤ i.kind) && decide (i.kind ≤ 13) && (uses i).all (regOk regs) && dstOk i regs && nOk i frame && opOk i && toOk i len && decide (i = plainOf i)
def headOk (f : Fnc) : Bool :=
  decide (f.name ≠ []) && decide (0 ≤ f.params) && decide (f.params ≤ 6) && decide (f.params ≤ f.regs) && decide (f.regs ≤ 4096) && decide (0 ≤ f.frame) && decide (f.frame ≤ 4096) && decide (0 < f.code.length) && decide (f.code.length ≤ 8192)
def lastKind (l : List Ins) : Int := match l.getLast? with | some i => i.kind | none => 0
def rightF (f : Fnc) : Bool := headOk f && f.code.all (fun i => rightI i f.regs f.frame f.code.length) && decide (11 ≤ lastKind f.code)
def findN : List Fnc → List UInt8 → Option Nat
  | [], _ => none
  | f :: fs, s => if f.name = s then some 0 else (findN fs s).map (· + 1)
def findI (fs : List Fnc) (s : List UInt8) : Int := match findN fs s with | some k => k | none => -1
def globOk (top : Int) (g : Glo) : Bool := decide (1 ≤ g.pos) && decide (0 ≤ g.size) && decide (g.pos ≤ top) && decide (g.size ≤ top) && decide (g.pos + g.size ≤ top) && isW g.init
def callOk (fs : List Fnc) (i : Ins) : Bool := if i.kind = 8 then (match findN fs i.text with | some k => (match fs[k]? with | some g => decide (g.params = i.n) | none => false) | none => false) else true
def funcOk (fs : List Fnc) (k : Nat) (f : Fnc) : Bool := rightF f && decide (findN fs f.name = some k) && f.code.all (callOk fs)
def funcsOk (fs : List Fnc) : Nat → List Fnc → Bool
  | _, [] => true
  | k, f :: l => funcOk fs k f && funcsOk fs (k + 1) l
def rightU (u : Uni) : Bool := decide (u.funcs.length ≤ 64) && decide (1 ≤ u.top) && decide (u.top ≤ 4096) && u.globals.all (globOk u.top) && funcsOk u.funcs 0 u.funcs
end Go.Proofs.Ytgnpbodhjmappaa.Cd
namespace Go.Proofs.Ytgnpbodhjmappaa
open Go.RowKit Cd
abbrev Cd.sb (l : List UInt8) : ByteArray := ⟨l.toArray⟩
def RowAt (w : World) (B : Nat) (a : Option Addr) (cs : List Value) : Prop :=
  0 < cs.length → ∃ b off, a = some ⟨b, off, none⟩ ∧ b < B ∧ B ≤ w.heap.size ∧ ∀ (j : Nat) (u : Value), cs[j]? = some u → w.cell? ⟨b, off + j, none⟩ = some u
theorem RowAt.nil (w : World) (B : Nat) (a : Option Addr) : RowAt w B a [] := fun h => absurd h (by simp)
theorem RowAt.below {w w' : World} {B : Nat} {a : Option Addr} {cs : List Value} (h : RowAt w B a cs) (hb : Below B w w') : RowAt w' B a cs := fun h0 => by
  obtain ⟨b, off, ha, hlt, hB, hc⟩ := h h0
  exact ⟨b, off, ha, hlt, Nat.le_trans hB hb.size, fun j u hu => by rw [hb.cell (p := ⟨b, off + j, none⟩) hlt]; exact hc j u hu⟩
theorem RowAt.mono {w : World} {B B' : Nat} {a : Option Addr} {cs : List Value} (h : RowAt w B a cs) (hB : B ≤ B') (hw : B' ≤ w.heap.size) : RowAt w B' a cs := fun h0 => by
  obtain ⟨b, off, ha, hlt, _, hc⟩ := h h0
  exact ⟨b, off, ha, by omega, hw, hc⟩
theorem flat_at {α : Type} {f : α → List Value} {k : Nat} (hk : ∀ x, (f x).length = k) : ∀ (l : List α) (i j : Nat) (x : α), l[i]? = some x → j < k → (l.flatMap f)[i * k + j]? = (f x)[j]?
  | [], i, j, x, h, _ => by simp at h
  | y :: l, 0, j, x, h, hj => by
    have : y = x := by simpa using h
    subst this
    rw [List.flatMap_cons, Nat.zero_mul, Nat.zero_add, List.getElem?_append_left (by rw [hk]; exact hj)]
  | y :: l, i + 1, j, x, h, hj => by
    rw [List.flatMap_cons, List.getElem?_append_right (by rw [hk, Nat.succ_mul]; omega), hk]
    have e : (i + 1) * k + j - k = i * k + j := by rw [Nat.succ_mul]; omega
    rw [e]
    exact flat_at hk l i j x (by simpa using h) hj
theorem flat_len {α : Type} {f : α → List Value} {k : Nat} (hk : ∀ x, (f x).length = k) : ∀ (l : List α), (l.flatMap f).length = l.length * k
  | [] => by simp
  | y :: l => by rw [List.flatMap_cons, List.length_append, hk, flat_len hk l, List.length_cons, Nat.succ_mul]; omega
theorem RowAt.item {α : Type} {f : α → List Value} {k : Nat} (hk : ∀ x, (f x).length = k) {w : World} {B : Nat} {a : Option Addr} {l : List α} (h : RowAt w B a (l.flatMap f)) {i : Nat} {x : α} (hi : l[i]? = some x) (hk0 : 0 < k) :
    ∃ b off, a = some ⟨b, off, none⟩ ∧ b < B ∧ B ≤ w.heap.size ∧ ∀ (j : Nat) (u : Value), (f x)[j]? = some u → w.cell? ⟨b, off + (i * k + j), none⟩ = some u := by
  have hlt : i < l.length := (List.getElem?_eq_some_iff.1 hi).1
  obtain ⟨b, off, ha, hb, hB, hc⟩ := h (by rw [flat_len hk]; exact Nat.mul_pos (by omega) hk0)
  refine ⟨b, off, ha, hb, hB, fun j u hu => hc _ u ?_⟩
  have hj : j < k := by rw [← hk x]; exact (List.getElem?_eq_some_iff.1 hu).1
  rw [flat_at hk l i j x hi hj, hu]
abbrev inV (i : Ins) : Value := .agg #[Value.int .i64 i.kind, Value.int .i64 i.op, Value.int .i64 i.dst, Value.int .i64 i.a, Value.int .i64 i.b, Value.int .i64 i.n, Value.string (sb i.text), Value.int .i64 i.x0, Value.int .i64 i.x1, Value.int .i64 i.x2, Value.int .i64 i.x3, Value.int .i64 i.x4, Value.int .i64 i.x5, Value.int .i64 i.dest, Value.int .i64 i.els]
abbrev inO (i : Ins) : Obj := .cells #[Value.int .i64 i.kind, Value.int .i64 i.op, Value.int .i64 i.dst, Value.int .i64 i.a, Value.int .i64 i.b, Value.int .i64 i.n, Value.string (sb i.text), Value.int .i64 i.x0, Value.int .i64 i.x1, Value.int .i64 i.x2, Value.int .i64 i.x3, Value.int .i64 i.x4, Value.int .i64 i.x5, Value.int .i64 i.dest, Value.int .i64 i.els] 46
def inCells (i : Ins) : List Value := [Value.int .i64 i.kind, Value.int .i64 i.op, Value.int .i64 i.dst, Value.int .i64 i.a, Value.int .i64 i.b, Value.int .i64 i.n, Value.string (sb i.text), Value.int .i64 i.x0, Value.int .i64 i.x1, Value.int .i64 i.x2, Value.int .i64 i.x3, Value.int .i64 i.x4, Value.int .i64 i.x5, Value.int .i64 i.dest, Value.int .i64 i.els]
theorem inCells_len (i : Ins) : (inCells i).length = 15 := rfl
theorem nv15 {w : World} {b : Nat} {x0 x1 x2 x3 x4 x5 x6 x7 x8 x9 x10 x11 x12 x13 x14 : Value} {t : TypeId} (h : w.heap[b]? = some (.cells #[x0, x1, x2, x3, x4, x5, x6, x7, x8, x9, x10, x11, x12, x13, x14] t (0, 0))) :
    w.cell? ⟨b, 0, none⟩ = some x0 ∧ w.cell? ⟨b, 1, none⟩ = some x1 ∧ w.cell? ⟨b, 2, none⟩ = some x2 ∧ w.cell? ⟨b, 3, none⟩ = some x3 ∧ w.cell? ⟨b, 4, none⟩ = some x4 ∧ w.cell? ⟨b, 5, none⟩ = some x5 ∧ w.cell? ⟨b, 6, none⟩ = some x6 ∧ w.cell? ⟨b, 7, none⟩ = some x7 ∧ w.cell? ⟨b, 8, none⟩ = some x8 ∧ w.cell? ⟨b, 9, none⟩ = some x9 ∧ w.cell? ⟨b, 10, none⟩ = some x10 ∧ w.cell? ⟨b, 11, none⟩ = some x11 ∧ w.cell? ⟨b, 12, none⟩ = some x12 ∧ w.cell? ⟨b, 13, none⟩ = some x13 ∧ w.cell? ⟨b, 14, none⟩ = some x14 := by
  refine ⟨?_, ?_, ?_, ?_, ?_, ?_, ?_, ?_, ?_, ?_, ?_, ?_, ?_, ?_, ?_⟩ <;> (rw [cell_of_row w b _ _ _ _ h]; rfl)
theorem lt_heap {w : World} {b : Nat} {o : Obj} (h : w.heap[b]? = some o) : b < w.heap.size := (Array.getElem?_eq_some_iff.1 h).1
theorem own_keep {w w' : World} {base : Nat} {e : TypeId} {size n : Nat} {v : Value} {xs : List Value} (h : w.ownsRow base e size v n xs) (hb : ∀ g, v.ownBlock = some g → w'.heap[g]? = w.heap[g]?) : w'.ownsRow base e size v n xs := by
  obtain ⟨h1, h2⟩ := h
  refine ⟨h1, ?_⟩
  rcases h2 with h2 | ⟨g, cap, cur, hv, hg, hh, r⟩
  · exact .inl h2
  · exact .inr ⟨g, cap, cur, hv, hg, (hb g (by simp [hv, Value.ownBlock])).trans hh, r⟩
theorem row_slice {w : World} {B size n : Nat} {e : TypeId} {v : Value} {xs : List Value} (h : w.ownsRow B e size v n xs) : ∃ a c, v = .slice a n c := by
  obtain ⟨_, ⟨rfl, rfl⟩ | ⟨g, cap, cur, rfl, _⟩⟩ := h
  · exact ⟨_, _, rfl⟩
  · exact ⟨_, _, rfl⟩
theorem ownsRow_le {w : World} {base base' size n : Nat} {e : TypeId} {v : Value} {xs : List Value} (h : w.ownsRow base e size v n xs) (hb : base' ≤ base) : w.ownsRow base' e size v n xs := by
  obtain ⟨h1, h2⟩ := h
  exact ⟨h1, h2.imp id fun ⟨g, cap, cur, hv, hg, r⟩ => ⟨g, cap, cur, hv, Nat.le_trans hb hg, r⟩⟩
theorem infoInt : (Try.prog.info? 3).map (fun i => (i.zero, i.size, i.bytes)) = some (some (.int .i64 0), 1, 8) := by kernel_rfl
def ListPost (xs : List Int) (w : World) (e : Ending) (w' : World) : Prop :=
  ∃ v, e = .returned v ∧ w'.ownsRow w.heap.size 3 1 v xs.length (xs.map (Value.int .i64)) ∧ Below w.heap.size w w'
def RPost (v : Value) (w : World) (e : Ending) (w' : World) : Prop := e = .returned v ∧ Below w.heap.size w w'
structure FnR where
  f : Fnc
  ca : Option Addr
  cc : Nat
abbrev fnV (r : FnR) : Value := .agg #[.string (sb r.f.name), .int .i64 r.f.params, .int .i64 r.f.regs, .int .i64 r.f.frame, .slice r.ca r.f.code.length r.cc]
abbrev fnO (r : FnR) : Obj := .cells #[.string (sb r.f.name), .int .i64 r.f.params, .int .i64 r.f.regs, .int .i64 r.f.frame, .slice r.ca r.f.code.length r.cc] 24
def fnCells (r : FnR) : List Value := [.string (sb r.f.name), .int .i64 r.f.params, .int .i64 r.f.regs, .int .i64 r.f.frame, .slice r.ca r.f.code.length r.cc]
theorem fnCells_len (r : FnR) : (fnCells r).length = 5 := rfl
def glCells (g : Glo) : List Value := [.string (sb g.name), .int .i64 g.pos, .int .i64 g.size, .int .i64 g.init]
theorem glCells_len (g : Glo) : (glCells g).length = 4 := rfl
def CodeAt (w : World) (B : Nat) (r : FnR) : Prop := RowAt w B r.ca (r.f.code.flatMap inCells)
theorem CodeAt.below {w w' : World} {B : Nat} {r : FnR} (h : CodeAt w B r) (hb : Below B w w') : CodeAt w' B r := RowAt.below h hb
def Wd (n : Int) : Prop := -9223372036854775808 ≤ n ∧ n ≤ 9223372036854775807
end Go.Proofs.Ytgnpbodhjmappaa
namespace Go.Proofs.Ytgnpbodhjmappaa
set_option maxRecDepth 100000
open Go.RowKit Cd
theorem args_eql (a b : Ins) (W : World) : (Op.equalIn 9999 44 (.agg #[.int .i64 a.x0, .int .i64 a.x1, .int .i64 a.x2, .int .i64 a.x3, .int .i64 a.x4, .int .i64 a.x5]) (.agg #[.int .i64 b.x0, .int .i64 b.x1, .int .i64 b.x2, .int .i64 b.x3, .int .i64 b.x4, .int .i64 b.x5])).run Try.prog W = .ok (decide (a.args = b.args)) W := by
  obtain ⟨i0, hi0, hz0, hz1, hz2⟩ := info_parts infoInt
  have hC : Try.prog.cellsOf 3 = 1 := by kernel_rfl
  have u3 := Try.underlying3
  have a3 := Try.isAgg3
  have z3 := Try.sizeOf3
  have hr : List.range 6 = [0, 1, 2, 3, 4, 5] := by decide
  rw [show (9999 : Nat) = 9998 + 1 from rfl, run_equalIn_array W 9998 _ _ Try.underlying44 hi0, hC, hr]
  simp only [Op.eqItems]
  go_simp
  unfold Ins.args
  by_cases h0 : a.x0 = b.x0 <;> simp [h0]
  by_cases h1 : a.x1 = b.x1 <;> simp [h1]
  by_cases h2 : a.x2 = b.x2 <;> simp [h2]
  by_cases h3 : a.x3 = b.x3 <;> simp [h3]
  by_cases h4 : a.x4 = b.x4 <;> simp [h4]
  by_cases h5 : a.x5 = b.x5 <;> simp [h5]
theorem in_eql (a b : Ins) (W : World) : (binOp .eql 46 (inV a) (inV b)).run Try.prog W = .ok (.bool (decide (a = b))) W := by
  have hS : Try.prog.underlying 46 = some (.struct (Try.prog.fieldsOf 46)) := by kernel_rfl
  have hp : Try.prog.stoodInHeld 46 = false := by kernel_rfl
  rw [run_eql_struct, show (10000 : Nat) = 9999 + 1 from rfl, run_equalIn_agg W 9999 46 _ _ hS hp]
  have u3 := Try.underlying3
  have a3 := Try.isAgg3
  have z3 := Try.sizeOf3
  have u9 := Try.underlying9
  have a9 := Try.isAgg9
  have z9 := Try.sizeOf9
  have uo := Try.underlying43
  have ao := Try.isAgg43
  have zo := Try.sizeOf43
  have hA := args_eql a b W
  have aa := Try.isAgg44
  have za := Try.sizeOf44
  simp only [Program.fieldsOf, Try.underlying46]
  go_simp
  have e : (a = b) = (a.kind = b.kind ∧ a.op = b.op ∧ a.dst = b.dst ∧ a.a = b.a ∧ a.b = b.b ∧ a.n = b.n ∧ a.text = b.text ∧ a.args = b.args ∧ a.dest = b.dest ∧ a.els = b.els) := by
    rw [← Ins.ext_iff']
    unfold Ins.args
    simp
    grind
  simp only [e]
  by_cases h0 : a.kind = b.kind <;> simp only [h0, if_true, if_false, true_and, false_and, decide_false]
  by_cases h1 : a.op = b.op <;> simp only [h1, if_true, if_false, true_and, false_and, decide_false]
  by_cases h2 : a.dst = b.dst <;> simp only [h2, if_true, if_false, true_and, false_and, decide_false]
  by_cases h3 : a.a = b.a <;> simp only [h3, if_true, if_false, true_and, false_and, decide_false]
  by_cases h4 : a.b = b.b <;> simp only [h4, if_true, if_false, true_and, false_and, decide_false]
  by_cases h5 : a.n = b.n <;> simp only [h5, if_true, if_false, true_and, false_and, decide_false]
  by_cases h6 : a.text = b.text <;> simp only [h6, if_true, if_false, true_and, false_and, decide_false]
  by_cases h7 : a.args = b.args <;> simp [h7]
  by_cases h8 : a.dest = b.dest <;> simp [h8]
  by_cases h9 : a.els = b.els <;> simp [h9]
theorem in_eqlV (k o d a b n x0 x1 x2 x3 x4 x5 u v k' o' d' a' b' n' x0' x1' x2' x3' x4' x5' u' v' : Int) (t t' : List UInt8) (W : World) : (binOp .eql 46 (.agg #[.int .i64 k, .int .i64 o, .int .i64 d, .int .i64 a, .int .i64 b, .int .i64 n, .string (sb t), .int .i64 x0, .int .i64 x1, .int .i64 x2, .int .i64 x3, .int .i64 x4, .int .i64 x5, .int .i64 u, .int .i64 v]) (.agg #[.int .i64 k', .int .i64 o', .int .i64 d', .int .i64 a', .int .i64 b', .int .i64 n', .string (sb t'), .int .i64 x0', .int .i64 x1', .int .i64 x2', .int .i64 x3', .int .i64 x4', .int .i64 x5', .int .i64 u', .int .i64 v'])).run Try.prog W = .ok (.bool (decide ((⟨k, o, d, a, b, n, t, x0, x1, x2, x3, x4, x5, u, v⟩ : Ins) = ⟨k', o', d', a', b', n', t', x0', x1', x2', x3', x4', x5', u', v'⟩))) W := in_eql ⟨k, o, d, a, b, n, t, x0, x1, x2, x3, x4, x5, u, v⟩ ⟨k', o', d', a', b', n', t', x0', x1', x2', x3', x4', x5', u', v'⟩ W
theorem cells_set {w : World} {b : Nat} {cs : Array Value} {t : TypeId} {fr : Nat × Nat} (h : w.heap[b]? = some (.cells cs t fr)) (j : Nat) (u : Value) : (w.setCell ⟨b, j, none⟩ u).heap[b]? = some (.cells (cs.setIfInBounds j u) t fr) := by
  simp only [World.setCell, Array.getElem?_modify, if_true, h, Option.map_some]; rfl
end Go.Proofs.Ytgnpbodhjmappaa
namespace Go.Proofs.Ytgnpbodhjmappaa.Cd

def nexts (c : List Ins) (n : Int) : List Int := match c[n.toNat]? with | some i => next i n | none => []
theorem nexts_at {c : List Ins} {x : Int} {i : Ins} (h : c[x.toNat]? = some i) : nexts c x = next i x := by unfold nexts; rw [h]
def addNew (no : Int) : List Int → List Int → List Int
  | out, [] => out
  | out, x :: xs => addNew no (if x ≠ no ∧ x ∉ out then out ++ [x] else out) xs
def Inside (c : List Ins) (x : Int) : Prop := 0 ≤ x ∧ x < c.length
def Closed (c : List Ins) : Prop := ∀ x, Inside c x → ∀ y ∈ nexts c x, Inside c y
inductive Reach (c : List Ins) (no a : Int) : Int → Prop where
  | start : a ≠ no → Reach c no a a
  | more {x y : Int} : Reach c no a x → y ∈ nexts c x → y ≠ no → Reach c no a y
theorem Reach.ahead {c : List Ins} {no a b x : Int} (ha : a ≠ no) (hab : b ∈ nexts c a) (h : Reach c no b x) : Reach c no a x := by
  induction h with
  | start hb => exact .more (.start ha) hab hb
  | more _ hy hn ih => exact .more ih hy hn
theorem Reach.trans {c : List Ins} {no a b x : Int} (h : Reach c no a b) (k : Reach c no b x) : Reach c no a x := by
  induction k with
  | start _ => exact h
  | more _ hy hn ih => exact .more ih hy hn
theorem Reach.first {c : List Ins} {no a x : Int} (h : Reach c no a x) : a ≠ no := by
  induction h with
  | start h => exact h
  | more _ _ _ ih => exact ih
theorem Reach.inside {c : List Ins} {no a x : Int} (hc : Closed c) (ha : Inside c a) (h : Reach c no a x) : Inside c x := by
  induction h with
  | start _ => exact ha
  | more _ hy _ ih => exact hc _ ih _ hy
theorem addNew_grows (no : Int) : ∀ (l out : List Int), ∃ t, addNew no out l = out ++ t
  | [], out => ⟨[], by simp [addNew]⟩
  | x :: l, out => by
    unfold addNew
    split
    · obtain ⟨t, ht⟩ := addNew_grows no l (out ++ [x])
      exact ⟨x :: t, by rw [ht]; simp⟩
    · exact addNew_grows no l out
theorem addNew_mem (no : Int) : ∀ (l out : List Int) (y : Int), y ∈ addNew no out l ↔ y ∈ out ∨ (y ∈ l ∧ y ≠ no)
  | [], out, y => by simp [addNew]
  | x :: l, out, y => by
    unfold addNew
    rw [addNew_mem no l]
    by_cases h : x ≠ no ∧ x ∉ out
    · rw [if_pos h]
      simp only [List.mem_append, List.mem_cons, List.not_mem_nil, or_false]
      constructor
      · rintro ((h1 | rfl) | h1)
        · exact .inl h1
        · exact .inr ⟨.inl rfl, h.1⟩
        · exact .inr ⟨.inr h1.1, h1.2⟩
      · rintro (h1 | ⟨rfl | h1, h2⟩)
        · exact .inl (.inl h1)
        · exact .inl (.inr rfl)
        · exact .inr ⟨h1, h2⟩
    · rw [if_neg h]
      simp only [List.mem_cons]
      constructor
      · rintro (h1 | h1)
        · exact .inl h1
        · exact .inr ⟨.inr h1.1, h1.2⟩
      · rintro (h1 | ⟨rfl | h1, h2⟩)
        · exact .inl h1
        · exact .inl (by
            by_cases h3 : y ∈ out
            · exact h3
            · exact absurd ⟨h2, h3⟩ h)
        · exact .inr ⟨h1, h2⟩
theorem addNew_nodup (no : Int) : ∀ (l out : List Int), out.Nodup → (addNew no out l).Nodup
  | [], out, h => by simpa [addNew] using h
  | x :: l, out, h => by
    unfold addNew
    split
    · rename_i h1
      refine addNew_nodup no l _ ?_
      rw [List.nodup_append]
      exact ⟨h, by simp, fun a ha b hb e => h1.2 (by rw [List.mem_singleton] at hb; rw [← hb, ← e]; exact ha)⟩
    · exact addNew_nodup no l out h
theorem nodup_lt : ∀ (n : Nat) (l : List Nat), l.Nodup → (∀ x ∈ l, x < n) → l.length ≤ n
  | 0, [], _, _ => Nat.le_refl _
  | 0, x :: _, _, h => absurd (h x (by simp)) (by omega)
  | n + 1, l, hn, h => by
    have h1 := nodup_lt n (l.erase n) (hn.erase n) (fun x hx => by
      have h2 := (List.Nodup.mem_erase_iff hn).1 hx
      have := h x h2.2
      have := h2.1
      omega)
    have h2 : l.length ≤ (l.erase n).length + 1 := by rw [List.length_erase]; split <;> omega
    omega
theorem nodup_le {c : List Ins} {out : List Int} (h : out.Nodup) (hi : ∀ x ∈ out, Inside c x) : out.length ≤ c.length := by
  have h1 : ∀ (l : List Int), l.Nodup → (∀ x ∈ l, Inside c x) → (l.map Int.toNat).Nodup := by
    intro l
    induction l with
    | nil => intro _ _; simp
    | cons a l ih =>
      intro hn hi
      rw [List.nodup_cons] at hn
      rw [List.map_cons, List.nodup_cons]
      refine ⟨fun hm => ?_, ih hn.2 (fun x hx => hi x (by simp [hx]))⟩
      obtain ⟨b, hb, hab⟩ := List.mem_map.1 hm
      have h3 := hi a (by simp)
      have h4 := hi b (by simp [hb])
      unfold Inside at h3 h4
      have : a = b := by omega
      exact hn.1 (this ▸ hb)
  have := nodup_lt c.length (out.map Int.toNat) (h1 out h hi) (fun k hk => by
    obtain ⟨x, hx, rfl⟩ := List.mem_map.1 hk
    have := hi x hx
    unfold Inside at this
    omega)
  simpa using this
theorem all_at {α : Type} {p : α → Bool} {l : List α} (h : l.all p = true) {i : Nat} {x : α} (hi : l[i]? = some x) : p x = true := List.all_eq_true.1 h x (List.mem_of_getElem? hi)
structure RightI (i : Ins) (regs frame len : Int) : Prop where
  low : 1 ≤ i.kind
  high : i.kind ≤ 13
  uses : ∀ r ∈ Cd.uses i, 0 ≤ r ∧ r < regs
  dst : dstOk i regs = true
  n : nOk i frame = true
  op : opOk i = true
  dest : toOk i len = true
  plain : i = plainOf i
theorem rightI_iff {i : Ins} {regs frame len : Int} : rightI i regs frame len = true ↔ RightI i regs frame len := by
  unfold rightI
  simp only [Bool.and_eq_true, decide_eq_true_eq, List.all_eq_true, regOk]
  constructor
  · rintro ⟨⟨⟨⟨⟨⟨⟨a, b⟩, c⟩, d⟩, e⟩, f⟩, g⟩, h⟩
    exact ⟨a, b, c, d, e, f, g, h⟩
  · rintro ⟨a, b, c, d, e, f, g, h⟩
    exact ⟨⟨⟨⟨⟨⟨⟨a, b⟩, c⟩, d⟩, e⟩, f⟩, g⟩, h⟩
structure RightF (f : Fnc) : Prop where
  name : f.name ≠ []
  params : 0 ≤ f.params ∧ f.params ≤ 6
  regs : f.params ≤ f.regs ∧ f.regs ≤ 4096
  frame : 0 ≤ f.frame ∧ f.frame ≤ 4096
  code : 0 < f.code.length ∧ f.code.length ≤ 8192
  all : ∀ i ∈ f.code, RightI i f.regs f.frame f.code.length
  last : 11 ≤ lastKind f.code
theorem rightF_iff {f : Fnc} : rightF f = true ↔ RightF f := by
  unfold rightF headOk
  simp only [Bool.and_eq_true, decide_eq_true_eq, List.all_eq_true, rightI_iff]
  constructor
  · rintro ⟨⟨⟨⟨⟨⟨⟨⟨⟨⟨a, b⟩, c⟩, d⟩, e⟩, g⟩, h⟩, i⟩, j⟩, k⟩, l⟩
    exact ⟨a, ⟨b, c⟩, ⟨d, e⟩, ⟨g, h⟩, ⟨i, j⟩, k, l⟩
  · rintro ⟨a, ⟨b, c⟩, ⟨d, e⟩, ⟨g, h⟩, ⟨i, j⟩, k, l⟩
    exact ⟨⟨⟨⟨⟨⟨⟨⟨⟨⟨a, b⟩, c⟩, d⟩, e⟩, g⟩, h⟩, i⟩, j⟩, k⟩, l⟩
theorem closed_of {f : Fnc} (h : RightF f) : Closed f.code := by
  intro x hx y hy
  cases hi : f.code[x.toNat]? with
  | none => unfold nexts at hy; rw [hi] at hy; simp at hy
  | some i =>
    rw [nexts_at hi] at hy
    unfold Inside at hx ⊢
    have hr := h.all i (List.mem_of_getElem? hi)
    have ht := hr.dest
    unfold toOk regOk at ht
    unfold next at hy
    by_cases h1 : i.kind = 11
    · rw [if_pos h1] at hy ht
      simp at hy ht
      subst hy; exact ht
    · rw [if_neg h1] at hy ht
      by_cases h2 : i.kind = 12
      · rw [if_pos h2] at hy ht
        simp at hy ht
        rcases hy with rfl | rfl
        · exact ht.1
        · exact ht.2
      · rw [if_neg h2] at hy
        by_cases h3 : i.kind = 13
        · rw [if_pos h3] at hy; simp at hy
        · rw [if_neg h3] at hy
          simp at hy
          subst hy
          have hlt := (List.getElem?_eq_some_iff.1 hi).1
          by_cases hl : x.toNat + 1 < f.code.length
          · omega
          · exfalso
            have hlast := h.last
            have e : f.code.getLast? = some i := by rw [List.getLast?_eq_getElem?, ← hi]; congr 1; omega
            unfold lastKind at hlast
            rw [e] at hlast
            have := hr.high
            simp only at hlast
            omega
end Go.Proofs.Ytgnpbodhjmappaa.Cd
