/-
  Rows of structs in memory, read only: what lies below a bound stays.
-/
import Derived.Test.YtgnpbodhjmappaaR7Spec
import Derived.Test.YtgnpbodhjmappaaRows
import Derived.Deep.Light
import Derived.WalkMore
import Derived.ScopeJumps
import Derived.WalkKit
import Derived.WalkSpells
import Derived.WalkLawsBesides
import Derived.Lib.Hide
import Derived.Deep.AppendLies
import Derived.OwnWalk
import Derived.Deep.QuietTactic
import Derived.BigQuiet
namespace Go.Proofs.Ytgnpbodhjmappaa
open Go.RowKit Cd
set_option linter.unusedVariables false

abbrev Cd.sb (l : List UInt8) : ByteArray := ⟨l.toArray⟩
theorem Cd.sb_toList (l : List UInt8) : (sb l).data.toList = l := rfl
/-- These cells lie at an address, in a block below B. -/
def RowAt (w : World) (B : Nat) (a : Option Addr) (cs : List Value) : Prop :=
  0 < cs.length → ∃ b off, a = some ⟨b, off, none⟩ ∧ b < B ∧ B ≤ w.heap.size ∧ ∀ (j : Nat) (u : Value), cs[j]? = some u → w.cell? ⟨b, off + j, none⟩ = some u
theorem RowAt.nil (w : World) (B : Nat) (a : Option Addr) : RowAt w B a [] := fun h => absurd h (by simp)
theorem RowAt.below {w w' : World} {B : Nat} {a : Option Addr} {cs : List Value} (h : RowAt w B a cs) (hb : Below B w w') : RowAt w' B a cs := fun h0 => by
  obtain ⟨b, off, ha, hlt, hB, hc⟩ := h h0
  exact ⟨b, off, ha, hlt, Nat.le_trans hB hb.size, fun j u hu => by rw [hb.cell (p := ⟨b, off + j, none⟩) hlt]; exact hc j u hu⟩
theorem RowAt.mono {w : World} {B B' : Nat} {a : Option Addr} {cs : List Value} (h : RowAt w B a cs) (hB : B ≤ B') (hw : B' ≤ w.heap.size) : RowAt w B' a cs := fun h0 => by
  obtain ⟨b, off, ha, hlt, _, hc⟩ := h h0
  exact ⟨b, off, ha, by omega, hw, hc⟩
/-- The cells of one item of a row of items of k cells. -/
theorem flat_at {α : Type} {f : α → List Value} {k : Nat} (hk : ∀ x, (f x).length = k) : ∀ (l : List α) (i j : Nat) (x : α), l[i]? = some x → j < k → (l.flatMap f)[i * k + j]? = (f x)[j]?
  | [], i, j, x, h, _ => by simp at h
  | y :: l, 0, j, x, h, hj => by
    have : y = x := by simpa using h
    subst this
    rw [List.flatMap_cons, Nat.zero_mul, Nat.zero_add, List.getElem?_append_left (by rw [hk]; exact hj)]
  | y :: l, i + 1, j, x, h, hj => by
    rw [List.flatMap_cons, List.getElem?_append_right (by rw [hk, Nat.succ_mul]; omega), hk]
    have e : (i + 1) * k + j - k = i * k + j := by rw [Nat.succ_mul]; omega
    rw [e]
    exact flat_at hk l i j x (by simpa using h) hj
theorem flat_len {α : Type} {f : α → List Value} {k : Nat} (hk : ∀ x, (f x).length = k) : ∀ (l : List α), (l.flatMap f).length = l.length * k
  | [] => by simp
  | y :: l => by rw [List.flatMap_cons, List.length_append, hk, flat_len hk l, List.length_cons, Nat.succ_mul]; omega
/-- Item i's cell j. -/
theorem RowAt.item {α : Type} {f : α → List Value} {k : Nat} (hk : ∀ x, (f x).length = k) {w : World} {B : Nat} {a : Option Addr} {l : List α} (h : RowAt w B a (l.flatMap f)) {i : Nat} {x : α} (hi : l[i]? = some x) (hk0 : 0 < k) :
    ∃ b off, a = some ⟨b, off, none⟩ ∧ b < B ∧ B ≤ w.heap.size ∧ ∀ (j : Nat) (u : Value), (f x)[j]? = some u → w.cell? ⟨b, off + (i * k + j), none⟩ = some u := by
  have hlt : i < l.length := (List.getElem?_eq_some_iff.1 hi).1
  obtain ⟨b, off, ha, hb, hB, hc⟩ := h (by rw [flat_len hk]; exact Nat.mul_pos (by omega) hk0)
  refine ⟨b, off, ha, hb, hB, fun j u hu => hc _ u ?_⟩
  have hj : j < k := by rw [← hk x]; exact (List.getElem?_eq_some_iff.1 hu).1
  rw [flat_at hk l i j x hi hj, hu]
/-- Where a row that is not empty lies. -/
theorem RowAt.form {w : World} {B : Nat} {a : Option Addr} {cs : List Value} (h : RowAt w B a cs) (h0 : 0 < cs.length) : ∃ b off, a = some ⟨b, off, none⟩ ∧ b < B ∧ B ≤ w.heap.size := by
  obtain ⟨b, off, ha, hb, hB, _⟩ := h h0
  exact ⟨b, off, ha, hb, hB⟩

/-! ### Instructions, functions, globals -/
abbrev inV (i : Ins) : Value := .agg #[Value.int .i64 i.kind, Value.int .i64 i.op, Value.int .i64 i.dst, Value.int .i64 i.a, Value.int .i64 i.b, Value.int .i64 i.n, Value.string (sb i.text), Value.int .i64 i.x0, Value.int .i64 i.x1, Value.int .i64 i.x2, Value.int .i64 i.x3, Value.int .i64 i.x4, Value.int .i64 i.x5, Value.int .i64 i.dest, Value.int .i64 i.els]
abbrev inO (i : Ins) : Obj := .cells #[Value.int .i64 i.kind, Value.int .i64 i.op, Value.int .i64 i.dst, Value.int .i64 i.a, Value.int .i64 i.b, Value.int .i64 i.n, Value.string (sb i.text), Value.int .i64 i.x0, Value.int .i64 i.x1, Value.int .i64 i.x2, Value.int .i64 i.x3, Value.int .i64 i.x4, Value.int .i64 i.x5, Value.int .i64 i.dest, Value.int .i64 i.els] 46
def inCells (i : Ins) : List Value := [Value.int .i64 i.kind, Value.int .i64 i.op, Value.int .i64 i.dst, Value.int .i64 i.a, Value.int .i64 i.b, Value.int .i64 i.n, Value.string (sb i.text), Value.int .i64 i.x0, Value.int .i64 i.x1, Value.int .i64 i.x2, Value.int .i64 i.x3, Value.int .i64 i.x4, Value.int .i64 i.x5, Value.int .i64 i.dest, Value.int .i64 i.els]
theorem inCells_len (i : Ins) : (inCells i).length = 15 := rfl
theorem nv15 {w : World} {b : Nat} {x0 x1 x2 x3 x4 x5 x6 x7 x8 x9 x10 x11 x12 x13 x14 : Value} {t : TypeId} (h : w.heap[b]? = some (.cells #[x0, x1, x2, x3, x4, x5, x6, x7, x8, x9, x10, x11, x12, x13, x14] t (0, 0))) :
    w.cell? ⟨b, 0, none⟩ = some x0 ∧ w.cell? ⟨b, 1, none⟩ = some x1 ∧ w.cell? ⟨b, 2, none⟩ = some x2 ∧ w.cell? ⟨b, 3, none⟩ = some x3 ∧ w.cell? ⟨b, 4, none⟩ = some x4 ∧ w.cell? ⟨b, 5, none⟩ = some x5 ∧ w.cell? ⟨b, 6, none⟩ = some x6 ∧ w.cell? ⟨b, 7, none⟩ = some x7 ∧ w.cell? ⟨b, 8, none⟩ = some x8 ∧ w.cell? ⟨b, 9, none⟩ = some x9 ∧ w.cell? ⟨b, 10, none⟩ = some x10 ∧ w.cell? ⟨b, 11, none⟩ = some x11 ∧ w.cell? ⟨b, 12, none⟩ = some x12 ∧ w.cell? ⟨b, 13, none⟩ = some x13 ∧ w.cell? ⟨b, 14, none⟩ = some x14 := by
  refine ⟨?_, ?_, ?_, ?_, ?_, ?_, ?_, ?_, ?_, ?_, ?_, ?_, ?_, ?_, ?_⟩ <;> (rw [cell_of_row w b _ _ _ _ h]; rfl)
theorem lt_heap {w : World} {b : Nat} {o : Obj} (h : w.heap[b]? = some o) : b < w.heap.size := (Array.getElem?_eq_some_iff.1 h).1
theorem own_keep {w w' : World} {base : Nat} {e : TypeId} {size n : Nat} {v : Value} {xs : List Value} (h : w.ownsRow base e size v n xs) (hb : ∀ g, v.ownBlock = some g → w'.heap[g]? = w.heap[g]?) : w'.ownsRow base e size v n xs := by
  obtain ⟨h1, h2⟩ := h
  refine ⟨h1, ?_⟩
  rcases h2 with h2 | ⟨g, cap, cur, hv, hg, hh, r⟩
  · exact .inl h2
  · exact .inr ⟨g, cap, cur, hv, hg, (hb g (by simp [hv, Value.ownBlock])).trans hh, r⟩
theorem row_slice {w : World} {B size n : Nat} {e : TypeId} {v : Value} {xs : List Value} (h : w.ownsRow B e size v n xs) : ∃ a c, v = .slice a n c := by
  obtain ⟨_, ⟨rfl, rfl⟩ | ⟨g, cap, cur, rfl, _⟩⟩ := h
  · exact ⟨_, _, rfl⟩
  · exact ⟨_, _, rfl⟩
theorem ownsRow_le {w : World} {base base' size n : Nat} {e : TypeId} {v : Value} {xs : List Value} (h : w.ownsRow base e size v n xs) (hb : base' ≤ base) : w.ownsRow base' e size v n xs := by
  obtain ⟨h1, h2⟩ := h
  exact ⟨h1, h2.imp id fun ⟨g, cap, cur, hv, hg, r⟩ => ⟨g, cap, cur, hv, Nat.le_trans hb hg, r⟩⟩
theorem infoInt : (Try.prog.info? 3).map (fun i => (i.zero, i.size, i.bytes)) = some (some (.int .i64 0), 1, 8) := by kernel_rfl
/-- The answer: a row of numbers in memory of its own. -/
def ListPost (xs : List Int) (w : World) (e : Ending) (w' : World) : Prop :=
  ∃ v, e = .returned v ∧ w'.ownsRow w.heap.size 3 1 v xs.length (xs.map (Value.int .i64)) ∧ Below w.heap.size w w'
/-- The answer of what makes memory of its own alone. -/
def RPost (v : Value) (w : World) (e : Ending) (w' : World) : Prop := e = .returned v ∧ Below w.heap.size w w'
/-- A function as a value, its code at an address. -/
structure FnR where
  f : Fnc
  ca : Option Addr
  cc : Nat
abbrev fnV (r : FnR) : Value := .agg #[.string (sb r.f.name), .int .i64 r.f.params, .int .i64 r.f.regs, .int .i64 r.f.frame, .slice r.ca r.f.code.length r.cc]
abbrev fnO (r : FnR) : Obj := .cells #[.string (sb r.f.name), .int .i64 r.f.params, .int .i64 r.f.regs, .int .i64 r.f.frame, .slice r.ca r.f.code.length r.cc] 24
def fnCells (r : FnR) : List Value := [.string (sb r.f.name), .int .i64 r.f.params, .int .i64 r.f.regs, .int .i64 r.f.frame, .slice r.ca r.f.code.length r.cc]
theorem fnCells_len (r : FnR) : (fnCells r).length = 5 := rfl
def glCells (g : Glo) : List Value := [.string (sb g.name), .int .i64 g.pos, .int .i64 g.size, .int .i64 g.init]
theorem glCells_len (g : Glo) : (glCells g).length = 4 := rfl
/-- The code of a function lies in memory. -/
def CodeAt (w : World) (B : Nat) (r : FnR) : Prop := RowAt w B r.ca (r.f.code.flatMap inCells)
theorem CodeAt.below {w w' : World} {B : Nat} {r : FnR} (h : CodeAt w B r) (hb : Below B w w') : CodeAt w' B r := RowAt.below h hb
/-- The numbers of an instruction are ints. -/
def Wd (n : Int) : Prop := -9223372036854775808 ≤ n ∧ n ≤ 9223372036854775807
structure InW (i : Ins) : Prop where
  kind : Wd i.kind
  op : Wd i.op
  dst : Wd i.dst
  a : Wd i.a
  b : Wd i.b
  n : Wd i.n
  args : ∀ x ∈ i.args, Wd x
  dest : Wd i.dest
  els : Wd i.els
  text : i.text.length ≤ maxLen
end Go.Proofs.Ytgnpbodhjmappaa
