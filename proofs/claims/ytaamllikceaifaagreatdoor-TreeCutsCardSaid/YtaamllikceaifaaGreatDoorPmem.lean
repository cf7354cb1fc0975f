/-
  The parser in memory: its own block, its tokens, the rows of its nodes and of its types; what a method of it may write.
-/
import Derived.Test.YtaamllikceaifaaGreatDoorBytes
import Derived.Test.YtaamllikceaifaaGreatDoorTree
import Derived.Deep.AppendLies
import Derived.OwnWalk
import Derived.Deep.QuietTactic
import Derived.BigQuiet
namespace Go.Proofs.YtaamllikceaifaaGreatDoor
open Go.RowKit Sp Tr
set_option linter.unusedVariables false

abbrev bt (l : List UInt8) : ByteArray := ⟨l.toArray⟩
abbrev tkV (t : Tok) : Value := .agg #[.int .i64 t.k, .string (bt t.text), .int .i64 t.n, .int .i64 t.pos]
def tkCells (t : Tok) : List Value := [.int .i64 t.k, .string (bt t.text), .int .i64 t.n, .int .i64 t.pos]
abbrev ndV (n : Nd) : Value := .agg #[.int .i64 n.kind, .int .i64 n.a, .int .i64 n.b, .int .i64 n.c, .int .i64 n.d, .string (bt n.text), .int .i64 n.n, .int .i64 n.ty, .int .i64 n.pos]
def ndCells (n : Nd) : List Value := [.int .i64 n.kind, .int .i64 n.a, .int .i64 n.b, .int .i64 n.c, .int .i64 n.d, .string (bt n.text), .int .i64 n.n, .int .i64 n.ty, .int .i64 n.pos]
abbrev tyV (t : Ty) : Value := .agg #[.int .i64 t.kind, .int .i64 t.elem, .int .i64 t.n, .string (bt t.name)]
def tyCells (t : Ty) : List Value := [.int .i64 t.kind, .int .i64 t.elem, .int .i64 t.n, .string (bt t.name)]
def namesV : Array Value := #[.string (bt wVoid), .string (bt wInt), .string (bt wUnsigned), .string (bt wChar)]

/-- Where a parser lies: its block, its tokens' block and that slice's room, and the first block of its own. -/
structure PC where
  p : Nat
  g : Nat
  cap : Nat
  B : Nat
def pCells (c : PC) (vn vt : Value) (E : PE) (s : S) : Array Value :=
  #[.slice (some ⟨c.g, 0, none⟩) E.toks.length c.cap, .int .i64 E.fin.k, .string (bt E.fin.text), .int .i64 E.fin.n, .int .i64 E.fin.pos, .int .i64 s.read, .int .i64 s.depth, vn, vt, .int .i64 0, .int .i64 0]
structure PIn (w : World) (c : PC) (vn vt : Value) (E : PE) (s : S) : Prop where
  head : w.heap[c.p]? = some (.cells (pCells c vn vt E s) 76 (0, 0))
  toks : ∃ cs ty, w.heap[c.g]? = some (.cells cs ty (0, 0)) ∧ ∀ i t, E.toks[i]? = some t → ∀ j, j < 4 → cs[i * 4 + j]? = (tkCells t)[j]?
  nodes : w.ownsRow c.B 33 9 vn s.nodes.length (s.nodes.flatMap ndCells)
  types : w.ownsRow c.B 36 4 vt s.types.length (s.types.flatMap tyCells)
  names : ∃ ty fr, w.heap[0]? = some (.cells namesV ty fr)
  g0 : 0 < c.g
  gB : c.g < c.B
  ge : c.B ≤ c.p
  apn : vn.ownBlock ≠ some c.p
  apt : vt.ownBlock ≠ some c.p
  apx : ∀ k, vn.ownBlock = some k → vt.ownBlock ≠ some k
  rd : s.read ≤ big
  dp : s.depth ≤ big
  ln : s.nodes.length ≤ 8192
  lt : s.types.length ≤ 256
  tl : E.toks.length ≤ 32768
  kn : ∀ t, t ∈ E.fin :: E.toks → 0 ≤ t.k ∧ t.k ≤ 4 ∧ (t.n : Int) ≤ 4294967295 ∧ (t.pos : Int) ≤ 32768 ∧ t.text.length ≤ 32768
/-- What a method may write: its own three blocks, and new ones. -/
structure Turn (p : Nat) (vn vt vn' vt' : Value) (w w' : World) : Prop where
  os : w'.os = w.os
  tape : w'.tape = w.tape
  output : w'.output = w.output
  size : w.heap.size ≤ w'.heap.size
  block : ∀ k, k < w.heap.size → k ≠ p → vn.ownBlock ≠ some k → vt.ownBlock ≠ some k → w'.heap[k]? = w.heap[k]?
  ownN : ∀ g, vn'.ownBlock = some g → vn.ownBlock = some g ∨ w.heap.size ≤ g
  ownT : ∀ g, vt'.ownBlock = some g → vt.ownBlock = some g ∨ w.heap.size ≤ g
/-- A block that is none of the parser's. -/
structure Out (c : PC) (vn vt : Value) (b : Nat) : Prop where
  p : b ≠ c.p
  g : b ≠ c.g
  n : vn.ownBlock ≠ some b
  t : vt.ownBlock ≠ some b
  z : b ≠ 0
theorem Turn.refl (p : Nat) (vn vt : Value) (w : World) : Turn p vn vt vn vt w w := ⟨rfl, rfl, rfl, Nat.le_refl _, fun _ _ _ _ _ => rfl, fun _ h => .inl h, fun _ h => .inl h⟩
theorem Turn.trans {p : Nat} {vn vt v1 u1 v2 u2 : Value} {w w1 w2 : World} (h : Turn p vn vt v1 u1 w w1) (k : Turn p v1 u1 v2 u2 w1 w2) : Turn p vn vt v2 u2 w w2 := by
  refine ⟨k.os.trans h.os, k.tape.trans h.tape, k.output.trans h.output, Nat.le_trans h.size k.size, fun i hi hn hv ht => ?_, fun g hg => ?_, fun g hg => ?_⟩
  · rw [k.block i (Nat.lt_of_lt_of_le hi h.size) hn (fun e => ?_) (fun e => ?_)]
    · exact h.block i hi hn hv ht
    · rcases h.ownN i e with h1 | h1
      · exact hv h1
      · omega
    · rcases h.ownT i e with h1 | h1
      · exact ht h1
      · omega
  · rcases k.ownN g hg with h1 | h1
    · exact h.ownN g h1
    · exact .inr (Nat.le_trans h.size h1)
  · rcases k.ownT g hg with h1 | h1
    · exact h.ownT g h1
    · exact .inr (Nat.le_trans h.size h1)
theorem Turn.of_below {p : Nat} {vn vt : Value} {w w' : World} (h : Below w.heap.size w w') : Turn p vn vt vn vt w w' :=
  ⟨h.os, h.tape, h.output, h.size, fun k hk _ _ _ => h.block k hk, fun g hg => .inl hg, fun g hg => .inl hg⟩
theorem Turn.below {p : Nat} {vn vt v1 u1 : Value} {w w1 w2 : World} (h : Turn p vn vt v1 u1 w w1) (k : Below w1.heap.size w1 w2) : Turn p vn vt v1 u1 w w2 := h.trans (Turn.of_below k)
theorem Turn.alloc {p : Nat} {vn vt v1 u1 : Value} {w w1 : World} (h : Turn p vn vt v1 u1 w w1) (o : Obj) : Turn p vn vt v1 u1 w (w1.alloc o) := h.below ((Below.refl _ _).alloc (Nat.le_refl _) o)
theorem Turn.drew {p : Nat} {vn vt v1 u1 : Value} {w w1 : World} (h : Turn p vn vt v1 u1 w w1) : Turn p vn vt v1 u1 w w1.drew := h.below (Below.refl _ _).drew
theorem Turn.set {p : Nat} {vn vt v1 u1 : Value} {w w1 : World} (h : Turn p vn vt v1 u1 w w1) {b : Nat} (hb : w.heap.size ≤ b) (j : Nat) (u : Value) : Turn p vn vt v1 u1 w (w1.setCell ⟨b, j, none⟩ u) :=
  ⟨h.os, h.tape, h.output, by simp [World.setCell]; exact h.size, fun k hk hn hv ht => (Below.heap_setCell _ _ _ _ (by simp; omega)).trans (h.block k hk hn hv ht), h.ownN, h.ownT⟩
theorem Turn.setP {p : Nat} {vn vt v1 u1 : Value} {w w1 : World} (h : Turn p vn vt v1 u1 w w1) (j : Nat) (u : Value) : Turn p vn vt v1 u1 w (w1.setCell ⟨p, j, none⟩ u) :=
  ⟨h.os, h.tape, h.output, by simp [World.setCell]; exact h.size, fun k hk hn hv ht => (Below.heap_setCell _ _ _ _ (by simpa using hn)).trans (h.block k hk hn hv ht), h.ownN, h.ownT⟩
theorem Out.turn {c : PC} {vn vt vn' vt' : Value} {w w' : World} {b : Nat} (h : Out c vn vt b) (hb : b < w.heap.size) (ht : Turn c.p vn vt vn' vt' w w') : Out c vn' vt' b :=
  ⟨h.p, h.g, fun e => by rcases ht.ownN b e with h1 | h1; exact h.n h1; omega, fun e => by rcases ht.ownT b e with h1 | h1; exact h.t h1; omega, h.z⟩
theorem Turn.kept {c : PC} {vn vt vn' vt' : Value} {w w' : World} {b : Nat} (ht : Turn c.p vn vt vn' vt' w w') (h : Out c vn vt b) (hb : b < w.heap.size) : w'.heap[b]? = w.heap[b]? := ht.block b hb h.p h.n h.t
theorem lt_heap {w : World} {b : Nat} {o : Obj} (h : w.heap[b]? = some o) : b < w.heap.size := (Array.getElem?_eq_some_iff.1 h).1
theorem own_keep {w w' : World} {base : Nat} {e : TypeId} {size n : Nat} {v : Value} {xs : List Value} (h : w.ownsRow base e size v n xs) (hb : ∀ g, v.ownBlock = some g → w'.heap[g]? = w.heap[g]?) : w'.ownsRow base e size v n xs := by
  obtain ⟨h1, h2⟩ := h
  refine ⟨h1, ?_⟩
  rcases h2 with h2 | ⟨g, cap, cur, hv, hg, hh, r⟩
  · exact .inl h2
  · exact .inr ⟨g, cap, cur, hv, hg, (hb g (by simp [hv, Value.ownBlock])).trans hh, r⟩
/-- The parser lies as it lay. -/
theorem PIn.keep {w w' : World} {c : PC} {vn vt : Value} {E : PE} {s : S} (h : PIn w c vn vt E s) (hk : ∀ k, k < w.heap.size → (k = c.p ∨ k = c.g ∨ vn.ownBlock = some k ∨ vt.ownBlock = some k ∨ k = 0) → w'.heap[k]? = w.heap[k]?) : PIn w' c vn vt E s := by
  obtain ⟨cs, ty, ht, ht2⟩ := h.toks
  obtain ⟨ty2, fr2, hn⟩ := h.names
  refine ⟨(hk _ (lt_heap h.head) (.inl rfl)).trans h.head, ⟨cs, ty, (hk _ (lt_heap ht) (.inr (.inl rfl))).trans ht, ht2⟩, own_keep h.nodes fun g hg => hk g (h.nodes.lt g hg).2 (.inr (.inr (.inl hg))), own_keep h.types fun g hg => hk g (h.types.lt g hg).2 (.inr (.inr (.inr (.inl hg)))), ⟨ty2, fr2, (hk _ (lt_heap hn) (.inr (.inr (.inr (.inr rfl))))).trans hn⟩, h.g0, h.gB, h.ge, h.apn, h.apt, h.apx, h.rd, h.dp, h.ln, h.lt, h.tl, h.kn⟩
theorem PIn.below {w w' : World} {c : PC} {vn vt : Value} {E : PE} {s : S} (h : PIn w c vn vt E s) (hb : Below w.heap.size w w') : PIn w' c vn vt E s := h.keep fun k hk _ => hb.block k hk
theorem PIn.alloc {w : World} {c : PC} {vn vt : Value} {E : PE} {s : S} (h : PIn w c vn vt E s) (o : Obj) : PIn (w.alloc o) c vn vt E s := h.below ((Below.refl _ _).alloc (Nat.le_refl _) o)
theorem PIn.drew {w : World} {c : PC} {vn vt : Value} {E : PE} {s : S} (h : PIn w c vn vt E s) : PIn w.drew c vn vt E s := h.below (Below.refl _ _).drew
theorem PIn.fresh {w : World} {c : PC} {vn vt : Value} {E : PE} {s : S} (h : PIn w c vn vt E s) {b : Nat} (hb : w.heap.size ≤ b) : Out c vn vt b := by
  have h1 := lt_heap h.head
  obtain ⟨cs, ty, ht, _⟩ := h.toks
  have h2 := lt_heap ht
  exact ⟨by omega, by omega, fun e => by have := (h.nodes.lt b e).2; omega, fun e => by have := (h.types.lt b e).2; omega, by omega⟩
theorem PIn.set {w : World} {c : PC} {vn vt : Value} {E : PE} {s : S} (h : PIn w c vn vt E s) {b : Nat} (hb : Out c vn vt b) (j : Nat) (u : Value) : PIn (w.setCell ⟨b, j, none⟩ u) c vn vt E s :=
  h.keep fun k hk hh => Below.heap_setCell _ _ _ _ (by
    rintro rfl
    rcases hh with e | e | e | e | e
    · exact hb.p e
    · exact hb.g e
    · exact hb.n e
    · exact hb.t e
    · exact hb.z e)
theorem PIn.turn_below {w w' : World} {c : PC} {vn vt vn' vt' : Value} {E : PE} {s : S} (h : PIn w c vn vt E s) (ht : Turn c.p vn vt vn' vt' w w') : Below c.B w w' := by
  have h1 := lt_heap h.head
  exact ⟨ht.os, ht.tape, ht.output, ht.size, fun k hk => ht.block k (by have := h.ge; omega) (by have := h.ge; omega) (fun e => by have := (h.nodes.lt k e).1; omega) (fun e => by have := (h.types.lt k e).1; omega)⟩
/-- The cells of the parser's own block. -/
theorem PIn.cells {w : World} {c : PC} {vn vt : Value} {E : PE} {s : S} (h : PIn w c vn vt E s) :
    w.cell? ⟨c.p, 0, none⟩ = some (.slice (some ⟨c.g, 0, none⟩) E.toks.length c.cap) ∧ w.cell? ⟨c.p, 1, none⟩ = some (.int .i64 E.fin.k) ∧ w.cell? ⟨c.p, 2, none⟩ = some (.string (bt E.fin.text)) ∧ w.cell? ⟨c.p, 3, none⟩ = some (.int .i64 E.fin.n) ∧ w.cell? ⟨c.p, 4, none⟩ = some (.int .i64 E.fin.pos) ∧
    w.cell? ⟨c.p, 5, none⟩ = some (.int .i64 s.read) ∧ w.cell? ⟨c.p, 6, none⟩ = some (.int .i64 s.depth) ∧ w.cell? ⟨c.p, 7, none⟩ = some vn ∧ w.cell? ⟨c.p, 8, none⟩ = some vt ∧ w.cell? ⟨c.p, 9, none⟩ = some (.int .i64 0) := by
  refine ⟨?_, ?_, ?_, ?_, ?_, ?_, ?_, ?_, ?_, ?_⟩ <;> (rw [cell_of_row w c.p _ _ _ _ h.head]; rfl)
theorem PIn.frozen {w : World} {c : PC} {vn vt : Value} {E : PE} {s : S} (h : PIn w c vn vt E s) (j : Nat) : w.frozen? ⟨c.p, j, none⟩ = false := by simp [World.frozen?, h.head]
theorem PIn.tok {w : World} {c : PC} {vn vt : Value} {E : PE} {s : S} (h : PIn w c vn vt E s) {i : Nat} {t : Tok} (hi : E.toks[i]? = some t) :
    w.cell? ⟨c.g, i * 4, none⟩ = some (.int .i64 t.k) ∧ w.cell? ⟨c.g, i * 4 + 1, none⟩ = some (.string (bt t.text)) ∧ w.cell? ⟨c.g, i * 4 + 2, none⟩ = some (.int .i64 t.n) ∧ w.cell? ⟨c.g, i * 4 + 3, none⟩ = some (.int .i64 t.pos) := by
  obtain ⟨cs, ty, hg, hc⟩ := h.toks
  have c0 := hc i t hi
  refine ⟨?_, ?_, ?_, ?_⟩ <;> rw [cell_of_row w c.g _ _ _ _ hg]
  · exact c0 0 (by omega)
  · exact c0 1 (by omega)
  · exact c0 2 (by omega)
  · exact c0 3 (by omega)
/-- The answer of what only reads. -/
def RPost (v : Value) (w : World) (e : Ending) (w' : World) : Prop := e = .returned v ∧ Below w.heap.size w w'
/-- The answer of what reads on. -/
def Post (c : PC) (vn vt : Value) (E : PE) (v : Value) (s' : S) (w : World) (e : Ending) (w' : World) : Prop :=
  ∃ vn' vt', e = .returned v ∧ PIn w' c vn' vt' E s' ∧ Turn c.p vn vt vn' vt' w w'
theorem cells_set {w : World} {b : Nat} {cs : Array Value} {t : TypeId} {fr : Nat × Nat} (h : w.heap[b]? = some (.cells cs t fr)) (j : Nat) (u : Value) : (w.setCell ⟨b, j, none⟩ u).heap[b]? = some (.cells (cs.setIfInBounds j u) t fr) := by
  simp only [World.setCell, Array.getElem?_modify, if_true, h, Option.map_some]; rfl
/-- The parser with another cell of its own. -/
theorem PIn.put {w : World} {c : PC} {vn vt : Value} {E : PE} {s s' : S} (h : PIn w c vn vt E s) {j : Nat} {u : Value} (hc : (pCells c vn vt E s).setIfInBounds j u = pCells c vn vt E s') (hn : s'.nodes = s.nodes) (ht : s'.types = s.types) (hr : s'.read ≤ big) (hd : s'.depth ≤ big) :
    PIn (w.setCell ⟨c.p, j, none⟩ u) c vn vt E s' := by
  have hz : ∀ k, k ≠ c.p → (w.setCell ⟨c.p, j, none⟩ u).heap[k]? = w.heap[k]? := fun k hk => Below.heap_setCell _ _ _ _ (by simpa using hk)
  have h1 := h.gB; have h2 := h.ge; have h3 := h.g0
  obtain ⟨cs, ty, hg, ht2⟩ := h.toks
  obtain ⟨ty2, fr2, hnm⟩ := h.names
  refine ⟨by rw [cells_set h.head, hc], ⟨cs, ty, (hz _ (by omega)).trans hg, ht2⟩, ?_, ?_, ⟨ty2, fr2, (hz _ (by omega)).trans hnm⟩, h.g0, h.gB, h.ge, h.apn, h.apt, h.apx, hr, hd, by rw [hn]; exact h.ln, by rw [ht]; exact h.lt, h.tl, h.kn⟩
  · rw [hn]; exact own_keep h.nodes fun g hg => hz g (fun e => h.apn (by rw [hg, e]))
  · rw [ht]; exact own_keep h.types fun g hg => hz g (fun e => h.apt (by rw [hg, e]))
theorem PIn.putRead {w : World} {c : PC} {vn vt : Value} {E : PE} {s : S} (h : PIn w c vn vt E s) (r : Nat) (hr : r ≤ big) : PIn (w.setCell ⟨c.p, 5, none⟩ (.int .i64 r)) c vn vt E { s with read := r } := h.put rfl rfl rfl hr h.dp
theorem PIn.putDepth {w : World} {c : PC} {vn vt : Value} {E : PE} {s : S} (h : PIn w c vn vt E s) (d : Nat) (hd : d ≤ big) : PIn (w.setCell ⟨c.p, 6, none⟩ (.int .i64 d)) c vn vt E { s with depth := d } := h.put rfl rfl rfl h.rd hd
theorem PIn.set4 {w : World} {c : PC} {vn vt : Value} {E : PE} {s : S} {b : Nat} {x0 x1 x2 x3 : Value} (h : PIn w c vn vt E s) (hb : Out c vn vt b) :
    PIn ((((w.setCell ⟨b, 0, none⟩ x0).setCell ⟨b, 1, none⟩ x1).setCell ⟨b, 2, none⟩ x2).setCell ⟨b, 3, none⟩ x3) c vn vt E s := (((h.set hb 0 _).set hb 1 _).set hb 2 _).set hb 3 _
theorem Turn.set4 {p : Nat} {vn vt v1 u1 : Value} {w w1 : World} {b : Nat} {x0 x1 x2 x3 : Value} (h : Turn p vn vt v1 u1 w w1) (hb : w.heap.size ≤ b) :
    Turn p vn vt v1 u1 w ((((w1.setCell ⟨b, 0, none⟩ x0).setCell ⟨b, 1, none⟩ x1).setCell ⟨b, 2, none⟩ x2).setCell ⟨b, 3, none⟩ x3) := (((h.set hb 0 _).set hb 1 _).set hb 2 _).set hb 3 _
end Go.Proofs.YtaamllikceaifaaGreatDoor
