/-
  FlowLeast in memory: the table of what comes, beside the one that is told.
-/
import Derived.Test.YtbalbdhbmcdbaaaQLP
import Derived.Test.YtbalbdhbmcdbaaaQLR
namespace Go.Proofs.Ytbalbdhbmcdbaaa
set_option maxRecDepth 100000
open Go.RowKit Cd Go.Maps
set_option linter.unusedVariables false
set_option linter.unusedSimpArgs false

theorem wpList_append_rowN {w : World} {ops : Array Oper} {rest : List Oper} {o : Oper} {a : Act} {Q : Exit → Act → World → Prop} (hgd : o.guard = none) (s x : Operand)
    (ho : o.op = .call { callee := .builtin .append, args := #[s, x], argTypes := #[59, 59] })
    (g : Nat) (hg : w.heap[g]? = some (.cells #[] 58 (0, 0))) (hs : a.eval s = .slice (some ⟨g, 0, none⟩) 0 0) (pa : Option Addr) (v : List Val) (n : Nat) (hn : v.length = n) (pc : Nat) (hx : a.eval x = .slice pa n pc) (hp : ValsAt w w.heap.size pa v) (hl : n ≤ 5000)
    (h : ∀ g' c' w', g ≤ g' → Below g w w' → RowV w' g' v → wpList Try.prog ops Q rest (a.put o.dst (.slice (some ⟨g', 0, none⟩) n c')) w') : wpList Try.prog ops Q (o :: rest) a w := by
  subst hn
  exact wpList_append_row hgd s x ho g hg hs pa v pc hx hp hl h
/-- What lies from a block on is as it was. -/
def KeepHi (lo : Nat) (w w' : World) : Prop := w.heap.size ≤ w'.heap.size ∧ ∀ b, lo ≤ b → b < w.heap.size → w'.heap[b]? = w.heap[b]?
theorem KeepHi.refl (lo : Nat) (w : World) : KeepHi lo w w := ⟨Nat.le_refl _, fun _ _ _ => rfl⟩
theorem KeepHi.trans {lo : Nat} {w w1 w2 : World} (h : KeepHi lo w w1) (k : KeepHi lo w1 w2) : KeepHi lo w w2 := ⟨Nat.le_trans h.1 k.1, fun b hb hl => (k.2 b hb (Nat.lt_of_lt_of_le hl h.1)).trans (h.2 b hb hl)⟩
theorem KeepHi.of_below {lo : Nat} {w w' : World} (h : Below w.heap.size w w') : KeepHi lo w w' := ⟨h.size, fun b _ hl => h.block b hl⟩
theorem KeepHi.set {lo g : Nat} (w : World) (hg : g < lo) (j : Nat) (u : Value) : KeepHi lo w (w.setCell ⟨g, j, none⟩ u) := ⟨by simp, fun b hb _ => heap_oth (by omega)⟩
/-- The table of what comes; what lay ahead of it is as it was. -/
structure LeSt (W wT w : World) (r : FnR) (A : Nat) (C : List (List Val)) : Prop where
  ah : AhSt W w r A C
  kb : Below A wT w
theorem LeSt.below {W wT w w' : World} {r : FnR} {A : Nat} {C : List (List Val)} (h : LeSt W wT w r A C) (hb : Below w.heap.size w w') : LeSt W wT w' r A C := ⟨h.ah.below hb, h.kb.trans (hb.mono (by have := h.ah.big; omega))⟩
theorem LeSt.drew {W wT w : World} {r : FnR} {A : Nat} {C : List (List Val)} (h : LeSt W wT w r A C) : LeSt W wT w.drew r A C := ⟨⟨h.ah.fb, h.ah.code, h.ah.ah, h.ah.rows, h.ah.hA, h.ah.big, drW h.ah.hb⟩, drW h.kb⟩
theorem LeSt.cell {W wT w : World} {r : FnR} {A R : Nat} {C : List (List Val)} (h : LeSt W wT w r A C) (hR : r.f.regs.toNat = R) {j : Nat} (hj : j < C.length) : w.cell? ⟨A, j, none⟩ = some (.slice (some ⟨A + 1 + j, 0, none⟩) R R) ∧ A < w.heap.size := by
  have := h.ah.cell hj
  rw [hR] at this
  exact ⟨this, by have := h.ah.big; omega⟩
theorem LeSt.row {W wT w : World} {r : FnR} {A : Nat} {C : List (List Val)} (h : LeSt W wT w r A C) {p z : Nat} {l : List Val} {x : Val} (hp : C[p]? = some l) (hz : l[z]? = some x) : w.cell? ⟨A + 1 + p, z * 2, none⟩ = some (.int .i64 x.kind) ∧ w.cell? ⟨A + 1 + p, z * 2 + 1, none⟩ = some (.int .i64 x.n) ∧ A + 1 + p < w.heap.size ∧ ∀ j, w.frozen? ⟨A + 1 + p, j, none⟩ = false := by
  obtain ⟨h1, _⟩ := h.ah.rows p l hp
  exact ⟨(h1.cells hz).1, (h1.cells hz).2, h1.lt, fun j => h1.frozen j⟩
theorem LeSt.put {W wT w : World} {r : FnR} {A : Nat} {C : List (List Val)} (h : LeSt W wT w r A C) {p z : Nat} {l : List Val} (hp : C[p]? = some l) (hz : z < l.length) (x : Val) : LeSt W wT ((w.setCell ⟨A + 1 + p, z * 2, none⟩ (.int .i64 x.kind)).setCell ⟨A + 1 + p, z * 2 + 1, none⟩ (.int .i64 x.n)) r A (C.set p (l.set z x)) := by
  have hA := h.ah.hA
  have hm : Mvd (A + 1 + p) W.heap.size w ((w.setCell ⟨A + 1 + p, z * 2, none⟩ (.int .i64 x.kind)).setCell ⟨A + 1 + p, z * 2 + 1, none⟩ (.int .i64 x.n)) := ((Mvd.refl _ _ _).set (by omega) _ _).set (by omega) _ _
  exact ⟨h.ah.moved hp hm ((h.ah.rows p l hp).1.set hz x) (by rw [List.length_set]), (h.kb.setCell (by simp <;> omega) _).setCell (by simp <;> omega) _⟩
theorem flat_at9 : ∀ {l : List Val} {z : Nat} {x : Val}, l[z]? = some x → (l.flatMap vlCells)[z * 2 + 1]? = some (.int .i64 x.n)
  | y :: l, 0, x, h => by
    simp only [List.getElem?_cons_zero, Option.some.injEq] at h
    subst h
    rfl
  | y :: l, z + 1, x, h => by
    have := flat_at9 (l := l) (z := z) (x := x) (by simpa using h)
    rw [show (z + 1) * 2 + 1 = (z * 2 + 1) + 1 + 1 by omega]
    simpa [List.flatMap_cons] using this
theorem flat_setK {l : List Val} {z : Nat} {x : Val} (hz : l[z]? = some x) (kd : Int) : (l.flatMap vlCells).set (z * 2) (.int .i64 kd) = (l.set z ⟨kd, x.n⟩).flatMap vlCells := by
  rw [← flat_set l z ⟨kd, x.n⟩ (List.getElem?_eq_some_iff.1 hz).1]
  apply List.ext_getElem?
  intro j
  by_cases hj : z * 2 + 1 = j
  · subst hj
    have hlen : z * 2 + 1 < (l.flatMap vlCells).length := by rw [flat_len vlCells_len]; have := (List.getElem?_eq_some_iff.1 hz).1; omega
    rw [List.getElem?_set_self (by rw [List.length_set]; exact hlen), List.getElem?_set_ne (by omega)]
    have hr := flat_at9 hz
    exact hr
  · rw [List.getElem?_set_ne hj]
theorem set_self {C : List (List Val)} {p : Nat} {c : List Val} (h : C[p]? = some c) : C.set p c = C := by
  apply List.ext_getElem?
  intro j
  by_cases hj : p = j
  · subst hj; rw [List.getElem?_set_self (List.getElem?_eq_some_iff.1 h).1, h]
  · rw [List.getElem?_set_ne hj]
theorem LeSt.putK {W wT w : World} {r : FnR} {A : Nat} {C : List (List Val)} (h : LeSt W wT w r A C) {p z : Nat} {l : List Val} {x : Val} (hp : C[p]? = some l) (hz : l[z]? = some x) (kd : Int) : LeSt W wT (w.setCell ⟨A + 1 + p, z * 2, none⟩ (.int .i64 kd)) r A (C.set p (l.set z ⟨kd, x.n⟩)) := by
  have hA := h.ah.hA
  have hm : Mvd (A + 1 + p) W.heap.size w (w.setCell ⟨A + 1 + p, z * 2, none⟩ (.int .i64 kd)) := (Mvd.refl _ _ _).set (by omega) _ _
  have hrow : ValRow (w.setCell ⟨A + 1 + p, z * 2, none⟩ (.int .i64 kd)) (A + 1 + p) (l.set z ⟨kd, x.n⟩) := by
    have h1 := cells_set (h.ah.rows p l hp).1 (z * 2) (.int .i64 kd)
    unfold ValRow
    rw [h1, List.setIfInBounds_toArray, flat_setK hz]
  exact ⟨h.ah.moved hp hm hrow (by rw [List.length_set]), h.kb.setCell (by simp <;> omega) _⟩
theorem LeSt.make {W wT w : World} {r : FnR} (h : L1St wT w wT.heap.size r.f.regs.toNat r.f.code.length r.f.code.length) (hs : LwSt W wT r) (hc : CodeAt wT W.heap.size r) : LeSt W wT w r wT.heap.size (zerosV r.f) :=
  ⟨h.all rfl hs.hb hs.fb hc, h.hb⟩
theorem LeSt.lw {W wT w : World} {r : FnR} {A : Nat} {C : List (List Val)} (h : LeSt W wT w r A C) (hl : r.f.code.length ≤ maxLen) : LwSt W w r := ⟨h.ah.fb, ⟨RowAt.mono h.ah.code (by have := h.ah.hA; have := h.ah.big; omega) (Nat.le_refl _), hl⟩, h.ah.hb⟩
theorem set_set_row {C : List (List Val)} {p : Nat} (a b : List Val) : (C.set p a).set p b = C.set p b := by rw [List.set_set]
/-- A round's state: the table, the instruction's box, a row of its own. -/
structure LnSt (W wT w : World) (r : FnR) (A X g : Nat) (C : List (List Val)) (i : Ins) (u : List Val) : Prop where
  le : LeSt W wT w r A C
  bx : w.heap[X]? = some (inO i)
  rw : RowV w g u
  hX : A + 1 + C.length ≤ X
  hg : X < g
theorem LnSt.below {W wT w w' : World} {r : FnR} {A X g : Nat} {C : List (List Val)} {i : Ins} {u : List Val} (h : LnSt W wT w r A X g C i u) (hb : Below w.heap.size w w') : LnSt W wT w' r A X g C i u :=
  ⟨h.le.below hb, (hb.block _ (lt_heap h.bx)).trans h.bx, h.rw.below hb, h.hX, h.hg⟩
theorem LeSt.over {W wT w w' : World} {r : FnR} {A : Nat} {C : List (List Val)} (h : LeSt W wT w r A C) (hk : ∀ b, b < A + 1 + C.length → w'.heap[b]? = w.heap[b]?) (hb : Below (A + 1 + C.length) w w') : LeSt W wT w' r A C :=
  ⟨h.ah.keep hk hb.size (hb.mono (by have := h.ah.hA; omega)), h.kb.trans (hb.mono (by omega))⟩
theorem LnSt.oth {W wT w : World} {r : FnR} {A X g : Nat} {C : List (List Val)} {i : Ins} {u : List Val} (h : LnSt W wT w r A X g C i u) {Y : Nat} (h1 : X < Y) (h2 : Y ≠ g) (j : Nat) (v : Value) : LnSt W wT (w.setCell ⟨Y, j, none⟩ v) r A X g C i u := by
  have := h.hX
  exact ⟨h.le.over (fun b hb => heap_oth (by omega)) ((Below.refl _ _).setCell (by simp <;> omega) _), (heap_oth (by omega)).trans h.bx, h.rw.keep (heap_oth (by omega)), h.hX, h.hg⟩
theorem LnSt.set {W wT w : World} {r : FnR} {A X g : Nat} {C : List (List Val)} {i : Ins} {u : List Val} (h : LnSt W wT w r A X g C i u) {k : Nat} (hk : k < u.length) (x : Val) : LnSt W wT ((w.setCell ⟨g, k * 2, none⟩ (.int .i64 x.kind)).setCell ⟨g, k * 2 + 1, none⟩ (.int .i64 x.n)) r A X g C i (u.set k x) := by
  have h1 := h.hX
  have h2 := h.hg
  exact ⟨h.le.over (fun b hb => (heap_oth (by omega)).trans (heap_oth (by omega))) (((Below.refl _ _).setCell (by simp <;> omega) _).setCell (by simp <;> omega) _), (heap_oth (by omega)).trans ((heap_oth (by omega)).trans h.bx), h.rw.set hk x, h.hX, h.hg⟩
/-- The round's own things stay while rows of the table change. -/
theorem LnSt.move {W wT w w' : World} {r : FnR} {A X g lo : Nat} {C C' : List (List Val)} {i : Ins} {u : List Val} (h : LnSt W wT w r A X g C i u) (hl : LeSt W wT w' r A C') (hk : KeepHi lo w w') (hlo : lo ≤ X) (hc : C'.length = C.length) : LnSt W wT w' r A X g C' i u :=
  ⟨hl, (hk.2 _ hlo (lt_heap h.bx)).trans h.bx, h.rw.keep (hk.2 _ (by have := h.hg; omega) h.rw.lt), by rw [hc]; exact h.hX, h.hg⟩
end Go.Proofs.Ytbalbdhbmcdbaaa
