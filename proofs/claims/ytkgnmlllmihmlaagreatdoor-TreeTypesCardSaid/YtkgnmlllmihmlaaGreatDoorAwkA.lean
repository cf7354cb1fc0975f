/-
  The laws' own 'same' and 'bound'.
-/
import Derived.Test.YtkgnmlllmihmlaaGreatDoorListG
import Derived.Laws.StructEq
namespace Go.Proofs.YtkgnmlllmihmlaaGreatDoor
open Go.RowKit Sp Tr Go.Shelf
set_option linter.unusedVariables false

theorem nd_neq (a : Nd) (W : World) : (binOp .neq 33 (ndV a) (ndV a)).run Tryz.prog W = .ok (.bool false) W := by
  have hS : Tryz.prog.underlying 33 = some (.struct (Tryz.prog.fieldsOf 33)) := by kernel_rfl
  have hp : Tryz.prog.stoodInHeld 33 = false := by kernel_rfl
  rw [run_neq_struct, show (10000 : Nat) = 9999 + 1 from rfl, run_equalIn_agg W 9999 33 _ _ hS hp]
  have u3 := Tryz.underlying3
  have a3 := Tryz.isAgg3
  have z3 := Tryz.sizeOf3
  have u9 := Tryz.underlying9
  have a9 := Tryz.isAgg9
  have z9 := Tryz.sizeOf9
  simp only [Program.fieldsOf, Tryz.underlying33]
  go_simp
theorem ty_neq (a : Ty) (W : World) : (binOp .neq 36 (tyV a) (tyV a)).run Tryz.prog W = .ok (.bool false) W := by
  have hS : Tryz.prog.underlying 36 = some (.struct (Tryz.prog.fieldsOf 36)) := by kernel_rfl
  have hp : Tryz.prog.stoodInHeld 36 = false := by kernel_rfl
  rw [run_neq_struct, show (10000 : Nat) = 9999 + 1 from rfl, run_equalIn_agg W 9999 36 _ _ hS hp]
  have u3 := Tryz.underlying3
  have a3 := Tryz.isAgg3
  have z3 := Tryz.sizeOf3
  have u9 := Tryz.underlying9
  have a9 := Tryz.isAgg9
  have z9 := Tryz.sizeOf9
  simp only [Program.fieldsOf, Tryz.underlying36]
  go_simp
/-- A tree's node, or one of zeros. -/
def atN (T : Tr.Tree) (n : Int) : Nd := if n < 0 then ⟨0, 0, 0, 0, 0, [], 0, 0, 0⟩ else T.nodes.getD n.toNat ⟨0, 0, 0, 0, 0, [], 0, 0, 0⟩
theorem TreeIn.row {w : World} {B g n cap : Nat} {vt : Value} {T : Tr.Tree} (h : TreeIn w B (.slice (some ⟨g, 0, none⟩) n cap) vt T) {i : Nat} {x : Nd} (hi : T.nodes[i]? = some x) :
    w.cell? ⟨g, i * 9, none⟩ = some (.int .i64 x.kind) ∧ w.cell? ⟨g, i * 9 + 1, none⟩ = some (.int .i64 x.a) ∧ w.cell? ⟨g, i * 9 + 2, none⟩ = some (.int .i64 x.b) ∧ w.cell? ⟨g, i * 9 + 3, none⟩ = some (.int .i64 x.c) ∧ w.cell? ⟨g, i * 9 + 4, none⟩ = some (.int .i64 x.d) ∧ w.cell? ⟨g, i * 9 + 5, none⟩ = some (.string (bt x.text)) ∧ w.cell? ⟨g, i * 9 + 6, none⟩ = some (.int .i64 x.n) ∧ w.cell? ⟨g, i * 9 + 7, none⟩ = some (.int .i64 x.ty) ∧ w.cell? ⟨g, i * 9 + 8, none⟩ = some (.int .i64 x.pos) :=
  ⟨h.node hi 0 _ (by omega) rfl, h.node hi 1 _ (by omega) rfl, h.node hi 2 _ (by omega) rfl, h.node hi 3 _ (by omega) rfl, h.node hi 4 _ (by omega) rfl, h.node hi 5 _ (by omega) rfl, h.node hi 6 _ (by omega) rfl, h.node hi 7 _ (by omega) rfl, h.node hi 8 _ (by omega) rfl⟩
theorem TreeIn.ty {w : World} {B g n cap : Nat} {vn : Value} {T : Tr.Tree} (h : TreeIn w B vn (.slice (some ⟨g, 0, none⟩) n cap) T) {i : Nat} {t : Ty} (hi : T.types[i]? = some t) :
    w.cell? ⟨g, i * 4, none⟩ = some (.int .i64 t.kind) ∧ w.cell? ⟨g, i * 4 + 1, none⟩ = some (.int .i64 t.elem) ∧ w.cell? ⟨g, i * 4 + 2, none⟩ = some (.int .i64 t.n) ∧ w.cell? ⟨g, i * 4 + 3, none⟩ = some (.string (bt t.name)) := by
  have hc := h.types.cells (g := g) rfl
  have hadd : ∀ j, (⟨g, 0, none⟩ : Addr).add j = ⟨g, j, none⟩ := fun j => by unfold Addr.add; split <;> simp_all
  have c : ∀ j, j < 4 → ∀ u, (tyCells t)[j]? = some u → w.cell? ⟨g, i * 4 + j, none⟩ = some u := fun j hj u hu => by
    have := hc (i * 4 + j) u (by rw [flat_at tyCells 4 (fun _ => rfl) T.types i j t hi hj]; exact hu)
    rwa [hadd] at this
  exact ⟨c 0 (by omega) _ rfl, c 1 (by omega) _ rfl, c 2 (by omega) _ rfl, c 3 (by omega) _ rfl⟩
theorem TreeIn.nodeForm {w : World} {B n cap : Nat} {a : Option Addr} {vt : Value} {T : Tr.Tree} (h : TreeIn w B (.slice a n cap) vt T) (hn : 0 < T.nodes.length) : ∃ g, a = some ⟨g, 0, none⟩ ∧ g < w.heap.size := by
  obtain ⟨g, cap2, hv, _, hg⟩ := h.nodes.form hn
  simp only [Value.slice.injEq] at hv
  exact ⟨g, hv.1, hg⟩
theorem TreeIn.typeForm {w : World} {B n cap : Nat} {a : Option Addr} {vn : Value} {T : Tr.Tree} (h : TreeIn w B vn (.slice a n cap) T) (hn : 0 < T.types.length) : ∃ g, a = some ⟨g, 0, none⟩ ∧ g < w.heap.size := by
  obtain ⟨g, cap2, hv, _, hg⟩ := h.types.form hn
  simp only [Value.slice.injEq] at hv
  exact ⟨g, hv.1, hg⟩
abbrev trO (vn vt : Value) (T : Tr.Tree) : Obj := .cells #[vn, vt, .int .i64 T.top] 26
set_option maxHeartbeats 1000000 in
theorem at_t {w : World} {B b : Nat} {vn vt : Value} {T : Tr.Tree} (h : TreeIn w B vn vt T) (hb : w.heap[b]? = some (trO vn vt T)) (n : Int) (hn : -9223372036854775808 ≤ n ∧ n ≤ 9223372036854775807) :
    Calls Tryz.prog 36 #[.int .i64 n, .pointer (some ⟨b, 0, none⟩)] w (RPost (ndV (atN T n)) w) := by
  obtain ⟨an, cn, rfl⟩ := row_slice h.nodes
  obtain ⟨ay, cy, rfl⟩ := row_slice h.types
  have hln := h.ln
  obtain ⟨r0, r1, r2, _, _, _⟩ := nv3 hb
  have hz := lt_heap hb
  by_cases h0 : n < 0
  · have e : atN T n = ⟨0, 0, 0, 0, 0, [], 0, 0, 0⟩ := by unfold atN; rw [if_pos h0]
    rw [e]
    have e1 : decide (n < (0 : Int)) = true := by simpa using h0
    clear h hb
    go_enter Tryz.func36, Tryz.ntmps36
    go_wp2
    obtain ⟨f0, f1, f2, f3, f4, f5, f6, f7, f8, _⟩ := nv9 (heap_alloc_new w (ndO ⟨0, 0, 0, 0, 0, [], 0, 0, 0⟩))
    exact bodyPost_ret (v := ndV ⟨0, 0, 0, 0, 0, [], 0, 0, 0⟩) (by simp [results, Tryz.results36, go_sem, f0, f1, f2, f3, f4, f5, f6, f7, f8] <;> rfl) rfl ⟨rfl, (Below.refl _ _).alloc (Nat.le_refl _) _⟩
  · obtain ⟨q, rfl⟩ : ∃ q : Nat, n = q := ⟨n.toNat, by omega⟩
    have e1 : decide ((q : Int) < (0 : Int)) = false := by simp
    by_cases hq : q < T.nodes.length
    · obtain ⟨x, hx⟩ : ∃ x, T.nodes[q]? = some x := ⟨_, List.getElem?_eq_getElem hq⟩
      obtain ⟨g, rfl, hg⟩ := h.nodeForm (by omega)
      obtain ⟨c0, c1, c2, c3, c4, c5, c6, c7, c8⟩ := h.row hx
      have e : atN T q = x := by unfold atN; rw [if_neg h0, Int.toNat_natCast, List.getD_eq_getElem?_getD, hx]; rfl
      rw [e]
      have q0 : (0 : Int) ≤ (q : Int) := Int.natCast_nonneg _
      have q1 : (q : Int) < (T.nodes.length : Int) := by omega
      have e2 : decide ((q : Int) ≥ (T.nodes.length : Int)) = false := by simpa using hq
      clear h hx hb
      go_enter Tryz.func36, Tryz.ntmps36
      go_wp2
      obtain ⟨f0, f1, f2, f3, f4, f5, f6, f7, f8, _⟩ := nv9 (heap_alloc_new w (ndO x))
      exact bodyPost_ret (v := ndV x) (by simp [results, Tryz.results36, go_sem, f0, f1, f2, f3, f4, f5, f6, f7, f8] <;> rfl) rfl ⟨rfl, (Below.refl _ _).alloc (Nat.le_refl _) _⟩
    · have e : atN T q = ⟨0, 0, 0, 0, 0, [], 0, 0, 0⟩ := by unfold atN; rw [if_neg h0, Int.toNat_natCast, List.getD_eq_getElem?_getD, List.getElem?_eq_none (by omega)]; rfl
      rw [e]
      have e2 : decide ((q : Int) ≥ (T.nodes.length : Int)) = true := by simp; omega
      clear h hb
      go_enter Tryz.func36, Tryz.ntmps36
      go_wp2
      obtain ⟨f0, f1, f2, f3, f4, f5, f6, f7, f8, _⟩ := nv9 (heap_alloc_new w (ndO ⟨0, 0, 0, 0, 0, [], 0, 0, 0⟩))
      exact bodyPost_ret (v := ndV ⟨0, 0, 0, 0, 0, [], 0, 0, 0⟩) (by simp [results, Tryz.results36, go_sem, f0, f1, f2, f3, f4, f5, f6, f7, f8] <;> rfl) rfl ⟨rfl, (Below.refl _ _).alloc (Nat.le_refl _) _⟩
theorem atN_at {T : Tr.Tree} {q : Nat} {x : Nd} (h : T.nodes[q]? = some x) : atN T q = x := by
  unfold atN; rw [if_neg (by omega), Int.toNat_natCast, List.getD_eq_getElem?_getD, h]; rfl
set_option maxHeartbeats 4000000 in
theorem same_t {w : World} {B1 B2 : Nat} {vn vt un ut : Value} {T U : Tr.Tree} (h1 : TreeIn w B1 vn vt T) (h2 : TreeIn w B2 un ut U) (hl : T.nodes.length = U.nodes.length) (hyy : T.types = U.types) (ht : T.top = U.top)
    (hn : ∀ (i : Nat) (x : Nd), T.nodes[i]? = some x → ∃ p : Int, U.nodes[i]? = some ⟨x.kind, x.a, x.b, x.c, x.d, x.text, x.n, x.ty, p⟩) :
    Calls Tryz.prog 17 #[.agg #[vn, vt, .int .i64 T.top], .agg #[un, ut, .int .i64 U.top]] w (RPost (.bool true) w) := by
  obtain ⟨an, cn, rfl⟩ := row_slice h1.nodes
  obtain ⟨ay, cy, rfl⟩ := row_slice h1.types
  obtain ⟨bn, dn, rfl⟩ := row_slice h2.nodes
  obtain ⟨by', dy, rfl⟩ := row_slice h2.types
  have hln := h1.ln
  have hlt := h1.lt
  rw [← hl, ← hyy] at h2
  have HL := Lib.hid hl
  have HN := Lib.hid hn; clear hn
  have HY := Lib.hid hyy
  rw [← hl, ← hyy, ← ht]
  clear hl ht hyy
  have HM : Hid (∀ (wr : World), Below w.heap.size w wr → TreeIn wr B1 (.slice an T.nodes.length cn) (.slice ay T.types.length cy) T ∧ TreeIn wr B2 (.slice bn T.nodes.length dn) (.slice by' T.types.length dy) U) := Lib.hid (fun wr h => ⟨h1.below h, h2.below h⟩)
  clear h1 h2
  go_enter Tryz.func17, Tryz.ntmps17
  go_wp2
  go_loopg [35] T.nodes.length (fun gk s35 wr => ∃ k : Nat, gk = T.nodes.length - k ∧ k ≤ T.nodes.length ∧ s35 = .int .i64 k ∧ Hid (Below w.heap.size w wr) ∧ Hid (wr.heap[w.heap.size]? = some (.cells #[.slice an T.nodes.length cn, .slice ay T.types.length cy, .int .i64 T.top] 26 (0, 0))) ∧ Hid (wr.heap[w.heap.size + 1]? = some (.cells #[.slice bn T.nodes.length dn, .slice by' T.types.length dy, .int .i64 T.top] 26 (0, 0))))
  case atStart => exact ⟨0, rfl, by omega, rfl, Lib.hid (((Below.refl _ _).alloc (Nat.le_refl _) _).alloc (by simp) _), Lib.hid ((Below.heap_alloc _ _ _ (by simp)).trans (heap_alloc_new w _)), Lib.hid (by have := heap_alloc_new (w.alloc (.cells #[.slice an T.nodes.length cn, .slice ay T.types.length cy, .int .i64 T.top] 26 (0, 0))) (.cells #[.slice bn T.nodes.length dn, .slice by' T.types.length dy, .int .i64 T.top] 26 (0, 0)); rw [World.size_alloc] at this; exact this)⟩
  case round =>
    obtain ⟨k, hg, hk, rfl, HB, HX, HZ⟩ := hrel
    subst hg
    obtain ⟨r0, r1, r2, _, _, _⟩ := nv3 HX.out
    obtain ⟨y0, y1, y2, _, _, _⟩ := nv3 HZ.out
    have zx := lt_heap HX.out
    have zz := lt_heap HZ.out
    by_cases hlk : k < T.nodes.length
    · obtain ⟨x, hx⟩ : ∃ x, T.nodes[k]? = some x := ⟨_, List.getElem?_eq_getElem hlk⟩
      obtain ⟨p, hu⟩ := HN.out k x hx
      obtain ⟨t1, t2⟩ := HM.out wr HB.out
      obtain ⟨g, rfl, zg⟩ := t1.nodeForm (by omega)
      obtain ⟨g2, rfl, zg2⟩ := t2.nodeForm (by rw [← HL.out]; omega)
      obtain ⟨c0, c1, c2, c3, c4, c5, c6, c7, c8⟩ := t1.row hx
      obtain ⟨d0, d1, d2, d3, d4, d5, d6, d7, d8⟩ := t2.row hu
      have q0 : (0 : Int) ≤ (k : Int) := Int.natCast_nonneg _
      have q1 : (k : Int) < (T.nodes.length : Int) := by omega
      have nq := nd_neq ⟨x.kind, x.a, x.b, x.c, x.d, x.text, x.n, x.ty, 0⟩
      clear t1 t2 hx hu
      go_wp2
      go_roundg (T.nodes.length - (k + 1))
      case measure => omega
      case rel =>
        have hb := ((Below.refl wr.heap.size wr).alloc (Nat.le_refl _) (ndO ⟨x.kind, x.a, x.b, x.c, x.d, x.text, x.n, x.ty, 0⟩)).alloc (by simp) (ndO ⟨x.kind, x.a, x.b, x.c, x.d, x.text, x.n, x.ty, 0⟩)
        exact ⟨k + 1, rfl, by omega, by go_num, Lib.hid (HB.out.trans (hb.mono HB.out.size)), Lib.hid ((hb.block _ zx).trans HX.out), Lib.hid ((hb.block _ zz).trans HZ.out)⟩
    · obtain rfl : k = T.nodes.length := by omega
      go_wp2
      go_loopg [54] T.types.length (fun gk s54 wr2 => ∃ k : Nat, gk = T.types.length - k ∧ k ≤ T.types.length ∧ s54 = .int .i64 k ∧ Hid (Below w.heap.size w wr2) ∧ Hid (wr2.heap[w.heap.size]? = some (.cells #[.slice an T.nodes.length cn, .slice ay T.types.length cy, .int .i64 T.top] 26 (0, 0))) ∧ Hid (wr2.heap[w.heap.size + 1]? = some (.cells #[.slice bn T.nodes.length dn, .slice by' T.types.length dy, .int .i64 T.top] 26 (0, 0))))
      case atStart => exact ⟨0, rfl, by omega, rfl, HB, HX, HZ⟩
      case round =>
        clear HB HX HZ r0 r1 r2 y0 y1 y2 zx zz
        obtain ⟨k, hg, hk, rfl, HB, HX, HZ⟩ := hrel
        subst hg
        obtain ⟨r0, r1, r2, _, _, _⟩ := nv3 HX.out
        obtain ⟨y0, y1, y2, _, _, _⟩ := nv3 HZ.out
        have zx := lt_heap HX.out
        have zz := lt_heap HZ.out
        by_cases hlk : k < T.types.length
        · obtain ⟨x, hx⟩ : ∃ x, T.types[k]? = some x := ⟨_, List.getElem?_eq_getElem hlk⟩
          have hu : U.types[k]? = some x := by rw [← HY.out]; exact hx
          obtain ⟨t1, t2⟩ := HM.out _ HB.out
          obtain ⟨g, rfl, zg⟩ := t1.typeForm (by omega)
          obtain ⟨g2, rfl, zg2⟩ := t2.typeForm (by rw [← HY.out]; omega)
          obtain ⟨c0, c1, c2, c3⟩ := t1.ty hx
          obtain ⟨d0, d1, d2, d3⟩ := t2.ty hu
          have q0 : (0 : Int) ≤ (k : Int) := Int.natCast_nonneg _
          have q1 : (k : Int) < (T.types.length : Int) := by omega
          have nq := ty_neq x
          clear t1 t2 hx hu
          go_wp2
          go_quiet (fail)
          go_wp2
          go_roundg (T.types.length - (k + 1))
          case measure => omega
          case rel => exact ⟨k + 1, rfl, by omega, by go_num, Lib.hid (drN HB.out _), HX, HZ⟩
        · obtain rfl : k = T.types.length := by omega
          go_wp2
          go_ret
          exact ⟨rfl, HB.out⟩
end Go.Proofs.YtkgnmlllmihmlaaGreatDoor
