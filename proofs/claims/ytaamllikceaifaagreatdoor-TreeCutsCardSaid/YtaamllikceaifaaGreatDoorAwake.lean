/-
  The laws' own 'same' and 'bound'.
  The laws' own 'bound' and 'awake'.
  The laws' own 'awake'.
-/
import Derived.Test.YtaamllikceaifaaGreatDoorRead
import Derived.Laws.StructEq
namespace Go.Proofs.YtaamllikceaifaaGreatDoor
open Go.RowKit Sp Tr Go.Shelf
set_option linter.unusedVariables false

theorem nd_neq (a : Nd) (W : World) : (binOp .neq 33 (ndV a) (ndV a)).run Tryz.prog W = .ok (.bool false) W := by
  have hS : Tryz.prog.underlying 33 = some (.struct (Tryz.prog.fieldsOf 33)) := by kernel_rfl
  have hp : Tryz.prog.stoodInHeld 33 = false := by kernel_rfl
  rw [run_neq_struct, show (10000 : Nat) = 9999 + 1 from rfl, run_equalIn_agg W 9999 33 _ _ hS hp]
  have u3 := Tryz.underlying3
  have a3 := Tryz.isAgg3
  have z3 := Tryz.sizeOf3
  have u9 := Tryz.underlying9
  have a9 := Tryz.isAgg9
  have z9 := Tryz.sizeOf9
  simp only [Program.fieldsOf, Tryz.underlying33]
  go_simp
theorem ty_neq (a : Ty) (W : World) : (binOp .neq 36 (tyV a) (tyV a)).run Tryz.prog W = .ok (.bool false) W := by
  have hS : Tryz.prog.underlying 36 = some (.struct (Tryz.prog.fieldsOf 36)) := by kernel_rfl
  have hp : Tryz.prog.stoodInHeld 36 = false := by kernel_rfl
  rw [run_neq_struct, show (10000 : Nat) = 9999 + 1 from rfl, run_equalIn_agg W 9999 36 _ _ hS hp]
  have u3 := Tryz.underlying3
  have a3 := Tryz.isAgg3
  have z3 := Tryz.sizeOf3
  have u9 := Tryz.underlying9
  have a9 := Tryz.isAgg9
  have z9 := Tryz.sizeOf9
  simp only [Program.fieldsOf, Tryz.underlying36]
  go_simp
/-- A tree's node, or one of zeros. -/
def atN (T : Tr.Tree) (n : Int) : Nd := if n < 0 then ⟨0, 0, 0, 0, 0, [], 0, 0, 0⟩ else T.nodes.getD n.toNat ⟨0, 0, 0, 0, 0, [], 0, 0, 0⟩
theorem TreeIn.row {w : World} {B g n cap : Nat} {vt : Value} {T : Tr.Tree} (h : TreeIn w B (.slice (some ⟨g, 0, none⟩) n cap) vt T) {i : Nat} {x : Nd} (hi : T.nodes[i]? = some x) :
    w.cell? ⟨g, i * 9, none⟩ = some (.int .i64 x.kind) ∧ w.cell? ⟨g, i * 9 + 1, none⟩ = some (.int .i64 x.a) ∧ w.cell? ⟨g, i * 9 + 2, none⟩ = some (.int .i64 x.b) ∧ w.cell? ⟨g, i * 9 + 3, none⟩ = some (.int .i64 x.c) ∧ w.cell? ⟨g, i * 9 + 4, none⟩ = some (.int .i64 x.d) ∧ w.cell? ⟨g, i * 9 + 5, none⟩ = some (.string (bt x.text)) ∧ w.cell? ⟨g, i * 9 + 6, none⟩ = some (.int .i64 x.n) ∧ w.cell? ⟨g, i * 9 + 7, none⟩ = some (.int .i64 x.ty) ∧ w.cell? ⟨g, i * 9 + 8, none⟩ = some (.int .i64 x.pos) :=
  ⟨h.node hi 0 _ (by omega) rfl, h.node hi 1 _ (by omega) rfl, h.node hi 2 _ (by omega) rfl, h.node hi 3 _ (by omega) rfl, h.node hi 4 _ (by omega) rfl, h.node hi 5 _ (by omega) rfl, h.node hi 6 _ (by omega) rfl, h.node hi 7 _ (by omega) rfl, h.node hi 8 _ (by omega) rfl⟩
theorem TreeIn.ty {w : World} {B g n cap : Nat} {vn : Value} {T : Tr.Tree} (h : TreeIn w B vn (.slice (some ⟨g, 0, none⟩) n cap) T) {i : Nat} {t : Ty} (hi : T.types[i]? = some t) :
    w.cell? ⟨g, i * 4, none⟩ = some (.int .i64 t.kind) ∧ w.cell? ⟨g, i * 4 + 1, none⟩ = some (.int .i64 t.elem) ∧ w.cell? ⟨g, i * 4 + 2, none⟩ = some (.int .i64 t.n) ∧ w.cell? ⟨g, i * 4 + 3, none⟩ = some (.string (bt t.name)) := by
  have hc := h.types.cells (g := g) rfl
  have hadd : ∀ j, (⟨g, 0, none⟩ : Addr).add j = ⟨g, j, none⟩ := fun j => by unfold Addr.add; split <;> simp_all
  have c : ∀ j, j < 4 → ∀ u, (tyCells t)[j]? = some u → w.cell? ⟨g, i * 4 + j, none⟩ = some u := fun j hj u hu => by
    have := hc (i * 4 + j) u (by rw [flat_at tyCells 4 (fun _ => rfl) T.types i j t hi hj]; exact hu)
    rwa [hadd] at this
  exact ⟨c 0 (by omega) _ rfl, c 1 (by omega) _ rfl, c 2 (by omega) _ rfl, c 3 (by omega) _ rfl⟩
theorem TreeIn.nodeForm {w : World} {B n cap : Nat} {a : Option Addr} {vt : Value} {T : Tr.Tree} (h : TreeIn w B (.slice a n cap) vt T) (hn : 0 < T.nodes.length) : ∃ g, a = some ⟨g, 0, none⟩ ∧ g < w.heap.size := by
  obtain ⟨g, cap2, hv, _, hg⟩ := h.nodes.form hn
  simp only [Value.slice.injEq] at hv
  exact ⟨g, hv.1, hg⟩
theorem TreeIn.typeForm {w : World} {B n cap : Nat} {a : Option Addr} {vn : Value} {T : Tr.Tree} (h : TreeIn w B vn (.slice a n cap) T) (hn : 0 < T.types.length) : ∃ g, a = some ⟨g, 0, none⟩ ∧ g < w.heap.size := by
  obtain ⟨g, cap2, hv, _, hg⟩ := h.types.form hn
  simp only [Value.slice.injEq] at hv
  exact ⟨g, hv.1, hg⟩
abbrev trO (vn vt : Value) (T : Tr.Tree) : Obj := .cells #[vn, vt, .int .i64 T.top] 26
set_option maxHeartbeats 1000000 in
theorem at_t {w : World} {B b : Nat} {vn vt : Value} {T : Tr.Tree} (h : TreeIn w B vn vt T) (hb : w.heap[b]? = some (trO vn vt T)) (n : Int) (hn : -9223372036854775808 ≤ n ∧ n ≤ 9223372036854775807) :
    Calls Tryz.prog 36 #[.int .i64 n, .pointer (some ⟨b, 0, none⟩)] w (RPost (ndV (atN T n)) w) := by
  obtain ⟨an, cn, rfl⟩ := row_slice h.nodes
  obtain ⟨ay, cy, rfl⟩ := row_slice h.types
  have hln := h.ln
  obtain ⟨r0, r1, r2, _, _, _⟩ := nv3 hb
  have hz := lt_heap hb
  by_cases h0 : n < 0
  · have e : atN T n = ⟨0, 0, 0, 0, 0, [], 0, 0, 0⟩ := by unfold atN; rw [if_pos h0]
    rw [e]
    have e1 : decide (n < (0 : Int)) = true := by simpa using h0
    clear h hb
    go_enter Tryz.func36, Tryz.ntmps36
    go_wp2
    obtain ⟨f0, f1, f2, f3, f4, f5, f6, f7, f8, _⟩ := nv9 (heap_alloc_new w (ndO ⟨0, 0, 0, 0, 0, [], 0, 0, 0⟩))
    exact bodyPost_ret (v := ndV ⟨0, 0, 0, 0, 0, [], 0, 0, 0⟩) (by simp [results, Tryz.results36, go_sem, f0, f1, f2, f3, f4, f5, f6, f7, f8] <;> rfl) rfl ⟨rfl, (Below.refl _ _).alloc (Nat.le_refl _) _⟩
  · obtain ⟨q, rfl⟩ : ∃ q : Nat, n = q := ⟨n.toNat, by omega⟩
    have e1 : decide ((q : Int) < (0 : Int)) = false := by simp
    by_cases hq : q < T.nodes.length
    · obtain ⟨x, hx⟩ : ∃ x, T.nodes[q]? = some x := ⟨_, List.getElem?_eq_getElem hq⟩
      obtain ⟨g, rfl, hg⟩ := h.nodeForm (by omega)
      obtain ⟨c0, c1, c2, c3, c4, c5, c6, c7, c8⟩ := h.row hx
      have e : atN T q = x := by unfold atN; rw [if_neg h0, Int.toNat_natCast, List.getD_eq_getElem?_getD, hx]; rfl
      rw [e]
      have q0 : (0 : Int) ≤ (q : Int) := Int.natCast_nonneg _
      have q1 : (q : Int) < (T.nodes.length : Int) := by omega
      have e2 : decide ((q : Int) ≥ (T.nodes.length : Int)) = false := by simpa using hq
      clear h hx hb
      go_enter Tryz.func36, Tryz.ntmps36
      go_wp2
      obtain ⟨f0, f1, f2, f3, f4, f5, f6, f7, f8, _⟩ := nv9 (heap_alloc_new w (ndO x))
      exact bodyPost_ret (v := ndV x) (by simp [results, Tryz.results36, go_sem, f0, f1, f2, f3, f4, f5, f6, f7, f8] <;> rfl) rfl ⟨rfl, (Below.refl _ _).alloc (Nat.le_refl _) _⟩
    · have e : atN T q = ⟨0, 0, 0, 0, 0, [], 0, 0, 0⟩ := by unfold atN; rw [if_neg h0, Int.toNat_natCast, List.getD_eq_getElem?_getD, List.getElem?_eq_none (by omega)]; rfl
      rw [e]
      have e2 : decide ((q : Int) ≥ (T.nodes.length : Int)) = true := by simp; omega
      clear h hb
      go_enter Tryz.func36, Tryz.ntmps36
      go_wp2
      obtain ⟨f0, f1, f2, f3, f4, f5, f6, f7, f8, _⟩ := nv9 (heap_alloc_new w (ndO ⟨0, 0, 0, 0, 0, [], 0, 0, 0⟩))
      exact bodyPost_ret (v := ndV ⟨0, 0, 0, 0, 0, [], 0, 0, 0⟩) (by simp [results, Tryz.results36, go_sem, f0, f1, f2, f3, f4, f5, f6, f7, f8] <;> rfl) rfl ⟨rfl, (Below.refl _ _).alloc (Nat.le_refl _) _⟩
theorem atN_at {T : Tr.Tree} {q : Nat} {x : Nd} (h : T.nodes[q]? = some x) : atN T q = x := by
  unfold atN; rw [if_neg (by omega), Int.toNat_natCast, List.getD_eq_getElem?_getD, h]; rfl
set_option maxHeartbeats 4000000 in
theorem same_t {w : World} {B1 B2 : Nat} {vn vt un ut : Value} {T U : Tr.Tree} (h1 : TreeIn w B1 vn vt T) (h2 : TreeIn w B2 un ut U) (hl : T.nodes.length = U.nodes.length) (hyy : T.types = U.types) (ht : T.top = U.top)
    (hn : ∀ (i : Nat) (x : Nd), T.nodes[i]? = some x → ∃ p : Int, U.nodes[i]? = some ⟨x.kind, x.a, x.b, x.c, x.d, x.text, x.n, x.ty, p⟩) :
    Calls Tryz.prog 17 #[.agg #[vn, vt, .int .i64 T.top], .agg #[un, ut, .int .i64 U.top]] w (RPost (.bool true) w) := by
  obtain ⟨an, cn, rfl⟩ := row_slice h1.nodes
  obtain ⟨ay, cy, rfl⟩ := row_slice h1.types
  obtain ⟨bn, dn, rfl⟩ := row_slice h2.nodes
  obtain ⟨by', dy, rfl⟩ := row_slice h2.types
  have hln := h1.ln
  have hlt := h1.lt
  rw [← hl, ← hyy] at h2
  have HL := Lib.hid hl
  have HN := Lib.hid hn; clear hn
  have HY := Lib.hid hyy
  rw [← hl, ← hyy, ← ht]
  clear hl ht hyy
  have HM : Hid (∀ (wr : World), Below w.heap.size w wr → TreeIn wr B1 (.slice an T.nodes.length cn) (.slice ay T.types.length cy) T ∧ TreeIn wr B2 (.slice bn T.nodes.length dn) (.slice by' T.types.length dy) U) := Lib.hid (fun wr h => ⟨h1.below h, h2.below h⟩)
  clear h1 h2
  go_enter Tryz.func17, Tryz.ntmps17
  go_wp2
  go_loopg [35] T.nodes.length (fun gk s35 wr => ∃ k : Nat, gk = T.nodes.length - k ∧ k ≤ T.nodes.length ∧ s35 = .int .i64 k ∧ Hid (Below w.heap.size w wr) ∧ Hid (wr.heap[w.heap.size]? = some (.cells #[.slice an T.nodes.length cn, .slice ay T.types.length cy, .int .i64 T.top] 26 (0, 0))) ∧ Hid (wr.heap[w.heap.size + 1]? = some (.cells #[.slice bn T.nodes.length dn, .slice by' T.types.length dy, .int .i64 T.top] 26 (0, 0))))
  case atStart => exact ⟨0, rfl, by omega, rfl, Lib.hid (((Below.refl _ _).alloc (Nat.le_refl _) _).alloc (by simp) _), Lib.hid ((Below.heap_alloc _ _ _ (by simp)).trans (heap_alloc_new w _)), Lib.hid (by have := heap_alloc_new (w.alloc (.cells #[.slice an T.nodes.length cn, .slice ay T.types.length cy, .int .i64 T.top] 26 (0, 0))) (.cells #[.slice bn T.nodes.length dn, .slice by' T.types.length dy, .int .i64 T.top] 26 (0, 0)); rw [World.size_alloc] at this; exact this)⟩
  case round =>
    obtain ⟨k, hg, hk, rfl, HB, HX, HZ⟩ := hrel
    subst hg
    obtain ⟨r0, r1, r2, _, _, _⟩ := nv3 HX.out
    obtain ⟨y0, y1, y2, _, _, _⟩ := nv3 HZ.out
    have zx := lt_heap HX.out
    have zz := lt_heap HZ.out
    by_cases hlk : k < T.nodes.length
    · obtain ⟨x, hx⟩ : ∃ x, T.nodes[k]? = some x := ⟨_, List.getElem?_eq_getElem hlk⟩
      obtain ⟨p, hu⟩ := HN.out k x hx
      obtain ⟨t1, t2⟩ := HM.out wr HB.out
      obtain ⟨g, rfl, zg⟩ := t1.nodeForm (by omega)
      obtain ⟨g2, rfl, zg2⟩ := t2.nodeForm (by rw [← HL.out]; omega)
      obtain ⟨c0, c1, c2, c3, c4, c5, c6, c7, c8⟩ := t1.row hx
      obtain ⟨d0, d1, d2, d3, d4, d5, d6, d7, d8⟩ := t2.row hu
      have q0 : (0 : Int) ≤ (k : Int) := Int.natCast_nonneg _
      have q1 : (k : Int) < (T.nodes.length : Int) := by omega
      have nq := nd_neq ⟨x.kind, x.a, x.b, x.c, x.d, x.text, x.n, x.ty, 0⟩
      clear t1 t2 hx hu
      go_wp2
      go_roundg (T.nodes.length - (k + 1))
      case measure => omega
      case rel =>
        have hb := ((Below.refl wr.heap.size wr).alloc (Nat.le_refl _) (ndO ⟨x.kind, x.a, x.b, x.c, x.d, x.text, x.n, x.ty, 0⟩)).alloc (by simp) (ndO ⟨x.kind, x.a, x.b, x.c, x.d, x.text, x.n, x.ty, 0⟩)
        exact ⟨k + 1, rfl, by omega, by go_num, Lib.hid (HB.out.trans (hb.mono HB.out.size)), Lib.hid ((hb.block _ zx).trans HX.out), Lib.hid ((hb.block _ zz).trans HZ.out)⟩
    · obtain rfl : k = T.nodes.length := by omega
      go_wp2
      go_loopg [54] T.types.length (fun gk s54 wr2 => ∃ k : Nat, gk = T.types.length - k ∧ k ≤ T.types.length ∧ s54 = .int .i64 k ∧ Hid (Below w.heap.size w wr2) ∧ Hid (wr2.heap[w.heap.size]? = some (.cells #[.slice an T.nodes.length cn, .slice ay T.types.length cy, .int .i64 T.top] 26 (0, 0))) ∧ Hid (wr2.heap[w.heap.size + 1]? = some (.cells #[.slice bn T.nodes.length dn, .slice by' T.types.length dy, .int .i64 T.top] 26 (0, 0))))
      case atStart => exact ⟨0, rfl, by omega, rfl, HB, HX, HZ⟩
      case round =>
        clear HB HX HZ r0 r1 r2 y0 y1 y2 zx zz
        obtain ⟨k, hg, hk, rfl, HB, HX, HZ⟩ := hrel
        subst hg
        obtain ⟨r0, r1, r2, _, _, _⟩ := nv3 HX.out
        obtain ⟨y0, y1, y2, _, _, _⟩ := nv3 HZ.out
        have zx := lt_heap HX.out
        have zz := lt_heap HZ.out
        by_cases hlk : k < T.types.length
        · obtain ⟨x, hx⟩ : ∃ x, T.types[k]? = some x := ⟨_, List.getElem?_eq_getElem hlk⟩
          have hu : U.types[k]? = some x := by rw [← HY.out]; exact hx
          obtain ⟨t1, t2⟩ := HM.out _ HB.out
          obtain ⟨g, rfl, zg⟩ := t1.typeForm (by omega)
          obtain ⟨g2, rfl, zg2⟩ := t2.typeForm (by rw [← HY.out]; omega)
          obtain ⟨c0, c1, c2, c3⟩ := t1.ty hx
          obtain ⟨d0, d1, d2, d3⟩ := t2.ty hu
          have q0 : (0 : Int) ≤ (k : Int) := Int.natCast_nonneg _
          have q1 : (k : Int) < (T.types.length : Int) := by omega
          have nq := ty_neq x
          clear t1 t2 hx hu
          go_wp2
          go_quiet (fail)
          go_wp2
          go_roundg (T.types.length - (k + 1))
          case measure => omega
          case rel => exact ⟨k + 1, rfl, by omega, by go_num, Lib.hid (drN HB.out _), HX, HZ⟩
        · obtain rfl : k = T.types.length := by omega
          go_wp2
          go_ret
          exact ⟨rfl, HB.out⟩
end Go.Proofs.YtaamllikceaifaaGreatDoor
namespace Go.Proofs.YtaamllikceaifaaGreatDoor
open Go.RowKit Sp Tr Go.Shelf
set_option linter.unusedVariables false

theorem Fits.at {T : Tr.Tree} (h : Fits T) (n : Int) : (-9223372036854775808 ≤ (atN T n).a ∧ (atN T n).a ≤ 9223372036854775807) ∧ (-9223372036854775808 ≤ (atN T n).b ∧ (atN T n).b ≤ 9223372036854775807) := by
  unfold atN
  split
  · simp
  · rw [List.getD_eq_getElem?_getD]
    cases hx : T.nodes[n.toNat]? with
    | none => simp
    | some x => exact h x (List.mem_of_getElem? hx)
/-- The node that tells a sum of 1 and a product of 2 and 3. -/
structure Tells (T : Tr.Tree) (m : Nat) (y s p : Nd) : Prop where
  low : ∀ (k : Nat) (x : Nd), k < m → T.nodes[k]? = some x → x.kind ≠ 37
  yy : T.nodes[m]? = some y
  ss : atN T y.a = s
  pp : atN T s.b = p
  k37 : y.kind = 37
  s4 : s.kind = 4
  st : s.text = [43]
  n1 : (atN T s.a).n = 1
  p4 : p.kind = 4
  pt : p.text = [42]
  n2 : (atN T p.a).n = 2
  n3 : (atN T p.b).n = 3
/-- A tree, and the block that holds it. -/
structure TB (w : World) (b B : Nat) (vn vt : Value) (T : Tr.Tree) : Prop where
  t : TreeIn w B vn vt T
  b : w.heap[b]? = some (trO vn vt T)
theorem TB.below {w w' : World} {b B : Nat} {vn vt : Value} {T : Tr.Tree} (h : TB w b B vn vt T) (hb : Below w.heap.size w w') : TB w' b B vn vt T := ⟨h.t.below hb, (hb.block _ (lt_heap h.b)).trans h.b⟩
theorem TB.alloc {w : World} {b B : Nat} {vn vt : Value} {T : Tr.Tree} (h : TB w b B vn vt T) (o : Obj) : TB (w.alloc o) b B vn vt T := h.below ((Below.refl w.heap.size w).alloc (Nat.le_refl _) o)
theorem at_b {w : World} {b B : Nat} {vn vt : Value} {T : Tr.Tree} {n : Int} {x : Nd} (h : TB w b B vn vt T) (hn : -9223372036854775808 ≤ n ∧ n ≤ 9223372036854775807) (hx : atN T n = x) :
    Calls Tryz.prog 36 #[.int .i64 n, .pointer (some ⟨b, 0, none⟩)] w (RPost (ndV x) w) := hx ▸ at_t h.t h.b n hn
/-- A block that was new stays. -/
theorem kept_at {w v : World} {o : Obj} (hb : Below (w.alloc o).heap.size (w.alloc o) v) : v.heap[w.heap.size]? = some o ∧ w.heap.size < v.heap.size := by
  have h : v.heap[w.heap.size]? = some o := (hb.block _ (by simp)).trans (heap_alloc_new w o)
  exact ⟨h, lt_heap h⟩
theorem fldN6 (a b c d e f g h i : Value) (w : World) : (Instr.field 33 (.agg #[a, b, c, d, e, f, g, h, i]) 6).run Tryz.prog w = .ok g w := by kernel_rfl
set_option maxHeartbeats 4000000 in
theorem bound_t {w : World} {B m : Nat} {vn vt : Value} {T : Tr.Tree} {y s p : Nd} (h : TreeIn w B vn vt T) (hF : Fits T) (hT : Tells T m y s p) :
    Calls Tryz.prog 18 #[.agg #[vn, vt, .int .i64 T.top]] w (RPost (.bool true) w) := by
  have hm : m < T.nodes.length := (List.getElem?_eq_some_iff.1 hT.yy).1
  obtain ⟨an, cn, rfl⟩ := row_slice h.nodes
  obtain ⟨ay, cy, rfl⟩ := row_slice h.types
  obtain ⟨g, rfl, zg'⟩ := h.nodeForm (by omega)
  have hln := h.ln
  have H := Lib.hid h; clear h
  have HF := Lib.hid hF; clear hF
  have HTT := Lib.hid hT; clear hT
  go_enter Tryz.func18, Tryz.ntmps18
  go_wp2
  go_loopg [12] (m + 1) (fun gk s12 wr => ∃ k : Nat, gk = m + 1 - k ∧ k ≤ m ∧ s12 = .int .i64 k ∧ Hid (Below w.heap.size w wr) ∧ Hid (wr.heap[w.heap.size]? = some (trO (.slice (some ⟨g, 0, none⟩) T.nodes.length cn) (.slice ay T.types.length cy) T)))
  case atStart => exact ⟨0, rfl, by omega, rfl, Lib.hid ((Below.refl _ _).alloc (Nat.le_refl _) _), Lib.hid (heap_alloc_new w _)⟩
  case round =>
    obtain ⟨k, hgk, hk, rfl, HB, HX⟩ := hrel
    subst hgk
    obtain ⟨r0, r1, r2, _, _, _⟩ := nv3 HX.out
    have zx := lt_heap HX.out
    obtain ⟨x, hx⟩ : ∃ x, T.nodes[k]? = some x := ⟨_, List.getElem?_eq_getElem (by omega)⟩
    have hT := H.out.below HB.out
    have zg := (hT.nodes.lt g rfl).2
    obtain ⟨c0, c1, c2, c3, c4, c5, c6, c7, c8⟩ := hT.row hx
    have q0 : (0 : Int) ≤ (k : Int) := Int.natCast_nonneg _
    have q1 : (k : Int) < (T.nodes.length : Int) := by omega
    have HB0 := Lib.hid ((TB.mk hT HX.out).alloc (ndO x))
    have hxa := (HF.out x (List.mem_of_getElem? hx)).1
    obtain ⟨s', hs'⟩ : ∃ s', atN T x.a = s' := ⟨_, rfl⟩
    obtain ⟨p', hp'⟩ : ∃ p', atN T s'.b = p' := ⟨_, rfl⟩
    have hsb : -9223372036854775808 ≤ s'.b ∧ s'.b ≤ 9223372036854775807 := by rw [← hs']; exact (HF.out.at _).2
    have HS := Lib.hid hs'; clear hs'
    have HP := Lib.hid hp'; clear hp'
    have HXX := Lib.hid hx; clear hx hT
    by_cases hkm : k < m
    · have e1 : ¬ x.kind = 37 := HTT.out.low k x hkm HXX.out
      have e2 : decide (x.kind = 37) = false := decide_eq_false e1
      go_wp2_with (first | ((with_reducible refine (at_b HB0.out hxa HS.out).mono ?_); rintro e v1 ⟨rfl, hb⟩; obtain ⟨hh1, z1⟩ := kept_at hb; obtain ⟨f0, f1, f2, f3, f4, f5, f6, f7, f8, _⟩ := nv9 hh1; have HH1 := Lib.hid hh1; clear hh1; have HB1 := Lib.hid ((HB0.out.below hb).alloc (ndO s')); have HC1 := Lib.hid hb; clear hb) | ((with_reducible refine (at_b HB1.out hsb HP.out).mono ?_); rintro e v2 ⟨rfl, hb⟩; obtain ⟨hh2, z2⟩ := kept_at hb; obtain ⟨g0, g1, g2, g3, g4, g5, g6, g7, g8, _⟩ := nv9 hh2; have hh3 := (hb.block _ (by simp; omega)).trans ((Below.heap_alloc _ _ _ z1).trans HH1.out); obtain ⟨k0, k1, k2, k3, k4, k5, k6, k7, k8, _⟩ := nv9 hh3; have z3 := lt_heap hh3; have HH2 := Lib.hid hh2; have HH3 := Lib.hid hh3; clear hh2 hh3; have HB2 := Lib.hid ((HB1.out.below hb).alloc (ndO p')); have HC2 := Lib.hid hb; clear hb))
      go_roundg (m + 1 - (k + 1))
      case measure => omega
      case rel =>
        have hb : Below w.heap.size w (v2.alloc (ndO p')) := (((((HB.out.alloc HB.out.size _).trans (HC1.out.mono (by have := HB.out.size; simp; omega))).alloc (by have := HB.out.size; omega) _).trans (HC2.out.mono (by have := HB.out.size; simp; omega))).alloc (by have := HB.out.size; omega) _)
        exact ⟨k + 1, rfl, by omega, by go_num, Lib.hid hb, Lib.hid HB2.out.b⟩
    · obtain rfl : k = m := by omega
      obtain rfl : x = y := by have := HXX.out; rw [HTT.out.yy] at this; injection this with this; exact this.symm
      obtain rfl : s = s' := by rw [← HS.out]; exact HTT.out.ss.symm
      obtain rfl : p = p' := by rw [← HP.out]; exact HTT.out.pp.symm
      obtain ⟨_, _, _, _, k37, s4, st, n1, p4', pt, n2, n3⟩ := HTT.out
      have hsa : -9223372036854775808 ≤ s.a ∧ s.a ≤ 9223372036854775807 := by rw [← HS.out]; exact (HF.out.at _).1
      have hpa : -9223372036854775808 ≤ p.a ∧ p.a ≤ 9223372036854775807 := by rw [← HP.out]; exact (HF.out.at _).1
      have hpb : -9223372036854775808 ≤ p.b ∧ p.b ≤ 9223372036854775807 := by rw [← HP.out]; exact (HF.out.at _).2
      obtain ⟨o1, ho1⟩ : ∃ o, atN T s.a = o := ⟨_, rfl⟩
      obtain ⟨o2, ho2⟩ : ∃ o, atN T p.a = o := ⟨_, rfl⟩
      obtain ⟨o3, ho3⟩ : ∃ o, atN T p.b = o := ⟨_, rfl⟩
      rw [ho1] at n1
      rw [ho2] at n2
      rw [ho3] at n3
      have HA1 := Lib.hid ho1; clear ho1
      have HA2 := Lib.hid ho2; clear ho2
      have HA3 := Lib.hid ho3; clear ho3
      have y6 := fldN6
      have t3 : (x.kind == 37) = true := by simpa using k37
      have t4 : (s.kind == 4) = true := by simpa using s4
      have t5 : (p.kind == 4) = true := by simpa using p4'
      have t6 : (o1.n == 1) = true := by simpa using n1
      have t7 : (o2.n == 2) = true := by simpa using n2
      have t8 : (o3.n == 3) = true := by simpa using n3
      have t1 : (s.text == [43]) = true := by rw [st]; rfl
      have t2 : (p.text == [42]) = true := by rw [pt]; rfl
      clear k37 s4 st n1 p4' pt n2 n3
      go_wp2_with (first | ((with_reducible refine (at_b HB0.out hxa HS.out).mono ?_); rintro e v1 ⟨rfl, hb⟩; obtain ⟨hh1, z1⟩ := kept_at hb; obtain ⟨f0, f1, f2, f3, f4, f5, f6, f7, f8, _⟩ := nv9 hh1; have HH1 := Lib.hid hh1; clear hh1; have HB1 := Lib.hid ((HB0.out.below hb).alloc (ndO s)); have HC1 := Lib.hid hb; clear hb) | ((with_reducible refine (at_b HB1.out hsb HP.out).mono ?_); rintro e v2 ⟨rfl, hb⟩; obtain ⟨hh2, z2⟩ := kept_at hb; obtain ⟨g0, g1, g2, g3, g4, g5, g6, g7, g8, _⟩ := nv9 hh2; have hh3 := (hb.block _ (by simp; omega)).trans ((Below.heap_alloc _ _ _ z1).trans HH1.out); obtain ⟨k0, k1, k2, k3, k4, k5, k6, k7, k8, _⟩ := nv9 hh3; have z3 := lt_heap hh3; have HH2 := Lib.hid hh2; have HH3 := Lib.hid hh3; clear hh2 hh3; have HB2 := Lib.hid ((HB1.out.below hb).alloc (ndO p)); have HC2 := Lib.hid hb; clear hb) | ((with_reducible refine (at_b HB2.out hsa HA1.out).mono ?_); rintro e v3 ⟨rfl, hb⟩; obtain ⟨hh2, z5⟩ := kept_at hb; obtain ⟨p0, p1, p2, p3, p4, p5, p6, p7, p8, _⟩ := nv9 hh2; have HB3 := Lib.hid (HB2.out.below hb); have HP3 := Lib.hid hh2; have HC3 := Lib.hid hb; clear hb hh2) | ((with_reducible refine (at_b HB3.out hpa HA2.out).mono ?_); rintro e v4 ⟨rfl, hb⟩; have hh2 := (hb.block _ z5).trans HP3.out; obtain ⟨q0, q1, q2, q3, q4, q5, q6, q7, q8, _⟩ := nv9 hh2; have HB4 := Lib.hid (HB3.out.below hb); have HC4 := Lib.hid hb; clear hb hh2) | ((with_reducible refine (at_b HB4.out hpb HA3.out).mono ?_); rintro e v5 ⟨rfl, hb⟩; have HC5 := Lib.hid hb; clear hb))
      go_ret
      refine ⟨rfl, ?_⟩
      have b1 : Below w.heap.size w (v2.alloc (ndO p)) := (((((HB.out.alloc HB.out.size _).trans (HC1.out.mono (by have := HB.out.size; simp; omega))).alloc (by have := HB.out.size; omega) _).trans (HC2.out.mono (by have := HB.out.size; simp; omega))).alloc (by have := HB.out.size; omega) _)
      have z9 := b1.size
      have b3 := b1.trans (HC3.out.mono z9)
      have b4 := b3.trans (HC4.out.mono b3.size)
      exact b4.trans (HC5.out.mono b4.size)
end Go.Proofs.YtaamllikceaifaaGreatDoor
namespace Go.Proofs.YtaamllikceaifaaGreatDoor
open Go.RowKit Sp Tr Go.Shelf
set_option linter.unusedVariables false

abbrev srcA : List UInt8 := [105, 110, 116, 32, 109, 97, 105, 110, 40, 41, 123, 114, 101, 116, 117, 114, 110, 32, 49, 43, 50, 42, 51, 59, 125]
abbrev srcB : List UInt8 := [105, 110, 116, 32, 109, 97, 105, 110, 40, 41, 123, 114, 101, 116, 117, 114, 110, 32, 40, 49, 43, 40, 50, 42, 51, 41, 41, 59, 125]
def nodesA (p1 p2 p3 p4 p5 : Int) : List Nd := [⟨1, -1, -1, -1, -1, [], 1, 0, p1⟩, ⟨1, -1, -1, -1, -1, [], 2, 0, p2⟩, ⟨1, -1, -1, -1, -1, [], 3, 0, p3⟩, ⟨4, 1, 2, -1, -1, [42], 0, 0, p4⟩, ⟨4, 0, 3, -1, -1, [43], 0, 0, p5⟩, ⟨37, 4, -1, -1, -1, [], 0, 0, 11⟩, ⟨20, 5, -1, -1, -1, [], 0, 0, 11⟩, ⟨43, 6, -1, -1, -1, [], 0, 0, 10⟩, ⟨50, -1, 7, -1, -1, [109, 97, 105, 110], 0, 1, 0⟩, ⟨20, 8, -1, -1, -1, [], 0, 0, 0⟩]
def typesA : List Ty := [⟨0, 0, 0, []⟩, ⟨1, 0, 0, []⟩, ⟨2, 0, 0, []⟩, ⟨3, 0, 0, []⟩]
def treeA : Tr.Tree := ⟨nodesA 18 20 22 21 19, typesA, 9⟩
def treeB : Tr.Tree := ⟨nodesA 19 22 24 23 20, typesA, 9⟩
/-- What is read of a source. -/
structure Read' (src : List UInt8) (f : Nat) (T : Tr.Tree) : Prop where
  out : ∃ l E, Sp.scan src = .ok l ∧ (∀ t ∈ l, t.k ≤ 4) ∧ envOf l = some E ∧ parseT f E = some T
def readOk (f : Nat) (src : List UInt8) : Option Tr.Tree := match Sp.scan src with
  | .ok l => if l.all (fun t => decide (t.k ≤ 4)) then (envOf l).bind (parseT f) else none
  | .error _ => none
theorem readOk_out {f : Nat} {src : List UInt8} {T : Tr.Tree} (h : readOk f src = some T) : Read' src f T := by
  unfold readOk at h
  cases hs : Sp.scan src with
  | error e => rw [hs] at h; cases h
  | ok l =>
    rw [hs] at h
    dsimp only at h
    split at h
    · rename_i hk
      obtain ⟨E, hE, hT⟩ := Option.bind_eq_some_iff.1 h
      exact ⟨l, E, hs, fun t ht => by simpa using (List.all_eq_true.1 hk) t ht, hE, hT⟩
    · cases h
theorem readA : Read' srcA 60 treeA := readOk_out (by kernel_rfl)
theorem readB : Read' srcB 60 treeB := readOk_out (by kernel_rfl)
theorem read_r {w : World} {s : ByteArray} {f : Nat} {T : Tr.Tree} (hf : f ≤ 1000000) (henv : EnvT w) (hs : s.size ≤ maxLen) (h : Read' s.data.toList f T) :
    Calls Tryz.prog 9 #[.string s] w (ParsePost T w) := by
  obtain ⟨l, E, h1, h2, h3, h4⟩ := h.out
  exact read_p hf henv hs h1 h2 h3 h4
theorem fitsA : Fits treeA := by
  intro x hx
  simp only [treeA, nodesA, List.mem_cons, List.not_mem_nil, or_false] at hx
  rcases hx with rfl | rfl | rfl | rfl | rfl | rfl | rfl | rfl | rfl | rfl <;> simp
theorem tellsA : Tells treeA 5 ⟨37, 4, -1, -1, -1, [], 0, 0, 11⟩ ⟨4, 0, 3, -1, -1, [43], 0, 0, 19⟩ ⟨4, 1, 2, -1, -1, [42], 0, 0, 21⟩ := by
  refine ⟨?_, rfl, rfl, rfl, rfl, rfl, rfl, rfl, rfl, rfl, rfl, rfl⟩
  intro k x hk hx
  have h5 : k = 0 ∨ k = 1 ∨ k = 2 ∨ k = 3 ∨ k = 4 := by omega
  rcases h5 with rfl | rfl | rfl | rfl | rfl <;> (simp only [treeA, nodesA] at hx; injection hx with hx; subst hx; simp)
theorem alikeAB : ∀ (i : Nat) (x : Nd), treeA.nodes[i]? = some x → ∃ p : Int, treeB.nodes[i]? = some ⟨x.kind, x.a, x.b, x.c, x.d, x.text, x.n, x.ty, p⟩ := by
  intro i x hx
  have hl : i < 10 := (List.getElem?_eq_some_iff.1 hx).1
  have h5 : i = 0 ∨ i = 1 ∨ i = 2 ∨ i = 3 ∨ i = 4 ∨ i = 5 ∨ i = 6 ∨ i = 7 ∨ i = 8 ∨ i = 9 := by omega
  rcases h5 with rfl | rfl | rfl | rfl | rfl | rfl | rfl | rfl | rfl | rfl <;> (simp only [treeA, nodesA] at hx; injection hx with hx; subst hx; exact ⟨_, rfl⟩)
theorem same_b {w : World} {b1 b2 B1 B2 : Nat} {vn vt un ut : Value} (h1 : TB w b1 B1 vn vt treeA) (h2 : TB w b2 B2 un ut treeB) :
    Calls Tryz.prog 17 #[.agg #[vn, vt, .int .i64 treeA.top], .agg #[un, ut, .int .i64 treeB.top]] w (RPost (.bool true) w) := same_t h1.t h2.t rfl rfl rfl alikeAB
theorem bound_b {w : World} {b B : Nat} {vn vt : Value} (h : TB w b B vn vt treeA) : Calls Tryz.prog 18 #[.agg #[vn, vt, .int .i64 treeA.top]] w (RPost (.bool true) w) := bound_t h.t fitsA tellsA
set_option maxHeartbeats 1000000 in
theorem awake_any (w : World) (henv : EnvT w) :
    Calls Tryz.prog 8 #[] w fun e w' => e = .returned (.bool true) ∧ Below w.heap.size w w' := by
  have hs1 : (⟨#[105, 110, 116, 32, 109, 97, 105, 110, 40, 41, 123, 114, 101, 116, 117, 114, 110, 32, 49, 43, 50, 42, 51, 59, 125]⟩ : ByteArray).size ≤ maxLen := by decide
  have hs2 : (⟨#[105, 110, 116, 32, 109, 97, 105, 110, 40, 41, 123, 114, 101, 116, 117, 114, 110, 32, 40, 49, 43, 40, 50, 42, 51, 41, 41, 59, 125]⟩ : ByteArray).size ≤ maxLen := by decide
  have hsz := henv.lex.sz
  have HE := Lib.hid henv; clear henv
  go_enter Tryz.func8, Tryz.ntmps8
  have HRA : Hid (Calls Tryz.prog 9 #[.string ⟨#[105, 110, 116, 32, 109, 97, 105, 110, 40, 41, 123, 114, 101, 116, 117, 114, 110, 32, 49, 43, 50, 42, 51, 59, 125]⟩] w (ParsePost treeA w)) := Lib.hid (read_r (f := 60) (T := treeA) (by omega) HE.out hs1 readA)
  have HRB : ∀ v, Below w.heap.size w v → Hid (Calls Tryz.prog 9 #[.string ⟨#[105, 110, 116, 32, 109, 97, 105, 110, 40, 41, 123, 114, 101, 116, 117, 114, 110, 32, 40, 49, 43, 40, 50, 42, 51, 41, 41, 59, 125]⟩] v (ParsePost treeB v)) := fun v hb => Lib.hid (read_r (f := 60) (T := treeB) (by omega) (HE.out.below hb hsz) hs2 readB)
  have HRB' := Lib.hid HRB; clear HRB hs1 hs2
  go_wp2_with (first | ((with_reducible refine HRA.out.mono ?_); rintro e v1 ⟨vn, vt, rfl, ht, hb⟩; obtain ⟨an, cn, rfl⟩ := row_slice ht.nodes; obtain ⟨ay, cy, rfl⟩ := row_slice ht.types; have HB := Lib.hid hb; have HA : Hid (TB (v1.alloc (trO (.slice an treeA.nodes.length cn) (.slice ay treeA.types.length cy) treeA)) v1.heap.size w.heap.size (.slice an treeA.nodes.length cn) (.slice ay treeA.types.length cy) treeA) := Lib.hid ⟨ht.below ((Below.refl v1.heap.size v1).alloc (Nat.le_refl _) _), heap_alloc_new _ _⟩; have HC := Lib.hid (hb.alloc hb.size (trO (.slice an treeA.nodes.length cn) (.slice ay treeA.types.length cy) treeA)); clear ht hb) | ((with_reducible refine (HRB'.out _ HC.out).out.mono ?_); rintro e v2 ⟨vn2, vt2, rfl, ht, hb⟩; obtain ⟨bn, dn, rfl⟩ := row_slice ht.nodes; obtain ⟨by', dy, rfl⟩ := row_slice ht.types; have HD := Lib.hid hb; have HA2 := Lib.hid ((HA.out.below hb).alloc (trO (.slice bn treeB.nodes.length dn) (.slice by' treeB.types.length dy) treeB)); have HB2 : Hid (TB (v2.alloc (trO (.slice bn treeB.nodes.length dn) (.slice by' treeB.types.length dy) treeB)) v2.heap.size _ (.slice bn treeB.nodes.length dn) (.slice by' treeB.types.length dy) treeB) := Lib.hid ⟨ht.below ((Below.refl v2.heap.size v2).alloc (Nat.le_refl _) _), heap_alloc_new _ _⟩; obtain ⟨r0, r1, r2, _⟩ := nv3 (HA.out.below hb).b; have z1 := lt_heap (HA.out.below hb).b; clear ht hb) | ((with_reducible refine (same_b HA2.out HB2.out).mono ?_); rintro e v3 ⟨rfl, hb⟩; have HA3 := Lib.hid (HA2.out.below hb); obtain ⟨k0, k1, k2, _⟩ := nv3 HA3.out.b; have HE3 := Lib.hid hb; clear hb) | ((with_reducible refine (bound_b HA3.out).mono ?_); rintro e v4 ⟨rfl, hb⟩; have HE4 := Lib.hid hb; clear hb))
  go_ret
  have b2 := HC.out.trans (HD.out.mono HC.out.size)
  have b3 := b2.alloc b2.size (trO (.slice bn treeB.nodes.length dn) (.slice by' treeB.types.length dy) treeB)
  have b4 := b3.trans (HE3.out.mono b3.size)
  exact ⟨rfl, b4.trans (HE4.out.mono b4.size)⟩
end Go.Proofs.YtaamllikceaifaaGreatDoor
