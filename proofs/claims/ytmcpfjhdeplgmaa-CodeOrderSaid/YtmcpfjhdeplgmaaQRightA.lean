/-
  Two instructions compared.
  Contract of doppelref07's right.
  Rows of numbers.
-/
import Derived.Test.YtmcpfjhdeplgmaaQBase
import Derived.Laws.StructEq
import Derived.ChangeKeysEq
import Derived.Test.YtmcpfjhdeplgmaaQR7Uses
namespace Go.Proofs.Ytmcpfjhdeplgmaa
open Go.RowKit Cd
set_option linter.unusedVariables false

theorem args_eql (a b : Ins) (W : World) : (Op.equalIn 9999 44 (.agg #[.int .i64 a.x0, .int .i64 a.x1, .int .i64 a.x2, .int .i64 a.x3, .int .i64 a.x4, .int .i64 a.x5]) (.agg #[.int .i64 b.x0, .int .i64 b.x1, .int .i64 b.x2, .int .i64 b.x3, .int .i64 b.x4, .int .i64 b.x5])).run Try.prog W = .ok (decide (a.args = b.args)) W := by
  obtain ⟨i0, hi0, hz0, hz1, hz2⟩ := info_parts infoInt
  have hC : Try.prog.cellsOf 3 = 1 := by kernel_rfl
  have u3 := Try.underlying3
  have a3 := Try.isAgg3
  have z3 := Try.sizeOf3
  have hr : List.range 6 = [0, 1, 2, 3, 4, 5] := by decide
  rw [show (9999 : Nat) = 9998 + 1 from rfl, run_equalIn_array W 9998 _ _ Try.underlying44 hi0, hC, hr]
  simp only [Op.eqItems]
  go_simp
  unfold Ins.args
  by_cases h0 : a.x0 = b.x0 <;> simp [h0]
  by_cases h1 : a.x1 = b.x1 <;> simp [h1]
  by_cases h2 : a.x2 = b.x2 <;> simp [h2]
  by_cases h3 : a.x3 = b.x3 <;> simp [h3]
  by_cases h4 : a.x4 = b.x4 <;> simp [h4]
  by_cases h5 : a.x5 = b.x5 <;> simp [h5]
theorem in_eql (a b : Ins) (W : World) : (binOp .eql 46 (inV a) (inV b)).run Try.prog W = .ok (.bool (decide (a = b))) W := by
  have hS : Try.prog.underlying 46 = some (.struct (Try.prog.fieldsOf 46)) := by kernel_rfl
  have hp : Try.prog.stoodInHeld 46 = false := by kernel_rfl
  rw [run_eql_struct, show (10000 : Nat) = 9999 + 1 from rfl, run_equalIn_agg W 9999 46 _ _ hS hp]
  have u3 := Try.underlying3
  have a3 := Try.isAgg3
  have z3 := Try.sizeOf3
  have u9 := Try.underlying9
  have a9 := Try.isAgg9
  have z9 := Try.sizeOf9
  have uo := Try.underlying43
  have ao := Try.isAgg43
  have zo := Try.sizeOf43
  have hA := args_eql a b W
  have aa := Try.isAgg44
  have za := Try.sizeOf44
  simp only [Program.fieldsOf, Try.underlying46]
  go_simp
  have e : (a = b) = (a.kind = b.kind ∧ a.op = b.op ∧ a.dst = b.dst ∧ a.a = b.a ∧ a.b = b.b ∧ a.n = b.n ∧ a.text = b.text ∧ a.args = b.args ∧ a.dest = b.dest ∧ a.els = b.els) := by
    rw [← Ins.ext_iff']
    unfold Ins.args
    simp
    grind
  simp only [e]
  by_cases h0 : a.kind = b.kind <;> simp only [h0, if_true, if_false, true_and, false_and, decide_false]
  by_cases h1 : a.op = b.op <;> simp only [h1, if_true, if_false, true_and, false_and, decide_false]
  by_cases h2 : a.dst = b.dst <;> simp only [h2, if_true, if_false, true_and, false_and, decide_false]
  by_cases h3 : a.a = b.a <;> simp only [h3, if_true, if_false, true_and, false_and, decide_false]
  by_cases h4 : a.b = b.b <;> simp only [h4, if_true, if_false, true_and, false_and, decide_false]
  by_cases h5 : a.n = b.n <;> simp only [h5, if_true, if_false, true_and, false_and, decide_false]
  by_cases h6 : a.text = b.text <;> simp only [h6, if_true, if_false, true_and, false_and, decide_false]
  by_cases h7 : a.args = b.args <;> simp [h7]
  by_cases h8 : a.dest = b.dest <;> simp [h8]
  by_cases h9 : a.els = b.els <;> simp [h9]
theorem in_eqlV (k o d a b n x0 x1 x2 x3 x4 x5 u v k' o' d' a' b' n' x0' x1' x2' x3' x4' x5' u' v' : Int) (t t' : List UInt8) (W : World) : (binOp .eql 46 (.agg #[.int .i64 k, .int .i64 o, .int .i64 d, .int .i64 a, .int .i64 b, .int .i64 n, .string (sb t), .int .i64 x0, .int .i64 x1, .int .i64 x2, .int .i64 x3, .int .i64 x4, .int .i64 x5, .int .i64 u, .int .i64 v]) (.agg #[.int .i64 k', .int .i64 o', .int .i64 d', .int .i64 a', .int .i64 b', .int .i64 n', .string (sb t'), .int .i64 x0', .int .i64 x1', .int .i64 x2', .int .i64 x3', .int .i64 x4', .int .i64 x5', .int .i64 u', .int .i64 v'])).run Try.prog W = .ok (.bool (decide ((⟨k, o, d, a, b, n, t, x0, x1, x2, x3, x4, x5, u, v⟩ : Ins) = ⟨k', o', d', a', b', n', t', x0', x1', x2', x3', x4', x5', u', v'⟩))) W := in_eql ⟨k, o, d, a, b, n, t, x0, x1, x2, x3, x4, x5, u, v⟩ ⟨k', o', d', a', b', n', t', x0', x1', x2', x3', x4', x5', u', v'⟩ W
theorem cells_set {w : World} {b : Nat} {cs : Array Value} {t : TypeId} {fr : Nat × Nat} (h : w.heap[b]? = some (.cells cs t fr)) (j : Nat) (u : Value) : (w.setCell ⟨b, j, none⟩ u).heap[b]? = some (.cells (cs.setIfInBounds j u) t fr) := by
  simp only [World.setCell, Array.getElem?_modify, if_true, h, Option.map_some]; rfl
end Go.Proofs.Ytmcpfjhdeplgmaa
namespace Go.Proofs.Ytmcpfjhdeplgmaa
open Go.RowKit Cd
set_option linter.unusedVariables false
set_option linter.unusedSimpArgs false

set_option maxRecDepth 100000 in
theorem right_low (i : Ins) (r : FnR) (w : World) (h : i.kind < 1 ∨ 13 < i.kind) :
    Calls Try.prog 23 #[inV i, fnV r] w (RPost (.bool (rightI i r.f.regs r.f.frame r.f.code.length)) w) := by
  have e : rightI i r.f.regs r.f.frame r.f.code.length = false := by
    rcases h with h | h
    · unfold rightI; rw [decide_eq_false (by omega)]; rfl
    · unfold rightI; rw [decide_eq_false (show ¬ i.kind ≤ 13 by omega)]; simp
  rw [e]; clear e
  rcases h with h | h
  all_goals
    go_enter Try.func23, Try.ntmps23
    go_wp2
    go_ret
    exact ⟨rfl, ((Below.refl _ _).alloc (Nat.le_refl _) _).alloc (by simp) _⟩
theorem own_int {w : World} {B n c k : Nat} {a : Option Addr} {xs : List Int} {x : Int} (h : w.ownsRow B 3 1 (.slice a n c) n (xs.map (Value.int .i64))) (hk : xs[k]? = some x) :
    ∃ g, a = some ⟨g, 0, none⟩ ∧ B ≤ g ∧ g < w.heap.size ∧ w.cell? ⟨g, k, none⟩ = some (.int .i64 x) := by
  have hkl := (List.getElem?_eq_some_iff.1 hk).1
  obtain ⟨hl, ⟨h0, h1⟩ | ⟨g, cap, cur, hv, hg, hh, _, _, _, ht⟩⟩ := id h
  · subst h1; simp at hl; subst hl; simp at hkl
  · injection hv with hv _ _
    subst hv
    refine ⟨g, rfl, hg, lt_heap hh, ?_⟩
    have := h.cells (g := g) rfl k (.int .i64 x) (by rw [List.getElem?_map, hk]; rfl)
    rw [cell_of_row w g _ _ _ _ hh]
    have hq := congrArg (fun l => l[k]?) ht
    simp only [List.getElem?_map, hk, Option.map_some] at hq
    rw [List.getElem?_take_of_lt (by simp at hl; omega)] at hq
    simpa using hq
theorem own_len {w : World} {B n : Nat} {e : TypeId} {v : Value} {xs : List Int} (h : w.ownsRow B e 1 v n (xs.map (Value.int .i64))) : xs.length = n := by simpa using h.1
theorem three_new (w : World) (o1 o2 o3 : Obj) : (((w.alloc o1).alloc o2).alloc o3).heap[w.heap.size]? = some o1 ∧ (((w.alloc o1).alloc o2).alloc o3).heap[w.heap.size + 1]? = some o2 ∧ (((w.alloc o1).alloc o2).alloc o3).heap[w.heap.size + 1 + 1]? = some o3 ∧ Below w.heap.size w (((w.alloc o1).alloc o2).alloc o3) ∧ (((w.alloc o1).alloc o2).alloc o3).heap.size = w.heap.size + 3 := by
  have e2 := heap_alloc_new (w.alloc o1) o2
  have e3 := heap_alloc_new ((w.alloc o1).alloc o2) o3
  simp only [World.size_alloc] at e2 e3
  exact ⟨(Below.heap_alloc _ _ _ (by simp <;> omega)).trans ((Below.heap_alloc _ _ _ (by simp)).trans (heap_alloc_new w o1)), (Below.heap_alloc _ _ _ (by simp)).trans e2, e3, (((Below.refl w.heap.size w).alloc (Nat.le_refl _) _).alloc (by simp) _).alloc (by simp <;> omega) _, by simp⟩
theorem nv5 {w : World} {b : Nat} {x0 x1 x2 x3 x4 : Value} {t : TypeId} (h : w.heap[b]? = some (.cells #[x0, x1, x2, x3, x4] t (0, 0))) :
    w.cell? ⟨b, 0, none⟩ = some x0 ∧ w.cell? ⟨b, 1, none⟩ = some x1 ∧ w.cell? ⟨b, 2, none⟩ = some x2 ∧ w.cell? ⟨b, 3, none⟩ = some x3 ∧ w.cell? ⟨b, 4, none⟩ = some x4 := by
  refine ⟨?_, ?_, ?_, ?_, ?_⟩ <;> (rw [cell_of_row w b _ _ _ _ h]; rfl)
theorem all_no {p : Int → Bool} {l : List Int} {k : Nat} {x : Int} (h : l[k]? = some x) (hp : p x = false) : l.all p = false := by
  rw [List.all_eq_false]; exact ⟨x, List.mem_of_getElem? h, by simp [hp]⟩
theorem all_yes {p : Int → Bool} {l : List Int} {k : Nat} {x : Int} (ha : (l.take k).all p = true) (h : l[k]? = some x) (hp : p x = true) : (l.take (k + 1)).all p = true := by
  rw [take_more h, List.all_append, ha]; simp [hp]
theorem drN {B : Nat} {a w : World} (h : Below B a w) (n : Nat) : Below B a (w.drewN n) := ⟨h.os, h.tape, h.output, h.size, h.block⟩
theorem sets_v (i : Ins) (d : Int) (h : sets i = d) (w : World) : Calls Try.prog 43 #[inV i] w (RPost (.int .i64 d) w) := h ▸ sets_any i w
theorem isWord_v (n : Int) (b : Bool) (h : isW n = b) (w : World) : Calls Try.prog 29 #[.int .i64 n] w fun e w' => e = .returned (.bool b) ∧ w = w' := h ▸ isWord_any n w
theorem bfalse {b : Bool} (h : ¬ b = true) : b = false := by simpa using h
theorem uses_len (i : Ins) : (uses i).length ≤ 8 := by
  unfold uses
  have h1 : (if readsA i.kind = true then [i.a] else []).length ≤ 1 := by split <;> simp
  have h2 : (if readsB i.kind = true then [i.b] else []).length ≤ 1 := by split <;> simp
  have h3 : (if i.kind = 8 then i.args.take i.n.toNat else []).length ≤ 6 := by
    split
    · rw [List.length_take, Ins.args_length]; omega
    · simp
  simp only [List.length_append]
  omega
/-- What is copied of a call's arguments. -/
def ifN (j k : Nat) (x : Int) : Int := if j < k then x else 0
def o8 (dst n : Int) (text : List UInt8) (x0 x1 x2 x3 x4 x5 : Int) (k : Nat) : Ins := ⟨8, 0, dst, 0, 0, n, text, ifN 0 k x0, ifN 1 k x1, ifN 2 k x2, ifN 3 k x3, ifN 4 k x4, ifN 5 k x5, 0, -1⟩
theorem heap_set2 (w : World) (b j : Nat) (u : Value) : (w.setCell ⟨b + 1 + 1, j, none⟩ u).heap[b]? = w.heap[b]? := Below.heap_setCell _ _ _ _ (by simp <;> omega)
theorem heap_set1 (w : World) (b j : Nat) (u : Value) : (w.setCell ⟨b + 1 + 1, j, none⟩ u).heap[b + 1]? = w.heap[b + 1]? := Below.heap_setCell _ _ _ _ (by simp)
theorem no_uses {i : Ins} {regs frame len : Int} (h : (uses i).all (regOk regs) = false) : rightI i regs frame len = false := by unfold rightI; rw [h]; simp
theorem no_dst {i : Ins} {regs frame len : Int} (h : dstOk i regs = false) : rightI i regs frame len = false := by unfold rightI; rw [h]; simp
theorem no_n {i : Ins} {regs frame len : Int} (h : nOk i frame = false) : rightI i regs frame len = false := by unfold rightI; rw [h]; simp
theorem no_op {i : Ins} {regs frame len : Int} (h : opOk i = false) : rightI i regs frame len = false := by unfold rightI; rw [h]; simp
theorem no_to {i : Ins} {regs frame len : Int} (h : toOk i len = false) : rightI i regs frame len = false := by unfold rightI; rw [h]; simp
theorem yes_eq {i o : Ins} {regs frame len : Int} (h1 : 1 ≤ i.kind) (h2 : i.kind ≤ 13) (hu : (uses i).all (regOk regs) = true) (hd : dstOk i regs = true) (hn : nOk i frame = true) (ho : opOk i = true) (ht : toOk i len = true) (hp : plainOf i = o) :
    rightI i regs frame len = decide (i = o) := by unfold rightI; rw [hu, hd, hn, ho, ht, hp]; simp [h1, h2]
end Go.Proofs.Ytmcpfjhdeplgmaa
namespace Go.Proofs.Ytmcpfjhdeplgmaa
open Go.RowKit Cd
set_option linter.unusedVariables false
set_option linter.unusedSimpArgs false

/-- A row of numbers lies in memory. -/
def IntsAt (w : World) (a : Option Addr) (l : List Int) : Prop := RowAt w w.heap.size a (l.map (Value.int .i64))
theorem IntsAt.below {w w' : World} {a : Option Addr} {l : List Int} (h : IntsAt w a l) (hb : Below w.heap.size w w') : IntsAt w' a l := RowAt.mono (RowAt.below h hb) hb.size (Nat.le_refl _)
theorem IntsAt.at {w : World} {a : Option Addr} {l : List Int} {k : Nat} {x : Int} (h : IntsAt w a l) (hk : l[k]? = some x) : ∃ b off, a = some ⟨b, off, none⟩ ∧ b < w.heap.size ∧ w.cell? ⟨b, off + k, none⟩ = some (.int .i64 x) := by
  have hlt := (List.getElem?_eq_some_iff.1 hk).1
  obtain ⟨b, off, ha, hb, _, hc⟩ := h (by rw [List.length_map]; omega)
  exact ⟨b, off, ha, hb, hc k _ (by rw [List.getElem?_map, hk]; rfl)⟩
theorem IntsAt.of_own {w : World} {B n c : Nat} {a : Option Addr} {l : List Int} (h : w.ownsRow B 3 1 (.slice a n c) n (l.map (Value.int .i64))) : IntsAt w a l := fun h0 => by
  rw [List.length_map] at h0
  obtain ⟨x, hx⟩ : ∃ x, l[0]? = some x := ⟨_, List.getElem?_eq_getElem h0⟩
  obtain ⟨g, rfl, _, hg, _⟩ := own_int h hx
  refine ⟨g, 0, rfl, hg, Nat.le_refl _, fun j u hu => ?_⟩
  rw [List.getElem?_map] at hu
  cases hj : l[j]? with
  | none => rw [hj] at hu; cases hu
  | some y =>
    rw [hj] at hu
    injection hu with hu
    obtain ⟨g', hg', _, _, hc⟩ := own_int h hj
    injection hg' with hg'
    injection hg' with hg' _ _
    subst hg' hu
    rw [Nat.zero_add]; exact hc
end Go.Proofs.Ytmcpfjhdeplgmaa
