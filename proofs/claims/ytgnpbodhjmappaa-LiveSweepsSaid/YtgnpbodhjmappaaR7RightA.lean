/-
  Contract of doppelref07's right.
-/
import Derived.Test.YtgnpbodhjmappaaR7Uses
import Derived.Test.YtgnpbodhjmappaaR7Eq
import Derived.Test.YtgnpbodhjmappaaR9Spec
namespace Go.Proofs.Ytgnpbodhjmappaa
set_option maxRecDepth 100000
open Go.RowKit Cd
set_option linter.unusedVariables false
set_option linter.unusedSimpArgs false

set_option maxRecDepth 100000 in
theorem right_low (i : Ins) (r : FnR) (w : World) (h : i.kind < 1 ∨ 13 < i.kind) :
    Calls Try.prog 39 #[inV i, fnV r] w (RPost (.bool (rightI i r.f.regs r.f.frame r.f.code.length)) w) := by
  have e : rightI i r.f.regs r.f.frame r.f.code.length = false := by
    rcases h with h | h
    · unfold rightI; rw [decide_eq_false (by omega)]; rfl
    · unfold rightI; rw [decide_eq_false (show ¬ i.kind ≤ 13 by omega)]; simp
  rw [e]; clear e
  rcases h with h | h
  all_goals
    go_enter Try.func39, Try.ntmps39
    go_wp2
    go_ret
    exact ⟨rfl, ((Below.refl _ _).alloc (Nat.le_refl _) _).alloc (by simp) _⟩
theorem own_int {w : World} {B n c k : Nat} {a : Option Addr} {xs : List Int} {x : Int} (h : w.ownsRow B 3 1 (.slice a n c) n (xs.map (Value.int .i64))) (hk : xs[k]? = some x) :
    ∃ g, a = some ⟨g, 0, none⟩ ∧ B ≤ g ∧ g < w.heap.size ∧ w.cell? ⟨g, k, none⟩ = some (.int .i64 x) := by
  have hkl := (List.getElem?_eq_some_iff.1 hk).1
  obtain ⟨hl, ⟨h0, h1⟩ | ⟨g, cap, cur, hv, hg, hh, _, _, _, ht⟩⟩ := id h
  · subst h1; simp at hl; subst hl; simp at hkl
  · injection hv with hv _ _
    subst hv
    refine ⟨g, rfl, hg, lt_heap hh, ?_⟩
    have := h.cells (g := g) rfl k (.int .i64 x) (by rw [List.getElem?_map, hk]; rfl)
    rw [cell_of_row w g _ _ _ _ hh]
    have hq := congrArg (fun l => l[k]?) ht
    simp only [List.getElem?_map, hk, Option.map_some] at hq
    rw [List.getElem?_take_of_lt (by simp at hl; omega)] at hq
    simpa using hq
theorem own_len {w : World} {B n : Nat} {e : TypeId} {v : Value} {xs : List Int} (h : w.ownsRow B e 1 v n (xs.map (Value.int .i64))) : xs.length = n := by simpa using h.1
theorem three_new (w : World) (o1 o2 o3 : Obj) : (((w.alloc o1).alloc o2).alloc o3).heap[w.heap.size]? = some o1 ∧ (((w.alloc o1).alloc o2).alloc o3).heap[w.heap.size + 1]? = some o2 ∧ (((w.alloc o1).alloc o2).alloc o3).heap[w.heap.size + 1 + 1]? = some o3 ∧ Below w.heap.size w (((w.alloc o1).alloc o2).alloc o3) ∧ (((w.alloc o1).alloc o2).alloc o3).heap.size = w.heap.size + 3 := by
  have e2 := heap_alloc_new (w.alloc o1) o2
  have e3 := heap_alloc_new ((w.alloc o1).alloc o2) o3
  simp only [World.size_alloc] at e2 e3
  exact ⟨(Below.heap_alloc _ _ _ (by simp <;> omega)).trans ((Below.heap_alloc _ _ _ (by simp)).trans (heap_alloc_new w o1)), (Below.heap_alloc _ _ _ (by simp)).trans e2, e3, (((Below.refl w.heap.size w).alloc (Nat.le_refl _) _).alloc (by simp) _).alloc (by simp <;> omega) _, by simp⟩
theorem nv5 {w : World} {b : Nat} {x0 x1 x2 x3 x4 : Value} {t : TypeId} (h : w.heap[b]? = some (.cells #[x0, x1, x2, x3, x4] t (0, 0))) :
    w.cell? ⟨b, 0, none⟩ = some x0 ∧ w.cell? ⟨b, 1, none⟩ = some x1 ∧ w.cell? ⟨b, 2, none⟩ = some x2 ∧ w.cell? ⟨b, 3, none⟩ = some x3 ∧ w.cell? ⟨b, 4, none⟩ = some x4 := by
  refine ⟨?_, ?_, ?_, ?_, ?_⟩ <;> (rw [cell_of_row w b _ _ _ _ h]; rfl)
theorem all_no {p : Int → Bool} {l : List Int} {k : Nat} {x : Int} (h : l[k]? = some x) (hp : p x = false) : l.all p = false := by
  rw [List.all_eq_false]; exact ⟨x, List.mem_of_getElem? h, by simp [hp]⟩
theorem all_yes {p : Int → Bool} {l : List Int} {k : Nat} {x : Int} (ha : (l.take k).all p = true) (h : l[k]? = some x) (hp : p x = true) : (l.take (k + 1)).all p = true := by
  rw [take_more h, List.all_append, ha]; simp [hp]
theorem drN {B : Nat} {a w : World} (h : Below B a w) (n : Nat) : Below B a (w.drewN n) := ⟨h.os, h.tape, h.output, h.size, h.block⟩
theorem sets_v (i : Ins) (d : Int) (h : sets i = d) (w : World) : Calls Try.prog 65 #[inV i] w (RPost (.int .i64 d) w) := h ▸ sets_any i w
theorem isWord_v (n : Int) (b : Bool) (h : isW n = b) (w : World) : Calls Try.prog 45 #[.int .i64 n] w fun e w' => e = .returned (.bool b) ∧ w = w' := h ▸ isWord_any n w
theorem bfalse {b : Bool} (h : ¬ b = true) : b = false := by simpa using h
theorem uses_len (i : Ins) : (uses i).length ≤ 8 := by
  unfold uses
  have h1 : (if readsA i.kind = true then [i.a] else []).length ≤ 1 := by split <;> simp
  have h2 : (if readsB i.kind = true then [i.b] else []).length ≤ 1 := by split <;> simp
  have h3 : (if i.kind = 8 then i.args.take i.n.toNat else []).length ≤ 6 := by
    split
    · rw [List.length_take, Ins.args_length]; omega
    · simp
  simp only [List.length_append]
  omega
/-- What is copied of a call's arguments. -/
def ifN (j k : Nat) (x : Int) : Int := if j < k then x else 0
def o8 (dst n : Int) (text : List UInt8) (x0 x1 x2 x3 x4 x5 : Int) (k : Nat) : Ins := ⟨8, 0, dst, 0, 0, n, text, ifN 0 k x0, ifN 1 k x1, ifN 2 k x2, ifN 3 k x3, ifN 4 k x4, ifN 5 k x5, 0, -1⟩
theorem heap_set2 (w : World) (b j : Nat) (u : Value) : (w.setCell ⟨b + 1 + 1, j, none⟩ u).heap[b]? = w.heap[b]? := Below.heap_setCell _ _ _ _ (by simp <;> omega)
theorem heap_set1 (w : World) (b j : Nat) (u : Value) : (w.setCell ⟨b + 1 + 1, j, none⟩ u).heap[b + 1]? = w.heap[b + 1]? := Below.heap_setCell _ _ _ _ (by simp)
theorem no_uses {i : Ins} {regs frame len : Int} (h : (uses i).all (regOk regs) = false) : rightI i regs frame len = false := by unfold rightI; rw [h]; simp
theorem no_dst {i : Ins} {regs frame len : Int} (h : dstOk i regs = false) : rightI i regs frame len = false := by unfold rightI; rw [h]; simp
theorem no_n {i : Ins} {regs frame len : Int} (h : nOk i frame = false) : rightI i regs frame len = false := by unfold rightI; rw [h]; simp
theorem no_op {i : Ins} {regs frame len : Int} (h : opOk i = false) : rightI i regs frame len = false := by unfold rightI; rw [h]; simp
theorem no_to {i : Ins} {regs frame len : Int} (h : toOk i len = false) : rightI i regs frame len = false := by unfold rightI; rw [h]; simp
theorem yes_eq {i o : Ins} {regs frame len : Int} (h1 : 1 ≤ i.kind) (h2 : i.kind ≤ 13) (hu : (uses i).all (regOk regs) = true) (hd : dstOk i regs = true) (hn : nOk i frame = true) (ho : opOk i = true) (ht : toOk i len = true) (hp : plainOf i = o) :
    rightI i regs frame len = decide (i = o) := by unfold rightI; rw [hu, hd, hn, ho, ht, hp]; simp [h1, h2]
end Go.Proofs.Ytgnpbodhjmappaa
