/-
  Contracts of doppelref07's Uses, Sets, Next, isWord.
-/
import Derived.Test.YtgnpbodhjmappaaPNA
import Derived.Deep.Light
import Derived.Lib.Hide
import Derived.Deep.LoopGhost
import Derived.LoopN
import Derived.IntWalk
set_option linter.unusedVariables false
set_option linter.unusedSimpArgs false
namespace Go.Proofs.Ytgnpbodhjmappaa
set_option maxRecDepth 100000
open Go.RowKit Cd
theorem isWord_any (n : Int) (w : World) :
    Calls Try.prog 45 #[.int .i64 n] w fun e w' => e = .returned (.bool (isW n)) ∧ w = w' := by
  by_cases h1 : -2147483648 ≤ n
  · by_cases h2 : n ≤ 2147483647
    · have e : isW n = true := by unfold isW; simp; omega
      rw [e]; clear e
      go_enter Try.func45, Try.ntmps45
      go_wp2
      go_ret
      exact ⟨rfl, rfl⟩
    · have e : isW n = false := by unfold isW; simp; omega
      rw [e]; clear e
      go_enter Try.func45, Try.ntmps45
      go_wp2
      go_ret
      exact ⟨rfl, rfl⟩
  · have e : isW n = false := by unfold isW; simp; omega
    rw [e]; clear e
    go_enter Try.func45, Try.ntmps45
    go_wp2
    go_ret
    exact ⟨rfl, rfl⟩
theorem sets_any (i : Ins) (w : World) :
    Calls Try.prog 65 #[inV i] w (RPost (.int .i64 (sets i)) w) := by
  by_cases h1 : 1 ≤ i.kind ∧ i.kind ≤ 6
  · obtain ⟨h1, h2⟩ := h1
    have e : sets i = i.dst := if_pos (.inl ⟨h1, h2⟩)
    rw [e]; clear e
    go_enter Try.func65, Try.ntmps65
    go_wp2
    go_ret
    exact ⟨rfl, (Below.refl _ _).alloc (Nat.le_refl _) _⟩
  · by_cases h8 : i.kind = 8 ∨ i.kind = 9
    · have e : sets i = i.dst := if_pos (.inr h8)
      rw [e]; clear e
      have g1 : (1 : Int) ≤ i.kind := by omega
      have g2 : ¬ i.kind ≤ (6 : Int) := by omega
      rcases h8 with h8 | h8
      all_goals
        go_enter Try.func65, Try.ntmps65
        go_wp2
        go_ret
        exact ⟨rfl, (Below.refl _ _).alloc (Nat.le_refl _) _⟩
    · have e : sets i = -1 := if_neg (by omega)
      rw [e]; clear e
      have g8 : ((i.kind : Int) == 8) = false := by simp; omega
      have g9 : ((i.kind : Int) == 9) = false := by simp; omega
      by_cases g1 : 1 ≤ i.kind
      · have g2 : ¬ i.kind ≤ (6 : Int) := by omega
        go_enter Try.func65, Try.ntmps65
        go_wp2
        go_ret
        exact ⟨rfl, (Below.refl _ _).alloc (Nat.le_refl _) _⟩
      · go_enter Try.func65, Try.ntmps65
        go_wp2
        go_ret
        exact ⟨rfl, (Below.refl _ _).alloc (Nat.le_refl _) _⟩
theorem cell_new1 (w : World) (x : Value) (t : TypeId) (b : Nat) (hb : b = w.heap.size) : ∀ j u, [x][j]? = some u → (w.alloc (.cells #[x] t)).cell? ((⟨b, 0, none⟩ : Addr).add j) = some u := by
  subst hb; exact cell_one_new w x t
theorem list_nil {w w' : World} (h : Below w.heap.size w w') : ListPost [] w (.returned (.slice none 0 0)) w' := ⟨_, rfl, World.ownsRow_nil _ _ _ _, h⟩
theorem uses_other (i : Ins) (w : World) (h : i.kind < 1 ∨ 13 < i.kind ∨ i.kind = 1 ∨ i.kind = 5 ∨ i.kind = 9 ∨ i.kind = 11) :
    Calls Try.prog 64 #[inV i] w (ListPost (uses i) w) := by
  have e : uses i = [] := by
    have h1 : readsA i.kind = false := by unfold readsA; simp; omega
    have h2 : readsB i.kind = false := by unfold readsB; simp; omega
    unfold uses; rw [h1, h2, if_neg (show ¬ i.kind = 8 by omega)]; rfl
  rw [e]
  have g2 : ((i.kind : Int) == 2) = false := by simp; omega
  have g3 : ((i.kind : Int) == 3) = false := by simp; omega
  have g4 : ((i.kind : Int) == 4) = false := by simp; omega
  have g6 : ((i.kind : Int) == 6) = false := by simp; omega
  have g7 : ((i.kind : Int) == 7) = false := by simp; omega
  have g8 : ((i.kind : Int) == 8) = false := by simp; omega
  have g10 : ((i.kind : Int) == 10) = false := by simp; omega
  have g12 : ((i.kind : Int) == 12) = false := by simp; omega
  have g13 : ((i.kind : Int) == 13) = false := by simp; omega
  clear h e
  go_enter Try.func64, Try.ntmps64
  go_wp2
  go_ret
  exact list_nil ((Below.refl _ _).alloc (Nat.le_refl _) _)
theorem uses_a (i : Ins) (w : World) (h : i.kind = 2 ∨ i.kind = 4 ∨ i.kind = 6 ∨ i.kind = 10 ∨ i.kind = 12 ∨ i.kind = 13) :
    Calls Try.prog 64 #[inV i] w (ListPost (uses i) w) := by
  have e : uses i = [i.a] := by
    have h1 : readsA i.kind = true := by unfold readsA; simp; omega
    have h2 : readsB i.kind = false := by unfold readsB; simp; omega
    unfold uses; rw [h1, h2, if_neg (show ¬ i.kind = 8 by omega)]; rfl
  rw [e]; clear e
  obtain ⟨i0, hi0, hz0, hz1, hz2⟩ := info_parts infoInt
  rcases h with h | h | h | h | h | h
  all_goals
    go_enter Try.func64, Try.ntmps64
    go_wp2_with (at_builtin; go_loud (refine wpList_append_lies _ rfl (.tmp 38) (.tmp 41) 30 rfl (w.heap.size + 1) 3 i0 (.int .i64 0) 1 8 Try.underlying30 hi0 hz0 hz1 hz2 rfl (by decide) (.slice none 0 0) 0 [] rfl (World.ownsRow_nil _ _ _ _) _ 1 1 [.int .i64 i.a] rfl rfl (cell_new1 _ _ _ _ (by simp)) (by simp [Value.oneCell']) (by omega) (by unfold maxLen; omega) (by omega) (by simp) (w.heap.size + 1 + 1) (by simp) ?_; intro g2 cap2 w1 hown1 hgrow hat hlt1; have HO := Lib.hid hown1; have HB := Lib.hid ((((Below.refl w.heap.size w).alloc (Nat.le_refl _) _).alloc (by simp) _).grown hgrow (by simp; omega) (fun k e => by cases e)); clear hown1 hgrow hat hlt1))
    go_ret
    exact ⟨_, rfl, ownsRow_le HO.out (by omega), HB.out⟩
theorem uses_ab (i : Ins) (w : World) (h : i.kind = 3 ∨ i.kind = 7) :
    Calls Try.prog 64 #[inV i] w (ListPost (uses i) w) := by
  have e : uses i = [i.a, i.b] := by
    have h1 : readsA i.kind = true := by unfold readsA; simp; omega
    have h2 : readsB i.kind = true := by unfold readsB; simp; omega
    unfold uses; rw [h1, h2, if_neg (show ¬ i.kind = 8 by omega)]; rfl
  rw [e]; clear e
  obtain ⟨i0, hi0, hz0, hz1, hz2⟩ := info_parts infoInt
  rcases h with h | h
  all_goals
    go_enter Try.func64, Try.ntmps64
    go_wp2_with (first | (at_builtin; refine wpList_append_lies _ rfl (.tmp 38) (.tmp 41) 30 rfl (w.heap.size + 1) 3 i0 (.int .i64 0) 1 8 Try.underlying30 hi0 hz0 hz1 hz2 rfl (by decide) (.slice none 0 0) (0) ([]) rfl (World.ownsRow_nil _ _ _ _) _ 1 1 [.int .i64 (i.a)] rfl rfl (cell_new1 _ _ _ _ (by simp)) (by simp [Value.oneCell']) (by omega) (by unfold maxLen; omega) (by omega) (by simp) (w.heap.size + 1 + 1) (by simp) ?_; intro g2 cap2 w1 hown1 hgrow hat hlt1; have HO := Lib.hid hown1; have hs1 : w.heap.size + 2 ≤ w1.heap.size := (by have := hgrow.size; simp at this; omega); have HB := Lib.hid ((((Below.refl w.heap.size w).alloc (Nat.le_refl _) _).alloc (by simp) _).grown hgrow (by simp; omega) (fun k e => by cases e)); have hh := (hgrow.block w.heap.size (by simp; omega) (by simp [Value.ownBlock])).trans ((Below.heap_alloc _ _ _ (by simp)).trans (heap_alloc_new w _)); obtain ⟨c0, c1, c2, c3, c4, c5, c6, c7, c8, c9, c10, c11, c12, c13, c14⟩ := nv15 hh; clear hown1 hgrow hat hlt1 hh) | (at_builtin; go_loud (refine wpList_append_lies _ rfl (.tmp 49) (.tmp 52) 30 rfl (w.heap.size + 1) 3 i0 (.int .i64 0) 1 8 Try.underlying30 hi0 hz0 hz1 hz2 rfl (by decide) (.slice (some ⟨g2, 0, none⟩) 1 cap2) (1) ([.int .i64 i.a]) rfl (HO.out.alloc _) _ 1 1 [.int .i64 (i.b)] rfl rfl (cell_new1 _ _ _ _ (by simp)) (by simp [Value.oneCell']) (by omega) (by unfold maxLen; omega) (by omega) (by simp; omega) (w1.heap.size + 1) (by simp) ?_; intro g3 cap3 w3 hown3 hgrow hat hlt1; have HO3 := Lib.hid hown3; have HB3 := Lib.hid ((HB.out.alloc (by omega) _).grown hgrow (by simp; omega) (fun k e => by have := (HO.out.lt k e).1; omega)); clear hown3 hgrow hat hlt1)))
    go_ret
    exact ⟨_, rfl, ownsRow_le HO3.out (by omega), HB3.out⟩
theorem take_more {l : List Int} {k : Nat} {x : Int} (h : l[k]? = some x) : l.take (k + 1) = l.take k ++ [x] := by
  obtain ⟨hk, hx⟩ := List.getElem?_eq_some_iff.1 h
  rw [List.take_succ_eq_append_getElem hk, hx]
set_option maxHeartbeats 1000000 in
theorem uses_call (i : Ins) (w : World) (h : i.kind = 8) :
    Calls Try.prog 64 #[inV i] w (ListPost (uses i) w) := by
  have e : uses i = i.args.take i.n.toNat := by
    have h1 : readsA i.kind = false := by unfold readsA; simp; omega
    have h2 : readsB i.kind = false := by unfold readsB; simp; omega
    unfold uses; rw [h1, h2, if_pos h]; rfl
  rw [e]; clear e
  obtain ⟨i0, hi0, hz0, hz1, hz2⟩ := info_parts infoInt
  obtain ⟨kind, op, dst, a, b, n, text, x0, x1, x2, x3, x4, x5, dest, els⟩ := i
  simp only at h ⊢
  subst h
  go_enter Try.func64, Try.ntmps64
  go_wp2
  go_loopw [3, 5] (fun s3 s5 wr => ∃ k : Nat, k ≤ 6 ∧ (k : Int) ≤ max n 0 ∧ s5 = .int .i64 k ∧ Hid (wr.ownsRow (w.heap.size + 1) 3 1 s3 k (([x0, x1, x2, x3, x4, x5].take k).map (Value.int .i64))) ∧ Hid (Below w.heap.size w wr) ∧ Hid (wr.heap[w.heap.size]? = some (inO ⟨8, op, dst, a, b, n, text, x0, x1, x2, x3, x4, x5, dest, els⟩))) (fun _ s5 wr => 6 - (intOf s5).toNat)
  case atStart => exact ⟨0, by omega, by omega, rfl, Lib.hid (World.ownsRow_nil _ _ _ _), Lib.hid ((Below.refl _ _).alloc (Nat.le_refl _) _), Lib.hid (heap_alloc_new w _)⟩
  case round =>
    obtain ⟨k, hk, hkn, rfl, HR, HB, HH⟩ := hrel
    obtain ⟨c0, c1, c2, c3, c4, c5, c6, c7, c8, c9, c10, c11, c12, c13, c14⟩ := nv15 HH.out
    have hz := lt_heap HH.out
    obtain ⟨a5, k5, rfl⟩ := row_slice HR.out
    by_cases hlt : (k : Int) < n
    · by_cases h6 : k < 6
      · rcases (by omega : k = 0 ∨ k = 1 ∨ k = 2 ∨ k = 3 ∨ k = 4 ∨ k = 5) with rfl | rfl | rfl | rfl | rfl | rfl
        all_goals
          go_wp2_with (at_builtin; go_loud (refine wpList_append_lies _ rfl (.tmp 66) (.tmp 71) 30 rfl (w.heap.size + 1) 3 i0 (.int .i64 0) 1 8 Try.underlying30 hi0 hz0 hz1 hz2 rfl (by decide) _ _ _ rfl (HR.out.alloc _) _ 1 1 [_] rfl rfl (cell_new1 _ _ _ _ (by simp)) (by simp [Value.oneCell']) (by omega) (by unfold maxLen; omega) (by omega) (by simp; omega) (wr.heap.size + 1) (by simp) ?_; intro g2 cap2 w1 hown1 hgrow hat hlt1; have HO := Lib.hid hown1; have hg2 := fun g (e : (Value.slice a5 _ k5).ownBlock = some g) => (HR.out.lt g e).1; have HB3 := Lib.hid ((HB.out.alloc (by omega) _).grown hgrow (by simp; omega) (fun k e => by have := hg2 k e; omega)); have HH3 := Lib.hid ((hgrow.block w.heap.size (by simp; omega) (fun e => by have := hg2 _ e.symm; omega)).trans ((Below.heap_alloc _ _ _ (by omega)).trans HH.out)); clear hown1 hgrow hat hlt1 hg2))
          go_roundw
          case rel => exact ⟨_, (by show _ + 1 ≤ 6; omega), (by omega), by go_num, HO, HB3, HH3⟩
          case measure => simp [intOf]
      · go_wp2
        go_ret
        refine ⟨_, rfl, ownsRow_le (base := w.heap.size + 1) ?_ (by omega), HB.out⟩
        obtain rfl : k = 6 := by omega
        rw [List.take_of_length_le (by simp [Ins.args]; omega)]
        exact HR.out
    · go_wp2
      go_ret
      refine ⟨_, rfl, ownsRow_le (base := w.heap.size + 1) ?_ (by omega), HB.out⟩
      have : n.toNat = k := by omega
      rw [this, List.length_take, Nat.min_eq_left (by simpa [Ins.args] using hk)]
      exact HR.out
theorem uses_any (i : Ins) (w : World) : Calls Try.prog 64 #[inV i] w (ListPost (uses i) w) := by
  rcases (by omega : (i.kind < 1 ∨ 13 < i.kind ∨ i.kind = 1 ∨ i.kind = 5 ∨ i.kind = 9 ∨ i.kind = 11) ∨ (i.kind = 2 ∨ i.kind = 4 ∨ i.kind = 6 ∨ i.kind = 10 ∨ i.kind = 12 ∨ i.kind = 13) ∨ (i.kind = 3 ∨ i.kind = 7) ∨ i.kind = 8) with h | h | h | h
  · exact uses_other i w h
  · exact uses_a i w h
  · exact uses_ab i w h
  · exact uses_call i w h
end Go.Proofs.Ytgnpbodhjmappaa
namespace Go.Proofs.Ytgnpbodhjmappaa
set_option maxRecDepth 100000
open Go.RowKit Cd
set_option maxRecDepth 100000 in
theorem right_low (i : Ins) (r : FnR) (w : World) (h : i.kind < 1 ∨ 13 < i.kind) :
    Calls Try.prog 39 #[inV i, fnV r] w (RPost (.bool (rightI i r.f.regs r.f.frame r.f.code.length)) w) := by
  have e : rightI i r.f.regs r.f.frame r.f.code.length = false := by
    rcases h with h | h
    · unfold rightI; rw [decide_eq_false (by omega)]; rfl
    · unfold rightI; rw [decide_eq_false (show ¬ i.kind ≤ 13 by omega)]; simp
  rw [e]; clear e
  rcases h with h | h
  all_goals
    go_enter Try.func39, Try.ntmps39
    go_wp2
    go_ret
    exact ⟨rfl, ((Below.refl _ _).alloc (Nat.le_refl _) _).alloc (by simp) _⟩
theorem own_int {w : World} {B n c k : Nat} {a : Option Addr} {xs : List Int} {x : Int} (h : w.ownsRow B 3 1 (.slice a n c) n (xs.map (Value.int .i64))) (hk : xs[k]? = some x) :
    ∃ g, a = some ⟨g, 0, none⟩ ∧ B ≤ g ∧ g < w.heap.size ∧ w.cell? ⟨g, k, none⟩ = some (.int .i64 x) := by
  have hkl := (List.getElem?_eq_some_iff.1 hk).1
  obtain ⟨hl, ⟨h0, h1⟩ | ⟨g, cap, cur, hv, hg, hh, _, _, _, ht⟩⟩ := id h
  · subst h1; simp at hl; subst hl; simp at hkl
  · injection hv with hv _ _
    subst hv
    refine ⟨g, rfl, hg, lt_heap hh, ?_⟩
    have := h.cells (g := g) rfl k (.int .i64 x) (by rw [List.getElem?_map, hk]; rfl)
    rw [cell_of_row w g _ _ _ _ hh]
    have hq := congrArg (fun l => l[k]?) ht
    simp only [List.getElem?_map, hk, Option.map_some] at hq
    rw [List.getElem?_take_of_lt (by simp at hl; omega)] at hq
    simpa using hq
theorem three_new (w : World) (o1 o2 o3 : Obj) : (((w.alloc o1).alloc o2).alloc o3).heap[w.heap.size]? = some o1 ∧ (((w.alloc o1).alloc o2).alloc o3).heap[w.heap.size + 1]? = some o2 ∧ (((w.alloc o1).alloc o2).alloc o3).heap[w.heap.size + 1 + 1]? = some o3 ∧ Below w.heap.size w (((w.alloc o1).alloc o2).alloc o3) ∧ (((w.alloc o1).alloc o2).alloc o3).heap.size = w.heap.size + 3 := by
  have e2 := heap_alloc_new (w.alloc o1) o2
  have e3 := heap_alloc_new ((w.alloc o1).alloc o2) o3
  simp only [World.size_alloc] at e2 e3
  exact ⟨(Below.heap_alloc _ _ _ (by simp <;> omega)).trans ((Below.heap_alloc _ _ _ (by simp)).trans (heap_alloc_new w o1)), (Below.heap_alloc _ _ _ (by simp)).trans e2, e3, (((Below.refl w.heap.size w).alloc (Nat.le_refl _) _).alloc (by simp) _).alloc (by simp <;> omega) _, by simp⟩
theorem nv5 {w : World} {b : Nat} {x0 x1 x2 x3 x4 : Value} {t : TypeId} (h : w.heap[b]? = some (.cells #[x0, x1, x2, x3, x4] t (0, 0))) :
    w.cell? ⟨b, 0, none⟩ = some x0 ∧ w.cell? ⟨b, 1, none⟩ = some x1 ∧ w.cell? ⟨b, 2, none⟩ = some x2 ∧ w.cell? ⟨b, 3, none⟩ = some x3 ∧ w.cell? ⟨b, 4, none⟩ = some x4 := by
  refine ⟨?_, ?_, ?_, ?_, ?_⟩ <;> (rw [cell_of_row w b _ _ _ _ h]; rfl)
theorem all_no {p : Int → Bool} {l : List Int} {k : Nat} {x : Int} (h : l[k]? = some x) (hp : p x = false) : l.all p = false := by
  rw [List.all_eq_false]; exact ⟨x, List.mem_of_getElem? h, by simp [hp]⟩
theorem all_yes {p : Int → Bool} {l : List Int} {k : Nat} {x : Int} (ha : (l.take k).all p = true) (h : l[k]? = some x) (hp : p x = true) : (l.take (k + 1)).all p = true := by
  rw [take_more h, List.all_append, ha]; simp [hp]
theorem drN {B : Nat} {a w : World} (h : Below B a w) (n : Nat) : Below B a (w.drewN n) := ⟨h.os, h.tape, h.output, h.size, h.block⟩
theorem sets_v (i : Ins) (d : Int) (h : sets i = d) (w : World) : Calls Try.prog 65 #[inV i] w (RPost (.int .i64 d) w) := h ▸ sets_any i w
theorem isWord_v (n : Int) (b : Bool) (h : isW n = b) (w : World) : Calls Try.prog 45 #[.int .i64 n] w fun e w' => e = .returned (.bool b) ∧ w = w' := h ▸ isWord_any n w
theorem bfalse {b : Bool} (h : ¬ b = true) : b = false := by simpa using h
theorem uses_len (i : Ins) : (uses i).length ≤ 8 := by
  unfold uses
  have h1 : (if readsA i.kind = true then [i.a] else []).length ≤ 1 := by split <;> simp
  have h2 : (if readsB i.kind = true then [i.b] else []).length ≤ 1 := by split <;> simp
  have h3 : (if i.kind = 8 then i.args.take i.n.toNat else []).length ≤ 6 := by
    split
    · rw [List.length_take, Ins.args_length]; omega
    · simp
  simp only [List.length_append]
  omega
def ifN (j k : Nat) (x : Int) : Int := if j < k then x else 0
def o8 (dst n : Int) (text : List UInt8) (x0 x1 x2 x3 x4 x5 : Int) (k : Nat) : Ins := ⟨8, 0, dst, 0, 0, n, text, ifN 0 k x0, ifN 1 k x1, ifN 2 k x2, ifN 3 k x3, ifN 4 k x4, ifN 5 k x5, 0, -1⟩
theorem heap_set2 (w : World) (b j : Nat) (u : Value) : (w.setCell ⟨b + 1 + 1, j, none⟩ u).heap[b]? = w.heap[b]? := Below.heap_setCell _ _ _ _ (by simp <;> omega)
theorem heap_set1 (w : World) (b j : Nat) (u : Value) : (w.setCell ⟨b + 1 + 1, j, none⟩ u).heap[b + 1]? = w.heap[b + 1]? := Below.heap_setCell _ _ _ _ (by simp)
theorem no_uses {i : Ins} {regs frame len : Int} (h : (uses i).all (regOk regs) = false) : rightI i regs frame len = false := by unfold rightI; rw [h]; simp
theorem no_dst {i : Ins} {regs frame len : Int} (h : dstOk i regs = false) : rightI i regs frame len = false := by unfold rightI; rw [h]; simp
theorem no_n {i : Ins} {regs frame len : Int} (h : nOk i frame = false) : rightI i regs frame len = false := by unfold rightI; rw [h]; simp
theorem no_op {i : Ins} {regs frame len : Int} (h : opOk i = false) : rightI i regs frame len = false := by unfold rightI; rw [h]; simp
theorem no_to {i : Ins} {regs frame len : Int} (h : toOk i len = false) : rightI i regs frame len = false := by unfold rightI; rw [h]; simp
theorem yes_eq {i o : Ins} {regs frame len : Int} (h1 : 1 ≤ i.kind) (h2 : i.kind ≤ 13) (hu : (uses i).all (regOk regs) = true) (hd : dstOk i regs = true) (hn : nOk i frame = true) (ho : opOk i = true) (ht : toOk i len = true) (hp : plainOf i = o) :
    rightI i regs frame len = decide (i = o) := by unfold rightI; rw [hu, hd, hn, ho, ht, hp]; simp [h1, h2]
end Go.Proofs.Ytgnpbodhjmappaa
