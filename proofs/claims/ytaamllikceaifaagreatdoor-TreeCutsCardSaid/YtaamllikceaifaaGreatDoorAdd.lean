/-
  The contract of the closure that lex.Scan makes: it adds a token.
-/
import Derived.Test.YtaamllikceaifaaGreatDoorEnv
import Derived.Test.YtaamllikceaifaaGreatDoorLast
import Derived.StillTactics
import Derived.OwnWalk
import Derived.Laws.Pointers
import Derived.Deep.RegionHeld3
import Derived.Deep.AppendLies
import Derived.KernelRfl
import Derived.IntWalk
namespace Go.Proofs.YtaamllikceaifaaGreatDoor
open Go.RowKit Sp
set_option linter.unusedVariables false

theorem infoTok : (Tryz.prog.info? 65).map (fun i => (i.zero, i.size, i.bytes)) = some (some (.agg #[.int .i64 0, .string ⟨#[]⟩, .int .i64 0, .int .i64 0]), 4, 40) := by kernel_rfl
/-- The three captured variables: the source, the tokens, the place. -/
structure Caps (h : Nat) (s : ByteArray) (v : Value) (at_ : Int) (w : World) : Prop where
  src : w.heap[h]? = some (.cells #[.string s] 9 (0, 0))
  toks : w.heap[h + 1]? = some (.cells #[v] 39 (0, 0))
  place : w.heap[h + 2]? = some (.cells #[.int .i64 at_] 3 (0, 0))
theorem cell_far (w : World) (a b : Addr) (u : Value) (h : b.block ≠ a.block) : (w.setCell a u).cell? b = w.cell? b := World.cell?_of_block (Below.heap_setCell w a u b.block h)
theorem news4 (w : World) (o : Obj) (cs : Array Value) (t : TypeId) : ∀ j u, cs.toList[j]? = some u → ((w.alloc o).alloc (.cells cs t)).drew.cell? ((⟨w.heap.size + 1, 0, none⟩ : Addr).add j) = some u := by
  have hh : ((w.alloc o).alloc (.cells cs t)).heap[w.heap.size + 1]? = some (.cells cs t (0, 0)) := by
    have := heap_alloc_new (w.alloc o) (.cells cs t)
    simpa using this
  exact World.news_of_block (w := ((w.alloc o).alloc (.cells cs t)).drew) (cs := cs) (t := t) (fr := (0, 0)) hh
theorem one_set {w : World} {b : Nat} {x u : Value} {t : TypeId} (h : w.heap[b]? = some (.cells #[x] t (0, 0))) : (w.setCell ⟨b, 0, none⟩ u).heap[b]? = some (.cells #[u] t (0, 0)) := by
  simp only [World.setCell, Array.getElem?_modify, if_true, h, Option.map_some]
  rfl
/-- What the closure has done: one token more, and the place behind it. -/
structure Added (h : Nat) (s : ByteArray) (p q : Nat) (k n : Int) (cnt : Nat) (xs : List Value) (w w' : World) : Prop where
  caps : ∃ v', Caps h s v' q w' ∧ w'.ownsRow (h + 3) 65 4 v' (cnt + 1) (xs ++ [.int .i64 k, .string (s.extract p q), .int .i64 n, .int .i64 p])
  below : Below h w w'
def AddPost (h : Nat) (s : ByteArray) (p q : Nat) (k n : Int) (cnt : Nat) (xs : List Value) (w : World) (e : Ending) (w' : World) : Prop := e = .returned (.tuple #[]) ∧ Added h s p q k n cnt xs w w'
set_option maxRecDepth 100000 in
set_option maxHeartbeats 3200000 in
theorem add_walk (h : Nat) (s : ByteArray) (v : Value) (p len q : Nat) (k n : Int) (cnt : Nat) (xs : List Value) (w : World) (hc : Caps h s v p w) (hb : h + 3 ≤ w.heap.size)
    (hown : w.ownsRow (h + 3) 65 4 v cnt xs) (hq : p + len = q) (hl : q ≤ s.size) (hs : s.size ≤ 32768) (hn : cnt ≤ 8192) :
    Calls Tryz.prog 22 #[.agg #[.int .i64 k, .int .i64 len, .int .i64 n], .pointer (some ⟨h + 1, 0, none⟩), .pointer (some ⟨h, 0, none⟩), .pointer (some ⟨h + 2, 0, none⟩)] w
      (AddPost h s p q k n cnt xs w) := by
  obtain ⟨i0, hi0, hz0, hz1, hz2⟩ := info_parts infoTok
  have c0 : w.cell? ⟨h, 0, none⟩ = some (.string s) := by rw [cell_of_row w h 0 _ _ _ hc.src]; rfl
  have c1 : w.cell? ⟨h + 1, 0, none⟩ = some v := by rw [cell_of_row w (h + 1) 0 _ _ _ hc.toks]; rfl
  have c2 : w.cell? ⟨h + 2, 0, none⟩ = some (.int .i64 p) := by rw [cell_of_row w (h + 2) 0 _ _ _ hc.place]; rfl
  have ownLt := hown.lt
  have a0 : v.ownBlock ≠ some h := fun e => by have := ownLt _ e; omega
  have a1 : v.ownBlock ≠ some (h + 1) := fun e => by have := ownLt _ e; omega
  have a2 : v.ownBlock ≠ some (h + 2) := fun e => by have := ownLt _ e; omega
  have a3 : v.ownBlock ≠ some w.heap.size := fun e => by have := ownLt _ e; omega
  have HB : Hid (∀ b, v.ownBlock = some b → h ≤ b) := Lib.hid (fun b e => by have := ownLt _ e; omega)
  clear ownLt
  have p0 : (0 : Int) ≤ (p : Int) := Int.natCast_nonneg _
  have l0 : (0 : Int) ≤ (len : Int) := Int.natCast_nonneg _
  have q0 : (0 : Int) ≤ (q : Int) := Int.natCast_nonneg _
  have q1 : (p : Int) ≤ (q : Int) := by omega
  have q2 : (q : Int) ≤ (s.size : Int) := by omega
  have hwr : IntKind.i64.wrap ((p : Int) + (len : Int)) = (q : Int) := by rw [IntWalk.i64_in _ (by omega)]; omega
  have HQ := Lib.hid hq; clear hq
  have HC := Lib.hid hc; clear hc
  go_enter Tryz.func22, Tryz.ntmps22
  go_wp2_with fail
  refine region_last (fun w' : World => w'.cell? ⟨h, 0, none⟩ = some (.string s) ∧ w'.cell? ⟨h + 1, 0, none⟩ = some v ∧ w'.cell? ⟨h + 2, 0, none⟩ = some (.int .i64 p) ∧
      w'.cell? ⟨w.heap.size, 0, none⟩ = some (.int .i64 k) ∧ w'.cell? ⟨w.heap.size, 1, none⟩ = some (.int .i64 len) ∧ w'.cell? ⟨w.heap.size, 2, none⟩ = some (.int .i64 n)) 16 (by kernel_rfl) ?_
  have hHeld : (fun w' : World => w'.cell? ⟨h, 0, none⟩ = some (.string s) ∧ w'.cell? ⟨h + 1, 0, none⟩ = some v ∧ w'.cell? ⟨h + 2, 0, none⟩ = some (.int .i64 p) ∧
      w'.cell? ⟨w.heap.size, 0, none⟩ = some (.int .i64 k) ∧ w'.cell? ⟨w.heap.size, 1, none⟩ = some (.int .i64 len) ∧ w'.cell? ⟨w.heap.size, 2, none⟩ = some (.int .i64 n)) (w.alloc (.cells #[.int .i64 k, .int .i64 len, .int .i64 n] 63)).drew := by
    dsimp only
    go_keep
  refine anyL_take (i := 0) (v := ?_) rfl rfl (by kernel_rfl) (by kernel_rfl) (by kernel_rfl) (by kernel_rfl) (fun _ _ _ h => h) (Or.inl ⟨by rfl, ?_⟩) hHeld ?_
  rotate_left
  · (intro w' hSw; (try dsimp only at hSw); go_simp; first | done | with_reducible rfl)
  simp only [Act.put]
  refine anyL_take (i := 1) (v := ?_) rfl rfl (by kernel_rfl) (by kernel_rfl) (by kernel_rfl) (by kernel_rfl) (fun _ _ _ h => h) (Or.inl ⟨by rfl, ?_⟩) hHeld ?_
  rotate_left
  · (intro w' hSw; (try dsimp only at hSw); go_simp; first | done | with_reducible rfl)
  simp only [Act.put]
  refine anyL_take (i := 2) (v := ?_) rfl rfl (by kernel_rfl) (by kernel_rfl) (by kernel_rfl) (by kernel_rfl) (fun _ _ _ h => h) (Or.inl ⟨by rfl, ?_⟩) hHeld ?_
  rotate_left
  · (intro w' hSw; (try dsimp only at hSw); go_simp; first | done | with_reducible rfl)
  simp only [Act.put]
  refine anyL_take (i := 3) (v := ?_) rfl rfl (by kernel_rfl) (by kernel_rfl) (by kernel_rfl) (by kernel_rfl) (fun _ _ _ h => h) (Or.inl ⟨by rfl, ?_⟩) hHeld ?_
  rotate_left
  · (intro w' hSw; (try dsimp only at hSw); go_simp; first | done | with_reducible rfl)
  simp only [Act.put]
  refine anyL_take (i := 4) (v := ?_) rfl rfl (by kernel_rfl) (by kernel_rfl) (by kernel_rfl) (by kernel_rfl) (fun _ _ _ h => h) (Or.inl ⟨by rfl, ?_⟩) hHeld ?_
  rotate_left
  · (intro w' hSw; (try dsimp only at hSw); go_simp; first | done | with_reducible rfl)
  simp only [Act.put]
  refine anyL_take (i := 5) (v := ?_) rfl rfl (by kernel_rfl) (by kernel_rfl) (by kernel_rfl) (by kernel_rfl) (fun _ _ _ h => h) (Or.inl ⟨by rfl, ?_⟩) hHeld ?_
  rotate_left
  · (intro w' hSw; (try dsimp only at hSw); go_simp; first | done | with_reducible rfl)
  simp only [Act.put]
  refine anyL_take (i := 6) (v := ?_) rfl rfl (by kernel_rfl) (by kernel_rfl) (by kernel_rfl) (by kernel_rfl) (fun _ _ _ h => h) (Or.inl ⟨by rfl, ?_⟩) hHeld ?_
  rotate_left
  · (intro w' hSw; (try dsimp only at hSw); go_simp; first | done | with_reducible rfl)
  simp only [Act.put]
  refine anyL_take (i := 7) (v := ?_) rfl rfl (by kernel_rfl) (by kernel_rfl) (by kernel_rfl) (by kernel_rfl) (fun _ _ _ h => h) (Or.inl ⟨by rfl, ?_⟩) hHeld ?_
  rotate_left
  · (intro w' hSw; (try dsimp only at hSw); go_simp; first | done | with_reducible rfl)
  simp only [Act.put]
  refine anyL_take (i := 8) (v := ?_) rfl rfl (by kernel_rfl) (by kernel_rfl) (by kernel_rfl) (by kernel_rfl) (fun _ _ _ h => h) (Or.inl ⟨by rfl, ?_⟩) hHeld ?_
  rotate_left
  · (intro w' hSw; (try dsimp only at hSw); go_simp; first | done | with_reducible rfl)
  simp only [Act.put]
  refine anyL_take (i := 9) (v := ?_) rfl rfl (by kernel_rfl) (by kernel_rfl) (by kernel_rfl) (by kernel_rfl) (fun _ _ _ h => h) (Or.inl ⟨by rfl, ?_⟩) hHeld ?_
  rotate_left
  · (intro w' hSw; (try dsimp only at hSw); go_simp; first | done | with_reducible rfl)
  simp only [Act.put]
  refine anyL_take (i := 10) (v := ?_) rfl rfl (by kernel_rfl) (by kernel_rfl) (by kernel_rfl) (by kernel_rfl) (fun _ _ _ h => h) (Or.inl ⟨by rfl, ?_⟩) hHeld ?_
  rotate_left
  · (intro w' hSw; (try dsimp only at hSw); go_simp; first | done | with_reducible rfl)
  simp only [Act.put]
  refine anyL_take (i := 11) (v := ?_) rfl rfl (by kernel_rfl) (by kernel_rfl) (by kernel_rfl) (by kernel_rfl) (fun _ _ _ h => h) (Or.inl ⟨by rfl, ?_⟩) hHeld ?_
  rotate_left
  · (intro w' hSw; (try dsimp only at hSw); go_simp; first | done | with_reducible rfl)
  simp only [Act.put]
  refine anyL_take (i := 12) (v := ?_) rfl rfl (by kernel_rfl) (by kernel_rfl) (by kernel_rfl) (by kernel_rfl) (fun _ _ _ h => h) (Or.inl ⟨by rfl, ?_⟩) hHeld ?_
  rotate_left
  · (intro w' hSw; (try dsimp only at hSw); go_simp; first | done | with_reducible rfl)
  simp only [Act.put]
  refine anyL_take (i := 13) (v := ?_) rfl rfl (by kernel_rfl) (by kernel_rfl) (by kernel_rfl) (by kernel_rfl) (fun _ _ _ h => h) (Or.inl ⟨by rfl, ?_⟩) hHeld ?_
  rotate_left
  · (intro w' hSw; (try dsimp only at hSw); go_simp; first | done | with_reducible rfl)
  simp only [Act.put]
  -- the new element, in a block of its own
  refine anyL_one (i := 14) (by kernel_rfl) rfl (fun K1 hK1 => ?_)
  go_simp
  have hHeld1 : (fun w' : World => w'.cell? ⟨h, 0, none⟩ = some (.string s) ∧ w'.cell? ⟨h + 1, 0, none⟩ = some v ∧ w'.cell? ⟨h + 2, 0, none⟩ = some (.int .i64 p) ∧
      w'.cell? ⟨w.heap.size, 0, none⟩ = some (.int .i64 k) ∧ w'.cell? ⟨w.heap.size, 1, none⟩ = some (.int .i64 len) ∧ w'.cell? ⟨w.heap.size, 2, none⟩ = some (.int .i64 n)) ((w.alloc (.cells #[.int .i64 k, .int .i64 len, .int .i64 n] 63)).alloc (.cells #[.int .i64 k, .string (s.extract p q), .int .i64 n, .int .i64 p] 65)).drew := by
    dsimp only
    go_keep
  refine hK1.out _ _ (fun _ => hHeld1) ?_
  clear hK1 K1 hHeld
  -- append
  refine anyL_one (i := 15) (by kernel_rfl) rfl (fun K1 hK1 => ?_)
  refine step_append_lies _ (by rfl) _ _ _ (by rfl) (h + 3) 65 i0 _ 4 40 Tryz.underlying39 hi0 hz0 hz1 hz2 rfl (by omega) v cnt xs (by rfl) (((hown.alloc _).alloc _).drew)
        ⟨w.heap.size + 1, 0, none⟩ 1 1 [.int .i64 k, .string (s.extract p q), .int .i64 n, .int .i64 p] (by rfl) (by rfl) (news4 w _ _ _) (by simp [Value.oneCell'])
        (by omega) (by unfold maxLen; omega) (by omega) (by simp; omega) (w.heap.size + 2) (by simp) ?_
  intro gg cap w1 hown1 hgrow hat hlt
  obtain ⟨b0, b1, b2, b3, b4, b5⟩ := hHeld1
  have e0 : w1.cell? ⟨h, 0, none⟩ = some (.string s) := by rw [hgrow.cell_far _ (by simp; omega) (Ne.symm a0)]; exact b0
  have e1 : w1.cell? ⟨h + 1, 0, none⟩ = some v := by rw [hgrow.cell_far _ (by simp; omega) (Ne.symm a1)]; exact b1
  have e2 : w1.cell? ⟨h + 2, 0, none⟩ = some (.int .i64 p) := by rw [hgrow.cell_far _ (by simp; omega) (Ne.symm a2)]; exact b2
  have e3 : w1.cell? ⟨w.heap.size, 0, none⟩ = some (.int .i64 k) := by rw [hgrow.cell_far _ (by simp; omega) (Ne.symm a3)]; exact b3
  have e4 : w1.cell? ⟨w.heap.size, 1, none⟩ = some (.int .i64 len) := by rw [hgrow.cell_far _ (by simp; omega) (Ne.symm a3)]; exact b4
  have e5 : w1.cell? ⟨w.heap.size, 2, none⟩ = some (.int .i64 n) := by rw [hgrow.cell_far _ (by simp; omega) (Ne.symm a3)]; exact b5
  clear b0 b1 b2 b3 b4 b5
  refine hK1.out _ _ (fun _ => ⟨e0, e1, e2, e3, e4, e5⟩) ?_
  clear hK1 K1
  -- the blocks of the captured variables
  have hsz : w1.heap.size = w1.heap.size := rfl
  have g0 : w1.heap[h]? = some (.cells #[.string s] 9 (0, 0)) := (hgrow.block h (by simp; omega) (Ne.symm a0)).trans (heap_alloc_eq (heap_alloc_eq HC.out.src _) _)
  have g1 : w1.heap[h + 1]? = some (.cells #[v] 39 (0, 0)) := (hgrow.block (h + 1) (by simp; omega) (Ne.symm a1)).trans (heap_alloc_eq (heap_alloc_eq HC.out.toks _) _)
  have g2 : w1.heap[h + 2]? = some (.cells #[.int .i64 p] 3 (0, 0)) := (hgrow.block (h + 2) (by simp; omega) (Ne.symm a2)).trans (heap_alloc_eq (heap_alloc_eq HC.out.place _) _)
  have gz : w.heap.size + 2 ≤ w1.heap.size := by have := hgrow.size; simp at this; omega
  have hbel : Below h w w1 := ((((Below.refl _ _).alloc (by omega) _).alloc (by simp; omega) _).drew).grown hgrow (by simp; omega) HB.out
  have f1 : w1.frozen? ⟨h + 1, 0, none⟩ = false := by simp [World.frozen?, g1]
  have f2 : w1.frozen? ⟨h + 2, 0, none⟩ = false := by simp [World.frozen?, g2]
  have G0 := Lib.hid g0; have G1 := Lib.hid g1; have G2 := Lib.hid g2
  clear g0 g1 g2 hgrow hsz
  simp only [Act.put]
  -- the tokens' variable
  refine anyL_one (i := 16) (by kernel_rfl) rfl (fun K1 hK1 => ?_)
  go_simp
  refine hK1.out _ _ (fun h => absurd rfl h) ?_
  clear hK1 K1
  refine anyL_done (by kernel_rfl) ?_ _
  have k2 : (w1.setCell ⟨h + 1, 0, none⟩ (.slice (some ⟨gg, 0, none⟩) (cnt + 1) cap)).cell? ⟨h + 2, 0, none⟩ = some (.int .i64 p) := by rw [cell_far _ _ _ _ (by simp)]; exact e2
  have k4 : (w1.setCell ⟨h + 1, 0, none⟩ (.slice (some ⟨gg, 0, none⟩) (cnt + 1) cap)).cell? ⟨w.heap.size, 1, none⟩ = some (.int .i64 len) := by rw [cell_far _ _ _ _ (by simp; omega)]; exact e4
  go_wp2
  have T0 : ((w1.setCell ⟨h + 1, 0, none⟩ (.slice (some ⟨gg, 0, none⟩) (cnt + 1) cap)).setCell ⟨h + 2, 0, none⟩ (.int .i64 q)).heap[h]? = some (.cells #[.string s] 9 (0, 0)) := by
    rw [Below.heap_setCell _ _ _ _ (by simp), Below.heap_setCell _ _ _ _ (by simp)]; exact G0.out
  have T1 : ((w1.setCell ⟨h + 1, 0, none⟩ (.slice (some ⟨gg, 0, none⟩) (cnt + 1) cap)).setCell ⟨h + 2, 0, none⟩ (.int .i64 q)).heap[h + 1]? = some (.cells #[.slice (some ⟨gg, 0, none⟩) (cnt + 1) cap] 39 (0, 0)) := by
    rw [Below.heap_setCell _ _ _ _ (by simp)]; exact one_set G1.out
  have T2 : ((w1.setCell ⟨h + 1, 0, none⟩ (.slice (some ⟨gg, 0, none⟩) (cnt + 1) cap)).setCell ⟨h + 2, 0, none⟩ (.int .i64 q)).heap[h + 2]? = some (.cells #[.int .i64 q] 3 (0, 0)) :=
    one_set (by rw [Below.heap_setCell _ _ _ _ (by simp)]; exact G2.out)
  go_end0
  exact ⟨rfl, ⟨⟨_, ⟨T0, T1, T2⟩, ownsRow_setCell_below (ownsRow_setCell_below hown1 (by simp) _) (by simp) _⟩, (hbel.setCell (by simp) _).setCell (by simp) _⟩⟩
end Go.Proofs.YtaamllikceaifaaGreatDoor
