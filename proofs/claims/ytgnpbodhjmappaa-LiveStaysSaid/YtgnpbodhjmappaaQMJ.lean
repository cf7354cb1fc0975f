/-
  Contract of doppelref10's Ahead.
  Contracts of doppelref10's Behind and Pure.
-/
import Derived.Test.YtgnpbodhjmappaaQLA
import Derived.Test.YtgnpbodhjmappaaQLG
import Derived.Lib.QuietBelow
namespace Go.Proofs.Ytgnpbodhjmappaa
set_option maxRecDepth 100000
open Go.RowKit Cd
set_option linter.unusedVariables false
set_option linter.unusedSimpArgs false

theorem uses_c (x : Ins) (us : List Int) (hus : uses x = us) (w : World) :
    Calls Try.prog 64 #[inV x] w fun e w' => ∃ (a : Option Addr) (c : Nat), e = .returned (.slice a us.length c) ∧ IntsAt w' a us ∧ Below w.heap.size w w' := by
  subst hus
  refine (uses_any x w).mono ?_
  rintro e w' ⟨v, rfl, ho, hb⟩
  obtain ⟨a, c, rfl⟩ := row_slice ho
  exact ⟨a, c, rfl, IntsAt.of_own ho, hb⟩
theorem own_one (w : World) (o : Obj) (x : Int) : ((w.alloc o).alloc (.cells #[.int .i64 x] 3)).ownsRow (w.heap.size + 1) 3 1 (.slice (some ⟨w.heap.size + 1, 0, none⟩) 1 1) 1 ([x].map (Value.int .i64)) := by
  refine ⟨rfl, .inr ⟨w.heap.size + 1, 1, #[.int .i64 x], rfl, by omega, ?_, Nat.le_refl _, by unfold maxLen; omega, rfl, rfl⟩⟩
  have := heap_alloc_new (w.alloc o) (.cells #[.int .i64 x] 3)
  rw [World.size_alloc] at this
  exact this
def ST (zi g k : Nat) (p : Int) (x : Ins) (w : World) : Prop := w.cell? ⟨g, k, none⟩ = some (.int .i64 p) ∧ w.cell? ⟨zi, 0, none⟩ = some (.int .i64 x.kind) ∧ w.cell? ⟨zi, 1, none⟩ = some (.int .i64 x.op) ∧ w.cell? ⟨zi, 2, none⟩ = some (.int .i64 x.dst) ∧ w.cell? ⟨zi, 3, none⟩ = some (.int .i64 x.a) ∧ w.cell? ⟨zi, 4, none⟩ = some (.int .i64 x.b) ∧ w.cell? ⟨zi, 5, none⟩ = some (.int .i64 x.n) ∧ w.cell? ⟨zi, 6, none⟩ = some (.string (sb x.text)) ∧ w.cell? ⟨zi, 7, none⟩ = some (.int .i64 x.x0) ∧ w.cell? ⟨zi, 8, none⟩ = some (.int .i64 x.x1) ∧ w.cell? ⟨zi, 9, none⟩ = some (.int .i64 x.x2) ∧ w.cell? ⟨zi, 10, none⟩ = some (.int .i64 x.x3) ∧ w.cell? ⟨zi, 11, none⟩ = some (.int .i64 x.x4) ∧ w.cell? ⟨zi, 12, none⟩ = some (.int .i64 x.x5) ∧ w.cell? ⟨zi, 13, none⟩ = some (.int .i64 x.dest) ∧ w.cell? ⟨zi, 14, none⟩ = some (.int .i64 x.els)
theorem ST.below {zi g k : Nat} {p : Int} {x : Ins} {w w' : World} (h : ST zi g k p x w) (hz : zi < w.heap.size) (hg : g < w.heap.size) (hw : Below w.heap.size w w') : ST zi g k p x w' := by
  obtain ⟨h0, h1, h2, h3, h4, h5, h6, h7, h8, h9, h10, h11, h12, h13, h14, h15⟩ := h
  exact ⟨(hw.cell (p := ⟨g, k, none⟩) hg).trans h0, (hw.cell (p := ⟨zi, 0, none⟩) hz).trans h1, (hw.cell (p := ⟨zi, 1, none⟩) hz).trans h2, (hw.cell (p := ⟨zi, 2, none⟩) hz).trans h3, (hw.cell (p := ⟨zi, 3, none⟩) hz).trans h4, (hw.cell (p := ⟨zi, 4, none⟩) hz).trans h5, (hw.cell (p := ⟨zi, 5, none⟩) hz).trans h6, (hw.cell (p := ⟨zi, 6, none⟩) hz).trans h7, (hw.cell (p := ⟨zi, 7, none⟩) hz).trans h8, (hw.cell (p := ⟨zi, 8, none⟩) hz).trans h9, (hw.cell (p := ⟨zi, 9, none⟩) hz).trans h10, (hw.cell (p := ⟨zi, 10, none⟩) hz).trans h11, (hw.cell (p := ⟨zi, 11, none⟩) hz).trans h12, (hw.cell (p := ⟨zi, 12, none⟩) hz).trans h13, (hw.cell (p := ⟨zi, 13, none⟩) hz).trans h14, (hw.cell (p := ⟨zi, 14, none⟩) hz).trans h15⟩
end Go.Proofs.Ytgnpbodhjmappaa
namespace Go.Proofs.Ytgnpbodhjmappaa
set_option maxRecDepth 100000
open Go.RowKit Go.Sort Cd
set_option linter.unusedVariables false
set_option linter.unusedSimpArgs false

theorem pure_any (i : Ins) (w : World) : Calls Try.prog 23 #[inV i] w (RPost (.bool (pureI i)) w) := by
  by_cases h : i.kind = 1 ∨ i.kind = 2 ∨ i.kind = 4 ∨ i.kind = 5
  · have e : pureI i = true := by unfold pureI; rw [decide_eq_true h]; rfl
    have E := Lib.hid e; clear e
    rcases h with h | h | h | h
    all_goals
      go_enter Try.func23, Try.ntmps23
      go_wp2
      go_ret
      exact ⟨by rw [E.out]; rfl, (Below.refl _ _).alloc (Nat.le_refl _) _⟩
  · have g1 : ((i.kind : Int) == 1) = false := by simp; omega
    have g2 : ((i.kind : Int) == 2) = false := by simp; omega
    have g4 : ((i.kind : Int) == 4) = false := by simp; omega
    have g5 : ((i.kind : Int) == 5) = false := by simp; omega
    by_cases h3 : i.kind = 3
    · have g3 : ((i.kind : Int) == 3) = true := by simpa using h3
      have e : pureI i = (decide (1 ≤ i.op) && decide (i.op ≤ 23) && (decide (i.op < 4) || decide (7 < i.op))) := by unfold pureI; rw [decide_eq_false h, decide_eq_true h3]; simp
      have E := Lib.hid e; clear e h h3
      by_cases z1 : 1 ≤ i.op
      rotate_left
      · have t1 : decide ((1 : Int) ≤ i.op) = false := by simp <;> omega
        have t1' : decide (i.op ≥ (1 : Int)) = false := by simp <;> omega
        go_enter Try.func23, Try.ntmps23
        go_wp2
        go_ret
        exact ⟨by rw [E.out]; simp <;> omega, (Below.refl _ _).alloc (Nat.le_refl _) _⟩
      have t1 : decide ((1 : Int) ≤ i.op) = true := by simp <;> omega
      have t1' : decide (i.op ≥ (1 : Int)) = true := by simp <;> omega
      by_cases z2 : i.op ≤ 23
      rotate_left
      · have t2 : decide (i.op ≤ (23 : Int)) = false := by simp <;> omega
        go_enter Try.func23, Try.ntmps23
        go_wp2
        go_ret
        exact ⟨by rw [E.out]; simp <;> omega, (Below.refl _ _).alloc (Nat.le_refl _) _⟩
      have t2 : decide (i.op ≤ (23 : Int)) = true := by simp <;> omega
      by_cases z3 : i.op < 4
      · have t3 : decide (i.op < (4 : Int)) = true := by simp <;> omega
        go_enter Try.func23, Try.ntmps23
        go_wp2
        go_ret
        exact ⟨by rw [E.out]; simp <;> omega, (Below.refl _ _).alloc (Nat.le_refl _) _⟩
      have t3 : decide (i.op < (4 : Int)) = false := by simp <;> omega
      by_cases z4 : 7 < i.op
      · have t4 : decide ((7 : Int) < i.op) = true := by simp <;> omega
        have t4' : decide (i.op > (7 : Int)) = true := by simp <;> omega
        go_enter Try.func23, Try.ntmps23
        go_wp2
        go_ret
        exact ⟨by rw [E.out]; simp <;> omega, (Below.refl _ _).alloc (Nat.le_refl _) _⟩
      · have t4 : decide ((7 : Int) < i.op) = false := by simp <;> omega
        have t4' : decide (i.op > (7 : Int)) = false := by simp <;> omega
        go_enter Try.func23, Try.ntmps23
        go_wp2
        go_ret
        exact ⟨by rw [E.out]; simp <;> omega, (Below.refl _ _).alloc (Nat.le_refl _) _⟩
    · have g3 : ((i.kind : Int) == 3) = false := by simpa using h3
      have e : pureI i = false := by unfold pureI; rw [decide_eq_false h, decide_eq_false h3]; simp
      have E := Lib.hid e; clear e h h3
      go_enter Try.func23, Try.ntmps23
      go_wp2
      go_ret
      exact ⟨by rw [E.out]; rfl, (Below.refl _ _).alloc (Nat.le_refl _) _⟩
end Go.Proofs.Ytgnpbodhjmappaa
