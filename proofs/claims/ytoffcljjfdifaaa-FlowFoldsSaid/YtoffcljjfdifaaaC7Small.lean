/-
  Layer 7, the program's small functions: within, sets, readsA, readsB, Plain, Sets, the closures that need.
-/
import Derived.Test.YtoffcljjfdifaaaR7Ints
import Derived.Lib.QuietBelow
namespace Go.Proofs.Ytoffcljjfdifaaa
set_option maxRecDepth 100000
open Go.RowKit Cd
set_option linter.unusedVariables false
set_option linter.unusedSimpArgs false

def inB (n lo hi : Int) : Bool := decide (lo ≤ n) && decide (n ≤ hi)
theorem within_any (n lo hi : Int) (w : World) : Calls Try.prog 91 #[.int .i64 n, .int .i64 lo, .int .i64 hi] w fun e w' => e = .returned (.bool (inB n lo hi)) ∧ w = w' := by
  unfold inB
  by_cases h1 : lo ≤ n
  · have t1 : decide (lo ≤ n) = true := by simpa using h1
    rw [t1]
    by_cases h2 : n ≤ hi
    · have t2 : decide (n ≤ hi) = true := by simpa using h2
      rw [t2]
      go_enter Try.func91, Try.ntmps91
      go_wp2
      go_ret
      exact ⟨rfl, rfl⟩
    · have t2 : decide (n ≤ hi) = false := by simpa using h2
      rw [t2]
      go_enter Try.func91, Try.ntmps91
      go_wp2
      go_ret
      exact ⟨rfl, rfl⟩
  · have t1 : decide (lo ≤ n) = false := by simpa using h1
    rw [t1]
    go_enter Try.func91, Try.ntmps91
    go_wp2
    go_ret
    exact ⟨rfl, rfl⟩
theorem within_v (n lo hi : Int) (b : Bool) (h : inB n lo hi = b) (w : World) : Calls Try.prog 91 #[.int .i64 n, .int .i64 lo, .int .i64 hi] w fun e w' => e = .returned (.bool b) ∧ w = w' := h ▸ within_any n lo hi w
def setsB (k : Int) : Bool := inB k 1 6 || k == 8 || k == 9
theorem csets_any (k : Int) (w : World) : Calls Try.prog 115 #[.int .i64 k] w fun e w' => e = .returned (.bool (setsB k)) ∧ w = w' := by
  by_cases h1 : 1 ≤ k ∧ k ≤ 6
  · obtain ⟨h1, h2⟩ := h1
    have t1 : decide ((1 : Int) ≤ k) = true := by simpa using h1
    have t2 : decide (k ≤ (6 : Int)) = true := by simpa using h2
    have e : setsB k = true := by unfold setsB inB; rw [t1, t2]; rfl
    rw [e]; clear e
    go_enter Try.func115, Try.ntmps115
    go_wp2
    go_ret
    exact ⟨rfl, rfl⟩
  · have e0 : inB k 1 6 = false := by unfold inB; simp; omega
    by_cases h8 : k = 8
    · subst h8
      go_enter Try.func115, Try.ntmps115
      go_wp2
      go_ret
      exact ⟨rfl, rfl⟩
    · by_cases h9 : k = 9
      · subst h9
        go_enter Try.func115, Try.ntmps115
        go_wp2
        go_ret
        exact ⟨rfl, rfl⟩
      · have t8 : (k == (8 : Int)) = false := by simpa using h8
        have t9 : (k == (9 : Int)) = false := by simpa using h9
        have e : setsB k = false := by unfold setsB; rw [e0, t8, t9]; rfl
        rw [e]; clear e e0
        by_cases h2 : 1 ≤ k
        · have t1 : decide ((1 : Int) ≤ k) = true := by simpa using h2
          have t2 : decide (k ≤ (6 : Int)) = false := by simp; omega
          clear h1 h2 h8 h9
          go_enter Try.func115, Try.ntmps115
          go_wp2
          go_ret
          exact ⟨rfl, rfl⟩
        · have t1 : decide ((1 : Int) ≤ k) = false := by simpa using h2
          clear h1 h2 h8 h9
          go_enter Try.func115, Try.ntmps115
          go_wp2
          go_ret
          exact ⟨rfl, rfl⟩
theorem creadsA_any (k : Int) (w : World) : Calls Try.prog 116 #[.int .i64 k] w fun e w' => e = .returned (.bool (Cd.readsA k)) ∧ w = w' := by
  by_cases h : k = 2 ∨ k = 3 ∨ k = 4 ∨ k = 6 ∨ k = 7 ∨ k = 10 ∨ k = 12 ∨ k = 13
  · rcases h with rfl | rfl | rfl | rfl | rfl | rfl | rfl | rfl
    all_goals
      go_enter Try.func116, Try.ntmps116
      go_wp2
      go_ret
      exact ⟨rfl, rfl⟩
  · simp only [not_or] at h
    obtain ⟨h2, h3, h4, h6, h7, h10, h12, h13⟩ := h
    have t2 : (k == (2 : Int)) = false := by simpa using h2
    have t3 : (k == (3 : Int)) = false := by simpa using h3
    have t4 : (k == (4 : Int)) = false := by simpa using h4
    have t6 : (k == (6 : Int)) = false := by simpa using h6
    have t7 : (k == (7 : Int)) = false := by simpa using h7
    have t10 : (k == (10 : Int)) = false := by simpa using h10
    have t12 : (k == (12 : Int)) = false := by simpa using h12
    have t13 : (k == (13 : Int)) = false := by simpa using h13
    have e : Cd.readsA k = false := by unfold Cd.readsA; rw [t2, t3, t4, t6, t7, t10, t12, t13]; rfl
    rw [e]; clear e h2 h3 h4 h6 h7 h10 h12 h13
    go_enter Try.func116, Try.ntmps116
    go_wp2
    go_ret
    exact ⟨rfl, rfl⟩
theorem creadsB_any (k : Int) (w : World) : Calls Try.prog 117 #[.int .i64 k] w fun e w' => e = .returned (.bool (Cd.readsB k)) ∧ w = w' := by
  by_cases h3 : k = 3
  · subst h3
    go_enter Try.func117, Try.ntmps117
    go_wp2
    go_ret
    exact ⟨rfl, rfl⟩
  · by_cases h7 : k = 7
    · subst h7
      go_enter Try.func117, Try.ntmps117
      go_wp2
      go_ret
      exact ⟨rfl, rfl⟩
    · have t3 : (k == (3 : Int)) = false := by simpa using h3
      have t7 : (k == (7 : Int)) = false := by simpa using h7
      have e : Cd.readsB k = false := by unfold Cd.readsB; rw [t3, t7]; rfl
      rw [e]; clear e h3 h7
      go_enter Try.func117, Try.ntmps117
      go_wp2
      go_ret
      exact ⟨rfl, rfl⟩
def plainI (k : Int) : Ins := ⟨k, 0, -1, 0, 0, 0, [], 0, 0, 0, 0, 0, 0, 0, -1⟩
theorem cplain_any (k : Int) (w : World) : Calls Try.prog 49 #[.int .i64 k] w (RPost (inV (plainI k)) w) := by
  go_enter Try.func49, Try.ntmps49
  go_wp2
  refine bodyPost_ret (v := inV (plainI k)) (by simp [results, Try.results49, go_sem] <;> simp [plainI]) rfl ⟨rfl, ?_⟩
  repeat (first | exact (Below.refl _ _).alloc (Nat.le_refl _) _ | refine Below.setCell ?_ (Nat.le_refl _) _)
/-! ### What is needed: one variable -/
abbrev bxB (b : Bool) : Obj := .cells #[.bool b] 4
/-- Only the block z has turned, and there may be more. -/
structure Nd (z : Nat) (b : Bool) (w w' : World) : Prop where
  below : Below z w w'
  kept : ∀ j, j < w.heap.size → j ≠ z → w'.heap[j]? = w.heap[j]?
  cell : w'.heap[z]? = some (bxB b)
theorem Nd.trans {z : Nat} {b b' : Bool} {w w' w'' : World} (h : Nd z b w w') (h' : Nd z b' w' w'') : Nd z b' w w'' :=
  ⟨h.below.trans h'.below, fun j hj hn => (h'.kept j (Nat.lt_of_lt_of_le hj h.below.size) hn).trans (h.kept j hj hn), h'.cell⟩
theorem Nd.refl {z : Nat} {b : Bool} {w : World} (h : w.heap[z]? = some (bxB b)) : Nd z b w w := ⟨Below.refl _ _, fun _ _ _ => rfl, h⟩
theorem Nd.drew {z : Nat} {b : Bool} {w w' : World} (h : Nd z b w w') : Nd z b w w'.drew := ⟨h.below.drew, h.kept, h.cell⟩
theorem Nd.drN {z : Nat} {b : Bool} {w w' : World} (h : Nd z b w w') (n : Nat) : Nd z b w (w'.drewN n) := ⟨Go.Proofs.Ytoffcljjfdifaaa.drN h.below n, h.kept, h.cell⟩
theorem Nd.more {z : Nat} {b : Bool} {w w' w'' : World} (h : Nd z b w w') (hb : Below w'.heap.size w' w'') : Nd z b w w'' := by
  have hz := lt_heap h.cell
  exact ⟨h.below.trans (hb.mono (Nat.le_of_lt hz)), fun j hj hn => (hb.block j (Nat.lt_of_lt_of_le hj h.below.size)).trans (h.kept j hj hn), (hb.block z hz).trans h.cell⟩
theorem Nd.ahead {z : Nat} {b : Bool} {w w' w'' : World} (hb : Below w.heap.size w w') (hz : z < w.heap.size) (h : Nd z b w' w'') : Nd z b w w'' :=
  ⟨(hb.mono (Nat.le_of_lt hz)).trans h.below, fun j hj hn => (h.kept j (Nat.lt_of_lt_of_le hj hb.size) hn).trans (hb.block j hj), h.cell⟩
theorem Nd.put {z : Nat} {b : Bool} {w : World} (h : w.heap[z]? = some (bxB b)) (b' : Bool) : Nd z b' w (w.setCell ⟨z, 0, none⟩ (.bool b')) :=
  ⟨(Below.refl z w).setCell (p := ⟨z, 0, none⟩) (Nat.le_refl _) _, fun j _ hn => Below.heap_setCell _ _ _ _ (by simpa using hn), by rw [cells_set h]; simp⟩
theorem heap_other7 {w : World} {b j k : Nat} {u : Value} (h : k ≠ b) : (w.setCell ⟨b, j, none⟩ u).heap[k]? = w.heap[k]? := Below.heap_setCell _ _ _ _ (by simpa using h)
theorem boxB_cell {w : World} {z : Nat} {b : Bool} (h : w.heap[z]? = some (bxB b)) : w.cell? ⟨z, 0, none⟩ = some (.bool b) ∧ w.frozen? ⟨z, 0, none⟩ = false :=
  ⟨by rw [cell_of_row w z 0 _ _ _ h]; rfl, by simp [World.frozen?, h]⟩
theorem need1_any (z : Nat) (R b : Bool) (w : World) (hz : w.heap[z]? = some (bxB R)) : Calls Try.prog 90 #[.bool b, .pointer (some ⟨z, 0, none⟩)] w fun e w' => e = .returned (.tuple #[]) ∧ Nd z (R && b) w w' := by
  obtain ⟨c0, f0⟩ := boxB_cell hz
  have HZ := Lib.hid hz; clear hz
  cases R
  · go_enter Try.func90, Try.ntmps90
    go_wp2
    go_end0
    exact ⟨rfl, Nd.put HZ.out _⟩
  · go_enter Try.func90, Try.ntmps90
    go_wp2
    go_end0
    exact ⟨rfl, Nd.put HZ.out _⟩
end Go.Proofs.Ytoffcljjfdifaaa
