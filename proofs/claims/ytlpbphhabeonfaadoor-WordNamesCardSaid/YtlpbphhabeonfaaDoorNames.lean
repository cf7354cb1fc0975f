/-
  Contracts of word's Steady, Name and Named, and of the document's Names.
-/
import Derived.Test.YtlpbphhabeonfaaDoorLaid
import Derived.Deep.Light
namespace Go.Proofs.YtlpbphhabeonfaaDoor
open Go.RowKit

def nm (i : Nat) : ByteArray := ⟨(namesL.getD i []).toArray⟩
theorem cells_at {W : World} (h : laidMetH Tryd.prog seatLaid W) : ∀ i, i < 24 → W.cell? ⟨0, i, none⟩ = some (.string (nm i)) := by
  intro i hi
  obtain ⟨s, hc, hs⟩ := names_at h i hi
  have : s = nm i := by
    apply ByteArray.ext; apply Array.toList_inj.1; rw [hs]; rfl
  rw [hc, this]
def steadyB (op : Int) : Bool := decide (1 ≤ op ∧ op ≤ 3 ∨ 8 ≤ op ∧ op ≤ 23)
theorem steady_any (op : Int) (w : World) :
    Calls Tryd.prog 23 #[.int .i64 op] w fun e w' => e = .returned (.bool (steadyB op)) ∧ w = w' := by
  rcases (by omega : op < 1 ∨ (1 ≤ op ∧ op ≤ 3) ∨ (4 ≤ op ∧ op ≤ 7) ∨ (8 ≤ op ∧ op ≤ 19) ∨ (20 ≤ op ∧ op ≤ 23) ∨ 23 < op) with h | h | h | h | h | h
  · have h1 : twoB op = false := by unfold twoB; simp; omega
    have h2 : oneB op = false := by unfold oneB; simp; omega
    have hs : steadyB op = false := by unfold steadyB; simp; omega
    go_enter Tryd.func23, Tryd.ntmps23
    go_wp2_with (first | ((with_reducible refine (two_any _ _).mono ?_); rintro e w' ⟨rfl, rfl⟩) | ((with_reducible refine (one_any _ _).mono ?_); rintro e w' ⟨rfl, rfl⟩))
    all_goals (go_ret; exact ⟨by rw [hs]; rfl, rfl⟩)
  · have h1 : twoB op = true := by unfold twoB; simp; omega
    have h2 : oneB op = false := by unfold oneB; simp; omega
    have hs : steadyB op = true := by unfold steadyB; simp; omega
    go_enter Tryd.func23, Tryd.ntmps23
    go_wp2_with (first | ((with_reducible refine (two_any _ _).mono ?_); rintro e w' ⟨rfl, rfl⟩) | ((with_reducible refine (one_any _ _).mono ?_); rintro e w' ⟨rfl, rfl⟩))
    all_goals (go_ret; exact ⟨by rw [hs]; rfl, rfl⟩)
  · have h1 : twoB op = true := by unfold twoB; simp; omega
    have h2 : oneB op = false := by unfold oneB; simp; omega
    have hs : steadyB op = false := by unfold steadyB; simp; omega
    go_enter Tryd.func23, Tryd.ntmps23
    go_wp2_with (first | ((with_reducible refine (two_any _ _).mono ?_); rintro e w' ⟨rfl, rfl⟩) | ((with_reducible refine (one_any _ _).mono ?_); rintro e w' ⟨rfl, rfl⟩))
    all_goals (go_ret; exact ⟨by rw [hs]; rfl, rfl⟩)
  · have h1 : twoB op = true := by unfold twoB; simp; omega
    have h2 : oneB op = false := by unfold oneB; simp; omega
    have hs : steadyB op = true := by unfold steadyB; simp; omega
    have hd : decide (op ≤ 7) = false := by simp; omega
    go_enter Tryd.func23, Tryd.ntmps23
    go_wp2_with (first | ((with_reducible refine (two_any _ _).mono ?_); rintro e w' ⟨rfl, rfl⟩) | ((with_reducible refine (one_any _ _).mono ?_); rintro e w' ⟨rfl, rfl⟩))
    all_goals (go_ret; exact ⟨by rw [hs]; rfl, rfl⟩)
  · have h1 : twoB op = false := by unfold twoB; simp; omega
    have h2 : oneB op = true := by unfold oneB; simp; omega
    have hs : steadyB op = true := by unfold steadyB; simp; omega
    go_enter Tryd.func23, Tryd.ntmps23
    go_wp2_with (first | ((with_reducible refine (two_any _ _).mono ?_); rintro e w' ⟨rfl, rfl⟩) | ((with_reducible refine (one_any _ _).mono ?_); rintro e w' ⟨rfl, rfl⟩))
    all_goals (go_ret; exact ⟨by rw [hs]; rfl, rfl⟩)
  · have h1 : twoB op = false := by unfold twoB; simp; omega
    have h2 : oneB op = false := by unfold oneB; simp; omega
    have hs : steadyB op = false := by unfold steadyB; simp; omega
    go_enter Tryd.func23, Tryd.ntmps23
    go_wp2_with (first | ((with_reducible refine (two_any _ _).mono ?_); rintro e w' ⟨rfl, rfl⟩) | ((with_reducible refine (one_any _ _).mono ?_); rintro e w' ⟨rfl, rfl⟩))
    all_goals (go_ret; exact ⟨by rw [hs]; rfl, rfl⟩)
/-- An operation's name, among the first k. -/
def nameK (op : Int) (k : Nat) : ByteArray := if 1 ≤ op ∧ op ≤ k then nm op.toNat else ⟨#[]⟩
theorem ret_str {a b : ByteArray} (h : a = b) : Ending.returned (.string a) = .returned (.string b) := by rw [h]
theorem name_any (op : Int) (w : World) (hc : ∀ i, i < 24 → w.cell? ⟨0, i, none⟩ = some (.string (nm i))) :
    Calls Tryd.prog 24 #[.int .i64 op] w fun e w' => e = .returned (.string (nameK op 23)) ∧ w = w' := by
  by_cases h : 1 ≤ op ∧ op ≤ 23
  · have hn : nameK op 23 = nm op.toNat := by unfold nameK; rw [if_pos (by omega)]
    have hcell := hc op.toNat (by omega)
    rw [hn]
    clear hn hc
    obtain ⟨j, rfl⟩ := Int.eq_ofNat_of_zero_le (by omega : 0 ≤ op)
    rw [Int.toNat_natCast] at *
    by_cases h3 : (j : Int) ≤ 19
    · have h1 : twoB j = true := by unfold twoB; simp; omega
      have h2 : oneB j = false := by unfold oneB; simp; omega
      go_enter Tryd.func24, Tryd.ntmps24
      go_wp2_with (first | ((with_reducible refine (two_any _ _).mono ?_); rintro e w' ⟨rfl, rfl⟩) | ((with_reducible refine (one_any _ _).mono ?_); rintro e w' ⟨rfl, rfl⟩))
      go_ret
      exact ⟨rfl, rfl⟩
    · have h2 : oneB j = true := by unfold oneB; simp; omega
      go_enter Tryd.func24, Tryd.ntmps24
      go_wp2_with (first | ((with_reducible refine (two_any _ _).mono ?_); rintro e w' ⟨rfl, rfl⟩) | ((with_reducible refine (one_any _ _).mono ?_); rintro e w' ⟨rfl, rfl⟩))
      go_ret
      exact ⟨rfl, rfl⟩
  · have hn : nameK op 23 = ⟨#[]⟩ := by unfold nameK; rw [if_neg (by omega)]
    rw [hn]
    have h1 : twoB op = false := by unfold twoB; simp; omega
    have h2 : oneB op = false := by unfold oneB; simp; omega
    clear hn hc h
    go_enter Tryd.func24, Tryd.ntmps24
    go_wp2_with (first | ((with_reducible refine (two_any _ _).mono ?_); rintro e w' ⟨rfl, rfl⟩) | ((with_reducible refine (one_any _ _).mono ?_); rintro e w' ⟨rfl, rfl⟩))
    go_ret
    exact ⟨rfl, rfl⟩
/-- The operation of a name, among the first k; 0: none. -/
def wantK (s : ByteArray) : Nat → Nat
  | 0 => 0
  | k + 1 => if nm (k + 1) = s then k + 1 else wantK s k
theorem wantK_le (s : ByteArray) (k : Nat) : wantK s k ≤ k := by
  induction k with
  | zero => simp [wantK]
  | succ k ih => unfold wantK; split <;> omega
theorem nm_apart : ∀ i, i < 24 → ∀ j, j < 24 → nm i = nm j → i = j := by
  have h : ∀ i, i < 24 → ∀ j, j < 24 → (namesL.getD i []) = (namesL.getD j []) → i = j := by decide +kernel
  intro i hi j hj e
  refine h i hi j hj ?_
  have := congrArg (fun b : ByteArray => b.data.toList) e
  simpa [nm] using this
theorem wantK_hit (s : ByteArray) (j : Nat) (hj : 1 ≤ j) (h : nm j = s) : ∀ k, j ≤ k → k < 24 → wantK s k = j := by
  intro k
  induction k with
  | zero => omega
  | succ k ih =>
    intro h1 h2
    unfold wantK
    by_cases e : nm (k + 1) = s
    · rw [if_pos e]; exact nm_apart _ h2 _ (by omega) (e.trans h.symm)
    · rw [if_neg e]
      refine ih ?_ (by omega)
      rcases Nat.lt_or_ge k j with hlt | hge
      · obtain rfl : j = k + 1 := by omega
        exact absurd h e
      · exact hge
theorem wantK_miss (s : ByteArray) (k : Nat) (h : ∀ j, 1 ≤ j → j ≤ k → nm j ≠ s) : wantK s k = 0 := by
  induction k with
  | zero => rfl
  | succ k ih =>
    unfold wantK
    rw [if_neg (h (k + 1) (by omega) (by omega))]
    exact ih fun j h1 h2 => h j h1 (by omega)
theorem toList_yes {a b : ByteArray} (h : a = b) : (a.toList == b.toList) = true := by rw [h, beq_iff_eq]
theorem toList_no {a b : ByteArray} (h : a ≠ b) : (a.toList == b.toList) = false := by
  rw [beq_eq_false_iff_ne]; intro e; apply h
  rw [ByteArray.toList_eq, ByteArray.toList_eq] at e
  exact ByteArray.ext (Array.toList_inj.1 e)
def wantI (s : ByteArray) : Int := (wantK s 23 : Nat)
def foundB (s : ByteArray) : Bool := decide (0 < wantI s)
theorem named_any (s : ByteArray) (w : World) (hc : ∀ i, i < 24 → w.cell? ⟨0, i, none⟩ = some (.string (nm i))) :
    Calls Tryd.prog 20 #[.string s] w fun e w' => e = .returned (.tuple #[.int .i64 (wantI s), .bool (foundB s)]) ∧ w = w' := by
  have HC := Lib.hid hc
  clear hc
  go_enter Tryd.func20, Tryd.ntmps20
  go_wp2
  go_loop [4] (fun i => ∃ k : Nat, 1 ≤ k ∧ k ≤ 24 ∧ i = .int .i64 k ∧ RowKit.Hid (∀ j, 1 ≤ j → j < k → nm j ≠ s)) (fun i => 24 - (intOf i).toNat)
  case atStart => exact ⟨1, by omega, by omega, rfl, Lib.hid fun j h1 h2 => by omega⟩
  case round =>
    obtain ⟨k, hk1, hk2, rfl, hm⟩ := hrel
    by_cases hlt : k < 24
    · have hcell := HC.out k hlt
      by_cases he : nm k = s
      · have e1 : wantI s = k := by unfold wantI; rw [wantK_hit s k hk1 he 23 (by omega) (by omega)]
        have e2 : foundB s = true := by unfold foundB; rw [e1]; simp; omega
        have E1 := Lib.hid e1
        have E2 := Lib.hid e2
        clear e1 e2
        have hb := toList_yes he
        have He := Lib.hid he
        clear he
        go_wp2
        go_ret2
        exact ⟨by rw [E1.out, E2.out]; rfl, rfl⟩
      · have hb := toList_no he
        go_wp2
        go_round
        case rel => exact ⟨k + 1, by omega, by omega, by go_num, Lib.hid fun j h1 h2 => if e : j = k then e ▸ he else hm.out j h1 (by omega)⟩
        case measure => simp [intOf]; omega
    · have ek : (k : Int) = 24 := by omega
      have Ek := Lib.hid ek
      clear ek
      have e1 : wantI s = 0 := by
        unfold wantI; rw [wantK_miss s 23 fun j h1 h2 => hm.out j h1 (by omega)]; rfl
      have e2 : foundB s = false := by unfold foundB; rw [e1]; simp
      have E1 := Lib.hid e1
      have E2 := Lib.hid e2
      clear e1 e2
      go_wp2
      go_ret2
      exact ⟨by rw [E1.out, E2.out]; rfl, rfl⟩
def strBlock : Array Value := #[.string (nm 1), .string (nm 2), .string (nm 3), .string (nm 4), .string (nm 5), .string (nm 6), .string (nm 7), .string (nm 8), .string (nm 9), .string (nm 10), .string (nm 11), .string (nm 12), .string (nm 13), .string (nm 14), .string (nm 15), .string (nm 16), .string (nm 17), .string (nm 18), .string (nm 19), .string (nm 20), .string (nm 21), .string (nm 22), .string (nm 23)]
/-- The list of the names: a block of the call's own. -/
theorem refNames_any (w : World) :
    Calls Tryd.prog 19 #[] w fun e w' => e = .returned (.slice (some ⟨w.heap.size, 0, none⟩) 23 23) ∧ w' = w.alloc (.cells strBlock 9) := by
  go_enter Tryd.func19, Tryd.ntmps19
  go_wp2
  go_ret
  exact ⟨rfl, rfl⟩
theorem refNames_far (w : World) :
    Calls Tryd.prog 19 #[] w fun e w' => ∃ b : Nat, e = .returned (.slice (some ⟨b, 0, none⟩) 23 23) ∧ Grown w w' ∧ RowKit.Hid (∀ a v, w.cell? a = some v → w'.cell? a = some v) ∧ RowKit.Hid (∀ k, k < 23 → w'.cell? ⟨b, k, none⟩ = some (.string (nm (k + 1)))) :=
  (refNames_any w).mono fun e w' ⟨he, hw⟩ => by
    subst hw
    refine ⟨_, he, (Grown.refl w).alloc _ _, Lib.hid fun a v h => cell_alloc h _, Lib.hid fun k hk => ?_⟩
    rw [World.cell?_alloc_at _ _ _ _ rfl]
    have h : ∀ k, k < 23 → strBlock[k]? = some (.string (nm (k + 1))) := by
      intro k hk
      rcases (by omega : k = 0 ∨ k = 1 ∨ k = 2 ∨ k = 3 ∨ k = 4 ∨ k = 5 ∨ k = 6 ∨ k = 7 ∨ k = 8 ∨ k = 9 ∨ k = 10 ∨ k = 11 ∨ k = 12 ∨ k = 13 ∨ k = 14 ∨ k = 15 ∨ k = 16 ∨ k = 17 ∨ k = 18 ∨ k = 19 ∨ k = 20 ∨ k = 21 ∨ k = 22) with rfl | rfl | rfl | rfl | rfl | rfl | rfl | rfl | rfl | rfl | rfl | rfl | rfl | rfl | rfl | rfl | rfl | rfl | rfl | rfl | rfl | rfl | rfl <;> rfl
    exact h k hk
end Go.Proofs.YtlpbphhabeonfaaDoor
