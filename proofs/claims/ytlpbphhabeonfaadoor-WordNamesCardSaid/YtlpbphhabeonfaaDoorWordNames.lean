/-
  The walk of WordNames.
-/
import Derived.Test.YtlpbphhabeonfaaDoorLaid
import Derived.Test.YtlpbphhabeonfaaDoorFacts
import Derived.LoopN
import Derived.Test.YtlpbphhabeonfaaDoorNames
namespace Go.Proofs.YtlpbphhabeonfaaDoor.wordNames
open Go.RowKit
theorem nameK_step (op : Int) (k : Nat) : nameK op (k + 1) = if (k : Int) + 1 = op then nm (k + 1) else nameK op k := by
  unfold nameK
  by_cases h : (k : Int) + 1 = op
  · subst h
    rw [if_pos (by omega), if_pos rfl, show ((k : Int) + 1).toNat = k + 1 from by omega]
  · rw [if_neg h]
    by_cases h2 : 1 ≤ op ∧ op ≤ k
    · rw [if_pos h2, if_pos (by omega)]
    · rw [if_neg h2, if_neg (by omega)]
theorem nameK_zero (op : Int) : nameK op 0 = ⟨#[]⟩ := by unfold nameK; rw [if_neg (by omega)]
theorem wantK_step (s : ByteArray) (k : Nat) : wantK s (k + 1) = if nm (k + 1) = s then k + 1 else wantK s k := rfl
theorem shru_nm : nm 13 = shruS := rfl
set_option maxRecDepth 100000 in
set_option maxHeartbeats 2000000 in
theorem walkA (a0 : Int) (a1 : ByteArray) (hs : a1.size ≤ 100) (w : World) (hcw : RowKit.Hid (∀ i, i < 24 → w.cell? ⟨0, i, none⟩ = some (.string (nm i)))) (h : a0 < 1) :
    Calls Tryd.prog 5 #[.int .i64 a0, .string a1] w fun e w' => e = .returned (.bool true) ∧ Grown w w' := by
  have t2 : twoB a0 = false := by unfold twoB; simp; omega
  have t1 : oneB a0 = false := by unfold oneB; simp; omega
  have t3 : steadyB a0 = false := by unfold steadyB; simp; omega
  have hw := wantK_le a1 23
  go_enter Tryd.func5, Tryd.ntmps5
  go_wp2_with ((with_reducible refine (refNames_far _).mono ?_); rintro e w1 ⟨b, rfl, hg, hold, hcells⟩)
  have hcs : RowKit.Hid (∀ i, i < 24 → w1.cell? ⟨0, i, none⟩ = some (.string (nm i))) := Lib.hid fun i hi => hold.out _ _ (hcw.out i hi)
  clear hcw hold
  go_loop [8, 9, 33] (fun n t i => ∃ k : Nat, k ≤ 23 ∧ i = .int .i64 k ∧ n = .string (nameK a0 k) ∧ t = .int .i64 (wantK a1 k : Nat)) (fun _ _ i => 23 - (intOf i).toNat)
  case atStart => exact ⟨0, by omega, rfl, by rw [nameK_zero], rfl⟩
  case round =>
    obtain ⟨k, hk, rfl, rfl, rfl⟩ := hrel
    by_cases hlt : k < 23
    · have hcell := hcells.out k hlt
      have Hn := Lib.hid (nameK_step a0 k)
      have Hw := Lib.hid (wantK_step a1 k)
      have hwk := wantK_le a1 k
      by_cases h1 : (k : Int) + 1 = a0 <;> by_cases h2 : nm (k + 1) = a1
      · have b1 : ((k : Int) + 1 == a0) = true := by rw [beq_iff_eq]; exact h1
        have b2 := toList_yes h2
        have H1 := Lib.hid h1; have H2 := Lib.hid h2
        clear h1 h2
        go_wp2
        go_round
        case rel => exact ⟨k + 1, by omega, by go_num, by rw [Hn.out, if_pos H1.out], by rw [Hw.out, if_pos H2.out]; go_num⟩
        case measure => simp [intOf]; omega
      · have b1 : ((k : Int) + 1 == a0) = true := by rw [beq_iff_eq]; exact h1
        have b2 := toList_no h2
        have H1 := Lib.hid h1; have H2 := Lib.hid h2
        clear h1 h2
        go_wp2
        go_round
        case rel => exact ⟨k + 1, by omega, by go_num, by rw [Hn.out, if_pos H1.out], by rw [Hw.out, if_neg H2.out]⟩
        case measure => simp [intOf]; omega
      · have b1 : ((k : Int) + 1 == a0) = false := by rw [beq_eq_false_iff_ne]; exact h1
        have b2 := toList_yes h2
        have H1 := Lib.hid h1; have H2 := Lib.hid h2
        clear h1 h2
        go_wp2
        go_round
        case rel => exact ⟨k + 1, by omega, by go_num, by rw [Hn.out, if_neg H1.out], by rw [Hw.out, if_pos H2.out]; go_num⟩
        case measure => simp [intOf]; omega
      · have b1 : ((k : Int) + 1 == a0) = false := by rw [beq_eq_false_iff_ne]; exact h1
        have b2 := toList_no h2
        have H1 := Lib.hid h1; have H2 := Lib.hid h2
        clear h1 h2
        go_wp2
        go_round
        case rel => exact ⟨k + 1, by omega, by go_num, by rw [Hn.out, if_neg H1.out], by rw [Hw.out, if_neg H2.out]⟩
        case measure => simp [intOf]; omega
    · obtain rfl : k = 23 := by omega
      have e1 : (wantI a1 == ((wantK a1 23 : Nat) : Int)) = true := by rw [beq_iff_eq]; rfl
      have e2 : foundB a1 = decide (0 < wantK a1 23) := by unfold foundB wantI; simp only [decide_eq_decide]; omega
      go_wp2_with (first | ((with_reducible refine (named_any _ _ hcs.out).mono ?_); rintro e w' ⟨rfl, rfl⟩) | ((with_reducible refine (name_any _ _ hcs.out).mono ?_); rintro e w' ⟨rfl, rfl⟩) | ((with_reducible refine (two_any _ _).mono ?_); rintro e w' ⟨rfl, rfl⟩) | ((with_reducible refine (one_any _ _).mono ?_); rintro e w' ⟨rfl, rfl⟩) | ((with_reducible refine (steady_any _ _).mono ?_); rintro e w' ⟨rfl, rfl⟩) | ((with_reducible refine (awake_any _ (hcs.out 13 (by omega))).mono ?_); rintro e w' ⟨rfl, rfl⟩))
      go_ret
      exact ⟨rfl, hg⟩
set_option maxRecDepth 100000 in
set_option maxHeartbeats 2000000 in
theorem walkB (a0 : Int) (a1 : ByteArray) (hs : a1.size ≤ 100) (w : World) (hcw : RowKit.Hid (∀ i, i < 24 → w.cell? ⟨0, i, none⟩ = some (.string (nm i)))) (h : 1 ≤ a0 ∧ a0 ≤ 3) :
    Calls Tryd.prog 5 #[.int .i64 a0, .string a1] w fun e w' => e = .returned (.bool true) ∧ Grown w w' := by
  have t2 : twoB a0 = true := by unfold twoB; simp; omega
  have t1 : oneB a0 = false := by unfold oneB; simp; omega
  have t3 : steadyB a0 = true := by unfold steadyB; simp; omega
  have hw := wantK_le a1 23
  go_enter Tryd.func5, Tryd.ntmps5
  go_wp2_with ((with_reducible refine (refNames_far _).mono ?_); rintro e w1 ⟨b, rfl, hg, hold, hcells⟩)
  have hcs : RowKit.Hid (∀ i, i < 24 → w1.cell? ⟨0, i, none⟩ = some (.string (nm i))) := Lib.hid fun i hi => hold.out _ _ (hcw.out i hi)
  clear hcw hold
  go_loop [8, 9, 33] (fun n t i => ∃ k : Nat, k ≤ 23 ∧ i = .int .i64 k ∧ n = .string (nameK a0 k) ∧ t = .int .i64 (wantK a1 k : Nat)) (fun _ _ i => 23 - (intOf i).toNat)
  case atStart => exact ⟨0, by omega, rfl, by rw [nameK_zero], rfl⟩
  case round =>
    obtain ⟨k, hk, rfl, rfl, rfl⟩ := hrel
    by_cases hlt : k < 23
    · have hcell := hcells.out k hlt
      have Hn := Lib.hid (nameK_step a0 k)
      have Hw := Lib.hid (wantK_step a1 k)
      have hwk := wantK_le a1 k
      by_cases h1 : (k : Int) + 1 = a0 <;> by_cases h2 : nm (k + 1) = a1
      · have b1 : ((k : Int) + 1 == a0) = true := by rw [beq_iff_eq]; exact h1
        have b2 := toList_yes h2
        have H1 := Lib.hid h1; have H2 := Lib.hid h2
        clear h1 h2
        go_wp2
        go_round
        case rel => exact ⟨k + 1, by omega, by go_num, by rw [Hn.out, if_pos H1.out], by rw [Hw.out, if_pos H2.out]; go_num⟩
        case measure => simp [intOf]; omega
      · have b1 : ((k : Int) + 1 == a0) = true := by rw [beq_iff_eq]; exact h1
        have b2 := toList_no h2
        have H1 := Lib.hid h1; have H2 := Lib.hid h2
        clear h1 h2
        go_wp2
        go_round
        case rel => exact ⟨k + 1, by omega, by go_num, by rw [Hn.out, if_pos H1.out], by rw [Hw.out, if_neg H2.out]⟩
        case measure => simp [intOf]; omega
      · have b1 : ((k : Int) + 1 == a0) = false := by rw [beq_eq_false_iff_ne]; exact h1
        have b2 := toList_yes h2
        have H1 := Lib.hid h1; have H2 := Lib.hid h2
        clear h1 h2
        go_wp2
        go_round
        case rel => exact ⟨k + 1, by omega, by go_num, by rw [Hn.out, if_neg H1.out], by rw [Hw.out, if_pos H2.out]; go_num⟩
        case measure => simp [intOf]; omega
      · have b1 : ((k : Int) + 1 == a0) = false := by rw [beq_eq_false_iff_ne]; exact h1
        have b2 := toList_no h2
        have H1 := Lib.hid h1; have H2 := Lib.hid h2
        clear h1 h2
        go_wp2
        go_round
        case rel => exact ⟨k + 1, by omega, by go_num, by rw [Hn.out, if_neg H1.out], by rw [Hw.out, if_neg H2.out]⟩
        case measure => simp [intOf]; omega
    · obtain rfl : k = 23 := by omega
      have e1 : (wantI a1 == ((wantK a1 23 : Nat) : Int)) = true := by rw [beq_iff_eq]; rfl
      have e2 : foundB a1 = decide (0 < wantK a1 23) := by unfold foundB wantI; simp only [decide_eq_decide]; omega
      go_wp2_with (first | ((with_reducible refine (named_any _ _ hcs.out).mono ?_); rintro e w' ⟨rfl, rfl⟩) | ((with_reducible refine (name_any _ _ hcs.out).mono ?_); rintro e w' ⟨rfl, rfl⟩) | ((with_reducible refine (two_any _ _).mono ?_); rintro e w' ⟨rfl, rfl⟩) | ((with_reducible refine (one_any _ _).mono ?_); rintro e w' ⟨rfl, rfl⟩) | ((with_reducible refine (steady_any _ _).mono ?_); rintro e w' ⟨rfl, rfl⟩) | ((with_reducible refine (awake_any _ (hcs.out 13 (by omega))).mono ?_); rintro e w' ⟨rfl, rfl⟩))
      go_ret
      exact ⟨rfl, hg⟩
set_option maxRecDepth 100000 in
set_option maxHeartbeats 2000000 in
theorem walkC (a0 : Int) (a1 : ByteArray) (hs : a1.size ≤ 100) (w : World) (hcw : RowKit.Hid (∀ i, i < 24 → w.cell? ⟨0, i, none⟩ = some (.string (nm i)))) (h : 4 ≤ a0 ∧ a0 ≤ 7) :
    Calls Tryd.prog 5 #[.int .i64 a0, .string a1] w fun e w' => e = .returned (.bool true) ∧ Grown w w' := by
  have t2 : twoB a0 = true := by unfold twoB; simp; omega
  have t1 : oneB a0 = false := by unfold oneB; simp; omega
  have t3 : steadyB a0 = false := by unfold steadyB; simp; omega
  have hw := wantK_le a1 23
  have d1 : decide (a0 < 4) = false := by simp; omega
  have d2 : decide (7 < a0) = false := by simp; omega
  go_enter Tryd.func5, Tryd.ntmps5
  go_wp2_with ((with_reducible refine (refNames_far _).mono ?_); rintro e w1 ⟨b, rfl, hg, hold, hcells⟩)
  have hcs : RowKit.Hid (∀ i, i < 24 → w1.cell? ⟨0, i, none⟩ = some (.string (nm i))) := Lib.hid fun i hi => hold.out _ _ (hcw.out i hi)
  clear hcw hold
  go_loop [8, 9, 33] (fun n t i => ∃ k : Nat, k ≤ 23 ∧ i = .int .i64 k ∧ n = .string (nameK a0 k) ∧ t = .int .i64 (wantK a1 k : Nat)) (fun _ _ i => 23 - (intOf i).toNat)
  case atStart => exact ⟨0, by omega, rfl, by rw [nameK_zero], rfl⟩
  case round =>
    obtain ⟨k, hk, rfl, rfl, rfl⟩ := hrel
    by_cases hlt : k < 23
    · have hcell := hcells.out k hlt
      have Hn := Lib.hid (nameK_step a0 k)
      have Hw := Lib.hid (wantK_step a1 k)
      have hwk := wantK_le a1 k
      by_cases h1 : (k : Int) + 1 = a0 <;> by_cases h2 : nm (k + 1) = a1
      · have b1 : ((k : Int) + 1 == a0) = true := by rw [beq_iff_eq]; exact h1
        have b2 := toList_yes h2
        have H1 := Lib.hid h1; have H2 := Lib.hid h2
        clear h1 h2
        go_wp2
        go_round
        case rel => exact ⟨k + 1, by omega, by go_num, by rw [Hn.out, if_pos H1.out], by rw [Hw.out, if_pos H2.out]; go_num⟩
        case measure => simp [intOf]; omega
      · have b1 : ((k : Int) + 1 == a0) = true := by rw [beq_iff_eq]; exact h1
        have b2 := toList_no h2
        have H1 := Lib.hid h1; have H2 := Lib.hid h2
        clear h1 h2
        go_wp2
        go_round
        case rel => exact ⟨k + 1, by omega, by go_num, by rw [Hn.out, if_pos H1.out], by rw [Hw.out, if_neg H2.out]⟩
        case measure => simp [intOf]; omega
      · have b1 : ((k : Int) + 1 == a0) = false := by rw [beq_eq_false_iff_ne]; exact h1
        have b2 := toList_yes h2
        have H1 := Lib.hid h1; have H2 := Lib.hid h2
        clear h1 h2
        go_wp2
        go_round
        case rel => exact ⟨k + 1, by omega, by go_num, by rw [Hn.out, if_neg H1.out], by rw [Hw.out, if_pos H2.out]; go_num⟩
        case measure => simp [intOf]; omega
      · have b1 : ((k : Int) + 1 == a0) = false := by rw [beq_eq_false_iff_ne]; exact h1
        have b2 := toList_no h2
        have H1 := Lib.hid h1; have H2 := Lib.hid h2
        clear h1 h2
        go_wp2
        go_round
        case rel => exact ⟨k + 1, by omega, by go_num, by rw [Hn.out, if_neg H1.out], by rw [Hw.out, if_neg H2.out]⟩
        case measure => simp [intOf]; omega
    · obtain rfl : k = 23 := by omega
      have e1 : (wantI a1 == ((wantK a1 23 : Nat) : Int)) = true := by rw [beq_iff_eq]; rfl
      have e2 : foundB a1 = decide (0 < wantK a1 23) := by unfold foundB wantI; simp only [decide_eq_decide]; omega
      go_wp2_with (first | ((with_reducible refine (named_any _ _ hcs.out).mono ?_); rintro e w' ⟨rfl, rfl⟩) | ((with_reducible refine (name_any _ _ hcs.out).mono ?_); rintro e w' ⟨rfl, rfl⟩) | ((with_reducible refine (two_any _ _).mono ?_); rintro e w' ⟨rfl, rfl⟩) | ((with_reducible refine (one_any _ _).mono ?_); rintro e w' ⟨rfl, rfl⟩) | ((with_reducible refine (steady_any _ _).mono ?_); rintro e w' ⟨rfl, rfl⟩) | ((with_reducible refine (awake_any _ (hcs.out 13 (by omega))).mono ?_); rintro e w' ⟨rfl, rfl⟩))
      go_ret
      exact ⟨rfl, hg⟩
set_option maxRecDepth 100000 in
set_option maxHeartbeats 2000000 in
theorem walkD (a0 : Int) (a1 : ByteArray) (hs : a1.size ≤ 100) (w : World) (hcw : RowKit.Hid (∀ i, i < 24 → w.cell? ⟨0, i, none⟩ = some (.string (nm i)))) (h : 8 ≤ a0 ∧ a0 ≤ 19) :
    Calls Tryd.prog 5 #[.int .i64 a0, .string a1] w fun e w' => e = .returned (.bool true) ∧ Grown w w' := by
  have t2 : twoB a0 = true := by unfold twoB; simp; omega
  have t1 : oneB a0 = false := by unfold oneB; simp; omega
  have t3 : steadyB a0 = true := by unfold steadyB; simp; omega
  have hw := wantK_le a1 23
  have d1 : decide (a0 < 4) = false := by simp; omega
  have d2 : decide (7 < a0) = true := by simp; omega
  go_enter Tryd.func5, Tryd.ntmps5
  go_wp2_with ((with_reducible refine (refNames_far _).mono ?_); rintro e w1 ⟨b, rfl, hg, hold, hcells⟩)
  have hcs : RowKit.Hid (∀ i, i < 24 → w1.cell? ⟨0, i, none⟩ = some (.string (nm i))) := Lib.hid fun i hi => hold.out _ _ (hcw.out i hi)
  clear hcw hold
  go_loop [8, 9, 33] (fun n t i => ∃ k : Nat, k ≤ 23 ∧ i = .int .i64 k ∧ n = .string (nameK a0 k) ∧ t = .int .i64 (wantK a1 k : Nat)) (fun _ _ i => 23 - (intOf i).toNat)
  case atStart => exact ⟨0, by omega, rfl, by rw [nameK_zero], rfl⟩
  case round =>
    obtain ⟨k, hk, rfl, rfl, rfl⟩ := hrel
    by_cases hlt : k < 23
    · have hcell := hcells.out k hlt
      have Hn := Lib.hid (nameK_step a0 k)
      have Hw := Lib.hid (wantK_step a1 k)
      have hwk := wantK_le a1 k
      by_cases h1 : (k : Int) + 1 = a0 <;> by_cases h2 : nm (k + 1) = a1
      · have b1 : ((k : Int) + 1 == a0) = true := by rw [beq_iff_eq]; exact h1
        have b2 := toList_yes h2
        have H1 := Lib.hid h1; have H2 := Lib.hid h2
        clear h1 h2
        go_wp2
        go_round
        case rel => exact ⟨k + 1, by omega, by go_num, by rw [Hn.out, if_pos H1.out], by rw [Hw.out, if_pos H2.out]; go_num⟩
        case measure => simp [intOf]; omega
      · have b1 : ((k : Int) + 1 == a0) = true := by rw [beq_iff_eq]; exact h1
        have b2 := toList_no h2
        have H1 := Lib.hid h1; have H2 := Lib.hid h2
        clear h1 h2
        go_wp2
        go_round
        case rel => exact ⟨k + 1, by omega, by go_num, by rw [Hn.out, if_pos H1.out], by rw [Hw.out, if_neg H2.out]⟩
        case measure => simp [intOf]; omega
      · have b1 : ((k : Int) + 1 == a0) = false := by rw [beq_eq_false_iff_ne]; exact h1
        have b2 := toList_yes h2
        have H1 := Lib.hid h1; have H2 := Lib.hid h2
        clear h1 h2
        go_wp2
        go_round
        case rel => exact ⟨k + 1, by omega, by go_num, by rw [Hn.out, if_neg H1.out], by rw [Hw.out, if_pos H2.out]; go_num⟩
        case measure => simp [intOf]; omega
      · have b1 : ((k : Int) + 1 == a0) = false := by rw [beq_eq_false_iff_ne]; exact h1
        have b2 := toList_no h2
        have H1 := Lib.hid h1; have H2 := Lib.hid h2
        clear h1 h2
        go_wp2
        go_round
        case rel => exact ⟨k + 1, by omega, by go_num, by rw [Hn.out, if_neg H1.out], by rw [Hw.out, if_neg H2.out]⟩
        case measure => simp [intOf]; omega
    · obtain rfl : k = 23 := by omega
      have e1 : (wantI a1 == ((wantK a1 23 : Nat) : Int)) = true := by rw [beq_iff_eq]; rfl
      have e2 : foundB a1 = decide (0 < wantK a1 23) := by unfold foundB wantI; simp only [decide_eq_decide]; omega
      go_wp2_with (first | ((with_reducible refine (named_any _ _ hcs.out).mono ?_); rintro e w' ⟨rfl, rfl⟩) | ((with_reducible refine (name_any _ _ hcs.out).mono ?_); rintro e w' ⟨rfl, rfl⟩) | ((with_reducible refine (two_any _ _).mono ?_); rintro e w' ⟨rfl, rfl⟩) | ((with_reducible refine (one_any _ _).mono ?_); rintro e w' ⟨rfl, rfl⟩) | ((with_reducible refine (steady_any _ _).mono ?_); rintro e w' ⟨rfl, rfl⟩) | ((with_reducible refine (awake_any _ (hcs.out 13 (by omega))).mono ?_); rintro e w' ⟨rfl, rfl⟩))
      go_ret
      exact ⟨rfl, hg⟩
set_option maxRecDepth 100000 in
set_option maxHeartbeats 2000000 in
theorem walkE (a0 : Int) (a1 : ByteArray) (hs : a1.size ≤ 100) (w : World) (hcw : RowKit.Hid (∀ i, i < 24 → w.cell? ⟨0, i, none⟩ = some (.string (nm i)))) (h : 20 ≤ a0 ∧ a0 ≤ 23) :
    Calls Tryd.prog 5 #[.int .i64 a0, .string a1] w fun e w' => e = .returned (.bool true) ∧ Grown w w' := by
  have t2 : twoB a0 = false := by unfold twoB; simp; omega
  have t1 : oneB a0 = true := by unfold oneB; simp; omega
  have t3 : steadyB a0 = true := by unfold steadyB; simp; omega
  have hw := wantK_le a1 23
  have d1 : decide (a0 ≤ 19) = false := by simp; omega
  go_enter Tryd.func5, Tryd.ntmps5
  go_wp2_with ((with_reducible refine (refNames_far _).mono ?_); rintro e w1 ⟨b, rfl, hg, hold, hcells⟩)
  have hcs : RowKit.Hid (∀ i, i < 24 → w1.cell? ⟨0, i, none⟩ = some (.string (nm i))) := Lib.hid fun i hi => hold.out _ _ (hcw.out i hi)
  clear hcw hold
  go_loop [8, 9, 33] (fun n t i => ∃ k : Nat, k ≤ 23 ∧ i = .int .i64 k ∧ n = .string (nameK a0 k) ∧ t = .int .i64 (wantK a1 k : Nat)) (fun _ _ i => 23 - (intOf i).toNat)
  case atStart => exact ⟨0, by omega, rfl, by rw [nameK_zero], rfl⟩
  case round =>
    obtain ⟨k, hk, rfl, rfl, rfl⟩ := hrel
    by_cases hlt : k < 23
    · have hcell := hcells.out k hlt
      have Hn := Lib.hid (nameK_step a0 k)
      have Hw := Lib.hid (wantK_step a1 k)
      have hwk := wantK_le a1 k
      by_cases h1 : (k : Int) + 1 = a0 <;> by_cases h2 : nm (k + 1) = a1
      · have b1 : ((k : Int) + 1 == a0) = true := by rw [beq_iff_eq]; exact h1
        have b2 := toList_yes h2
        have H1 := Lib.hid h1; have H2 := Lib.hid h2
        clear h1 h2
        go_wp2
        go_round
        case rel => exact ⟨k + 1, by omega, by go_num, by rw [Hn.out, if_pos H1.out], by rw [Hw.out, if_pos H2.out]; go_num⟩
        case measure => simp [intOf]; omega
      · have b1 : ((k : Int) + 1 == a0) = true := by rw [beq_iff_eq]; exact h1
        have b2 := toList_no h2
        have H1 := Lib.hid h1; have H2 := Lib.hid h2
        clear h1 h2
        go_wp2
        go_round
        case rel => exact ⟨k + 1, by omega, by go_num, by rw [Hn.out, if_pos H1.out], by rw [Hw.out, if_neg H2.out]⟩
        case measure => simp [intOf]; omega
      · have b1 : ((k : Int) + 1 == a0) = false := by rw [beq_eq_false_iff_ne]; exact h1
        have b2 := toList_yes h2
        have H1 := Lib.hid h1; have H2 := Lib.hid h2
        clear h1 h2
        go_wp2
        go_round
        case rel => exact ⟨k + 1, by omega, by go_num, by rw [Hn.out, if_neg H1.out], by rw [Hw.out, if_pos H2.out]; go_num⟩
        case measure => simp [intOf]; omega
      · have b1 : ((k : Int) + 1 == a0) = false := by rw [beq_eq_false_iff_ne]; exact h1
        have b2 := toList_no h2
        have H1 := Lib.hid h1; have H2 := Lib.hid h2
        clear h1 h2
        go_wp2
        go_round
        case rel => exact ⟨k + 1, by omega, by go_num, by rw [Hn.out, if_neg H1.out], by rw [Hw.out, if_neg H2.out]⟩
        case measure => simp [intOf]; omega
    · obtain rfl : k = 23 := by omega
      have e1 : (wantI a1 == ((wantK a1 23 : Nat) : Int)) = true := by rw [beq_iff_eq]; rfl
      have e2 : foundB a1 = decide (0 < wantK a1 23) := by unfold foundB wantI; simp only [decide_eq_decide]; omega
      go_wp2_with (first | ((with_reducible refine (named_any _ _ hcs.out).mono ?_); rintro e w' ⟨rfl, rfl⟩) | ((with_reducible refine (name_any _ _ hcs.out).mono ?_); rintro e w' ⟨rfl, rfl⟩) | ((with_reducible refine (two_any _ _).mono ?_); rintro e w' ⟨rfl, rfl⟩) | ((with_reducible refine (one_any _ _).mono ?_); rintro e w' ⟨rfl, rfl⟩) | ((with_reducible refine (steady_any _ _).mono ?_); rintro e w' ⟨rfl, rfl⟩) | ((with_reducible refine (awake_any _ (hcs.out 13 (by omega))).mono ?_); rintro e w' ⟨rfl, rfl⟩))
      go_ret
      exact ⟨rfl, hg⟩
set_option maxRecDepth 100000 in
set_option maxHeartbeats 2000000 in
theorem walkF (a0 : Int) (a1 : ByteArray) (hs : a1.size ≤ 100) (w : World) (hcw : RowKit.Hid (∀ i, i < 24 → w.cell? ⟨0, i, none⟩ = some (.string (nm i)))) (h : 23 < a0) :
    Calls Tryd.prog 5 #[.int .i64 a0, .string a1] w fun e w' => e = .returned (.bool true) ∧ Grown w w' := by
  have t2 : twoB a0 = false := by unfold twoB; simp; omega
  have t1 : oneB a0 = false := by unfold oneB; simp; omega
  have t3 : steadyB a0 = false := by unfold steadyB; simp; omega
  have hw := wantK_le a1 23
  have d0 : decide (a0 ≤ 19) = false := by simp; omega
  have d1 : decide (a0 ≤ 23) = false := by simp; omega
  go_enter Tryd.func5, Tryd.ntmps5
  go_wp2_with ((with_reducible refine (refNames_far _).mono ?_); rintro e w1 ⟨b, rfl, hg, hold, hcells⟩)
  have hcs : RowKit.Hid (∀ i, i < 24 → w1.cell? ⟨0, i, none⟩ = some (.string (nm i))) := Lib.hid fun i hi => hold.out _ _ (hcw.out i hi)
  clear hcw hold
  go_loop [8, 9, 33] (fun n t i => ∃ k : Nat, k ≤ 23 ∧ i = .int .i64 k ∧ n = .string (nameK a0 k) ∧ t = .int .i64 (wantK a1 k : Nat)) (fun _ _ i => 23 - (intOf i).toNat)
  case atStart => exact ⟨0, by omega, rfl, by rw [nameK_zero], rfl⟩
  case round =>
    obtain ⟨k, hk, rfl, rfl, rfl⟩ := hrel
    by_cases hlt : k < 23
    · have hcell := hcells.out k hlt
      have Hn := Lib.hid (nameK_step a0 k)
      have Hw := Lib.hid (wantK_step a1 k)
      have hwk := wantK_le a1 k
      by_cases h1 : (k : Int) + 1 = a0 <;> by_cases h2 : nm (k + 1) = a1
      · have b1 : ((k : Int) + 1 == a0) = true := by rw [beq_iff_eq]; exact h1
        have b2 := toList_yes h2
        have H1 := Lib.hid h1; have H2 := Lib.hid h2
        clear h1 h2
        go_wp2
        go_round
        case rel => exact ⟨k + 1, by omega, by go_num, by rw [Hn.out, if_pos H1.out], by rw [Hw.out, if_pos H2.out]; go_num⟩
        case measure => simp [intOf]; omega
      · have b1 : ((k : Int) + 1 == a0) = true := by rw [beq_iff_eq]; exact h1
        have b2 := toList_no h2
        have H1 := Lib.hid h1; have H2 := Lib.hid h2
        clear h1 h2
        go_wp2
        go_round
        case rel => exact ⟨k + 1, by omega, by go_num, by rw [Hn.out, if_pos H1.out], by rw [Hw.out, if_neg H2.out]⟩
        case measure => simp [intOf]; omega
      · have b1 : ((k : Int) + 1 == a0) = false := by rw [beq_eq_false_iff_ne]; exact h1
        have b2 := toList_yes h2
        have H1 := Lib.hid h1; have H2 := Lib.hid h2
        clear h1 h2
        go_wp2
        go_round
        case rel => exact ⟨k + 1, by omega, by go_num, by rw [Hn.out, if_neg H1.out], by rw [Hw.out, if_pos H2.out]; go_num⟩
        case measure => simp [intOf]; omega
      · have b1 : ((k : Int) + 1 == a0) = false := by rw [beq_eq_false_iff_ne]; exact h1
        have b2 := toList_no h2
        have H1 := Lib.hid h1; have H2 := Lib.hid h2
        clear h1 h2
        go_wp2
        go_round
        case rel => exact ⟨k + 1, by omega, by go_num, by rw [Hn.out, if_neg H1.out], by rw [Hw.out, if_neg H2.out]⟩
        case measure => simp [intOf]; omega
    · obtain rfl : k = 23 := by omega
      have e1 : (wantI a1 == ((wantK a1 23 : Nat) : Int)) = true := by rw [beq_iff_eq]; rfl
      have e2 : foundB a1 = decide (0 < wantK a1 23) := by unfold foundB wantI; simp only [decide_eq_decide]; omega
      go_wp2_with (first | ((with_reducible refine (named_any _ _ hcs.out).mono ?_); rintro e w' ⟨rfl, rfl⟩) | ((with_reducible refine (name_any _ _ hcs.out).mono ?_); rintro e w' ⟨rfl, rfl⟩) | ((with_reducible refine (two_any _ _).mono ?_); rintro e w' ⟨rfl, rfl⟩) | ((with_reducible refine (one_any _ _).mono ?_); rintro e w' ⟨rfl, rfl⟩) | ((with_reducible refine (steady_any _ _).mono ?_); rintro e w' ⟨rfl, rfl⟩) | ((with_reducible refine (awake_any _ (hcs.out 13 (by omega))).mono ?_); rintro e w' ⟨rfl, rfl⟩))
      go_ret
      exact ⟨rfl, hg⟩
theorem walkS (a0 : Int) (a1 : ByteArray) (hs : 100 < a1.size) (w : World) (hc : w.cell? ⟨0, 13, none⟩ = some (.string shruS)) :
    Calls Tryd.prog 5 #[.int .i64 a0, .string a1] w fun e w' => e = .returned (.bool true) ∧ Grown w w' := by
  go_enter Tryd.func5, Tryd.ntmps5
  go_wp2_with ((with_reducible refine (awake_any _ hc).mono ?_); rintro e w' ⟨rfl, rfl⟩)
  go_ret
  exact ⟨rfl, Grown.refl _⟩
theorem walk (a0 : Int) (_w0 : (Lit.int .i64 a0).wf = true) (a1 : ByteArray) (_w1 : a1.size ≤ maxLen) (w : World) (hL : laidMetH Tryd.prog seatLaid w) :
    Calls Tryd.prog 5 #[.int .i64 a0, .string a1] w fun e w' => e = .returned (.bool true) ∧ Grown w w' := by
  by_cases hs : 100 < a1.size
  · exact walkS a0 a1 hs w (shru_at hL)
  · have hs' : a1.size ≤ 100 := by omega
    have H := Lib.hid (cells_at hL)
    rcases (by omega : a0 < 1 ∨ (1 ≤ a0 ∧ a0 ≤ 3) ∨ (4 ≤ a0 ∧ a0 ≤ 7) ∨ (8 ≤ a0 ∧ a0 ≤ 19) ∨ (20 ≤ a0 ∧ a0 ≤ 23) ∨ 23 < a0) with h | h | h | h | h | h
    · exact walkA a0 a1 hs' w H h
    · exact walkB a0 a1 hs' w H h
    · exact walkC a0 a1 hs' w H h
    · exact walkD a0 a1 hs' w H h
    · exact walkE a0 a1 hs' w H h
    · exact walkF a0 a1 hs' w H h
end Go.Proofs.YtlpbphhabeonfaaDoor.wordNames
