/-
  The walk of LexWords.
-/
import Derived.Test.YtbafkkifdfmldaaDoorWords
import Derived.Deep.QuietTactic
import Derived.BigQuiet
namespace Go.Proofs.YtbafkkifdfmldaaDoor.lexWords
open Go.RowKit Sp
set_option linter.unusedVariables false

theorem is_yes (s : ByteArray) (b : Bool) (w : World) (h : isWord s.data.toList = b) : Calls Tryd.prog 16 #[.string s] w fun e w' => e = .returned (.bool b) ∧ w = w' := by
  subst h; exact is_any s w
theorem ref_yes (s : ByteArray) (b : Bool) (w : World) (h : isWord s.data.toList = b) : Calls Tryd.prog 17 #[.string s] w fun e w' => e = .returned (.bool b) ∧ Below w.heap.size w w' := by
  subst h; exact is_ref s w
set_option maxHeartbeats 2000000 in
theorem walk (a0 : ByteArray) (_w0 : a0.size ≤ maxLen) (w : World) (henv : Env w) :
    Calls Tryd.prog 4 #[.string a0] w fun e w' => e = .returned (.bool true) ∧ Below w.heap.size w w' := by
  unfold maxLen at _w0
  have HE := Lib.hid henv; clear henv
  by_cases hl : 100 < a0.size
  · go_enter Tryd.func4, Tryd.ntmps4
    go_wp2_with ((with_reducible refine (awake_any _ HE.out).mono ?_); rintro e w1 ⟨rfl, hb⟩)
    go_ret
    exact ⟨rfl, hb⟩
  · have hl2 : a0.size ≤ 100 := by omega
    clear hl
    -- the two lists
    obtain ⟨W1, hW1⟩ : ∃ W1, W1 = w.alloc (.cells signsV 51) := ⟨_, rfl⟩
    obtain ⟨W2, hW2⟩ : ∃ W2, W2 = W1.alloc (.cells signsV 9) := ⟨_, rfl⟩
    have hz1 : W1.heap.size = w.heap.size + 1 := by rw [hW1]; simp
    have HB1 : Hid (Below w.heap.size w W1) := Lib.hid (by rw [hW1]; exact (Below.refl _ _).alloc (Nat.le_refl _) _)
    have HB2 : Hid (Below w.heap.size w W2) := Lib.hid (by rw [hW2]; exact HB1.out.alloc (by omega) _)
    have HE2 : Hid (Env W2) := Lib.hid (HE.out.below HB2.out HE.out.sz)
    have h1 : W2.heap[w.heap.size]? = some (.cells signsV 51 (0, 0)) := by rw [hW2]; refine heap_alloc_eq ?_ _; rw [hW1]; exact heap_alloc_new w _
    have h2 : W2.heap[W1.heap.size]? = some (.cells signsV 9 (0, 0)) := by rw [hW2]; exact heap_alloc_new W1 _
    rw [hz1] at h2
    have HC1 : Hid (∀ k, k < 45 → W2.cell? ⟨w.heap.size, k, none⟩ = some (.string (sg k))) := Lib.hid fun k hk => by rw [cell_of_row _ _ k _ _ _ h1, signs_at k hk]
    have HC2 : Hid (∀ k, k < 45 → W2.cell? ⟨w.heap.size + 1, k, none⟩ = some (.string (sg k))) := Lib.hid fun k hk => by rw [cell_of_row _ _ k _ _ _ h2, signs_at k hk]
    have HW1 := Lib.hid hW1; have HW2 := Lib.hid hW2
    clear h1 h2 hW1 hW2
    obtain ⟨b, hb⟩ : ∃ b, isWord a0.data.toList = b := ⟨_, rfl⟩
    have HIS := Lib.hid hb; clear hb
    go_enter Tryd.func4, Tryd.ntmps4
    go_wp2_with (first | ((with_reducible refine (signs_prog _ HE.out).mono ?_); rintro e w1 ⟨rfl, hw⟩; rw [← HW1.out] at hw; subst hw) | ((with_reducible refine (signs_ref _).mono ?_); rintro e w1 ⟨rfl, hw⟩; rw [← HW2.out] at hw; subst hw; rw [hz1]))
    have hz2 : w1.heap.size = w.heap.size + 2 := by rw [HW2.out]; simp; omega
    go_loopg [19] 45 (fun g s19 wr => ∃ k : Nat, g = 45 - k ∧ k ≤ 45 ∧ s19 = .int .i64 k ∧ Hid (Below w1.heap.size w1 wr))
    case atStart => exact ⟨0, rfl, by omega, rfl, Lib.hid (Below.refl _ _)⟩
    case round =>
      obtain ⟨k, hg, hk, rfl, HBR⟩ := hrel
      subst hg
      by_cases hlt : k < 45
      · have c1 : wr.cell? ⟨w.heap.size, k, none⟩ = some (.string (sg k)) := (HBR.out.cell (by simp; omega)).trans (HC1.out k hlt)
        have c2 : wr.cell? ⟨w.heap.size + 1, k, none⟩ = some (.string (sg k)) := (HBR.out.cell (by simp; omega)).trans (HC2.out k hlt)
        have k0 : (0 : Int) ≤ (k : Int) := Int.natCast_nonneg _
        have k1 : (k : Int) < 45 := by omega
        go_wp2
        go_quiet (fail)
        go_wp2
        go_roundg (45 - (k + 1))
        case measure => omega
        case rel => exact ⟨k + 1, rfl, by omega, by go_num, Lib.hid (HBR.out.trans (below_drewN _ _ _))⟩
      · obtain rfl : k = 45 := by omega
        have HER : Hid (Env wr) := Lib.hid (HE2.out.below HBR.out HE2.out.sz)
        have HBW : Hid (Below w.heap.size w wr) := Lib.hid (HB2.out.trans (HBR.out.mono (by omega)))
        cases b with
        | true =>
          go_wp2_with (first | ((with_reducible refine (is_yes _ true _ HIS.out).mono ?_); rintro e w' ⟨rfl, rfl⟩) | ((with_reducible refine (ref_yes _ true _ HIS.out).mono ?_); rintro e W3 ⟨rfl, hb3⟩; have HE3 : Hid (Env W3) := Lib.hid (HER.out.below hb3 HER.out.sz); have HB3 := Lib.hid hb3; clear hb3) | ((with_reducible refine (awake_any _ HE3.out).mono ?_); rintro e W4 ⟨rfl, hb4⟩))
          go_ret
          exact ⟨rfl, (HBW.out.trans (HB3.out.mono HBW.out.size)).trans (hb4.mono (Nat.le_trans HBW.out.size HB3.out.size))⟩
        | false =>
          go_wp2_with (first | ((with_reducible refine (is_yes _ false _ HIS.out).mono ?_); rintro e w' ⟨rfl, rfl⟩) | ((with_reducible refine (ref_yes _ false _ HIS.out).mono ?_); rintro e W3 ⟨rfl, hb3⟩; have HE3 : Hid (Env W3) := Lib.hid (HER.out.below hb3 HER.out.sz); have HB3 := Lib.hid hb3; clear hb3) | ((with_reducible refine (awake_any _ HE3.out).mono ?_); rintro e W4 ⟨rfl, hb4⟩))
          go_ret
          exact ⟨rfl, (HBW.out.trans (HB3.out.mono HBW.out.size)).trans (hb4.mono (Nat.le_trans HBW.out.size HB3.out.size))⟩
end Go.Proofs.YtbafkkifdfmldaaDoor.lexWords
