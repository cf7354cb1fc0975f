/-
  Contracts of the document's own letter, digit, hex and at.
-/
import Derived.Test.YtbafkkifdfmldaaDoorWords
import Derived.IntWalk
namespace Go.Proofs.YtbafkkifdfmldaaDoor
open Go.RowKit Sp
set_option linter.unusedVariables false

theorem r_digit (c : UInt8) (w : World) :
    Calls Tryd.prog 26 #[.int .u8 c.toNat] w fun e w' => e = .returned (.bool (isDig c)) ∧ w = w' := by
  go_enter Tryd.func26, Tryd.ntmps26
  go_wp2
  all_goals (go_ret; exact ⟨ret_bool (by unfold isDig; rw [Bool.eq_iff_iff]; simp; omega), rfl⟩)
theorem r_letter (c : UInt8) (w : World) :
    Calls Tryd.prog 25 #[.int .u8 c.toNat] w fun e w' => e = .returned (.bool (isLet c)) ∧ w = w' := by
  go_enter Tryd.func25, Tryd.ntmps25
  go_wp2
  all_goals (go_ret; exact ⟨ret_bool (by unfold isLet; rw [Bool.eq_iff_iff]; simp; omega), rfl⟩)
theorem r_hex (c : UInt8) (w : World) :
    Calls Tryd.prog 42 #[.int .u8 c.toNat] w fun e w' => e = .returned (.int .i64 (hex c)) ∧ w = w' := by
  have hc := c.toNat_lt
  cases hd : isDig c with
  | true =>
    have h2 : 48 ≤ c.toNat ∧ c.toNat ≤ 57 := by simpa [isDig] using hd
    have h3 : (hex c : Int) = (c.toNat : Int) - 48 := by unfold hex; rw [if_pos h2]; omega
    obtain ⟨h4, h5⟩ := h2
    have HD := Lib.hid hd; clear hd
    go_enter Tryd.func42, Tryd.ntmps42
    go_wp2_with ((with_reducible refine (r_digit c _).mono ?_); rintro e w' ⟨rfl, rfl⟩; rw [HD.out])
    all_goals (go_ret; exact ⟨ret_int (by first | rfl | exact h3.symm), rfl⟩)
  | false =>
    have h2 : ¬ (48 ≤ c.toNat ∧ c.toNat ≤ 57) := by
      intro h; rw [isDig] at hd; simp [h.1, h.2] at hd
    have HD := Lib.hid hd; clear hd
    by_cases ha : 97 ≤ c.toNat ∧ c.toNat ≤ 102
    · have h3 : (hex c : Int) = (c.toNat : Int) - 97 + 10 := by unfold hex; rw [if_neg h2, if_pos ha]; omega
      obtain ⟨h4, h5⟩ := ha
      clear h2
      go_enter Tryd.func42, Tryd.ntmps42
      go_wp2_with ((with_reducible refine (r_digit c _).mono ?_); rintro e w' ⟨rfl, rfl⟩; rw [HD.out])
      all_goals (go_ret; exact ⟨ret_int (by first | rfl | exact h3.symm), rfl⟩)
    · by_cases hb : 65 ≤ c.toNat ∧ c.toNat ≤ 70
      · have h3 : (hex c : Int) = (c.toNat : Int) - 65 + 10 := by unfold hex; rw [if_neg h2, if_neg ha, if_pos hb]; omega
        obtain ⟨h4, h5⟩ := hb
        clear h2 ha
        go_enter Tryd.func42, Tryd.ntmps42
        go_wp2_with ((with_reducible refine (r_digit c _).mono ?_); rintro e w' ⟨rfl, rfl⟩; rw [HD.out])
        all_goals (go_ret; exact ⟨ret_int (by first | rfl | exact h3.symm), rfl⟩)
      · have h3 : (hex c : Int) = 99 := by unfold hex; rw [if_neg h2, if_neg ha, if_neg hb]; rfl
        go_enter Tryd.func42, Tryd.ntmps42
        go_wp2_with ((with_reducible refine (r_digit c _).mono ?_); rintro e w' ⟨rfl, rfl⟩; rw [HD.out])
        all_goals (first | (exfalso; omega) | (go_ret; exact ⟨ret_int (by first | rfl | exact h3.symm), rfl⟩))
theorem pre_take_eq (p l : List UInt8) : p.isPrefixOf l = decide (l.take p.length = p) := by
  rw [Bool.eq_iff_iff, List.isPrefixOf_iff_prefix, decide_eq_true_iff, List.prefix_iff_eq_take]
  exact ⟨fun h => h.symm, fun h => h.symm⟩
theorem r_at (s t : ByteArray) (k : Nat) (b : Bool) (w : World) (hs : s.size ≤ 32768) (hk : k ≤ s.size) (ht : t.size ≤ 100) (h : t.data.toList.isPrefixOf (s.data.toList.drop k) = b) :
    Calls Tryd.prog 29 #[.string s, .int .i64 k, .string t] w fun e w' => e = .returned (.bool b) ∧ w = w' := by
  have hn : t.data.toList.length = t.size := by simp
  obtain ⟨q, hq⟩ : ∃ q, k + t.size = q := ⟨_, rfl⟩
  have hwr : IntKind.i64.wrap ((k : Int) + (t.size : Int)) = (q : Int) := by rw [IntWalk.i64_in _ (by omega)]; omega
  have k0 : (0 : Int) ≤ (k : Int) := Int.natCast_nonneg _
  have q0 : (k : Int) ≤ (q : Int) := by omega
  by_cases hle : q ≤ s.size
  · have hle2 : (q : Int) ≤ (s.size : Int) := by omega
    have hdec : decide (s.size < q) = false := by simp; omega
    have he : ((s.extract k q).toList == t.toList) = b := by
      rw [← h, pre_take_eq, hn, ByteArray.toList_eq, ByteArray.toList_eq, ext_list, List.drop_take, show q - k = t.size by omega]
      rw [Bool.eq_iff_iff]; simp
    obtain ⟨x, hx⟩ : ∃ x, s.extract k q = x := ⟨_, rfl⟩
    rw [hx] at he
    have HQ := Lib.hid hq; have HH := Lib.hid h; have HN := Lib.hid hn
    clear hq h hn
    go_enter Tryd.func29, Tryd.ntmps29
    go_wp2
    go_ret
    exact ⟨rfl, rfl⟩
  · have hb : b = false := by
      rw [← h]
      cases hp : t.data.toList.isPrefixOf (s.data.toList.drop k) with
      | false => rfl
      | true =>
        have := (List.isPrefixOf_iff_prefix.1 hp).length_le
        rw [hn] at this
        simp at this; omega
    subst hb
    have hle2 : (s.size : Int) < (q : Int) := by omega
    have HQ := Lib.hid hq; have HH := Lib.hid h; have HN := Lib.hid hn
    clear hq h hn
    go_enter Tryd.func29, Tryd.ntmps29
    go_wp2
    go_ret
    exact ⟨rfl, rfl⟩
end Go.Proofs.YtbafkkifdfmldaaDoor
