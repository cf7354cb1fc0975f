/-
  The contract of the document's own skip.
-/
import Derived.Test.YtbafkkifdfmldaaDoorRefA
import Derived.Test.YtbafkkifdfmldaaDoorBlank
namespace Go.Proofs.YtbafkkifdfmldaaDoor
open Go.RowKit Sp
set_option linter.unusedVariables false

/-- What is left of the gap from a place on. -/
def SkipIs (s : ByteArray) (tot : Nat) (b : Bool) (k : Nat) : Prop := k + (gapN s k).1 = tot ∧ (gapN s k).2 = b
theorem SkipIs.step {s : ByteArray} {tot k n : Nat} {b : Bool} (h : SkipIs s tot b k) (hs : Sp.step (s.data.toList.drop k) = .white n) : SkipIs s tot b (k + n) := by
  unfold SkipIs gapN at *
  rw [gapR_white hs, List.drop_drop] at h
  simp only at h
  exact ⟨by omega, h.2⟩
theorem SkipIs.line {s : ByteArray} {tot k : Nat} {b : Bool} (h : SkipIs s tot b k) (hk : k ≤ s.size) (hs : Sp.step (s.data.toList.drop k) = .line) : SkipIs s tot b s.size := by
  unfold SkipIs gapN at *
  rw [gapR_line hs] at h
  rw [List.drop_eq_nil_of_le (by simp), gapR_nil]
  simp at h ⊢
  exact ⟨by omega, h.2⟩
theorem SkipIs.fin {s : ByteArray} {tot k m : Nat} {b c : Bool} (h : SkipIs s tot b k) (hs : gapR (s.data.toList.drop k) = (m, c)) : k + m = tot ∧ c = b := by
  unfold SkipIs gapN at h
  rw [hs] at h; exact h
/-- No byte 10 from one place up to another one. -/
def NlIs (s : ByteArray) (k j : Nat) : Prop := findNl (s.data.toList.drop k) = (findNl (s.data.toList.drop j)).map (· + (j - k))
theorem NlIs.next {s : ByteArray} {k j : Nat} (h : NlIs s k j) (hk : k ≤ j) (hj : j < s.size) (hc : s[j] ≠ 10) : NlIs s k (j + 1) := by
  unfold NlIs at *
  rw [h, drop_cons' s j hj]
  conv => lhs; unfold findNl
  rw [if_neg hc, Option.map_map]
  congr 1
  funext x
  simp only [Function.comp]; omega
theorem NlIs.found {s : ByteArray} {k j : Nat} (h : NlIs s k j) (hj : j < s.size) (hc : s[j] = 10) : findNl (s.data.toList.drop k) = some (j - k) := by
  unfold NlIs at *
  rw [h, drop_cons' s j hj]
  unfold findNl
  rw [if_pos hc]; simp
theorem NlIs.none {s : ByteArray} {k : Nat} (h : NlIs s k s.size) : findNl (s.data.toList.drop k) = none := by
  unfold NlIs at *
  rw [h, List.drop_eq_nil_of_le (by simp)]; rfl
/-- No end of a comment from one place up to another one. -/
def ClIs (s : ByteArray) (k j : Nat) : Prop := findClose (s.data.toList.drop k) = (findClose (s.data.toList.drop j)).map (· + (j - k))
theorem ClIs.next {s : ByteArray} {k j : Nat} (h : ClIs s k j) (hk : k ≤ j) (hj : j < s.size) (hc : [42, 47].isPrefixOf (s.data.toList.drop j) = false) : ClIs s k (j + 1) := by
  unfold ClIs at *
  rw [drop_cons' s j hj] at hc
  rw [h, drop_cons' s j hj]
  conv => lhs; unfold findClose
  rw [if_neg (by rw [hc]; simp), Option.map_map]
  congr 1
  funext x
  simp only [Function.comp]; omega
theorem ClIs.found {s : ByteArray} {k j : Nat} (h : ClIs s k j) (hj : j < s.size) (hc : [42, 47].isPrefixOf (s.data.toList.drop j) = true) : findClose (s.data.toList.drop k) = some (j - k) := by
  unfold ClIs at *
  rw [drop_cons' s j hj] at hc
  rw [h, drop_cons' s j hj]
  unfold findClose
  rw [if_pos hc]; simp
theorem ClIs.none {s : ByteArray} {k : Nat} (h : ClIs s k s.size) : findClose (s.data.toList.drop k) = none := by
  unfold ClIs at *
  rw [h, List.drop_eq_nil_of_le (by simp)]; rfl
theorem white_of {c : UInt8} (h : c.toNat = 32 ∨ c.toNat = 9 ∨ c.toNat = 10 ∨ c.toNat = 13) : isWhite c = true := by
  have e : ∀ d : UInt8, c.toNat = d.toNat → c = d := fun d h => UInt8.toNat_inj.1 h
  rcases h with h | h | h | h
  · rw [e 32 h]; rfl
  · rw [e 9 h]; rfl
  · rw [e 10 h]; rfl
  · rw [e 13 h]; rfl
theorem white_not {c : UInt8} (h1 : c.toNat ≠ 32) (h2 : c.toNat ≠ 9) (h3 : c.toNat ≠ 10) (h4 : c.toNat ≠ 13) : isWhite c = false := by
  have e : ∀ d : UInt8, c.toNat ≠ d.toNat → (c == d) = false := fun d h => by rw [beq_eq_false_iff_ne]; exact fun e => h (by rw [e])
  unfold isWhite
  rw [e 32 h1, e 9 h2, e 10 h3, e 13 h4]; rfl
def SkipPost (tot : Nat) (b : Bool) (w : World) (e : Ending) (w' : World) : Prop := e = .returned (.tuple #[.int .i64 tot, .bool b]) ∧ w = w'
theorem skip_ret {k m tot : Nat} {b c : Bool} {i : Int} (h : k + m = tot ∧ c = b) (hi : i = (k : Int) + (m : Int)) : Ending.returned (.tuple #[.int .i64 i, .bool c]) = .returned (.tuple #[.int .i64 tot, .bool b]) := by
  obtain ⟨rfl, rfl⟩ := h
  rw [hi]; simp
set_option maxHeartbeats 4000000 in
theorem r_skip (s : ByteArray) (k0 m : Nat) (b : Bool) (w : World) (hs : s.size ≤ 32768) (hk0 : k0 ≤ s.size) (h : gapR (s.data.toList.drop k0) = (m, b)) :
    Calls Tryd.prog 24 #[.string s, .int .i64 k0] w (SkipPost (k0 + m) b w) := by
  have HS0 : Hid (SkipIs s (k0 + m) b k0) := Lib.hid (by unfold SkipIs gapN; rw [h]; exact ⟨rfl, rfl⟩)
  obtain ⟨tot, ht⟩ : ∃ t, k0 + m = t := ⟨_, rfl⟩
  rw [ht] at HS0 ⊢
  clear h ht
  go_enter Tryd.func24, Tryd.ntmps24
  go_wp2
  go_loop [1] (fun i => ∃ k : Nat, k ≤ s.size ∧ Hid (SkipIs s tot b k) ∧ i = .int .i64 k) (fun i => s.size - (intOf i).toNat)
  case atStart => exact ⟨k0, hk0, HS0, rfl⟩
  case round =>
    obtain ⟨k, hk, HG, rfl⟩ := hrel
    have k00 : (0 : Int) ≤ (k : Int) := Int.natCast_nonneg _
    by_cases hlt : k < s.size
    · have hd := drop_cons' s k hlt
      have hc := s[k].toNat_lt
      by_cases hw : s[k].toNat = 32 ∨ s[k].toNat = 9 ∨ s[k].toNat = 10 ∨ s[k].toNat = 13
      · have hst : Sp.step (s.data.toList.drop k) = .white 1 := by rw [hd, step_cons, if_pos (white_of hw)]
        have HS := Lib.hid hst
        clear hst hd
        rcases hw with h1 | h1 | h1 | h1
        all_goals
          go_wp2
          go_round
          case rel => exact ⟨k + 1, by omega, Lib.hid (HG.out.step HS.out), by go_num⟩
          case measure => simp [intOf]; omega
      · have hw1 : s[k].toNat ≠ 32 := fun e => hw (.inl e)
        have hw2 : s[k].toNat ≠ 9 := fun e => hw (.inr (.inl e))
        have hw3 : s[k].toNat ≠ 10 := fun e => hw (.inr (.inr (.inl e)))
        have hw4 : s[k].toNat ≠ 13 := fun e => hw (.inr (.inr (.inr e)))
        have hwf := white_not hw1 hw2 hw3 hw4
        have b1 : ((s[k].toNat : Int) == 32) = false := by simp; omega
        have b2 : ((s[k].toNat : Int) == 9) = false := by simp; omega
        have b3 : ((s[k].toNat : Int) == 10) = false := by simp; omega
        have b4 : ((s[k].toNat : Int) == 13) = false := by simp; omega
        clear hw hw1 hw2 hw3 hw4
        cases hA : [47, 47].isPrefixOf (s.data.toList.drop k) with
        | true =>
          have HA := Lib.hid hA
          have HW := Lib.hid hwf
          have HD := Lib.hid hd
          clear hA hwf hd
          go_wp2_with ((with_reducible refine (r_at s ⟨#[47, 47]⟩ k true _ hs hk (by decide) HA.out).mono ?_); rintro e w' ⟨rfl, rfl⟩)
          go_loop [1] (fun i => ∃ j : Nat, k ≤ j ∧ j ≤ s.size ∧ Hid (NlIs s k j) ∧ i = .int .i64 j) (fun i => s.size - (intOf i).toNat)
          case atStart => exact ⟨k, Nat.le_refl _, hk, Lib.hid (by unfold NlIs; simp), rfl⟩
          case round =>
            obtain ⟨j, hkj, hj, HN, rfl⟩ := hrel
            have j00 : (0 : Int) ≤ (j : Int) := Int.natCast_nonneg _
            by_cases hlj : j < s.size
            · have hcj := s[j].toNat_lt
              by_cases h10 : s[j].toNat = 10
              · have hst : Sp.step (s.data.toList.drop k) = .white (j - k) := by
                  have hf := HN.out.found hlj (UInt8.toNat_inj.1 h10)
                  have hA := HA.out
                  rw [HD.out] at hA hf ⊢
                  rw [step_cons, if_neg (by rw [HW.out]; simp), if_pos hA, hf]
                have h1 := (step_white hst).1
                have HS := Lib.hid (HG.out.step hst)
                clear hst
                go_wp2
                go_round
                case rel => exact ⟨k + (j - k), by omega, HS, by go_num⟩
                case measure => simp [intOf]; omega
              · have HN2 := Lib.hid (HN.out.next hkj hlj (fun e => h10 (by rw [e]; rfl)))
                go_wp2
                go_round
                case rel => exact ⟨j + 1, by omega, by omega, HN2, by go_num⟩
                case measure => simp [intOf]; omega
            · obtain rfl : j = s.size := by omega
              have hst : Sp.step (s.data.toList.drop k) = .line := by
                have hf := HN.out.none
                have hA := HA.out
                rw [HD.out] at hA hf ⊢
                rw [step_cons, if_neg (by rw [HW.out]; simp), if_pos hA, hf]
              have HS := Lib.hid (HG.out.line hk hst)
              clear hst
              go_wp2
              go_round
              case rel => exact ⟨s.size, by omega, HS, by go_num⟩
              case measure => simp [intOf]; omega
        | false =>
          have HA := Lib.hid hA
          have HW := Lib.hid hwf
          have HD := Lib.hid hd
          clear hA hwf hd
          cases hB : [47, 42].isPrefixOf (s.data.toList.drop k) with
          | true =>
            have HB := Lib.hid hB
            have h2 : k + 2 ≤ s.size := by
              have := (List.isPrefixOf_iff_prefix.1 hB).length_le
              simp at this; omega
            clear hB
            go_wp2_with (first | ((with_reducible refine (r_at s ⟨#[47, 47]⟩ k false _ hs hk (by decide) HA.out).mono ?_); rintro e w' ⟨rfl, rfl⟩) | ((with_reducible refine (r_at s ⟨#[47, 42]⟩ k true _ hs hk (by decide) HB.out).mono ?_); rintro e w' ⟨rfl, rfl⟩))
            go_loop [6] (fun i => ∃ j : Nat, k + 2 ≤ j ∧ j ≤ s.size ∧ Hid (ClIs s (k + 2) j) ∧ i = .int .i64 j) (fun i => s.size - (intOf i).toNat)
            case atStart => exact ⟨k + 2, Nat.le_refl _, h2, Lib.hid (by unfold ClIs; simp), by go_num⟩
            case round =>
              obtain ⟨j, hkj, hj, HN, rfl⟩ := hrel
              have j00 : (0 : Int) ≤ (j : Int) := Int.natCast_nonneg _
              by_cases hlj : j < s.size
              · cases hC : [42, 47].isPrefixOf (s.data.toList.drop j) with
                | true =>
                  have HC := Lib.hid hC
                  have hst : Sp.step (s.data.toList.drop k) = .white (j - (k + 2) + 4) := by
                    have hf := HN.out.found hlj hC
                    have hA := HA.out
                    have hB := HB.out
                    rw [show k + 2 = (k + 1) + 1 from rfl, ← List.drop_drop] at hf
                    rw [HD.out] at hA hB ⊢
                    rw [step_cons, if_neg (by rw [HW.out]; simp), if_neg (by rw [hA]; simp), if_pos hB, hf]
                  have h4 := step_white hst
                  have h5 : j + 2 ≤ s.size := by have := h4.2; simp at this; omega
                  have HS := Lib.hid (HG.out.step hst)
                  clear hst hC h4
                  go_wp2_with ((with_reducible refine (r_at s ⟨#[42, 47]⟩ j true _ hs hj (by decide) HC.out).mono ?_); rintro e w' ⟨rfl, rfl⟩)
                  go_round
                  case rel => exact ⟨k + (j - (k + 2) + 4), by omega, HS, by go_num⟩
                  case measure => simp [intOf]; omega
                | false =>
                  have HN2 := Lib.hid (HN.out.next hkj hlj hC)
                  have HC := Lib.hid hC
                  clear hC
                  go_wp2_with ((with_reducible refine (r_at s ⟨#[42, 47]⟩ j false _ hs hj (by decide) HC.out).mono ?_); rintro e w' ⟨rfl, rfl⟩)
                  go_round
                  case rel => exact ⟨j + 1, by omega, by omega, HN2, by go_num⟩
                  case measure => simp [intOf]; omega
              · obtain rfl : j = s.size := by omega
                have hg : gapR (s.data.toList.drop k) = (0, false) := by
                  have hf := HN.out.none
                  have hA := HA.out
                  have hB := HB.out
                  have ho : isOpen (s.data.toList.drop k) = true := by unfold isOpen; rw [hB, List.drop_drop, hf]; rfl
                  rw [show k + 2 = (k + 1) + 1 from rfl, ← List.drop_drop] at hf
                  have hst : Sp.step (s.data.toList.drop k) = .bad 2 := by
                    rw [HD.out] at hA hB ⊢
                    rw [step_cons, if_neg (by rw [HW.out]; simp), if_neg (by rw [hA]; simp), if_pos hB, hf]
                  rw [gapR_eq, hst, ho]; rfl
                have HG2 := Lib.hid (HG.out.fin hg)
                clear hg
                go_wp2
                go_ret2
                exact ⟨skip_ret HG2.out (by simp), rfl⟩
          | false =>
            have HB := Lib.hid hB
            have ho : isOpen (s.data.toList.drop k) = false := by unfold isOpen; rw [hB]; rfl
            have hg : gapR (s.data.toList.drop k) = (0, true) := by
              have hA := HA.out
              rw [HD.out] at hA hB ho ⊢
              rw [gapR_eq, step_cons, if_neg (by rw [HW.out]; simp), if_neg (by rw [hA]; simp), if_neg (by rw [hB]; simp), ho]
              obtain ⟨n1, n2, n3⟩ := @tokSt_not s[k] (s.data.toList.drop (k + 1))
              cases ht : tokSt s[k] (s.data.toList.drop (k + 1)) with
              | white n => exact absurd ht (n3 n)
              | line => exact absurd ht n2
              | _ => rfl
            have HG2 := Lib.hid (HG.out.fin hg)
            clear hB ho hg
            go_wp2_with (first | ((with_reducible refine (r_at s ⟨#[47, 47]⟩ k false _ hs hk (by decide) HA.out).mono ?_); rintro e w' ⟨rfl, rfl⟩) | ((with_reducible refine (r_at s ⟨#[47, 42]⟩ k false _ hs hk (by decide) HB.out).mono ?_); rintro e w' ⟨rfl, rfl⟩))
            go_ret2
            exact ⟨skip_ret HG2.out (by simp), rfl⟩
    · obtain rfl : k = s.size := by omega
      have hg : gapR (s.data.toList.drop s.size) = (0, true) := by rw [List.drop_eq_nil_of_le (by simp)]; exact gapR_nil
      have HG2 := Lib.hid (HG.out.fin hg)
      clear hg
      go_wp2
      go_ret2
      exact ⟨skip_ret HG2.out (by simp), rfl⟩
end Go.Proofs.YtbafkkifdfmldaaDoor
