/-
  The contract of lex's blank.
-/
import Derived.Test.YtaamllikceaifaaGreatDoorEnv
import Derived.Test.YtaamllikceaifaaGreatDoorGap
import Derived.ScopeJumps
import Derived.WalkMore
namespace Go.Proofs.YtaamllikceaifaaGreatDoor
open Go.RowKit Sp
set_option linter.unusedVariables false

theorem byteIndex_b (s : ByteArray) (c : UInt8) (v : Int) (w : World) (h : Lib.indexByte s.data.toList c = v) :
    Calls Tryz.prog 40 #[.string s, .int .u8 c.toNat] w fun e w' => e = .returned (.int .i64 v) ∧ w = w' :=
  (Tryz.strings_IndexByte s c.toNat w).mono fun e w' ⟨he, hw⟩ => ⟨by rw [he]; exact ret_int (by simpa using h), hw.symm⟩
theorem newline_any (s : ByteArray) (v : Int) (w : World) (h : Lib.indexByte s.data.toList 10 = v) :
    Calls Tryz.prog 40 #[.string s, .int .u8 10] w fun e w' => e = .returned (.int .i64 v) ∧ w = w' :=
  (Tryz.strings_IndexByte s 10 w).mono fun e w' ⟨he, hw⟩ => ⟨by rw [he]; exact ret_int h, hw.symm⟩
theorem strindex_any (s p : ByteArray) (v : Int) (w : World) (henv : Env w) (hs : s.size ≤ 32768) (h : Lib.index s.data.toList p.data.toList = v) :
    Calls Tryz.prog 41 #[.string s, .string p] w fun e w' => e = .returned (.int .i64 v) ∧ w = w' := by
  obtain ⟨m, hm⟩ := henv.maxlen
  exact (Tryz.strings_Index s p m w (by omega) hm).mono fun e w' ⟨he, hw⟩ => ⟨by rw [he]; exact ret_int h, hw.symm⟩
theorem drop_cons' (s : ByteArray) (k : Nat) (h : k < s.size) : s.data.toList.drop k = s[k] :: s.data.toList.drop (k + 1) := by
  rw [List.drop_eq_getElem_cons (by simpa using h)]; rfl
theorem size_list' (s : ByteArray) : s.size = s.data.toList.length := by simp
theorem beq_u8 (d c : UInt8) : (d == c) = decide (c.toNat = d.toNat) := by
  by_cases h : d = c
  · subst h; simp
  · have h2 : ¬ c.toNat = d.toNat := fun e => h (UInt8.toNat_inj.1 e.symm)
    simp [h, h2]
def i4 (c : UInt8) : Nat := (Lib.indexByte [32, 9, 10, 13] c).toNat
theorem white4 (c : UInt8) : (isWhite c = true → Lib.indexByte [32, 9, 10, 13] c = (i4 c : Int)) ∧ (isWhite c = false → Lib.indexByte [32, 9, 10, 13] c = -1) := by
  unfold i4 isWhite
  by_cases h1 : c = 32
  · subst h1; constructor <;> decide
  · by_cases h2 : c = 9
    · subst h2; constructor <;> decide
    · by_cases h3 : c = 10
      · subst h3; constructor <;> decide
      · by_cases h4 : c = 13
        · subst h4; constructor <;> decide
        · have e : ∀ d : UInt8, ¬ c = d → (d == c) = false := fun d h => by simpa using fun e : d = c => h e.symm
          unfold Lib.indexByte Lib.indexByte Lib.indexByte Lib.indexByte Lib.indexByte
          simp [e, h1, h2, h3, h4]
/-- What the rest of a text says of the gap. -/
def gapN (s : ByteArray) (k : Nat) : Nat × Bool := gapR (s.data.toList.drop k)
def GapIs (s : ByteArray) (k : Nat) : Prop := gapR s.data.toList = (k + (gapN s k).1, (gapN s k).2)
theorem gapIs_step {s : ByteArray} {k n : Nat} (h : GapIs s k) (hs : Sp.step (s.data.toList.drop k) = .white n) : GapIs s (k + n) := by
  unfold GapIs at h ⊢
  rw [h]
  unfold gapN
  rw [gapR_white hs, List.drop_drop, Nat.add_assoc]
theorem gapIs_end {s : ByteArray} {k : Nat} {m : Nat} {b : Bool} (h : GapIs s k) (hs : gapR (s.data.toList.drop k) = (m, b)) : gapR s.data.toList = (k + m, b) := by
  unfold GapIs at h
  rw [h]; unfold gapN; rw [hs]
def BlankPost (l : List UInt8) (w : World) (e : Ending) (w' : World) : Prop := e = .returned (.tuple #[.int .i64 (gapR l).1, .bool (gapR l).2]) ∧ w = w'
theorem gap_ret {l : List UInt8} {k : Nat} {b : Bool} {i : Int} (h : gapR l = (k, b)) (hi : (k : Int) = i) : Ending.returned (.tuple #[.int .i64 i, .bool b]) = .returned (.tuple #[.int .i64 (gapR l).1, .bool (gapR l).2]) := by
  subst hi; rw [h]
set_option maxHeartbeats 2000000 in
theorem blank_walk (s : ByteArray) (w : World) (henv : Env w) (hs : s.size ≤ 32768) :
    Calls Tryz.prog 23 #[.string s] w (BlankPost s.data.toList w) := by
  have HE := Lib.hid henv; clear henv
  go_enter Tryz.func23, Tryz.ntmps23
  go_wp2
  go_step3
  go_wp2
  go_step3
  go_wp2
  go_loop [4] (fun i => ∃ k : Nat, k ≤ s.size ∧ Hid (GapIs s k) ∧ i = .int .i64 k) (fun i => s.size - (intOf i).toNat)
  case atStart => exact ⟨0, Nat.zero_le _, by unfold Hid GapIs gapN; simp, rfl⟩
  case round =>
    obtain ⟨k, hk, HG, rfl⟩ := hrel
    by_cases hlt : k < s.size
    · have hd := drop_cons' s k hlt
      obtain ⟨r, hr⟩ : ∃ r, s.extract k s.size = r := ⟨_, rfl⟩
      have hrl : r.data.toList = s.data.toList.drop k := by rw [← hr, ext_from]
      have hrs : r.size = s.size - k := by rw [size_list', hrl]; simp
      have hrs1 : r.size ≤ 32768 := by omega
      have HR := Lib.hid hrl; clear hrl
      have HRS := Lib.hid hrs; clear hrs
      cases hw : isWhite s[k] with
      | true =>
        have hst : Sp.step (s.data.toList.drop k) = .white 1 := by rw [hd, step_cons, if_pos hw]
        have H4 := Lib.hid ((white4 _).1 hw)
        have h4 : (0 : Int) ≤ (i4 s[k] : Int) := Int.natCast_nonneg _
        have HS := Lib.hid hst
        clear hst hw hd
        go_wp2_with ((with_reducible refine (byteIndex_b ⟨#[32, 9, 10, 13]⟩ _ (i4 s[k]) _ H4.out).mono ?_); rintro e w' ⟨rfl, rfl⟩)
        go_round
        case rel => exact ⟨k + 1, by omega, Lib.hid (gapIs_step HG.out HS.out), by go_num⟩
        case measure => simp [intOf]; omega
      | false =>
        have H4 := Lib.hid ((white4 _).2 hw)
        cases hA : [47, 47].isPrefixOf (s.data.toList.drop k) with
        | true =>
          have HA : Hid (([47, 47] : List UInt8).isPrefixOf r.data.toList = true) := by rw [HR.out]; exact hA
          cases hf : findNl (s.data.toList.drop k) with
          | none =>
            have hst : Sp.step (s.data.toList.drop k) = .line := by rw [hd] at hA hf ⊢; rw [step_cons, if_neg (by rw [hw]; simp), if_pos hA, hf]
            have HF : Hid (Lib.indexByte r.data.toList 10 = -1) := by unfold Hid; rw [indexByte_nl, HR.out, hf]
            have HG2 := Lib.hid (gapIs_end HG.out (gapR_line hst))
            clear hst hf hA hd hw
            go_wp2_with (first | ((with_reducible refine (byteIndex_b ⟨#[32, 9, 10, 13]⟩ _ (-1) _ H4.out).mono ?_); rintro e w' ⟨rfl, rfl⟩) | ((with_reducible refine (prefix_any r ⟨#[47, 47]⟩ true _ HA.out).mono ?_); rintro e w' ⟨rfl, rfl⟩) | ((with_reducible refine (newline_any r (-1) _ HF.out).mono ?_); rintro e w' ⟨rfl, rfl⟩))
            go_ret2
            exact ⟨gap_ret HG2.out (by have := HRS.out; simp; omega), rfl⟩
          | some e =>
            have hst : Sp.step (s.data.toList.drop k) = .white e := by rw [hd] at hA hf ⊢; rw [step_cons, if_neg (by rw [hw]; simp), if_pos hA, hf]
            have HF : Hid (Lib.indexByte r.data.toList 10 = (e : Int)) := by unfold Hid; rw [indexByte_nl, HR.out, hf]
            have he := step_white hst
            have he1 : 1 ≤ e := he.1
            have he2 : k + e ≤ s.size := by have h2 := he.2; simp at h2; omega
            have he0 : (0 : Int) ≤ (e : Int) := Int.natCast_nonneg _
            have HS := Lib.hid hst
            clear hst hf hA hd hw he
            go_wp2_with (first | ((with_reducible refine (byteIndex_b ⟨#[32, 9, 10, 13]⟩ _ (-1) _ H4.out).mono ?_); rintro e w' ⟨rfl, rfl⟩) | ((with_reducible refine (prefix_any r ⟨#[47, 47]⟩ true _ HA.out).mono ?_); rintro e w' ⟨rfl, rfl⟩) | ((with_reducible refine (newline_any r e _ HF.out).mono ?_); rintro e w' ⟨rfl, rfl⟩))
            go_round
            case rel => exact ⟨k + e, by omega, Lib.hid (gapIs_step HG.out HS.out), by go_num⟩
            case measure => simp [intOf]; omega
        | false =>
          have HA : Hid (([47, 47] : List UInt8).isPrefixOf r.data.toList = false) := by rw [HR.out]; exact hA
          cases hB : [47, 42].isPrefixOf (s.data.toList.drop k) with
          | true =>
            have HB : Hid (([47, 42] : List UInt8).isPrefixOf r.data.toList = true) := by rw [HR.out]; exact hB
            have h2 : 2 ≤ r.size := by
              have := (List.isPrefixOf_iff_prefix.1 HB.out).length_le
              rw [size_list']; simpa using this
            obtain ⟨r2, hr2⟩ : ∃ r2, r.extract 2 r.size = r2 := ⟨_, rfl⟩
            have hrl2 : r2.data.toList = (s.data.toList.drop (k + 1)).drop 1 := by rw [← hr2, ext_from, HR.out, List.drop_drop, List.drop_drop]
            have hrs2 : r2.size ≤ 32768 := by rw [size_list', hrl2]; simp; omega
            have HR2 := Lib.hid hrl2; clear hrl2
            cases hf : findClose ((s.data.toList.drop (k + 1)).drop 1) with
            | none =>
              have hst : Sp.step (s.data.toList.drop k) = .bad 2 := by rw [hd] at hA hB ⊢; rw [step_cons, if_neg (by rw [hw]; simp), if_neg (by rw [hA]; simp), if_pos hB, hf]
              have ho : isOpen (s.data.toList.drop k) = true := by unfold isOpen; rw [hB, List.drop_drop, show k + 2 = (k + 1) + 1 from rfl, ← List.drop_drop, hf]; rfl
              have HF : Hid (Lib.index r2.data.toList [42, 47] = -1) := by unfold Hid; rw [index_close, HR2.out, hf]
              have HG2 := Lib.hid (gapIs_end HG.out (show gapR (s.data.toList.drop k) = (0, false) by rw [gapR_eq, hst, ho]; rfl))
              clear hst hf hA hB hd hw ho
              go_wp2_with (first | ((with_reducible refine (byteIndex_b ⟨#[32, 9, 10, 13]⟩ _ (-1) _ H4.out).mono ?_); rintro e w' ⟨rfl, rfl⟩) | ((with_reducible refine (prefix_any r ⟨#[47, 47]⟩ false _ HA.out).mono ?_); rintro e w' ⟨rfl, rfl⟩) | ((with_reducible refine (prefix_any r ⟨#[47, 42]⟩ true _ HB.out).mono ?_); rintro e w' ⟨rfl, rfl⟩) | ((with_reducible refine (strindex_any r2 ⟨#[42, 47]⟩ (-1) _ HE.out (by omega) HF.out).mono ?_); rintro e w' ⟨rfl, rfl⟩))
              go_ret2
              exact ⟨gap_ret HG2.out rfl, rfl⟩
            | some e =>
              have hst : Sp.step (s.data.toList.drop k) = .white (e + 4) := by rw [hd] at hA hB ⊢; rw [step_cons, if_neg (by rw [hw]; simp), if_neg (by rw [hA]; simp), if_pos hB, hf]
              have HF : Hid (Lib.index r2.data.toList [42, 47] = (e : Int)) := by unfold Hid; rw [index_close, HR2.out, hf]
              have he := step_white hst
              have he2 : k + (e + 4) ≤ s.size := by have h2 := he.2; simp at h2; omega
              have he0 : (0 : Int) ≤ (e : Int) := Int.natCast_nonneg _
              have HS := Lib.hid hst
              clear hst hf hA hB hd hw he
              go_wp2_with (first | ((with_reducible refine (byteIndex_b ⟨#[32, 9, 10, 13]⟩ _ (-1) _ H4.out).mono ?_); rintro e w' ⟨rfl, rfl⟩) | ((with_reducible refine (prefix_any r ⟨#[47, 47]⟩ false _ HA.out).mono ?_); rintro e w' ⟨rfl, rfl⟩) | ((with_reducible refine (prefix_any r ⟨#[47, 42]⟩ true _ HB.out).mono ?_); rintro e w' ⟨rfl, rfl⟩) | ((with_reducible refine (strindex_any r2 ⟨#[42, 47]⟩ e _ HE.out (by omega) HF.out).mono ?_); rintro e w' ⟨rfl, rfl⟩))
              go_round
              case rel => exact ⟨k + (e + 4), by omega, Lib.hid (gapIs_step HG.out HS.out), by go_num⟩
              case measure => simp [intOf]; omega
          | false =>
            have HB : Hid (([47, 42] : List UInt8).isPrefixOf r.data.toList = false) := by rw [HR.out]; exact hB
            have ho : isOpen (s.data.toList.drop k) = false := by unfold isOpen; rw [hB]; rfl
            have hg : gapR (s.data.toList.drop k) = (0, true) := by
              rw [hd] at hA hB ho ⊢
              rw [gapR_eq, step_cons, if_neg (by rw [hw]; simp), if_neg (by rw [hA]; simp), if_neg (by rw [hB]; simp), ho]
              obtain ⟨n1, n2, n3⟩ := @tokSt_not s[k] (s.data.toList.drop (k + 1))
              cases ht : tokSt s[k] (s.data.toList.drop (k + 1)) with
              | white n => exact absurd ht (n3 n)
              | line => exact absurd ht n2
              | _ => rfl
            have HG2 := Lib.hid (gapIs_end HG.out hg)
            clear hA hB hd hw ho hg
            go_wp2_with (first | ((with_reducible refine (byteIndex_b ⟨#[32, 9, 10, 13]⟩ _ (-1) _ H4.out).mono ?_); rintro e w' ⟨rfl, rfl⟩) | ((with_reducible refine (prefix_any r ⟨#[47, 47]⟩ false _ HA.out).mono ?_); rintro e w' ⟨rfl, rfl⟩) | ((with_reducible refine (prefix_any r ⟨#[47, 42]⟩ false _ HB.out).mono ?_); rintro e w' ⟨rfl, rfl⟩))
            go_ret2
            exact ⟨gap_ret HG2.out rfl, rfl⟩
    · have hg : gapR (s.data.toList.drop k) = (0, true) := by rw [List.drop_eq_nil_of_le (by simp; omega)]; exact gapR_nil
      have HG2 := Lib.hid (gapIs_end HG.out hg)
      clear hg
      go_wp2
      go_ret2
      exact ⟨gap_ret HG2.out rfl, rfl⟩
end Go.Proofs.YtaamllikceaifaaGreatDoor
