/-
  The contract of the document's own Value.
-/
import Derived.Test.YtbafkkifdfmldaaDoorRefA
import Derived.Test.YtbafkkifdfmldaaDoorRefValueP
import Derived.Test.YtbafkkifdfmldaaDoorBlank
namespace Go.Proofs.YtbafkkifdfmldaaDoor
open Go.RowKit Sp
set_option linter.unusedVariables false

def ValuePost (r : Option Nat) (w : World) (e : Ending) (w' : World) : Prop := e = .returned (.tuple #[.int .i64 (r.getD 0), .bool r.isSome]) ∧ w = w'
theorem value_ret {r q : Option Nat} {i : Int} {b : Bool} (h : r = q) (hi : ((q.getD 0 : Nat) : Int) = i) (hb : q.isSome = b) : Ending.returned (.tuple #[.int .i64 i, .bool b]) = .returned (.tuple #[.int .i64 (r.getD 0), .bool r.isSome]) := by
  subst hi; subst hb; rw [h]
/-- What is left to be read. -/
def ValIs (r : Option Nat) (d : ByteArray) (b k n : Nat) : Prop := (r = if d.size = 0 then none else valFrom b n (d.data.toList.drop k)) ∧ (d.size = 0 → n = 0)
theorem ValIs.start {r : Option Nat} {d : ByteArray} {b : Nat} (h : r = val b d.data.toList) : ValIs r d b 0 0 := by
  refine ⟨?_, fun _ => rfl⟩
  rw [h]; unfold val
  simp only [List.drop_zero]
  by_cases hz : d.size = 0
  · rw [if_pos hz, if_pos (List.eq_nil_of_length_eq_zero (by simpa using hz))]
  · rw [if_neg hz, if_neg (fun e => hz (by rw [size_list', e]; rfl))]
theorem ValIs.bad {r : Option Nat} {d : ByteArray} {b k n : Nat} (h : ValIs r d b k n) (hk : k < d.size) (hb : ¬ hex d[k] < b) : r = none := by
  replace h := h.1
  rw [h, drop_cons' d k hk, if_neg (by omega)]
  unfold valFrom
  rw [if_neg hb]
theorem ValIs.great {r : Option Nat} {d : ByteArray} {b k n : Nat} (h : ValIs r d b k n) (hk : k < d.size) (hb : ¬ n * b + hex d[k] ≤ 4294967295) : r = none := by
  replace h := h.1
  rw [h, drop_cons' d k hk, if_neg (by omega)]
  unfold valFrom
  split
  · first | rfl | rw [if_neg hb]
  · rfl
theorem ValIs.next {r : Option Nat} {d : ByteArray} {b k n : Nat} (h : ValIs r d b k n) (hk : k < d.size) (h1 : hex d[k] < b) (h2 : n * b + hex d[k] ≤ 4294967295) : ValIs r d b (k + 1) (n * b + hex d[k]) := by
  refine ⟨?_, fun e => by omega⟩
  replace h := h.1
  rw [h, drop_cons' d k hk]
  conv => lhs; unfold valFrom
  rw [if_pos h1, if_pos h2]
theorem ValIs.fin {r : Option Nat} {d : ByteArray} {b n : Nat} (h : ValIs r d b d.size n) (hz : 0 < d.size) : r = some n := by
  replace h := h.1
  rw [h, if_neg (by omega), List.drop_eq_nil_of_le (by simp)]
  rfl
theorem ValIs.zero {r : Option Nat} {d : ByteArray} {b k n : Nat} (h : ValIs r d b k n) (hz : d.size = 0) : r = none := by
  replace h := h.1
  rw [h, if_pos hz]
theorem hex_le (c : UInt8) : hex c ≤ 99 := by
  unfold hex
  have := c.toNat_lt
  split
  · omega
  · split
    · omega
    · split <;> omega
theorem isU_pos {s : ByteArray} {m : Nat} (hm : s.size = m + 1) : isU s.data.toList = (decide ((s[m]'(by omega)).toNat = 117) || decide ((s[m]'(by omega)).toNat = 85)) := by
  have h : s.data.toList.getLast? = some (s[m]'(by omega)) := by
    have h1 : s.data.toList.length - 1 = m := by rw [← size_list', hm]; rfl
    have : s.data.toList[m]? = some (s.data.toList[m]'(by rw [← size_list']; omega)) := List.getElem?_eq_getElem _
    rw [List.getLast?_eq_getElem?, h1, this]
    rfl
  unfold isU
  rw [h]
  have e : ∀ c d : UInt8, (some c == some d) = decide (c.toNat = d.toNat) := fun c d => by
    by_cases hc : c = d
    · subst hc; simp
    · have h2 : ¬ c.toNat = d.toNat := fun e => hc (UInt8.toNat_inj.1 e)
      simp [hc, h2]
  rw [e, e]; rfl
theorem r_at0 (s t : ByteArray) (b : Bool) (w : World) (hs : s.size ≤ 32768) (ht : t.size ≤ 100) (h : t.data.toList.isPrefixOf s.data.toList = b) :
    Calls Tryd.prog 29 #[.string s, .int .i64 0, .string t] w fun e w' => e = .returned (.bool b) ∧ w = w' := r_at s t 0 b w hs (by omega) ht h
set_option maxHeartbeats 8000000 in
theorem r_value (s : ByteArray) (w : World) (hs : s.size ≤ 32768) :
    Calls Tryd.prog 27 #[.string s] w (ValuePost (value s.data.toList) w) := by
  have hv := value_alt s.data.toList
  obtain ⟨r, hr⟩ : ∃ r, value s.data.toList = r := ⟨_, rfl⟩
  rw [hr] at hv ⊢
  clear hr
  cases hu : isU s.data.toList with
  | true =>
    obtain ⟨m, hm⟩ : ∃ m, s.size = m + 1 := by
      cases hz : s.size with
      | zero =>
        have : s.data.toList = [] := List.eq_nil_of_length_eq_zero (by rw [← size_list']; exact hz)
        rw [this] at hu; simp [isU] at hu
      | succ m => exact ⟨m, rfl⟩
    have hul := isU_pos hm
    obtain ⟨u, hu1⟩ : ∃ u, s.extract 0 m = u := ⟨_, rfl⟩
    have hu2 : u.data.toList = unU s.data.toList := by
      rw [← hu1, ext_to]; unfold unU; rw [if_pos hu, List.dropLast_eq_take, ← size_list', hm]; rfl
    have hus : u.size ≤ 32768 := by rw [← hu1]; simp; omega
    rw [hu] at hul
    have hlt : m < s.size := by omega
    have hwm : IntKind.i64.wrap ((s.size : Int) - 1) = (m : Int) := by rw [IntWalk.i64_in _ (by omega)]; omega
    have m0 : (0 : Int) ≤ (m : Int) := Int.natCast_nonneg _
    have m1 : (m : Int) < (s.size : Int) := by omega
    have s0 : (0 : Int) < (s.size : Int) := by omega
    rw [← hu2] at hv
    clear hu hu2
    rcases (by simpa using hul.symm : (s[m].toNat = 117 ∨ s[m].toNat = 85)) with h1 | h1
    all_goals
      have hm1 := Lib.hid hm
      clear hm hul
      cases hA : [48, 120].isPrefixOf u.data.toList with
      | true =>
        rw [if_pos (by unfold isHexP; rw [hA]; rfl)] at hv
        have h2l : 2 ≤ u.size := by
          have := (List.isPrefixOf_iff_prefix.1 hA).length_le
          rw [← size_list'] at this; simpa using this
        obtain ⟨d, hd⟩ : ∃ d, u.extract 2 u.size = d := ⟨_, rfl⟩
        have hds : d.size ≤ 32768 := by rw [← hd]; simp; omega
        have HV : Hid (ValIs r d 16 0 0) := Lib.hid (ValIs.start (by rw [hv, ← hd, ext_from]))
        have HA := Lib.hid hA
        clear hv hA
        go_enter Tryd.func27, Tryd.ntmps27
        go_wp2_with ((with_reducible refine (r_at0 u ⟨#[48, 120]⟩ true _ hus (by decide) HA.out).mono ?_); rintro e w' ⟨rfl, rfl⟩)
        go_loop [5, 6] (fun n i => ∃ k v : Nat, k ≤ d.size ∧ v ≤ 4294967295 ∧ Hid (ValIs r d 16 k v) ∧ n = .int .i64 v ∧ i = .int .i64 k) (fun n i => d.size - (intOf i).toNat)
        case atStart => exact ⟨0, 0, by omega, by omega, HV, rfl, rfl⟩
        case round =>
          obtain ⟨k, v, hk, hvv, HN, rfl, rfl⟩ := hrel
          have k0 : (0 : Int) ≤ (k : Int) := Int.natCast_nonneg _
          have v0 : (0 : Int) ≤ (v : Int) := Int.natCast_nonneg _
          by_cases hlt : k < d.size
          · have hx := hex_le d[k]
            obtain ⟨x, hxx⟩ : ∃ x, hex d[k] = x := ⟨_, rfl⟩
            rw [hxx] at hx
            have HX := Lib.hid hxx
            clear hxx
            by_cases h1 : x < 16
            · by_cases h2 : v * 16 + x ≤ 4294967295
              · have HN2 := Lib.hid (HN.out.next hlt (by rw [HX.out]; exact h1) (by rw [HX.out]; exact h2))
                rw [HX.out] at HN2
                go_wp2_with ((with_reducible refine (r_hex _ _).mono ?_); rintro e w' ⟨rfl, rfl⟩; rw [HX.out])
                go_round
                case rel => exact ⟨k + 1, v * 16 + x, by omega, h2, HN2, by go_num, by go_num⟩
                case measure => simp [intOf]; omega
              · have HE := Lib.hid (HN.out.great hlt (by rw [HX.out]; exact h2))
                go_wp2_with ((with_reducible refine (r_hex _ _).mono ?_); rintro e w' ⟨rfl, rfl⟩; rw [HX.out])
                go_ret2
                exact ⟨value_ret HE.out rfl rfl, rfl⟩
            · have HE := Lib.hid (HN.out.bad hlt (by rw [HX.out]; exact h1))
              go_wp2_with ((with_reducible refine (r_hex _ _).mono ?_); rintro e w' ⟨rfl, rfl⟩; rw [HX.out])
              go_ret2
              exact ⟨value_ret HE.out rfl rfl, rfl⟩
          · obtain rfl : k = d.size := by omega
            by_cases hz : d.size = 0
            · have HE := Lib.hid (HN.out.zero hz)
              have hz0 : ((d.size : Int)) = 0 := by omega
              obtain rfl : v = 0 := HN.out.2 hz
              go_wp2
              go_ret2
              exact ⟨value_ret HE.out rfl rfl, rfl⟩
            · have hp : 0 < d.size := by omega
              have HE := Lib.hid (HN.out.fin hp)
              go_wp2
              go_ret2
              exact ⟨value_ret HE.out rfl rfl, rfl⟩
      | false =>
        cases hB : [48, 88].isPrefixOf u.data.toList with
        | true =>
          rw [if_pos (by unfold isHexP; rw [hB]; simp)] at hv
          have h2l : 2 ≤ u.size := by
            have := (List.isPrefixOf_iff_prefix.1 hB).length_le
            rw [← size_list'] at this; simpa using this
          obtain ⟨d, hd⟩ : ∃ d, u.extract 2 u.size = d := ⟨_, rfl⟩
          have hds : d.size ≤ 32768 := by rw [← hd]; simp; omega
          have HV : Hid (ValIs r d 16 0 0) := Lib.hid (ValIs.start (by rw [hv, ← hd, ext_from]))
          have HA := Lib.hid hA
          have HB := Lib.hid hB
          clear hv hA hB
          go_enter Tryd.func27, Tryd.ntmps27
          go_wp2_with (first | ((with_reducible refine (r_at0 u ⟨#[48, 120]⟩ false _ hus (by decide) HA.out).mono ?_); rintro e w' ⟨rfl, rfl⟩) | ((with_reducible refine (r_at0 u ⟨#[48, 88]⟩ true _ hus (by decide) HB.out).mono ?_); rintro e w' ⟨rfl, rfl⟩))
          go_loop [5, 6] (fun n i => ∃ k v : Nat, k ≤ d.size ∧ v ≤ 4294967295 ∧ Hid (ValIs r d 16 k v) ∧ n = .int .i64 v ∧ i = .int .i64 k) (fun n i => d.size - (intOf i).toNat)
          case atStart => exact ⟨0, 0, by omega, by omega, HV, rfl, rfl⟩
          case round =>
            obtain ⟨k, v, hk, hvv, HN, rfl, rfl⟩ := hrel
            have k0 : (0 : Int) ≤ (k : Int) := Int.natCast_nonneg _
            have v0 : (0 : Int) ≤ (v : Int) := Int.natCast_nonneg _
            by_cases hlt : k < d.size
            · have hx := hex_le d[k]
              obtain ⟨x, hxx⟩ : ∃ x, hex d[k] = x := ⟨_, rfl⟩
              rw [hxx] at hx
              have HX := Lib.hid hxx
              clear hxx
              by_cases h1 : x < 16
              · by_cases h2 : v * 16 + x ≤ 4294967295
                · have HN2 := Lib.hid (HN.out.next hlt (by rw [HX.out]; exact h1) (by rw [HX.out]; exact h2))
                  rw [HX.out] at HN2
                  go_wp2_with ((with_reducible refine (r_hex _ _).mono ?_); rintro e w' ⟨rfl, rfl⟩; rw [HX.out])
                  go_round
                  case rel => exact ⟨k + 1, v * 16 + x, by omega, h2, HN2, by go_num, by go_num⟩
                  case measure => simp [intOf]; omega
                · have HE := Lib.hid (HN.out.great hlt (by rw [HX.out]; exact h2))
                  go_wp2_with ((with_reducible refine (r_hex _ _).mono ?_); rintro e w' ⟨rfl, rfl⟩; rw [HX.out])
                  go_ret2
                  exact ⟨value_ret HE.out rfl rfl, rfl⟩
              · have HE := Lib.hid (HN.out.bad hlt (by rw [HX.out]; exact h1))
                go_wp2_with ((with_reducible refine (r_hex _ _).mono ?_); rintro e w' ⟨rfl, rfl⟩; rw [HX.out])
                go_ret2
                exact ⟨value_ret HE.out rfl rfl, rfl⟩
            · obtain rfl : k = d.size := by omega
              by_cases hz : d.size = 0
              · have HE := Lib.hid (HN.out.zero hz)
                have hz0 : ((d.size : Int)) = 0 := by omega
                obtain rfl : v = 0 := HN.out.2 hz
                go_wp2
                go_ret2
                exact ⟨value_ret HE.out rfl rfl, rfl⟩
              · have hp : 0 < d.size := by omega
                have HE := Lib.hid (HN.out.fin hp)
                go_wp2
                go_ret2
                exact ⟨value_ret HE.out rfl rfl, rfl⟩
        | false =>
          rw [if_neg (by unfold isHexP; rw [hA, hB]; simp)] at hv
          have HV : Hid (ValIs r u 10 0 0) := Lib.hid (ValIs.start hv)
          have HA := Lib.hid hA
          have HB := Lib.hid hB
          clear hv hA hB
          go_enter Tryd.func27, Tryd.ntmps27
          go_wp2_with (first | ((with_reducible refine (r_at0 u ⟨#[48, 120]⟩ false _ hus (by decide) HA.out).mono ?_); rintro e w' ⟨rfl, rfl⟩) | ((with_reducible refine (r_at0 u ⟨#[48, 88]⟩ false _ hus (by decide) HB.out).mono ?_); rintro e w' ⟨rfl, rfl⟩))
          go_loop [5, 6] (fun n i => ∃ k v : Nat, k ≤ u.size ∧ v ≤ 4294967295 ∧ Hid (ValIs r u 10 k v) ∧ n = .int .i64 v ∧ i = .int .i64 k) (fun n i => u.size - (intOf i).toNat)
          case atStart => exact ⟨0, 0, by omega, by omega, HV, rfl, rfl⟩
          case round =>
            obtain ⟨k, v, hk, hvv, HN, rfl, rfl⟩ := hrel
            have k0 : (0 : Int) ≤ (k : Int) := Int.natCast_nonneg _
            have v0 : (0 : Int) ≤ (v : Int) := Int.natCast_nonneg _
            by_cases hlt : k < u.size
            · have hx := hex_le u[k]
              obtain ⟨x, hxx⟩ : ∃ x, hex u[k] = x := ⟨_, rfl⟩
              rw [hxx] at hx
              have HX := Lib.hid hxx
              clear hxx
              by_cases h1 : x < 10
              · by_cases h2 : v * 10 + x ≤ 4294967295
                · have HN2 := Lib.hid (HN.out.next hlt (by rw [HX.out]; exact h1) (by rw [HX.out]; exact h2))
                  rw [HX.out] at HN2
                  go_wp2_with ((with_reducible refine (r_hex _ _).mono ?_); rintro e w' ⟨rfl, rfl⟩; rw [HX.out])
                  go_round
                  case rel => exact ⟨k + 1, v * 10 + x, by omega, h2, HN2, by go_num, by go_num⟩
                  case measure => simp [intOf]; omega
                · have HE := Lib.hid (HN.out.great hlt (by rw [HX.out]; exact h2))
                  go_wp2_with ((with_reducible refine (r_hex _ _).mono ?_); rintro e w' ⟨rfl, rfl⟩; rw [HX.out])
                  go_ret2
                  exact ⟨value_ret HE.out rfl rfl, rfl⟩
              · have HE := Lib.hid (HN.out.bad hlt (by rw [HX.out]; exact h1))
                go_wp2_with ((with_reducible refine (r_hex _ _).mono ?_); rintro e w' ⟨rfl, rfl⟩; rw [HX.out])
                go_ret2
                exact ⟨value_ret HE.out rfl rfl, rfl⟩
            · obtain rfl : k = u.size := by omega
              by_cases hz : u.size = 0
              · have HE := Lib.hid (HN.out.zero hz)
                have hz0 : ((u.size : Int)) = 0 := by omega
                obtain rfl : v = 0 := HN.out.2 hz
                go_wp2
                go_ret2
                exact ⟨value_ret HE.out rfl rfl, rfl⟩
              · have hp : 0 < u.size := by omega
                have HE := Lib.hid (HN.out.fin hp)
                go_wp2
                go_ret2
                exact ⟨value_ret HE.out rfl rfl, rfl⟩
  | false =>
    have hv0 : unU s.data.toList = s.data.toList := by unfold unU; rw [if_neg (by rw [hu]; simp)]
    rw [hv0] at hv
    clear hv0
    cases hz : s.size with
    | zero =>
      have hl : s.data.toList = [] := List.eq_nil_of_length_eq_zero (by rw [← size_list']; exact hz)
      have hr : r = none := by rw [hv, hl]; rfl
      subst hr
      have hz0 : ((s.size : Int)) = 0 := by omega
      have HA : Hid (([48, 120] : List UInt8).isPrefixOf s.data.toList = false) := Lib.hid (by rw [hl]; rfl)
      have HB : Hid (([48, 88] : List UInt8).isPrefixOf s.data.toList = false) := Lib.hid (by rw [hl]; rfl)
      clear hu hv hl
      go_enter Tryd.func27, Tryd.ntmps27
      go_wp2_with (first | ((with_reducible refine (r_at0 s ⟨#[48, 120]⟩ false _ hs (by decide) HA.out).mono ?_); rintro e w' ⟨rfl, rfl⟩) | ((with_reducible refine (r_at0 s ⟨#[48, 88]⟩ false _ hs (by decide) HB.out).mono ?_); rintro e w' ⟨rfl, rfl⟩))
      go_loop [5, 6] (fun n i => n = .int .i64 0 ∧ i = .int .i64 0) (fun n i => 0)
      case atStart => exact ⟨rfl, rfl⟩
      case round =>
        obtain ⟨rfl, rfl⟩ := hrel
        go_wp2
        go_ret2
        exact ⟨rfl, rfl⟩
    | succ m =>
      have hm : s.size = m + 1 := hz
      have hul := isU_pos hm
      have hlt : m < s.size := by omega
      rw [hu] at hul
      have hwm : IntKind.i64.wrap ((s.size : Int) - 1) = (m : Int) := by rw [IntWalk.i64_in _ (by omega)]; omega
      have m0 : (0 : Int) ≤ (m : Int) := Int.natCast_nonneg _
      have m1 : (m : Int) < (s.size : Int) := by omega
      have s0 : (0 : Int) < (s.size : Int) := by omega
      have hn : s[m].toNat ≠ 117 ∧ s[m].toNat ≠ 85 := by
        have := hul.symm
        simp at this
        exact this
      have n1 : ((s[m].toNat : Int) == 117) = false := by simp; omega
      have n2 : ((s[m].toNat : Int) == 85) = false := by simp; omega
      have hm1 := Lib.hid hm
      clear hu hm hz hul hn
      cases hA : [48, 120].isPrefixOf s.data.toList with
      | true =>
        rw [if_pos (by unfold isHexP; rw [hA]; rfl)] at hv
        have h2l : 2 ≤ s.size := by
          have := (List.isPrefixOf_iff_prefix.1 hA).length_le
          rw [← size_list'] at this; simpa using this
        obtain ⟨d, hd⟩ : ∃ d, s.extract 2 s.size = d := ⟨_, rfl⟩
        have hds : d.size ≤ 32768 := by rw [← hd]; simp; omega
        have HV : Hid (ValIs r d 16 0 0) := Lib.hid (ValIs.start (by rw [hv, ← hd, ext_from]))
        have HA := Lib.hid hA
        clear hv hA
        go_enter Tryd.func27, Tryd.ntmps27
        go_wp2_with ((with_reducible refine (r_at0 s ⟨#[48, 120]⟩ true _ hs (by decide) HA.out).mono ?_); rintro e w' ⟨rfl, rfl⟩)
        go_loop [5, 6] (fun n i => ∃ k v : Nat, k ≤ d.size ∧ v ≤ 4294967295 ∧ Hid (ValIs r d 16 k v) ∧ n = .int .i64 v ∧ i = .int .i64 k) (fun n i => d.size - (intOf i).toNat)
        case atStart => exact ⟨0, 0, by omega, by omega, HV, rfl, rfl⟩
        case round =>
          obtain ⟨k, v, hk, hvv, HN, rfl, rfl⟩ := hrel
          have k0 : (0 : Int) ≤ (k : Int) := Int.natCast_nonneg _
          have v0 : (0 : Int) ≤ (v : Int) := Int.natCast_nonneg _
          by_cases hlt : k < d.size
          · have hx := hex_le d[k]
            obtain ⟨x, hxx⟩ : ∃ x, hex d[k] = x := ⟨_, rfl⟩
            rw [hxx] at hx
            have HX := Lib.hid hxx
            clear hxx
            by_cases h1 : x < 16
            · by_cases h2 : v * 16 + x ≤ 4294967295
              · have HN2 := Lib.hid (HN.out.next hlt (by rw [HX.out]; exact h1) (by rw [HX.out]; exact h2))
                rw [HX.out] at HN2
                go_wp2_with ((with_reducible refine (r_hex _ _).mono ?_); rintro e w' ⟨rfl, rfl⟩; rw [HX.out])
                go_round
                case rel => exact ⟨k + 1, v * 16 + x, by omega, h2, HN2, by go_num, by go_num⟩
                case measure => simp [intOf]; omega
              · have HE := Lib.hid (HN.out.great hlt (by rw [HX.out]; exact h2))
                go_wp2_with ((with_reducible refine (r_hex _ _).mono ?_); rintro e w' ⟨rfl, rfl⟩; rw [HX.out])
                go_ret2
                exact ⟨value_ret HE.out rfl rfl, rfl⟩
            · have HE := Lib.hid (HN.out.bad hlt (by rw [HX.out]; exact h1))
              go_wp2_with ((with_reducible refine (r_hex _ _).mono ?_); rintro e w' ⟨rfl, rfl⟩; rw [HX.out])
              go_ret2
              exact ⟨value_ret HE.out rfl rfl, rfl⟩
          · obtain rfl : k = d.size := by omega
            by_cases hz : d.size = 0
            · have HE := Lib.hid (HN.out.zero hz)
              have hz0 : ((d.size : Int)) = 0 := by omega
              obtain rfl : v = 0 := HN.out.2 hz
              go_wp2
              go_ret2
              exact ⟨value_ret HE.out rfl rfl, rfl⟩
            · have hp : 0 < d.size := by omega
              have HE := Lib.hid (HN.out.fin hp)
              go_wp2
              go_ret2
              exact ⟨value_ret HE.out rfl rfl, rfl⟩
      | false =>
        cases hB : [48, 88].isPrefixOf s.data.toList with
        | true =>
          rw [if_pos (by unfold isHexP; rw [hB]; simp)] at hv
          have h2l : 2 ≤ s.size := by
            have := (List.isPrefixOf_iff_prefix.1 hB).length_le
            rw [← size_list'] at this; simpa using this
          obtain ⟨d, hd⟩ : ∃ d, s.extract 2 s.size = d := ⟨_, rfl⟩
          have hds : d.size ≤ 32768 := by rw [← hd]; simp; omega
          have HV : Hid (ValIs r d 16 0 0) := Lib.hid (ValIs.start (by rw [hv, ← hd, ext_from]))
          have HA := Lib.hid hA
          have HB := Lib.hid hB
          clear hv hA hB
          go_enter Tryd.func27, Tryd.ntmps27
          go_wp2_with (first | ((with_reducible refine (r_at0 s ⟨#[48, 120]⟩ false _ hs (by decide) HA.out).mono ?_); rintro e w' ⟨rfl, rfl⟩) | ((with_reducible refine (r_at0 s ⟨#[48, 88]⟩ true _ hs (by decide) HB.out).mono ?_); rintro e w' ⟨rfl, rfl⟩))
          go_loop [5, 6] (fun n i => ∃ k v : Nat, k ≤ d.size ∧ v ≤ 4294967295 ∧ Hid (ValIs r d 16 k v) ∧ n = .int .i64 v ∧ i = .int .i64 k) (fun n i => d.size - (intOf i).toNat)
          case atStart => exact ⟨0, 0, by omega, by omega, HV, rfl, rfl⟩
          case round =>
            obtain ⟨k, v, hk, hvv, HN, rfl, rfl⟩ := hrel
            have k0 : (0 : Int) ≤ (k : Int) := Int.natCast_nonneg _
            have v0 : (0 : Int) ≤ (v : Int) := Int.natCast_nonneg _
            by_cases hlt : k < d.size
            · have hx := hex_le d[k]
              obtain ⟨x, hxx⟩ : ∃ x, hex d[k] = x := ⟨_, rfl⟩
              rw [hxx] at hx
              have HX := Lib.hid hxx
              clear hxx
              by_cases h1 : x < 16
              · by_cases h2 : v * 16 + x ≤ 4294967295
                · have HN2 := Lib.hid (HN.out.next hlt (by rw [HX.out]; exact h1) (by rw [HX.out]; exact h2))
                  rw [HX.out] at HN2
                  go_wp2_with ((with_reducible refine (r_hex _ _).mono ?_); rintro e w' ⟨rfl, rfl⟩; rw [HX.out])
                  go_round
                  case rel => exact ⟨k + 1, v * 16 + x, by omega, h2, HN2, by go_num, by go_num⟩
                  case measure => simp [intOf]; omega
                · have HE := Lib.hid (HN.out.great hlt (by rw [HX.out]; exact h2))
                  go_wp2_with ((with_reducible refine (r_hex _ _).mono ?_); rintro e w' ⟨rfl, rfl⟩; rw [HX.out])
                  go_ret2
                  exact ⟨value_ret HE.out rfl rfl, rfl⟩
              · have HE := Lib.hid (HN.out.bad hlt (by rw [HX.out]; exact h1))
                go_wp2_with ((with_reducible refine (r_hex _ _).mono ?_); rintro e w' ⟨rfl, rfl⟩; rw [HX.out])
                go_ret2
                exact ⟨value_ret HE.out rfl rfl, rfl⟩
            · obtain rfl : k = d.size := by omega
              by_cases hz : d.size = 0
              · have HE := Lib.hid (HN.out.zero hz)
                have hz0 : ((d.size : Int)) = 0 := by omega
                obtain rfl : v = 0 := HN.out.2 hz
                go_wp2
                go_ret2
                exact ⟨value_ret HE.out rfl rfl, rfl⟩
              · have hp : 0 < d.size := by omega
                have HE := Lib.hid (HN.out.fin hp)
                go_wp2
                go_ret2
                exact ⟨value_ret HE.out rfl rfl, rfl⟩
        | false =>
          rw [if_neg (by unfold isHexP; rw [hA, hB]; simp)] at hv
          have HV : Hid (ValIs r s 10 0 0) := Lib.hid (ValIs.start hv)
          have HA := Lib.hid hA
          have HB := Lib.hid hB
          clear hv hA hB
          go_enter Tryd.func27, Tryd.ntmps27
          go_wp2_with (first | ((with_reducible refine (r_at0 s ⟨#[48, 120]⟩ false _ hs (by decide) HA.out).mono ?_); rintro e w' ⟨rfl, rfl⟩) | ((with_reducible refine (r_at0 s ⟨#[48, 88]⟩ false _ hs (by decide) HB.out).mono ?_); rintro e w' ⟨rfl, rfl⟩))
          go_loop [5, 6] (fun n i => ∃ k v : Nat, k ≤ s.size ∧ v ≤ 4294967295 ∧ Hid (ValIs r s 10 k v) ∧ n = .int .i64 v ∧ i = .int .i64 k) (fun n i => s.size - (intOf i).toNat)
          case atStart => exact ⟨0, 0, by omega, by omega, HV, rfl, rfl⟩
          case round =>
            obtain ⟨k, v, hk, hvv, HN, rfl, rfl⟩ := hrel
            have k0 : (0 : Int) ≤ (k : Int) := Int.natCast_nonneg _
            have v0 : (0 : Int) ≤ (v : Int) := Int.natCast_nonneg _
            by_cases hlt : k < s.size
            · have hx := hex_le s[k]
              obtain ⟨x, hxx⟩ : ∃ x, hex s[k] = x := ⟨_, rfl⟩
              rw [hxx] at hx
              have HX := Lib.hid hxx
              clear hxx
              by_cases h1 : x < 10
              · by_cases h2 : v * 10 + x ≤ 4294967295
                · have HN2 := Lib.hid (HN.out.next hlt (by rw [HX.out]; exact h1) (by rw [HX.out]; exact h2))
                  rw [HX.out] at HN2
                  go_wp2_with ((with_reducible refine (r_hex _ _).mono ?_); rintro e w' ⟨rfl, rfl⟩; rw [HX.out])
                  go_round
                  case rel => exact ⟨k + 1, v * 10 + x, by omega, h2, HN2, by go_num, by go_num⟩
                  case measure => simp [intOf]; omega
                · have HE := Lib.hid (HN.out.great hlt (by rw [HX.out]; exact h2))
                  go_wp2_with ((with_reducible refine (r_hex _ _).mono ?_); rintro e w' ⟨rfl, rfl⟩; rw [HX.out])
                  go_ret2
                  exact ⟨value_ret HE.out rfl rfl, rfl⟩
              · have HE := Lib.hid (HN.out.bad hlt (by rw [HX.out]; exact h1))
                go_wp2_with ((with_reducible refine (r_hex _ _).mono ?_); rintro e w' ⟨rfl, rfl⟩; rw [HX.out])
                go_ret2
                exact ⟨value_ret HE.out rfl rfl, rfl⟩
            · obtain rfl : k = s.size := by omega
              by_cases hz : s.size = 0
              · have HE := Lib.hid (HN.out.zero hz)
                have hz0 : ((s.size : Int)) = 0 := by omega
                obtain rfl : v = 0 := HN.out.2 hz
                go_wp2
                go_ret2
                exact ⟨value_ret HE.out rfl rfl, rfl⟩
              · have hp : 0 < s.size := by omega
                have HE := Lib.hid (HN.out.fin hp)
                go_wp2
                go_ret2
                exact ⟨value_ret HE.out rfl rfl, rfl⟩
end Go.Proofs.YtbafkkifdfmldaaDoor
