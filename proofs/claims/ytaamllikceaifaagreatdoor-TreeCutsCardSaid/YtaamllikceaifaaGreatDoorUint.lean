/-
  Contracts of strconv.ParseUint(s, 10, 32) and ParseUint(s, 16, 32): the value of the digits, or an error.
-/
import Derived.Test.YtaamllikceaifaaGreatDoorSign
import Derived.Lib.Walk
import Derived.Lib.ConvBytes
import Derived.Lib.ParseIntBMem
import Derived.Laws.Strings3
import Derived.Laws.Closers25
import Derived.Laws.Closers25b
import Derived.BigCall
import Derived.BigGuard
import Derived.Lib.AtoiErrMem
namespace Go.Proofs.YtaamllikceaifaaGreatDoor
open Go.RowKit Sp
set_option linter.unusedVariables false

/-- The digits of base 16 behind what has been read, and how the reading ends. -/
def p16 (acc : Nat) : List UInt8 → Option (Option Nat)
  | [] => some (some acc)
  | c :: t => if hex c < 16 then (if acc * 16 + hex c ≤ 4294967295 then p16 (acc * 16 + hex c) t else some none) else none
/-- What ParseUint hands back, inside: the number; or 0 and the first error; or the greatest number and the second one. -/
def uintV (x : Option (Option Nat)) : Value := match x with
  | some (some n) => .tuple #[.int .u64 n, .nilIface]
  | some none => .tuple #[.int .u64 4294967295, .iface 151 (.int .i64 1)]
  | none => .tuple #[.int .u64 0, .iface 151 (.int .i64 2)]
theorem p16_val : ∀ (l : List UInt8) (acc : Nat), valFrom 16 acc l = match p16 acc l with | some (some v) => some v | _ => none
  | [], acc => rfl
  | c :: t, acc => by
    unfold valFrom p16
    split
    · split
      · exact p16_val t _
      · rfl
    · rfl
theorem hex_dig {c : UInt8} (h : 48 ≤ c.toNat ∧ c.toNat ≤ 57) : hex c = c.toNat - 48 := by unfold hex; rw [if_pos h]
theorem or_az : ∀ n : Nat, n < 256 → (97 ≤ n ∧ n ≤ 122) → bits .or .u8 (n : Int) 32 = (n : Int) := by decide +kernel
theorem or_AZ : ∀ n : Nat, n < 256 → (65 ≤ n ∧ n ≤ 90) → bits .or .u8 (n : Int) 32 = (n : Int) + 32 := by decide +kernel
theorem or_no : ∀ n : Nat, n < 256 → ¬ (97 ≤ n ∧ n ≤ 122) → ¬ (65 ≤ n ∧ n ≤ 90) → (bits .or .u8 (n : Int) 32 < 97 ∨ 122 < bits .or .u8 (n : Int) 32) := by decide +kernel
/-- A letter of base 16: what the byte is in lower case. -/
theorem hex_let {c : UInt8} (h : hex c < 16) (hn : ¬ (48 ≤ c.toNat ∧ c.toNat ≤ 57)) : bits .or .u8 (c.toNat : Int) 32 = (hex c : Int) + 87 ∧ 10 ≤ hex c := by
  have h0 := c.toNat_lt
  unfold hex at h ⊢
  rw [if_neg hn] at h ⊢
  by_cases h1 : 97 ≤ c.toNat ∧ c.toNat ≤ 102
  · rw [if_pos h1] at h ⊢
    rw [or_az _ h0 (by omega)]; omega
  · rw [if_neg h1] at h ⊢
    by_cases h2 : 65 ≤ c.toNat ∧ c.toNat ≤ 70
    · rw [if_pos h2] at h ⊢
      rw [or_AZ _ h0 (by omega)]; omega
    · rw [if_neg h2] at h; omega
/-- None of base 16: in lower case it is no letter, or one behind f. -/
theorem hex_bad {c : UInt8} (h : ¬ hex c < 16) : ¬ (48 ≤ c.toNat ∧ c.toNat ≤ 57) ∧ (bits .or .u8 (c.toNat : Int) 32 < 97 ∨ 102 < bits .or .u8 (c.toNat : Int) 32) := by
  have h0 := c.toNat_lt
  unfold hex at h
  by_cases h1 : 48 ≤ c.toNat ∧ c.toNat ≤ 57
  · rw [if_pos h1] at h; omega
  · rw [if_neg h1] at h
    refine ⟨h1, ?_⟩
    by_cases h2 : 97 ≤ c.toNat ∧ c.toNat ≤ 102
    · rw [if_pos h2] at h; omega
    · rw [if_neg h2] at h
      by_cases h3 : 65 ≤ c.toNat ∧ c.toNat ≤ 70
      · rw [if_pos h3] at h; omega
      · by_cases h4 : 97 ≤ c.toNat ∧ c.toNat ≤ 122
        · rw [or_az _ h0 h4]; omega
        · by_cases h5 : 65 ≤ c.toNat ∧ c.toNat ≤ 90
          · rw [or_AZ _ h0 h5]; omega
          · have := or_no _ h0 h4 h5; omega
theorem hex_let_gt {c : UInt8} (h : hex c < 16) (hn : ¬ (48 ≤ c.toNat ∧ c.toNat ≤ 57)) : 57 < c.toNat := by
  unfold hex at h
  rw [if_neg hn] at h
  by_cases h1 : 97 ≤ c.toNat ∧ c.toNat ≤ 102
  · omega
  · rw [if_neg h1] at h
    by_cases h2 : 65 ≤ c.toNat ∧ c.toNat ≤ 70
    · omega
    · rw [if_neg h2] at h; omega
theorem hex_not_95 {c : UInt8} (h : hex c < 16) : c.toNat ≠ 95 := by
  intro e
  unfold hex at h
  rw [e] at h
  simp at h
theorem beq_t {c : UInt8} {n : Nat} (h : c.toNat = n) : ((c.toNat : Int) == (n : Int)) = true := by simp [h]
theorem beq_f {c : UInt8} {n : Nat} (h : c.toNat ≠ n) : ((c.toNat : Int) == (n : Int)) = false := by simpa using (by omega : (c.toNat : Int) ≠ n)
theorem lower_any (c : UInt8) (v : Int) (w : World) (h : bits .or .u8 (c.toNat : Int) 32 = v) :
    Calls Tryz.prog 117 #[.int .u8 c.toNat] w fun e w' => e = .returned (.int .u8 v) ∧ w = w' :=
  (Tryz.internal_strconv_lower c.toNat w).mono fun e w' ⟨he, hw⟩ => ⟨by rw [he, h], hw.symm⟩

set_option maxHeartbeats 32000000 in
set_option maxRecDepth 100000 in
theorem inner16 (t : ByteArray) (hne : t.size ≠ 0) (hmax : t.size ≤ maxLen) (w : World) :
    Calls Tryz.prog 90 #[.string t, .int .i64 16, .int .i64 32] w fun e w' => e = .returned (uintV (p16 0 t.data.toList)) ∧ w' = Lib.bytesWorld w 5 t := by
  unfold maxLen at hmax
  have hemp : t.toList.isEmpty = false := by
    rw [← decide_eq_emptyBytes]
    exact decide_eq_false (fun h => hne (by rw [h]; rfl))
  have hcv := Lib.run_convert_string_bytes (P := Tryz.prog) w 9 54 5 t (u := .string) Tryz.underlying9 Tryz.underlying54 Tryz.underlying5
  have hB : ∀ j, j < t.size → (Lib.bytesWorld w 5 t).cell? ⟨w.heap.size, j, none⟩ = some (.int .u8 (t.data.toList.getD j 0).toNat) := fun j hj => Lib.bytesWorld_cell w 5 t j hj
  obtain ⟨W1, hW1⟩ : ∃ W1, W1 = Lib.bytesWorld w 5 t := ⟨_, rfl⟩
  rw [← hW1] at hcv hB ⊢
  clear hW1
  obtain ⟨l, hL⟩ : ∃ l, l = t.data.toList := ⟨_, rfl⟩
  have hLn : l.length = t.size := by rw [hL, Lib.size_eq]
  rw [← hL] at hB ⊢
  clear hL
  have hmv : IntKind.u64.wrap (IntKind.u64.wrap 4294967296 - 1) = 4294967295 := by
    rw [IntKind.wrap_u64, IntKind.wrap_u64]
    decide
  go_enter Tryz.func90, Tryz.ntmps90
  go_wp2
  go_loop [12, 13, 101] (fun vu vn vi => ∃ (k acc : Nat) (a : Int), vu = .bool false ∧ vn = .int .u64 a ∧ vi = .int .i64 k ∧ k ≤ t.size ∧ Hid (a = (acc : Int) ∧ acc ≤ 4294967295 ∧ p16 0 l = p16 acc (l.drop k)))
    (fun _ _ vi => t.size - (intOf vi).toNat)
  case atStart => exact ⟨0, 0, 0, rfl, rfl, rfl, by omega, rfl, by omega, rfl⟩
  case round =>
    obtain ⟨k, acc, a, rfl, rfl, rfl, hk, hh⟩ := hrel
    obtain ⟨ha, hacc, hdec⟩ := hh.out
    clear hh
    have a0 : 0 ≤ a := by omega
    have a1 : a ≤ 4294967295 := by omega
    by_cases hkn : k < t.size
    · have hc := hB k hkn
      have hdrop : l.drop k = l[k]'(by omega) :: l.drop (k + 1) := List.drop_eq_getElem_cons (by omega)
      have hget : l.getD k 0 = l[k]'(by omega) := by simp [List.getD, List.getElem?_eq_getElem (show k < l.length by omega)]
      rw [hdrop] at hdec
      rw [hget] at hc
      generalize l[k]'(by omega) = c at hc hdec
      have hc256 : c.toNat < 256 := c.toNat_lt
      clear hB hdrop hget
      by_cases hx : hex c < 16
      · by_cases hov : 4294967295 < acc * 16 + hex c
        · have hF : p16 acc (c :: l.drop (k + 1)) = some none := by unfold p16; rw [if_pos hx, if_neg (by omega)]
          rw [hF] at hdec
          by_cases hdig : 48 ≤ c.toNat ∧ c.toNat ≤ 57
          · have hh := hex_dig hdig
            obtain ⟨hd0, hd1⟩ := hdig
            have iov : 4294967295 < a * 16 + ((c.toNat : Int) - 48) := by omega
            clear hacc hF hov ha hx hh
            go_wp2
            go_ret2
            exact ⟨rfl, rfl⟩
          · obtain ⟨hlow, hten⟩ := hex_let hx hdig
            obtain ⟨v, hv⟩ : ∃ v : Int, v = (hex c : Int) + 87 := ⟨_, rfl⟩
            rw [← hv] at hlow
            have v0 : 97 ≤ v := by omega
            have v1 : v ≤ 102 := by omega
            have iov : 4294967295 < a * 16 + (v - 97 + 10) := by omega
            have HV := Lib.hid hlow
            have hnd : 57 < c.toNat := hex_let_gt hx hdig
            have hnu : ((c.toNat : Int) == 95) = false := beq_f (hex_not_95 hx)
            clear hacc hF hov ha hx hten hdig hv hlow
            go_wp2_with ((with_reducible refine (lower_any _ _ _ HV.out).mono ?_); rintro e w' ⟨rfl, rfl⟩)
            go_ret2
            exact ⟨by rw [hdec]; rfl, rfl⟩
        · have hF : p16 acc (c :: l.drop (k + 1)) = p16 (acc * 16 + hex c) (l.drop (k + 1)) := by conv => lhs; unfold p16; rw [if_pos hx, if_pos (by omega)]
          have HN : Hid (a * 16 + (hex c : Int) = ((acc * 16 + hex c : Nat) : Int) ∧ acc * 16 + hex c ≤ 4294967295 ∧ p16 0 l = p16 (acc * 16 + hex c) (l.drop (k + 1))) := Lib.hid ⟨by omega, by omega, hdec.trans hF⟩
          by_cases hdig : 48 ≤ c.toNat ∧ c.toNat ≤ 57
          · have hh := hex_dig hdig
            obtain ⟨hd0, hd1⟩ := hdig
            have iov : a * 16 + ((c.toNat : Int) - 48) ≤ 4294967295 := by omega
            have hhi : (hex c : Int) = (c.toNat : Int) - 48 := by omega
            have HH := Lib.hid hhi
            clear hacc hF hov ha hx hh hdec hhi
            go_wp2
            refine ⟨⟨k + 1, acc * 16 + hex c, a * 16 + (hex c : Int), rfl, (by first | rfl | (congr 1; have := HH.out; omega)), (by first | rfl | (congr 1; omega)), by omega, HN⟩, by simp [intOf]; omega⟩
          · obtain ⟨hlow, hten⟩ := hex_let hx hdig
            obtain ⟨v, hv⟩ : ∃ v : Int, v = (hex c : Int) + 87 := ⟨_, rfl⟩
            rw [← hv] at hlow
            have v0 : 97 ≤ v := by omega
            have v1 : v ≤ 102 := by omega
            have iov : a * 16 + (v - 97 + 10) ≤ 4294967295 := by omega
            have HV := Lib.hid hlow
            have HH := Lib.hid hv
            have hnd : 57 < c.toNat := hex_let_gt hx hdig
            have hnu : ((c.toNat : Int) == 95) = false := beq_f (hex_not_95 hx)
            clear hacc hF hov ha hx hten hdig hv hlow hdec
            go_wp2_with ((with_reducible refine (lower_any _ _ _ HV.out).mono ?_); rintro e w' ⟨rfl, rfl⟩)
            refine ⟨⟨k + 1, acc * 16 + hex c, a * 16 + (hex c : Int), rfl, (by first | rfl | (congr 1; have := HH.out; omega)), (by first | rfl | (congr 1; omega)), by omega, HN⟩, by simp [intOf]; omega⟩
      · have hF : p16 acc (c :: l.drop (k + 1)) = none := by unfold p16; rw [if_neg hx]
        rw [hF] at hdec
        obtain ⟨hnd, hlow⟩ := hex_bad hx
        have hv0 := bits_lo_u8 .or (c.toNat : Int) 32
        have hv1 := bits_hi_u8 .or (c.toNat : Int) 32
        obtain ⟨v, hv⟩ : ∃ v : Int, v = bits .or .u8 (c.toNat : Int) 32 := ⟨_, rfl⟩
        rw [← hv] at hlow hv0 hv1
        have HV := Lib.hid hv.symm
        clear hacc hF ha hx hv
        by_cases h95 : c.toNat = 95
        · have hnu : ((c.toNat : Int) == 95) = true := beq_t h95
          have hgt : 57 < c.toNat := by omega
          clear h95 hnd
          rcases hlow with hlow | hlow
          · go_wp2_with ((with_reducible refine (lower_any _ _ _ HV.out).mono ?_); rintro e w' ⟨rfl, rfl⟩)
            all_goals go_ret2
            all_goals first | exact ⟨rfl, rfl⟩ | exact ⟨by rw [hdec]; rfl, rfl⟩
          · go_wp2_with ((with_reducible refine (lower_any _ _ _ HV.out).mono ?_); rintro e w' ⟨rfl, rfl⟩)
            all_goals go_ret2
            all_goals first | exact ⟨rfl, rfl⟩ | exact ⟨by rw [hdec]; rfl, rfl⟩
        · have hnu : ((c.toNat : Int) == 95) = false := beq_f h95
          clear h95
          rcases (by omega : c.toNat < 48 ∨ 57 < c.toNat) with hgt | hgt
          · clear hnd
            rcases hlow with hlow | hlow
            · go_wp2_with ((with_reducible refine (lower_any _ _ _ HV.out).mono ?_); rintro e w' ⟨rfl, rfl⟩)
              all_goals go_ret2
              all_goals first | exact ⟨rfl, rfl⟩ | exact ⟨by rw [hdec]; rfl, rfl⟩
            · go_wp2_with ((with_reducible refine (lower_any _ _ _ HV.out).mono ?_); rintro e w' ⟨rfl, rfl⟩)
              all_goals go_ret2
              all_goals first | exact ⟨rfl, rfl⟩ | exact ⟨by rw [hdec]; rfl, rfl⟩
          · clear hnd
            rcases hlow with hlow | hlow
            · go_wp2_with ((with_reducible refine (lower_any _ _ _ HV.out).mono ?_); rintro e w' ⟨rfl, rfl⟩)
              all_goals go_ret2
              all_goals first | exact ⟨rfl, rfl⟩ | exact ⟨by rw [hdec]; rfl, rfl⟩
            · go_wp2_with ((with_reducible refine (lower_any _ _ _ HV.out).mono ?_); rintro e w' ⟨rfl, rfl⟩)
              all_goals go_ret2
              all_goals first | exact ⟨rfl, rfl⟩ | exact ⟨by rw [hdec]; rfl, rfl⟩
    · have hkk : k = t.size := by omega
      subst hkk
      have hF : p16 acc (l.drop t.size) = some (some acc) := by rw [List.drop_eq_nil_of_le (by omega)]; rfl
      rw [hF] at hdec
      subst ha
      clear hacc hF a0 a1
      go_wp2
      go_ret2
      exact ⟨rfl, rfl⟩
theorem p10_val : ∀ (l : List UInt8) (acc : Nat), acc ≤ 4294967295 → valFrom 10 acc l = match Lib.parseUintM 4294967295 acc l with | .ok v => some v | _ => none
  | [], acc, _ => rfl
  | c :: t, acc, ha => by
    unfold valFrom Lib.parseUintM
    by_cases h : 48 ≤ c.toNat ∧ c.toNat ≤ 57
    · have hh := hex_dig h
      rw [if_pos h, hh, if_pos (by omega), if_neg (by omega : ¬ 1844674407370955162 ≤ acc)]
      by_cases h2 : 4294967295 < acc * 10 + (c.toNat - 48)
      · rw [if_pos h2, if_neg (by omega)]
      · rw [if_neg h2, if_pos (by omega)]
        exact p10_val t _ (by omega)
    · rw [if_neg h]
      have : ¬ hex c < 10 := by
        unfold hex; rw [if_neg h]
        split
        · omega
        · split <;> omega
      rw [if_neg this]
def endOf (e : Lib.NumEnd Nat) : Option (Option Nat) := match e with | .ok v => some (some v) | .range => some none | _ => none
theorem endOf_V (e : Lib.NumEnd Nat) : Lib.uintTupleM 151 4294967295 e = uintV (endOf e) := by rcases e with _ | _ | _ <;> rfl
theorem endOf_val (e : Lib.NumEnd Nat) : (match e with | .ok v => some v | _ => none) = (match endOf e with | some (some v) => some v | _ => none) := by rcases e with _ | _ | _ <;> rfl
/-- How the reading ends, of base 10 and of base 16; an empty text is none. -/
def e10 (l : List UInt8) : Option (Option Nat) := endOf (Lib.parseUintB 32 l)
def e16 (l : List UInt8) : Option (Option Nat) := if l = [] then none else p16 0 l
theorem val10_eq (l : List UInt8) : val 10 l = match e10 l with | some (some v) => some v | _ => none := by
  unfold e10
  rw [← endOf_val]
  by_cases h : l = []
  · subst h; rfl
  · unfold val Lib.parseUintB
    rw [if_neg h, if_neg h]
    exact p10_val l 0 (by omega)
theorem val16_eq (l : List UInt8) : val 16 l = match e16 l with | some (some v) => some v | _ => none := by
  unfold val e16
  by_cases h : l = []
  · rw [if_pos h, if_pos h]
  · rw [if_neg h, if_neg h]
    exact p16_val l 0
/-- An error that is not nil, beside a number. -/
def BadUint (w : World) (e : Ending) (w' : World) : Prop := ∃ (x : Int) (tp : TypeId) (p : Value), e = .returned (.tuple #[.int .u64 x, .iface tp p]) ∧ Below w.heap.size w w'
theorem bytesWorld_below (w : World) (t : TypeId) (s : ByteArray) : Below w.heap.size w (Lib.bytesWorld w t s) := by
  exact Lib.bytesWorld_below _ _ _
def InPost (x : Option (Option Nat)) (w : World) (e : Ending) (w' : World) : Prop := e = .returned (uintV x) ∧ Below w.heap.size w w'
theorem inner10_any (s : ByteArray) (w : World) (hs : s.size ≤ 32768) :
    Calls Tryz.prog 90 #[.string s, .int .i64 10, .int .i64 32] w (InPost (e10 s.data.toList) w) := by
  refine (Tryz.internal_strconv_ParseUint_10_at32 s (by omega) w).mono ?_
  rintro e w' ⟨he, hw⟩
  refine ⟨by rw [he]; exact congrArg _ (endOf_V _), ?_⟩
  rcases hw with rfl | rfl
  · exact Below.refl _ _
  · exact bytesWorld_below _ _ _
theorem inner16_any (s : ByteArray) (w : World) (hs : s.size ≤ 32768) :
    Calls Tryz.prog 90 #[.string s, .int .i64 16, .int .i64 32] w (InPost (e16 s.data.toList) w) := by
  by_cases h : s.data.toList = []
  · have e0 : e16 s.data.toList = none := by unfold e16; rw [if_pos h]
    have hs0 : s = ⟨#[]⟩ := by apply ByteArray.ext; apply Array.toList_inj.1; rw [h]
    rw [e0, hs0]
    refine (Tryz.internal_strconv_ParseUint_empty 16 32 w).mono ?_
    rintro e w' ⟨he, hw⟩
    rw [hw]
    exact ⟨he, Below.refl _ _⟩
  · have e0 : e16 s.data.toList = p16 0 s.data.toList := by unfold e16; rw [if_neg h]
    rw [e0]
    refine (inner16 s (fun e => h ?_) (by unfold maxLen; omega) w).mono ?_
    · have : s.data.toList.length = 0 := by simpa using e
      exact List.eq_nil_of_length_eq_zero this
    · rintro e w' ⟨he, hw⟩
      rw [hw]
      exact ⟨he, bytesWorld_below _ _ _⟩
theorem cell_below {w w' : World} (h : Below w.heap.size w w') {a : Addr} {v : Value} (hc : w.cell? a = some v) : w'.cell? a = some v :=
  (h.cell (World.block_lt_of_cell? _ _ hc)).trans hc
set_option maxHeartbeats 4000000 in
set_option maxRecDepth 100000 in
theorem pub_ok (b : Int) (s : ByteArray) (v : Nat) (x : Option (Option Nat)) (w : World) (hx : x = some (some v)) (hI : Calls Tryz.prog 90 #[.string s, .int .i64 b, .int .i64 32] w (InPost x w)) :
    Calls Tryz.prog 68 #[.string s, .int .i64 b, .int .i64 32] w fun e w' => e = .returned (.tuple #[.int .u64 v, .nilIface]) ∧ Below w.heap.size w w' := by
  subst hx
  have hI : Calls Tryz.prog 90 #[.string s, .int .i64 b, .int .i64 32] w fun e w' => e = .returned (.tuple #[.int .u64 v, .nilIface]) ∧ Below w.heap.size w w' := hI
  go_enter Tryz.func68, Tryz.ntmps68
  go_wp2_with (refine hI.mono ?_; rintro e W1 ⟨rfl, hW⟩)
  go_wp2
  go_ret2
  exact ⟨rfl, hW⟩
set_option maxHeartbeats 4000000 in
set_option maxRecDepth 100000 in
theorem pub_odd (b : Int) (s : ByteArray) (w : World) (hs : s.size ≤ 32768) (ev : Value) (hv : w.cell? ⟨6, 0, none⟩ = some ev) (hev : ev = .nilIface ∨ ∃ te pe, ev = .iface te pe) (x : Option (Option Nat)) (hx : x = none) (hI : Calls Tryz.prog 90 #[.string s, .int .i64 b, .int .i64 32] w (InPost x w)) :
    Calls Tryz.prog 68 #[.string s, .int .i64 b, .int .i64 32] w (BadUint w) := by
  subst hx
  have hI : Calls Tryz.prog 90 #[.string s, .int .i64 b, .int .i64 32] w fun e w' => e = .returned (.tuple #[.int .u64 0, .iface 151 (.int .i64 2)]) ∧ Below w.heap.size w w' := hI
  go_enter Tryz.func68, Tryz.ntmps68
  go_wp2_with (refine hI.mono ?_; rintro e W1 ⟨rfl, hW⟩)
  have hv1 := Lib.hid (cell_below hW hv)
  clear hv
  go_wp2_with ((with_reducible refine (Tryz.strconv_toError_syntax _ _ _ _ ev _ (by omega) hv1.out hev).mono ?_); rintro e W2 ⟨N, rfl, _, _, hW2⟩)
  go_ret2
  exact ⟨_, _, _, rfl, hW.trans (hW2.mono hW.size)⟩
set_option maxHeartbeats 4000000 in
set_option maxRecDepth 100000 in
theorem pub_great (b : Int) (s : ByteArray) (w : World) (hs : s.size ≤ 32768) (ev : Value) (hv : w.cell? ⟨7, 0, none⟩ = some ev) (hev : ev = .nilIface ∨ ∃ te pe, ev = .iface te pe) (x : Option (Option Nat)) (hx : x = some none) (hI : Calls Tryz.prog 90 #[.string s, .int .i64 b, .int .i64 32] w (InPost x w)) :
    Calls Tryz.prog 68 #[.string s, .int .i64 b, .int .i64 32] w (BadUint w) := by
  subst hx
  have hI : Calls Tryz.prog 90 #[.string s, .int .i64 b, .int .i64 32] w fun e w' => e = .returned (.tuple #[.int .u64 4294967295, .iface 151 (.int .i64 1)]) ∧ Below w.heap.size w w' := hI
  go_enter Tryz.func68, Tryz.ntmps68
  go_wp2_with (refine hI.mono ?_; rintro e W1 ⟨rfl, hW⟩)
  have hv1 := Lib.hid (cell_below hW hv)
  clear hv
  go_wp2_with ((with_reducible refine (Tryz.strconv_toError_range _ _ _ _ ev _ (by omega) hv1.out hev).mono ?_); rintro e W2 ⟨N, rfl, _, _, hW2⟩)
  go_ret2
  exact ⟨_, _, _, rfl, hW.trans (hW2.mono hW.size)⟩
theorem pub_bad (b : Int) (s : ByteArray) (w : World) (hs : s.size ≤ 32768) (ev ev' : Value) (hv : w.cell? ⟨6, 0, none⟩ = some ev) (hev : ev = .nilIface ∨ ∃ te pe, ev = .iface te pe) (hv' : w.cell? ⟨7, 0, none⟩ = some ev') (hev' : ev' = .nilIface ∨ ∃ te pe, ev' = .iface te pe)
    (x : Option (Option Nat)) (hx : (match x with | some (some v) => some v | _ => none) = (none : Option Nat)) (hI : Calls Tryz.prog 90 #[.string s, .int .i64 b, .int .i64 32] w (InPost x w)) :
    Calls Tryz.prog 68 #[.string s, .int .i64 b, .int .i64 32] w (BadUint w) := by
  rcases x with _ | _ | v
  · exact pub_odd b s w hs ev hv hev _ rfl hI
  · exact pub_great b s w hs ev' hv' hev' _ rfl hI
  · simp at hx
theorem end_some {x : Option (Option Nat)} {v : Nat} (h : (match x with | some (some v) => some v | _ => none) = some v) : x = some (some v) := by
  rcases x with _ | _ | u <;> simp at h
  rw [h]
theorem uint10_ok (s : ByteArray) (v : Nat) (w : World) (hs : s.size ≤ 32768) (h : val 10 s.data.toList = some v) :
    Calls Tryz.prog 68 #[.string s, .int .i64 10, .int .i64 32] w fun e w' => e = .returned (.tuple #[.int .u64 v, .nilIface]) ∧ Below w.heap.size w w' :=
  pub_ok 10 s v _ w (end_some (by rw [← val10_eq]; exact h)) (inner10_any s w hs)
theorem uint16_ok (s : ByteArray) (v : Nat) (w : World) (hs : s.size ≤ 32768) (h : val 16 s.data.toList = some v) :
    Calls Tryz.prog 68 #[.string s, .int .i64 16, .int .i64 32] w fun e w' => e = .returned (.tuple #[.int .u64 v, .nilIface]) ∧ Below w.heap.size w w' :=
  pub_ok 16 s v _ w (end_some (by rw [← val16_eq]; exact h)) (inner16_any s w hs)
theorem uint10_bad (s : ByteArray) (w : World) (hs : s.size ≤ 32768) (ev ev' : Value) (hv : w.cell? ⟨6, 0, none⟩ = some ev) (hev : ev = .nilIface ∨ ∃ te pe, ev = .iface te pe) (hv' : w.cell? ⟨7, 0, none⟩ = some ev') (hev' : ev' = .nilIface ∨ ∃ te pe, ev' = .iface te pe) (h : val 10 s.data.toList = none) :
    Calls Tryz.prog 68 #[.string s, .int .i64 10, .int .i64 32] w (BadUint w) :=
  pub_bad 10 s w hs ev ev' hv hev hv' hev' _ (by rw [← val10_eq]; exact h) (inner10_any s w hs)
theorem uint16_bad (s : ByteArray) (w : World) (hs : s.size ≤ 32768) (ev ev' : Value) (hv : w.cell? ⟨6, 0, none⟩ = some ev) (hev : ev = .nilIface ∨ ∃ te pe, ev = .iface te pe) (hv' : w.cell? ⟨7, 0, none⟩ = some ev') (hev' : ev' = .nilIface ∨ ∃ te pe, ev' = .iface te pe) (h : val 16 s.data.toList = none) :
    Calls Tryz.prog 68 #[.string s, .int .i64 16, .int .i64 32] w (BadUint w) :=
  pub_bad 16 s w hs ev ev' hv hev hv' hev' _ (by rw [← val16_eq]; exact h) (inner16_any s w hs)
end Go.Proofs.YtaamllikceaifaaGreatDoor
