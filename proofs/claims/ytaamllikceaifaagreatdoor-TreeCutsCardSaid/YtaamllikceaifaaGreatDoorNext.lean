/-
  The contract of lex's next.
-/
import Derived.Test.YtaamllikceaifaaGreatDoorNumber
import Derived.Test.YtaamllikceaifaaGreatDoorQuoted
namespace Go.Proofs.YtaamllikceaifaaGreatDoor
open Go.RowKit Sp
set_option linter.unusedVariables false

theorem name_agg (s : ByteArray) (k len : Int) (w : World) (hs : s.size ≤ maxLen) (hk : (if isWord (lets s.data.toList) then 2 else 1) = k) (hl : ((lets s.data.toList).length : Int) = len) :
    Calls Tryz.prog 43 #[.string s] w fun e w' => e = .returned (.agg #[.int .i64 k, .int .i64 len, .int .i64 0]) ∧ Below w.heap.size w w' := by
  subst hk; subst hl; exact name_any s w hs
theorem number_yesA (s : ByteArray) (v n : Nat) (w : World) (henv : Env w) (hs : s.size ≤ 32768) (h : value (lets s.data.toList) = some v) (hl : (lets s.data.toList).length = n) :
    Calls Tryz.prog 45 #[.string s] w fun e w' => e = .returned (.tuple #[.agg #[.int .i64 3, .int .i64 n, .int .i64 v], .int .i64 0]) ∧ Below w.heap.size w w' := by
  subst hl; exact number_yes s v w henv hs h
theorem number_noA (s : ByteArray) (w : World) (henv : Env w) (hs : s.size ≤ 32768) (h : value (lets s.data.toList) = none) :
    Calls Tryz.prog 45 #[.string s] w fun e w' => e = .returned (.tuple #[.agg #[.int .i64 0, .int .i64 0, .int .i64 0], .int .i64 3]) ∧ Below w.heap.size w w' := number_no s w henv hs h
theorem quoted_yesA (s : ByteArray) (l n : Nat) (w : World) (hs : s.size ≤ maxLen) (h : Sp.quoted (s.data.toList.drop 1) = some (l, n)) :
    Calls Tryz.prog 46 #[.string s] w fun e w' => e = .returned (.tuple #[.agg #[.int .i64 3, .int .i64 l, .int .i64 n], .int .i64 0]) ∧ Below w.heap.size w w' := quoted_yes s (l, n) w hs h
theorem quoted_noA (s : ByteArray) (w : World) (hs : s.size ≤ maxLen) (h : Sp.quoted (s.data.toList.drop 1) = none) :
    Calls Tryz.prog 46 #[.string s] w fun e w' => e = .returned (.tuple #[.agg #[.int .i64 0, .int .i64 0, .int .i64 0], .int .i64 2]) ∧ Below w.heap.size w w' := quoted_no s w hs h
theorem sign_yesA (s : ByteArray) (p : List UInt8) (n : Nat) (w : World) (henv : Env w) (h : firstOf signsL s.data.toList = some p) (hn : p.length = n) :
    Calls Tryz.prog 47 #[.string s] w fun e w' => e = .returned (.tuple #[.agg #[.int .i64 4, .int .i64 n, .int .i64 0], .int .i64 0]) ∧ Below w.heap.size w w' := by
  subst hn; obtain ⟨t, fr, hg⟩ := henv.signs; exact sign_yes s p w t fr hg h
theorem sign_noA (s : ByteArray) (w : World) (henv : Env w) (h : firstOf signsL s.data.toList = none) :
    Calls Tryz.prog 47 #[.string s] w fun e w' => e = .returned (.tuple #[.agg #[.int .i64 0, .int .i64 0, .int .i64 0], .int .i64 2]) ∧ Below w.heap.size w w' := by
  obtain ⟨t, fr, hg⟩ := henv.signs; exact sign_no s w t fr hg h
def nextV (st : St) : Value := match st with
  | .tok k len n => .tuple #[.agg #[.int .i64 k, .int .i64 len, .int .i64 n], .int .i64 0]
  | .bad e => .tuple #[.agg #[.int .i64 0, .int .i64 0, .int .i64 0], .int .i64 e]
  | _ => .nilIface
def NextPost (st : St) (w : World) (e : Ending) (w' : World) : Prop := e = .returned (nextV st) ∧ Below w.heap.size w w'
theorem nextV_tok {st : St} {k : Int} {len n : Nat} (h : st = .tok k len n) : nextV st = .tuple #[.agg #[.int .i64 k, .int .i64 len, .int .i64 n], .int .i64 0] := by rw [h]; rfl
theorem nextV_bad {st : St} {e : Int} (h : st = .bad e) : nextV st = .tuple #[.agg #[.int .i64 0, .int .i64 0, .int .i64 0], .int .i64 e] := by rw [h]; rfl
theorem head_eq (s : ByteArray) (h : 0 < s.size) : s.data.toList = s[0] :: s.data.toList.drop 1 := by
  have := drop_cons s 0 h
  simpa using this
set_option maxHeartbeats 1000000 in
theorem next_name (s : ByteArray) (w : World) (henv : Env w) (hs : s.size ≤ 32768) (h0 : 0 < s.size) (hl : isLet s[0] = true) (k : Int) (n : Nat) (hk : (if isWord (lets s.data.toList) then 2 else 1) = k) (hn : ((lets s.data.toList).length : Int) = (n : Int)) (hst : tokSt s[0] (s.data.toList.drop 1) = .tok k n 0) :
    Calls Tryz.prog 24 #[.string s] w (NextPost (tokSt s[0] (s.data.toList.drop 1)) w) := by
  have HS := Lib.hid hst; clear hst
  have hsz : s.size ≤ maxLen := by unfold maxLen; omega
  have HE := Lib.hid (henv.below ((Below.refl _ _).alloc (Nat.le_refl _) (.cells #[.int .i64 0, .int .i64 0, .int .i64 0] 63)) henv.sz)
  clear henv
  have HK := Lib.hid hk; have HN := Lib.hid hn; clear hk hn
  go_enter Tryz.func24, Tryz.ntmps24
  go_wp2_with (first | ((with_reducible refine (letter_any _ _).mono ?_); rintro e w' ⟨rfl, rfl⟩) | ((with_reducible refine (digit_any _ _).mono ?_); rintro e w' ⟨rfl, rfl⟩) | ((with_reducible refine (name_agg _ k n _ hsz HK.out HN.out).mono ?_); rintro e w1 ⟨rfl, hb⟩; have hh := p3_heap hb; have hc0 := (cell_of_row w1 _ 0 _ _ _ hh); have hc1 := (cell_of_row w1 _ 1 _ _ _ hh); have hc2 := (cell_of_row w1 _ 2 _ _ _ hh); have hf0 := free_of_row w1 _ 0 _ _ hh; have hf1 := free_of_row w1 _ 1 _ _ hh; have hf2 := free_of_row w1 _ 2 _ _ hh; clear hh; simp at hc0 hc1 hc2))
  exact bodyPost_ret (v := .tuple #[.agg #[.int .i64 k, .int .i64 n, .int .i64 0], .int .i64 0]) (by simp [results, Tryz.results24, go_sem, hc0, hc1, hc2]) rfl ⟨ret_eq (by rw [nextV_tok HS.out]; try rfl), (((((Below.refl _ _).alloc (Nat.le_refl _) _).trans (hb.mono (by simp))).setCell (by simp) _).setCell (by simp) _).setCell (by simp) _⟩
set_option maxHeartbeats 1000000 in
theorem next_num_y (s : ByteArray) (w : World) (henv : Env w) (hs : s.size ≤ 32768) (h0 : 0 < s.size) (hl : isLet s[0] = false) (hd : isDig s[0] = true) (v n : Nat) (hv : value (lets s.data.toList) = some v) (hn : (lets s.data.toList).length = n) (hst : tokSt s[0] (s.data.toList.drop 1) = .tok 3 n v) :
    Calls Tryz.prog 24 #[.string s] w (NextPost (tokSt s[0] (s.data.toList.drop 1)) w) := by
  have HS := Lib.hid hst; clear hst
  have hsz : s.size ≤ maxLen := by unfold maxLen; omega
  have HE := Lib.hid (henv.below ((Below.refl _ _).alloc (Nat.le_refl _) (.cells #[.int .i64 0, .int .i64 0, .int .i64 0] 63)) henv.sz)
  clear henv
  have HV := Lib.hid hv; have HN := Lib.hid hn; clear hv hn
  go_enter Tryz.func24, Tryz.ntmps24
  go_wp2_with (first | ((with_reducible refine (letter_any _ _).mono ?_); rintro e w' ⟨rfl, rfl⟩) | ((with_reducible refine (digit_any _ _).mono ?_); rintro e w' ⟨rfl, rfl⟩) | ((with_reducible refine (number_yesA _ v n _ HE.out hs HV.out HN.out).mono ?_); rintro e w1 ⟨rfl, hb⟩; have hh := p3_heap hb; have hc0 := (cell_of_row w1 _ 0 _ _ _ hh); have hc1 := (cell_of_row w1 _ 1 _ _ _ hh); have hc2 := (cell_of_row w1 _ 2 _ _ _ hh); have hf0 := free_of_row w1 _ 0 _ _ hh; have hf1 := free_of_row w1 _ 1 _ _ hh; have hf2 := free_of_row w1 _ 2 _ _ hh; clear hh; simp at hc0 hc1 hc2))
  exact bodyPost_ret (v := .tuple #[.agg #[.int .i64 3, .int .i64 n, .int .i64 v], .int .i64 0]) (by simp [results, Tryz.results24, go_sem, hc0, hc1, hc2]) rfl ⟨ret_eq (by rw [nextV_tok HS.out]; try rfl), (((((Below.refl _ _).alloc (Nat.le_refl _) _).trans (hb.mono (by simp))).setCell (by simp) _).setCell (by simp) _).setCell (by simp) _⟩
set_option maxHeartbeats 1000000 in
theorem next_num_b (s : ByteArray) (w : World) (henv : Env w) (hs : s.size ≤ 32768) (h0 : 0 < s.size) (hl : isLet s[0] = false) (hd : isDig s[0] = true) (hv : value (lets s.data.toList) = none) (hst : tokSt s[0] (s.data.toList.drop 1) = .bad 3) :
    Calls Tryz.prog 24 #[.string s] w (NextPost (tokSt s[0] (s.data.toList.drop 1)) w) := by
  have HS := Lib.hid hst; clear hst
  have hsz : s.size ≤ maxLen := by unfold maxLen; omega
  have HE := Lib.hid (henv.below ((Below.refl _ _).alloc (Nat.le_refl _) (.cells #[.int .i64 0, .int .i64 0, .int .i64 0] 63)) henv.sz)
  clear henv
  have HV := Lib.hid hv; clear hv
  go_enter Tryz.func24, Tryz.ntmps24
  go_wp2_with (first | ((with_reducible refine (letter_any _ _).mono ?_); rintro e w' ⟨rfl, rfl⟩) | ((with_reducible refine (digit_any _ _).mono ?_); rintro e w' ⟨rfl, rfl⟩) | ((with_reducible refine (number_noA _ _ HE.out hs HV.out).mono ?_); rintro e w1 ⟨rfl, hb⟩; have hh := p3_heap hb; have hc0 := (cell_of_row w1 _ 0 _ _ _ hh); have hc1 := (cell_of_row w1 _ 1 _ _ _ hh); have hc2 := (cell_of_row w1 _ 2 _ _ _ hh); have hf0 := free_of_row w1 _ 0 _ _ hh; have hf1 := free_of_row w1 _ 1 _ _ hh; have hf2 := free_of_row w1 _ 2 _ _ hh; clear hh; simp at hc0 hc1 hc2))
  exact bodyPost_ret (v := .tuple #[.agg #[.int .i64 0, .int .i64 0, .int .i64 0], .int .i64 3]) (by simp [results, Tryz.results24, go_sem, hc0, hc1, hc2]) rfl ⟨ret_eq (by rw [nextV_bad HS.out]; try rfl), (((((Below.refl _ _).alloc (Nat.le_refl _) _).trans (hb.mono (by simp))).setCell (by simp) _).setCell (by simp) _).setCell (by simp) _⟩
set_option maxHeartbeats 1000000 in
theorem next_quo_y (s : ByteArray) (w : World) (henv : Env w) (hs : s.size ≤ 32768) (h0 : 0 < s.size) (hl : isLet s[0] = false) (hd : isDig s[0] = false) (hq : ((s[0].toNat : Int) == 39) = true) (l n : Nat) (hv : Sp.quoted (s.data.toList.drop 1) = some (l, n)) (hst : tokSt s[0] (s.data.toList.drop 1) = .tok 3 l n) :
    Calls Tryz.prog 24 #[.string s] w (NextPost (tokSt s[0] (s.data.toList.drop 1)) w) := by
  have HS := Lib.hid hst; clear hst
  have hsz : s.size ≤ maxLen := by unfold maxLen; omega
  have HE := Lib.hid (henv.below ((Below.refl _ _).alloc (Nat.le_refl _) (.cells #[.int .i64 0, .int .i64 0, .int .i64 0] 63)) henv.sz)
  clear henv
  have HV := Lib.hid hv; clear hv
  go_enter Tryz.func24, Tryz.ntmps24
  go_wp2_with (first | ((with_reducible refine (letter_any _ _).mono ?_); rintro e w' ⟨rfl, rfl⟩) | ((with_reducible refine (digit_any _ _).mono ?_); rintro e w' ⟨rfl, rfl⟩) | ((with_reducible refine (quoted_yesA _ l n _ hsz HV.out).mono ?_); rintro e w1 ⟨rfl, hb⟩; have hh := p3_heap hb; have hc0 := (cell_of_row w1 _ 0 _ _ _ hh); have hc1 := (cell_of_row w1 _ 1 _ _ _ hh); have hc2 := (cell_of_row w1 _ 2 _ _ _ hh); have hf0 := free_of_row w1 _ 0 _ _ hh; have hf1 := free_of_row w1 _ 1 _ _ hh; have hf2 := free_of_row w1 _ 2 _ _ hh; clear hh; simp at hc0 hc1 hc2))
  exact bodyPost_ret (v := .tuple #[.agg #[.int .i64 3, .int .i64 l, .int .i64 n], .int .i64 0]) (by simp [results, Tryz.results24, go_sem, hc0, hc1, hc2]) rfl ⟨ret_eq (by rw [nextV_tok HS.out]; try rfl), (((((Below.refl _ _).alloc (Nat.le_refl _) _).trans (hb.mono (by simp))).setCell (by simp) _).setCell (by simp) _).setCell (by simp) _⟩
set_option maxHeartbeats 1000000 in
theorem next_quo_b (s : ByteArray) (w : World) (henv : Env w) (hs : s.size ≤ 32768) (h0 : 0 < s.size) (hl : isLet s[0] = false) (hd : isDig s[0] = false) (hq : ((s[0].toNat : Int) == 39) = true) (hv : Sp.quoted (s.data.toList.drop 1) = none) (hst : tokSt s[0] (s.data.toList.drop 1) = .bad 2) :
    Calls Tryz.prog 24 #[.string s] w (NextPost (tokSt s[0] (s.data.toList.drop 1)) w) := by
  have HS := Lib.hid hst; clear hst
  have hsz : s.size ≤ maxLen := by unfold maxLen; omega
  have HE := Lib.hid (henv.below ((Below.refl _ _).alloc (Nat.le_refl _) (.cells #[.int .i64 0, .int .i64 0, .int .i64 0] 63)) henv.sz)
  clear henv
  have HV := Lib.hid hv; clear hv
  go_enter Tryz.func24, Tryz.ntmps24
  go_wp2_with (first | ((with_reducible refine (letter_any _ _).mono ?_); rintro e w' ⟨rfl, rfl⟩) | ((with_reducible refine (digit_any _ _).mono ?_); rintro e w' ⟨rfl, rfl⟩) | ((with_reducible refine (quoted_noA _ _ hsz HV.out).mono ?_); rintro e w1 ⟨rfl, hb⟩; have hh := p3_heap hb; have hc0 := (cell_of_row w1 _ 0 _ _ _ hh); have hc1 := (cell_of_row w1 _ 1 _ _ _ hh); have hc2 := (cell_of_row w1 _ 2 _ _ _ hh); have hf0 := free_of_row w1 _ 0 _ _ hh; have hf1 := free_of_row w1 _ 1 _ _ hh; have hf2 := free_of_row w1 _ 2 _ _ hh; clear hh; simp at hc0 hc1 hc2))
  exact bodyPost_ret (v := .tuple #[.agg #[.int .i64 0, .int .i64 0, .int .i64 0], .int .i64 2]) (by simp [results, Tryz.results24, go_sem, hc0, hc1, hc2]) rfl ⟨ret_eq (by rw [nextV_bad HS.out]; try rfl), (((((Below.refl _ _).alloc (Nat.le_refl _) _).trans (hb.mono (by simp))).setCell (by simp) _).setCell (by simp) _).setCell (by simp) _⟩
set_option maxHeartbeats 1000000 in
theorem next_sig_y (s : ByteArray) (w : World) (henv : Env w) (hs : s.size ≤ 32768) (h0 : 0 < s.size) (hl : isLet s[0] = false) (hd : isDig s[0] = false) (hq : ((s[0].toNat : Int) == 39) = false) (p : List UInt8) (n : Nat) (hv : firstOf signsL s.data.toList = some p) (hn : p.length = n) (hst : tokSt s[0] (s.data.toList.drop 1) = .tok 4 n 0) :
    Calls Tryz.prog 24 #[.string s] w (NextPost (tokSt s[0] (s.data.toList.drop 1)) w) := by
  have HS := Lib.hid hst; clear hst
  have hsz : s.size ≤ maxLen := by unfold maxLen; omega
  have HE := Lib.hid (henv.below ((Below.refl _ _).alloc (Nat.le_refl _) (.cells #[.int .i64 0, .int .i64 0, .int .i64 0] 63)) henv.sz)
  clear henv
  have HV := Lib.hid hv; have HN := Lib.hid hn; clear hv hn
  go_enter Tryz.func24, Tryz.ntmps24
  go_wp2_with (first | ((with_reducible refine (letter_any _ _).mono ?_); rintro e w' ⟨rfl, rfl⟩) | ((with_reducible refine (digit_any _ _).mono ?_); rintro e w' ⟨rfl, rfl⟩) | ((with_reducible refine (sign_yesA _ p n _ HE.out HV.out HN.out).mono ?_); rintro e w1 ⟨rfl, hb⟩; have hh := p3_heap hb; have hc0 := (cell_of_row w1 _ 0 _ _ _ hh); have hc1 := (cell_of_row w1 _ 1 _ _ _ hh); have hc2 := (cell_of_row w1 _ 2 _ _ _ hh); have hf0 := free_of_row w1 _ 0 _ _ hh; have hf1 := free_of_row w1 _ 1 _ _ hh; have hf2 := free_of_row w1 _ 2 _ _ hh; clear hh; simp at hc0 hc1 hc2))
  exact bodyPost_ret (v := .tuple #[.agg #[.int .i64 4, .int .i64 n, .int .i64 0], .int .i64 0]) (by simp [results, Tryz.results24, go_sem, hc0, hc1, hc2]) rfl ⟨ret_eq (by rw [nextV_tok HS.out]; try rfl), (((((Below.refl _ _).alloc (Nat.le_refl _) _).trans (hb.mono (by simp))).setCell (by simp) _).setCell (by simp) _).setCell (by simp) _⟩
set_option maxHeartbeats 1000000 in
theorem next_sig_b (s : ByteArray) (w : World) (henv : Env w) (hs : s.size ≤ 32768) (h0 : 0 < s.size) (hl : isLet s[0] = false) (hd : isDig s[0] = false) (hq : ((s[0].toNat : Int) == 39) = false) (hv : firstOf signsL s.data.toList = none) (hst : tokSt s[0] (s.data.toList.drop 1) = .bad 2) :
    Calls Tryz.prog 24 #[.string s] w (NextPost (tokSt s[0] (s.data.toList.drop 1)) w) := by
  have HS := Lib.hid hst; clear hst
  have hsz : s.size ≤ maxLen := by unfold maxLen; omega
  have HE := Lib.hid (henv.below ((Below.refl _ _).alloc (Nat.le_refl _) (.cells #[.int .i64 0, .int .i64 0, .int .i64 0] 63)) henv.sz)
  clear henv
  have HV := Lib.hid hv; clear hv
  go_enter Tryz.func24, Tryz.ntmps24
  go_wp2_with (first | ((with_reducible refine (letter_any _ _).mono ?_); rintro e w' ⟨rfl, rfl⟩) | ((with_reducible refine (digit_any _ _).mono ?_); rintro e w' ⟨rfl, rfl⟩) | ((with_reducible refine (sign_noA _ _ HE.out HV.out).mono ?_); rintro e w1 ⟨rfl, hb⟩; have hh := p3_heap hb; have hc0 := (cell_of_row w1 _ 0 _ _ _ hh); have hc1 := (cell_of_row w1 _ 1 _ _ _ hh); have hc2 := (cell_of_row w1 _ 2 _ _ _ hh); have hf0 := free_of_row w1 _ 0 _ _ hh; have hf1 := free_of_row w1 _ 1 _ _ hh; have hf2 := free_of_row w1 _ 2 _ _ hh; clear hh; simp at hc0 hc1 hc2))
  exact bodyPost_ret (v := .tuple #[.agg #[.int .i64 0, .int .i64 0, .int .i64 0], .int .i64 2]) (by simp [results, Tryz.results24, go_sem, hc0, hc1, hc2]) rfl ⟨ret_eq (by rw [nextV_bad HS.out]; try rfl), (((((Below.refl _ _).alloc (Nat.le_refl _) _).trans (hb.mono (by simp))).setCell (by simp) _).setCell (by simp) _).setCell (by simp) _⟩
theorem next_any (s : ByteArray) (w : World) (henv : Env w) (hs : s.size ≤ 32768) (h0 : 0 < s.size) :
    Calls Tryz.prog 24 #[.string s] w (NextPost (tokSt s[0] (s.data.toList.drop 1)) w) := by
  have hh := head_eq s h0
  cases hl : isLet s[0] with
  | true => exact next_name s w henv hs h0 hl _ _ rfl rfl (by unfold tokSt; rw [hl, if_pos rfl, ← hh])
  | false =>
    cases hd : isDig s[0] with
    | true =>
      cases hv : value (lets s.data.toList) with
      | some v => exact next_num_y s w henv hs h0 hl hd v _ hv rfl (by unfold tokSt; rw [hl, hd, if_neg (by simp), if_pos rfl, ← hh, hv])
      | none => exact next_num_b s w henv hs h0 hl hd hv (by unfold tokSt; rw [hl, hd, if_neg (by simp), if_pos rfl, ← hh, hv])
    | false =>
      by_cases hq : s[0] = 39
      · have hq' : ((s[0].toNat : Int) == 39) = true := beq_t (n := 39) (by rw [hq]; rfl)
        cases hv : Sp.quoted (s.data.toList.drop 1) with
        | some p => exact next_quo_y s w henv hs h0 hl hd hq' p.1 p.2 hv (by unfold tokSt; rw [hl, hd, if_neg (by simp), if_neg (by simp), if_pos hq, hv])
        | none => exact next_quo_b s w henv hs h0 hl hd hq' hv (by unfold tokSt; rw [hl, hd, if_neg (by simp), if_neg (by simp), if_pos hq, hv])
      · have hq' : ((s[0].toNat : Int) == 39) = false := beq_f (n := 39) (fun e => hq (UInt8.toNat_inj.1 e))
        cases hv : firstOf signsL s.data.toList with
        | some p => exact next_sig_y s w henv hs h0 hl hd hq' p _ hv rfl (by unfold tokSt; rw [hl, hd, if_neg (by simp), if_neg (by simp), if_neg hq, ← hh, hv])
        | none => exact next_sig_b s w henv hs h0 hl hd hq' hv (by unfold tokSt; rw [hl, hd, if_neg (by simp), if_neg (by simp), if_neg hq, ← hh, hv])
end Go.Proofs.YtaamllikceaifaaGreatDoor
