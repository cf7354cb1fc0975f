/-
  The contract of lex's number: of base 16, and of base 10.
-/
import Derived.Test.YtaamllikceaifaaGreatDoorNumberA
namespace Go.Proofs.YtaamllikceaifaaGreatDoor
open Go.RowKit Sp
set_option linter.unusedVariables false

set_option maxHeartbeats 2000000 in
theorem number_Xuy (s : ByteArray) (n : Nat) (w : World) (henv : Env w) (hs : s.size ≤ 32768) (hn : (lets s.data.toList).length = n) (hns : n ≤ s.size) (d e g : ByteArray) (hd : s.extract 0 n = d) (hA : [48, 120].isPrefixOf d.data.toList = false) (hA2 : [48, 88].isPrefixOf d.data.toList = true) (h2 : 2 ≤ d.size) (he : d.extract 2 d.size = e) (he2 : e.size ≤ 32768) (hB : [117].isSuffixOf e.data.toList = true) (h1 : 1 ≤ e.size) (hg : e.extract 0 (e.size - 1) = g) (hg2 : g.size ≤ 32768) (v : Nat) (hv1 : v ≤ 4294967295) (hv0 : val 16 g.data.toList = some v) (hval : value (lets s.data.toList) = some v) :
    Calls Tryz.prog 45 #[.string s] w (NumPost s.data.toList w) := by
  have HVAL := Lib.hid hval; clear hval
  have HN := Lib.hid hn; clear hn
  have hsz : s.size ≤ maxLen := by unfold maxLen; omega
  obtain ⟨ev, hv, hev⟩ := (henv.below ((Below.refl _ _).alloc (Nat.le_refl _) (.cells #[.int .i64 0, .int .i64 0, .int .i64 0] 63)) henv.sz).syn
  obtain ⟨ev', hv', hev'⟩ := (henv.below ((Below.refl _ _).alloc (Nat.le_refl _) (.cells #[.int .i64 0, .int .i64 0, .int .i64 0] 63)) henv.sz).rng
  have HV := Lib.hid hv; have HE := Lib.hid hev; have HV' := Lib.hid hv'; have HE' := Lib.hid hev'
  clear hv hev hv' hev' henv
  have HA := Lib.hid hA; clear hA
  have HA2 := Lib.hid hA2; clear hA2
  have HB := Lib.hid hB; clear hB
  have HG := Lib.hid hv0; clear hv0
  go_enter Tryz.func45, Tryz.ntmps45
  go_wp2_with (first | ((with_reducible refine (letters_n _ _ _ hsz HN.out).mono ?_); rintro e w' ⟨rfl, rfl⟩) | ((with_reducible refine (prefix_any _ ⟨#[48, 120]⟩ false _ HA.out).mono ?_); rintro e w' ⟨rfl, rfl⟩) | ((with_reducible refine (prefix_any _ ⟨#[48, 88]⟩ true _ HA2.out).mono ?_); rintro e w' ⟨rfl, rfl⟩) | ((with_reducible refine (suffix_any _ ⟨#[117]⟩ true _ (by unfold maxLen; omega) HB.out).mono ?_); rintro e w' ⟨rfl, rfl⟩) | ((with_reducible refine (uint16_ok _ v _ (by omega) HG.out).mono ?_); rintro e w1 ⟨rfl, hb⟩; have hh := p3_heap hb; have hc0 := (cell_of_row w1 _ 0 _ _ _ hh); have hc1 := (cell_of_row w1 _ 1 _ _ _ hh); have hc2 := (cell_of_row w1 _ 2 _ _ _ hh); have hf0 := free_of_row w1 _ 0 _ _ hh; have hf1 := free_of_row w1 _ 1 _ _ hh; have hf2 := free_of_row w1 _ 2 _ _ hh; clear hh; simp at hc0 hc1 hc2))
  exact bodyPost_ret (v := .tuple #[.agg #[.int .i64 3, .int .i64 n, .int .i64 v], .int .i64 0]) (by simp [results, Tryz.results45, go_sem, hc0, hc1, hc2]) rfl ⟨ret_eq (by rw [numV_some HVAL.out, HN.out]; rfl), (((((Below.refl _ _).alloc (Nat.le_refl _) _).trans (hb.mono (by simp))).setCell (by simp) _).setCell (by simp) _).setCell (by simp) _⟩
set_option maxHeartbeats 2000000 in
theorem number_Xub (s : ByteArray) (n : Nat) (w : World) (henv : Env w) (hs : s.size ≤ 32768) (hn : (lets s.data.toList).length = n) (hns : n ≤ s.size) (d e g : ByteArray) (hd : s.extract 0 n = d) (hA : [48, 120].isPrefixOf d.data.toList = false) (hA2 : [48, 88].isPrefixOf d.data.toList = true) (h2 : 2 ≤ d.size) (he : d.extract 2 d.size = e) (he2 : e.size ≤ 32768) (hB : [117].isSuffixOf e.data.toList = true) (h1 : 1 ≤ e.size) (hg : e.extract 0 (e.size - 1) = g) (hg2 : g.size ≤ 32768) (hv0 : val 16 g.data.toList = none) (hval : value (lets s.data.toList) = none) :
    Calls Tryz.prog 45 #[.string s] w (NumPost s.data.toList w) := by
  have HVAL := Lib.hid hval; clear hval
  have HN := Lib.hid hn; clear hn
  have hsz : s.size ≤ maxLen := by unfold maxLen; omega
  obtain ⟨ev, hv, hev⟩ := (henv.below ((Below.refl _ _).alloc (Nat.le_refl _) (.cells #[.int .i64 0, .int .i64 0, .int .i64 0] 63)) henv.sz).syn
  obtain ⟨ev', hv', hev'⟩ := (henv.below ((Below.refl _ _).alloc (Nat.le_refl _) (.cells #[.int .i64 0, .int .i64 0, .int .i64 0] 63)) henv.sz).rng
  have HV := Lib.hid hv; have HE := Lib.hid hev; have HV' := Lib.hid hv'; have HE' := Lib.hid hev'
  clear hv hev hv' hev' henv
  have HA := Lib.hid hA; clear hA
  have HA2 := Lib.hid hA2; clear hA2
  have HB := Lib.hid hB; clear hB
  have HG := Lib.hid hv0; clear hv0
  go_enter Tryz.func45, Tryz.ntmps45
  go_wp2_with (first | ((with_reducible refine (letters_n _ _ _ hsz HN.out).mono ?_); rintro e w' ⟨rfl, rfl⟩) | ((with_reducible refine (prefix_any _ ⟨#[48, 120]⟩ false _ HA.out).mono ?_); rintro e w' ⟨rfl, rfl⟩) | ((with_reducible refine (prefix_any _ ⟨#[48, 88]⟩ true _ HA2.out).mono ?_); rintro e w' ⟨rfl, rfl⟩) | ((with_reducible refine (suffix_any _ ⟨#[117]⟩ true _ (by unfold maxLen; omega) HB.out).mono ?_); rintro e w' ⟨rfl, rfl⟩) | ((with_reducible refine (uint16_bad _ _ (by omega) ev ev' HV.out HE.out HV'.out HE'.out HG.out).mono ?_); rintro e w1 ⟨xv, tp, pv, rfl, hb⟩; have hh := p3_heap hb; have hc0 := (cell_of_row w1 _ 0 _ _ _ hh); have hc1 := (cell_of_row w1 _ 1 _ _ _ hh); have hc2 := (cell_of_row w1 _ 2 _ _ _ hh); have hf0 := free_of_row w1 _ 0 _ _ hh; have hf1 := free_of_row w1 _ 1 _ _ hh; have hf2 := free_of_row w1 _ 2 _ _ hh; clear hh; simp at hc0 hc1 hc2))
  exact bodyPost_ret (v := .tuple #[.agg #[.int .i64 0, .int .i64 0, .int .i64 0], .int .i64 3]) (by simp [results, Tryz.results45, go_sem, hc0, hc1, hc2]) rfl ⟨ret_eq (by rw [numV_none HVAL.out]; rfl), (((((Below.refl _ _).alloc (Nat.le_refl _) _).trans (hb.mono (by simp))).setCell (by simp) _).setCell (by simp) _).setCell (by simp) _⟩
set_option maxHeartbeats 2000000 in
theorem number_XUy (s : ByteArray) (n : Nat) (w : World) (henv : Env w) (hs : s.size ≤ 32768) (hn : (lets s.data.toList).length = n) (hns : n ≤ s.size) (d e g : ByteArray) (hd : s.extract 0 n = d) (hA : [48, 120].isPrefixOf d.data.toList = false) (hA2 : [48, 88].isPrefixOf d.data.toList = true) (h2 : 2 ≤ d.size) (he : d.extract 2 d.size = e) (he2 : e.size ≤ 32768) (hB : [117].isSuffixOf e.data.toList = false) (hB2 : [85].isSuffixOf e.data.toList = true) (h1 : 1 ≤ e.size) (hg : e.extract 0 (e.size - 1) = g) (hg2 : g.size ≤ 32768) (v : Nat) (hv1 : v ≤ 4294967295) (hv0 : val 16 g.data.toList = some v) (hval : value (lets s.data.toList) = some v) :
    Calls Tryz.prog 45 #[.string s] w (NumPost s.data.toList w) := by
  have HVAL := Lib.hid hval; clear hval
  have HN := Lib.hid hn; clear hn
  have hsz : s.size ≤ maxLen := by unfold maxLen; omega
  obtain ⟨ev, hv, hev⟩ := (henv.below ((Below.refl _ _).alloc (Nat.le_refl _) (.cells #[.int .i64 0, .int .i64 0, .int .i64 0] 63)) henv.sz).syn
  obtain ⟨ev', hv', hev'⟩ := (henv.below ((Below.refl _ _).alloc (Nat.le_refl _) (.cells #[.int .i64 0, .int .i64 0, .int .i64 0] 63)) henv.sz).rng
  have HV := Lib.hid hv; have HE := Lib.hid hev; have HV' := Lib.hid hv'; have HE' := Lib.hid hev'
  clear hv hev hv' hev' henv
  have HA := Lib.hid hA; clear hA
  have HA2 := Lib.hid hA2; clear hA2
  have HB := Lib.hid hB; clear hB
  have HB2 := Lib.hid hB2; clear hB2
  have HG := Lib.hid hv0; clear hv0
  go_enter Tryz.func45, Tryz.ntmps45
  go_wp2_with (first | ((with_reducible refine (letters_n _ _ _ hsz HN.out).mono ?_); rintro e w' ⟨rfl, rfl⟩) | ((with_reducible refine (prefix_any _ ⟨#[48, 120]⟩ false _ HA.out).mono ?_); rintro e w' ⟨rfl, rfl⟩) | ((with_reducible refine (prefix_any _ ⟨#[48, 88]⟩ true _ HA2.out).mono ?_); rintro e w' ⟨rfl, rfl⟩) | ((with_reducible refine (suffix_any _ ⟨#[117]⟩ false _ (by unfold maxLen; omega) HB.out).mono ?_); rintro e w' ⟨rfl, rfl⟩) | ((with_reducible refine (suffix_any _ ⟨#[85]⟩ true _ (by unfold maxLen; omega) HB2.out).mono ?_); rintro e w' ⟨rfl, rfl⟩) | ((with_reducible refine (uint16_ok _ v _ (by omega) HG.out).mono ?_); rintro e w1 ⟨rfl, hb⟩; have hh := p3_heap hb; have hc0 := (cell_of_row w1 _ 0 _ _ _ hh); have hc1 := (cell_of_row w1 _ 1 _ _ _ hh); have hc2 := (cell_of_row w1 _ 2 _ _ _ hh); have hf0 := free_of_row w1 _ 0 _ _ hh; have hf1 := free_of_row w1 _ 1 _ _ hh; have hf2 := free_of_row w1 _ 2 _ _ hh; clear hh; simp at hc0 hc1 hc2))
  exact bodyPost_ret (v := .tuple #[.agg #[.int .i64 3, .int .i64 n, .int .i64 v], .int .i64 0]) (by simp [results, Tryz.results45, go_sem, hc0, hc1, hc2]) rfl ⟨ret_eq (by rw [numV_some HVAL.out, HN.out]; rfl), (((((Below.refl _ _).alloc (Nat.le_refl _) _).trans (hb.mono (by simp))).setCell (by simp) _).setCell (by simp) _).setCell (by simp) _⟩
set_option maxHeartbeats 2000000 in
theorem number_XUb (s : ByteArray) (n : Nat) (w : World) (henv : Env w) (hs : s.size ≤ 32768) (hn : (lets s.data.toList).length = n) (hns : n ≤ s.size) (d e g : ByteArray) (hd : s.extract 0 n = d) (hA : [48, 120].isPrefixOf d.data.toList = false) (hA2 : [48, 88].isPrefixOf d.data.toList = true) (h2 : 2 ≤ d.size) (he : d.extract 2 d.size = e) (he2 : e.size ≤ 32768) (hB : [117].isSuffixOf e.data.toList = false) (hB2 : [85].isSuffixOf e.data.toList = true) (h1 : 1 ≤ e.size) (hg : e.extract 0 (e.size - 1) = g) (hg2 : g.size ≤ 32768) (hv0 : val 16 g.data.toList = none) (hval : value (lets s.data.toList) = none) :
    Calls Tryz.prog 45 #[.string s] w (NumPost s.data.toList w) := by
  have HVAL := Lib.hid hval; clear hval
  have HN := Lib.hid hn; clear hn
  have hsz : s.size ≤ maxLen := by unfold maxLen; omega
  obtain ⟨ev, hv, hev⟩ := (henv.below ((Below.refl _ _).alloc (Nat.le_refl _) (.cells #[.int .i64 0, .int .i64 0, .int .i64 0] 63)) henv.sz).syn
  obtain ⟨ev', hv', hev'⟩ := (henv.below ((Below.refl _ _).alloc (Nat.le_refl _) (.cells #[.int .i64 0, .int .i64 0, .int .i64 0] 63)) henv.sz).rng
  have HV := Lib.hid hv; have HE := Lib.hid hev; have HV' := Lib.hid hv'; have HE' := Lib.hid hev'
  clear hv hev hv' hev' henv
  have HA := Lib.hid hA; clear hA
  have HA2 := Lib.hid hA2; clear hA2
  have HB := Lib.hid hB; clear hB
  have HB2 := Lib.hid hB2; clear hB2
  have HG := Lib.hid hv0; clear hv0
  go_enter Tryz.func45, Tryz.ntmps45
  go_wp2_with (first | ((with_reducible refine (letters_n _ _ _ hsz HN.out).mono ?_); rintro e w' ⟨rfl, rfl⟩) | ((with_reducible refine (prefix_any _ ⟨#[48, 120]⟩ false _ HA.out).mono ?_); rintro e w' ⟨rfl, rfl⟩) | ((with_reducible refine (prefix_any _ ⟨#[48, 88]⟩ true _ HA2.out).mono ?_); rintro e w' ⟨rfl, rfl⟩) | ((with_reducible refine (suffix_any _ ⟨#[117]⟩ false _ (by unfold maxLen; omega) HB.out).mono ?_); rintro e w' ⟨rfl, rfl⟩) | ((with_reducible refine (suffix_any _ ⟨#[85]⟩ true _ (by unfold maxLen; omega) HB2.out).mono ?_); rintro e w' ⟨rfl, rfl⟩) | ((with_reducible refine (uint16_bad _ _ (by omega) ev ev' HV.out HE.out HV'.out HE'.out HG.out).mono ?_); rintro e w1 ⟨xv, tp, pv, rfl, hb⟩; have hh := p3_heap hb; have hc0 := (cell_of_row w1 _ 0 _ _ _ hh); have hc1 := (cell_of_row w1 _ 1 _ _ _ hh); have hc2 := (cell_of_row w1 _ 2 _ _ _ hh); have hf0 := free_of_row w1 _ 0 _ _ hh; have hf1 := free_of_row w1 _ 1 _ _ hh; have hf2 := free_of_row w1 _ 2 _ _ hh; clear hh; simp at hc0 hc1 hc2))
  exact bodyPost_ret (v := .tuple #[.agg #[.int .i64 0, .int .i64 0, .int .i64 0], .int .i64 3]) (by simp [results, Tryz.results45, go_sem, hc0, hc1, hc2]) rfl ⟨ret_eq (by rw [numV_none HVAL.out]; rfl), (((((Below.refl _ _).alloc (Nat.le_refl _) _).trans (hb.mono (by simp))).setCell (by simp) _).setCell (by simp) _).setCell (by simp) _⟩
set_option maxHeartbeats 2000000 in
theorem number_Xny (s : ByteArray) (n : Nat) (w : World) (henv : Env w) (hs : s.size ≤ 32768) (hn : (lets s.data.toList).length = n) (hns : n ≤ s.size) (d e g : ByteArray) (hd : s.extract 0 n = d) (hA : [48, 120].isPrefixOf d.data.toList = false) (hA2 : [48, 88].isPrefixOf d.data.toList = true) (h2 : 2 ≤ d.size) (he : d.extract 2 d.size = e) (he2 : e.size ≤ 32768) (hB : [117].isSuffixOf e.data.toList = false) (hB2 : [85].isSuffixOf e.data.toList = false) (v : Nat) (hv1 : v ≤ 4294967295) (hv0 : val 16 e.data.toList = some v) (hval : value (lets s.data.toList) = some v) :
    Calls Tryz.prog 45 #[.string s] w (NumPost s.data.toList w) := by
  have HVAL := Lib.hid hval; clear hval
  have HN := Lib.hid hn; clear hn
  have hsz : s.size ≤ maxLen := by unfold maxLen; omega
  obtain ⟨ev, hv, hev⟩ := (henv.below ((Below.refl _ _).alloc (Nat.le_refl _) (.cells #[.int .i64 0, .int .i64 0, .int .i64 0] 63)) henv.sz).syn
  obtain ⟨ev', hv', hev'⟩ := (henv.below ((Below.refl _ _).alloc (Nat.le_refl _) (.cells #[.int .i64 0, .int .i64 0, .int .i64 0] 63)) henv.sz).rng
  have HV := Lib.hid hv; have HE := Lib.hid hev; have HV' := Lib.hid hv'; have HE' := Lib.hid hev'
  clear hv hev hv' hev' henv
  have HA := Lib.hid hA; clear hA
  have HA2 := Lib.hid hA2; clear hA2
  have HB := Lib.hid hB; clear hB
  have HB2 := Lib.hid hB2; clear hB2
  have HG := Lib.hid hv0; clear hv0
  go_enter Tryz.func45, Tryz.ntmps45
  go_wp2_with (first | ((with_reducible refine (letters_n _ _ _ hsz HN.out).mono ?_); rintro e w' ⟨rfl, rfl⟩) | ((with_reducible refine (prefix_any _ ⟨#[48, 120]⟩ false _ HA.out).mono ?_); rintro e w' ⟨rfl, rfl⟩) | ((with_reducible refine (prefix_any _ ⟨#[48, 88]⟩ true _ HA2.out).mono ?_); rintro e w' ⟨rfl, rfl⟩) | ((with_reducible refine (suffix_any _ ⟨#[117]⟩ false _ (by unfold maxLen; omega) HB.out).mono ?_); rintro e w' ⟨rfl, rfl⟩) | ((with_reducible refine (suffix_any _ ⟨#[85]⟩ false _ (by unfold maxLen; omega) HB2.out).mono ?_); rintro e w' ⟨rfl, rfl⟩) | ((with_reducible refine (uint16_ok _ v _ (by omega) HG.out).mono ?_); rintro e w1 ⟨rfl, hb⟩; have hh := p3_heap hb; have hc0 := (cell_of_row w1 _ 0 _ _ _ hh); have hc1 := (cell_of_row w1 _ 1 _ _ _ hh); have hc2 := (cell_of_row w1 _ 2 _ _ _ hh); have hf0 := free_of_row w1 _ 0 _ _ hh; have hf1 := free_of_row w1 _ 1 _ _ hh; have hf2 := free_of_row w1 _ 2 _ _ hh; clear hh; simp at hc0 hc1 hc2))
  exact bodyPost_ret (v := .tuple #[.agg #[.int .i64 3, .int .i64 n, .int .i64 v], .int .i64 0]) (by simp [results, Tryz.results45, go_sem, hc0, hc1, hc2]) rfl ⟨ret_eq (by rw [numV_some HVAL.out, HN.out]; rfl), (((((Below.refl _ _).alloc (Nat.le_refl _) _).trans (hb.mono (by simp))).setCell (by simp) _).setCell (by simp) _).setCell (by simp) _⟩
set_option maxHeartbeats 2000000 in
theorem number_Xnb (s : ByteArray) (n : Nat) (w : World) (henv : Env w) (hs : s.size ≤ 32768) (hn : (lets s.data.toList).length = n) (hns : n ≤ s.size) (d e g : ByteArray) (hd : s.extract 0 n = d) (hA : [48, 120].isPrefixOf d.data.toList = false) (hA2 : [48, 88].isPrefixOf d.data.toList = true) (h2 : 2 ≤ d.size) (he : d.extract 2 d.size = e) (he2 : e.size ≤ 32768) (hB : [117].isSuffixOf e.data.toList = false) (hB2 : [85].isSuffixOf e.data.toList = false) (hv0 : val 16 e.data.toList = none) (hval : value (lets s.data.toList) = none) :
    Calls Tryz.prog 45 #[.string s] w (NumPost s.data.toList w) := by
  have HVAL := Lib.hid hval; clear hval
  have HN := Lib.hid hn; clear hn
  have hsz : s.size ≤ maxLen := by unfold maxLen; omega
  obtain ⟨ev, hv, hev⟩ := (henv.below ((Below.refl _ _).alloc (Nat.le_refl _) (.cells #[.int .i64 0, .int .i64 0, .int .i64 0] 63)) henv.sz).syn
  obtain ⟨ev', hv', hev'⟩ := (henv.below ((Below.refl _ _).alloc (Nat.le_refl _) (.cells #[.int .i64 0, .int .i64 0, .int .i64 0] 63)) henv.sz).rng
  have HV := Lib.hid hv; have HE := Lib.hid hev; have HV' := Lib.hid hv'; have HE' := Lib.hid hev'
  clear hv hev hv' hev' henv
  have HA := Lib.hid hA; clear hA
  have HA2 := Lib.hid hA2; clear hA2
  have HB := Lib.hid hB; clear hB
  have HB2 := Lib.hid hB2; clear hB2
  have HG := Lib.hid hv0; clear hv0
  go_enter Tryz.func45, Tryz.ntmps45
  go_wp2_with (first | ((with_reducible refine (letters_n _ _ _ hsz HN.out).mono ?_); rintro e w' ⟨rfl, rfl⟩) | ((with_reducible refine (prefix_any _ ⟨#[48, 120]⟩ false _ HA.out).mono ?_); rintro e w' ⟨rfl, rfl⟩) | ((with_reducible refine (prefix_any _ ⟨#[48, 88]⟩ true _ HA2.out).mono ?_); rintro e w' ⟨rfl, rfl⟩) | ((with_reducible refine (suffix_any _ ⟨#[117]⟩ false _ (by unfold maxLen; omega) HB.out).mono ?_); rintro e w' ⟨rfl, rfl⟩) | ((with_reducible refine (suffix_any _ ⟨#[85]⟩ false _ (by unfold maxLen; omega) HB2.out).mono ?_); rintro e w' ⟨rfl, rfl⟩) | ((with_reducible refine (uint16_bad _ _ (by omega) ev ev' HV.out HE.out HV'.out HE'.out HG.out).mono ?_); rintro e w1 ⟨xv, tp, pv, rfl, hb⟩; have hh := p3_heap hb; have hc0 := (cell_of_row w1 _ 0 _ _ _ hh); have hc1 := (cell_of_row w1 _ 1 _ _ _ hh); have hc2 := (cell_of_row w1 _ 2 _ _ _ hh); have hf0 := free_of_row w1 _ 0 _ _ hh; have hf1 := free_of_row w1 _ 1 _ _ hh; have hf2 := free_of_row w1 _ 2 _ _ hh; clear hh; simp at hc0 hc1 hc2))
  exact bodyPost_ret (v := .tuple #[.agg #[.int .i64 0, .int .i64 0, .int .i64 0], .int .i64 3]) (by simp [results, Tryz.results45, go_sem, hc0, hc1, hc2]) rfl ⟨ret_eq (by rw [numV_none HVAL.out]; rfl), (((((Below.refl _ _).alloc (Nat.le_refl _) _).trans (hb.mono (by simp))).setCell (by simp) _).setCell (by simp) _).setCell (by simp) _⟩
set_option maxHeartbeats 2000000 in
theorem number_nuy (s : ByteArray) (n : Nat) (w : World) (henv : Env w) (hs : s.size ≤ 32768) (hn : (lets s.data.toList).length = n) (hns : n ≤ s.size) (d e g : ByteArray) (hd : s.extract 0 n = d) (hA : [48, 120].isPrefixOf d.data.toList = false) (hA2 : [48, 88].isPrefixOf d.data.toList = false) (he2 : d.size ≤ 32768) (hB : [117].isSuffixOf d.data.toList = true) (h1 : 1 ≤ d.size) (hg : d.extract 0 (d.size - 1) = g) (hg2 : g.size ≤ 32768) (v : Nat) (hv1 : v ≤ 4294967295) (hv0 : val 10 g.data.toList = some v) (hval : value (lets s.data.toList) = some v) :
    Calls Tryz.prog 45 #[.string s] w (NumPost s.data.toList w) := by
  have HVAL := Lib.hid hval; clear hval
  have HN := Lib.hid hn; clear hn
  have hsz : s.size ≤ maxLen := by unfold maxLen; omega
  obtain ⟨ev, hv, hev⟩ := (henv.below ((Below.refl _ _).alloc (Nat.le_refl _) (.cells #[.int .i64 0, .int .i64 0, .int .i64 0] 63)) henv.sz).syn
  obtain ⟨ev', hv', hev'⟩ := (henv.below ((Below.refl _ _).alloc (Nat.le_refl _) (.cells #[.int .i64 0, .int .i64 0, .int .i64 0] 63)) henv.sz).rng
  have HV := Lib.hid hv; have HE := Lib.hid hev; have HV' := Lib.hid hv'; have HE' := Lib.hid hev'
  clear hv hev hv' hev' henv
  have HA := Lib.hid hA; clear hA
  have HA2 := Lib.hid hA2; clear hA2
  have HB := Lib.hid hB; clear hB
  have HG := Lib.hid hv0; clear hv0
  go_enter Tryz.func45, Tryz.ntmps45
  go_wp2_with (first | ((with_reducible refine (letters_n _ _ _ hsz HN.out).mono ?_); rintro e w' ⟨rfl, rfl⟩) | ((with_reducible refine (prefix_any _ ⟨#[48, 120]⟩ false _ HA.out).mono ?_); rintro e w' ⟨rfl, rfl⟩) | ((with_reducible refine (prefix_any _ ⟨#[48, 88]⟩ false _ HA2.out).mono ?_); rintro e w' ⟨rfl, rfl⟩) | ((with_reducible refine (suffix_any _ ⟨#[117]⟩ true _ (by unfold maxLen; omega) HB.out).mono ?_); rintro e w' ⟨rfl, rfl⟩) | ((with_reducible refine (uint10_ok _ v _ (by omega) HG.out).mono ?_); rintro e w1 ⟨rfl, hb⟩; have hh := p3_heap hb; have hc0 := (cell_of_row w1 _ 0 _ _ _ hh); have hc1 := (cell_of_row w1 _ 1 _ _ _ hh); have hc2 := (cell_of_row w1 _ 2 _ _ _ hh); have hf0 := free_of_row w1 _ 0 _ _ hh; have hf1 := free_of_row w1 _ 1 _ _ hh; have hf2 := free_of_row w1 _ 2 _ _ hh; clear hh; simp at hc0 hc1 hc2))
  exact bodyPost_ret (v := .tuple #[.agg #[.int .i64 3, .int .i64 n, .int .i64 v], .int .i64 0]) (by simp [results, Tryz.results45, go_sem, hc0, hc1, hc2]) rfl ⟨ret_eq (by rw [numV_some HVAL.out, HN.out]; rfl), (((((Below.refl _ _).alloc (Nat.le_refl _) _).trans (hb.mono (by simp))).setCell (by simp) _).setCell (by simp) _).setCell (by simp) _⟩
set_option maxHeartbeats 2000000 in
theorem number_nub (s : ByteArray) (n : Nat) (w : World) (henv : Env w) (hs : s.size ≤ 32768) (hn : (lets s.data.toList).length = n) (hns : n ≤ s.size) (d e g : ByteArray) (hd : s.extract 0 n = d) (hA : [48, 120].isPrefixOf d.data.toList = false) (hA2 : [48, 88].isPrefixOf d.data.toList = false) (he2 : d.size ≤ 32768) (hB : [117].isSuffixOf d.data.toList = true) (h1 : 1 ≤ d.size) (hg : d.extract 0 (d.size - 1) = g) (hg2 : g.size ≤ 32768) (hv0 : val 10 g.data.toList = none) (hval : value (lets s.data.toList) = none) :
    Calls Tryz.prog 45 #[.string s] w (NumPost s.data.toList w) := by
  have HVAL := Lib.hid hval; clear hval
  have HN := Lib.hid hn; clear hn
  have hsz : s.size ≤ maxLen := by unfold maxLen; omega
  obtain ⟨ev, hv, hev⟩ := (henv.below ((Below.refl _ _).alloc (Nat.le_refl _) (.cells #[.int .i64 0, .int .i64 0, .int .i64 0] 63)) henv.sz).syn
  obtain ⟨ev', hv', hev'⟩ := (henv.below ((Below.refl _ _).alloc (Nat.le_refl _) (.cells #[.int .i64 0, .int .i64 0, .int .i64 0] 63)) henv.sz).rng
  have HV := Lib.hid hv; have HE := Lib.hid hev; have HV' := Lib.hid hv'; have HE' := Lib.hid hev'
  clear hv hev hv' hev' henv
  have HA := Lib.hid hA; clear hA
  have HA2 := Lib.hid hA2; clear hA2
  have HB := Lib.hid hB; clear hB
  have HG := Lib.hid hv0; clear hv0
  go_enter Tryz.func45, Tryz.ntmps45
  go_wp2_with (first | ((with_reducible refine (letters_n _ _ _ hsz HN.out).mono ?_); rintro e w' ⟨rfl, rfl⟩) | ((with_reducible refine (prefix_any _ ⟨#[48, 120]⟩ false _ HA.out).mono ?_); rintro e w' ⟨rfl, rfl⟩) | ((with_reducible refine (prefix_any _ ⟨#[48, 88]⟩ false _ HA2.out).mono ?_); rintro e w' ⟨rfl, rfl⟩) | ((with_reducible refine (suffix_any _ ⟨#[117]⟩ true _ (by unfold maxLen; omega) HB.out).mono ?_); rintro e w' ⟨rfl, rfl⟩) | ((with_reducible refine (uint10_bad _ _ (by omega) ev ev' HV.out HE.out HV'.out HE'.out HG.out).mono ?_); rintro e w1 ⟨xv, tp, pv, rfl, hb⟩; have hh := p3_heap hb; have hc0 := (cell_of_row w1 _ 0 _ _ _ hh); have hc1 := (cell_of_row w1 _ 1 _ _ _ hh); have hc2 := (cell_of_row w1 _ 2 _ _ _ hh); have hf0 := free_of_row w1 _ 0 _ _ hh; have hf1 := free_of_row w1 _ 1 _ _ hh; have hf2 := free_of_row w1 _ 2 _ _ hh; clear hh; simp at hc0 hc1 hc2))
  exact bodyPost_ret (v := .tuple #[.agg #[.int .i64 0, .int .i64 0, .int .i64 0], .int .i64 3]) (by simp [results, Tryz.results45, go_sem, hc0, hc1, hc2]) rfl ⟨ret_eq (by rw [numV_none HVAL.out]; rfl), (((((Below.refl _ _).alloc (Nat.le_refl _) _).trans (hb.mono (by simp))).setCell (by simp) _).setCell (by simp) _).setCell (by simp) _⟩
set_option maxHeartbeats 2000000 in
theorem number_nUy (s : ByteArray) (n : Nat) (w : World) (henv : Env w) (hs : s.size ≤ 32768) (hn : (lets s.data.toList).length = n) (hns : n ≤ s.size) (d e g : ByteArray) (hd : s.extract 0 n = d) (hA : [48, 120].isPrefixOf d.data.toList = false) (hA2 : [48, 88].isPrefixOf d.data.toList = false) (he2 : d.size ≤ 32768) (hB : [117].isSuffixOf d.data.toList = false) (hB2 : [85].isSuffixOf d.data.toList = true) (h1 : 1 ≤ d.size) (hg : d.extract 0 (d.size - 1) = g) (hg2 : g.size ≤ 32768) (v : Nat) (hv1 : v ≤ 4294967295) (hv0 : val 10 g.data.toList = some v) (hval : value (lets s.data.toList) = some v) :
    Calls Tryz.prog 45 #[.string s] w (NumPost s.data.toList w) := by
  have HVAL := Lib.hid hval; clear hval
  have HN := Lib.hid hn; clear hn
  have hsz : s.size ≤ maxLen := by unfold maxLen; omega
  obtain ⟨ev, hv, hev⟩ := (henv.below ((Below.refl _ _).alloc (Nat.le_refl _) (.cells #[.int .i64 0, .int .i64 0, .int .i64 0] 63)) henv.sz).syn
  obtain ⟨ev', hv', hev'⟩ := (henv.below ((Below.refl _ _).alloc (Nat.le_refl _) (.cells #[.int .i64 0, .int .i64 0, .int .i64 0] 63)) henv.sz).rng
  have HV := Lib.hid hv; have HE := Lib.hid hev; have HV' := Lib.hid hv'; have HE' := Lib.hid hev'
  clear hv hev hv' hev' henv
  have HA := Lib.hid hA; clear hA
  have HA2 := Lib.hid hA2; clear hA2
  have HB := Lib.hid hB; clear hB
  have HB2 := Lib.hid hB2; clear hB2
  have HG := Lib.hid hv0; clear hv0
  go_enter Tryz.func45, Tryz.ntmps45
  go_wp2_with (first | ((with_reducible refine (letters_n _ _ _ hsz HN.out).mono ?_); rintro e w' ⟨rfl, rfl⟩) | ((with_reducible refine (prefix_any _ ⟨#[48, 120]⟩ false _ HA.out).mono ?_); rintro e w' ⟨rfl, rfl⟩) | ((with_reducible refine (prefix_any _ ⟨#[48, 88]⟩ false _ HA2.out).mono ?_); rintro e w' ⟨rfl, rfl⟩) | ((with_reducible refine (suffix_any _ ⟨#[117]⟩ false _ (by unfold maxLen; omega) HB.out).mono ?_); rintro e w' ⟨rfl, rfl⟩) | ((with_reducible refine (suffix_any _ ⟨#[85]⟩ true _ (by unfold maxLen; omega) HB2.out).mono ?_); rintro e w' ⟨rfl, rfl⟩) | ((with_reducible refine (uint10_ok _ v _ (by omega) HG.out).mono ?_); rintro e w1 ⟨rfl, hb⟩; have hh := p3_heap hb; have hc0 := (cell_of_row w1 _ 0 _ _ _ hh); have hc1 := (cell_of_row w1 _ 1 _ _ _ hh); have hc2 := (cell_of_row w1 _ 2 _ _ _ hh); have hf0 := free_of_row w1 _ 0 _ _ hh; have hf1 := free_of_row w1 _ 1 _ _ hh; have hf2 := free_of_row w1 _ 2 _ _ hh; clear hh; simp at hc0 hc1 hc2))
  exact bodyPost_ret (v := .tuple #[.agg #[.int .i64 3, .int .i64 n, .int .i64 v], .int .i64 0]) (by simp [results, Tryz.results45, go_sem, hc0, hc1, hc2]) rfl ⟨ret_eq (by rw [numV_some HVAL.out, HN.out]; rfl), (((((Below.refl _ _).alloc (Nat.le_refl _) _).trans (hb.mono (by simp))).setCell (by simp) _).setCell (by simp) _).setCell (by simp) _⟩
set_option maxHeartbeats 2000000 in
theorem number_nUb (s : ByteArray) (n : Nat) (w : World) (henv : Env w) (hs : s.size ≤ 32768) (hn : (lets s.data.toList).length = n) (hns : n ≤ s.size) (d e g : ByteArray) (hd : s.extract 0 n = d) (hA : [48, 120].isPrefixOf d.data.toList = false) (hA2 : [48, 88].isPrefixOf d.data.toList = false) (he2 : d.size ≤ 32768) (hB : [117].isSuffixOf d.data.toList = false) (hB2 : [85].isSuffixOf d.data.toList = true) (h1 : 1 ≤ d.size) (hg : d.extract 0 (d.size - 1) = g) (hg2 : g.size ≤ 32768) (hv0 : val 10 g.data.toList = none) (hval : value (lets s.data.toList) = none) :
    Calls Tryz.prog 45 #[.string s] w (NumPost s.data.toList w) := by
  have HVAL := Lib.hid hval; clear hval
  have HN := Lib.hid hn; clear hn
  have hsz : s.size ≤ maxLen := by unfold maxLen; omega
  obtain ⟨ev, hv, hev⟩ := (henv.below ((Below.refl _ _).alloc (Nat.le_refl _) (.cells #[.int .i64 0, .int .i64 0, .int .i64 0] 63)) henv.sz).syn
  obtain ⟨ev', hv', hev'⟩ := (henv.below ((Below.refl _ _).alloc (Nat.le_refl _) (.cells #[.int .i64 0, .int .i64 0, .int .i64 0] 63)) henv.sz).rng
  have HV := Lib.hid hv; have HE := Lib.hid hev; have HV' := Lib.hid hv'; have HE' := Lib.hid hev'
  clear hv hev hv' hev' henv
  have HA := Lib.hid hA; clear hA
  have HA2 := Lib.hid hA2; clear hA2
  have HB := Lib.hid hB; clear hB
  have HB2 := Lib.hid hB2; clear hB2
  have HG := Lib.hid hv0; clear hv0
  go_enter Tryz.func45, Tryz.ntmps45
  go_wp2_with (first | ((with_reducible refine (letters_n _ _ _ hsz HN.out).mono ?_); rintro e w' ⟨rfl, rfl⟩) | ((with_reducible refine (prefix_any _ ⟨#[48, 120]⟩ false _ HA.out).mono ?_); rintro e w' ⟨rfl, rfl⟩) | ((with_reducible refine (prefix_any _ ⟨#[48, 88]⟩ false _ HA2.out).mono ?_); rintro e w' ⟨rfl, rfl⟩) | ((with_reducible refine (suffix_any _ ⟨#[117]⟩ false _ (by unfold maxLen; omega) HB.out).mono ?_); rintro e w' ⟨rfl, rfl⟩) | ((with_reducible refine (suffix_any _ ⟨#[85]⟩ true _ (by unfold maxLen; omega) HB2.out).mono ?_); rintro e w' ⟨rfl, rfl⟩) | ((with_reducible refine (uint10_bad _ _ (by omega) ev ev' HV.out HE.out HV'.out HE'.out HG.out).mono ?_); rintro e w1 ⟨xv, tp, pv, rfl, hb⟩; have hh := p3_heap hb; have hc0 := (cell_of_row w1 _ 0 _ _ _ hh); have hc1 := (cell_of_row w1 _ 1 _ _ _ hh); have hc2 := (cell_of_row w1 _ 2 _ _ _ hh); have hf0 := free_of_row w1 _ 0 _ _ hh; have hf1 := free_of_row w1 _ 1 _ _ hh; have hf2 := free_of_row w1 _ 2 _ _ hh; clear hh; simp at hc0 hc1 hc2))
  exact bodyPost_ret (v := .tuple #[.agg #[.int .i64 0, .int .i64 0, .int .i64 0], .int .i64 3]) (by simp [results, Tryz.results45, go_sem, hc0, hc1, hc2]) rfl ⟨ret_eq (by rw [numV_none HVAL.out]; rfl), (((((Below.refl _ _).alloc (Nat.le_refl _) _).trans (hb.mono (by simp))).setCell (by simp) _).setCell (by simp) _).setCell (by simp) _⟩
set_option maxHeartbeats 2000000 in
theorem number_nny (s : ByteArray) (n : Nat) (w : World) (henv : Env w) (hs : s.size ≤ 32768) (hn : (lets s.data.toList).length = n) (hns : n ≤ s.size) (d e g : ByteArray) (hd : s.extract 0 n = d) (hA : [48, 120].isPrefixOf d.data.toList = false) (hA2 : [48, 88].isPrefixOf d.data.toList = false) (he2 : d.size ≤ 32768) (hB : [117].isSuffixOf d.data.toList = false) (hB2 : [85].isSuffixOf d.data.toList = false) (v : Nat) (hv1 : v ≤ 4294967295) (hv0 : val 10 d.data.toList = some v) (hval : value (lets s.data.toList) = some v) :
    Calls Tryz.prog 45 #[.string s] w (NumPost s.data.toList w) := by
  have HVAL := Lib.hid hval; clear hval
  have HN := Lib.hid hn; clear hn
  have hsz : s.size ≤ maxLen := by unfold maxLen; omega
  obtain ⟨ev, hv, hev⟩ := (henv.below ((Below.refl _ _).alloc (Nat.le_refl _) (.cells #[.int .i64 0, .int .i64 0, .int .i64 0] 63)) henv.sz).syn
  obtain ⟨ev', hv', hev'⟩ := (henv.below ((Below.refl _ _).alloc (Nat.le_refl _) (.cells #[.int .i64 0, .int .i64 0, .int .i64 0] 63)) henv.sz).rng
  have HV := Lib.hid hv; have HE := Lib.hid hev; have HV' := Lib.hid hv'; have HE' := Lib.hid hev'
  clear hv hev hv' hev' henv
  have HA := Lib.hid hA; clear hA
  have HA2 := Lib.hid hA2; clear hA2
  have HB := Lib.hid hB; clear hB
  have HB2 := Lib.hid hB2; clear hB2
  have HG := Lib.hid hv0; clear hv0
  go_enter Tryz.func45, Tryz.ntmps45
  go_wp2_with (first | ((with_reducible refine (letters_n _ _ _ hsz HN.out).mono ?_); rintro e w' ⟨rfl, rfl⟩) | ((with_reducible refine (prefix_any _ ⟨#[48, 120]⟩ false _ HA.out).mono ?_); rintro e w' ⟨rfl, rfl⟩) | ((with_reducible refine (prefix_any _ ⟨#[48, 88]⟩ false _ HA2.out).mono ?_); rintro e w' ⟨rfl, rfl⟩) | ((with_reducible refine (suffix_any _ ⟨#[117]⟩ false _ (by unfold maxLen; omega) HB.out).mono ?_); rintro e w' ⟨rfl, rfl⟩) | ((with_reducible refine (suffix_any _ ⟨#[85]⟩ false _ (by unfold maxLen; omega) HB2.out).mono ?_); rintro e w' ⟨rfl, rfl⟩) | ((with_reducible refine (uint10_ok _ v _ (by omega) HG.out).mono ?_); rintro e w1 ⟨rfl, hb⟩; have hh := p3_heap hb; have hc0 := (cell_of_row w1 _ 0 _ _ _ hh); have hc1 := (cell_of_row w1 _ 1 _ _ _ hh); have hc2 := (cell_of_row w1 _ 2 _ _ _ hh); have hf0 := free_of_row w1 _ 0 _ _ hh; have hf1 := free_of_row w1 _ 1 _ _ hh; have hf2 := free_of_row w1 _ 2 _ _ hh; clear hh; simp at hc0 hc1 hc2))
  exact bodyPost_ret (v := .tuple #[.agg #[.int .i64 3, .int .i64 n, .int .i64 v], .int .i64 0]) (by simp [results, Tryz.results45, go_sem, hc0, hc1, hc2]) rfl ⟨ret_eq (by rw [numV_some HVAL.out, HN.out]; rfl), (((((Below.refl _ _).alloc (Nat.le_refl _) _).trans (hb.mono (by simp))).setCell (by simp) _).setCell (by simp) _).setCell (by simp) _⟩
set_option maxHeartbeats 2000000 in
theorem number_nnb (s : ByteArray) (n : Nat) (w : World) (henv : Env w) (hs : s.size ≤ 32768) (hn : (lets s.data.toList).length = n) (hns : n ≤ s.size) (d e g : ByteArray) (hd : s.extract 0 n = d) (hA : [48, 120].isPrefixOf d.data.toList = false) (hA2 : [48, 88].isPrefixOf d.data.toList = false) (he2 : d.size ≤ 32768) (hB : [117].isSuffixOf d.data.toList = false) (hB2 : [85].isSuffixOf d.data.toList = false) (hv0 : val 10 d.data.toList = none) (hval : value (lets s.data.toList) = none) :
    Calls Tryz.prog 45 #[.string s] w (NumPost s.data.toList w) := by
  have HVAL := Lib.hid hval; clear hval
  have HN := Lib.hid hn; clear hn
  have hsz : s.size ≤ maxLen := by unfold maxLen; omega
  obtain ⟨ev, hv, hev⟩ := (henv.below ((Below.refl _ _).alloc (Nat.le_refl _) (.cells #[.int .i64 0, .int .i64 0, .int .i64 0] 63)) henv.sz).syn
  obtain ⟨ev', hv', hev'⟩ := (henv.below ((Below.refl _ _).alloc (Nat.le_refl _) (.cells #[.int .i64 0, .int .i64 0, .int .i64 0] 63)) henv.sz).rng
  have HV := Lib.hid hv; have HE := Lib.hid hev; have HV' := Lib.hid hv'; have HE' := Lib.hid hev'
  clear hv hev hv' hev' henv
  have HA := Lib.hid hA; clear hA
  have HA2 := Lib.hid hA2; clear hA2
  have HB := Lib.hid hB; clear hB
  have HB2 := Lib.hid hB2; clear hB2
  have HG := Lib.hid hv0; clear hv0
  go_enter Tryz.func45, Tryz.ntmps45
  go_wp2_with (first | ((with_reducible refine (letters_n _ _ _ hsz HN.out).mono ?_); rintro e w' ⟨rfl, rfl⟩) | ((with_reducible refine (prefix_any _ ⟨#[48, 120]⟩ false _ HA.out).mono ?_); rintro e w' ⟨rfl, rfl⟩) | ((with_reducible refine (prefix_any _ ⟨#[48, 88]⟩ false _ HA2.out).mono ?_); rintro e w' ⟨rfl, rfl⟩) | ((with_reducible refine (suffix_any _ ⟨#[117]⟩ false _ (by unfold maxLen; omega) HB.out).mono ?_); rintro e w' ⟨rfl, rfl⟩) | ((with_reducible refine (suffix_any _ ⟨#[85]⟩ false _ (by unfold maxLen; omega) HB2.out).mono ?_); rintro e w' ⟨rfl, rfl⟩) | ((with_reducible refine (uint10_bad _ _ (by omega) ev ev' HV.out HE.out HV'.out HE'.out HG.out).mono ?_); rintro e w1 ⟨xv, tp, pv, rfl, hb⟩; have hh := p3_heap hb; have hc0 := (cell_of_row w1 _ 0 _ _ _ hh); have hc1 := (cell_of_row w1 _ 1 _ _ _ hh); have hc2 := (cell_of_row w1 _ 2 _ _ _ hh); have hf0 := free_of_row w1 _ 0 _ _ hh; have hf1 := free_of_row w1 _ 1 _ _ hh; have hf2 := free_of_row w1 _ 2 _ _ hh; clear hh; simp at hc0 hc1 hc2))
  exact bodyPost_ret (v := .tuple #[.agg #[.int .i64 0, .int .i64 0, .int .i64 0], .int .i64 3]) (by simp [results, Tryz.results45, go_sem, hc0, hc1, hc2]) rfl ⟨ret_eq (by rw [numV_none HVAL.out]; rfl), (((((Below.refl _ _).alloc (Nat.le_refl _) _).trans (hb.mono (by simp))).setCell (by simp) _).setCell (by simp) _).setCell (by simp) _⟩
end Go.Proofs.YtaamllikceaifaaGreatDoor
