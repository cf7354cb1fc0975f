/-
  The contract of lex's number: of base 16.
-/
import Derived.Test.YtaamllikceaifaaGreatDoorEnv
namespace Go.Proofs.YtaamllikceaifaaGreatDoor
open Go.RowKit Sp
set_option linter.unusedVariables false

theorem letters_n (s : ByteArray) (n : Nat) (w : World) (hs : s.size ≤ maxLen) (h : (lets s.data.toList).length = n) :
    Calls Tryz.prog 65 #[.string s] w fun e w' => e = .returned (.int .i64 n) ∧ w = w' :=
  (letters_any s w hs).mono fun e w' ⟨he, hw⟩ => ⟨by rw [he, h], hw⟩
theorem free_of_row (w : World) (g j : Nat) (cs : Array Value) (t : TypeId) (hg : w.heap[g]? = some (.cells cs t (0, 0))) : w.frozen? ⟨g, j, none⟩ = false := by
  simp [World.frozen?, hg]
theorem p3_heap {w w1 : World} {A : Array Value} {t : TypeId} (h : Below (w.alloc (.cells A t)).heap.size (w.alloc (.cells A t)) w1) : w1.heap[w.heap.size]? = some (.cells A t (0, 0)) :=
  (h.block _ (by simp)).trans (heap_alloc_new w _)
def numV (o : Option Nat) (n : Nat) : Value := match o with | some v => .tuple #[pieceV 3 n v, .int .i64 0] | none => .tuple #[pieceV 0 0 0, .int .i64 3]
theorem numV_some {o : Option Nat} {v n : Nat} (h : o = some v) : numV o n = .tuple #[pieceV 3 n v, .int .i64 0] := by rw [h]; rfl
theorem numV_none {o : Option Nat} {n : Nat} (h : o = none) : numV o n = .tuple #[pieceV 0 0 0, .int .i64 3] := by rw [h]; rfl
def NumPost (l : List UInt8) (w : World) (e : Ending) (w' : World) : Prop := e = .returned (numV (value (lets l)) (lets l).length) ∧ Below w.heap.size w w'
set_option maxHeartbeats 2000000 in
theorem number_xuy (s : ByteArray) (n : Nat) (w : World) (henv : Env w) (hs : s.size ≤ 32768) (hn : (lets s.data.toList).length = n) (hns : n ≤ s.size) (d e g : ByteArray) (hd : s.extract 0 n = d) (hA : [48, 120].isPrefixOf d.data.toList = true) (h2 : 2 ≤ d.size) (he : d.extract 2 d.size = e) (he2 : e.size ≤ 32768) (hB : [117].isSuffixOf e.data.toList = true) (h1 : 1 ≤ e.size) (hg : e.extract 0 (e.size - 1) = g) (hg2 : g.size ≤ 32768) (v : Nat) (hv1 : v ≤ 4294967295) (hv0 : val 16 g.data.toList = some v) (hval : value (lets s.data.toList) = some v) :
    Calls Tryz.prog 45 #[.string s] w (NumPost s.data.toList w) := by
  have HVAL := Lib.hid hval; clear hval
  have HN := Lib.hid hn; clear hn
  have hsz : s.size ≤ maxLen := by unfold maxLen; omega
  obtain ⟨ev, hv, hev⟩ := (henv.below ((Below.refl _ _).alloc (Nat.le_refl _) (.cells #[.int .i64 0, .int .i64 0, .int .i64 0] 63)) henv.sz).syn
  obtain ⟨ev', hv', hev'⟩ := (henv.below ((Below.refl _ _).alloc (Nat.le_refl _) (.cells #[.int .i64 0, .int .i64 0, .int .i64 0] 63)) henv.sz).rng
  have HV := Lib.hid hv; have HE := Lib.hid hev; have HV' := Lib.hid hv'; have HE' := Lib.hid hev'
  clear hv hev hv' hev' henv
  have HA := Lib.hid hA; clear hA
  have HB := Lib.hid hB; clear hB
  have HG := Lib.hid hv0; clear hv0
  go_enter Tryz.func45, Tryz.ntmps45
  go_wp2_with (first | ((with_reducible refine (letters_n _ _ _ hsz HN.out).mono ?_); rintro e w' ⟨rfl, rfl⟩) | ((with_reducible refine (prefix_any _ ⟨#[48, 120]⟩ true _ HA.out).mono ?_); rintro e w' ⟨rfl, rfl⟩) | ((with_reducible refine (suffix_any _ ⟨#[117]⟩ true _ (by unfold maxLen; omega) HB.out).mono ?_); rintro e w' ⟨rfl, rfl⟩) | ((with_reducible refine (uint16_ok _ v _ (by omega) HG.out).mono ?_); rintro e w1 ⟨rfl, hb⟩; have hh := p3_heap hb; have hc0 := (cell_of_row w1 _ 0 _ _ _ hh); have hc1 := (cell_of_row w1 _ 1 _ _ _ hh); have hc2 := (cell_of_row w1 _ 2 _ _ _ hh); have hf0 := free_of_row w1 _ 0 _ _ hh; have hf1 := free_of_row w1 _ 1 _ _ hh; have hf2 := free_of_row w1 _ 2 _ _ hh; clear hh; simp at hc0 hc1 hc2))
  exact bodyPost_ret (v := .tuple #[.agg #[.int .i64 3, .int .i64 n, .int .i64 v], .int .i64 0]) (by simp [results, Tryz.results45, go_sem, hc0, hc1, hc2]) rfl ⟨ret_eq (by rw [numV_some HVAL.out, HN.out]; rfl), (((((Below.refl _ _).alloc (Nat.le_refl _) _).trans (hb.mono (by simp))).setCell (by simp) _).setCell (by simp) _).setCell (by simp) _⟩
set_option maxHeartbeats 2000000 in
theorem number_xub (s : ByteArray) (n : Nat) (w : World) (henv : Env w) (hs : s.size ≤ 32768) (hn : (lets s.data.toList).length = n) (hns : n ≤ s.size) (d e g : ByteArray) (hd : s.extract 0 n = d) (hA : [48, 120].isPrefixOf d.data.toList = true) (h2 : 2 ≤ d.size) (he : d.extract 2 d.size = e) (he2 : e.size ≤ 32768) (hB : [117].isSuffixOf e.data.toList = true) (h1 : 1 ≤ e.size) (hg : e.extract 0 (e.size - 1) = g) (hg2 : g.size ≤ 32768) (hv0 : val 16 g.data.toList = none) (hval : value (lets s.data.toList) = none) :
    Calls Tryz.prog 45 #[.string s] w (NumPost s.data.toList w) := by
  have HVAL := Lib.hid hval; clear hval
  have HN := Lib.hid hn; clear hn
  have hsz : s.size ≤ maxLen := by unfold maxLen; omega
  obtain ⟨ev, hv, hev⟩ := (henv.below ((Below.refl _ _).alloc (Nat.le_refl _) (.cells #[.int .i64 0, .int .i64 0, .int .i64 0] 63)) henv.sz).syn
  obtain ⟨ev', hv', hev'⟩ := (henv.below ((Below.refl _ _).alloc (Nat.le_refl _) (.cells #[.int .i64 0, .int .i64 0, .int .i64 0] 63)) henv.sz).rng
  have HV := Lib.hid hv; have HE := Lib.hid hev; have HV' := Lib.hid hv'; have HE' := Lib.hid hev'
  clear hv hev hv' hev' henv
  have HA := Lib.hid hA; clear hA
  have HB := Lib.hid hB; clear hB
  have HG := Lib.hid hv0; clear hv0
  go_enter Tryz.func45, Tryz.ntmps45
  go_wp2_with (first | ((with_reducible refine (letters_n _ _ _ hsz HN.out).mono ?_); rintro e w' ⟨rfl, rfl⟩) | ((with_reducible refine (prefix_any _ ⟨#[48, 120]⟩ true _ HA.out).mono ?_); rintro e w' ⟨rfl, rfl⟩) | ((with_reducible refine (suffix_any _ ⟨#[117]⟩ true _ (by unfold maxLen; omega) HB.out).mono ?_); rintro e w' ⟨rfl, rfl⟩) | ((with_reducible refine (uint16_bad _ _ (by omega) ev ev' HV.out HE.out HV'.out HE'.out HG.out).mono ?_); rintro e w1 ⟨xv, tp, pv, rfl, hb⟩; have hh := p3_heap hb; have hc0 := (cell_of_row w1 _ 0 _ _ _ hh); have hc1 := (cell_of_row w1 _ 1 _ _ _ hh); have hc2 := (cell_of_row w1 _ 2 _ _ _ hh); have hf0 := free_of_row w1 _ 0 _ _ hh; have hf1 := free_of_row w1 _ 1 _ _ hh; have hf2 := free_of_row w1 _ 2 _ _ hh; clear hh; simp at hc0 hc1 hc2))
  exact bodyPost_ret (v := .tuple #[.agg #[.int .i64 0, .int .i64 0, .int .i64 0], .int .i64 3]) (by simp [results, Tryz.results45, go_sem, hc0, hc1, hc2]) rfl ⟨ret_eq (by rw [numV_none HVAL.out]; rfl), (((((Below.refl _ _).alloc (Nat.le_refl _) _).trans (hb.mono (by simp))).setCell (by simp) _).setCell (by simp) _).setCell (by simp) _⟩
set_option maxHeartbeats 2000000 in
theorem number_xUy (s : ByteArray) (n : Nat) (w : World) (henv : Env w) (hs : s.size ≤ 32768) (hn : (lets s.data.toList).length = n) (hns : n ≤ s.size) (d e g : ByteArray) (hd : s.extract 0 n = d) (hA : [48, 120].isPrefixOf d.data.toList = true) (h2 : 2 ≤ d.size) (he : d.extract 2 d.size = e) (he2 : e.size ≤ 32768) (hB : [117].isSuffixOf e.data.toList = false) (hB2 : [85].isSuffixOf e.data.toList = true) (h1 : 1 ≤ e.size) (hg : e.extract 0 (e.size - 1) = g) (hg2 : g.size ≤ 32768) (v : Nat) (hv1 : v ≤ 4294967295) (hv0 : val 16 g.data.toList = some v) (hval : value (lets s.data.toList) = some v) :
    Calls Tryz.prog 45 #[.string s] w (NumPost s.data.toList w) := by
  have HVAL := Lib.hid hval; clear hval
  have HN := Lib.hid hn; clear hn
  have hsz : s.size ≤ maxLen := by unfold maxLen; omega
  obtain ⟨ev, hv, hev⟩ := (henv.below ((Below.refl _ _).alloc (Nat.le_refl _) (.cells #[.int .i64 0, .int .i64 0, .int .i64 0] 63)) henv.sz).syn
  obtain ⟨ev', hv', hev'⟩ := (henv.below ((Below.refl _ _).alloc (Nat.le_refl _) (.cells #[.int .i64 0, .int .i64 0, .int .i64 0] 63)) henv.sz).rng
  have HV := Lib.hid hv; have HE := Lib.hid hev; have HV' := Lib.hid hv'; have HE' := Lib.hid hev'
  clear hv hev hv' hev' henv
  have HA := Lib.hid hA; clear hA
  have HB := Lib.hid hB; clear hB
  have HB2 := Lib.hid hB2; clear hB2
  have HG := Lib.hid hv0; clear hv0
  go_enter Tryz.func45, Tryz.ntmps45
  go_wp2_with (first | ((with_reducible refine (letters_n _ _ _ hsz HN.out).mono ?_); rintro e w' ⟨rfl, rfl⟩) | ((with_reducible refine (prefix_any _ ⟨#[48, 120]⟩ true _ HA.out).mono ?_); rintro e w' ⟨rfl, rfl⟩) | ((with_reducible refine (suffix_any _ ⟨#[117]⟩ false _ (by unfold maxLen; omega) HB.out).mono ?_); rintro e w' ⟨rfl, rfl⟩) | ((with_reducible refine (suffix_any _ ⟨#[85]⟩ true _ (by unfold maxLen; omega) HB2.out).mono ?_); rintro e w' ⟨rfl, rfl⟩) | ((with_reducible refine (uint16_ok _ v _ (by omega) HG.out).mono ?_); rintro e w1 ⟨rfl, hb⟩; have hh := p3_heap hb; have hc0 := (cell_of_row w1 _ 0 _ _ _ hh); have hc1 := (cell_of_row w1 _ 1 _ _ _ hh); have hc2 := (cell_of_row w1 _ 2 _ _ _ hh); have hf0 := free_of_row w1 _ 0 _ _ hh; have hf1 := free_of_row w1 _ 1 _ _ hh; have hf2 := free_of_row w1 _ 2 _ _ hh; clear hh; simp at hc0 hc1 hc2))
  exact bodyPost_ret (v := .tuple #[.agg #[.int .i64 3, .int .i64 n, .int .i64 v], .int .i64 0]) (by simp [results, Tryz.results45, go_sem, hc0, hc1, hc2]) rfl ⟨ret_eq (by rw [numV_some HVAL.out, HN.out]; rfl), (((((Below.refl _ _).alloc (Nat.le_refl _) _).trans (hb.mono (by simp))).setCell (by simp) _).setCell (by simp) _).setCell (by simp) _⟩
set_option maxHeartbeats 2000000 in
theorem number_xUb (s : ByteArray) (n : Nat) (w : World) (henv : Env w) (hs : s.size ≤ 32768) (hn : (lets s.data.toList).length = n) (hns : n ≤ s.size) (d e g : ByteArray) (hd : s.extract 0 n = d) (hA : [48, 120].isPrefixOf d.data.toList = true) (h2 : 2 ≤ d.size) (he : d.extract 2 d.size = e) (he2 : e.size ≤ 32768) (hB : [117].isSuffixOf e.data.toList = false) (hB2 : [85].isSuffixOf e.data.toList = true) (h1 : 1 ≤ e.size) (hg : e.extract 0 (e.size - 1) = g) (hg2 : g.size ≤ 32768) (hv0 : val 16 g.data.toList = none) (hval : value (lets s.data.toList) = none) :
    Calls Tryz.prog 45 #[.string s] w (NumPost s.data.toList w) := by
  have HVAL := Lib.hid hval; clear hval
  have HN := Lib.hid hn; clear hn
  have hsz : s.size ≤ maxLen := by unfold maxLen; omega
  obtain ⟨ev, hv, hev⟩ := (henv.below ((Below.refl _ _).alloc (Nat.le_refl _) (.cells #[.int .i64 0, .int .i64 0, .int .i64 0] 63)) henv.sz).syn
  obtain ⟨ev', hv', hev'⟩ := (henv.below ((Below.refl _ _).alloc (Nat.le_refl _) (.cells #[.int .i64 0, .int .i64 0, .int .i64 0] 63)) henv.sz).rng
  have HV := Lib.hid hv; have HE := Lib.hid hev; have HV' := Lib.hid hv'; have HE' := Lib.hid hev'
  clear hv hev hv' hev' henv
  have HA := Lib.hid hA; clear hA
  have HB := Lib.hid hB; clear hB
  have HB2 := Lib.hid hB2; clear hB2
  have HG := Lib.hid hv0; clear hv0
  go_enter Tryz.func45, Tryz.ntmps45
  go_wp2_with (first | ((with_reducible refine (letters_n _ _ _ hsz HN.out).mono ?_); rintro e w' ⟨rfl, rfl⟩) | ((with_reducible refine (prefix_any _ ⟨#[48, 120]⟩ true _ HA.out).mono ?_); rintro e w' ⟨rfl, rfl⟩) | ((with_reducible refine (suffix_any _ ⟨#[117]⟩ false _ (by unfold maxLen; omega) HB.out).mono ?_); rintro e w' ⟨rfl, rfl⟩) | ((with_reducible refine (suffix_any _ ⟨#[85]⟩ true _ (by unfold maxLen; omega) HB2.out).mono ?_); rintro e w' ⟨rfl, rfl⟩) | ((with_reducible refine (uint16_bad _ _ (by omega) ev ev' HV.out HE.out HV'.out HE'.out HG.out).mono ?_); rintro e w1 ⟨xv, tp, pv, rfl, hb⟩; have hh := p3_heap hb; have hc0 := (cell_of_row w1 _ 0 _ _ _ hh); have hc1 := (cell_of_row w1 _ 1 _ _ _ hh); have hc2 := (cell_of_row w1 _ 2 _ _ _ hh); have hf0 := free_of_row w1 _ 0 _ _ hh; have hf1 := free_of_row w1 _ 1 _ _ hh; have hf2 := free_of_row w1 _ 2 _ _ hh; clear hh; simp at hc0 hc1 hc2))
  exact bodyPost_ret (v := .tuple #[.agg #[.int .i64 0, .int .i64 0, .int .i64 0], .int .i64 3]) (by simp [results, Tryz.results45, go_sem, hc0, hc1, hc2]) rfl ⟨ret_eq (by rw [numV_none HVAL.out]; rfl), (((((Below.refl _ _).alloc (Nat.le_refl _) _).trans (hb.mono (by simp))).setCell (by simp) _).setCell (by simp) _).setCell (by simp) _⟩
set_option maxHeartbeats 2000000 in
theorem number_xny (s : ByteArray) (n : Nat) (w : World) (henv : Env w) (hs : s.size ≤ 32768) (hn : (lets s.data.toList).length = n) (hns : n ≤ s.size) (d e g : ByteArray) (hd : s.extract 0 n = d) (hA : [48, 120].isPrefixOf d.data.toList = true) (h2 : 2 ≤ d.size) (he : d.extract 2 d.size = e) (he2 : e.size ≤ 32768) (hB : [117].isSuffixOf e.data.toList = false) (hB2 : [85].isSuffixOf e.data.toList = false) (v : Nat) (hv1 : v ≤ 4294967295) (hv0 : val 16 e.data.toList = some v) (hval : value (lets s.data.toList) = some v) :
    Calls Tryz.prog 45 #[.string s] w (NumPost s.data.toList w) := by
  have HVAL := Lib.hid hval; clear hval
  have HN := Lib.hid hn; clear hn
  have hsz : s.size ≤ maxLen := by unfold maxLen; omega
  obtain ⟨ev, hv, hev⟩ := (henv.below ((Below.refl _ _).alloc (Nat.le_refl _) (.cells #[.int .i64 0, .int .i64 0, .int .i64 0] 63)) henv.sz).syn
  obtain ⟨ev', hv', hev'⟩ := (henv.below ((Below.refl _ _).alloc (Nat.le_refl _) (.cells #[.int .i64 0, .int .i64 0, .int .i64 0] 63)) henv.sz).rng
  have HV := Lib.hid hv; have HE := Lib.hid hev; have HV' := Lib.hid hv'; have HE' := Lib.hid hev'
  clear hv hev hv' hev' henv
  have HA := Lib.hid hA; clear hA
  have HB := Lib.hid hB; clear hB
  have HB2 := Lib.hid hB2; clear hB2
  have HG := Lib.hid hv0; clear hv0
  go_enter Tryz.func45, Tryz.ntmps45
  go_wp2_with (first | ((with_reducible refine (letters_n _ _ _ hsz HN.out).mono ?_); rintro e w' ⟨rfl, rfl⟩) | ((with_reducible refine (prefix_any _ ⟨#[48, 120]⟩ true _ HA.out).mono ?_); rintro e w' ⟨rfl, rfl⟩) | ((with_reducible refine (suffix_any _ ⟨#[117]⟩ false _ (by unfold maxLen; omega) HB.out).mono ?_); rintro e w' ⟨rfl, rfl⟩) | ((with_reducible refine (suffix_any _ ⟨#[85]⟩ false _ (by unfold maxLen; omega) HB2.out).mono ?_); rintro e w' ⟨rfl, rfl⟩) | ((with_reducible refine (uint16_ok _ v _ (by omega) HG.out).mono ?_); rintro e w1 ⟨rfl, hb⟩; have hh := p3_heap hb; have hc0 := (cell_of_row w1 _ 0 _ _ _ hh); have hc1 := (cell_of_row w1 _ 1 _ _ _ hh); have hc2 := (cell_of_row w1 _ 2 _ _ _ hh); have hf0 := free_of_row w1 _ 0 _ _ hh; have hf1 := free_of_row w1 _ 1 _ _ hh; have hf2 := free_of_row w1 _ 2 _ _ hh; clear hh; simp at hc0 hc1 hc2))
  exact bodyPost_ret (v := .tuple #[.agg #[.int .i64 3, .int .i64 n, .int .i64 v], .int .i64 0]) (by simp [results, Tryz.results45, go_sem, hc0, hc1, hc2]) rfl ⟨ret_eq (by rw [numV_some HVAL.out, HN.out]; rfl), (((((Below.refl _ _).alloc (Nat.le_refl _) _).trans (hb.mono (by simp))).setCell (by simp) _).setCell (by simp) _).setCell (by simp) _⟩
set_option maxHeartbeats 2000000 in
theorem number_xnb (s : ByteArray) (n : Nat) (w : World) (henv : Env w) (hs : s.size ≤ 32768) (hn : (lets s.data.toList).length = n) (hns : n ≤ s.size) (d e g : ByteArray) (hd : s.extract 0 n = d) (hA : [48, 120].isPrefixOf d.data.toList = true) (h2 : 2 ≤ d.size) (he : d.extract 2 d.size = e) (he2 : e.size ≤ 32768) (hB : [117].isSuffixOf e.data.toList = false) (hB2 : [85].isSuffixOf e.data.toList = false) (hv0 : val 16 e.data.toList = none) (hval : value (lets s.data.toList) = none) :
    Calls Tryz.prog 45 #[.string s] w (NumPost s.data.toList w) := by
  have HVAL := Lib.hid hval; clear hval
  have HN := Lib.hid hn; clear hn
  have hsz : s.size ≤ maxLen := by unfold maxLen; omega
  obtain ⟨ev, hv, hev⟩ := (henv.below ((Below.refl _ _).alloc (Nat.le_refl _) (.cells #[.int .i64 0, .int .i64 0, .int .i64 0] 63)) henv.sz).syn
  obtain ⟨ev', hv', hev'⟩ := (henv.below ((Below.refl _ _).alloc (Nat.le_refl _) (.cells #[.int .i64 0, .int .i64 0, .int .i64 0] 63)) henv.sz).rng
  have HV := Lib.hid hv; have HE := Lib.hid hev; have HV' := Lib.hid hv'; have HE' := Lib.hid hev'
  clear hv hev hv' hev' henv
  have HA := Lib.hid hA; clear hA
  have HB := Lib.hid hB; clear hB
  have HB2 := Lib.hid hB2; clear hB2
  have HG := Lib.hid hv0; clear hv0
  go_enter Tryz.func45, Tryz.ntmps45
  go_wp2_with (first | ((with_reducible refine (letters_n _ _ _ hsz HN.out).mono ?_); rintro e w' ⟨rfl, rfl⟩) | ((with_reducible refine (prefix_any _ ⟨#[48, 120]⟩ true _ HA.out).mono ?_); rintro e w' ⟨rfl, rfl⟩) | ((with_reducible refine (suffix_any _ ⟨#[117]⟩ false _ (by unfold maxLen; omega) HB.out).mono ?_); rintro e w' ⟨rfl, rfl⟩) | ((with_reducible refine (suffix_any _ ⟨#[85]⟩ false _ (by unfold maxLen; omega) HB2.out).mono ?_); rintro e w' ⟨rfl, rfl⟩) | ((with_reducible refine (uint16_bad _ _ (by omega) ev ev' HV.out HE.out HV'.out HE'.out HG.out).mono ?_); rintro e w1 ⟨xv, tp, pv, rfl, hb⟩; have hh := p3_heap hb; have hc0 := (cell_of_row w1 _ 0 _ _ _ hh); have hc1 := (cell_of_row w1 _ 1 _ _ _ hh); have hc2 := (cell_of_row w1 _ 2 _ _ _ hh); have hf0 := free_of_row w1 _ 0 _ _ hh; have hf1 := free_of_row w1 _ 1 _ _ hh; have hf2 := free_of_row w1 _ 2 _ _ hh; clear hh; simp at hc0 hc1 hc2))
  exact bodyPost_ret (v := .tuple #[.agg #[.int .i64 0, .int .i64 0, .int .i64 0], .int .i64 3]) (by simp [results, Tryz.results45, go_sem, hc0, hc1, hc2]) rfl ⟨ret_eq (by rw [numV_none HVAL.out]; rfl), (((((Below.refl _ _).alloc (Nat.le_refl _) _).trans (hb.mono (by simp))).setCell (by simp) _).setCell (by simp) _).setCell (by simp) _⟩
end Go.Proofs.YtaamllikceaifaaGreatDoor
