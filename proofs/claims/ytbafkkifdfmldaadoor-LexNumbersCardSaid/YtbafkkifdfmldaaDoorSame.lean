/-
  The contract of the laws' own 'same': two lists of the same tokens are the same.
-/
import Derived.Test.YtbafkkifdfmldaaDoorUse
import Derived.Test.YtbafkkifdfmldaaDoorJoin
import Derived.Deep.QuietTactic
import Derived.BigQuiet
import Derived.Deep.LoopGhost
namespace Go.Proofs.YtbafkkifdfmldaaDoor
open Go.RowKit Sp
set_option linter.unusedVariables false

theorem same_nil (w : World) : Calls Tryd.prog 13 #[.slice none 0 0, .slice none 0 0] w fun e w' => e = .returned (.bool true) ∧ Below w.heap.size w w' := by
  go_enter Tryd.func13, Tryd.ntmps13
  go_wp2
  go_loop [13] (fun i => i = .int .i64 0) (fun i => 0)
  case atStart => rfl
  case round =>
    subst hrel
    go_wp2
    go_ret
    exact ⟨rfl, Below.refl _ _⟩
set_option maxHeartbeats 2000000 in
theorem same_true (g1 cap1 b1 g2 cap2 b2 : Nat) (ts : List Tok) (w : World) (m1 m2 : Nat) (h1 : Toks g1 cap1 b1 ts w) (h2 : Toks g2 cap2 b2 ts w) (hn : ts.length ≤ 8193) (e1 : ts.length = m1) (e2 : ts.length = m2) :
    Calls Tryd.prog 13 #[.slice (some ⟨g1, 0, none⟩) m1 cap1, .slice (some ⟨g2, 0, none⟩) m2 cap2] w fun e w' => e = .returned (.bool true) ∧ Below w.heap.size w w' := by
  subst e1; subst e2
  have H1 := Lib.hid h1; have H2 := Lib.hid h2; clear h1 h2
  go_enter Tryd.func13, Tryd.ntmps13
  go_wp2
  go_loopg [13] ts.length (fun g s13 wr => ∃ k : Nat, g = ts.length - k ∧ k ≤ ts.length ∧ s13 = .int .i64 k ∧ Hid (Below w.heap.size w wr))
  case atStart => exact ⟨0, rfl, by omega, rfl, Lib.hid (Below.refl _ _)⟩
  case round =>
    obtain ⟨k, hg, hk, rfl, HBR⟩ := hrel
    subst hg
    by_cases hlt : k < ts.length
    · obtain ⟨t, hti⟩ : ∃ t, ts[k]? = some t := ⟨ts[k], List.getElem?_eq_getElem hlt⟩
      obtain ⟨c0, c1, c2, c3⟩ := (H1.out.below HBR.out (Nat.le_refl _)).at hti
      obtain ⟨d0, d1, d2, d3⟩ := (H2.out.below HBR.out (Nat.le_refl _)).at hti
      clear hti
      have k0 : (0 : Int) ≤ (k : Int) := Int.natCast_nonneg _
      have k1 : (k : Int) < (ts.length : Int) := by omega
      go_wp2
      go_quiet (fail)
      go_wp2
      go_roundg (ts.length - (k + 1))
      case measure => omega
      case rel => exact ⟨k + 1, rfl, by omega, by go_num, Lib.hid (HBR.out.trans (below_drewN _ _ _))⟩
    · obtain rfl : ts.length = k := by omega
      go_wp2
      go_ret
      exact ⟨rfl, HBR.out⟩
/-! ### The places struck -/
theorem cellsOf_strip : ∀ (ts : List Tok) (i : Nat) (t : Tok), ts[i]? = some t → cellsOf (ts.set i (strip t)) = (cellsOf ts).set (i * 4 + 3) (.int .i64 0)
  | [], i, t, h => by simp at h
  | a :: ts, 0, t, h => by
    simp at h; subst h
    rfl
  | a :: ts, i + 1, t, h => by
    simp at h
    have ih := cellsOf_strip ts i t h
    have hl : (tokCells a).length = 4 := rfl
    have e : ∀ xs : List Tok, cellsOf (a :: xs) = tokCells a ++ cellsOf xs := fun xs => by simp [cellsOf]
    rw [List.set_cons_succ, e, e, ih, List.set_append, if_neg (by omega), hl]
    congr 2
    omega
theorem Toks.strip {g cap b : Nat} {ts : List Tok} {w : World} (h : Toks g cap b ts w) {i : Nat} {t : Tok} (hi : ts[i]? = some t) :
    Toks g cap b (ts.set i (Sp.strip t)) (w.setCell ⟨g, i * 4 + 3, none⟩ (.int .i64 0)) := by
  refine ⟨?_⟩
  rw [cellsOf_strip ts i t hi, List.length_set]
  exact (h.own.stored (i * 4 + 3) (.int .i64 0)).1
theorem Toks.far {g cap b : Nat} {ts : List Tok} {w : World} (h : Toks g cap b ts w) {a : Addr} (ha : g ≠ a.block) (u : Value) : Toks g cap b ts (w.setCell a u) := by
  refine ⟨h.own.1, ?_⟩
  rcases h.own.2 with hn | ⟨g', cap', cur, hv, hg, hh, r⟩
  · exact .inl hn
  · simp only [Value.slice.injEq, Option.some.injEq, Addr.mk.injEq, and_true, true_and] at hv
    obtain ⟨rfl, rfl⟩ := hv
    exact .inr ⟨g, cap, cur, rfl, hg, by rw [Below.heap_setCell _ _ _ _ ha]; exact hh, r⟩
theorem Toks.free {g cap b : Nat} {ts : List Tok} {w : World} (h : Toks g cap b ts w) (j : Nat) : w.frozen? ⟨g, j, none⟩ = false := h.own.frozenAt j
def zeroed (i : Nat) (ts : List Tok) : List Tok := (ts.take i).map Sp.strip ++ ts.drop i
theorem zeroed_0 (ts : List Tok) : zeroed 0 ts = ts := by simp [zeroed]
theorem zeroed_all (ts : List Tok) (i : Nat) (h : ts.length ≤ i) : zeroed i ts = ts.map Sp.strip := by
  unfold zeroed; rw [List.take_of_length_le h, List.drop_eq_nil_of_le h]; simp
theorem zeroed_len (ts : List Tok) (i : Nat) (h : i ≤ ts.length) : (zeroed i ts).length = ts.length := by
  simp [zeroed]; omega
theorem zeroed_at (ts : List Tok) (i : Nat) (t : Tok) (h : ts[i]? = some t) : (zeroed i ts)[i]? = some t := by
  have hi : i < ts.length := (List.getElem?_eq_some_iff.1 h).1
  unfold zeroed
  have hl : ((ts.take i).map Sp.strip).length = i := by simp; omega
  rw [List.getElem?_append_right (by omega), hl]
  simp [h]
theorem zeroed_succ (ts : List Tok) (i : Nat) (t : Tok) (h : ts[i]? = some t) : (zeroed i ts).set i (Sp.strip t) = zeroed (i + 1) ts := by
  have hi : i < ts.length := (List.getElem?_eq_some_iff.1 h).1
  have ht : ts[i] = t := (List.getElem?_eq_some_iff.1 h).2
  unfold zeroed
  have hl : ((ts.take i).map Sp.strip).length = i := by simp; omega
  rw [List.set_append, if_neg (by omega), hl, Nat.sub_self, List.drop_eq_getElem_cons hi, ht, List.set_cons_zero, List.take_succ_eq_append_getElem hi, ht]
  simp
end Go.Proofs.YtbafkkifdfmldaaDoor
