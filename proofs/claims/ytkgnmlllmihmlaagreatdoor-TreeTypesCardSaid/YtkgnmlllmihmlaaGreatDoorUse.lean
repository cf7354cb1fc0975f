/-
  Contracts of lex.Scan as the laws use it, and a list of tokens as a slice.
-/
import Derived.Test.YtkgnmlllmihmlaaGreatDoorScan
namespace Go.Proofs.YtkgnmlllmihmlaaGreatDoor
open Go.RowKit Sp
set_option linter.unusedVariables false

/-- A list of tokens as a slice of its own, in block g. -/
structure Toks (g cap base : Nat) (ts : List Tok) (w : World) : Prop where
  own : w.ownsRow base 65 4 (.slice (some ⟨g, 0, none⟩) ts.length cap) ts.length (cellsOf ts)
theorem Toks.ge {g cap base : Nat} {ts : List Tok} {w : World} (h : Toks g cap base ts w) : base ≤ g ∧ g < w.heap.size := h.own.lt g rfl
theorem Toks.below {g cap base B : Nat} {ts : List Tok} {w w' : World} (h : Toks g cap base ts w) (hb : Below B w w') (hB : w.heap.size ≤ B) : Toks g cap base ts w' := ⟨own_below h.own (hb.mono hB)⟩
theorem cellsOf_at : ∀ (ts : List Tok) (i j : Nat) (t : Tok), ts[i]? = some t → j < 4 → (cellsOf ts)[i * 4 + j]? = (tokCells t)[j]?
  | [], i, j, t, h, _ => by simp at h
  | a :: ts, 0, j, t, h, hj => by
    simp at h; subst h
    have hl : (tokCells a).length = 4 := rfl
    simp only [cellsOf, List.flatMap_cons, Nat.zero_mul, Nat.zero_add]
    rw [List.getElem?_append_left (by omega)]
  | a :: ts, i + 1, j, t, h, hj => by
    simp at h
    have hl : (tokCells a).length = 4 := rfl
    have ih := cellsOf_at ts i j t h hj
    simp only [cellsOf, List.flatMap_cons] at ih ⊢
    rw [List.getElem?_append_right (by omega), hl, show (i + 1) * 4 + j - 4 = i * 4 + j by omega]
    exact ih
/-- The four cells of a token. -/
theorem Toks.at {g cap base : Nat} {ts : List Tok} {w : World} (h : Toks g cap base ts w) {i : Nat} {t : Tok} (hi : ts[i]? = some t) :
    w.cell? ⟨g, i * 4, none⟩ = some (.int .i64 t.k) ∧ w.cell? ⟨g, i * 4 + 1, none⟩ = some (.string (bs t.text)) ∧ w.cell? ⟨g, i * 4 + 2, none⟩ = some (.int .i64 t.n) ∧ w.cell? ⟨g, i * 4 + 3, none⟩ = some (.int .i64 t.pos) := by
  have hc := h.own.cells (g := g) rfl
  have hadd : ∀ j, (⟨g, 0, none⟩ : Addr).add j = ⟨g, j, none⟩ := fun j => by unfold Addr.add; split <;> simp_all
  have c : ∀ j, j < 4 → ∀ u, (tokCells t)[j]? = some u → w.cell? ⟨g, i * 4 + j, none⟩ = some u := fun j hj u hu => by
    have := hc (i * 4 + j) u (by rw [cellsOf_at ts i j t hi hj]; exact hu)
    rwa [hadd] at this
  exact ⟨c 0 (by omega) _ rfl, c 1 (by omega) _ rfl, c 2 (by omega) _ rfl, c 3 (by omega) _ rfl⟩
theorem scan_any (s : ByteArray) (w : World) (henv : Env w) (hs : s.size ≤ maxLen) :
    Calls Tryz.prog 12 #[.string s] w (ScanPost s.data.toList w) := by
  by_cases h : s.size ≤ 32768
  · exact scan_short s w henv h
  · exact scan_long s w hs (by omega)
theorem scanF_ne : ∀ (f : Nat) (l : List UInt8) (p c : Nat) (ts : List Tok), scanF f l p c = .ok ts → ts ≠ []
  | 0, _, _, _, _, h => by simp [scanF] at h
  | f + 1, l, p, c, ts, h => by
    unfold scanF at h
    split at h
    · injection h with h; subst h; simp
    · injection h with h; subst h; simp
    · exact scanF_ne f _ _ _ _ h
    · injection h
    · split at h
      · injection h
      · rename_i k len n _ _
        cases hr : scanF f (l.drop len) (p + len) (c + 1) with
        | error e => rw [hr] at h; injection h
        | ok r => rw [hr] at h; injection h with h; subst h; simp
theorem scan_ne {l : List UInt8} {ts : List Tok} (h : Sp.scan l = .ok ts) : ts ≠ [] := by
  unfold Sp.scan at h
  split at h
  · injection h
  · exact scanF_ne _ _ _ _ _ h
def OkPost (ts : List Tok) (w : World) (e : Ending) (w' : World) : Prop := ∃ g cap, e = .returned (.tuple #[.slice (some ⟨g, 0, none⟩) ts.length cap, .int .i64 0, .int .i64 0]) ∧ Toks g cap w.heap.size ts w' ∧ Below w.heap.size w w'
theorem scan_ok (s : ByteArray) (ts : List Tok) (w : World) (henv : Env w) (hs : s.size ≤ maxLen) (h : Sp.scan s.data.toList = .ok ts) :
    Calls Tryz.prog 12 #[.string s] w (OkPost ts w) := by
  refine (scan_any s w henv hs).mono ?_
  rintro e w' ⟨v, pos, er, rfl, hi, hb⟩
  rw [h] at hi
  obtain ⟨hown, rfl, rfl⟩ := hi
  have hl : 0 < ts.length := List.length_pos_iff.2 (scan_ne h)
  obtain ⟨g, cap, rfl, _, _⟩ := hown.form hl
  exact ⟨g, cap, rfl, ⟨hown⟩, hb⟩
theorem scan_err (s : ByteArray) (p : Nat) (x : Int) (w : World) (henv : Env w) (hs : s.size ≤ maxLen) (h : Sp.scan s.data.toList = .error (p, x)) :
    Calls Tryz.prog 12 #[.string s] w fun e w' => e = .returned (.tuple #[.slice none 0 0, .int .i64 p, .int .i64 x]) ∧ Below w.heap.size w w' := by
  refine (scan_any s w henv hs).mono ?_
  rintro e w' ⟨v, pos, er, rfl, hi, hb⟩
  rw [h] at hi
  obtain ⟨rfl, rfl, rfl⟩ := hi
  exact ⟨rfl, hb⟩
end Go.Proofs.YtkgnmlllmihmlaaGreatDoor
