/-
  Layer 11: values in memory; contracts of plain, Join.
-/
import Derived.Test.YtpajndeongcjbaaR7RightF
import Derived.Test.YtpajndeongcjbaaQLA
import Derived.Test.YtpajndeongcjbaaQLH
import Derived.Test.YtpajndeongcjbaaQLR
import Derived.Deep.CutRange
import Derived.Deep.DeepCutAuto
import Derived.RegionTactic
import Derived.Deep.RegionWith
namespace Go.Proofs.Ytpajndeongcjbaa
set_option maxRecDepth 100000
open Go.RowKit Cd
set_option linter.unusedVariables false
set_option linter.unusedSimpArgs false

abbrev vlCells (v : Val) : List Value := [.int .i64 v.kind, .int .i64 v.n]
theorem vlCells_len (v : Val) : (vlCells v).length = 2 := rfl
abbrev vlV (v : Val) : Value := .agg #[.int .i64 v.kind, .int .i64 v.n]
abbrev vlO (v : Val) : Obj := .cells #[.int .i64 v.kind, .int .i64 v.n] 66
def ValsAt (w : World) (B : Nat) (a : Option Addr) (l : List Val) : Prop := RowAt w B a (l.flatMap vlCells)
theorem ValsAt.below {w w' : World} {B : Nat} {a : Option Addr} {l : List Val} (h : ValsAt w B a l) (hb : Below B w w') : ValsAt w' B a l := RowAt.below h hb
theorem ValsAt.mono {w : World} {B B' : Nat} {a : Option Addr} {l : List Val} (h : ValsAt w B a l) (hB : B ≤ B') (hw : B' ≤ w.heap.size) : ValsAt w B' a l := RowAt.mono h hB hw
theorem ValsAt.cells {w : World} {B : Nat} {a : Option Addr} {l : List Val} (h : ValsAt w B a l) {k : Nat} {x : Val} (hk : l[k]? = some x) : ∃ b off, a = some ⟨b, off, none⟩ ∧ b < B ∧ B ≤ w.heap.size ∧ w.cell? ⟨b, off + k * 2, none⟩ = some (.int .i64 x.kind) ∧ w.cell? ⟨b, off + k * 2 + 1, none⟩ = some (.int .i64 x.n) := by
  obtain ⟨b, off, ha, hb, hB, hc⟩ := RowAt.item vlCells_len h hk (by omega)
  exact ⟨b, off, ha, hb, hB, hc 0 _ rfl, hc 1 _ rfl⟩
theorem nv2 {w : World} {b : Nat} {x0 x1 : Value} {t : TypeId} (h : w.heap[b]? = some (.cells #[x0, x1] t (0, 0))) : w.cell? ⟨b, 0, none⟩ = some x0 ∧ w.cell? ⟨b, 1, none⟩ = some x1 := by
  refine ⟨?_, ?_⟩ <;> (rw [cell_of_row w b _ _ _ _ h]; rfl)
def Cd.plainV (v : Val) : Val := if v.kind = 0 ∨ v.kind = 2 then ⟨v.kind, 0⟩ else v
/-- What Join tells, whatever it is given. -/
def Cd.joinP (a b : Val) : Val := if (plainV a).kind = 0 then plainV b else if (plainV b).kind = 0 ∨ plainV a = plainV b then plainV a else ⟨2, 0⟩
theorem plainV_kind (v : Val) : (plainV v).kind = v.kind := by unfold plainV; split <;> rfl
theorem set2 {w : World} {b : Nat} {x0 x1 : Value} {t : TypeId} (h : w.heap[b]? = some (.cells #[x0, x1] t (0, 0))) (y0 y1 : Value) : ((w.setCell ⟨b, 0, none⟩ y0).setCell ⟨b, 1, none⟩ y1).heap[b]? = some (.cells #[y0, y1] t (0, 0)) := by
  have h1 := cells_set (cells_set h 0 y0) 1 y1
  simpa using h1
set_option maxHeartbeats 2000000 in
theorem plain_c (v : Val) (w : World) : Calls Try.prog 142 #[vlV v] w (RPost (vlV (plainV v)) w) := by
  obtain ⟨k, n⟩ := v
  have HX := Lib.hid (heap_alloc_new w (vlO ⟨k, n⟩))
  have fin : ∀ W, RPost (vlV (plainV ⟨k, n⟩)) W = RPost (vlV (plainV ⟨k, n⟩)) W := fun _ => rfl
  by_cases h0 : k = 0
  · subst h0
    have e : plainV ⟨0, n⟩ = ⟨0, 0⟩ := rfl
    rw [e]
    go_enter Try.func142, Try.ntmps142
    go_wp2
    exact bodyPost_ret (v := vlV ⟨0, 0⟩) (by simp [results, Try.results142, go_sem]) rfl ⟨rfl, ((Below.refl w.heap.size w).alloc (Nat.le_refl _) _).alloc (by simp) _⟩
  · have t0 : ((k : Int) == 0) = false := by simpa using h0
    by_cases h2 : k = 2
    · subst h2
      have e : plainV ⟨2, n⟩ = ⟨2, 0⟩ := rfl
      rw [e]
      go_enter Try.func142, Try.ntmps142
      go_wp2
      exact bodyPost_ret (v := vlV ⟨2, 0⟩) (by simp [results, Try.results142, go_sem]) rfl ⟨rfl, ((Below.refl w.heap.size w).alloc (Nat.le_refl _) _).alloc (by simp) _⟩
    · have t2 : ((k : Int) == 2) = false := by simpa using h2
      have e : plainV ⟨k, n⟩ = ⟨k, n⟩ := by unfold plainV; rw [if_neg (by simp [h0, h2])]
      rw [e]
      clear h0 h2
      go_enter Try.func142, Try.ntmps142
      go_wp2
      exact bodyPost_ret (v := vlV ⟨k, n⟩) (by simp [results, Try.results142, go_sem]) rfl ⟨rfl, ((Below.refl w.heap.size w).alloc (Nat.le_refl _) _).alloc (by simp) _⟩
theorem three_vals (w : World) (a b c : Val) : let W := ((w.alloc (vlO a)).alloc (vlO b)).alloc (vlO c); W.heap[w.heap.size]? = some (vlO a) ∧ W.heap[w.heap.size + 1]? = some (vlO b) ∧ W.heap[w.heap.size + 1 + 1]? = some (vlO c) ∧ Below w.heap.size w W ∧ W.heap.size = w.heap.size + 3 := three_new w _ _ _
theorem heap_oth {w : World} {b j k : Nat} {u : Value} (h : k ≠ b) : (w.setCell ⟨b, j, none⟩ u).heap[k]? = w.heap[k]? := Below.heap_setCell _ _ _ _ (by simpa using h)
/-- Join's three boxes. -/
structure JSt (w0 w : World) (a b c : Val) : Prop where
  h1 : w.heap[w0.heap.size]? = some (vlO a)
  h2 : w.heap[w0.heap.size + 1]? = some (vlO b)
  h3 : w.heap[w0.heap.size + 1 + 1]? = some (vlO c)
  hb : Below w0.heap.size w0 w
theorem JSt.lt {w0 w : World} {a b c : Val} (h : JSt w0 w a b c) : w0.heap.size + 3 ≤ w.heap.size := lt_heap h.h3
theorem JSt.below {w0 w w' : World} {a b c : Val} (h : JSt w0 w a b c) (hb : Below w.heap.size w w') : JSt w0 w' a b c := by
  have := h.lt
  exact ⟨(hb.block _ (by omega)).trans h.h1, (hb.block _ (by omega)).trans h.h2, (hb.block _ (by omega)).trans h.h3, h.hb.trans (hb.mono (by omega))⟩
theorem JSt.cells {w0 w : World} {a b c : Val} (h : JSt w0 w a b c) : w.cell? ⟨w0.heap.size, 0, none⟩ = some (.int .i64 a.kind) ∧ w.cell? ⟨w0.heap.size, 1, none⟩ = some (.int .i64 a.n) ∧ w.cell? ⟨w0.heap.size + 1, 0, none⟩ = some (.int .i64 b.kind) ∧ w.cell? ⟨w0.heap.size + 1, 1, none⟩ = some (.int .i64 b.n) := ⟨(nv2 h.h1).1, (nv2 h.h1).2, (nv2 h.h2).1, (nv2 h.h2).2⟩
theorem JSt.drew {w0 w : World} {a b c : Val} (h : JSt w0 w a b c) : JSt w0 w.drew a b c := ⟨h.h1, h.h2, h.h3, drW h.hb⟩
theorem JSt.frozen {w0 w : World} {a b c : Val} (h : JSt w0 w a b c) (j : Nat) : w.frozen? ⟨w0.heap.size, j, none⟩ = false ∧ w.frozen? ⟨w0.heap.size + 1, j, none⟩ = false ∧ w.frozen? ⟨w0.heap.size + 1 + 1, j, none⟩ = false := by
  refine ⟨?_, ?_, ?_⟩
  · simp [World.frozen?, h.h1]
  · simp [World.frozen?, h.h2]
  · simp [World.frozen?, h.h3]
theorem JSt.set1 {w0 w : World} {a b c : Val} (h : JSt w0 w a b c) (x : Val) : JSt w0 ((w.setCell ⟨w0.heap.size, 0, none⟩ (.int .i64 x.kind)).setCell ⟨w0.heap.size, 1, none⟩ (.int .i64 x.n)) x b c :=
  ⟨set2 h.h1 _ _, (heap_oth (by omega)).trans ((heap_oth (by omega)).trans h.h2), (heap_oth (by omega)).trans ((heap_oth (by omega)).trans h.h3), (h.hb.setCell (by simp) _).setCell (by simp) _⟩
theorem JSt.set2 {w0 w : World} {a b c : Val} (h : JSt w0 w a b c) (x : Val) : JSt w0 ((w.setCell ⟨w0.heap.size + 1, 0, none⟩ (.int .i64 x.kind)).setCell ⟨w0.heap.size + 1, 1, none⟩ (.int .i64 x.n)) a x c :=
  ⟨(heap_oth (by omega)).trans ((heap_oth (by omega)).trans h.h1), Go.Proofs.Ytpajndeongcjbaa.set2 h.h2 _ _, (heap_oth (by omega)).trans ((heap_oth (by omega)).trans h.h3), (h.hb.setCell (by simp <;> omega) _).setCell (by simp <;> omega) _⟩
set_option maxHeartbeats 4000000 in
theorem join_c (a b : Val) (w : World) : Calls Try.prog 106 #[vlV a, vlV b] w (RPost (vlV (joinP a b)) w) := by
  obtain ⟨a', ha'⟩ : ∃ x, plainV a = x := ⟨_, rfl⟩
  obtain ⟨b', hb'⟩ : ∃ x, plainV b = x := ⟨_, rfl⟩
  have HPA : Hid (∀ w, Calls Try.prog 142 #[vlV a] w (RPost (vlV a') w)) := Lib.hid (fun w => ha' ▸ plain_c a w)
  have HPB : Hid (∀ w, Calls Try.prog 142 #[vlV b] w (RPost (vlV b') w)) := Lib.hid (fun w => hb' ▸ plain_c b w)
  have HJ : Hid (joinP a b = if a'.kind = 0 then b' else if b'.kind = 0 ∨ a' = b' then a' else ⟨2, 0⟩) := Lib.hid (by unfold joinP; rw [ha', hb'])
  clear ha' hb'
  obtain ⟨W, hW⟩ : ∃ W, ((w.alloc (vlO a)).alloc (vlO b)).alloc (vlO ⟨0, 0⟩) = W := ⟨_, rfl⟩
  have HS : Hid (JSt w W a b ⟨0, 0⟩) := Lib.hid (by
    obtain ⟨hz1, hz2, hz3, hzb, hzs⟩ := three_vals w a b ⟨0, 0⟩
    rw [hW] at hz1 hz2 hz3 hzb hzs
    exact ⟨hz1, hz2, hz3, hzb⟩)
  go_enter Try.func106, Try.ntmps106
  go_upto_region 1 with fail
  have HSD := Lib.hid HS.out.drew
  obtain ⟨x0, x1, y0, y1⟩ := HSD.out.cells
  go_cut [] from 5 to 8 (fun wc => Hid (JSt w wc a' b' ⟨0, 0⟩))
  case first =>
    go_region_with (first | ((with_reducible refine (HPA.out _).mono ?_); rintro e w1 ⟨rfl, hb1⟩; have HS1 := Lib.hid (HSD.out.below hb1); clear hb1 x0 x1 y0 y1; obtain ⟨x0, x1, y0, y1⟩ := HS1.out.cells) | ((with_reducible refine (HPB.out _).mono ?_); rintro e w2 ⟨rfl, hb2⟩; have HS2 := Lib.hid (HS1.out.below hb2); clear hb2 x0 x1 y0 y1; obtain ⟨x0, x1, y0, y1⟩ := HS2.out.cells; have f1 : ∀ j, w2.frozen? ⟨w.heap.size, j, none⟩ = false := (fun j => (HS2.out.frozen j).1); have f2 : ∀ j, w2.frozen? ⟨w.heap.size + 1, j, none⟩ = false := (fun j => (HS2.out.frozen j).2.1)))
    all_goals (go_wp2; go_meet; case rel => exact Lib.hid ((HS2.out.set1 a').set2 b'))
  case rest =>
    have HC := Lib.hid hcut.out
    clear hcut x0 x1 y0 y1
    obtain ⟨x0, x1, y0, y1⟩ := HC.out.cells
    obtain ⟨v0, v1⟩ := nv2 HC.out.h3
    have hf3 : ∀ j, wc.frozen? ⟨w.heap.size + 1 + 1, j, none⟩ = false := fun j => (HC.out.frozen j).2.2
    have HE : Hid (∀ x : Val, Below w.heap.size w ((wc.setCell ⟨w.heap.size + 1 + 1, 0, none⟩ (.int .i64 x.kind)).setCell ⟨w.heap.size + 1 + 1, 1, none⟩ (.int .i64 x.n)) ∧ ((wc.setCell ⟨w.heap.size + 1 + 1, 0, none⟩ (.int .i64 x.kind)).setCell ⟨w.heap.size + 1 + 1, 1, none⟩ (.int .i64 x.n)).heap[w.heap.size + 1 + 1]? = some (vlO x)) := Lib.hid (fun x => ⟨(HC.out.hb.setCell (by simp <;> omega) _).setCell (by simp <;> omega) _, set2 HC.out.h3 _ _⟩)
    by_cases ha : a'.kind = 0
    · have t0 : ((a'.kind : Int) == 0) = true := by simpa using ha
      have HR : Hid (joinP a b = b') := Lib.hid (by rw [HJ.out, if_pos ha])
      clear ha
      go_wp2
      obtain ⟨z0, z1⟩ := nv2 (HE.out b').2
      rw [HR.out]
      exact bodyPost_ret (v := vlV b') (by simp [results, Try.results106, go_sem, z0, z1]) rfl ⟨rfl, (HE.out b').1⟩
    · have t0 : ((a'.kind : Int) == 0) = false := by simpa using ha
      by_cases hb : b'.kind = 0
      · have t1 : ((b'.kind : Int) == 0) = true := by simpa using hb
        have HR : Hid (joinP a b = a') := Lib.hid (by rw [HJ.out, if_neg ha, if_pos (.inl hb)])
        clear ha hb
        go_wp2
        obtain ⟨z0, z1⟩ := nv2 (HE.out a').2
        rw [HR.out]
        exact bodyPost_ret (v := vlV a') (by simp [results, Try.results106, go_sem, z0, z1]) rfl ⟨rfl, (HE.out a').1⟩
      · have t1 : ((b'.kind : Int) == 0) = false := by simpa using hb
        by_cases he : a' = b'
        · have HR : Hid (joinP a b = a') := Lib.hid (by rw [HJ.out, if_neg ha, if_pos (.inr he)])
          clear ha hb
          subst he
          go_wp2
          obtain ⟨z0, z1⟩ := nv2 (HE.out a').2
          rw [HR.out]
          exact bodyPost_ret (v := vlV a') (by simp [results, Try.results106, go_sem, z0, z1]) rfl ⟨rfl, (HE.out a').1⟩
        · have HR : Hid (joinP a b = ⟨2, 0⟩) := Lib.hid (by rw [HJ.out, if_neg ha, if_neg (fun h => h.elim hb he)])
          have HN : Hid (a'.kind = b'.kind → a'.n = b'.n → False) := Lib.hid (fun h1 h2 => he ((Val.ext_iff' _ _).1 ⟨h1, h2⟩))
          clear ha hb he
          go_wp2
          all_goals first
            | (exfalso; exact HN.out (by assumption) (by assumption))
            | (obtain ⟨z0, z1⟩ := nv2 (HE.out ⟨2, 0⟩).2
               rw [HR.out]
               exact bodyPost_ret (v := vlV ⟨2, 0⟩) (by simp [results, Try.results106, go_sem, z0, z1]) rfl ⟨rfl, (HE.out ⟨2, 0⟩).1⟩)
theorem joinP_eq {a b : Val} (ha : a.kind = 0 ∨ a.kind = 2 → a.n = 0) (hb : b.kind = 0 ∨ b.kind = 2 → b.n = 0) : joinP a b = joinV a b := by
  have h : ∀ v : Val, (v.kind = 0 ∨ v.kind = 2 → v.n = 0) → plainV v = v := by
    intro v hv
    unfold plainV
    split
    · rename_i h; rw [← Val.ext_iff']; exact ⟨rfl, (hv h).symm⟩
    · rfl
  unfold joinP joinV
  rw [h a ha, h b hb]
  by_cases h0 : a.kind = 0
  · rw [if_pos h0, if_pos h0]
  · rw [if_neg h0, if_neg h0]
    by_cases h1 : b.kind = 0
    · rw [if_pos (.inl h1), if_pos h1]
    · rw [if_neg h1]
      by_cases h2 : a = b
      · rw [if_pos (.inr h2), if_pos h2]
      · rw [if_neg (fun h => h.elim h1 h2), if_neg h2]
theorem okV_plain {a : Val} (h : OkV a) : a.kind = 0 ∨ a.kind = 2 → a.n = 0 := by
  rcases h with h | h | h
  · exact fun _ => h.2
  · intro e; have := h.1; omega
  · exact fun _ => h.2
theorem joinP_ok {a b : Val} (ha : OkV a) (hb : OkV b) : joinP a b = joinV a b := joinP_eq (okV_plain ha) (okV_plain hb)
end Go.Proofs.Ytpajndeongcjbaa
