/-
  The contract of newParser.
-/
import Derived.Test.YtaamllikceaifaaGreatDoorIter
import Derived.IntWalk
namespace Go.Proofs.YtaamllikceaifaaGreatDoor
open Go.RowKit Sp Tr Go.Shelf
set_option linter.unusedVariables false

/-- A parser that is being made: so many of its first types are there. -/
structure NewIn (w0 w : World) (g cap : Nat) (ts : List Tok) (fin : Tok) (k : Nat) (vt : Value) : Prop where
  head : w.heap[w0.heap.size]? = some (.cells (pCells ⟨w0.heap.size, g, cap, w0.heap.size⟩ (.slice none 0 0) vt ⟨ts, fin⟩ ⟨0, 0, [], []⟩) 76 (0, 0))
  row : w.ownsRow w0.heap.size 36 4 vt k ((start0.types.take k).flatMap tyCells)
  apart : vt.ownBlock ≠ some w0.heap.size
  below : Below w0.heap.size w0 w
theorem NewIn.step {w0 w w2 w1 : World} {g cap : Nat} {ts : List Tok} {fin : Tok} {k H : Nat} {vt v' : Value} {x : Ty} (h : NewIn w0 w g cap ts fin k vt) (hb : Below w.heap.size w w2) (hg : w2.grownBy w1 vt.ownBlock)
    (hx : start0.types[k]? = some x) (hown : w1.ownsRow w0.heap.size 36 4 v' (k + 1) ((start0.types.take k).flatMap tyCells ++ tyCells x)) (hat : vt.ownBlock = v'.ownBlock ∨ v'.ownBlock = some H) (hH : w.heap.size ≤ H) :
    NewIn w0 (w1.setCell ⟨w0.heap.size, 8, none⟩ v') g cap ts fin (k + 1) v' := by
  have hp := lt_heap h.head
  have hsz := hb.size
  have hz : ∀ k, k ≠ w0.heap.size → (w1.setCell ⟨w0.heap.size, 8, none⟩ v').heap[k]? = w1.heap[k]? := fun k hk => Below.heap_setCell _ _ _ _ (by simpa using hk)
  have hap : v'.ownBlock ≠ some w0.heap.size := by
    rcases hat with e | e
    · rw [← e]; exact h.apart
    · rw [e]; intro e; injection e with e; omega
  have hh : w1.heap[w0.heap.size]? = _ := (hg.block _ (Nat.lt_of_lt_of_le hp hsz) (Ne.symm h.apart)).trans ((hb.block _ hp).trans h.head)
  refine ⟨by rw [cells_set hh]; rfl, ?_, hap, ?_⟩
  · have e2 : (start0.types.take (k + 1)).flatMap tyCells = (start0.types.take k).flatMap tyCells ++ tyCells x := by rw [List.take_add_one, hx]; simp
    rw [e2]
    exact own_keep hown fun g hgg => hz g (fun e => hap (by rw [hgg, e]))
  · exact ((h.below.trans (hb.mono h.below.size)).grown hg (by have := h.below.size; omega) (fun k e => (h.row.lt k e).1)).setCell (p := ⟨w0.heap.size, 8, none⟩) (Nat.le_refl _) _
theorem kindAt {k : Nat} (hk : k < 4) : start0.types[k]? = some ⟨k, 0, 0, []⟩ := by
  match k, hk with
  | 0, _ => rfl
  | 1, _ => rfl
  | 2, _ => rfl
  | 3, _ => rfl
set_option maxHeartbeats 2000000 in
theorem newParser_p {w : World} {g cap : Nat} {ts : List Tok} {fin : Tok} (hg0 : 0 < g) (hfin : fin.k = 0) (hlen : ts.length ≤ 32768) (hcap : ts.length + 1 ≤ cap) (hcm : cap ≤ maxLen)
    (htk : ∃ cs ty, w.heap[g]? = some (.cells cs ty (0, 0)) ∧ ∀ i t, (ts ++ [fin])[i]? = some t → ∀ j, j < 4 → cs[i * 4 + j]? = (tkCells t)[j]?)
    (hnm : ∃ ty fr, w.heap[0]? = some (.cells namesV ty fr)) (hkn : ∀ t, t ∈ fin :: ts → 0 ≤ t.k ∧ t.k ≤ 4 ∧ (t.n : Int) ≤ 4294967295 ∧ (t.pos : Int) ≤ 32768 ∧ t.text.length ≤ 32768) :
    Calls Tryz.prog 25 #[.slice (some ⟨g, 0, none⟩) (ts.length + 1) cap] w fun e w' => ∃ vt, e = .returned (.pointer (some ⟨w.heap.size, 0, none⟩)) ∧ PIn w' ⟨w.heap.size, g, cap, w.heap.size⟩ (.slice none 0 0) vt ⟨ts, fin⟩ start0 ∧ Below w.heap.size w w' := by
  obtain ⟨cs, ty, hgg, htc⟩ := htk
  have hgl := lt_heap hgg
  have hl := htc ts.length fin (by simp)
  have e0 : w.cell? ⟨g, ts.length * 4, none⟩ = some (.int .i64 fin.k) := by rw [cell_of_row w g _ _ _ _ hgg]; exact hl 0 (by omega)
  have e1 : w.cell? ⟨g, ts.length * 4 + 1, none⟩ = some (.string (bt fin.text)) := by rw [cell_of_row w g _ _ _ _ hgg]; exact hl 1 (by omega)
  have e2 : w.cell? ⟨g, ts.length * 4 + 2, none⟩ = some (.int .i64 fin.n) := by rw [cell_of_row w g _ _ _ _ hgg]; exact hl 2 (by omega)
  have e3 : w.cell? ⟨g, ts.length * 4 + 3, none⟩ = some (.int .i64 fin.pos) := by rw [cell_of_row w g _ _ _ _ hgg]; exact hl 3 (by omega)
  obtain ⟨k1, k2, k3, k4, k5⟩ := hkn fin (List.mem_cons_self ..)
  have z0 : decide ((0 : Int) ≤ (ts.length : Int)) = true := by simp
  have HK := Lib.hid hkn; clear hkn
  have HC := Lib.hid htc; clear htc
  have HG := Lib.hid hgg; clear hgg hl
  have HNm := Lib.hid hnm; clear hnm
  have e4 : ((fin.k : Int) == 0) = true := by simp [hfin]
  have q0 : (0 : Int) ≤ (ts.length : Int) := Int.natCast_nonneg _
  have q1 : (ts.length : Int) < (ts.length : Int) + 1 := by omega
  have q2 : (ts.length : Int) ≤ (cap : Int) := by omega
  have hwr : IntKind.i64.wrap ((fin.pos : Int) + (fin.text.length : Int)) = (fin.pos : Int) + (fin.text.length : Int) := IntWalk.i64_in _ (by omega)
  go_enter Tryz.func25, Tryz.ntmps25
  go_wp2
  refine region_last (fun w' : World => w'.cell? ⟨g, ts.length * 4, none⟩ = some (.int .i64 fin.k) ∧ w'.cell? ⟨g, ts.length * 4 + 1, none⟩ = some (.string (bt fin.text)) ∧ w'.cell? ⟨g, ts.length * 4 + 2, none⟩ = some (.int .i64 fin.n) ∧ w'.cell? ⟨g, ts.length * 4 + 3, none⟩ = some (.int .i64 fin.pos)) 16 (by kernel_rfl) ?_
  have hHeld : (fun w' : World => w'.cell? ⟨g, ts.length * 4, none⟩ = some (.int .i64 fin.k) ∧ w'.cell? ⟨g, ts.length * 4 + 1, none⟩ = some (.string (bt fin.text)) ∧ w'.cell? ⟨g, ts.length * 4 + 2, none⟩ = some (.int .i64 fin.n) ∧ w'.cell? ⟨g, ts.length * 4 + 3, none⟩ = some (.int .i64 fin.pos)) (w.alloc (.cells #[.slice (some ⟨g, 0, none⟩) (ts.length + 1) cap, .int .i64 0, .string ⟨#[]⟩, .int .i64 0, .int .i64 0, .int .i64 0, .int .i64 0, .slice none 0 0, .slice none 0 0, .int .i64 0, .int .i64 0] 76)).drew := by
    dsimp only
    go_keep
  refine anyL_take (i := 0) (v := ?_) rfl rfl (by kernel_rfl) (by kernel_rfl) (by kernel_rfl) (by kernel_rfl) (fun _ _ _ h => h) (Or.inl ⟨by rfl, ?_⟩) hHeld ?_
  rotate_left
  · (intro w' hSw; (try dsimp only at hSw); go_simp; first | done | with_reducible rfl)
  simp only [Act.put]
  refine anyL_take (i := 1) (v := ?_) rfl rfl (by kernel_rfl) (by kernel_rfl) (by kernel_rfl) (by kernel_rfl) (fun _ _ _ h => h) (Or.inl ⟨by rfl, ?_⟩) hHeld ?_
  rotate_left
  · (intro w' hSw; (try dsimp only at hSw); go_simp; first | done | with_reducible rfl)
  simp only [Act.put]
  refine anyL_take (i := 2) (v := ?_) rfl rfl (by kernel_rfl) (by kernel_rfl) (by kernel_rfl) (by kernel_rfl) (fun _ _ _ h => h) (Or.inl ⟨by rfl, ?_⟩) hHeld ?_
  rotate_left
  · (intro w' hSw; (try dsimp only at hSw); go_simp; first | done | with_reducible rfl)
  simp only [Act.put]
  refine anyL_take (i := 3) (v := ?_) rfl rfl (by kernel_rfl) (by kernel_rfl) (by kernel_rfl) (by kernel_rfl) (fun _ _ _ h => h) (Or.inl ⟨by rfl, ?_⟩) hHeld ?_
  rotate_left
  · (intro w' hSw; (try dsimp only at hSw); go_simp; first | done | with_reducible rfl)
  simp only [Act.put]
  refine anyL_take (i := 4) (v := ?_) rfl rfl (by kernel_rfl) (by kernel_rfl) (by kernel_rfl) (by kernel_rfl) (fun _ _ _ h => h) (Or.inl ⟨by rfl, ?_⟩) hHeld ?_
  rotate_left
  · (intro w' hSw; (try dsimp only at hSw); go_simp; first | done | with_reducible rfl)
  simp only [Act.put]
  refine anyL_take (i := 5) (v := ?_) rfl rfl (by kernel_rfl) (by kernel_rfl) (by kernel_rfl) (by kernel_rfl) (fun _ _ _ h => h) (Or.inl ⟨by rfl, ?_⟩) hHeld ?_
  rotate_left
  · (intro w' hSw; (try dsimp only at hSw); go_simp; first | done | with_reducible rfl)
  simp only [Act.put]
  refine anyL_take (i := 6) (v := ?_) rfl rfl (by kernel_rfl) (by kernel_rfl) (by kernel_rfl) (by kernel_rfl) (fun _ _ _ h => h) (Or.inl ⟨by rfl, ?_⟩) hHeld ?_
  rotate_left
  · (intro w' hSw; (try dsimp only at hSw); go_simp; first | done | with_reducible rfl)
  simp only [Act.put]
  refine anyL_take (i := 7) (v := ?_) rfl rfl (by kernel_rfl) (by kernel_rfl) (by kernel_rfl) (by kernel_rfl) (fun _ _ _ h => h) (Or.inl ⟨by rfl, ?_⟩) hHeld ?_
  rotate_left
  · (intro w' hSw; (try dsimp only at hSw); go_simp; first | done | with_reducible rfl)
  simp only [Act.put]
  refine anyL_take (i := 8) (v := ?_) rfl rfl (by kernel_rfl) (by kernel_rfl) (by kernel_rfl) (by kernel_rfl) (fun _ _ _ h => h) (Or.inl ⟨by rfl, ?_⟩) hHeld ?_
  rotate_left
  · (intro w' hSw; (try dsimp only at hSw); go_simp; first | done | with_reducible rfl)
  simp only [Act.put]
  refine anyL_take (i := 9) (v := ?_) rfl rfl (by kernel_rfl) (by kernel_rfl) (by kernel_rfl) (by kernel_rfl) (fun _ _ _ h => h) (Or.inl ⟨by rfl, ?_⟩) hHeld ?_
  rotate_left
  · (intro w' hSw; (try dsimp only at hSw); go_simp; first | done | with_reducible rfl)
  simp only [Act.put]
  refine anyL_take (i := 10) (v := ?_) rfl rfl (by kernel_rfl) (by kernel_rfl) (by kernel_rfl) (by kernel_rfl) (fun _ _ _ h => h) (Or.inl ⟨by rfl, ?_⟩) hHeld ?_
  rotate_left
  · (intro w' hSw; (try dsimp only at hSw); go_simp; first | done | with_reducible rfl)
  simp only [Act.put]
  refine anyL_take (i := 11) (v := ?_) rfl rfl (by kernel_rfl) (by kernel_rfl) (by kernel_rfl) (by kernel_rfl) (fun _ _ _ h => h) (Or.inl ⟨by rfl, ?_⟩) hHeld ?_
  rotate_left
  · (intro w' hSw; (try dsimp only at hSw); go_simp; first | done | with_reducible rfl)
  simp only [Act.put]
  refine anyL_take (i := 12) (v := ?_) rfl rfl (by kernel_rfl) (by kernel_rfl) (by kernel_rfl) (by kernel_rfl) (fun _ _ _ h => h) (Or.inl ⟨by rfl, ?_⟩) hHeld ?_
  rotate_left
  · (intro w' hSw; (try dsimp only at hSw); go_simp; first | done | with_reducible rfl)
  simp only [Act.put]
  refine anyL_one (i := 13) (by kernel_rfl) rfl (fun K1 hK1 => ?_)
  go_simp
  refine hK1.out _ _ (fun _ => hHeld) ?_
  clear hK1 K1
  refine anyL_one (i := 14) (by kernel_rfl) rfl (fun K1 hK1 => ?_)
  go_simp
  refine hK1.out _ _ (fun _ => hHeld) ?_
  clear hK1 K1
  refine anyL_one (i := 15) (by kernel_rfl) rfl (fun K1 hK1 => ?_)
  go_simp
  refine hK1.out _ _ (fun _ => hHeld) ?_
  clear hK1 K1
  refine anyL_one (i := 16) (by kernel_rfl) rfl (fun K1 hK1 => ?_)
  go_simp
  refine hK1.out _ _ (fun h => absurd rfl h) ?_
  clear hK1 K1 hHeld
  refine anyL_done (by kernel_rfl) ?_ _
  go_wp2
  refine region_last (fun w' : World => w'.cell? ⟨g, ts.length * 4, none⟩ = some (.int .i64 fin.k) ∧ w'.cell? ⟨g, ts.length * 4 + 1, none⟩ = some (.string (bt fin.text)) ∧ w'.cell? ⟨g, ts.length * 4 + 2, none⟩ = some (.int .i64 fin.n) ∧ w'.cell? ⟨g, ts.length * 4 + 3, none⟩ = some (.int .i64 fin.pos)) 14 (by kernel_rfl) ?_
  have hHeld : (fun w' : World => w'.cell? ⟨g, ts.length * 4, none⟩ = some (.int .i64 fin.k) ∧ w'.cell? ⟨g, ts.length * 4 + 1, none⟩ = some (.string (bt fin.text)) ∧ w'.cell? ⟨g, ts.length * 4 + 2, none⟩ = some (.int .i64 fin.n) ∧ w'.cell? ⟨g, ts.length * 4 + 3, none⟩ = some (.int .i64 fin.pos)) (w.alloc (.cells #[.slice (some ⟨g, 0, none⟩) (ts.length + 1) cap, .int .i64 0, .string ⟨#[]⟩, .int .i64 0, .int .i64 ((fin.pos : Int) + fin.text.length), .int .i64 0, .int .i64 0, .slice none 0 0, .slice none 0 0, .int .i64 0, .int .i64 0] 76)).drew.drew := by
    dsimp only
    go_keep
  refine anyL_take (i := 0) (v := ?_) rfl rfl (by kernel_rfl) (by kernel_rfl) (by kernel_rfl) (by kernel_rfl) (fun _ _ _ h => h) (Or.inl ⟨by rfl, ?_⟩) hHeld ?_
  rotate_left
  · (intro w' hSw; (try dsimp only at hSw); go_simp; first | done | with_reducible rfl)
  simp only [Act.put]
  refine anyL_take (i := 1) (v := ?_) rfl rfl (by kernel_rfl) (by kernel_rfl) (by kernel_rfl) (by kernel_rfl) (fun _ _ _ h => h) (Or.inl ⟨by rfl, ?_⟩) hHeld ?_
  rotate_left
  · (intro w' hSw; (try dsimp only at hSw); go_simp; first | done | with_reducible rfl)
  simp only [Act.put]
  refine anyL_take (i := 2) (v := ?_) rfl rfl (by kernel_rfl) (by kernel_rfl) (by kernel_rfl) (by kernel_rfl) (fun _ _ _ h => h) (Or.inl ⟨by rfl, ?_⟩) hHeld ?_
  rotate_left
  · (intro w' hSw; (try dsimp only at hSw); go_simp; first | done | with_reducible rfl)
  simp only [Act.put]
  refine anyL_take (i := 3) (v := ?_) rfl rfl (by kernel_rfl) (by kernel_rfl) (by kernel_rfl) (by kernel_rfl) (fun _ _ _ h => h) (Or.inl ⟨by rfl, ?_⟩) hHeld ?_
  rotate_left
  · (intro w' hSw; (try dsimp only at hSw); go_simp; first | done | with_reducible rfl)
  simp only [Act.put]
  refine anyL_take (i := 4) (v := ?_) rfl rfl (by kernel_rfl) (by kernel_rfl) (by kernel_rfl) (by kernel_rfl) (fun _ _ _ h => h) (Or.inl ⟨by rfl, ?_⟩) hHeld ?_
  rotate_left
  · (intro w' hSw; (try dsimp only at hSw); go_simp; first | done | with_reducible rfl)
  simp only [Act.put]
  refine anyL_take (i := 5) (v := ?_) rfl rfl (by kernel_rfl) (by kernel_rfl) (by kernel_rfl) (by kernel_rfl) (fun _ _ _ h => h) (Or.inl ⟨by rfl, ?_⟩) hHeld ?_
  rotate_left
  · (intro w' hSw; (try dsimp only at hSw); go_simp; first | done | with_reducible rfl)
  simp only [Act.put]
  refine anyL_take (i := 6) (v := ?_) rfl rfl (by kernel_rfl) (by kernel_rfl) (by kernel_rfl) (by kernel_rfl) (fun _ _ _ h => h) (Or.inl ⟨by rfl, ?_⟩) hHeld ?_
  rotate_left
  · (intro w' hSw; (try dsimp only at hSw); go_simp; first | done | with_reducible rfl)
  simp only [Act.put]
  refine anyL_take (i := 7) (v := ?_) rfl rfl (by kernel_rfl) (by kernel_rfl) (by kernel_rfl) (by kernel_rfl) (fun _ _ _ h => h) (Or.inl ⟨by rfl, ?_⟩) hHeld ?_
  rotate_left
  · (intro w' hSw; (try dsimp only at hSw); go_simp; first | done | with_reducible rfl)
  simp only [Act.put]
  refine anyL_take (i := 8) (v := ?_) rfl rfl (by kernel_rfl) (by kernel_rfl) (by kernel_rfl) (by kernel_rfl) (fun _ _ _ h => h) (Or.inl ⟨by rfl, ?_⟩) hHeld ?_
  rotate_left
  · (intro w' hSw; (try dsimp only at hSw); go_simp; first | done | with_reducible rfl)
  simp only [Act.put]
  refine anyL_one (i := 9) (by kernel_rfl) rfl (fun K1 hK1 => ?_)
  go_simp
  refine hK1.out _ _ (fun _ => hHeld) ?_
  clear hK1 K1
  refine anyL_one (i := 10) (by kernel_rfl) rfl (fun K1 hK1 => ?_)
  go_simp
  refine hK1.out _ _ (fun _ => hHeld) ?_
  clear hK1 K1
  refine anyL_one (i := 11) (by kernel_rfl) rfl (fun K1 hK1 => ?_)
  go_simp
  clear hHeld
  have hHeld : (fun w' : World => w'.cell? ⟨g, ts.length * 4, none⟩ = some (.int .i64 fin.k) ∧ w'.cell? ⟨g, ts.length * 4 + 1, none⟩ = some (.string (bt fin.text)) ∧ w'.cell? ⟨g, ts.length * 4 + 2, none⟩ = some (.int .i64 fin.n) ∧ w'.cell? ⟨g, ts.length * 4 + 3, none⟩ = some (.int .i64 fin.pos)) (w.alloc (.cells #[.slice (some ⟨g, 0, none⟩) ts.length cap, .int .i64 0, .string ⟨#[]⟩, .int .i64 0, .int .i64 ((fin.pos : Int) + fin.text.length), .int .i64 0, .int .i64 0, .slice none 0 0, .slice none 0 0, .int .i64 0, .int .i64 0] 76)).drew.drew := by
    dsimp only
    go_keep
  refine hK1.out _ _ (fun _ => hHeld) ?_
  clear hK1 K1
  refine anyL_one (i := 12) (by kernel_rfl) rfl (fun K1 hK1 => ?_)
  go_simp
  refine hK1.out _ _ (fun _ => hHeld) ?_
  clear hK1 K1
  refine anyL_one (i := 13) (by kernel_rfl) rfl (fun K1 hK1 => ?_)
  go_simp
  refine hK1.out _ _ (fun _ => hHeld) ?_
  clear hK1 K1
  refine anyL_one (i := 14) (by kernel_rfl) rfl (fun K1 hK1 => ?_)
  go_simp
  refine hK1.out _ _ (fun h => absurd rfl h) ?_
  clear hK1 K1 hHeld
  refine anyL_done (by kernel_rfl) ?_ _
  obtain ⟨i0, hi0, hz0, hz1, hz2⟩ := info_parts infoTy
  go_wp2
  go_loopw [49] (fun s49 wr => ∃ (k : Nat) (vt : Value), k ≤ 4 ∧ s49 = .int .i64 k ∧ Hid (NewIn w wr g cap ts fin k vt)) (fun s49 _ => 4 - (intOf s49).toNat)
  case atStart =>
    refine ⟨0, .slice none 0 0, by omega, rfl, Lib.hid ⟨?_, ⟨rfl, .inl ⟨rfl, rfl⟩⟩, by simp [Value.ownBlock], ((Below.refl _ _).alloc (Nat.le_refl _) _).drew.drew⟩⟩
    refine (heap_alloc_new w _).trans ?_
    unfold pCells
    rw [hfin]
    rfl
  case round =>
    obtain ⟨k, vt, hk, rfl, HN⟩ := hrel
    have ch : wr.cell? ⟨w.heap.size, 8, none⟩ = some vt := by rw [cell_of_row wr _ _ _ _ _ HN.out.head]; rfl
    have hpl := lt_heap HN.out.head
    by_cases hlt : k < 4
    · have q5 : (k : Int) < 4 := by omega
      obtain ⟨a, cp, rfl⟩ := row_slice HN.out.row
      have hrow := HN.out.row
      go_wp2_with (at_builtin; refine wpList_append_lies _ rfl (.tmp 57) (.tmp 60) 24 rfl w.heap.size 36 i0 _ 4 40 Tryz.underlying24 hi0 hz0 hz1 hz2 rfl (by omega) _ k ((start0.types.take k).flatMap tyCells) rfl (hrow.alloc _) ⟨wr.heap.size, 0, none⟩ 1 1 (tyCells ⟨k, 0, 0, []⟩) rfl rfl (World.news_of_block (cs := #[.int .i64 k, .int .i64 0, .int .i64 0, .string ⟨#[]⟩]) (heap_alloc_new wr _)) (by simp [tyCells, Value.oneCell']) (by omega) (by unfold maxLen; omega) (by omega) (by have := HN.out.below.size; simp; omega) (wr.heap.size + 1) (by simp) ?_; intro g2 cap2 w1 hown1 hgrow hat hlt1; have HS := Lib.hid (NewIn.step (H := wr.heap.size + 1) HN.out ((Below.refl _ _).alloc (Nat.le_refl _) _) hgrow (kindAt hlt) hown1 (hat.imp (fun e => e) (fun e => by simp [Value.ownBlock, e])) (by omega)); have hh1 : w1.heap[w.heap.size]? = _ := (hgrow.block _ (by simp; omega) (Ne.symm HN.out.apart)).trans ((Below.heap_alloc _ _ _ hpl).trans HN.out.head); have ch1 : w1.cell? ⟨w.heap.size, 8, none⟩ = some (.slice a k cp) := (by rw [cell_of_row w1 _ _ _ _ _ hh1]; rfl); have cf1 : w1.frozen? ⟨w.heap.size, 8, none⟩ = false := (by simp [World.frozen?, hh1]); clear hown1 hgrow hat hh1)
      go_roundw
      case rel => exact ⟨k + 1, _, by omega, by go_num, HS⟩
      case measure => simp [intOf]; omega
    · obtain rfl : k = 4 := by omega
      go_wp2
      go_ret
      refine ⟨vt, rfl, ?_, HN.out.below⟩
      have hN := HN.out
      exact ⟨hN.head, ⟨cs, ty, (hN.below.block _ hgl).trans HG.out, fun i t hi j hj => HC.out i t (by rw [List.getElem?_append_left (List.getElem?_eq_some_iff.1 hi).1]; exact hi) j hj⟩, ⟨rfl, .inl ⟨rfl, rfl⟩⟩, hN.row, (by obtain ⟨ty2, fr2, hn⟩ := HNm.out; exact ⟨ty2, fr2, (hN.below.block _ (lt_heap hn)).trans hn⟩), hg0, hgl, Nat.le_refl _, by simp [Value.ownBlock], hN.apart, fun k e => by simp [Value.ownBlock] at e, by simp [start0], by simp [start0], by simp [start0], by simp [start0], hlen, HK.out⟩
end Go.Proofs.YtaamllikceaifaaGreatDoor
