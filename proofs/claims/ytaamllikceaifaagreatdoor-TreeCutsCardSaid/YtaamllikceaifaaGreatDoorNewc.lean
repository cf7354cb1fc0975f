/-
  The contract of newParser, of a list that does not end with End.
-/
import Derived.Test.YtaamllikceaifaaGreatDoorNewp
import Derived.IntWalk
namespace Go.Proofs.YtaamllikceaifaaGreatDoor
open Go.RowKit Sp Tr Go.Shelf
set_option linter.unusedVariables false

set_option maxHeartbeats 2000000 in
theorem newParser_c {w : World} {g cap m : Nat} {ts : List Tok} {t : Tok} (hg0 : 0 < g) (hm : ts.length = m + 1) (ht : ts[m]? = some t) (htz : t.k ≠ 0) (hlen : ts.length ≤ 32768) (hcap : ts.length ≤ cap) (hcm : cap ≤ maxLen) (htp : t.pos + t.text.length ≤ 32768)
    (htk : ∃ cs ty, w.heap[g]? = some (.cells cs ty (0, 0)) ∧ ∀ i t, ts[i]? = some t → ∀ j, j < 4 → cs[i * 4 + j]? = (tkCells t)[j]?)
    (hnm : ∃ ty fr, w.heap[0]? = some (.cells namesV ty fr)) (hkn : ∀ t, t ∈ ts → 0 ≤ t.k ∧ t.k ≤ 4 ∧ (t.n : Int) ≤ 4294967295 ∧ (t.pos : Int) ≤ 32768 ∧ t.text.length ≤ 32768) :
    Calls Tryz.prog 25 #[.slice (some ⟨g, 0, none⟩) (m + 1) cap] w fun e w' => ∃ vt, e = .returned (.pointer (some ⟨w.heap.size, 0, none⟩)) ∧ PIn w' ⟨w.heap.size, g, cap, w.heap.size⟩ (.slice none 0 0) vt ⟨ts, ⟨0, [], 0, t.pos + t.text.length⟩⟩ start0 ∧ Below w.heap.size w w' := by
  obtain ⟨cs, ty, hgg, htc⟩ := htk
  have hgl := lt_heap hgg
  have hl := htc m t ht
  have e0 : w.cell? ⟨g, m * 4, none⟩ = some (.int .i64 t.k) := by rw [cell_of_row w g _ _ _ _ hgg]; exact hl 0 (by omega)
  have e1 : w.cell? ⟨g, m * 4 + 1, none⟩ = some (.string (bt t.text)) := by rw [cell_of_row w g _ _ _ _ hgg]; exact hl 1 (by omega)
  have e2 : w.cell? ⟨g, m * 4 + 2, none⟩ = some (.int .i64 t.n) := by rw [cell_of_row w g _ _ _ _ hgg]; exact hl 2 (by omega)
  have e3 : w.cell? ⟨g, m * 4 + 3, none⟩ = some (.int .i64 t.pos) := by rw [cell_of_row w g _ _ _ _ hgg]; exact hl 3 (by omega)
  obtain ⟨k1, k2, k3, k4, k5⟩ := hkn t (List.mem_of_getElem? ht)
  have z0 : decide ((0 : Int) ≤ (m : Int)) = true := by simp
  have HK := Lib.hid hkn; clear hkn
  have HC := Lib.hid htc; clear htc
  have HG := Lib.hid hgg; clear hgg hl
  have HNm := Lib.hid hnm; clear hnm
  have HM := Lib.hid hm
  have HL := Lib.hid hlen
  have HTP := Lib.hid htp
  have e4 : ((t.k : Int) == 0) = false := by simp [htz]
  have q0 : (0 : Int) ≤ (m : Int) := Int.natCast_nonneg _
  have q1 : (m : Int) < (m : Int) + 1 := by omega
  have q2 : (m : Int) ≤ (cap : Int) := by omega
  have hwr : IntKind.i64.wrap ((t.pos : Int) + (t.text.length : Int)) = (t.pos : Int) + (t.text.length : Int) := IntWalk.i64_in _ (by omega)
  have q3 : m ≤ 32768 := by omega
  have q4 : m + 1 ≤ cap := by omega
  clear ht hm hlen htz htp
  go_enter Tryz.func25, Tryz.ntmps25
  go_wp2
  refine region_last (fun w' : World => w'.cell? ⟨g, m * 4, none⟩ = some (.int .i64 t.k) ∧ w'.cell? ⟨g, m * 4 + 1, none⟩ = some (.string (bt t.text)) ∧ w'.cell? ⟨g, m * 4 + 2, none⟩ = some (.int .i64 t.n) ∧ w'.cell? ⟨g, m * 4 + 3, none⟩ = some (.int .i64 t.pos)) 16 (by kernel_rfl) ?_
  have hHeld : (fun w' : World => w'.cell? ⟨g, m * 4, none⟩ = some (.int .i64 t.k) ∧ w'.cell? ⟨g, m * 4 + 1, none⟩ = some (.string (bt t.text)) ∧ w'.cell? ⟨g, m * 4 + 2, none⟩ = some (.int .i64 t.n) ∧ w'.cell? ⟨g, m * 4 + 3, none⟩ = some (.int .i64 t.pos)) (w.alloc (.cells #[.slice (some ⟨g, 0, none⟩) (m + 1) cap, .int .i64 0, .string ⟨#[]⟩, .int .i64 0, .int .i64 0, .int .i64 0, .int .i64 0, .slice none 0 0, .slice none 0 0, .int .i64 0, .int .i64 0] 76)).drew := by
    dsimp only
    go_keep
  refine anyL_take (i := 0) (v := ?_) rfl rfl (by kernel_rfl) (by kernel_rfl) (by kernel_rfl) (by kernel_rfl) (fun _ _ _ h => h) (Or.inl ⟨by rfl, ?_⟩) hHeld ?_
  rotate_left
  · (intro w' hSw; (try dsimp only at hSw); go_simp; first | done | with_reducible rfl)
  simp only [Act.put]
  refine anyL_take (i := 1) (v := ?_) rfl rfl (by kernel_rfl) (by kernel_rfl) (by kernel_rfl) (by kernel_rfl) (fun _ _ _ h => h) (Or.inl ⟨by rfl, ?_⟩) hHeld ?_
  rotate_left
  · (intro w' hSw; (try dsimp only at hSw); go_simp; first | done | with_reducible rfl)
  simp only [Act.put]
  refine anyL_take (i := 2) (v := ?_) rfl rfl (by kernel_rfl) (by kernel_rfl) (by kernel_rfl) (by kernel_rfl) (fun _ _ _ h => h) (Or.inl ⟨by rfl, ?_⟩) hHeld ?_
  rotate_left
  · (intro w' hSw; (try dsimp only at hSw); go_simp; first | done | with_reducible rfl)
  simp only [Act.put]
  refine anyL_take (i := 3) (v := ?_) rfl rfl (by kernel_rfl) (by kernel_rfl) (by kernel_rfl) (by kernel_rfl) (fun _ _ _ h => h) (Or.inl ⟨by rfl, ?_⟩) hHeld ?_
  rotate_left
  · (intro w' hSw; (try dsimp only at hSw); go_simp; first | done | with_reducible rfl)
  simp only [Act.put]
  refine anyL_take (i := 4) (v := ?_) rfl rfl (by kernel_rfl) (by kernel_rfl) (by kernel_rfl) (by kernel_rfl) (fun _ _ _ h => h) (Or.inl ⟨by rfl, ?_⟩) hHeld ?_
  rotate_left
  · (intro w' hSw; (try dsimp only at hSw); go_simp; first | done | with_reducible rfl)
  simp only [Act.put]
  refine anyL_take (i := 5) (v := ?_) rfl rfl (by kernel_rfl) (by kernel_rfl) (by kernel_rfl) (by kernel_rfl) (fun _ _ _ h => h) (Or.inl ⟨by rfl, ?_⟩) hHeld ?_
  rotate_left
  · (intro w' hSw; (try dsimp only at hSw); go_simp; first | done | with_reducible rfl)
  simp only [Act.put]
  refine anyL_take (i := 6) (v := ?_) rfl rfl (by kernel_rfl) (by kernel_rfl) (by kernel_rfl) (by kernel_rfl) (fun _ _ _ h => h) (Or.inl ⟨by rfl, ?_⟩) hHeld ?_
  rotate_left
  · (intro w' hSw; (try dsimp only at hSw); go_simp; first | done | with_reducible rfl)
  simp only [Act.put]
  refine anyL_take (i := 7) (v := ?_) rfl rfl (by kernel_rfl) (by kernel_rfl) (by kernel_rfl) (by kernel_rfl) (fun _ _ _ h => h) (Or.inl ⟨by rfl, ?_⟩) hHeld ?_
  rotate_left
  · (intro w' hSw; (try dsimp only at hSw); go_simp; first | done | with_reducible rfl)
  simp only [Act.put]
  refine anyL_take (i := 8) (v := ?_) rfl rfl (by kernel_rfl) (by kernel_rfl) (by kernel_rfl) (by kernel_rfl) (fun _ _ _ h => h) (Or.inl ⟨by rfl, ?_⟩) hHeld ?_
  rotate_left
  · (intro w' hSw; (try dsimp only at hSw); go_simp; first | done | with_reducible rfl)
  simp only [Act.put]
  refine anyL_take (i := 9) (v := ?_) rfl rfl (by kernel_rfl) (by kernel_rfl) (by kernel_rfl) (by kernel_rfl) (fun _ _ _ h => h) (Or.inl ⟨by rfl, ?_⟩) hHeld ?_
  rotate_left
  · (intro w' hSw; (try dsimp only at hSw); go_simp; first | done | with_reducible rfl)
  simp only [Act.put]
  refine anyL_take (i := 10) (v := ?_) rfl rfl (by kernel_rfl) (by kernel_rfl) (by kernel_rfl) (by kernel_rfl) (fun _ _ _ h => h) (Or.inl ⟨by rfl, ?_⟩) hHeld ?_
  rotate_left
  · (intro w' hSw; (try dsimp only at hSw); go_simp; first | done | with_reducible rfl)
  simp only [Act.put]
  refine anyL_take (i := 11) (v := ?_) rfl rfl (by kernel_rfl) (by kernel_rfl) (by kernel_rfl) (by kernel_rfl) (fun _ _ _ h => h) (Or.inl ⟨by rfl, ?_⟩) hHeld ?_
  rotate_left
  · (intro w' hSw; (try dsimp only at hSw); go_simp; first | done | with_reducible rfl)
  simp only [Act.put]
  refine anyL_take (i := 12) (v := ?_) rfl rfl (by kernel_rfl) (by kernel_rfl) (by kernel_rfl) (by kernel_rfl) (fun _ _ _ h => h) (Or.inl ⟨by rfl, ?_⟩) hHeld ?_
  rotate_left
  · (intro w' hSw; (try dsimp only at hSw); go_simp; first | done | with_reducible rfl)
  simp only [Act.put]
  refine anyL_one (i := 13) (by kernel_rfl) rfl (fun K1 hK1 => ?_)
  go_simp
  refine hK1.out _ _ (fun _ => hHeld) ?_
  clear hK1 K1
  refine anyL_one (i := 14) (by kernel_rfl) rfl (fun K1 hK1 => ?_)
  go_simp
  refine hK1.out _ _ (fun _ => hHeld) ?_
  clear hK1 K1
  refine anyL_one (i := 15) (by kernel_rfl) rfl (fun K1 hK1 => ?_)
  go_simp
  refine hK1.out _ _ (fun _ => hHeld) ?_
  clear hK1 K1
  refine anyL_one (i := 16) (by kernel_rfl) rfl (fun K1 hK1 => ?_)
  go_simp
  refine hK1.out _ _ (fun h => absurd rfl h) ?_
  clear hK1 K1 hHeld
  refine anyL_done (by kernel_rfl) ?_ _
  obtain ⟨i0, hi0, hz0, hz1, hz2⟩ := info_parts infoTy
  go_wp2
  go_loopw [49] (fun s49 wr => ∃ (k : Nat) (vt : Value), k ≤ 4 ∧ s49 = .int .i64 k ∧ Hid (NewIn w wr g cap ts ⟨0, [], 0, t.pos + t.text.length⟩ k vt)) (fun s49 _ => 4 - (intOf s49).toNat)
  case atStart =>
    refine ⟨0, .slice none 0 0, by omega, rfl, Lib.hid ⟨?_, ⟨rfl, .inl ⟨rfl, rfl⟩⟩, by simp [Value.ownBlock], ((Below.refl _ _).alloc (Nat.le_refl _) _).drew⟩⟩
    refine (heap_alloc_new w _).trans ?_
    simp [pCells, HM.out]
  case round =>
    obtain ⟨k, vt, hk, rfl, HN⟩ := hrel
    have ch : wr.cell? ⟨w.heap.size, 8, none⟩ = some vt := by rw [cell_of_row wr _ _ _ _ _ HN.out.head]; rfl
    have hpl := lt_heap HN.out.head
    by_cases hlt : k < 4
    · have q5 : (k : Int) < 4 := by omega
      obtain ⟨a, cp, rfl⟩ := row_slice HN.out.row
      have hrow := HN.out.row
      go_wp2_with (at_builtin; refine wpList_append_lies _ rfl (.tmp 57) (.tmp 60) 24 rfl w.heap.size 36 i0 _ 4 40 Tryz.underlying24 hi0 hz0 hz1 hz2 rfl (by omega) _ k ((start0.types.take k).flatMap tyCells) rfl (hrow.alloc _) ⟨wr.heap.size, 0, none⟩ 1 1 (tyCells ⟨k, 0, 0, []⟩) rfl rfl (World.news_of_block (cs := #[.int .i64 k, .int .i64 0, .int .i64 0, .string ⟨#[]⟩]) (heap_alloc_new wr _)) (by simp [tyCells, Value.oneCell']) (by omega) (by unfold maxLen; omega) (by omega) (by have := HN.out.below.size; simp; omega) (wr.heap.size + 1) (by simp) ?_; intro g2 cap2 w1 hown1 hgrow hat hlt1; have HS := Lib.hid (NewIn.step (H := wr.heap.size + 1) HN.out ((Below.refl _ _).alloc (Nat.le_refl _) _) hgrow (kindAt hlt) hown1 (hat.imp (fun e => e) (fun e => by simp [Value.ownBlock, e])) (by omega)); have hh1 : w1.heap[w.heap.size]? = _ := (hgrow.block _ (by simp; omega) (Ne.symm HN.out.apart)).trans ((Below.heap_alloc _ _ _ hpl).trans HN.out.head); have ch1 : w1.cell? ⟨w.heap.size, 8, none⟩ = some (.slice a k cp) := (by rw [cell_of_row w1 _ _ _ _ _ hh1]; rfl); have cf1 : w1.frozen? ⟨w.heap.size, 8, none⟩ = false := (by simp [World.frozen?, hh1]); clear hown1 hgrow hat hh1)
      go_roundw
      case rel => exact ⟨k + 1, _, by omega, by go_num, HS⟩
      case measure => simp [intOf]; omega
    · obtain rfl : k = 4 := by omega
      go_wp2
      go_ret
      refine ⟨vt, rfl, ?_, HN.out.below⟩
      have hN := HN.out
      exact ⟨hN.head, ⟨cs, ty, (hN.below.block _ hgl).trans HG.out, fun i t hi j hj => HC.out i t hi j hj⟩, ⟨rfl, .inl ⟨rfl, rfl⟩⟩, hN.row, (by obtain ⟨ty2, fr2, hn⟩ := HNm.out; exact ⟨ty2, fr2, (hN.below.block _ (lt_heap hn)).trans hn⟩), hg0, hgl, Nat.le_refl _, by simp [Value.ownBlock], hN.apart, fun k e => by simp [Value.ownBlock] at e, by simp [start0], by simp [start0], by simp [start0], by simp [start0], HL.out, (fun x hx => (List.mem_cons.1 hx).elim (fun e => by subst e; exact ⟨by simp, by simp, by simp, by have := HTP.out; simp only; omega, by simp⟩) (HK.out x))⟩
end Go.Proofs.YtaamllikceaifaaGreatDoor
