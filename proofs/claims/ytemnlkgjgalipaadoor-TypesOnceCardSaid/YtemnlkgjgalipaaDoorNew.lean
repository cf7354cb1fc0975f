/-
  The contract of New.
-/
import Derived.Test.YtemnlkgjgalipaaDoorArray
namespace Go.Proofs.YtemnlkgjgalipaaDoor
open Go.RowKit Go.Maps Tp Go.ChangeMaps
set_option linter.unusedVariables false

def en4 (k : Nat) : En := ⟨⟨k, 0, 0, []⟩, if k = 0 then 0 else 1, none⟩
theorem new4 (k : Nat) (h : k < 4) : newT.take (k + 1) = newT.take k ++ [en4 k] := by
  match k, h with
  | 0, _ => rfl
  | 1, _ => rfl
  | 2, _ => rfl
  | 3, _ => rfl
def NewRel (w wr : World) (k : Nat) : Prop := ∃ v X, X.map (·.1) = newT.take k ∧ TabX wr w.heap.size w.heap.size v X ∧ X.length = k ∧ Below w.heap.size w wr
theorem newRel_start (w : World) : NewRel w (w.alloc (.cells #[.slice none 0 0] 67)) 0 :=
  ⟨_, [], rfl, ⟨heap_alloc_new w _, Nat.le_refl _, World.ownsRow_nil _ _ _ _, by simp [Value.ownBlock], fun x hx => by cases hx⟩, rfl, (Below.refl _ _).alloc (Nat.le_refl _) _⟩
def NewPost (w : World) (e : Ending) (w' : World) : Prop := ∃ v, e = .returned (.pointer (some ⟨w.heap.size, 0, none⟩)) ∧ TabIn w' w.heap.size w.heap.size v newT ∧ Below w.heap.size w w'
set_option maxHeartbeats 2000000 in
set_option maxRecDepth 100000 in
theorem new_any (w : World) : Calls Tryd.prog 11 #[] w (NewPost w) := by
  obtain ⟨i0, hi0, hz0, hz1, hz2⟩ := info_parts infoEn
  go_enter Tryd.func11, Tryd.ntmps11
  go_wp2
  go_loopw [6] (fun i wr => ∃ k : Nat, k ≤ 4 ∧ i = .int .i64 k ∧ Hid (NewRel w wr k)) (fun i wr => 4 - (intOf i).toNat)
  case atStart => exact ⟨0, by omega, rfl, Lib.hid (newRel_start w)⟩
  case round =>
    obtain ⟨k, hk, rfl, HR⟩ := hrel
    obtain ⟨v, X, hX, hT, hl, hb⟩ := HR.out
    obtain ⟨a, cap, rfl⟩ := row_len hT.row
    have ct := hT.cell
    have tz := hT.lt
    have HT := Lib.hid hT; clear hT
    have HL := Lib.hid hl
    have HX := Lib.hid hX
    have HB := Lib.hid hb
    by_cases hlt : k < 4
    · have hrow := HT.out.row
      have hx4 : X.length < 4 := by omega
      by_cases hk0 : k = 0
      · have b0 : ((k : Int) == 0) = true := by simp; omega
        have he : en4 k = ⟨⟨k, 0, 0, []⟩, 0, none⟩ := by unfold en4; rw [if_pos hk0]
        have HE := Lib.hid he
        clear hk0 he hX hl hb
        go_wp2_with (at_builtin; go_loud (refine wpList_append_lies _ rfl _ _ 65 rfl w.heap.size 71 i0 _ 6 56 Tryd.underlying65 hi0 hz0 hz1 hz2 rfl (by omega) _ X.length (tabCells X) rfl (by exact hrow.alloc _) ⟨wr.heap.size, 0, none⟩ 1 1 (enCells (⟨⟨k, 0, 0, []⟩, 0, none⟩, none)) (by rfl) (by rfl) (by exact World.news_of_block (cs := #[.int .i64 k, .int .i64 0, .int .i64 0, .string ⟨#[]⟩, .int .i64 0, .map none]) (heap_alloc_new wr _)) (by simp [enCells, Value.oneCell']) (by omega) (by unfold maxLen; omega) (by omega) (by simp; omega) (wr.heap.size + 1) (by simp) ?_); intro g cap2 w1 hown1 hgrow hat hlt1; have hw2 := (Below.refl wr.heap.size wr).alloc (Nat.le_refl _) (.cells #[.int .i64 k, .int .i64 0, .int .i64 0, .string ⟨#[]⟩, .int .i64 0, .map none] 71); obtain ⟨ct1, cf1⟩ := snoc_head HT.out hw2 hgrow; have HS := Lib.hid (TabX.snoc (e := ⟨⟨k, 0, 0, []⟩, 0, none⟩) (H := wr.heap.size + 1) HT.out hw2 hgrow hown1 (hat.imp (fun e => e) (fun e => by simp [Value.ownBlock, e])) (by omega) rfl); clear hown1 hgrow hat hw2)
        go_roundw
        case rel => exact ⟨k + 1, by omega, by go_num, Lib.hid ⟨_, _, by rw [List.map_append, HX.out, new4 k hlt, HE.out]; rfl, HS.out.1, by simp [HL.out], HB.out.trans (HT.out.tabIn.turn HS.out.2)⟩⟩
        case measure => simp [intOf]; omega
      · have b0 : ((k : Int) == 0) = false := by simp; omega
        have he : en4 k = ⟨⟨k, 0, 0, []⟩, 1, none⟩ := by unfold en4; rw [if_neg hk0]
        have HE := Lib.hid he
        clear hk0 he hX hl hb
        go_wp2_with (at_builtin; go_loud (refine wpList_append_lies _ rfl _ _ 65 rfl w.heap.size 71 i0 _ 6 56 Tryd.underlying65 hi0 hz0 hz1 hz2 rfl (by omega) _ X.length (tabCells X) rfl (by exact hrow.alloc _) ⟨wr.heap.size, 0, none⟩ 1 1 (enCells (⟨⟨k, 0, 0, []⟩, 1, none⟩, none)) (by rfl) (by rfl) (by exact World.news_of_block (cs := #[.int .i64 k, .int .i64 0, .int .i64 0, .string ⟨#[]⟩, .int .i64 1, .map none]) (heap_alloc_new wr _)) (by simp [enCells, Value.oneCell']) (by omega) (by unfold maxLen; omega) (by omega) (by simp; omega) (wr.heap.size + 1) (by simp) ?_); intro g cap2 w1 hown1 hgrow hat hlt1; have hw2 := (Below.refl wr.heap.size wr).alloc (Nat.le_refl _) (.cells #[.int .i64 k, .int .i64 0, .int .i64 0, .string ⟨#[]⟩, .int .i64 1, .map none] 71); obtain ⟨ct1, cf1⟩ := snoc_head HT.out hw2 hgrow; have HS := Lib.hid (TabX.snoc (e := ⟨⟨k, 0, 0, []⟩, 1, none⟩) (H := wr.heap.size + 1) HT.out hw2 hgrow hown1 (hat.imp (fun e => e) (fun e => by simp [Value.ownBlock, e])) (by omega) rfl); clear hown1 hgrow hat hw2)
        go_roundw
        case rel => exact ⟨k + 1, by omega, by go_num, Lib.hid ⟨_, _, by rw [List.map_append, HX.out, new4 k hlt, HE.out]; rfl, HS.out.1, by simp [HL.out], HB.out.trans (HT.out.tabIn.turn HS.out.2)⟩⟩
        case measure => simp [intOf]; omega
    · clear hX hl hb
      go_wp2
      go_ret
      exact ⟨_, rfl, ⟨X, by rw [HX.out, show k = 4 by omega]; rfl, HT.out⟩, HB.out⟩
end Go.Proofs.YtemnlkgjgalipaaDoor
