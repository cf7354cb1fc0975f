/-
  Contracts of Signs and Is, the program's and the document's own.
-/
import Derived.Test.YtbafkkifdfmldaaDoorUse
import Derived.Deep.WholeRow
namespace Go.Proofs.YtbafkkifdfmldaaDoor
open Go.RowKit Sp
set_option linter.unusedVariables false

def ShotPost (t : TypeId) (w : World) (e : Ending) (w' : World) : Prop := e = .returned (.slice (some ⟨w.heap.size, 0, none⟩) 45 45) ∧ w' = w.alloc (.cells signsV t)
set_option maxRecDepth 100000 in
set_option maxHeartbeats 2000000 in
theorem signs_prog (w : World) (henv : Env w) : Calls Tryd.prog 14 #[] w (ShotPost 51 w) := by
  obtain ⟨t, fr, hg⟩ := henv.signs
  clear henv
  go_enter Tryd.func14, Tryd.ntmps14
  go_wp2_with (first | (refine wpList_load_row rfl 51 _ rfl 0 rfl t signsV fr _ hg Tryd.underlying51 rfl (by kernel_rfl) ?_) | (refine wpList_store_row rfl 51 _ _ rfl w.heap.size signsV rfl rfl 51 _ (heap_alloc_new w _) (by kernel_rfl) (by kernel_rfl) (by kernel_rfl) ?_; rw [World.setRow_alloc_new]))
  go_ret
  exact ⟨rfl, rfl⟩
set_option maxRecDepth 100000 in
set_option maxHeartbeats 2000000 in
theorem signs_ref (w : World) : Calls Tryd.prog 15 #[] w (ShotPost 9 w) := by
  go_enter Tryd.func15, Tryd.ntmps15
  go_wp2
  go_ret
  exact ⟨rfl, rfl⟩
def wd (i : Nat) : ByteArray := bs (wordsL.getD i [])
def wordsV : Array Value := (wordsL.map fun p => Value.string (bs p)).toArray
set_option maxRecDepth 100000 in
set_option maxHeartbeats 2000000 in
theorem words_ref (w : World) : Calls Tryd.prog 30 #[] w fun e w' => e = .returned (.slice (some ⟨w.heap.size, 0, none⟩) 20 20) ∧ w' = w.alloc (.cells wordsV 9) := by
  go_enter Tryd.func30, Tryd.ntmps30
  go_wp2
  go_ret
  exact ⟨rfl, rfl⟩
theorem words_at (k : Nat) (h : k < 20) : wordsV[k]? = some (.string (wd k)) := by
  have hk : k < wordsL.length := h
  simp only [wordsV, List.getElem?_toArray, List.getElem?_map, List.getElem?_eq_getElem hk, Option.map_some, wd, List.getD_eq_getElem?_getD, Option.getD_some]
theorem signs_at (k : Nat) (h : k < 45) : signsV[k]? = some (.string (sg k)) := by
  have hk : k < signsL.length := h
  simp only [signsV, List.getElem?_toArray, List.getElem?_map, List.getElem?_eq_getElem hk, Option.map_some, sg, List.getD_eq_getElem?_getD, Option.getD_some]
theorem word_step (k : Nat) (h : k < 20) (l : List UInt8) : (wordsL.drop k).contains l = (((wordsL.getD k []) == l) || (wordsL.drop (k + 1)).contains l) := by
  have hk : k < wordsL.length := h
  have e : wordsL.drop k = wordsL.getD k [] :: wordsL.drop (k + 1) := by
    rw [List.drop_eq_getElem_cons hk]
    congr 1
    rw [List.getD_eq_getElem?_getD, List.getElem?_eq_getElem hk]; rfl
  rw [e, List.contains_cons, Bool.beq_comm]
set_option maxHeartbeats 2000000 in
theorem is_ref (s : ByteArray) (w : World) : Calls Tryd.prog 17 #[.string s] w fun e w' => e = .returned (.bool (isWord s.data.toList)) ∧ Below w.heap.size w w' := by
  have hb : Below w.heap.size w (w.alloc (.cells wordsV 9)) := (Below.refl _ _).alloc (Nat.le_refl _) _
  have hc : ∀ k, k < 20 → (w.alloc (.cells wordsV 9)).cell? ⟨w.heap.size, k, none⟩ = some (.string (wd k)) := fun k hk => by
    rw [cell_of_row _ _ k _ _ _ (heap_alloc_new w _), words_at k hk]
  have HB := Lib.hid hb; have HCELL := Lib.hid hc; clear hb hc
  go_enter Tryd.func17, Tryd.ntmps17
  go_wp2_with ((with_reducible refine (words_ref _).mono ?_); rintro e w' ⟨rfl, hw⟩; obtain ⟨W, hW⟩ : ∃ W, W = w.alloc (.cells wordsV 9) := ⟨_, rfl⟩; rw [← hW] at hw HB HCELL; subst hw; clear hW)
  go_loop [4] (fun i => ∃ k : Nat, k ≤ 20 ∧ Hid (isWord s.data.toList = (wordsL.drop k).contains s.data.toList) ∧ i = .int .i64 k) (fun i => 20 - (intOf i).toNat)
  case atStart => exact ⟨0, by omega, rfl, rfl⟩
  case round =>
    obtain ⟨k, hk, HS, rfl⟩ := hrel
    by_cases hlt : k < 20
    · have hcell := HCELL.out k hlt
      have hst := Lib.hid (word_step k hlt s.data.toList)
      cases he : ((wd k).toList == s.toList) with
      | true =>
        have H1 : Hid (isWord s.data.toList = true) := by
          rw [ByteArray.toList_eq, ByteArray.toList_eq] at he
          have h2 := hst.out
          rw [show (wordsL.getD k [] == s.data.toList) = true from he] at h2
          exact Lib.hid (by rw [HS.out, h2]; rfl)
        go_wp2
        go_ret
        exact ⟨ret_bool H1.out.symm, HB.out⟩
      | false =>
        have H1 : Hid (isWord s.data.toList = (wordsL.drop (k + 1)).contains s.data.toList) := by
          have he2 := he
          rw [ByteArray.toList_eq, ByteArray.toList_eq] at he2
          have h2 := hst.out
          rw [show (wordsL.getD k [] == s.data.toList) = false from he2] at h2
          exact Lib.hid (by rw [HS.out, h2]; rfl)
        go_wp2
        go_round
        case rel => exact ⟨k + 1, by omega, H1, by go_num⟩
        case measure => simp [intOf]; omega
    · obtain rfl : k = 20 := by omega
      go_wp2
      go_ret
      exact ⟨ret_bool (by rw [HS.out]; rfl), HB.out⟩
end Go.Proofs.YtbafkkifdfmldaaDoor
