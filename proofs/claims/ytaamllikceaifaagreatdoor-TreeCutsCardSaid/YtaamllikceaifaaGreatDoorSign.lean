/-
  What holds of the listed variables' blocks; the contract of lex's sign.
-/
import Derived.Test.YtaamllikceaifaaGreatDoorName
import Derived.Laws.Rows
import Derived.Deep.LoopGhost
import Derived.Test.YtaamllikceaifaaGreatDoorShelf
namespace Go.Proofs.YtaamllikceaifaaGreatDoor
open Go.RowKit Sp

def bs (l : List UInt8) : ByteArray := ⟨l.toArray⟩
def sg (i : Nat) : ByteArray := bs (signsL.getD i [])
def signsV : Array Value := (signsL.map fun p => Value.string (bs p)).toArray
theorem index_at : ∀ (k : Nat), k < 45 → ∀ w : World, (Instr.index 118 (.agg signsV) (.int .i64 (k : Int))).run Tryz.prog w = .ok (.string (sg k)) w
  | 0, _, _ => by kernel_rfl
  | 1, _, _ => by kernel_rfl
  | 2, _, _ => by kernel_rfl
  | 3, _, _ => by kernel_rfl
  | 4, _, _ => by kernel_rfl
  | 5, _, _ => by kernel_rfl
  | 6, _, _ => by kernel_rfl
  | 7, _, _ => by kernel_rfl
  | 8, _, _ => by kernel_rfl
  | 9, _, _ => by kernel_rfl
  | 10, _, _ => by kernel_rfl
  | 11, _, _ => by kernel_rfl
  | 12, _, _ => by kernel_rfl
  | 13, _, _ => by kernel_rfl
  | 14, _, _ => by kernel_rfl
  | 15, _, _ => by kernel_rfl
  | 16, _, _ => by kernel_rfl
  | 17, _, _ => by kernel_rfl
  | 18, _, _ => by kernel_rfl
  | 19, _, _ => by kernel_rfl
  | 20, _, _ => by kernel_rfl
  | 21, _, _ => by kernel_rfl
  | 22, _, _ => by kernel_rfl
  | 23, _, _ => by kernel_rfl
  | 24, _, _ => by kernel_rfl
  | 25, _, _ => by kernel_rfl
  | 26, _, _ => by kernel_rfl
  | 27, _, _ => by kernel_rfl
  | 28, _, _ => by kernel_rfl
  | 29, _, _ => by kernel_rfl
  | 30, _, _ => by kernel_rfl
  | 31, _, _ => by kernel_rfl
  | 32, _, _ => by kernel_rfl
  | 33, _, _ => by kernel_rfl
  | 34, _, _ => by kernel_rfl
  | 35, _, _ => by kernel_rfl
  | 36, _, _ => by kernel_rfl
  | 37, _, _ => by kernel_rfl
  | 38, _, _ => by kernel_rfl
  | 39, _, _ => by kernel_rfl
  | 40, _, _ => by kernel_rfl
  | 41, _, _ => by kernel_rfl
  | 42, _, _ => by kernel_rfl
  | 43, _, _ => by kernel_rfl
  | 44, _, _ => by kernel_rfl
  | n + 45, h, _ => by omega
theorem signs_size : signsV.size = 45 := by decide +kernel
theorem sg_list (k : Nat) : (sg k).data.toList = signsL.getD k [] := rfl
theorem firstOf_step (k : Nat) (h : k < 45) (l : List UInt8) : firstOf (signsL.drop k) l = if (signsL.getD k []).isPrefixOf l then some (signsL.getD k []) else firstOf (signsL.drop (k + 1)) l := by
  have e : signsL.drop k = signsL.getD k [] :: signsL.drop (k + 1) := by
    rw [List.drop_eq_getElem_cons (show k < signsL.length from h)]
    congr 1
    rw [List.getD_eq_getElem?_getD, List.getElem?_eq_getElem (show k < signsL.length from h)]; rfl
  rw [e]; rfl
theorem heap_alloc_eq {w : World} {g : Nat} {x : Obj} (h : w.heap[g]? = some x) (o : Obj) : (w.alloc o).heap[g]? = some x :=
  (heap_alloc_old w o (Array.getElem?_eq_some_iff.1 h).1).trans h
theorem prefix_any (s p : ByteArray) (b : Bool) (w : World) (h : p.data.toList.isPrefixOf s.data.toList = b) :
    Calls Tryz.prog 29 #[.string s, .string p] w fun e w' => e = .returned (.bool b) ∧ w = w' :=
  (Tryz.strings_HasPrefix s p w).mono fun e w' ⟨he, hw⟩ => ⟨by rw [he]; exact ret_bool h, hw.symm⟩
theorem suffix_any (s p : ByteArray) (b : Bool) (w : World) (hs : s.size ≤ maxLen) (h : p.data.toList.isSuffixOf s.data.toList = b) :
    Calls Tryz.prog 67 #[.string s, .string p] w fun e w' => e = .returned (.bool b) ∧ w = w' :=
  (Tryz.strings_HasSuffix s p w hs).mono fun e w' ⟨he, hw⟩ => ⟨by rw [he]; exact ret_bool h, hw.symm⟩
def signV (o : Option (List UInt8)) : Value := match o with | some p => .tuple #[pieceV 4 p.length 0, .int .i64 0] | none => .tuple #[pieceV 0 0 0, .int .i64 2]
theorem signV_some {o : Option (List UInt8)} {p : List UInt8} (h : o = some p) : signV o = .tuple #[pieceV 4 p.length 0, .int .i64 0] := by rw [h]; rfl
theorem signV_none {o : Option (List UInt8)} (h : o = none) : signV o = .tuple #[pieceV 0 0 0, .int .i64 2] := by rw [h]; rfl
theorem ret_eq {a b : Value} (h : a = b) : Ending.returned a = .returned b := by rw [h]
theorem sg_size (k : Nat) : (sg k).size = (signsL.getD k []).length := rfl
def SignPost (l : List UInt8) (w : World) (e : Ending) (w' : World) : Prop := e = .returned (signV (firstOf signsL l)) ∧ Below w.heap.size w w'
set_option maxHeartbeats 1000000 in
theorem sign_walk (s : ByteArray) (w : World) (t : TypeId) (fr : Nat × Nat) (hg : w.heap[1]? = some (.cells signsV t fr)) :
    Calls Tryz.prog 47 #[.string s] w (SignPost s.data.toList w) := by
  go_enter Tryz.func47, Tryz.ntmps47
  go_wp2_with (refine wpList_load_row rfl 118 _ rfl 1 rfl t signsV fr _ (heap_alloc_eq hg _) Tryz.underlying118 rfl (by kernel_rfl) ?_)
  clear hg
  go_loop [7] (fun i => ∃ k : Nat, k ≤ 45 ∧ Hid (firstOf signsL s.data.toList = firstOf (signsL.drop k) s.data.toList) ∧ i = .int .i64 k) (fun i => 45 - (intOf i).toNat)
  case atStart => exact ⟨0, by omega, by unfold Hid; rfl, rfl⟩
  case round =>
    obtain ⟨k, hk, HS, rfl⟩ := hrel
    by_cases hlt : k < 45
    · have hi := index_at k hlt
      have hst := Lib.hid (firstOf_step k hlt s.data.toList)
      have hlen : (sg k).size = (signsL.getD k []).length := sg_size k
      have HL := Lib.hid hlen; clear hlen
      cases hp : (signsL.getD k []).isPrefixOf s.data.toList with
      | true =>
        have HP := Lib.hid hp
        have hp' : (sg k).data.toList.isPrefixOf s.data.toList = true := hp
        have HP' := Lib.hid hp'
        clear hp hp'
        go_wp2_with ((with_reducible refine (prefix_any _ _ true _ HP'.out).mono ?_); rintro e w' ⟨rfl, rfl⟩)
        exact bodyPost_ret (v := .tuple #[.agg #[.int .i64 4, .int .i64 (sg k).size, .int .i64 0], .int .i64 0]) (by simp [results, Tryz.results47, go_sem]) rfl
          ⟨ret_eq (by rw [signV_some (p := signsL.getD k []) (by have h1 := HS.out; have h2 := hst.out; have h3 := HP.out; rw [h3] at h2; rw [h1, h2]; rfl), HL.out]; rfl), (Below.refl _ _).alloc (Nat.le_refl _) _⟩
      | false =>
        have HP := Lib.hid hp
        have hp' : (sg k).data.toList.isPrefixOf s.data.toList = false := hp
        have HP' := Lib.hid hp'
        clear hp hp'
        go_wp2_with ((with_reducible refine (prefix_any _ _ false _ HP'.out).mono ?_); rintro e w' ⟨rfl, rfl⟩)
        go_round
        case rel => exact ⟨k + 1, by omega, by have h1 := HS.out; have h2 := hst.out; have h3 := HP.out; rw [h3] at h2; unfold Hid; rw [h1, h2]; rfl, by go_num⟩
        case measure => simp [intOf]; omega
    · obtain rfl : k = 45 := by omega
      go_wp2
      exact bodyPost_ret (v := .tuple #[.agg #[.int .i64 0, .int .i64 0, .int .i64 0], .int .i64 2]) (by simp [results, Tryz.results47, go_sem]) rfl
        ⟨ret_eq (by rw [signV_none (by rw [HS.out]; rfl)]; rfl), (Below.refl _ _).alloc (Nat.le_refl _) _⟩
theorem sign_yes (s : ByteArray) (p : List UInt8) (w : World) (t : TypeId) (fr : Nat × Nat) (hg : w.heap[1]? = some (.cells signsV t fr)) (h : firstOf signsL s.data.toList = some p) :
    Calls Tryz.prog 47 #[.string s] w fun e w' => e = .returned (.tuple #[pieceV 4 p.length 0, .int .i64 0]) ∧ Below w.heap.size w w' :=
  (sign_walk s w t fr hg).mono fun e w' ⟨he, hw⟩ => ⟨by rw [he, signV_some h], hw⟩
theorem sign_no (s : ByteArray) (w : World) (t : TypeId) (fr : Nat × Nat) (hg : w.heap[1]? = some (.cells signsV t fr)) (h : firstOf signsL s.data.toList = none) :
    Calls Tryz.prog 47 #[.string s] w fun e w' => e = .returned (.tuple #[pieceV 0 0 0, .int .i64 2]) ∧ Below w.heap.size w w' :=
  (sign_walk s w t fr hg).mono fun e w' ⟨he, hw⟩ => ⟨by rw [he, signV_none h], hw⟩
end Go.Proofs.YtaamllikceaifaaGreatDoor
