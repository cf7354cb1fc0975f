/-
  The walk of LexNumbers.
-/
import Derived.Test.YtbafkkifdfmldaaDoorHex
import Derived.Test.YtbafkkifdfmldaaDoorNumsP
import Derived.Test.YtbafkkifdfmldaaDoorSpacesL
import Derived.Lib.AppendIntMem
import Derived.Laws.Concat
namespace Go.Proofs.YtbafkkifdfmldaaDoor.lexNumbers
open Go.RowKit Sp
open Go.Lib (decDigits)
set_option linter.unusedVariables false

theorem tab_below {w w' : World} {B : Nat} (h : Tab4 w) (hb : Below B w w') (hB : 7 ≤ B) : Tab4 w' := by
  unfold Tab4 at *
  rw [hb.cell (by simp; omega)]; exact h
theorem itoa_b (n : Nat) (x : ByteArray) (hx : bs (decDigits n) = x) (hn : n ≤ 9223372036854775807) (w : World) (henv : Env w) :
    Calls Tryd.prog 19 #[.int .i64 n] w fun e w' => e = .returned (.string x) ∧ Below w.heap.size w w' := by
  refine (Tryd.strconv_Itoa (n : Int) (by omega) (by omega) w henv.pow).mono ?_
  rintro e w' ⟨rfl, k, os, rfl⟩
  refine ⟨?_, Lib.below_grow _ _ (Nat.le_refl _) _ _⟩
  rw [Lib.itoa_nonneg, ← hx]; rfl
theorem itoa_b2 (u : Nat) (x : ByteArray) (hx : bs (decDigits (u + 4294967296)) = x) (hn : u ≤ 4294967295) (w : World) (henv : Env w) :
    Calls Tryd.prog 19 #[.int .i64 ((u : Int) + 4294967296)] w fun e w' => e = .returned (.string x) ∧ Below w.heap.size w w' := by
  have := itoa_b (u + 4294967296) x hx (by omega) w henv
  rwa [show ((u + 4294967296 : Nat) : Int) = (u : Int) + 4294967296 by omega] at this
theorem bs_self (x : ByteArray) : bs x.data.toList = x := by
  apply ByteArray.ext
  apply Array.toList_inj.1
  rfl
/-- The four texts, and their tokens. -/
def xs (x1 x2 x3 x4 : ByteArray) (j : Nat) : ByteArray := match j with | 0 => x1 | 1 => x2 | 2 => x3 | _ => x4
theorem xs_at (x1 x2 x3 x4 : ByteArray) (j : Nat) (hj : j < 4) : (#[.string x1, .string x2, .string x3, .string x4] : Array Value)[j]? = some (.string (xs x1 x2 x3 x4 j)) := by
  match j, hj with
  | 0, _ => rfl
  | 1, _ => rfl
  | 2, _ => rfl
  | 3, _ => rfl
def tk (u : Nat) (x : ByteArray) : List Tok := [⟨3, x.data.toList, u, 0⟩, ⟨0, [], 0, x.data.toList.length⟩]
theorem hex_list (u : Nat) : (hexB u).map (fun n => UInt8.ofNat n.toNat) = hexL u := by
  induction u using Nat.strongRecOn with
  | _ u ih =>
    by_cases h : u < 16
    · rw [hexB_small h, hexL_small h]; rfl
    · rw [hexB_big h, hexL_big h, List.map_append, ih (u / 16) (by omega)]; rfl
theorem fmt_b (u : Nat) (x : ByteArray) (hx : bs (hexL u) = x) (hu : u < 4294967296) (w : World) (h : Tab4 w) (hz : 7 ≤ w.heap.size) :
    Calls Tryd.prog 20 #[.int .i64 u, .int .i64 16] w fun e w' => e = .returned (.string x) ∧ Below w.heap.size w w' := by
  refine (sfmt16 u hu w h hz).mono ?_
  rintro e w' ⟨rfl, hb⟩
  refine ⟨?_, hb⟩
  rw [← hx, ← hex_list]; rfl
set_option maxHeartbeats 4000000 in
set_option maxRecDepth 100000 in
theorem walk (a0 : Int) (_w0 : (Lit.int .u32 a0).wf = true) (w : World) (henv : Env w) (htab : Tab4 w) :
    Calls Tryd.prog 8 #[.int .u32 a0] w fun e w' => e = .returned (.bool true) ∧ Below w.heap.size w w' := by
  have hk : 0 ≤ a0 ∧ a0 ≤ 4294967295 := by simp [Lit.wf] at _w0; have e1 : IntKind.u32.min = 0 := rfl; have e2 : IntKind.u32.max = 4294967295 := rfl; omega
  obtain ⟨u, rfl⟩ : ∃ u : Nat, a0 = (u : Int) := ⟨a0.toNat, by omega⟩
  have hu : u ≤ 4294967295 := by omega
  have hu2 : u < 4294967296 := by omega
  clear hk _w0
  have HE := Lib.hid henv; have HTB := Lib.hid htab
  have hsz := henv.sz
  clear henv htab
  obtain ⟨x1, hx1⟩ : ∃ x, bs (decDigits u) = x := ⟨_, rfl⟩
  obtain ⟨y1, hy1⟩ : ∃ x, bs (hexL u) = x := ⟨_, rfl⟩
  obtain ⟨x2, hx2⟩ : ∃ x, (⟨#[48, 120]⟩ : ByteArray) ++ y1 = x := ⟨_, rfl⟩
  obtain ⟨y3, hy3⟩ : ∃ x, (⟨#[48, 88]⟩ : ByteArray) ++ y1 = x := ⟨_, rfl⟩
  obtain ⟨x3, hx3⟩ : ∃ x, y3 ++ (⟨#[85]⟩ : ByteArray) = x := ⟨_, rfl⟩
  obtain ⟨x4, hx4⟩ : ∃ x, x1 ++ (⟨#[117]⟩ : ByteArray) = x := ⟨_, rfl⟩
  obtain ⟨x5, hx5⟩ : ∃ x, bs (decDigits (u + 4294967296)) = x := ⟨_, rfl⟩
  have z1 : (⟨#[48, 120]⟩ : ByteArray).size = 2 := rfl
  have z2 : (⟨#[48, 88]⟩ : ByteArray).size = 2 := rfl
  have z3 : (⟨#[85]⟩ : ByteArray).size = 1 := rfl
  have z4 : (⟨#[117]⟩ : ByteArray).size = 1 := rfl
  have l1 : x1.data.toList = decDigits u := by rw [← hx1]; rfl
  have ly : y1.data.toList = hexL u := by rw [← hy1]; rfl
  have l5 : x5.data.toList = decDigits (u + 4294967296) := by rw [← hx5]; rfl
  have n1 : (decDigits u).length ≤ 10 := dec_len 9 u (by omega)
  have n5 : (decDigits (u + 4294967296)).length ≤ 10 := dec_len 9 _ (by omega)
  have ny : (hexL u).length ≤ 8 := hexL_len 7 u (by omega)
  have s1 : x1.size ≤ 10 := by rw [size_list', l1]; exact n1
  have sy : y1.size ≤ 8 := by rw [size_list', ly]; exact ny
  have s5 : x5.size ≤ 10 := by rw [size_list', l5]; exact n5
  have s2 := cat_size hx2
  have s3' := cat_size hy3
  have s3 := cat_size hx3
  have s4 := cat_size hx4
  have q2 := cat_run hx2 (by omega)
  have q3 := cat_run hy3 (by omega)
  have q3' := cat_run hx3 (by omega)
  have q4 := cat_run hx4 (by omega)
  have l2 : x2.data.toList = 48 :: 120 :: hexL u := by rw [cat_list hx2, ly]; rfl
  have l3 : x3.data.toList = 48 :: 88 :: (hexL u ++ [85]) := by rw [cat_list hx3, cat_list hy3, ly]; rfl
  have l4 : x4.data.toList = decDigits u ++ [117] := by rw [cat_list hx4, l1]
  have HF : Hid (∀ j, j < 4 → Sp.scan (xs x1 x2 x3 x4 j).data.toList = .ok (tk u (xs x1 x2 x3 x4 j)) ∧ (xs x1 x2 x3 x4 j).size ≤ maxLen) := Lib.hid (by
    intro j hj
    match j, hj with
    | 0, _ => exact ⟨by show Sp.scan x1.data.toList = .ok (tk u x1); unfold tk; rw [l1, scan_dec u (by omega), if_pos hu], by show x1.size ≤ _; unfold maxLen; omega⟩
    | 1, _ => exact ⟨by show Sp.scan x2.data.toList = .ok (tk u x2); unfold tk; rw [l2, scan_hex u hu (by omega)], by show x2.size ≤ _; unfold maxLen; omega⟩
    | 2, _ => exact ⟨by show Sp.scan x3.data.toList = .ok (tk u x3); unfold tk; rw [l3, scan_hexU u hu (by omega)], by show x3.size ≤ _; unfold maxLen; omega⟩
    | 3, _ => exact ⟨by show Sp.scan x4.data.toList = .ok (tk u x4); unfold tk; rw [l4, scan_decu u hu (by omega)], by show x4.size ≤ _; unfold maxLen; omega⟩)
  have H5 : Hid (Sp.scan x5.data.toList = .error (0, 3) ∧ x5.size ≤ maxLen) := Lib.hid ⟨by rw [l5, scan_dec _ (by omega), if_neg (by omega)], by unfold maxLen; omega⟩
  have HX1 := Lib.hid hx1; have HY1 := Lib.hid hy1; have HX5 := Lib.hid hx5
  clear hx1 hy1 hx5 hx2 hx3 hx4 hy3 z1 z2 z3 z4 l1 ly l5 n1 n5 ny s1 sy s5 s2 s3' s3 s4 l2 l3 l4
  go_enter Tryd.func8, Tryd.ntmps8
  go_wp2_with (first | ((with_reducible refine (itoa_b u x1 HX1.out (by omega) _ HE.out).mono ?_); rintro e w1 ⟨rfl, hb⟩; have HB1 := Lib.hid hb; have hz1 : 7 ≤ w1.heap.size := Nat.le_trans hsz hb.size; have HE1 : Hid (Env w1) := Lib.hid (HE.out.below hb HE.out.sz); have HT1 := Lib.hid (tab_below HTB.out hb hsz); clear hb) | ((with_reducible refine (fmt_b u y1 HY1.out hu2 _ HT1.out hz1).mono ?_); rintro e w2 ⟨rfl, hb⟩; have HB2 := Lib.hid (HB1.out.trans (hb.mono HB1.out.size)); have hz2 : 7 ≤ w2.heap.size := Nat.le_trans hz1 hb.size; have HE2 : Hid (Env w2) := Lib.hid (HE1.out.below hb HE1.out.sz); have HT2 := Lib.hid (tab_below HT1.out hb hz1); clear hb) | ((with_reducible refine (fmt_b u y1 HY1.out hu2 _ HT2.out hz2).mono ?_); rintro e w3 ⟨rfl, hb⟩; have HB3 := Lib.hid (HB2.out.trans (hb.mono HB2.out.size)); have HE3 : Hid (Env w3) := Lib.hid (HE2.out.below hb HE2.out.sz); clear hb) | ((with_reducible refine (itoa_b u x1 HX1.out (by omega) _ HE3.out).mono ?_); rintro e w4 ⟨rfl, hb⟩; have HB4 := Lib.hid (HB3.out.trans (hb.mono HB3.out.size)); have HE4 : Hid (Env w4) := Lib.hid (HE3.out.below hb HE3.out.sz); clear hb; obtain ⟨W5, hW5⟩ : ∃ W, w4.alloc (.cells #[.string x1, .string x2, .string x3, .string x4] 9) = W := ⟨_, rfl⟩; have HW5 := Lib.hid hW5))
  have HC : Hid (∀ j, j < 4 → W5.cell? ⟨w4.heap.size, j, none⟩ = some (.string (xs x1 x2 x3 x4 j))) := Lib.hid fun j hj => by
    rw [← HW5.out, cell_of_row _ _ _ _ _ _ (heap_alloc_new w4 _), xs_at _ _ _ _ _ hj]
  have HB5 : Hid (Below w.heap.size w W5) := Lib.hid (by rw [← HW5.out]; exact HB4.out.alloc HB4.out.size _)
  have HE5 : Hid (Env W5) := Lib.hid (HE.out.below HB5.out HE.out.sz)
  have hb5 : w4.heap.size < W5.heap.size := by rw [← HW5.out]; simp
  clear hW5
  go_loopg [29] 4 (fun gg s29 wr => ∃ j : Nat, gg = 4 - j ∧ j ≤ 4 ∧ s29 = .int .i64 j ∧ Hid (Below W5.heap.size W5 wr))
  case atStart => exact ⟨0, rfl, by omega, rfl, Lib.hid (Below.refl _ _)⟩
  case round =>
    obtain ⟨j, hgg, hj, rfl, HR⟩ := hrel
    subst hgg
    have HB6 : Hid (Below w.heap.size w wr) := Lib.hid (HB5.out.trans (HR.out.mono HB5.out.size))
    have HE6 : Hid (Env wr) := Lib.hid (HE5.out.below HR.out HE5.out.sz)
    have j0 : (0 : Int) ≤ (j : Int) := Int.natCast_nonneg _
    by_cases hlt : j < 4
    · have j1 : (j : Int) < 4 := by omega
      obtain ⟨f1, f2⟩ := HF.out j hlt
      have hc : wr.cell? ⟨w4.heap.size, j, none⟩ = some (.string (xs x1 x2 x3 x4 j)) := (HR.out.cell (by simp; omega)).trans (HC.out j hlt)
      obtain ⟨x, hx⟩ : ∃ x, xs x1 x2 x3 x4 j = x := ⟨_, rfl⟩
      rw [hx] at f1 f2 hc
      have F1 := Lib.hid f1; have F2 := Lib.hid f2
      have ht0 : (tk u x)[0]? = some ⟨3, x.data.toList, u, 0⟩ := rfl
      have ht2 : (tk u x).length = 2 := rfl
      have HT0 := Lib.hid ht0
      clear f1 f2 hx ht0
      go_wp2_with ((with_reducible refine (scan_ok x (tk u x) _ HE6.out F2.out F1.out).mono ?_); rintro e w7 ⟨g, cap, rfl, ht, hb⟩; obtain ⟨b0, b1, b2, b3⟩ := ht.at HT0.out; rw [bs_self] at b1; have HR7 := Lib.hid (HR.out.trans (hb.mono HR.out.size)); clear ht hb)
      go_roundg (4 - (j + 1))
      case measure => omega
      case rel => exact ⟨j + 1, rfl, by omega, by go_num, HR7⟩
    · obtain rfl : j = 4 := by omega
      go_wp2_with (first | ((with_reducible refine (itoa_b2 u x5 HX5.out hu _ HE6.out).mono ?_); rintro e w7 ⟨rfl, hb⟩; have HB7 := Lib.hid (HB6.out.trans (hb.mono HB6.out.size)); have HE7 : Hid (Env w7) := Lib.hid (HE6.out.below hb HE6.out.sz); clear hb) | ((with_reducible refine (scan_err x5 0 3 _ HE7.out H5.out.2 H5.out.1).mono ?_); rintro e w8 ⟨rfl, hb⟩; have HB8 := Lib.hid (HB7.out.trans (hb.mono HB7.out.size)); have HE8 : Hid (Env w8) := Lib.hid (HE7.out.below hb HE7.out.sz); clear hb) | ((with_reducible refine (awake_any _ HE8.out).mono ?_); rintro e w9 ⟨rfl, hb⟩; have HB9 := Lib.hid (HB8.out.trans (hb.mono HB8.out.size)); clear hb))
      go_ret
      exact ⟨rfl, HB9.out⟩
end Go.Proofs.YtbafkkifdfmldaaDoor.lexNumbers
