/-
  Contracts of the library's FormatInt at base 16, of numbers that are not negative.
-/
import Derived.Test.YtbafkkifdfmldaaDoorSame
import Derived.Laws.BytesArg
import Derived.Lib.ItoaMem
import Derived.Laws.BitsLemmas
import Derived.Laws.Slices
namespace Go.Proofs.YtbafkkifdfmldaaDoor
open Go.RowKit Sp
set_option linter.unusedVariables false

def Tab4 (w : World) : Prop := w.cell? ⟨4, 15, none⟩ = some (.int .u8 4)
theorem tz64 (w : World) (h : Tab4 w) : Calls Tryd.prog 66 #[.int .u64 16] w fun e w' => e = .returned (.int .i64 4) ∧ w = w' := by
  unfold Tab4 at h
  have e1 : IntKind.u64.wrap (-16) = 18446744073709551600 := by decide +kernel
  have e2 : bits BinOp.and IntKind.u64 16 18446744073709551600 = 16 := by decide +kernel
  have e3 : IntKind.u64.wrap (16 * 285870213051353865) = 4573923408821661840 := by decide +kernel
  have e4 : IntKind.u64.wrap 4573923408821661840 = 4573923408821661840 := by decide +kernel
  have e5 : (4573923408821661840 : Int) / 288230376151711744 = 15 := by decide +kernel
  have e6 : IntKind.u64.wrap (16 : Int) = 16 := by decide +kernel
  go_enter Tryd.func66, Tryd.ntmps66
  go_wp2
  go_ret
  exact ⟨rfl, rfl⟩
theorem tz (w : World) (h : Tab4 w) : Calls Tryd.prog 57 #[.int .u64 16] w fun e w' => e = .returned (.int .i64 4) ∧ w = w' := by
  have H := Lib.hid h; clear h
  go_enter Tryd.func57, Tryd.ntmps57
  go_wp2_with ((with_reducible refine (tz64 _ H.out).mono ?_); rintro e w' ⟨rfl, rfl⟩)
  go_ret
  exact ⟨rfl, rfl⟩
theorem ip2 (w : World) : Calls Tryd.prog 56 #[.int .i64 16] w fun e w' => e = .returned (.bool true) ∧ w = w' := by
  have e1 : bits BinOp.and IntKind.i64 16 15 = 0 := by decide +kernel
  go_enter Tryd.func56, Tryd.ntmps56
  go_wp2
  go_ret
  exact ⟨rfl, rfl⟩
theorem blk_set2 {w : World} {b i : Nat} {cs : Array Value} {u : Value} {t : TypeId} (h : w.heap[b]? = some (.cells cs t (0, 0))) : (w.setCell ⟨b, i, none⟩ u).heap[b]? = some (.cells (cs.setIfInBounds i u) t (0, 0)) := by
  simp only [World.setCell, Array.getElem?_modify, if_true, h, Option.map_some]
  rfl
/-- A hexadecimal digit, as the library writes it. -/
def hd (r : Nat) : Nat := if r < 10 then 48 + r else 87 + r
/-- The numeral, the first digit ahead. -/
def hexB (u : Nat) : List Int := if h : u < 16 then [(hd u : Int)] else hexB (u / 16) ++ [(hd (u % 16) : Int)]
termination_by u
decreasing_by omega
theorem hexB_small {u : Nat} (h : u < 16) : hexB u = [(hd u : Int)] := by rw [hexB, dif_pos h]
theorem hexB_big {u : Nat} (h : ¬ u < 16) : hexB u = hexB (u / 16) ++ [(hd (u % 16) : Int)] := by rw [hexB, dif_neg h]
theorem dig_size : (⟨#[48, 49, 50, 51, 52, 53, 54, 55, 56, 57, 97, 98, 99, 100, 101, 102, 103, 104, 105, 106, 107, 108, 109, 110, 111, 112, 113, 114, 115, 116, 117, 118, 119, 120, 121, 122]⟩ : ByteArray).size = 36 := rfl
theorem dig_all : ∀ r : Fin 16, ((⟨#[48, 49, 50, 51, 52, 53, 54, 55, 56, 57, 97, 98, 99, 100, 101, 102, 103, 104, 105, 106, 107, 108, 109, 110, 111, 112, 113, 114, 115, 116, 117, 118, 119, 120, 121, 122]⟩ : ByteArray)[r.val]'(by rw [dig_size]; omega)).toNat = hd r.val := by decide +kernel
theorem dig_at (r : Nat) (h : r < 16) : ((⟨#[48, 49, 50, 51, 52, 53, 54, 55, 56, 57, 97, 98, 99, 100, 101, 102, 103, 104, 105, 106, 107, 108, 109, 110, 111, 112, 113, 114, 115, 116, 117, 118, 119, 120, 121, 122]⟩ : ByteArray)[r]'(by rw [dig_size]; omega)).toNat = hd r := dig_all ⟨r, h⟩
theorem and15 (v : Nat) (h : v < 4294967296) : bits BinOp.and IntKind.u64 (v : Int) 15 = ((v % 16 : Nat) : Int) := by
  have := bits_mask .u64 63 (by decide) (fun n h0 h1 => by rw [IntKind.wrap_u64]; omega) 4 (by decide) (v : Int) (by omega) (by omega)
  simpa using this
/-- The array that is filled from its end. -/
structure HexAt (w : World) (u v : Nat) (c : Array Value) (done : List Int) (i : Nat) (wr : World) : Prop where
  blk : wr.heap[w.heap.size]? = some (.cells c 72 (0, 0))
  below : Below w.heap.size w wr
  size : c.size = 65
  at_ : ∀ j, j < done.length → c[i + j]? = some (.int .u8 (done.getD j 0))
  num : hexB u = hexB v ++ done
  few : v * 16 ^ done.length ≤ u
  pl : i + done.length = 65
  pos : done = [] ∨ 1 ≤ v
theorem HexAt.lt {w wr : World} {u v i : Nat} {c : Array Value} {done : List Int} (h : HexAt w u v c done i wr) (hu : u < 4294967296) : done.length ≤ 7 := by
  rcases h.pos with hd | hv
  · rw [hd]; simp
  have h1 := h.few
  have h2 : 16 ^ done.length ≤ v * 16 ^ done.length := Nat.le_mul_of_pos_left _ hv
  have h3 : 16 ^ done.length < 16 ^ 8 := by
    have : (16 : Nat) ^ 8 = 4294967296 := by decide
    omega
  have := (Nat.pow_lt_pow_iff_right (by decide : 1 < 16)).1 h3
  omega
theorem HexAt.cell {w wr : World} {u v i : Nat} {c : Array Value} {done : List Int} (h : HexAt w u v c done i wr) (j : Nat) (hj : j < 65) : ∃ x, wr.cell? ⟨w.heap.size, j, none⟩ = some x := by
  refine ⟨c[j]'(by rw [h.size]; exact hj), ?_⟩
  rw [cell_of_row wr _ j _ _ _ h.blk]
  exact Array.getElem?_eq_getElem _
theorem HexAt.free {w wr : World} {u v i : Nat} {c : Array Value} {done : List Int} (h : HexAt w u v c done i wr) (j : Nat) : wr.frozen? ⟨w.heap.size, j, none⟩ = false := by
  have := h.blk
  simp [World.frozen?, this]
/-- One digit more. -/
theorem HexAt.put {w wr : World} {u v i : Nat} {c : Array Value} {done : List Int} (h : HexAt w u v c done (i + 1) wr) (d : Int) :
    (wr.setCell ⟨w.heap.size, i, none⟩ (.int .u8 d)).heap[w.heap.size]? = some (.cells (c.setIfInBounds i (.int .u8 d)) 72 (0, 0)) ∧ Below w.heap.size w (wr.setCell ⟨w.heap.size, i, none⟩ (.int .u8 d)) ∧ (c.setIfInBounds i (.int .u8 d)).size = 65 ∧
      (∀ j, j < (d :: done).length → (c.setIfInBounds i (.int .u8 d))[i + j]? = some (.int .u8 ((d :: done).getD j 0))) := by
  have hp := h.pl
  refine ⟨blk_set2 h.blk, h.below.setCell (Nat.le_refl _) _, by simp [h.size], fun j hj => ?_⟩
  cases j with
  | zero =>
    rw [Nat.add_zero, Array.getElem?_setIfInBounds_self_of_lt (by rw [h.size]; omega)]
    rfl
  | succ j =>
    rw [Array.getElem?_setIfInBounds_ne (by omega)]
    have := h.at_ j (by simpa using hj)
    rw [show i + (j + 1) = i + 1 + j by omega, this]
    rfl
set_option maxHeartbeats 4000000 in
set_option maxRecDepth 100000 in
theorem fmt16 (u : Nat) (hu : u < 4294967296) (w : World) (h : Tab4 w) (hz : 7 ≤ w.heap.size) :
    Calls Tryd.prog 46 #[.slice none 0 0, .int .u64 u, .int .i64 16, .bool false, .bool false] w fun e w' => e = .returned (.tuple #[.slice none 0 0, .string (strOfNums (hexB u))]) ∧ Below w.heap.size w w' := by
  have HTA : Hid (∀ o, Tab4 (w.alloc o)) := Lib.hid fun o => by
    unfold Tab4
    rw [World.cell?_alloc_lt _ _ _ (World.block_lt_of_cell? _ _ h)]; exact h
  clear h
  go_enter Tryd.func46, Tryd.ntmps46
  go_wp2_with (first | ((with_reducible refine (ip2 _).mono ?_); rintro e w' ⟨rfl, rfl⟩) | ((with_reducible refine (tz _ (HTA.out _)).mono ?_); rintro e w' ⟨rfl, rfl⟩))
  go_loopg [1, 13] 65 (fun g s1 s13 wr => ∃ (v : Nat) (c : Array Value) (done : List Int) (i : Nat), g = 65 - done.length ∧ v ≤ 4294967295 ∧ i ≤ 65 ∧ s1 = .int .u64 v ∧ s13 = .int .i64 i ∧ Hid (HexAt w u v c done i wr))
  case atStart =>
    refine ⟨u, Tryd.zeroCells72, [], 65, rfl, by omega, by omega, rfl, rfl, Lib.hid ⟨heap_alloc_new w _, (Below.refl _ _).alloc (Nat.le_refl _) _, by kernel_rfl, fun j hj => by simp at hj, by simp, by simp, rfl, .inl rfl⟩⟩
  case round =>
    obtain ⟨v, c, done, i, hg, hv, hi, rfl, rfl, HX⟩ := hrel
    subst hg
    obtain ⟨q, hq⟩ : ∃ q, v / 16 = q := ⟨_, rfl⟩
    obtain ⟨r, hr⟩ : ∃ r, v % 16 = r := ⟨_, rfl⟩
    have hr16 : r < 16 := by omega
    have hqi : (v : Int) / 16 = (q : Int) := by omega
    have hb := and15 v (by omega)
    rw [hr] at hb
    have hdg := dig_at r hr16
    have hpl := HX.out.pl
    have hfew := HX.out.few
    have h7 := HX.out.lt hu
    obtain ⟨k, rfl⟩ : ∃ k, i = k + 1 := ⟨i - 1, by omega⟩
    obtain ⟨x, hx⟩ := HX.out.cell k (by omega)
    have hfr := HX.out.free k
    have hk1 : ((k + 1 : Nat) : Int) - 1 = (k : Int) := by omega
    have k0 : (0 : Int) ≤ (k : Int) := Int.natCast_nonneg _
    have k1 : (k : Int) < 65 := by omega
    by_cases hbig : v < 16
    · obtain ⟨p1, p2, p3, p4⟩ := HX.out.put (hd v)
      have hdv := dig_at v hbig
      have hnum := HX.out.num
      rw [hexB_small hbig] at hnum
      have hlen : (hexB u).length = 65 - k := by rw [hnum]; simp; omega
      obtain ⟨W2, hW2⟩ : ∃ W2, wr.setCell ⟨w.heap.size, k, none⟩ (.int .u8 (hd v)) = W2 := ⟨_, rfl⟩
      rw [hW2] at p1 p2
      have hconv : (convert 38 9 (.slice (some ⟨w.heap.size, k, none⟩) (65 - k) (65 - k))).run Tryd.prog W2 = .ok (.string (strOfNums (hexB u))) W2 :=
        run_convert_bytes_arg _ 38 5 Tryd.underlying38 Tryd.underlying5 w.heap.size k (65 - k) (65 - k) (hexB u) hlen (fun j hj => by
          rw [cell_of_row _ _ _ _ _ _ p1, p4 j (by simp; omega), hnum]; rfl) 9 Tryd.underlying9
      have hal : Tryd.prog.arrayLen 72 = 65 := by kernel_rfl
      have hsl : (Instr.sliceAt 72 (.pointer (some ⟨w.heap.size, 0, none⟩)) (some (.int .i64 (k : Int))) none none).run Tryd.prog W2 = .ok (.slice (some ⟨w.heap.size, k, none⟩) (65 - k) (65 - k)) W2 := by
        rw [run_sliceAt_array_l W2 72 ⟨w.heap.size, 0, none⟩ (by kernel_rfl) .i64 (k : Int) (by omega) (by rw [hal]; omega), hal]
        go_simp
        omega
      have HP2 := Lib.hid p2
      clear hal p1 p2 p3 p4 hnum hlen hdg hb hqi hr hq
      go_wp2
      go_ret2
      exact ⟨rfl, HP2.out⟩
    · go_wp2
      go_roundg (65 - (done.length + 1))
      case measure => omega
      case rel =>
        obtain ⟨p1, p2, p3, p4⟩ := HX.out.put (hd r)
        refine ⟨q, _, (hd r : Int) :: done, k, by simp, by omega, by omega, rfl, rfl, Lib.hid ⟨p1, p2, p3, p4, ?_, ?_, by simp at hpl ⊢; omega, .inr (by omega)⟩⟩
        · rw [HX.out.num, hexB_big hbig, hq, hr]; simp
        · have h1 : q * 16 ≤ v := by omega
          have h2 : q * 16 ^ (done.length + 1) = q * 16 * 16 ^ done.length := by rw [Nat.pow_succ]; rw [Nat.mul_assoc, Nat.mul_comm (16 ^ done.length) 16]
          have h3 := Nat.mul_le_mul_right (16 ^ done.length) h1
          show q * 16 ^ (done.length + 1) ≤ u
          omega
theorem ifmt16 (u : Nat) (hu : u < 4294967296) (w : World) (h : Tab4 w) (hz : 7 ≤ w.heap.size) :
    Calls Tryd.prog 32 #[.int .i64 u, .int .i64 16] w fun e w' => e = .returned (.string (strOfNums (hexB u))) ∧ Below w.heap.size w w' := by
  have H := Lib.hid h; clear h
  have hn : decide ((u : Int) < 0) = false := by simp
  go_enter Tryd.func32, Tryd.ntmps32
  go_wp2_with ((with_reducible refine (fmt16 u hu _ H.out hz).mono ?_); rintro e w' ⟨rfl, hb⟩)
  go_ret
  exact ⟨rfl, hb⟩
theorem sfmt16 (u : Nat) (hu : u < 4294967296) (w : World) (h : Tab4 w) (hz : 7 ≤ w.heap.size) :
    Calls Tryd.prog 20 #[.int .i64 u, .int .i64 16] w fun e w' => e = .returned (.string (strOfNums (hexB u))) ∧ Below w.heap.size w w' := by
  have H := Lib.hid h; clear h
  go_enter Tryd.func20, Tryd.ntmps20
  go_wp2_with ((with_reducible refine (ifmt16 u hu _ H.out hz).mono ?_); rintro e w' ⟨rfl, hb⟩)
  go_ret
  exact ⟨rfl, hb⟩
end Go.Proofs.YtbafkkifdfmldaaDoor
