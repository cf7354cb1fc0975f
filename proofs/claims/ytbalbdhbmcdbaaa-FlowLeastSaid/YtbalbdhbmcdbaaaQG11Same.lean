/-
  Layer 11: contract of code.Same, of functions that are the same.
-/
import Derived.Test.YtbalbdhbmcdbaaaQLM
namespace Go.Proofs.Ytbalbdhbmcdbaaa
set_option maxRecDepth 100000
open Go.RowKit Go.Maps Cd
set_option linter.unusedVariables false
set_option linter.unusedSimpArgs false

theorem in_neq (a b : Ins) (W : World) : (binOp .neq 35 (inV a) (inV b)).run Try.prog W = .ok (.bool (!decide (a = b))) W := by
  have h := in_eql a b W
  rw [run_eql_struct] at h
  rw [run_neq_struct]
  generalize (Op.equalIn 10000 35 (inV a) (inV b)).run Try.prog W = r at h ⊢
  cases r with
  | ok b w =>
    simp only [Result.andThen] at h ⊢
    injection h with h1 h2
    injection h1 with h1
    subst h1 h2; rfl
  | _ => cases h
theorem in_neq_self (a : Ins) (W : World) : (binOp .neq 35 (inV a) (inV a)).run Try.prog W = .ok (.bool false) W := by rw [in_neq]; simp
theorem in_neq_ne {a b : Ins} (h : a ≠ b) (W : World) : (binOp .neq 35 (inV a) (inV b)).run Try.prog W = .ok (.bool true) W := by rw [in_neq]; simp [h]
theorem row_at {w : World} {B : Nat} {a : Option Addr} {l : List Ins} (h : RowAt w B a (l.flatMap inCells)) {k : Nat} {x : Ins} (hk : l[k]? = some x) : ∃ b off, a = some ⟨b, off, none⟩ := by
  obtain ⟨b, off, ha, _⟩ := RowAt.item inCells_len h hk (by omega)
  exact ⟨b, off, ha⟩
set_option maxHeartbeats 4000000 in
theorem equal_c (l : List Ins) (a b : Option Addr) (n m : Nat) (w : World) (hA : RowAt w w.heap.size a (l.flatMap inCells)) (hB : RowAt w w.heap.size b (l.flatMap inCells)) (hl : l.length ≤ maxLen) :
    Calls Try.prog 78 #[.slice a l.length n, .slice b l.length m] w (RPost (.bool true) w) := by
  have HA := Lib.hid hA; have HB := Lib.hid hB
  have t0 : ((l.length : Int) != (l.length : Int)) = false := by simp
  unfold maxLen at hl
  clear hA hB
  go_enter Try.func78, Try.ntmps78
  go_wp2
  go_loopw [13] (fun s13 wr => ∃ k : Nat, k ≤ l.length ∧ s13 = .int .i64 (k : Int) ∧ Hid (Below w.heap.size w wr)) (fun s13 wr => l.length - (intOf s13).toNat)
  case atStart => exact ⟨0, by omega, rfl, Lib.hid (Below.refl _ _)⟩
  case round =>
    obtain ⟨k, hk, rfl, HK⟩ := hrel
    have k0 : (0 : Int) ≤ (k : Int) := Int.natCast_nonneg _
    by_cases hlt : k < l.length
    · have k1 : (k : Int) < (l.length : Int) := by omega
      obtain ⟨x, hx⟩ : ∃ x, l[k]? = some x := ⟨_, List.getElem?_eq_getElem hlt⟩
      obtain ⟨b1, o1, rfl⟩ := row_at HA.out hx
      obtain ⟨b2, o2, rfl⟩ := row_at HB.out hx
      obtain ⟨p0, p1, p2, p3, p4, p5, p6, p7, p8, p9, p10, p11, p12, p13, p14⟩ := code_cells (r := ⟨⟨[], 0, 0, 0, l⟩, some ⟨b1, o1, none⟩, 0⟩) (RowAt.below HA.out HK.out) hx rfl
      obtain ⟨q0, q1, q2, q3, q4, q5, q6, q7, q8, q9, q10, q11, q12, q13, q14⟩ := code_cells (r := ⟨⟨[], 0, 0, 0, l⟩, some ⟨b2, o2, none⟩, 0⟩) (RowAt.below HB.out HK.out) hx rfl
      have HLT := Lib.hid hlt
      have hne := in_neq_self x
      clear hx hlt
      go_wp2
      go_quiet (fail)
      go_wp2
      go_roundw
      case rel => exact ⟨k + 1, HLT.out, by go_num, Lib.hid (drN HK.out _)⟩
      case measure => have := HLT.out; simp [intOf]; omega
    · obtain rfl : k = l.length := by omega
      go_wp2
      go_ret
      exact ⟨rfl, HK.out⟩
set_option maxHeartbeats 4000000 in
theorem same_c (f : Fnc) (a b : Option Addr) (n m : Nat) (w : World) (hA : CodeAt w w.heap.size ⟨f, a, n⟩) (hB : CodeAt w w.heap.size ⟨f, b, m⟩) (hl : f.code.length ≤ maxLen) :
    Calls Try.prog 34 #[fnV ⟨f, a, n⟩, fnV ⟨f, b, m⟩] w (RPost (.bool true) w) := by
  have HA := Lib.hid hA; have HB := Lib.hid hB; have HL := Lib.hid hl
  obtain ⟨h1, h2, h3, hs⟩ := two_new w (fnO ⟨f, a, n⟩) (fnO ⟨f, b, m⟩)
  obtain ⟨x0, x1, x2, x3, x4⟩ := nv5 h1
  obtain ⟨y0, y1, y2, y3, y4⟩ := nv5 h2
  have HB0 := Lib.hid h3
  have HE : Hid (∀ W, Below w.heap.size w W → Calls Try.prog 78 #[.slice a f.code.length n, .slice b f.code.length m] W (RPost (.bool true) W)) :=
    Lib.hid (fun W hW => equal_c f.code a b n m W (RowAt.mono (RowAt.below HA.out hW) hW.size (Nat.le_refl _)) (RowAt.mono (RowAt.below HB.out hW) hW.size (Nat.le_refl _)) HL.out)
  clear hA hB hl h1 h2 h3
  go_enter Try.func34, Try.ntmps34
  go_wp2_with ((with_reducible refine (HE.out _ HB0.out).mono ?_); rintro e w1 ⟨rfl, hb1⟩; have HB1 := Lib.hid (HB0.out.trans (hb1.mono HB0.out.size)); clear hb1)
  go_ret
  exact ⟨rfl, HB1.out⟩
end Go.Proofs.Ytbalbdhbmcdbaaa
