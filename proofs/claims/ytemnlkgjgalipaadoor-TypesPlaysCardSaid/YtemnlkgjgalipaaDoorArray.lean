/-
  The contract of Array.
-/
import Derived.Test.YtemnlkgjgalipaaDoorMakes
namespace Go.Proofs.YtemnlkgjgalipaaDoor
open Go.RowKit Go.Maps Tp Go.ChangeMaps
set_option linter.unusedVariables false

theorem array_bad {w : World} {p : Value} {n c : Int} (h : EntAt w p n zeroE none false) : Calls Tryd.prog 17 #[p, .int .i64 n, .int .i64 c] w (Err2 1 w) := by
  have H := Lib.hid h; clear h
  go_enter Tryd.func17, Tryd.ntmps17
  go_wp2_with ((with_reducible refine (at_of H.out).mono ?_); rintro x w1 ⟨rfl, hb⟩; unfold tyV; have HB := Lib.hid hb; clear hb)
  go_ret2
  exact ⟨rfl, HB.out.alloc HB.out.size _⟩
theorem EntAt.below {w w' : World} {p : Value} {n : Int} {e : En} {m : Option Nat} {b : Bool} (h : EntAt w p n e m b) (hb : Below w.heap.size w w') : EntAt w' p n e m b :=
  fun w2 h2 => h w2 (hb.trans (h2.mono hb.size))
theorem array_err {w : World} {t B : Nat} {v : Value} {T : Tab} (h : TabIn w t B v T) (n c : Int) (e : En) (hn : ent T n = some e) (hs : e.size ≤ 0) : Calls Tryd.prog 17 #[.pointer (some ⟨t, 0, none⟩), .int .i64 n, .int .i64 c] w (Err2 8 w) := by
  obtain ⟨m, hE, _⟩ := entAt_any h n
  rw [hn] at hE
  have H := Lib.hid hE; clear hE hn h
  have hd : decide (0 < e.size) = false := by simp; omega
  go_enter Tryd.func17, Tryd.ntmps17
  go_wp2_with (first | ((with_reducible refine (at_of H.out).mono ?_); rintro x w1 ⟨rfl, hb⟩; unfold tyV; have HB : Hid (Below w.heap.size w (w1.alloc (.cells #[.int .i64 e.self.kind, .int .i64 e.self.elem, .int .i64 e.self.n, .string (bs e.self.name)] 41))) := Lib.hid (hb.alloc hb.size _); clear hb) | ((with_reducible refine (size_of (H.out.below HB.out)).mono ?_); rintro x w2 ⟨rfl, hb⟩; have HB2 := Lib.hid (HB.out.trans (hb.mono HB.out.size)); clear hb))
  go_ret2
  exact ⟨rfl, HB2.out⟩
theorem array_long {w : World} {t B : Nat} {v : Value} {T : Tab} (h : TabIn w t B v T) (n c : Int) (e : En) (hn : ent T n = some e) (hs : 0 < e.size) (hs2 : e.size ≤ 4096) (hc : c < 1 ∨ 1024 < c ∨ 4096 < c * e.size) : Calls Tryd.prog 17 #[.pointer (some ⟨t, 0, none⟩), .int .i64 n, .int .i64 c] w (Err2 4 w) := by
  obtain ⟨m, hE, _⟩ := entAt_any h n
  rw [hn] at hE
  have H := Lib.hid hE; clear hE hn h
  have hd : decide (0 < e.size) = true := by simp; omega
  by_cases h1 : c < 1
  · have e1 : decide (c < 1) = true := by simpa using h1
    clear hc
    go_enter Tryd.func17, Tryd.ntmps17
    go_wp2_with (first | ((with_reducible refine (at_of H.out).mono ?_); rintro x w1 ⟨rfl, hb⟩; unfold tyV; have HB : Hid (Below w.heap.size w (w1.alloc (.cells #[.int .i64 e.self.kind, .int .i64 e.self.elem, .int .i64 e.self.n, .string (bs e.self.name)] 41))) := Lib.hid (hb.alloc hb.size _); clear hb) | ((with_reducible refine (size_of (H.out.below HB.out)).mono ?_); rintro x w2 ⟨rfl, hb⟩; have HB2 := Lib.hid (HB.out.trans (hb.mono HB.out.size)); clear hb))
    go_ret2
    exact ⟨rfl, HB2.out⟩
  · have e1 : decide (c < 1) = false := by simpa using h1
    by_cases h2 : 1024 < c
    · have e2 : decide (1024 < c) = true := by simpa using h2
      clear hc
      go_enter Tryd.func17, Tryd.ntmps17
      go_wp2_with (first | ((with_reducible refine (at_of H.out).mono ?_); rintro x w1 ⟨rfl, hb⟩; unfold tyV; have HB : Hid (Below w.heap.size w (w1.alloc (.cells #[.int .i64 e.self.kind, .int .i64 e.self.elem, .int .i64 e.self.n, .string (bs e.self.name)] 41))) := Lib.hid (hb.alloc hb.size _); clear hb) | ((with_reducible refine (size_of (H.out.below HB.out)).mono ?_); rintro x w2 ⟨rfl, hb⟩; have HB2 := Lib.hid (HB.out.trans (hb.mono HB.out.size)); clear hb))
      go_ret2
      exact ⟨rfl, HB2.out⟩
    · have e2 : decide (1024 < c) = false := by simpa using h2
      have h3 : 4096 < c * e.size := by rcases hc with h | h | h <;> first | exact absurd h h1 | exact absurd h h2 | exact h
      have e3 : decide (4096 < c * e.size) = true := by simpa using h3
      have p0 : 0 ≤ c * e.size := by omega
      have p1 : c * e.size ≤ 4194304 := by
        have : c * e.size ≤ 1024 * 4096 := Int.mul_le_mul (by omega) hs2 (by omega) (by omega)
        omega
      have hw : IntKind.i64.wrap (c * e.size) = c * e.size := IntWalk.i64_in _ (by omega)
      clear hc
      go_enter Tryd.func17, Tryd.ntmps17
      go_wp2_with (first | ((with_reducible refine (at_of H.out).mono ?_); rintro x w1 ⟨rfl, hb⟩; unfold tyV; have HB : Hid (Below w.heap.size w (w1.alloc (.cells #[.int .i64 e.self.kind, .int .i64 e.self.elem, .int .i64 e.self.n, .string (bs e.self.name)] 41))) := Lib.hid (hb.alloc hb.size _); clear hb) | ((with_reducible refine (size_of (H.out.below HB.out)).mono ?_); rintro x w2 ⟨rfl, hb⟩; have HB2 := Lib.hid (HB.out.trans (hb.mono HB.out.size)); clear hb))
      go_ret2
      exact ⟨rfl, HB2.out⟩
theorem array_fit {w : World} {t B : Nat} {v : Value} {T : Tab} (h : TabIn w t B v T) (hT : T.length ≤ 256) (n c : Int) (e : En) (hn : ent T n = some e) (hs : 0 < e.size) (h1 : 1 ≤ c) (h2 : c ≤ 1024) (h3 : c * e.size ≤ 4096) :
    Calls Tryd.prog 17 #[.pointer (some ⟨t, 0, none⟩), .int .i64 n, .int .i64 c] w (NumPost t B v (num T ⟨5, n, c, []⟩ (c * e.size)) w) := by
  obtain ⟨m, hE, _⟩ := entAt_any h n
  rw [hn] at hE
  have H := Lib.hid hE; clear hE hn
  have HT := Lib.hid h; clear h
  have hd : decide (0 < e.size) = true := by simp; omega
  have e1 : decide (c < 1) = false := by simp; omega
  have e2 : decide (1024 < c) = false := by simp; omega
  have e3 : decide (4096 < c * e.size) = false := by simp; omega
  have p0 : 0 ≤ c * e.size := Int.mul_nonneg (by omega) (by omega)
  have hw : IntKind.i64.wrap (c * e.size) = c * e.size := IntWalk.i64_in _ (by omega)
  go_enter Tryd.func17, Tryd.ntmps17
  go_wp2_with (first | ((with_reducible refine (at_of H.out).mono ?_); rintro x w1 ⟨rfl, hb⟩; unfold tyV; have HB : Hid (Below w.heap.size w (w1.alloc (.cells #[.int .i64 e.self.kind, .int .i64 e.self.elem, .int .i64 e.self.n, .string (bs e.self.name)] 41))) := Lib.hid (hb.alloc hb.size _); clear hb) | ((with_reducible refine (size_of (H.out.below HB.out)).mono ?_); rintro x w2 ⟨rfl, hb⟩; have HB2 := Lib.hid (HB.out.trans (hb.mono HB.out.size)); clear hb) | ((with_reducible refine (number_any (HT.out.below HB2.out) ⟨5, n, c, []⟩ (c * e.size) hT).mono ?_); rintro x w2 ⟨v2, rfl, h2, t2⟩; have H2 := Lib.hid h2; have T2 := Lib.hid t2; clear h2 t2))
  go_ret2
  exact ⟨_, rfl, H2.out, (Turn.of_below HB2.out).trans T2.out⟩
theorem array_any {w : World} {t B : Nat} {v : Value} {T : Tab} (h : TabIn w t B v T) (hG : Tp.Good T) (n c : Int) : Calls Tryd.prog 17 #[.pointer (some ⟨t, 0, none⟩), .int .i64 n, .int .i64 c] w (NumPost t B v (array T n c) w) := by
  cases hn : ent T n with
  | none => exact (array_bad (entAt_out h n hn)).mono fun e w' hx => hx.num h (by unfold array; rw [hn])
  | some e =>
    obtain ⟨k, rfl, _, hk⟩ := ent_some hn
    have hsz := hG.size k e hk
    by_cases hs : e.size ≤ 0
    · exact (array_err h k c e hn hs).mono fun x w' hx => hx.num h (by unfold array; rw [hn]; simp only; rw [if_pos hs])
    · by_cases hc : c < 1 ∨ 1024 < c ∨ 4096 < c * e.size
      · exact (array_long h k c e hn (by omega) hsz.2 hc).mono fun x w' hx => hx.num h (by unfold array; rw [hn]; simp only; rw [if_neg hs, if_pos hc])
      · have hp : array T k c = num T ⟨5, k, c, []⟩ (c * e.size) := by unfold array; rw [hn]; simp only; rw [if_neg hs, if_neg hc]
        rw [hp]
        exact array_fit h hG.few k c e hn (by omega) (by omega) (by omega) (by omega)
end Go.Proofs.YtemnlkgjgalipaaDoor
