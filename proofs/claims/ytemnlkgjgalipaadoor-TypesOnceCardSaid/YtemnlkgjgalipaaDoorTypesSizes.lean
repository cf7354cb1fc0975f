/-
  The walk of TypesSizes.
-/
import Derived.Test.YtemnlkgjgalipaaDoorAwake
namespace Go.Proofs.YtemnlkgjgalipaaDoor.typesSizes
open Go.RowKit Go.Maps Tp
set_option linter.unusedVariables false

theorem wf8 {a : Int} (h : (Lit.int .u8 a).wf = true) : 0 ≤ a ∧ a ≤ 255 := by
  simpa [Lit.wf, IntKind.min, IntKind.max, IntKind.signed, IntKind.bits] using h
/-- The tables as they come. -/
def t1 (k m : Int) : Tab := newT ++ [⟨⟨5, k, m, []⟩, m, none⟩]
def t2 (k m n : Int) : Tab := t1 k m ++ [⟨⟨5, 4, n, []⟩, n * m, none⟩]
def t3 (k m n : Int) : Tab := t2 k m n ++ [⟨⟨4, 5, 0, []⟩, 1, none⟩]
theorem ent_k {k : Int} (h1 : 1 ≤ k) (h3 : k ≤ 3) : ∃ e, ent newT k = some e ∧ e.size = 1 := by
  have : k = 1 ∨ k = 2 ∨ k = 3 := by omega
  rcases this with rfl | rfl | rfl <;> exact ⟨_, rfl, rfl⟩
theorem s1 {k m : Int} (h1 : 1 ≤ k) (h3 : k ≤ 3) (hm : 1 ≤ m) (hm2 : m ≤ 60) : array newT k m = (4, 0, t1 k m) := by
  obtain ⟨e, he, hs⟩ := ent_k h1 h3
  unfold array
  rw [he]
  simp only [hs]
  rw [if_neg (by omega), if_neg (by omega)]
  simp [num, find, newT, t1]
theorem s2 {k m n : Int} (h1 : 1 ≤ k) (h3 : k ≤ 3) (hm : 1 ≤ m) (hm2 : m ≤ 60) (hn : 1 ≤ n) (hn2 : n ≤ 60) : array (t1 k m) 4 n = (5, 0, t2 k m n) := by
  have he : ent (t1 k m) 4 = some ⟨⟨5, k, m, []⟩, m, none⟩ := rfl
  have hp : n * m ≤ 60 * 60 := Int.mul_le_mul hn2 hm2 (by omega) (by omega)
  unfold array
  rw [he]
  simp only
  rw [if_neg (by omega), if_neg (by omega)]
  have : ¬ k = 4 := by omega
  simp [num, find, newT, t1, t2, this]
theorem s3 {k m n : Int} (h1 : 1 ≤ k) (h3 : k ≤ 3) : pointer (t2 k m n) 5 = (6, 0, t3 k m n) := by
  unfold pointer
  have he : ent (t2 k m n) 5 = some ⟨⟨5, 4, n, []⟩, n * m, none⟩ := rfl
  rw [he]
  simp [num, find, newT, t1, t2, t3]
theorem s4 {k m n : Int} (h1 : 1 ≤ k) (h3 : k ≤ 3) : pointer (t3 k m n) 5 = (6, 0, t3 k m n) := by
  unfold pointer
  have he : ent (t3 k m n) 5 = some ⟨⟨5, 4, n, []⟩, n * m, none⟩ := rfl
  rw [he]
  simp [num, find, newT, t1, t2, t3]
theorem s5 (k m n : Int) : Tp.sizeOf (t3 k m n) 5 = n * m := rfl
theorem s6 (k m n : Int) : Tp.sizeOf (t3 k m n) 6 = 1 := rfl
theorem scalar_any {w : World} {t B : Nat} {v : Value} {T : Tab} (h : TabIn w t B v T) (n : Int) : Calls Tryd.prog 23 #[.pointer (some ⟨t, 0, none⟩), .int .i64 n] w fun x w' => x = .returned (.bool (scalar T n)) ∧ Below w.heap.size w w' := by
  obtain ⟨m, hE, _⟩ := entAt_any h n
  refine (scalar_of hE).mono ?_
  rintro x w' ⟨rfl, hb⟩
  refine ⟨?_, hb⟩
  unfold scalar
  cases ent T n with
  | none => rfl
  | some e => rfl
theorem s7 (k m n : Int) : scalar (t3 k m n) 6 = true := rfl
theorem s8 (k m n : Int) : scalar (t3 k m n) 4 = false := rfl
set_option maxHeartbeats 4000000 in
set_option maxRecDepth 100000 in
theorem walk (a0 : Int) (_w0 : (Lit.int .u8 a0).wf = true) (a1 : Int) (_w1 : (Lit.int .u8 a1).wf = true) (a2 : Int) (_w2 : (Lit.int .u8 a2).wf = true) (w : World) (henv : Env w) :
    Calls Tryd.prog 7 #[.int .u8 a0, .int .u8 a1, .int .u8 a2] w fun e w' => e = .returned (.bool true) ∧ Below w.heap.size w w' := by
  have HE := Lib.hid henv; clear henv
  have x0 : 0 ≤ a0 ∧ a0 ≤ 255 := wf8 _w0
  have x1 : 0 ≤ a1 ∧ a1 ≤ 255 := wf8 _w1
  have x2 : 0 ≤ a2 ∧ a2 ≤ 255 := wf8 _w2
  obtain ⟨x00, x01⟩ := x0
  obtain ⟨x10, x11⟩ := x1
  obtain ⟨x20, x21⟩ := x2
  clear _w0 _w1 _w2
  go_enter Tryd.func7, Tryd.ntmps7
  go_wp2_with fail
  have m0 : 1 ≤ 1 + a0 % 60 ∧ 1 + a0 % 60 ≤ 60 := by omega
  have n0 : 1 ≤ 1 + a1 % 60 ∧ 1 + a1 % 60 ≤ 60 := by omega
  have k0 : 1 ≤ 1 + a2 % 3 ∧ 1 + a2 % 3 ≤ 3 := by omega
  generalize hm : 1 + a0 % 60 = m at m0 ⊢
  generalize hn : 1 + a1 % 60 = n at n0 ⊢
  generalize hk : 1 + a2 % 3 = k at k0 ⊢
  clear hm hn hk
  obtain ⟨m0, m1⟩ := m0
  obtain ⟨n0, n1⟩ := n0
  obtain ⟨k0, k1⟩ := k0
  refine (new_any w).mono ?_
  rintro x w1 ⟨v1, rfl, h1, b1⟩
  have H1 := Lib.hid h1
  have B1 := Lib.hid b1
  clear h1 b1
  go_wp2_with fail
  refine (array_any H1.out good_new k m).mono ?_
  rw [s1 k0 k1 m0 m1]
  rintro x w2 ⟨v2, rfl, h2, t2⟩
  have H2 := Lib.hid h2
  have B2 := Lib.hid (B1.out.trans (H1.out.turn t2))
  clear h2 t2
  have G1 := Lib.hid (good_array (T := newT) (elem := k) (n := m) good_new)
  rw [s1 k0 k1 m0 m1] at G1
  go_wp2_with fail
  refine (array_any H2.out G1.out 4 n).mono ?_
  rw [s2 k0 k1 m0 m1 n0 n1]
  rintro x w3 ⟨v3, rfl, h3, t3⟩
  have H3 := Lib.hid h3
  have B3 := Lib.hid (B2.out.trans (H2.out.turn t3))
  clear h3 t3
  go_wp2_with fail
  refine (pointer_any H3.out (by simp [t2, t1, newT]) 5).mono ?_
  rw [s3 k0 k1]
  rintro x w4 ⟨v4, rfl, h4, t4⟩
  have H4 := Lib.hid h4
  have B4 := Lib.hid (B3.out.trans (H3.out.turn t4))
  clear h4 t4
  go_wp2_with fail
  refine (pointer_any H4.out (by simp [t3, t2, t1, newT]) 5).mono ?_
  rw [s4 k0 k1]
  rintro x w5 ⟨v5, rfl, h5, t5⟩
  have H5 := Lib.hid h5
  have B5 := Lib.hid (B4.out.trans (H4.out.turn t5))
  clear h5 t5
  have p0 : 1 * 1 ≤ n * m := Int.mul_le_mul n0 m0 (by omega) (by omega)
  have p1 : n * m ≤ 60 * 60 := Int.mul_le_mul n1 m1 (by omega) (by omega)
  have hq : IntKind.i64.wrap (m * n) = n * m := by rw [Int.mul_comm m n]; exact IntWalk.i64_in _ (by omega)
  have hd : decide (0 < n * m) = true := by simp; omega
  go_wp2_with fail
  refine (size_any H5.out 5).mono ?_
  rw [s5]
  rintro x w6 ⟨rfl, b6⟩
  have H6 := Lib.hid (H5.out.below b6)
  have B6 := Lib.hid (B5.out.trans (b6.mono B5.out.size))
  clear b6
  go_wp2_with fail
  refine (size_any H6.out 6).mono ?_
  rw [s6]
  rintro x w7 ⟨rfl, b7⟩
  have H7 := Lib.hid (H6.out.below b7)
  have B7 := Lib.hid (B6.out.trans (b7.mono B6.out.size))
  clear b7
  go_wp2_with fail
  refine (scalar_any H7.out 6).mono ?_
  rw [s7]
  rintro x w8 ⟨rfl, b8⟩
  have H8 := Lib.hid (H7.out.below b8)
  have B8 := Lib.hid (B7.out.trans (b8.mono B7.out.size))
  clear b8
  go_wp2_with fail
  refine (scalar_any H8.out 4).mono ?_
  rw [s8]
  rintro x w9 ⟨rfl, b9⟩
  have H9 := Lib.hid (H8.out.below b9)
  have B9 := Lib.hid (B8.out.trans (b9.mono B8.out.size))
  clear b9
  go_wp2_with fail
  refine (len_any H9.out).mono ?_
  rw [show (t3 k m n).length = 7 by rfl]
  rintro x w10 ⟨rfl, rfl⟩
  go_wp2_with fail
  refine (awake_any _ (HE.out.below B9.out HE.out.sz)).mono ?_
  rintro x w11 ⟨rfl, b11⟩
  go_wp2
  go_ret
  exact ⟨rfl, B9.out.trans (b11.mono B9.out.size)⟩
end Go.Proofs.YtemnlkgjgalipaaDoor.typesSizes
