/-
  The laws' own 'bound' and 'awake'.
-/
import Derived.Test.YtkgnmlllmihmlaaGreatDoorAwkA
namespace Go.Proofs.YtkgnmlllmihmlaaGreatDoor
open Go.RowKit Sp Tr Go.Shelf
set_option linter.unusedVariables false

theorem Fits.at {T : Tr.Tree} (h : Fits T) (n : Int) : (-9223372036854775808 ≤ (atN T n).a ∧ (atN T n).a ≤ 9223372036854775807) ∧ (-9223372036854775808 ≤ (atN T n).b ∧ (atN T n).b ≤ 9223372036854775807) := by
  unfold atN
  split
  · simp
  · rw [List.getD_eq_getElem?_getD]
    cases hx : T.nodes[n.toNat]? with
    | none => simp
    | some x => exact h x (List.mem_of_getElem? hx)
/-- The node that tells a sum of 1 and a product of 2 and 3. -/
structure Tells (T : Tr.Tree) (m : Nat) (y s p : Nd) : Prop where
  low : ∀ (k : Nat) (x : Nd), k < m → T.nodes[k]? = some x → x.kind ≠ 37
  yy : T.nodes[m]? = some y
  ss : atN T y.a = s
  pp : atN T s.b = p
  k37 : y.kind = 37
  s4 : s.kind = 4
  st : s.text = [43]
  n1 : (atN T s.a).n = 1
  p4 : p.kind = 4
  pt : p.text = [42]
  n2 : (atN T p.a).n = 2
  n3 : (atN T p.b).n = 3
/-- A tree, and the block that holds it. -/
structure TB (w : World) (b B : Nat) (vn vt : Value) (T : Tr.Tree) : Prop where
  t : TreeIn w B vn vt T
  b : w.heap[b]? = some (trO vn vt T)
theorem TB.below {w w' : World} {b B : Nat} {vn vt : Value} {T : Tr.Tree} (h : TB w b B vn vt T) (hb : Below w.heap.size w w') : TB w' b B vn vt T := ⟨h.t.below hb, (hb.block _ (lt_heap h.b)).trans h.b⟩
theorem TB.alloc {w : World} {b B : Nat} {vn vt : Value} {T : Tr.Tree} (h : TB w b B vn vt T) (o : Obj) : TB (w.alloc o) b B vn vt T := h.below ((Below.refl w.heap.size w).alloc (Nat.le_refl _) o)
theorem at_b {w : World} {b B : Nat} {vn vt : Value} {T : Tr.Tree} {n : Int} {x : Nd} (h : TB w b B vn vt T) (hn : -9223372036854775808 ≤ n ∧ n ≤ 9223372036854775807) (hx : atN T n = x) :
    Calls Tryz.prog 36 #[.int .i64 n, .pointer (some ⟨b, 0, none⟩)] w (RPost (ndV x) w) := hx ▸ at_t h.t h.b n hn
/-- A block that was new stays. -/
theorem kept_at {w v : World} {o : Obj} (hb : Below (w.alloc o).heap.size (w.alloc o) v) : v.heap[w.heap.size]? = some o ∧ w.heap.size < v.heap.size := by
  have h : v.heap[w.heap.size]? = some o := (hb.block _ (by simp)).trans (heap_alloc_new w o)
  exact ⟨h, lt_heap h⟩
theorem fldN6 (a b c d e f g h i : Value) (w : World) : (Instr.field 33 (.agg #[a, b, c, d, e, f, g, h, i]) 6).run Tryz.prog w = .ok g w := by kernel_rfl
set_option maxHeartbeats 4000000 in
theorem bound_t {w : World} {B m : Nat} {vn vt : Value} {T : Tr.Tree} {y s p : Nd} (h : TreeIn w B vn vt T) (hF : Fits T) (hT : Tells T m y s p) :
    Calls Tryz.prog 18 #[.agg #[vn, vt, .int .i64 T.top]] w (RPost (.bool true) w) := by
  have hm : m < T.nodes.length := (List.getElem?_eq_some_iff.1 hT.yy).1
  obtain ⟨an, cn, rfl⟩ := row_slice h.nodes
  obtain ⟨ay, cy, rfl⟩ := row_slice h.types
  obtain ⟨g, rfl, zg'⟩ := h.nodeForm (by omega)
  have hln := h.ln
  have H := Lib.hid h; clear h
  have HF := Lib.hid hF; clear hF
  have HTT := Lib.hid hT; clear hT
  go_enter Tryz.func18, Tryz.ntmps18
  go_wp2
  go_loopg [12] (m + 1) (fun gk s12 wr => ∃ k : Nat, gk = m + 1 - k ∧ k ≤ m ∧ s12 = .int .i64 k ∧ Hid (Below w.heap.size w wr) ∧ Hid (wr.heap[w.heap.size]? = some (trO (.slice (some ⟨g, 0, none⟩) T.nodes.length cn) (.slice ay T.types.length cy) T)))
  case atStart => exact ⟨0, rfl, by omega, rfl, Lib.hid ((Below.refl _ _).alloc (Nat.le_refl _) _), Lib.hid (heap_alloc_new w _)⟩
  case round =>
    obtain ⟨k, hgk, hk, rfl, HB, HX⟩ := hrel
    subst hgk
    obtain ⟨r0, r1, r2, _, _, _⟩ := nv3 HX.out
    have zx := lt_heap HX.out
    obtain ⟨x, hx⟩ : ∃ x, T.nodes[k]? = some x := ⟨_, List.getElem?_eq_getElem (by omega)⟩
    have hT := H.out.below HB.out
    have zg := (hT.nodes.lt g rfl).2
    obtain ⟨c0, c1, c2, c3, c4, c5, c6, c7, c8⟩ := hT.row hx
    have q0 : (0 : Int) ≤ (k : Int) := Int.natCast_nonneg _
    have q1 : (k : Int) < (T.nodes.length : Int) := by omega
    have HB0 := Lib.hid ((TB.mk hT HX.out).alloc (ndO x))
    have hxa := (HF.out x (List.mem_of_getElem? hx)).1
    obtain ⟨s', hs'⟩ : ∃ s', atN T x.a = s' := ⟨_, rfl⟩
    obtain ⟨p', hp'⟩ : ∃ p', atN T s'.b = p' := ⟨_, rfl⟩
    have hsb : -9223372036854775808 ≤ s'.b ∧ s'.b ≤ 9223372036854775807 := by rw [← hs']; exact (HF.out.at _).2
    have HS := Lib.hid hs'; clear hs'
    have HP := Lib.hid hp'; clear hp'
    have HXX := Lib.hid hx; clear hx hT
    by_cases hkm : k < m
    · have e1 : ¬ x.kind = 37 := HTT.out.low k x hkm HXX.out
      have e2 : decide (x.kind = 37) = false := decide_eq_false e1
      go_wp2_with (first | ((with_reducible refine (at_b HB0.out hxa HS.out).mono ?_); rintro e v1 ⟨rfl, hb⟩; obtain ⟨hh1, z1⟩ := kept_at hb; obtain ⟨f0, f1, f2, f3, f4, f5, f6, f7, f8, _⟩ := nv9 hh1; have HH1 := Lib.hid hh1; clear hh1; have HB1 := Lib.hid ((HB0.out.below hb).alloc (ndO s')); have HC1 := Lib.hid hb; clear hb) | ((with_reducible refine (at_b HB1.out hsb HP.out).mono ?_); rintro e v2 ⟨rfl, hb⟩; obtain ⟨hh2, z2⟩ := kept_at hb; obtain ⟨g0, g1, g2, g3, g4, g5, g6, g7, g8, _⟩ := nv9 hh2; have hh3 := (hb.block _ (by simp; omega)).trans ((Below.heap_alloc _ _ _ z1).trans HH1.out); obtain ⟨k0, k1, k2, k3, k4, k5, k6, k7, k8, _⟩ := nv9 hh3; have z3 := lt_heap hh3; have HH2 := Lib.hid hh2; have HH3 := Lib.hid hh3; clear hh2 hh3; have HB2 := Lib.hid ((HB1.out.below hb).alloc (ndO p')); have HC2 := Lib.hid hb; clear hb))
      go_roundg (m + 1 - (k + 1))
      case measure => omega
      case rel =>
        have hb : Below w.heap.size w (v2.alloc (ndO p')) := (((((HB.out.alloc HB.out.size _).trans (HC1.out.mono (by have := HB.out.size; simp; omega))).alloc (by have := HB.out.size; omega) _).trans (HC2.out.mono (by have := HB.out.size; simp; omega))).alloc (by have := HB.out.size; omega) _)
        exact ⟨k + 1, rfl, by omega, by go_num, Lib.hid hb, Lib.hid HB2.out.b⟩
    · obtain rfl : k = m := by omega
      obtain rfl : x = y := by have := HXX.out; rw [HTT.out.yy] at this; injection this with this; exact this.symm
      obtain rfl : s = s' := by rw [← HS.out]; exact HTT.out.ss.symm
      obtain rfl : p = p' := by rw [← HP.out]; exact HTT.out.pp.symm
      obtain ⟨_, _, _, _, k37, s4, st, n1, p4', pt, n2, n3⟩ := HTT.out
      have hsa : -9223372036854775808 ≤ s.a ∧ s.a ≤ 9223372036854775807 := by rw [← HS.out]; exact (HF.out.at _).1
      have hpa : -9223372036854775808 ≤ p.a ∧ p.a ≤ 9223372036854775807 := by rw [← HP.out]; exact (HF.out.at _).1
      have hpb : -9223372036854775808 ≤ p.b ∧ p.b ≤ 9223372036854775807 := by rw [← HP.out]; exact (HF.out.at _).2
      obtain ⟨o1, ho1⟩ : ∃ o, atN T s.a = o := ⟨_, rfl⟩
      obtain ⟨o2, ho2⟩ : ∃ o, atN T p.a = o := ⟨_, rfl⟩
      obtain ⟨o3, ho3⟩ : ∃ o, atN T p.b = o := ⟨_, rfl⟩
      rw [ho1] at n1
      rw [ho2] at n2
      rw [ho3] at n3
      have HA1 := Lib.hid ho1; clear ho1
      have HA2 := Lib.hid ho2; clear ho2
      have HA3 := Lib.hid ho3; clear ho3
      have y6 := fldN6
      have t3 : (x.kind == 37) = true := by simpa using k37
      have t4 : (s.kind == 4) = true := by simpa using s4
      have t5 : (p.kind == 4) = true := by simpa using p4'
      have t6 : (o1.n == 1) = true := by simpa using n1
      have t7 : (o2.n == 2) = true := by simpa using n2
      have t8 : (o3.n == 3) = true := by simpa using n3
      have t1 : (s.text == [43]) = true := by rw [st]; rfl
      have t2 : (p.text == [42]) = true := by rw [pt]; rfl
      clear k37 s4 st n1 p4' pt n2 n3
      go_wp2_with (first | ((with_reducible refine (at_b HB0.out hxa HS.out).mono ?_); rintro e v1 ⟨rfl, hb⟩; obtain ⟨hh1, z1⟩ := kept_at hb; obtain ⟨f0, f1, f2, f3, f4, f5, f6, f7, f8, _⟩ := nv9 hh1; have HH1 := Lib.hid hh1; clear hh1; have HB1 := Lib.hid ((HB0.out.below hb).alloc (ndO s)); have HC1 := Lib.hid hb; clear hb) | ((with_reducible refine (at_b HB1.out hsb HP.out).mono ?_); rintro e v2 ⟨rfl, hb⟩; obtain ⟨hh2, z2⟩ := kept_at hb; obtain ⟨g0, g1, g2, g3, g4, g5, g6, g7, g8, _⟩ := nv9 hh2; have hh3 := (hb.block _ (by simp; omega)).trans ((Below.heap_alloc _ _ _ z1).trans HH1.out); obtain ⟨k0, k1, k2, k3, k4, k5, k6, k7, k8, _⟩ := nv9 hh3; have z3 := lt_heap hh3; have HH2 := Lib.hid hh2; have HH3 := Lib.hid hh3; clear hh2 hh3; have HB2 := Lib.hid ((HB1.out.below hb).alloc (ndO p)); have HC2 := Lib.hid hb; clear hb) | ((with_reducible refine (at_b HB2.out hsa HA1.out).mono ?_); rintro e v3 ⟨rfl, hb⟩; obtain ⟨hh2, z5⟩ := kept_at hb; obtain ⟨p0, p1, p2, p3, p4, p5, p6, p7, p8, _⟩ := nv9 hh2; have HB3 := Lib.hid (HB2.out.below hb); have HP3 := Lib.hid hh2; have HC3 := Lib.hid hb; clear hb hh2) | ((with_reducible refine (at_b HB3.out hpa HA2.out).mono ?_); rintro e v4 ⟨rfl, hb⟩; have hh2 := (hb.block _ z5).trans HP3.out; obtain ⟨q0, q1, q2, q3, q4, q5, q6, q7, q8, _⟩ := nv9 hh2; have HB4 := Lib.hid (HB3.out.below hb); have HC4 := Lib.hid hb; clear hb hh2) | ((with_reducible refine (at_b HB4.out hpb HA3.out).mono ?_); rintro e v5 ⟨rfl, hb⟩; have HC5 := Lib.hid hb; clear hb))
      go_ret
      refine ⟨rfl, ?_⟩
      have b1 : Below w.heap.size w (v2.alloc (ndO p)) := (((((HB.out.alloc HB.out.size _).trans (HC1.out.mono (by have := HB.out.size; simp; omega))).alloc (by have := HB.out.size; omega) _).trans (HC2.out.mono (by have := HB.out.size; simp; omega))).alloc (by have := HB.out.size; omega) _)
      have z9 := b1.size
      have b3 := b1.trans (HC3.out.mono z9)
      have b4 := b3.trans (HC4.out.mono b3.size)
      exact b4.trans (HC5.out.mono b4.size)
end Go.Proofs.YtkgnmlllmihmlaaGreatDoor
