/-
  Contract of doppelref07's right: kinds 8.
-/
import Derived.Test.YtgnpbodhjmappaaPNJ
set_option linter.unusedVariables false
set_option linter.unusedSimpArgs false
namespace Go.Proofs.Ytgnpbodhjmappaa
set_option maxRecDepth 100000
open Go.RowKit Cd
set_option maxHeartbeats 4000000 in
set_option maxRecDepth 100000 in
theorem right_8a (op a b n : Int) (text : List UInt8) (x0 x1 x2 x3 x4 x5 dest els : Int) (r : FnR) (hreg : 0 ≤ r.f.regs) (w : World) :
    Calls Try.prog 39 #[inV ⟨8, op, -1, a, b, n, text, x0, x1, x2, x3, x4, x5, dest, els⟩, fnV r] w (RPost (.bool (rightI ⟨8, op, -1, a, b, n, text, x0, x1, x2, x3, x4, x5, dest, els⟩ r.f.regs r.f.frame r.f.code.length)) w) := by
  go_enter Try.func39, Try.ntmps39
  go_wp2_with ((with_reducible refine (uses_any ⟨8, op, -1, a, b, n, text, x0, x1, x2, x3, x4, x5, dest, els⟩ _).mono ?_); go_loud (rintro e v1 ⟨v, rfl, ho, hb⟩; obtain ⟨a1, c1, rfl⟩ := row_slice ho; have HO := Lib.hid ho; obtain ⟨f0, f1, f2, fb, fs⟩ := three_new w (inO ⟨8, op, -1, a, b, n, text, x0, x1, x2, x3, x4, x5, dest, els⟩) (fnO r) (inO ⟨8, 0, -1, 0, 0, 0, [], 0, 0, 0, 0, 0, 0, 0, -1⟩); have F0 := Lib.hid ((hb.block _ (Nat.lt_of_lt_of_eq (show _ < w.heap.size + 3 by omega) fs.symm)).trans f0); have F1 := Lib.hid ((hb.block _ (Nat.lt_of_lt_of_eq (show _ < w.heap.size + 3 by omega) fs.symm)).trans f1); have F2 := Lib.hid ((hb.block _ (Nat.lt_of_lt_of_eq (show _ < w.heap.size + 3 by omega) fs.symm)).trans f2); have HB : Hid (Below w.heap.size w v1) := Lib.hid (fb.trans (hb.mono (Nat.le_trans (show w.heap.size ≤ w.heap.size + 3 by omega) (Nat.le_of_eq fs.symm)))); have hs1 : w.heap.size + 3 ≤ v1.heap.size := Nat.le_trans (Nat.le_of_eq fs.symm) hb.size; clear f0 f1 f2 fb fs ho hb))
  obtain ⟨xs, hxs⟩ : ∃ xs, uses ⟨8, op, -1, a, b, n, text, x0, x1, x2, x3, x4, x5, dest, els⟩ = xs := ⟨_, rfl⟩
  have HXS := Lib.hid hxs
  have hxl : xs.length ≤ 8 := hxs ▸ uses_len _
  rw [hxs] at HO ⊢
  clear hxs
  go_loopw [7] (fun s7 wr => ∃ k : Nat, k ≤ xs.length ∧ s7 = .int .i64 k ∧ Hid (wr.heap = v1.heap) ∧ Hid (Below w.heap.size w wr) ∧ Hid ((xs.take k).all (regOk r.f.regs) = true)) (fun i wr => xs.length - (intOf i).toNat)
  case atStart => exact ⟨0, by omega, rfl, Lib.hid rfl, HB, Lib.hid (by simp)⟩
  case round =>
    obtain ⟨k, hk, rfl, HQ, HB2, HA⟩ := hrel
    have G0 := Lib.hid ((congrArg (fun h => h[w.heap.size]?) HQ.out).trans F0.out)
    have G1 := Lib.hid ((congrArg (fun h => h[w.heap.size + 1]?) HQ.out).trans F1.out)
    have G2 := Lib.hid ((congrArg (fun h => h[w.heap.size + 1 + 1]?) HQ.out).trans F2.out)
    have hs2 : w.heap.size + 3 ≤ wr.heap.size := by rw [HQ.out]; exact hs1
    obtain ⟨c0, c1, c2, c3, c4, c5, c6, c7, c8, c9, c10, c11, c12, c13, c14⟩ := nv15 (w := wr) G0.out
    obtain ⟨d0, d1, d2, d3, d4⟩ := nv5 (w := wr) G1.out
    have HO2 := Lib.hid (own_keep (w' := wr) HO.out (fun g _ => by rw [HQ.out]))
    by_cases hlt : k < xs.length
    · obtain ⟨x, hx⟩ : ∃ x, xs[k]? = some x := ⟨_, List.getElem?_eq_getElem hlt⟩
      obtain ⟨g, rfl, hg, hgl, cu⟩ := own_int HO2.out hx
      have HX := Lib.hid hx; clear hx
      have q0 : (0 : Int) ≤ (k : Int) := Int.natCast_nonneg _
      have q1 : (k : Int) < (xs.length : Int) := by omega
      by_cases z0 : x < 0
      · have t0 : decide (x < (0 : Int)) = true := by simpa using z0
        have hno : regOk r.f.regs x = false := by unfold regOk; simp; omega
        have HNO := Lib.hid (no_uses (i := ⟨8, op, -1, a, b, n, text, x0, x1, x2, x3, x4, x5, dest, els⟩) (regs := r.f.regs) (frame := r.f.frame) (len := r.f.code.length) (by rw [HXS.out]; exact all_no HX.out hno))
        clear hno
        go_wp2
        go_quiet (fail)
        go_wp2
        go_ret
        refine ⟨?_, drN HB2.out _⟩
        rw [HNO.out]; rfl
      · have t0 : decide (x < (0 : Int)) = false := by simpa using z0
        by_cases z1 : x < r.f.regs
        · have t1 : decide (x ≥ r.f.regs) = false := by simp; omega
          have t2 : decide (r.f.regs ≤ x) = false := by simp; omega
          have hyes : regOk r.f.regs x = true := by unfold regOk; simp; omega
          have HY := Lib.hid (all_yes HA.out HX.out hyes)
          clear hyes
          go_wp2
          go_quiet (fail)
          go_wp2
          go_roundw
          case rel => exact ⟨k + 1, by omega, by go_num, Lib.hid HQ.out, Lib.hid (drN HB2.out _), HY⟩
          case measure => simp [intOf]; omega
        · have t1 : decide (x ≥ r.f.regs) = true := by simp; omega
          have t2 : decide (r.f.regs ≤ x) = true := by simp; omega
          have hno : regOk r.f.regs x = false := by unfold regOk; simp; omega
          have HNO := Lib.hid (no_uses (i := ⟨8, op, -1, a, b, n, text, x0, x1, x2, x3, x4, x5, dest, els⟩) (regs := r.f.regs) (frame := r.f.frame) (len := r.f.code.length) (by rw [HXS.out]; exact all_no HX.out hno))
          clear hno
          go_wp2
          go_quiet (fail)
          go_wp2
          go_ret
          refine ⟨?_, drN HB2.out _⟩
          rw [HNO.out]; rfl
    · obtain rfl : k = xs.length := by omega
      have hu := HA.out
      rw [List.take_length, ← HXS.out] at hu
      have HU := Lib.hid hu
      clear hu HA HO HO2 HXS
      have zt1 : decide ((-1 : Int) ≥ r.f.regs) = false := by simp <;> omega
      have zt2 : decide (r.f.regs ≤ (-1 : Int)) = false := by simp <;> omega
      have HD : Hid (dstOk ⟨8, op, -1, a, b, n, text, x0, x1, x2, x3, x4, x5, dest, els⟩ r.f.regs = true) := Lib.hid (by simp [dstOk, regOk] <;> omega)
      by_cases y0 : 0 ≤ n
      rotate_left
      · have u0 : decide (n < (0 : Int)) = true := by simp <;> omega
        have HNO := Lib.hid (no_n (i := ⟨8, op, -1, a, b, n, text, x0, x1, x2, x3, x4, x5, dest, els⟩) (regs := r.f.regs) (frame := r.f.frame) (len := r.f.code.length) (by simp [nOk] <;> omega))
        go_wp2_with (first | ((with_reducible refine (sets_v ⟨8, op, -1, a, b, n, text, x0, x1, x2, x3, x4, x5, dest, els⟩ (-1) rfl _).mono ?_); rintro e v2 ⟨rfl, hb⟩; have K0 := (hb.block _ (show w.heap.size < wr.heap.size by omega)).trans G0.out; have K1 := (hb.block _ (show w.heap.size + 1 < wr.heap.size by omega)).trans G1.out; have K2 := (hb.block _ (show w.heap.size + 1 + 1 < wr.heap.size by omega)).trans G2.out; obtain ⟨c0, c1, c2, c3, c4, c5, c6, c7, c8, c9, c10, c11, c12, c13, c14⟩ := nv15 K0; obtain ⟨d0, d1, d2, d3, d4⟩ := nv5 K1; obtain ⟨e0, e1, e2, e3, e4, e5, e6, e7, e8, e9, e10, e11, e12, e13, e14⟩ := nv15 K2; have fz : ∀ j, v2.frozen? ⟨w.heap.size + 1 + 1, j, none⟩ = false := (fun j => by simp [World.frozen?, K2]); have hs3 : w.heap.size + 3 ≤ v2.heap.size := (by have := hb.size; omega); have HB3 := Lib.hid (HB2.out.trans (hb.mono (by omega))); have J0 := Lib.hid K0; have J1 := Lib.hid K1; have J2 := Lib.hid K2; clear hb K0 K1 K2))
        go_ret
        refine ⟨by rw [HNO.out]; rfl, ?_⟩
        repeat (first | exact HB3.out | refine Below.setCell ?_ (show w.heap.size ≤ w.heap.size + 1 + 1 by omega) _)
      have u0 : decide (n < (0 : Int)) = false := by simp <;> omega
      by_cases y1 : n ≤ 6
      rotate_left
      · have u1 : decide (n > (6 : Int)) = true := by simp <;> omega
        have u2 : decide ((6 : Int) < n) = true := by simp <;> omega
        have HNO := Lib.hid (no_n (i := ⟨8, op, -1, a, b, n, text, x0, x1, x2, x3, x4, x5, dest, els⟩) (regs := r.f.regs) (frame := r.f.frame) (len := r.f.code.length) (by simp [nOk] <;> omega))
        go_wp2_with (first | ((with_reducible refine (sets_v ⟨8, op, -1, a, b, n, text, x0, x1, x2, x3, x4, x5, dest, els⟩ (-1) rfl _).mono ?_); rintro e v2 ⟨rfl, hb⟩; have K0 := (hb.block _ (show w.heap.size < wr.heap.size by omega)).trans G0.out; have K1 := (hb.block _ (show w.heap.size + 1 < wr.heap.size by omega)).trans G1.out; have K2 := (hb.block _ (show w.heap.size + 1 + 1 < wr.heap.size by omega)).trans G2.out; obtain ⟨c0, c1, c2, c3, c4, c5, c6, c7, c8, c9, c10, c11, c12, c13, c14⟩ := nv15 K0; obtain ⟨d0, d1, d2, d3, d4⟩ := nv5 K1; obtain ⟨e0, e1, e2, e3, e4, e5, e6, e7, e8, e9, e10, e11, e12, e13, e14⟩ := nv15 K2; have fz : ∀ j, v2.frozen? ⟨w.heap.size + 1 + 1, j, none⟩ = false := (fun j => by simp [World.frozen?, K2]); have hs3 : w.heap.size + 3 ≤ v2.heap.size := (by have := hb.size; omega); have HB3 := Lib.hid (HB2.out.trans (hb.mono (by omega))); have J0 := Lib.hid K0; have J1 := Lib.hid K1; have J2 := Lib.hid K2; clear hb K0 K1 K2))
        go_ret
        refine ⟨by rw [HNO.out]; rfl, ?_⟩
        repeat (first | exact HB3.out | refine Below.setCell ?_ (show w.heap.size ≤ w.heap.size + 1 + 1 by omega) _)
      have u1 : decide (n > (6 : Int)) = false := by simp <;> omega
      have u2 : decide ((6 : Int) < n) = false := by simp <;> omega
      by_cases y2 : 0 < text.length
      rotate_left
      · have u5 : text = [] := List.eq_nil_of_length_eq_zero (by omega)
        subst u5
        have HNO := Lib.hid (no_n (i := ⟨8, op, -1, a, b, n, [], x0, x1, x2, x3, x4, x5, dest, els⟩) (regs := r.f.regs) (frame := r.f.frame) (len := r.f.code.length) (by simp [nOk]))
        go_wp2_with (first | ((with_reducible refine (sets_v ⟨8, op, -1, a, b, n, [], x0, x1, x2, x3, x4, x5, dest, els⟩ (-1) rfl _).mono ?_); rintro e v2 ⟨rfl, hb⟩; have K0 := (hb.block _ (show w.heap.size < wr.heap.size by omega)).trans G0.out; have K1 := (hb.block _ (show w.heap.size + 1 < wr.heap.size by omega)).trans G1.out; have K2 := (hb.block _ (show w.heap.size + 1 + 1 < wr.heap.size by omega)).trans G2.out; obtain ⟨c0, c1, c2, c3, c4, c5, c6, c7, c8, c9, c10, c11, c12, c13, c14⟩ := nv15 K0; obtain ⟨d0, d1, d2, d3, d4⟩ := nv5 K1; obtain ⟨e0, e1, e2, e3, e4, e5, e6, e7, e8, e9, e10, e11, e12, e13, e14⟩ := nv15 K2; have fz : ∀ j, v2.frozen? ⟨w.heap.size + 1 + 1, j, none⟩ = false := (fun j => by simp [World.frozen?, K2]); have hs3 : w.heap.size + 3 ≤ v2.heap.size := (by have := hb.size; omega); have HB3 := Lib.hid (HB2.out.trans (hb.mono (by omega))); have J0 := Lib.hid K0; have J1 := Lib.hid K1; have J2 := Lib.hid K2; clear hb K0 K1 K2))
        go_ret
        refine ⟨by rw [HNO.out]; rfl, ?_⟩
        repeat (first | exact HB3.out | refine Below.setCell ?_ (show w.heap.size ≤ w.heap.size + 1 + 1 by omega) _)
      have u3 : ((text.length : Int) == (0 : Int)) = false := by simp <;> (intro e; subst e; simp at y2)
      have u4 : decide (text = []) = false := by simp <;> (intro e; subst e; simp at y2)
      have HN : Hid (nOk ⟨8, op, -1, a, b, n, text, x0, x1, x2, x3, x4, x5, dest, els⟩ r.f.frame = true) := Lib.hid (by simp [nOk] <;> first | done | (refine ⟨by omega, ?_⟩; intro e; subst e; simp at y2) | (intro e; subst e; simp at y2))
      have HP : Hid (opOk ⟨8, op, -1, a, b, n, text, x0, x1, x2, x3, x4, x5, dest, els⟩ = true) := Lib.hid (by simp [opOk])
      have HT : Hid (toOk ⟨8, op, -1, a, b, n, text, x0, x1, x2, x3, x4, x5, dest, els⟩ r.f.code.length = true) := Lib.hid (by simp [toOk])
      go_wp2_with (first | ((with_reducible refine (sets_v ⟨8, op, -1, a, b, n, text, x0, x1, x2, x3, x4, x5, dest, els⟩ (-1) rfl _).mono ?_); rintro e v2 ⟨rfl, hb⟩; have K0 := (hb.block _ (show w.heap.size < wr.heap.size by omega)).trans G0.out; have K1 := (hb.block _ (show w.heap.size + 1 < wr.heap.size by omega)).trans G1.out; have K2 := (hb.block _ (show w.heap.size + 1 + 1 < wr.heap.size by omega)).trans G2.out; obtain ⟨c0, c1, c2, c3, c4, c5, c6, c7, c8, c9, c10, c11, c12, c13, c14⟩ := nv15 K0; obtain ⟨d0, d1, d2, d3, d4⟩ := nv5 K1; obtain ⟨e0, e1, e2, e3, e4, e5, e6, e7, e8, e9, e10, e11, e12, e13, e14⟩ := nv15 K2; have fz : ∀ j, v2.frozen? ⟨w.heap.size + 1 + 1, j, none⟩ = false := (fun j => by simp [World.frozen?, K2]); have hs3 : w.heap.size + 3 ≤ v2.heap.size := (by have := hb.size; omega); have HB3 := Lib.hid (HB2.out.trans (hb.mono (by omega))); have J0 := Lib.hid K0; have J1 := Lib.hid K1; have J2 := Lib.hid K2; clear hb K0 K1 K2))
      go_loopw [9] (fun s9 wr2 => ∃ k : Nat, k ≤ 6 ∧ (k : Int) ≤ n ∧ s9 = .int .i64 k ∧ Hid (wr2.heap[w.heap.size]? = some (inO ⟨8, op, -1, a, b, n, text, x0, x1, x2, x3, x4, x5, dest, els⟩)) ∧ Hid (wr2.heap[w.heap.size + 1]? = some (fnO r)) ∧ Hid (wr2.heap[w.heap.size + 1 + 1]? = some (inO (o8 (-1) n text x0 x1 x2 x3 x4 x5 k))) ∧ Hid (Below w.heap.size w wr2)) (fun i wr => 6 - (intOf i).toNat)
      case atStart => exact ⟨0, by omega, by omega, rfl, Lib.hid (by simp only [heap_set2]; exact J0.out), Lib.hid (by simp only [heap_set1]; exact J1.out), Lib.hid ((cells_set (cells_set (cells_set J2.out 2 _) 5 _) 6 _).trans rfl), Lib.hid (by repeat (first | exact HB3.out | refine Below.setCell ?_ (show w.heap.size ≤ w.heap.size + 1 + 1 by omega) _))⟩
      case round =>
        obtain ⟨k, hk, hkn, rfl, L0, L1, L2, HB4⟩ := hrel
        obtain ⟨m0, m1, m2, m3, m4, m5, m6, m7, m8, m9, m10, m11, m12, m13, m14⟩ := nv15 L0.out
        obtain ⟨p0, p1, p2, p3, p4, p5, p6, p7, p8, p9, p10, p11, p12, p13, p14⟩ := nv15 L2.out
        have fz2 : ∀ j, wr.frozen? ⟨w.heap.size + 1 + 1, j, none⟩ = false := fun j => by simp [World.frozen?, L2.out]
        have hs4 := lt_heap L2.out
        by_cases hlt : (k : Int) < n
        · rcases (by omega : k = 0 ∨ k = 1 ∨ k = 2 ∨ k = 3 ∨ k = 4 ∨ k = 5) with rfl | rfl | rfl | rfl | rfl | rfl
          · go_wp2
            go_roundw
            case rel => exact ⟨1, by omega, by omega, by go_num, Lib.hid (by simp only [heap_set2]; exact L0.out), Lib.hid (by simp only [heap_set1]; exact L1.out), Lib.hid ((cells_set L2.out 7 _).trans rfl), Lib.hid (HB4.out.setCell (show w.heap.size ≤ w.heap.size + 1 + 1 by omega) _)⟩
            case measure => simp [intOf]
          · go_wp2
            go_roundw
            case rel => exact ⟨2, by omega, by omega, by go_num, Lib.hid (by simp only [heap_set2]; exact L0.out), Lib.hid (by simp only [heap_set1]; exact L1.out), Lib.hid ((cells_set L2.out 8 _).trans rfl), Lib.hid (HB4.out.setCell (show w.heap.size ≤ w.heap.size + 1 + 1 by omega) _)⟩
            case measure => simp [intOf]
          · go_wp2
            go_roundw
            case rel => exact ⟨3, by omega, by omega, by go_num, Lib.hid (by simp only [heap_set2]; exact L0.out), Lib.hid (by simp only [heap_set1]; exact L1.out), Lib.hid ((cells_set L2.out 9 _).trans rfl), Lib.hid (HB4.out.setCell (show w.heap.size ≤ w.heap.size + 1 + 1 by omega) _)⟩
            case measure => simp [intOf]
          · go_wp2
            go_roundw
            case rel => exact ⟨4, by omega, by omega, by go_num, Lib.hid (by simp only [heap_set2]; exact L0.out), Lib.hid (by simp only [heap_set1]; exact L1.out), Lib.hid ((cells_set L2.out 10 _).trans rfl), Lib.hid (HB4.out.setCell (show w.heap.size ≤ w.heap.size + 1 + 1 by omega) _)⟩
            case measure => simp [intOf]
          · go_wp2
            go_roundw
            case rel => exact ⟨5, by omega, by omega, by go_num, Lib.hid (by simp only [heap_set2]; exact L0.out), Lib.hid (by simp only [heap_set1]; exact L1.out), Lib.hid ((cells_set L2.out 11 _).trans rfl), Lib.hid (HB4.out.setCell (show w.heap.size ≤ w.heap.size + 1 + 1 by omega) _)⟩
            case measure => simp [intOf]
          · go_wp2
            go_roundw
            case rel => exact ⟨6, by omega, by omega, by go_num, Lib.hid (by simp only [heap_set2]; exact L0.out), Lib.hid (by simp only [heap_set1]; exact L1.out), Lib.hid ((cells_set L2.out 12 _).trans rfl), Lib.hid (HB4.out.setCell (show w.heap.size ≤ w.heap.size + 1 + 1 by omega) _)⟩
            case measure => simp [intOf]
        · obtain ⟨l0, l1, l2, l3, l4⟩ := nv5 L1.out
          obtain rfl : n = k := by omega
          have HQL := in_eqlV
          obtain ⟨g0, hg0⟩ : ∃ g, ifN 0 k x0 = g := ⟨_, rfl⟩
          rw [show (o8 (-1) k text x0 x1 x2 x3 x4 x5 k).x0 = g0 from hg0] at p7
          have HG0 := Lib.hid hg0; clear hg0
          obtain ⟨g1, hg1⟩ : ∃ g, ifN 1 k x1 = g := ⟨_, rfl⟩
          rw [show (o8 (-1) k text x0 x1 x2 x3 x4 x5 k).x1 = g1 from hg1] at p8
          have HG1 := Lib.hid hg1; clear hg1
          obtain ⟨g2, hg2⟩ : ∃ g, ifN 2 k x2 = g := ⟨_, rfl⟩
          rw [show (o8 (-1) k text x0 x1 x2 x3 x4 x5 k).x2 = g2 from hg2] at p9
          have HG2 := Lib.hid hg2; clear hg2
          obtain ⟨g3, hg3⟩ : ∃ g, ifN 3 k x3 = g := ⟨_, rfl⟩
          rw [show (o8 (-1) k text x0 x1 x2 x3 x4 x5 k).x3 = g3 from hg3] at p10
          have HG3 := Lib.hid hg3; clear hg3
          obtain ⟨g4, hg4⟩ : ∃ g, ifN 4 k x4 = g := ⟨_, rfl⟩
          rw [show (o8 (-1) k text x0 x1 x2 x3 x4 x5 k).x4 = g4 from hg4] at p11
          have HG4 := Lib.hid hg4; clear hg4
          obtain ⟨g5, hg5⟩ : ∃ g, ifN 5 k x5 = g := ⟨_, rfl⟩
          rw [show (o8 (-1) k text x0 x1 x2 x3 x4 x5 k).x5 = g5 from hg5] at p12
          have HG5 := Lib.hid hg5; clear hg5
          go_wp2
          have q1 : ((1 : Int) < (k : Int)) = (1 < k) := propext ⟨by omega, by omega⟩
          have q2 : ((2 : Int) < (k : Int)) = (2 < k) := propext ⟨by omega, by omega⟩
          have q3 : ((3 : Int) < (k : Int)) = (3 < k) := propext ⟨by omega, by omega⟩
          have q4 : ((4 : Int) < (k : Int)) = (4 < k) := propext ⟨by omega, by omega⟩
          have q5 : ((5 : Int) < (k : Int)) = (5 < k) := propext ⟨by omega, by omega⟩
          go_ret
          refine ⟨congrArg (fun b => Ending.returned (.bool b)) ?_, HB4.out⟩
          rw [yes_eq (i := ⟨8, op, -1, a, b, k, text, x0, x1, x2, x3, x4, x5, dest, els⟩) (o := ⟨8, 0, -1, 0, 0, k, text, g0, g1, g2, g3, g4, g5, 0, -1⟩) (by simp) (by simp) HU.out HD.out HN.out HP.out HT.out (by rw [← HG0.out, ← HG1.out, ← HG2.out, ← HG3.out, ← HG4.out, ← HG5.out]; simp [plainOf, readsA, readsB, ifI, ifN, q1, q2, q3, q4, q5])]; simp [o8]; rfl
end Go.Proofs.Ytgnpbodhjmappaa
namespace Go.Proofs.Ytgnpbodhjmappaa
set_option maxRecDepth 100000
open Go.RowKit Cd
set_option maxHeartbeats 4000000 in
set_option maxRecDepth 100000 in
theorem right_8b (op dst a b n : Int) (text : List UInt8) (x0 x1 x2 x3 x4 x5 dest els : Int) (r : FnR) (hreg : 0 ≤ r.f.regs) (z1 : 0 ≤ dst) (z2 : dst < r.f.regs) (w : World) :
    Calls Try.prog 39 #[inV ⟨8, op, dst, a, b, n, text, x0, x1, x2, x3, x4, x5, dest, els⟩, fnV r] w (RPost (.bool (rightI ⟨8, op, dst, a, b, n, text, x0, x1, x2, x3, x4, x5, dest, els⟩ r.f.regs r.f.frame r.f.code.length)) w) := by
  go_enter Try.func39, Try.ntmps39
  go_wp2_with ((with_reducible refine (uses_any ⟨8, op, dst, a, b, n, text, x0, x1, x2, x3, x4, x5, dest, els⟩ _).mono ?_); go_loud (rintro e v1 ⟨v, rfl, ho, hb⟩; obtain ⟨a1, c1, rfl⟩ := row_slice ho; have HO := Lib.hid ho; obtain ⟨f0, f1, f2, fb, fs⟩ := three_new w (inO ⟨8, op, dst, a, b, n, text, x0, x1, x2, x3, x4, x5, dest, els⟩) (fnO r) (inO ⟨8, 0, -1, 0, 0, 0, [], 0, 0, 0, 0, 0, 0, 0, -1⟩); have F0 := Lib.hid ((hb.block _ (Nat.lt_of_lt_of_eq (show _ < w.heap.size + 3 by omega) fs.symm)).trans f0); have F1 := Lib.hid ((hb.block _ (Nat.lt_of_lt_of_eq (show _ < w.heap.size + 3 by omega) fs.symm)).trans f1); have F2 := Lib.hid ((hb.block _ (Nat.lt_of_lt_of_eq (show _ < w.heap.size + 3 by omega) fs.symm)).trans f2); have HB : Hid (Below w.heap.size w v1) := Lib.hid (fb.trans (hb.mono (Nat.le_trans (show w.heap.size ≤ w.heap.size + 3 by omega) (Nat.le_of_eq fs.symm)))); have hs1 : w.heap.size + 3 ≤ v1.heap.size := Nat.le_trans (Nat.le_of_eq fs.symm) hb.size; clear f0 f1 f2 fb fs ho hb))
  obtain ⟨xs, hxs⟩ : ∃ xs, uses ⟨8, op, dst, a, b, n, text, x0, x1, x2, x3, x4, x5, dest, els⟩ = xs := ⟨_, rfl⟩
  have HXS := Lib.hid hxs
  have hxl : xs.length ≤ 8 := hxs ▸ uses_len _
  rw [hxs] at HO ⊢
  clear hxs
  go_loopw [7] (fun s7 wr => ∃ k : Nat, k ≤ xs.length ∧ s7 = .int .i64 k ∧ Hid (wr.heap = v1.heap) ∧ Hid (Below w.heap.size w wr) ∧ Hid ((xs.take k).all (regOk r.f.regs) = true)) (fun i wr => xs.length - (intOf i).toNat)
  case atStart => exact ⟨0, by omega, rfl, Lib.hid rfl, HB, Lib.hid (by simp)⟩
  case round =>
    obtain ⟨k, hk, rfl, HQ, HB2, HA⟩ := hrel
    have G0 := Lib.hid ((congrArg (fun h => h[w.heap.size]?) HQ.out).trans F0.out)
    have G1 := Lib.hid ((congrArg (fun h => h[w.heap.size + 1]?) HQ.out).trans F1.out)
    have G2 := Lib.hid ((congrArg (fun h => h[w.heap.size + 1 + 1]?) HQ.out).trans F2.out)
    have hs2 : w.heap.size + 3 ≤ wr.heap.size := by rw [HQ.out]; exact hs1
    obtain ⟨c0, c1, c2, c3, c4, c5, c6, c7, c8, c9, c10, c11, c12, c13, c14⟩ := nv15 (w := wr) G0.out
    obtain ⟨d0, d1, d2, d3, d4⟩ := nv5 (w := wr) G1.out
    have HO2 := Lib.hid (own_keep (w' := wr) HO.out (fun g _ => by rw [HQ.out]))
    by_cases hlt : k < xs.length
    · obtain ⟨x, hx⟩ : ∃ x, xs[k]? = some x := ⟨_, List.getElem?_eq_getElem hlt⟩
      obtain ⟨g, rfl, hg, hgl, cu⟩ := own_int HO2.out hx
      have HX := Lib.hid hx; clear hx
      have q0 : (0 : Int) ≤ (k : Int) := Int.natCast_nonneg _
      have q1 : (k : Int) < (xs.length : Int) := by omega
      by_cases z0 : x < 0
      · have t0 : decide (x < (0 : Int)) = true := by simpa using z0
        have hno : regOk r.f.regs x = false := by unfold regOk; simp; omega
        have HNO := Lib.hid (no_uses (i := ⟨8, op, dst, a, b, n, text, x0, x1, x2, x3, x4, x5, dest, els⟩) (regs := r.f.regs) (frame := r.f.frame) (len := r.f.code.length) (by rw [HXS.out]; exact all_no HX.out hno))
        clear hno
        go_wp2
        go_quiet (fail)
        go_wp2
        go_ret
        refine ⟨?_, drN HB2.out _⟩
        rw [HNO.out]; rfl
      · have t0 : decide (x < (0 : Int)) = false := by simpa using z0
        by_cases z1 : x < r.f.regs
        · have t1 : decide (x ≥ r.f.regs) = false := by simp; omega
          have t2 : decide (r.f.regs ≤ x) = false := by simp; omega
          have hyes : regOk r.f.regs x = true := by unfold regOk; simp; omega
          have HY := Lib.hid (all_yes HA.out HX.out hyes)
          clear hyes
          go_wp2
          go_quiet (fail)
          go_wp2
          go_roundw
          case rel => exact ⟨k + 1, by omega, by go_num, Lib.hid HQ.out, Lib.hid (drN HB2.out _), HY⟩
          case measure => simp [intOf]; omega
        · have t1 : decide (x ≥ r.f.regs) = true := by simp; omega
          have t2 : decide (r.f.regs ≤ x) = true := by simp; omega
          have hno : regOk r.f.regs x = false := by unfold regOk; simp; omega
          have HNO := Lib.hid (no_uses (i := ⟨8, op, dst, a, b, n, text, x0, x1, x2, x3, x4, x5, dest, els⟩) (regs := r.f.regs) (frame := r.f.frame) (len := r.f.code.length) (by rw [HXS.out]; exact all_no HX.out hno))
          clear hno
          go_wp2
          go_quiet (fail)
          go_wp2
          go_ret
          refine ⟨?_, drN HB2.out _⟩
          rw [HNO.out]; rfl
    · obtain rfl : k = xs.length := by omega
      have hu := HA.out
      rw [List.take_length, ← HXS.out] at hu
      have HU := Lib.hid hu
      clear hu HA HO HO2 HXS
      have zn : (dst != (-1 : Int)) = true := by simp <;> omega
      have ze : (dst == (-1 : Int)) = false := by simp <;> omega
      have zt0 : decide (dst < (0 : Int)) = false := by simp <;> omega
      have zt1 : decide (dst ≥ r.f.regs) = false := by simp <;> omega
      have zt2 : decide (r.f.regs ≤ dst) = false := by simp <;> omega
      have HD : Hid (dstOk ⟨8, op, dst, a, b, n, text, x0, x1, x2, x3, x4, x5, dest, els⟩ r.f.regs = true) := Lib.hid (by simp [dstOk, regOk] <;> omega)
      by_cases y0 : 0 ≤ n
      rotate_left
      · have u0 : decide (n < (0 : Int)) = true := by simp <;> omega
        have HNO := Lib.hid (no_n (i := ⟨8, op, dst, a, b, n, text, x0, x1, x2, x3, x4, x5, dest, els⟩) (regs := r.f.regs) (frame := r.f.frame) (len := r.f.code.length) (by simp [nOk] <;> omega))
        go_wp2_with (first | ((with_reducible refine (sets_v ⟨8, op, dst, a, b, n, text, x0, x1, x2, x3, x4, x5, dest, els⟩ dst rfl _).mono ?_); rintro e v2 ⟨rfl, hb⟩; have K0 := (hb.block _ (show w.heap.size < wr.heap.size by omega)).trans G0.out; have K1 := (hb.block _ (show w.heap.size + 1 < wr.heap.size by omega)).trans G1.out; have K2 := (hb.block _ (show w.heap.size + 1 + 1 < wr.heap.size by omega)).trans G2.out; obtain ⟨c0, c1, c2, c3, c4, c5, c6, c7, c8, c9, c10, c11, c12, c13, c14⟩ := nv15 K0; obtain ⟨d0, d1, d2, d3, d4⟩ := nv5 K1; obtain ⟨e0, e1, e2, e3, e4, e5, e6, e7, e8, e9, e10, e11, e12, e13, e14⟩ := nv15 K2; have fz : ∀ j, v2.frozen? ⟨w.heap.size + 1 + 1, j, none⟩ = false := (fun j => by simp [World.frozen?, K2]); have hs3 : w.heap.size + 3 ≤ v2.heap.size := (by have := hb.size; omega); have HB3 := Lib.hid (HB2.out.trans (hb.mono (by omega))); have J0 := Lib.hid K0; have J1 := Lib.hid K1; have J2 := Lib.hid K2; clear hb K0 K1 K2))
        go_ret
        refine ⟨by rw [HNO.out]; rfl, ?_⟩
        repeat (first | exact HB3.out | refine Below.setCell ?_ (show w.heap.size ≤ w.heap.size + 1 + 1 by omega) _)
      have u0 : decide (n < (0 : Int)) = false := by simp <;> omega
      by_cases y1 : n ≤ 6
      rotate_left
      · have u1 : decide (n > (6 : Int)) = true := by simp <;> omega
        have u2 : decide ((6 : Int) < n) = true := by simp <;> omega
        have HNO := Lib.hid (no_n (i := ⟨8, op, dst, a, b, n, text, x0, x1, x2, x3, x4, x5, dest, els⟩) (regs := r.f.regs) (frame := r.f.frame) (len := r.f.code.length) (by simp [nOk] <;> omega))
        go_wp2_with (first | ((with_reducible refine (sets_v ⟨8, op, dst, a, b, n, text, x0, x1, x2, x3, x4, x5, dest, els⟩ dst rfl _).mono ?_); rintro e v2 ⟨rfl, hb⟩; have K0 := (hb.block _ (show w.heap.size < wr.heap.size by omega)).trans G0.out; have K1 := (hb.block _ (show w.heap.size + 1 < wr.heap.size by omega)).trans G1.out; have K2 := (hb.block _ (show w.heap.size + 1 + 1 < wr.heap.size by omega)).trans G2.out; obtain ⟨c0, c1, c2, c3, c4, c5, c6, c7, c8, c9, c10, c11, c12, c13, c14⟩ := nv15 K0; obtain ⟨d0, d1, d2, d3, d4⟩ := nv5 K1; obtain ⟨e0, e1, e2, e3, e4, e5, e6, e7, e8, e9, e10, e11, e12, e13, e14⟩ := nv15 K2; have fz : ∀ j, v2.frozen? ⟨w.heap.size + 1 + 1, j, none⟩ = false := (fun j => by simp [World.frozen?, K2]); have hs3 : w.heap.size + 3 ≤ v2.heap.size := (by have := hb.size; omega); have HB3 := Lib.hid (HB2.out.trans (hb.mono (by omega))); have J0 := Lib.hid K0; have J1 := Lib.hid K1; have J2 := Lib.hid K2; clear hb K0 K1 K2))
        go_ret
        refine ⟨by rw [HNO.out]; rfl, ?_⟩
        repeat (first | exact HB3.out | refine Below.setCell ?_ (show w.heap.size ≤ w.heap.size + 1 + 1 by omega) _)
      have u1 : decide (n > (6 : Int)) = false := by simp <;> omega
      have u2 : decide ((6 : Int) < n) = false := by simp <;> omega
      by_cases y2 : 0 < text.length
      rotate_left
      · have u5 : text = [] := List.eq_nil_of_length_eq_zero (by omega)
        subst u5
        have HNO := Lib.hid (no_n (i := ⟨8, op, dst, a, b, n, [], x0, x1, x2, x3, x4, x5, dest, els⟩) (regs := r.f.regs) (frame := r.f.frame) (len := r.f.code.length) (by simp [nOk]))
        go_wp2_with (first | ((with_reducible refine (sets_v ⟨8, op, dst, a, b, n, [], x0, x1, x2, x3, x4, x5, dest, els⟩ dst rfl _).mono ?_); rintro e v2 ⟨rfl, hb⟩; have K0 := (hb.block _ (show w.heap.size < wr.heap.size by omega)).trans G0.out; have K1 := (hb.block _ (show w.heap.size + 1 < wr.heap.size by omega)).trans G1.out; have K2 := (hb.block _ (show w.heap.size + 1 + 1 < wr.heap.size by omega)).trans G2.out; obtain ⟨c0, c1, c2, c3, c4, c5, c6, c7, c8, c9, c10, c11, c12, c13, c14⟩ := nv15 K0; obtain ⟨d0, d1, d2, d3, d4⟩ := nv5 K1; obtain ⟨e0, e1, e2, e3, e4, e5, e6, e7, e8, e9, e10, e11, e12, e13, e14⟩ := nv15 K2; have fz : ∀ j, v2.frozen? ⟨w.heap.size + 1 + 1, j, none⟩ = false := (fun j => by simp [World.frozen?, K2]); have hs3 : w.heap.size + 3 ≤ v2.heap.size := (by have := hb.size; omega); have HB3 := Lib.hid (HB2.out.trans (hb.mono (by omega))); have J0 := Lib.hid K0; have J1 := Lib.hid K1; have J2 := Lib.hid K2; clear hb K0 K1 K2))
        go_ret
        refine ⟨by rw [HNO.out]; rfl, ?_⟩
        repeat (first | exact HB3.out | refine Below.setCell ?_ (show w.heap.size ≤ w.heap.size + 1 + 1 by omega) _)
      have u3 : ((text.length : Int) == (0 : Int)) = false := by simp <;> (intro e; subst e; simp at y2)
      have u4 : decide (text = []) = false := by simp <;> (intro e; subst e; simp at y2)
      have HN : Hid (nOk ⟨8, op, dst, a, b, n, text, x0, x1, x2, x3, x4, x5, dest, els⟩ r.f.frame = true) := Lib.hid (by simp [nOk] <;> first | done | (refine ⟨by omega, ?_⟩; intro e; subst e; simp at y2) | (intro e; subst e; simp at y2))
      have HP : Hid (opOk ⟨8, op, dst, a, b, n, text, x0, x1, x2, x3, x4, x5, dest, els⟩ = true) := Lib.hid (by simp [opOk])
      have HT : Hid (toOk ⟨8, op, dst, a, b, n, text, x0, x1, x2, x3, x4, x5, dest, els⟩ r.f.code.length = true) := Lib.hid (by simp [toOk])
      go_wp2_with (first | ((with_reducible refine (sets_v ⟨8, op, dst, a, b, n, text, x0, x1, x2, x3, x4, x5, dest, els⟩ dst rfl _).mono ?_); rintro e v2 ⟨rfl, hb⟩; have K0 := (hb.block _ (show w.heap.size < wr.heap.size by omega)).trans G0.out; have K1 := (hb.block _ (show w.heap.size + 1 < wr.heap.size by omega)).trans G1.out; have K2 := (hb.block _ (show w.heap.size + 1 + 1 < wr.heap.size by omega)).trans G2.out; obtain ⟨c0, c1, c2, c3, c4, c5, c6, c7, c8, c9, c10, c11, c12, c13, c14⟩ := nv15 K0; obtain ⟨d0, d1, d2, d3, d4⟩ := nv5 K1; obtain ⟨e0, e1, e2, e3, e4, e5, e6, e7, e8, e9, e10, e11, e12, e13, e14⟩ := nv15 K2; have fz : ∀ j, v2.frozen? ⟨w.heap.size + 1 + 1, j, none⟩ = false := (fun j => by simp [World.frozen?, K2]); have hs3 : w.heap.size + 3 ≤ v2.heap.size := (by have := hb.size; omega); have HB3 := Lib.hid (HB2.out.trans (hb.mono (by omega))); have J0 := Lib.hid K0; have J1 := Lib.hid K1; have J2 := Lib.hid K2; clear hb K0 K1 K2))
      go_loopw [9] (fun s9 wr2 => ∃ k : Nat, k ≤ 6 ∧ (k : Int) ≤ n ∧ s9 = .int .i64 k ∧ Hid (wr2.heap[w.heap.size]? = some (inO ⟨8, op, dst, a, b, n, text, x0, x1, x2, x3, x4, x5, dest, els⟩)) ∧ Hid (wr2.heap[w.heap.size + 1]? = some (fnO r)) ∧ Hid (wr2.heap[w.heap.size + 1 + 1]? = some (inO (o8 (dst) n text x0 x1 x2 x3 x4 x5 k))) ∧ Hid (Below w.heap.size w wr2)) (fun i wr => 6 - (intOf i).toNat)
      case atStart => exact ⟨0, by omega, by omega, rfl, Lib.hid (by simp only [heap_set2]; exact J0.out), Lib.hid (by simp only [heap_set1]; exact J1.out), Lib.hid ((cells_set (cells_set (cells_set J2.out 2 _) 5 _) 6 _).trans rfl), Lib.hid (by repeat (first | exact HB3.out | refine Below.setCell ?_ (show w.heap.size ≤ w.heap.size + 1 + 1 by omega) _))⟩
      case round =>
        obtain ⟨k, hk, hkn, rfl, L0, L1, L2, HB4⟩ := hrel
        obtain ⟨m0, m1, m2, m3, m4, m5, m6, m7, m8, m9, m10, m11, m12, m13, m14⟩ := nv15 L0.out
        obtain ⟨p0, p1, p2, p3, p4, p5, p6, p7, p8, p9, p10, p11, p12, p13, p14⟩ := nv15 L2.out
        have fz2 : ∀ j, wr.frozen? ⟨w.heap.size + 1 + 1, j, none⟩ = false := fun j => by simp [World.frozen?, L2.out]
        have hs4 := lt_heap L2.out
        by_cases hlt : (k : Int) < n
        · rcases (by omega : k = 0 ∨ k = 1 ∨ k = 2 ∨ k = 3 ∨ k = 4 ∨ k = 5) with rfl | rfl | rfl | rfl | rfl | rfl
          · go_wp2
            go_roundw
            case rel => exact ⟨1, by omega, by omega, by go_num, Lib.hid (by simp only [heap_set2]; exact L0.out), Lib.hid (by simp only [heap_set1]; exact L1.out), Lib.hid ((cells_set L2.out 7 _).trans rfl), Lib.hid (HB4.out.setCell (show w.heap.size ≤ w.heap.size + 1 + 1 by omega) _)⟩
            case measure => simp [intOf]
          · go_wp2
            go_roundw
            case rel => exact ⟨2, by omega, by omega, by go_num, Lib.hid (by simp only [heap_set2]; exact L0.out), Lib.hid (by simp only [heap_set1]; exact L1.out), Lib.hid ((cells_set L2.out 8 _).trans rfl), Lib.hid (HB4.out.setCell (show w.heap.size ≤ w.heap.size + 1 + 1 by omega) _)⟩
            case measure => simp [intOf]
          · go_wp2
            go_roundw
            case rel => exact ⟨3, by omega, by omega, by go_num, Lib.hid (by simp only [heap_set2]; exact L0.out), Lib.hid (by simp only [heap_set1]; exact L1.out), Lib.hid ((cells_set L2.out 9 _).trans rfl), Lib.hid (HB4.out.setCell (show w.heap.size ≤ w.heap.size + 1 + 1 by omega) _)⟩
            case measure => simp [intOf]
          · go_wp2
            go_roundw
            case rel => exact ⟨4, by omega, by omega, by go_num, Lib.hid (by simp only [heap_set2]; exact L0.out), Lib.hid (by simp only [heap_set1]; exact L1.out), Lib.hid ((cells_set L2.out 10 _).trans rfl), Lib.hid (HB4.out.setCell (show w.heap.size ≤ w.heap.size + 1 + 1 by omega) _)⟩
            case measure => simp [intOf]
          · go_wp2
            go_roundw
            case rel => exact ⟨5, by omega, by omega, by go_num, Lib.hid (by simp only [heap_set2]; exact L0.out), Lib.hid (by simp only [heap_set1]; exact L1.out), Lib.hid ((cells_set L2.out 11 _).trans rfl), Lib.hid (HB4.out.setCell (show w.heap.size ≤ w.heap.size + 1 + 1 by omega) _)⟩
            case measure => simp [intOf]
          · go_wp2
            go_roundw
            case rel => exact ⟨6, by omega, by omega, by go_num, Lib.hid (by simp only [heap_set2]; exact L0.out), Lib.hid (by simp only [heap_set1]; exact L1.out), Lib.hid ((cells_set L2.out 12 _).trans rfl), Lib.hid (HB4.out.setCell (show w.heap.size ≤ w.heap.size + 1 + 1 by omega) _)⟩
            case measure => simp [intOf]
        · obtain ⟨l0, l1, l2, l3, l4⟩ := nv5 L1.out
          obtain rfl : n = k := by omega
          have HQL := in_eqlV
          obtain ⟨g0, hg0⟩ : ∃ g, ifN 0 k x0 = g := ⟨_, rfl⟩
          rw [show (o8 (dst) k text x0 x1 x2 x3 x4 x5 k).x0 = g0 from hg0] at p7
          have HG0 := Lib.hid hg0; clear hg0
          obtain ⟨g1, hg1⟩ : ∃ g, ifN 1 k x1 = g := ⟨_, rfl⟩
          rw [show (o8 (dst) k text x0 x1 x2 x3 x4 x5 k).x1 = g1 from hg1] at p8
          have HG1 := Lib.hid hg1; clear hg1
          obtain ⟨g2, hg2⟩ : ∃ g, ifN 2 k x2 = g := ⟨_, rfl⟩
          rw [show (o8 (dst) k text x0 x1 x2 x3 x4 x5 k).x2 = g2 from hg2] at p9
          have HG2 := Lib.hid hg2; clear hg2
          obtain ⟨g3, hg3⟩ : ∃ g, ifN 3 k x3 = g := ⟨_, rfl⟩
          rw [show (o8 (dst) k text x0 x1 x2 x3 x4 x5 k).x3 = g3 from hg3] at p10
          have HG3 := Lib.hid hg3; clear hg3
          obtain ⟨g4, hg4⟩ : ∃ g, ifN 4 k x4 = g := ⟨_, rfl⟩
          rw [show (o8 (dst) k text x0 x1 x2 x3 x4 x5 k).x4 = g4 from hg4] at p11
          have HG4 := Lib.hid hg4; clear hg4
          obtain ⟨g5, hg5⟩ : ∃ g, ifN 5 k x5 = g := ⟨_, rfl⟩
          rw [show (o8 (dst) k text x0 x1 x2 x3 x4 x5 k).x5 = g5 from hg5] at p12
          have HG5 := Lib.hid hg5; clear hg5
          go_wp2
          have q1 : ((1 : Int) < (k : Int)) = (1 < k) := propext ⟨by omega, by omega⟩
          have q2 : ((2 : Int) < (k : Int)) = (2 < k) := propext ⟨by omega, by omega⟩
          have q3 : ((3 : Int) < (k : Int)) = (3 < k) := propext ⟨by omega, by omega⟩
          have q4 : ((4 : Int) < (k : Int)) = (4 < k) := propext ⟨by omega, by omega⟩
          have q5 : ((5 : Int) < (k : Int)) = (5 < k) := propext ⟨by omega, by omega⟩
          go_ret
          refine ⟨congrArg (fun b => Ending.returned (.bool b)) ?_, HB4.out⟩
          rw [yes_eq (i := ⟨8, op, dst, a, b, k, text, x0, x1, x2, x3, x4, x5, dest, els⟩) (o := ⟨8, 0, dst, 0, 0, k, text, g0, g1, g2, g3, g4, g5, 0, -1⟩) (by simp) (by simp) HU.out HD.out HN.out HP.out HT.out (by rw [← HG0.out, ← HG1.out, ← HG2.out, ← HG3.out, ← HG4.out, ← HG5.out]; simp [plainOf, readsA, readsB, ifI, ifN, q1, q2, q3, q4, q5])]; simp [o8]; rfl
set_option maxHeartbeats 4000000 in
set_option maxRecDepth 100000 in
theorem right_8c (op dst a b n : Int) (text : List UInt8) (x0 x1 x2 x3 x4 x5 dest els : Int) (r : FnR) (hreg : 0 ≤ r.f.regs) (z0 : ¬ dst = -1) (z3 : ¬ (0 ≤ dst ∧ dst < r.f.regs)) (w : World) :
    Calls Try.prog 39 #[inV ⟨8, op, dst, a, b, n, text, x0, x1, x2, x3, x4, x5, dest, els⟩, fnV r] w (RPost (.bool (rightI ⟨8, op, dst, a, b, n, text, x0, x1, x2, x3, x4, x5, dest, els⟩ r.f.regs r.f.frame r.f.code.length)) w) := by
  go_enter Try.func39, Try.ntmps39
  go_wp2_with ((with_reducible refine (uses_any ⟨8, op, dst, a, b, n, text, x0, x1, x2, x3, x4, x5, dest, els⟩ _).mono ?_); go_loud (rintro e v1 ⟨v, rfl, ho, hb⟩; obtain ⟨a1, c1, rfl⟩ := row_slice ho; have HO := Lib.hid ho; obtain ⟨f0, f1, f2, fb, fs⟩ := three_new w (inO ⟨8, op, dst, a, b, n, text, x0, x1, x2, x3, x4, x5, dest, els⟩) (fnO r) (inO ⟨8, 0, -1, 0, 0, 0, [], 0, 0, 0, 0, 0, 0, 0, -1⟩); have F0 := Lib.hid ((hb.block _ (Nat.lt_of_lt_of_eq (show _ < w.heap.size + 3 by omega) fs.symm)).trans f0); have F1 := Lib.hid ((hb.block _ (Nat.lt_of_lt_of_eq (show _ < w.heap.size + 3 by omega) fs.symm)).trans f1); have F2 := Lib.hid ((hb.block _ (Nat.lt_of_lt_of_eq (show _ < w.heap.size + 3 by omega) fs.symm)).trans f2); have HB : Hid (Below w.heap.size w v1) := Lib.hid (fb.trans (hb.mono (Nat.le_trans (show w.heap.size ≤ w.heap.size + 3 by omega) (Nat.le_of_eq fs.symm)))); have hs1 : w.heap.size + 3 ≤ v1.heap.size := Nat.le_trans (Nat.le_of_eq fs.symm) hb.size; clear f0 f1 f2 fb fs ho hb))
  obtain ⟨xs, hxs⟩ : ∃ xs, uses ⟨8, op, dst, a, b, n, text, x0, x1, x2, x3, x4, x5, dest, els⟩ = xs := ⟨_, rfl⟩
  have HXS := Lib.hid hxs
  have hxl : xs.length ≤ 8 := hxs ▸ uses_len _
  rw [hxs] at HO ⊢
  clear hxs
  go_loopw [7] (fun s7 wr => ∃ k : Nat, k ≤ xs.length ∧ s7 = .int .i64 k ∧ Hid (wr.heap = v1.heap) ∧ Hid (Below w.heap.size w wr) ∧ Hid ((xs.take k).all (regOk r.f.regs) = true)) (fun i wr => xs.length - (intOf i).toNat)
  case atStart => exact ⟨0, by omega, rfl, Lib.hid rfl, HB, Lib.hid (by simp)⟩
  case round =>
    obtain ⟨k, hk, rfl, HQ, HB2, HA⟩ := hrel
    have G0 := Lib.hid ((congrArg (fun h => h[w.heap.size]?) HQ.out).trans F0.out)
    have G1 := Lib.hid ((congrArg (fun h => h[w.heap.size + 1]?) HQ.out).trans F1.out)
    have G2 := Lib.hid ((congrArg (fun h => h[w.heap.size + 1 + 1]?) HQ.out).trans F2.out)
    have hs2 : w.heap.size + 3 ≤ wr.heap.size := by rw [HQ.out]; exact hs1
    obtain ⟨c0, c1, c2, c3, c4, c5, c6, c7, c8, c9, c10, c11, c12, c13, c14⟩ := nv15 (w := wr) G0.out
    obtain ⟨d0, d1, d2, d3, d4⟩ := nv5 (w := wr) G1.out
    have HO2 := Lib.hid (own_keep (w' := wr) HO.out (fun g _ => by rw [HQ.out]))
    by_cases hlt : k < xs.length
    · obtain ⟨x, hx⟩ : ∃ x, xs[k]? = some x := ⟨_, List.getElem?_eq_getElem hlt⟩
      obtain ⟨g, rfl, hg, hgl, cu⟩ := own_int HO2.out hx
      have HX := Lib.hid hx; clear hx
      have q0 : (0 : Int) ≤ (k : Int) := Int.natCast_nonneg _
      have q1 : (k : Int) < (xs.length : Int) := by omega
      by_cases z0 : x < 0
      · have t0 : decide (x < (0 : Int)) = true := by simpa using z0
        have hno : regOk r.f.regs x = false := by unfold regOk; simp; omega
        have HNO := Lib.hid (no_uses (i := ⟨8, op, dst, a, b, n, text, x0, x1, x2, x3, x4, x5, dest, els⟩) (regs := r.f.regs) (frame := r.f.frame) (len := r.f.code.length) (by rw [HXS.out]; exact all_no HX.out hno))
        clear hno
        go_wp2
        go_quiet (fail)
        go_wp2
        go_ret
        refine ⟨?_, drN HB2.out _⟩
        rw [HNO.out]; rfl
      · have t0 : decide (x < (0 : Int)) = false := by simpa using z0
        by_cases z1 : x < r.f.regs
        · have t1 : decide (x ≥ r.f.regs) = false := by simp; omega
          have t2 : decide (r.f.regs ≤ x) = false := by simp; omega
          have hyes : regOk r.f.regs x = true := by unfold regOk; simp; omega
          have HY := Lib.hid (all_yes HA.out HX.out hyes)
          clear hyes
          go_wp2
          go_quiet (fail)
          go_wp2
          go_roundw
          case rel => exact ⟨k + 1, by omega, by go_num, Lib.hid HQ.out, Lib.hid (drN HB2.out _), HY⟩
          case measure => simp [intOf]; omega
        · have t1 : decide (x ≥ r.f.regs) = true := by simp; omega
          have t2 : decide (r.f.regs ≤ x) = true := by simp; omega
          have hno : regOk r.f.regs x = false := by unfold regOk; simp; omega
          have HNO := Lib.hid (no_uses (i := ⟨8, op, dst, a, b, n, text, x0, x1, x2, x3, x4, x5, dest, els⟩) (regs := r.f.regs) (frame := r.f.frame) (len := r.f.code.length) (by rw [HXS.out]; exact all_no HX.out hno))
          clear hno
          go_wp2
          go_quiet (fail)
          go_wp2
          go_ret
          refine ⟨?_, drN HB2.out _⟩
          rw [HNO.out]; rfl
    · obtain rfl : k = xs.length := by omega
      have hu := HA.out
      rw [List.take_length, ← HXS.out] at hu
      have HU := Lib.hid hu
      clear hu HA HO HO2 HXS
      have zn : (dst != (-1 : Int)) = true := by simp <;> omega
      have ze : (dst == (-1 : Int)) = false := by simp <;> omega
      by_cases z1 : 0 ≤ dst
      · have zt0 : decide (dst < (0 : Int)) = false := by simp <;> omega
        have zt1 : decide (dst ≥ r.f.regs) = true := by simp <;> omega
        have zt2 : decide (r.f.regs ≤ dst) = true := by simp <;> omega
        have HNO := Lib.hid (no_dst (i := ⟨8, op, dst, a, b, n, text, x0, x1, x2, x3, x4, x5, dest, els⟩) (regs := r.f.regs) (frame := r.f.frame) (len := r.f.code.length) (by simp [dstOk, regOk] <;> omega))
        go_wp2_with (first | ((with_reducible refine (sets_v ⟨8, op, dst, a, b, n, text, x0, x1, x2, x3, x4, x5, dest, els⟩ dst rfl _).mono ?_); rintro e v2 ⟨rfl, hb⟩; have K0 := (hb.block _ (show w.heap.size < wr.heap.size by omega)).trans G0.out; have K1 := (hb.block _ (show w.heap.size + 1 < wr.heap.size by omega)).trans G1.out; have K2 := (hb.block _ (show w.heap.size + 1 + 1 < wr.heap.size by omega)).trans G2.out; obtain ⟨c0, c1, c2, c3, c4, c5, c6, c7, c8, c9, c10, c11, c12, c13, c14⟩ := nv15 K0; obtain ⟨d0, d1, d2, d3, d4⟩ := nv5 K1; obtain ⟨e0, e1, e2, e3, e4, e5, e6, e7, e8, e9, e10, e11, e12, e13, e14⟩ := nv15 K2; have fz : ∀ j, v2.frozen? ⟨w.heap.size + 1 + 1, j, none⟩ = false := (fun j => by simp [World.frozen?, K2]); have hs3 : w.heap.size + 3 ≤ v2.heap.size := (by have := hb.size; omega); have HB3 := Lib.hid (HB2.out.trans (hb.mono (by omega))); have J0 := Lib.hid K0; have J1 := Lib.hid K1; have J2 := Lib.hid K2; clear hb K0 K1 K2))
        go_ret
        refine ⟨by rw [HNO.out]; rfl, ?_⟩
        repeat (first | exact HB3.out | refine Below.setCell ?_ (show w.heap.size ≤ w.heap.size + 1 + 1 by omega) _)
      · have zt0 : decide (dst < (0 : Int)) = true := by simp <;> omega
        have HNO := Lib.hid (no_dst (i := ⟨8, op, dst, a, b, n, text, x0, x1, x2, x3, x4, x5, dest, els⟩) (regs := r.f.regs) (frame := r.f.frame) (len := r.f.code.length) (by simp [dstOk, regOk] <;> omega))
        go_wp2_with (first | ((with_reducible refine (sets_v ⟨8, op, dst, a, b, n, text, x0, x1, x2, x3, x4, x5, dest, els⟩ dst rfl _).mono ?_); rintro e v2 ⟨rfl, hb⟩; have K0 := (hb.block _ (show w.heap.size < wr.heap.size by omega)).trans G0.out; have K1 := (hb.block _ (show w.heap.size + 1 < wr.heap.size by omega)).trans G1.out; have K2 := (hb.block _ (show w.heap.size + 1 + 1 < wr.heap.size by omega)).trans G2.out; obtain ⟨c0, c1, c2, c3, c4, c5, c6, c7, c8, c9, c10, c11, c12, c13, c14⟩ := nv15 K0; obtain ⟨d0, d1, d2, d3, d4⟩ := nv5 K1; obtain ⟨e0, e1, e2, e3, e4, e5, e6, e7, e8, e9, e10, e11, e12, e13, e14⟩ := nv15 K2; have fz : ∀ j, v2.frozen? ⟨w.heap.size + 1 + 1, j, none⟩ = false := (fun j => by simp [World.frozen?, K2]); have hs3 : w.heap.size + 3 ≤ v2.heap.size := (by have := hb.size; omega); have HB3 := Lib.hid (HB2.out.trans (hb.mono (by omega))); have J0 := Lib.hid K0; have J1 := Lib.hid K1; have J2 := Lib.hid K2; clear hb K0 K1 K2))
        go_ret
        refine ⟨by rw [HNO.out]; rfl, ?_⟩
        repeat (first | exact HB3.out | refine Below.setCell ?_ (show w.heap.size ≤ w.heap.size + 1 + 1 by omega) _)
end Go.Proofs.Ytgnpbodhjmappaa
