/-
  Contract of doppelref07's right: kinds 1, 5, 9.
-/
import Derived.Test.YtgnpbodhjmappaaPNJ
set_option linter.unusedVariables false
set_option linter.unusedSimpArgs false
namespace Go.Proofs.Ytgnpbodhjmappaa
set_option maxRecDepth 100000
open Go.RowKit Cd
set_option maxHeartbeats 4000000 in
set_option maxRecDepth 100000 in
theorem right_1 (op dst a b n : Int) (text : List UInt8) (x0 x1 x2 x3 x4 x5 dest els : Int) (r : FnR) (hreg : 0 ≤ r.f.regs) (w : World) :
    Calls Try.prog 39 #[inV ⟨1, op, dst, a, b, n, text, x0, x1, x2, x3, x4, x5, dest, els⟩, fnV r] w (RPost (.bool (rightI ⟨1, op, dst, a, b, n, text, x0, x1, x2, x3, x4, x5, dest, els⟩ r.f.regs r.f.frame r.f.code.length)) w) := by
  go_enter Try.func39, Try.ntmps39
  go_wp2_with ((with_reducible refine (uses_any ⟨1, op, dst, a, b, n, text, x0, x1, x2, x3, x4, x5, dest, els⟩ _).mono ?_); go_loud (rintro e v1 ⟨v, rfl, ho, hb⟩; obtain ⟨a1, c1, rfl⟩ := row_slice ho; have HO := Lib.hid ho; obtain ⟨f0, f1, f2, fb, fs⟩ := three_new w (inO ⟨1, op, dst, a, b, n, text, x0, x1, x2, x3, x4, x5, dest, els⟩) (fnO r) (inO ⟨1, 0, -1, 0, 0, 0, [], 0, 0, 0, 0, 0, 0, 0, -1⟩); have F0 := Lib.hid ((hb.block _ (Nat.lt_of_lt_of_eq (show _ < w.heap.size + 3 by omega) fs.symm)).trans f0); have F1 := Lib.hid ((hb.block _ (Nat.lt_of_lt_of_eq (show _ < w.heap.size + 3 by omega) fs.symm)).trans f1); have F2 := Lib.hid ((hb.block _ (Nat.lt_of_lt_of_eq (show _ < w.heap.size + 3 by omega) fs.symm)).trans f2); have HB : Hid (Below w.heap.size w v1) := Lib.hid (fb.trans (hb.mono (Nat.le_trans (show w.heap.size ≤ w.heap.size + 3 by omega) (Nat.le_of_eq fs.symm)))); have hs1 : w.heap.size + 3 ≤ v1.heap.size := Nat.le_trans (Nat.le_of_eq fs.symm) hb.size; clear f0 f1 f2 fb fs ho hb))
  obtain ⟨xs, hxs⟩ : ∃ xs, uses ⟨1, op, dst, a, b, n, text, x0, x1, x2, x3, x4, x5, dest, els⟩ = xs := ⟨_, rfl⟩
  have HXS := Lib.hid hxs
  have hxl : xs.length ≤ 8 := hxs ▸ uses_len _
  rw [hxs] at HO ⊢
  clear hxs
  go_loopw [7] (fun s7 wr => ∃ k : Nat, k ≤ xs.length ∧ s7 = .int .i64 k ∧ Hid (wr.heap = v1.heap) ∧ Hid (Below w.heap.size w wr) ∧ Hid ((xs.take k).all (regOk r.f.regs) = true)) (fun i wr => xs.length - (intOf i).toNat)
  case atStart => exact ⟨0, by omega, rfl, Lib.hid rfl, HB, Lib.hid (by simp)⟩
  case round =>
    obtain ⟨k, hk, rfl, HQ, HB2, HA⟩ := hrel
    have G0 := Lib.hid ((congrArg (fun h => h[w.heap.size]?) HQ.out).trans F0.out)
    have G1 := Lib.hid ((congrArg (fun h => h[w.heap.size + 1]?) HQ.out).trans F1.out)
    have G2 := Lib.hid ((congrArg (fun h => h[w.heap.size + 1 + 1]?) HQ.out).trans F2.out)
    have hs2 : w.heap.size + 3 ≤ wr.heap.size := by rw [HQ.out]; exact hs1
    obtain ⟨c0, c1, c2, c3, c4, c5, c6, c7, c8, c9, c10, c11, c12, c13, c14⟩ := nv15 (w := wr) G0.out
    obtain ⟨d0, d1, d2, d3, d4⟩ := nv5 (w := wr) G1.out
    have HO2 := Lib.hid (own_keep (w' := wr) HO.out (fun g _ => by rw [HQ.out]))
    by_cases hlt : k < xs.length
    · obtain ⟨x, hx⟩ : ∃ x, xs[k]? = some x := ⟨_, List.getElem?_eq_getElem hlt⟩
      obtain ⟨g, rfl, hg, hgl, cu⟩ := own_int HO2.out hx
      have HX := Lib.hid hx; clear hx
      have q0 : (0 : Int) ≤ (k : Int) := Int.natCast_nonneg _
      have q1 : (k : Int) < (xs.length : Int) := by omega
      by_cases z0 : x < 0
      · have t0 : decide (x < (0 : Int)) = true := by simpa using z0
        have hno : regOk r.f.regs x = false := by unfold regOk; simp; omega
        have HNO := Lib.hid (no_uses (i := ⟨1, op, dst, a, b, n, text, x0, x1, x2, x3, x4, x5, dest, els⟩) (regs := r.f.regs) (frame := r.f.frame) (len := r.f.code.length) (by rw [HXS.out]; exact all_no HX.out hno))
        clear hno
        go_wp2
        go_quiet (fail)
        go_wp2
        go_ret
        refine ⟨?_, drN HB2.out _⟩
        rw [HNO.out]; rfl
      · have t0 : decide (x < (0 : Int)) = false := by simpa using z0
        by_cases z1 : x < r.f.regs
        · have t1 : decide (x ≥ r.f.regs) = false := by simp; omega
          have t2 : decide (r.f.regs ≤ x) = false := by simp; omega
          have hyes : regOk r.f.regs x = true := by unfold regOk; simp; omega
          have HY := Lib.hid (all_yes HA.out HX.out hyes)
          clear hyes
          go_wp2
          go_quiet (fail)
          go_wp2
          go_roundw
          case rel => exact ⟨k + 1, by omega, by go_num, Lib.hid HQ.out, Lib.hid (drN HB2.out _), HY⟩
          case measure => simp [intOf]; omega
        · have t1 : decide (x ≥ r.f.regs) = true := by simp; omega
          have t2 : decide (r.f.regs ≤ x) = true := by simp; omega
          have hno : regOk r.f.regs x = false := by unfold regOk; simp; omega
          have HNO := Lib.hid (no_uses (i := ⟨1, op, dst, a, b, n, text, x0, x1, x2, x3, x4, x5, dest, els⟩) (regs := r.f.regs) (frame := r.f.frame) (len := r.f.code.length) (by rw [HXS.out]; exact all_no HX.out hno))
          clear hno
          go_wp2
          go_quiet (fail)
          go_wp2
          go_ret
          refine ⟨?_, drN HB2.out _⟩
          rw [HNO.out]; rfl
    · obtain rfl : k = xs.length := by omega
      have hu := HA.out
      rw [List.take_length, ← HXS.out] at hu
      have HU := Lib.hid hu
      clear hu HA HO HO2 HXS
      by_cases z0 : dst = -1
      · subst z0
        have HNO := Lib.hid (no_dst (i := ⟨1, op, -1, a, b, n, text, x0, x1, x2, x3, x4, x5, dest, els⟩) (regs := r.f.regs) (frame := r.f.frame) (len := r.f.code.length) (by simp [dstOk, regOk]))
        go_wp2_with (first | ((with_reducible refine (sets_v ⟨1, op, -1, a, b, n, text, x0, x1, x2, x3, x4, x5, dest, els⟩ (-1) rfl _).mono ?_); rintro e v2 ⟨rfl, hb⟩; have K0 := (hb.block _ (show w.heap.size < wr.heap.size by omega)).trans G0.out; have K1 := (hb.block _ (show w.heap.size + 1 < wr.heap.size by omega)).trans G1.out; have K2 := (hb.block _ (show w.heap.size + 1 + 1 < wr.heap.size by omega)).trans G2.out; obtain ⟨c0, c1, c2, c3, c4, c5, c6, c7, c8, c9, c10, c11, c12, c13, c14⟩ := nv15 K0; obtain ⟨d0, d1, d2, d3, d4⟩ := nv5 K1; obtain ⟨e0, e1, e2, e3, e4, e5, e6, e7, e8, e9, e10, e11, e12, e13, e14⟩ := nv15 K2; have fz : ∀ j, v2.frozen? ⟨w.heap.size + 1 + 1, j, none⟩ = false := (fun j => by simp [World.frozen?, K2]); have hs3 : w.heap.size + 3 ≤ v2.heap.size := (by have := hb.size; omega); have HB3 := Lib.hid (HB2.out.trans (hb.mono (by omega))); have J0 := Lib.hid K0; have J1 := Lib.hid K1; have J2 := Lib.hid K2; clear hb K0 K1 K2))
        go_ret
        refine ⟨by rw [HNO.out]; rfl, ?_⟩
        repeat (first | exact HB3.out | refine Below.setCell ?_ (show w.heap.size ≤ w.heap.size + 1 + 1 by omega) _)
      · have zn : (dst != (-1 : Int)) = true := by simp <;> omega
        by_cases z1 : 0 ≤ dst
        · have zt0 : decide (dst < (0 : Int)) = false := by simp <;> omega
          by_cases z2 : dst < r.f.regs
          · have zt1 : decide (dst ≥ r.f.regs) = false := by simp <;> omega
            have zt2 : decide (r.f.regs ≤ dst) = false := by simp <;> omega
            have HD : Hid (dstOk ⟨1, op, dst, a, b, n, text, x0, x1, x2, x3, x4, x5, dest, els⟩ r.f.regs = true) := Lib.hid (by simp [dstOk, regOk] <;> omega)
            by_cases y0 : isW n = true
            · have HW := Lib.hid y0
              clear y0
              have HN : Hid (nOk ⟨1, op, dst, a, b, n, text, x0, x1, x2, x3, x4, x5, dest, els⟩ r.f.frame = true) := Lib.hid (by simpa [nOk] using HW.out)
              have HP : Hid (opOk ⟨1, op, dst, a, b, n, text, x0, x1, x2, x3, x4, x5, dest, els⟩ = true) := Lib.hid (by simp [opOk] <;> omega)
              have HT : Hid (toOk ⟨1, op, dst, a, b, n, text, x0, x1, x2, x3, x4, x5, dest, els⟩ r.f.code.length = true) := Lib.hid (by simp [toOk, regOk] <;> omega)
              have HQL := in_eqlV
              go_wp2_with (first | ((with_reducible refine (sets_v ⟨1, op, dst, a, b, n, text, x0, x1, x2, x3, x4, x5, dest, els⟩ dst rfl _).mono ?_); rintro e v2 ⟨rfl, hb⟩; have K0 := (hb.block _ (show w.heap.size < wr.heap.size by omega)).trans G0.out; have K1 := (hb.block _ (show w.heap.size + 1 < wr.heap.size by omega)).trans G1.out; have K2 := (hb.block _ (show w.heap.size + 1 + 1 < wr.heap.size by omega)).trans G2.out; obtain ⟨c0, c1, c2, c3, c4, c5, c6, c7, c8, c9, c10, c11, c12, c13, c14⟩ := nv15 K0; obtain ⟨d0, d1, d2, d3, d4⟩ := nv5 K1; obtain ⟨e0, e1, e2, e3, e4, e5, e6, e7, e8, e9, e10, e11, e12, e13, e14⟩ := nv15 K2; have fz : ∀ j, v2.frozen? ⟨w.heap.size + 1 + 1, j, none⟩ = false := (fun j => by simp [World.frozen?, K2]); have hs3 : w.heap.size + 3 ≤ v2.heap.size := (by have := hb.size; omega); have HB3 := Lib.hid (HB2.out.trans (hb.mono (by omega))); have J0 := Lib.hid K0; have J1 := Lib.hid K1; have J2 := Lib.hid K2; clear hb K0 K1 K2) | ((with_reducible refine (isWord_v n _ HW.out _).mono ?_); rintro e v3 ⟨rfl, rfl⟩))
              go_ret
              refine ⟨congrArg (fun b => Ending.returned (.bool b)) ?_, ?_⟩
              · rw [yes_eq (i := ⟨1, op, dst, a, b, n, text, x0, x1, x2, x3, x4, x5, dest, els⟩) (o := ⟨1, 0, dst, 0, 0, n, [], 0, 0, 0, 0, 0, 0, 0, -1⟩) (by simp) (by simp) HU.out HD.out HN.out HP.out HT.out (by first | rfl | simp [plainOf, readsA, readsB, ifI])]; simp
              · repeat (first | exact HB3.out | refine Below.setCell ?_ (show w.heap.size ≤ w.heap.size + 1 + 1 by omega) _)
            · have HW := Lib.hid (bfalse y0)
              clear y0
              have HNO := Lib.hid (no_n (i := ⟨1, op, dst, a, b, n, text, x0, x1, x2, x3, x4, x5, dest, els⟩) (regs := r.f.regs) (frame := r.f.frame) (len := r.f.code.length) (by simpa [nOk] using HW.out))
              go_wp2_with (first | ((with_reducible refine (sets_v ⟨1, op, dst, a, b, n, text, x0, x1, x2, x3, x4, x5, dest, els⟩ dst rfl _).mono ?_); rintro e v2 ⟨rfl, hb⟩; have K0 := (hb.block _ (show w.heap.size < wr.heap.size by omega)).trans G0.out; have K1 := (hb.block _ (show w.heap.size + 1 < wr.heap.size by omega)).trans G1.out; have K2 := (hb.block _ (show w.heap.size + 1 + 1 < wr.heap.size by omega)).trans G2.out; obtain ⟨c0, c1, c2, c3, c4, c5, c6, c7, c8, c9, c10, c11, c12, c13, c14⟩ := nv15 K0; obtain ⟨d0, d1, d2, d3, d4⟩ := nv5 K1; obtain ⟨e0, e1, e2, e3, e4, e5, e6, e7, e8, e9, e10, e11, e12, e13, e14⟩ := nv15 K2; have fz : ∀ j, v2.frozen? ⟨w.heap.size + 1 + 1, j, none⟩ = false := (fun j => by simp [World.frozen?, K2]); have hs3 : w.heap.size + 3 ≤ v2.heap.size := (by have := hb.size; omega); have HB3 := Lib.hid (HB2.out.trans (hb.mono (by omega))); have J0 := Lib.hid K0; have J1 := Lib.hid K1; have J2 := Lib.hid K2; clear hb K0 K1 K2) | ((with_reducible refine (isWord_v n _ HW.out _).mono ?_); rintro e v3 ⟨rfl, rfl⟩))
              go_ret
              refine ⟨by rw [HNO.out]; rfl, ?_⟩
              repeat (first | exact HB3.out | refine Below.setCell ?_ (show w.heap.size ≤ w.heap.size + 1 + 1 by omega) _)
          · have zt1 : decide (dst ≥ r.f.regs) = true := by simp <;> omega
            have zt2 : decide (r.f.regs ≤ dst) = true := by simp <;> omega
            have HNO := Lib.hid (no_dst (i := ⟨1, op, dst, a, b, n, text, x0, x1, x2, x3, x4, x5, dest, els⟩) (regs := r.f.regs) (frame := r.f.frame) (len := r.f.code.length) (by simp [dstOk, regOk] <;> omega))
            go_wp2_with (first | ((with_reducible refine (sets_v ⟨1, op, dst, a, b, n, text, x0, x1, x2, x3, x4, x5, dest, els⟩ dst rfl _).mono ?_); rintro e v2 ⟨rfl, hb⟩; have K0 := (hb.block _ (show w.heap.size < wr.heap.size by omega)).trans G0.out; have K1 := (hb.block _ (show w.heap.size + 1 < wr.heap.size by omega)).trans G1.out; have K2 := (hb.block _ (show w.heap.size + 1 + 1 < wr.heap.size by omega)).trans G2.out; obtain ⟨c0, c1, c2, c3, c4, c5, c6, c7, c8, c9, c10, c11, c12, c13, c14⟩ := nv15 K0; obtain ⟨d0, d1, d2, d3, d4⟩ := nv5 K1; obtain ⟨e0, e1, e2, e3, e4, e5, e6, e7, e8, e9, e10, e11, e12, e13, e14⟩ := nv15 K2; have fz : ∀ j, v2.frozen? ⟨w.heap.size + 1 + 1, j, none⟩ = false := (fun j => by simp [World.frozen?, K2]); have hs3 : w.heap.size + 3 ≤ v2.heap.size := (by have := hb.size; omega); have HB3 := Lib.hid (HB2.out.trans (hb.mono (by omega))); have J0 := Lib.hid K0; have J1 := Lib.hid K1; have J2 := Lib.hid K2; clear hb K0 K1 K2))
            go_ret
            refine ⟨by rw [HNO.out]; rfl, ?_⟩
            repeat (first | exact HB3.out | refine Below.setCell ?_ (show w.heap.size ≤ w.heap.size + 1 + 1 by omega) _)
        · have zt0 : decide (dst < (0 : Int)) = true := by simp <;> omega
          have HNO := Lib.hid (no_dst (i := ⟨1, op, dst, a, b, n, text, x0, x1, x2, x3, x4, x5, dest, els⟩) (regs := r.f.regs) (frame := r.f.frame) (len := r.f.code.length) (by simp [dstOk, regOk] <;> omega))
          go_wp2_with (first | ((with_reducible refine (sets_v ⟨1, op, dst, a, b, n, text, x0, x1, x2, x3, x4, x5, dest, els⟩ dst rfl _).mono ?_); rintro e v2 ⟨rfl, hb⟩; have K0 := (hb.block _ (show w.heap.size < wr.heap.size by omega)).trans G0.out; have K1 := (hb.block _ (show w.heap.size + 1 < wr.heap.size by omega)).trans G1.out; have K2 := (hb.block _ (show w.heap.size + 1 + 1 < wr.heap.size by omega)).trans G2.out; obtain ⟨c0, c1, c2, c3, c4, c5, c6, c7, c8, c9, c10, c11, c12, c13, c14⟩ := nv15 K0; obtain ⟨d0, d1, d2, d3, d4⟩ := nv5 K1; obtain ⟨e0, e1, e2, e3, e4, e5, e6, e7, e8, e9, e10, e11, e12, e13, e14⟩ := nv15 K2; have fz : ∀ j, v2.frozen? ⟨w.heap.size + 1 + 1, j, none⟩ = false := (fun j => by simp [World.frozen?, K2]); have hs3 : w.heap.size + 3 ≤ v2.heap.size := (by have := hb.size; omega); have HB3 := Lib.hid (HB2.out.trans (hb.mono (by omega))); have J0 := Lib.hid K0; have J1 := Lib.hid K1; have J2 := Lib.hid K2; clear hb K0 K1 K2))
          go_ret
          refine ⟨by rw [HNO.out]; rfl, ?_⟩
          repeat (first | exact HB3.out | refine Below.setCell ?_ (show w.heap.size ≤ w.heap.size + 1 + 1 by omega) _)
set_option maxHeartbeats 4000000 in
set_option maxRecDepth 100000 in
theorem right_5 (op dst a b n : Int) (text : List UInt8) (x0 x1 x2 x3 x4 x5 dest els : Int) (r : FnR) (hreg : 0 ≤ r.f.regs) (w : World) :
    Calls Try.prog 39 #[inV ⟨5, op, dst, a, b, n, text, x0, x1, x2, x3, x4, x5, dest, els⟩, fnV r] w (RPost (.bool (rightI ⟨5, op, dst, a, b, n, text, x0, x1, x2, x3, x4, x5, dest, els⟩ r.f.regs r.f.frame r.f.code.length)) w) := by
  go_enter Try.func39, Try.ntmps39
  go_wp2_with ((with_reducible refine (uses_any ⟨5, op, dst, a, b, n, text, x0, x1, x2, x3, x4, x5, dest, els⟩ _).mono ?_); go_loud (rintro e v1 ⟨v, rfl, ho, hb⟩; obtain ⟨a1, c1, rfl⟩ := row_slice ho; have HO := Lib.hid ho; obtain ⟨f0, f1, f2, fb, fs⟩ := three_new w (inO ⟨5, op, dst, a, b, n, text, x0, x1, x2, x3, x4, x5, dest, els⟩) (fnO r) (inO ⟨5, 0, -1, 0, 0, 0, [], 0, 0, 0, 0, 0, 0, 0, -1⟩); have F0 := Lib.hid ((hb.block _ (Nat.lt_of_lt_of_eq (show _ < w.heap.size + 3 by omega) fs.symm)).trans f0); have F1 := Lib.hid ((hb.block _ (Nat.lt_of_lt_of_eq (show _ < w.heap.size + 3 by omega) fs.symm)).trans f1); have F2 := Lib.hid ((hb.block _ (Nat.lt_of_lt_of_eq (show _ < w.heap.size + 3 by omega) fs.symm)).trans f2); have HB : Hid (Below w.heap.size w v1) := Lib.hid (fb.trans (hb.mono (Nat.le_trans (show w.heap.size ≤ w.heap.size + 3 by omega) (Nat.le_of_eq fs.symm)))); have hs1 : w.heap.size + 3 ≤ v1.heap.size := Nat.le_trans (Nat.le_of_eq fs.symm) hb.size; clear f0 f1 f2 fb fs ho hb))
  obtain ⟨xs, hxs⟩ : ∃ xs, uses ⟨5, op, dst, a, b, n, text, x0, x1, x2, x3, x4, x5, dest, els⟩ = xs := ⟨_, rfl⟩
  have HXS := Lib.hid hxs
  have hxl : xs.length ≤ 8 := hxs ▸ uses_len _
  rw [hxs] at HO ⊢
  clear hxs
  go_loopw [7] (fun s7 wr => ∃ k : Nat, k ≤ xs.length ∧ s7 = .int .i64 k ∧ Hid (wr.heap = v1.heap) ∧ Hid (Below w.heap.size w wr) ∧ Hid ((xs.take k).all (regOk r.f.regs) = true)) (fun i wr => xs.length - (intOf i).toNat)
  case atStart => exact ⟨0, by omega, rfl, Lib.hid rfl, HB, Lib.hid (by simp)⟩
  case round =>
    obtain ⟨k, hk, rfl, HQ, HB2, HA⟩ := hrel
    have G0 := Lib.hid ((congrArg (fun h => h[w.heap.size]?) HQ.out).trans F0.out)
    have G1 := Lib.hid ((congrArg (fun h => h[w.heap.size + 1]?) HQ.out).trans F1.out)
    have G2 := Lib.hid ((congrArg (fun h => h[w.heap.size + 1 + 1]?) HQ.out).trans F2.out)
    have hs2 : w.heap.size + 3 ≤ wr.heap.size := by rw [HQ.out]; exact hs1
    obtain ⟨c0, c1, c2, c3, c4, c5, c6, c7, c8, c9, c10, c11, c12, c13, c14⟩ := nv15 (w := wr) G0.out
    obtain ⟨d0, d1, d2, d3, d4⟩ := nv5 (w := wr) G1.out
    have HO2 := Lib.hid (own_keep (w' := wr) HO.out (fun g _ => by rw [HQ.out]))
    by_cases hlt : k < xs.length
    · obtain ⟨x, hx⟩ : ∃ x, xs[k]? = some x := ⟨_, List.getElem?_eq_getElem hlt⟩
      obtain ⟨g, rfl, hg, hgl, cu⟩ := own_int HO2.out hx
      have HX := Lib.hid hx; clear hx
      have q0 : (0 : Int) ≤ (k : Int) := Int.natCast_nonneg _
      have q1 : (k : Int) < (xs.length : Int) := by omega
      by_cases z0 : x < 0
      · have t0 : decide (x < (0 : Int)) = true := by simpa using z0
        have hno : regOk r.f.regs x = false := by unfold regOk; simp; omega
        have HNO := Lib.hid (no_uses (i := ⟨5, op, dst, a, b, n, text, x0, x1, x2, x3, x4, x5, dest, els⟩) (regs := r.f.regs) (frame := r.f.frame) (len := r.f.code.length) (by rw [HXS.out]; exact all_no HX.out hno))
        clear hno
        go_wp2
        go_quiet (fail)
        go_wp2
        go_ret
        refine ⟨?_, drN HB2.out _⟩
        rw [HNO.out]; rfl
      · have t0 : decide (x < (0 : Int)) = false := by simpa using z0
        by_cases z1 : x < r.f.regs
        · have t1 : decide (x ≥ r.f.regs) = false := by simp; omega
          have t2 : decide (r.f.regs ≤ x) = false := by simp; omega
          have hyes : regOk r.f.regs x = true := by unfold regOk; simp; omega
          have HY := Lib.hid (all_yes HA.out HX.out hyes)
          clear hyes
          go_wp2
          go_quiet (fail)
          go_wp2
          go_roundw
          case rel => exact ⟨k + 1, by omega, by go_num, Lib.hid HQ.out, Lib.hid (drN HB2.out _), HY⟩
          case measure => simp [intOf]; omega
        · have t1 : decide (x ≥ r.f.regs) = true := by simp; omega
          have t2 : decide (r.f.regs ≤ x) = true := by simp; omega
          have hno : regOk r.f.regs x = false := by unfold regOk; simp; omega
          have HNO := Lib.hid (no_uses (i := ⟨5, op, dst, a, b, n, text, x0, x1, x2, x3, x4, x5, dest, els⟩) (regs := r.f.regs) (frame := r.f.frame) (len := r.f.code.length) (by rw [HXS.out]; exact all_no HX.out hno))
          clear hno
          go_wp2
          go_quiet (fail)
          go_wp2
          go_ret
          refine ⟨?_, drN HB2.out _⟩
          rw [HNO.out]; rfl
    · obtain rfl : k = xs.length := by omega
      have hu := HA.out
      rw [List.take_length, ← HXS.out] at hu
      have HU := Lib.hid hu
      clear hu HA HO HO2 HXS
      by_cases z0 : dst = -1
      · subst z0
        have HNO := Lib.hid (no_dst (i := ⟨5, op, -1, a, b, n, text, x0, x1, x2, x3, x4, x5, dest, els⟩) (regs := r.f.regs) (frame := r.f.frame) (len := r.f.code.length) (by simp [dstOk, regOk]))
        go_wp2_with (first | ((with_reducible refine (sets_v ⟨5, op, -1, a, b, n, text, x0, x1, x2, x3, x4, x5, dest, els⟩ (-1) rfl _).mono ?_); rintro e v2 ⟨rfl, hb⟩; have K0 := (hb.block _ (show w.heap.size < wr.heap.size by omega)).trans G0.out; have K1 := (hb.block _ (show w.heap.size + 1 < wr.heap.size by omega)).trans G1.out; have K2 := (hb.block _ (show w.heap.size + 1 + 1 < wr.heap.size by omega)).trans G2.out; obtain ⟨c0, c1, c2, c3, c4, c5, c6, c7, c8, c9, c10, c11, c12, c13, c14⟩ := nv15 K0; obtain ⟨d0, d1, d2, d3, d4⟩ := nv5 K1; obtain ⟨e0, e1, e2, e3, e4, e5, e6, e7, e8, e9, e10, e11, e12, e13, e14⟩ := nv15 K2; have fz : ∀ j, v2.frozen? ⟨w.heap.size + 1 + 1, j, none⟩ = false := (fun j => by simp [World.frozen?, K2]); have hs3 : w.heap.size + 3 ≤ v2.heap.size := (by have := hb.size; omega); have HB3 := Lib.hid (HB2.out.trans (hb.mono (by omega))); have J0 := Lib.hid K0; have J1 := Lib.hid K1; have J2 := Lib.hid K2; clear hb K0 K1 K2))
        go_ret
        refine ⟨by rw [HNO.out]; rfl, ?_⟩
        repeat (first | exact HB3.out | refine Below.setCell ?_ (show w.heap.size ≤ w.heap.size + 1 + 1 by omega) _)
      · have zn : (dst != (-1 : Int)) = true := by simp <;> omega
        by_cases z1 : 0 ≤ dst
        · have zt0 : decide (dst < (0 : Int)) = false := by simp <;> omega
          by_cases z2 : dst < r.f.regs
          · have zt1 : decide (dst ≥ r.f.regs) = false := by simp <;> omega
            have zt2 : decide (r.f.regs ≤ dst) = false := by simp <;> omega
            have HD : Hid (dstOk ⟨5, op, dst, a, b, n, text, x0, x1, x2, x3, x4, x5, dest, els⟩ r.f.regs = true) := Lib.hid (by simp [dstOk, regOk] <;> omega)
            by_cases y0 : 0 ≤ n
            · have u0 : decide (n < (0 : Int)) = false := by simp <;> omega
              by_cases y1 : n ≤ r.f.frame
              · have u1 : decide (n > r.f.frame) = false := by simp <;> omega
                have u2 : decide (r.f.frame < n) = false := by simp <;> omega
                have HN : Hid (nOk ⟨5, op, dst, a, b, n, text, x0, x1, x2, x3, x4, x5, dest, els⟩ r.f.frame = true) := Lib.hid (by simp [nOk] <;> omega)
                have HP : Hid (opOk ⟨5, op, dst, a, b, n, text, x0, x1, x2, x3, x4, x5, dest, els⟩ = true) := Lib.hid (by simp [opOk] <;> omega)
                have HT : Hid (toOk ⟨5, op, dst, a, b, n, text, x0, x1, x2, x3, x4, x5, dest, els⟩ r.f.code.length = true) := Lib.hid (by simp [toOk, regOk] <;> omega)
                have HQL := in_eqlV
                go_wp2_with (first | ((with_reducible refine (sets_v ⟨5, op, dst, a, b, n, text, x0, x1, x2, x3, x4, x5, dest, els⟩ dst rfl _).mono ?_); rintro e v2 ⟨rfl, hb⟩; have K0 := (hb.block _ (show w.heap.size < wr.heap.size by omega)).trans G0.out; have K1 := (hb.block _ (show w.heap.size + 1 < wr.heap.size by omega)).trans G1.out; have K2 := (hb.block _ (show w.heap.size + 1 + 1 < wr.heap.size by omega)).trans G2.out; obtain ⟨c0, c1, c2, c3, c4, c5, c6, c7, c8, c9, c10, c11, c12, c13, c14⟩ := nv15 K0; obtain ⟨d0, d1, d2, d3, d4⟩ := nv5 K1; obtain ⟨e0, e1, e2, e3, e4, e5, e6, e7, e8, e9, e10, e11, e12, e13, e14⟩ := nv15 K2; have fz : ∀ j, v2.frozen? ⟨w.heap.size + 1 + 1, j, none⟩ = false := (fun j => by simp [World.frozen?, K2]); have hs3 : w.heap.size + 3 ≤ v2.heap.size := (by have := hb.size; omega); have HB3 := Lib.hid (HB2.out.trans (hb.mono (by omega))); have J0 := Lib.hid K0; have J1 := Lib.hid K1; have J2 := Lib.hid K2; clear hb K0 K1 K2))
                go_ret
                refine ⟨congrArg (fun b => Ending.returned (.bool b)) ?_, ?_⟩
                · rw [yes_eq (i := ⟨5, op, dst, a, b, n, text, x0, x1, x2, x3, x4, x5, dest, els⟩) (o := ⟨5, 0, dst, 0, 0, n, [], 0, 0, 0, 0, 0, 0, 0, -1⟩) (by simp) (by simp) HU.out HD.out HN.out HP.out HT.out (by first | rfl | simp [plainOf, readsA, readsB, ifI])]; simp
                · repeat (first | exact HB3.out | refine Below.setCell ?_ (show w.heap.size ≤ w.heap.size + 1 + 1 by omega) _)
              · have u1 : decide (n > r.f.frame) = true := by simp <;> omega
                have u2 : decide (r.f.frame < n) = true := by simp <;> omega
                have HNO := Lib.hid (no_n (i := ⟨5, op, dst, a, b, n, text, x0, x1, x2, x3, x4, x5, dest, els⟩) (regs := r.f.regs) (frame := r.f.frame) (len := r.f.code.length) (by simp [nOk] <;> omega))
                go_wp2_with (first | ((with_reducible refine (sets_v ⟨5, op, dst, a, b, n, text, x0, x1, x2, x3, x4, x5, dest, els⟩ dst rfl _).mono ?_); rintro e v2 ⟨rfl, hb⟩; have K0 := (hb.block _ (show w.heap.size < wr.heap.size by omega)).trans G0.out; have K1 := (hb.block _ (show w.heap.size + 1 < wr.heap.size by omega)).trans G1.out; have K2 := (hb.block _ (show w.heap.size + 1 + 1 < wr.heap.size by omega)).trans G2.out; obtain ⟨c0, c1, c2, c3, c4, c5, c6, c7, c8, c9, c10, c11, c12, c13, c14⟩ := nv15 K0; obtain ⟨d0, d1, d2, d3, d4⟩ := nv5 K1; obtain ⟨e0, e1, e2, e3, e4, e5, e6, e7, e8, e9, e10, e11, e12, e13, e14⟩ := nv15 K2; have fz : ∀ j, v2.frozen? ⟨w.heap.size + 1 + 1, j, none⟩ = false := (fun j => by simp [World.frozen?, K2]); have hs3 : w.heap.size + 3 ≤ v2.heap.size := (by have := hb.size; omega); have HB3 := Lib.hid (HB2.out.trans (hb.mono (by omega))); have J0 := Lib.hid K0; have J1 := Lib.hid K1; have J2 := Lib.hid K2; clear hb K0 K1 K2))
                go_ret
                refine ⟨by rw [HNO.out]; rfl, ?_⟩
                repeat (first | exact HB3.out | refine Below.setCell ?_ (show w.heap.size ≤ w.heap.size + 1 + 1 by omega) _)
            · have u0 : decide (n < (0 : Int)) = true := by simp <;> omega
              have HNO := Lib.hid (no_n (i := ⟨5, op, dst, a, b, n, text, x0, x1, x2, x3, x4, x5, dest, els⟩) (regs := r.f.regs) (frame := r.f.frame) (len := r.f.code.length) (by simp [nOk] <;> omega))
              go_wp2_with (first | ((with_reducible refine (sets_v ⟨5, op, dst, a, b, n, text, x0, x1, x2, x3, x4, x5, dest, els⟩ dst rfl _).mono ?_); rintro e v2 ⟨rfl, hb⟩; have K0 := (hb.block _ (show w.heap.size < wr.heap.size by omega)).trans G0.out; have K1 := (hb.block _ (show w.heap.size + 1 < wr.heap.size by omega)).trans G1.out; have K2 := (hb.block _ (show w.heap.size + 1 + 1 < wr.heap.size by omega)).trans G2.out; obtain ⟨c0, c1, c2, c3, c4, c5, c6, c7, c8, c9, c10, c11, c12, c13, c14⟩ := nv15 K0; obtain ⟨d0, d1, d2, d3, d4⟩ := nv5 K1; obtain ⟨e0, e1, e2, e3, e4, e5, e6, e7, e8, e9, e10, e11, e12, e13, e14⟩ := nv15 K2; have fz : ∀ j, v2.frozen? ⟨w.heap.size + 1 + 1, j, none⟩ = false := (fun j => by simp [World.frozen?, K2]); have hs3 : w.heap.size + 3 ≤ v2.heap.size := (by have := hb.size; omega); have HB3 := Lib.hid (HB2.out.trans (hb.mono (by omega))); have J0 := Lib.hid K0; have J1 := Lib.hid K1; have J2 := Lib.hid K2; clear hb K0 K1 K2))
              go_ret
              refine ⟨by rw [HNO.out]; rfl, ?_⟩
              repeat (first | exact HB3.out | refine Below.setCell ?_ (show w.heap.size ≤ w.heap.size + 1 + 1 by omega) _)
          · have zt1 : decide (dst ≥ r.f.regs) = true := by simp <;> omega
            have zt2 : decide (r.f.regs ≤ dst) = true := by simp <;> omega
            have HNO := Lib.hid (no_dst (i := ⟨5, op, dst, a, b, n, text, x0, x1, x2, x3, x4, x5, dest, els⟩) (regs := r.f.regs) (frame := r.f.frame) (len := r.f.code.length) (by simp [dstOk, regOk] <;> omega))
            go_wp2_with (first | ((with_reducible refine (sets_v ⟨5, op, dst, a, b, n, text, x0, x1, x2, x3, x4, x5, dest, els⟩ dst rfl _).mono ?_); rintro e v2 ⟨rfl, hb⟩; have K0 := (hb.block _ (show w.heap.size < wr.heap.size by omega)).trans G0.out; have K1 := (hb.block _ (show w.heap.size + 1 < wr.heap.size by omega)).trans G1.out; have K2 := (hb.block _ (show w.heap.size + 1 + 1 < wr.heap.size by omega)).trans G2.out; obtain ⟨c0, c1, c2, c3, c4, c5, c6, c7, c8, c9, c10, c11, c12, c13, c14⟩ := nv15 K0; obtain ⟨d0, d1, d2, d3, d4⟩ := nv5 K1; obtain ⟨e0, e1, e2, e3, e4, e5, e6, e7, e8, e9, e10, e11, e12, e13, e14⟩ := nv15 K2; have fz : ∀ j, v2.frozen? ⟨w.heap.size + 1 + 1, j, none⟩ = false := (fun j => by simp [World.frozen?, K2]); have hs3 : w.heap.size + 3 ≤ v2.heap.size := (by have := hb.size; omega); have HB3 := Lib.hid (HB2.out.trans (hb.mono (by omega))); have J0 := Lib.hid K0; have J1 := Lib.hid K1; have J2 := Lib.hid K2; clear hb K0 K1 K2))
            go_ret
            refine ⟨by rw [HNO.out]; rfl, ?_⟩
            repeat (first | exact HB3.out | refine Below.setCell ?_ (show w.heap.size ≤ w.heap.size + 1 + 1 by omega) _)
        · have zt0 : decide (dst < (0 : Int)) = true := by simp <;> omega
          have HNO := Lib.hid (no_dst (i := ⟨5, op, dst, a, b, n, text, x0, x1, x2, x3, x4, x5, dest, els⟩) (regs := r.f.regs) (frame := r.f.frame) (len := r.f.code.length) (by simp [dstOk, regOk] <;> omega))
          go_wp2_with (first | ((with_reducible refine (sets_v ⟨5, op, dst, a, b, n, text, x0, x1, x2, x3, x4, x5, dest, els⟩ dst rfl _).mono ?_); rintro e v2 ⟨rfl, hb⟩; have K0 := (hb.block _ (show w.heap.size < wr.heap.size by omega)).trans G0.out; have K1 := (hb.block _ (show w.heap.size + 1 < wr.heap.size by omega)).trans G1.out; have K2 := (hb.block _ (show w.heap.size + 1 + 1 < wr.heap.size by omega)).trans G2.out; obtain ⟨c0, c1, c2, c3, c4, c5, c6, c7, c8, c9, c10, c11, c12, c13, c14⟩ := nv15 K0; obtain ⟨d0, d1, d2, d3, d4⟩ := nv5 K1; obtain ⟨e0, e1, e2, e3, e4, e5, e6, e7, e8, e9, e10, e11, e12, e13, e14⟩ := nv15 K2; have fz : ∀ j, v2.frozen? ⟨w.heap.size + 1 + 1, j, none⟩ = false := (fun j => by simp [World.frozen?, K2]); have hs3 : w.heap.size + 3 ≤ v2.heap.size := (by have := hb.size; omega); have HB3 := Lib.hid (HB2.out.trans (hb.mono (by omega))); have J0 := Lib.hid K0; have J1 := Lib.hid K1; have J2 := Lib.hid K2; clear hb K0 K1 K2))
          go_ret
          refine ⟨by rw [HNO.out]; rfl, ?_⟩
          repeat (first | exact HB3.out | refine Below.setCell ?_ (show w.heap.size ≤ w.heap.size + 1 + 1 by omega) _)
set_option maxHeartbeats 4000000 in
set_option maxRecDepth 100000 in
theorem right_9 (op dst a b n : Int) (text : List UInt8) (x0 x1 x2 x3 x4 x5 dest els : Int) (r : FnR) (hreg : 0 ≤ r.f.regs) (w : World) :
    Calls Try.prog 39 #[inV ⟨9, op, dst, a, b, n, text, x0, x1, x2, x3, x4, x5, dest, els⟩, fnV r] w (RPost (.bool (rightI ⟨9, op, dst, a, b, n, text, x0, x1, x2, x3, x4, x5, dest, els⟩ r.f.regs r.f.frame r.f.code.length)) w) := by
  go_enter Try.func39, Try.ntmps39
  go_wp2_with ((with_reducible refine (uses_any ⟨9, op, dst, a, b, n, text, x0, x1, x2, x3, x4, x5, dest, els⟩ _).mono ?_); go_loud (rintro e v1 ⟨v, rfl, ho, hb⟩; obtain ⟨a1, c1, rfl⟩ := row_slice ho; have HO := Lib.hid ho; obtain ⟨f0, f1, f2, fb, fs⟩ := three_new w (inO ⟨9, op, dst, a, b, n, text, x0, x1, x2, x3, x4, x5, dest, els⟩) (fnO r) (inO ⟨9, 0, -1, 0, 0, 0, [], 0, 0, 0, 0, 0, 0, 0, -1⟩); have F0 := Lib.hid ((hb.block _ (Nat.lt_of_lt_of_eq (show _ < w.heap.size + 3 by omega) fs.symm)).trans f0); have F1 := Lib.hid ((hb.block _ (Nat.lt_of_lt_of_eq (show _ < w.heap.size + 3 by omega) fs.symm)).trans f1); have F2 := Lib.hid ((hb.block _ (Nat.lt_of_lt_of_eq (show _ < w.heap.size + 3 by omega) fs.symm)).trans f2); have HB : Hid (Below w.heap.size w v1) := Lib.hid (fb.trans (hb.mono (Nat.le_trans (show w.heap.size ≤ w.heap.size + 3 by omega) (Nat.le_of_eq fs.symm)))); have hs1 : w.heap.size + 3 ≤ v1.heap.size := Nat.le_trans (Nat.le_of_eq fs.symm) hb.size; clear f0 f1 f2 fb fs ho hb))
  obtain ⟨xs, hxs⟩ : ∃ xs, uses ⟨9, op, dst, a, b, n, text, x0, x1, x2, x3, x4, x5, dest, els⟩ = xs := ⟨_, rfl⟩
  have HXS := Lib.hid hxs
  have hxl : xs.length ≤ 8 := hxs ▸ uses_len _
  rw [hxs] at HO ⊢
  clear hxs
  go_loopw [7] (fun s7 wr => ∃ k : Nat, k ≤ xs.length ∧ s7 = .int .i64 k ∧ Hid (wr.heap = v1.heap) ∧ Hid (Below w.heap.size w wr) ∧ Hid ((xs.take k).all (regOk r.f.regs) = true)) (fun i wr => xs.length - (intOf i).toNat)
  case atStart => exact ⟨0, by omega, rfl, Lib.hid rfl, HB, Lib.hid (by simp)⟩
  case round =>
    obtain ⟨k, hk, rfl, HQ, HB2, HA⟩ := hrel
    have G0 := Lib.hid ((congrArg (fun h => h[w.heap.size]?) HQ.out).trans F0.out)
    have G1 := Lib.hid ((congrArg (fun h => h[w.heap.size + 1]?) HQ.out).trans F1.out)
    have G2 := Lib.hid ((congrArg (fun h => h[w.heap.size + 1 + 1]?) HQ.out).trans F2.out)
    have hs2 : w.heap.size + 3 ≤ wr.heap.size := by rw [HQ.out]; exact hs1
    obtain ⟨c0, c1, c2, c3, c4, c5, c6, c7, c8, c9, c10, c11, c12, c13, c14⟩ := nv15 (w := wr) G0.out
    obtain ⟨d0, d1, d2, d3, d4⟩ := nv5 (w := wr) G1.out
    have HO2 := Lib.hid (own_keep (w' := wr) HO.out (fun g _ => by rw [HQ.out]))
    by_cases hlt : k < xs.length
    · obtain ⟨x, hx⟩ : ∃ x, xs[k]? = some x := ⟨_, List.getElem?_eq_getElem hlt⟩
      obtain ⟨g, rfl, hg, hgl, cu⟩ := own_int HO2.out hx
      have HX := Lib.hid hx; clear hx
      have q0 : (0 : Int) ≤ (k : Int) := Int.natCast_nonneg _
      have q1 : (k : Int) < (xs.length : Int) := by omega
      by_cases z0 : x < 0
      · have t0 : decide (x < (0 : Int)) = true := by simpa using z0
        have hno : regOk r.f.regs x = false := by unfold regOk; simp; omega
        have HNO := Lib.hid (no_uses (i := ⟨9, op, dst, a, b, n, text, x0, x1, x2, x3, x4, x5, dest, els⟩) (regs := r.f.regs) (frame := r.f.frame) (len := r.f.code.length) (by rw [HXS.out]; exact all_no HX.out hno))
        clear hno
        go_wp2
        go_quiet (fail)
        go_wp2
        go_ret
        refine ⟨?_, drN HB2.out _⟩
        rw [HNO.out]; rfl
      · have t0 : decide (x < (0 : Int)) = false := by simpa using z0
        by_cases z1 : x < r.f.regs
        · have t1 : decide (x ≥ r.f.regs) = false := by simp; omega
          have t2 : decide (r.f.regs ≤ x) = false := by simp; omega
          have hyes : regOk r.f.regs x = true := by unfold regOk; simp; omega
          have HY := Lib.hid (all_yes HA.out HX.out hyes)
          clear hyes
          go_wp2
          go_quiet (fail)
          go_wp2
          go_roundw
          case rel => exact ⟨k + 1, by omega, by go_num, Lib.hid HQ.out, Lib.hid (drN HB2.out _), HY⟩
          case measure => simp [intOf]; omega
        · have t1 : decide (x ≥ r.f.regs) = true := by simp; omega
          have t2 : decide (r.f.regs ≤ x) = true := by simp; omega
          have hno : regOk r.f.regs x = false := by unfold regOk; simp; omega
          have HNO := Lib.hid (no_uses (i := ⟨9, op, dst, a, b, n, text, x0, x1, x2, x3, x4, x5, dest, els⟩) (regs := r.f.regs) (frame := r.f.frame) (len := r.f.code.length) (by rw [HXS.out]; exact all_no HX.out hno))
          clear hno
          go_wp2
          go_quiet (fail)
          go_wp2
          go_ret
          refine ⟨?_, drN HB2.out _⟩
          rw [HNO.out]; rfl
    · obtain rfl : k = xs.length := by omega
      have hu := HA.out
      rw [List.take_length, ← HXS.out] at hu
      have HU := Lib.hid hu
      clear hu HA HO HO2 HXS
      by_cases z0 : dst = -1
      · subst z0
        have HNO := Lib.hid (no_dst (i := ⟨9, op, -1, a, b, n, text, x0, x1, x2, x3, x4, x5, dest, els⟩) (regs := r.f.regs) (frame := r.f.frame) (len := r.f.code.length) (by simp [dstOk, regOk]))
        go_wp2_with (first | ((with_reducible refine (sets_v ⟨9, op, -1, a, b, n, text, x0, x1, x2, x3, x4, x5, dest, els⟩ (-1) rfl _).mono ?_); rintro e v2 ⟨rfl, hb⟩; have K0 := (hb.block _ (show w.heap.size < wr.heap.size by omega)).trans G0.out; have K1 := (hb.block _ (show w.heap.size + 1 < wr.heap.size by omega)).trans G1.out; have K2 := (hb.block _ (show w.heap.size + 1 + 1 < wr.heap.size by omega)).trans G2.out; obtain ⟨c0, c1, c2, c3, c4, c5, c6, c7, c8, c9, c10, c11, c12, c13, c14⟩ := nv15 K0; obtain ⟨d0, d1, d2, d3, d4⟩ := nv5 K1; obtain ⟨e0, e1, e2, e3, e4, e5, e6, e7, e8, e9, e10, e11, e12, e13, e14⟩ := nv15 K2; have fz : ∀ j, v2.frozen? ⟨w.heap.size + 1 + 1, j, none⟩ = false := (fun j => by simp [World.frozen?, K2]); have hs3 : w.heap.size + 3 ≤ v2.heap.size := (by have := hb.size; omega); have HB3 := Lib.hid (HB2.out.trans (hb.mono (by omega))); have J0 := Lib.hid K0; have J1 := Lib.hid K1; have J2 := Lib.hid K2; clear hb K0 K1 K2))
        go_ret
        refine ⟨by rw [HNO.out]; rfl, ?_⟩
        repeat (first | exact HB3.out | refine Below.setCell ?_ (show w.heap.size ≤ w.heap.size + 1 + 1 by omega) _)
      · have zn : (dst != (-1 : Int)) = true := by simp <;> omega
        by_cases z1 : 0 ≤ dst
        · have zt0 : decide (dst < (0 : Int)) = false := by simp <;> omega
          by_cases z2 : dst < r.f.regs
          · have zt1 : decide (dst ≥ r.f.regs) = false := by simp <;> omega
            have zt2 : decide (r.f.regs ≤ dst) = false := by simp <;> omega
            have HD : Hid (dstOk ⟨9, op, dst, a, b, n, text, x0, x1, x2, x3, x4, x5, dest, els⟩ r.f.regs = true) := Lib.hid (by simp [dstOk, regOk] <;> omega)
            have HN : Hid (nOk ⟨9, op, dst, a, b, n, text, x0, x1, x2, x3, x4, x5, dest, els⟩ r.f.frame = true) := Lib.hid (by simp [nOk] <;> omega)
            have HP : Hid (opOk ⟨9, op, dst, a, b, n, text, x0, x1, x2, x3, x4, x5, dest, els⟩ = true) := Lib.hid (by simp [opOk] <;> omega)
            have HT : Hid (toOk ⟨9, op, dst, a, b, n, text, x0, x1, x2, x3, x4, x5, dest, els⟩ r.f.code.length = true) := Lib.hid (by simp [toOk, regOk] <;> omega)
            have HQL := in_eqlV
            go_wp2_with (first | ((with_reducible refine (sets_v ⟨9, op, dst, a, b, n, text, x0, x1, x2, x3, x4, x5, dest, els⟩ dst rfl _).mono ?_); rintro e v2 ⟨rfl, hb⟩; have K0 := (hb.block _ (show w.heap.size < wr.heap.size by omega)).trans G0.out; have K1 := (hb.block _ (show w.heap.size + 1 < wr.heap.size by omega)).trans G1.out; have K2 := (hb.block _ (show w.heap.size + 1 + 1 < wr.heap.size by omega)).trans G2.out; obtain ⟨c0, c1, c2, c3, c4, c5, c6, c7, c8, c9, c10, c11, c12, c13, c14⟩ := nv15 K0; obtain ⟨d0, d1, d2, d3, d4⟩ := nv5 K1; obtain ⟨e0, e1, e2, e3, e4, e5, e6, e7, e8, e9, e10, e11, e12, e13, e14⟩ := nv15 K2; have fz : ∀ j, v2.frozen? ⟨w.heap.size + 1 + 1, j, none⟩ = false := (fun j => by simp [World.frozen?, K2]); have hs3 : w.heap.size + 3 ≤ v2.heap.size := (by have := hb.size; omega); have HB3 := Lib.hid (HB2.out.trans (hb.mono (by omega))); have J0 := Lib.hid K0; have J1 := Lib.hid K1; have J2 := Lib.hid K2; clear hb K0 K1 K2))
            go_ret
            refine ⟨congrArg (fun b => Ending.returned (.bool b)) ?_, ?_⟩
            · rw [yes_eq (i := ⟨9, op, dst, a, b, n, text, x0, x1, x2, x3, x4, x5, dest, els⟩) (o := ⟨9, 0, dst, 0, 0, 0, [], 0, 0, 0, 0, 0, 0, 0, -1⟩) (by simp) (by simp) HU.out HD.out HN.out HP.out HT.out (by first | rfl | simp [plainOf, readsA, readsB, ifI])]; simp
            · repeat (first | exact HB3.out | refine Below.setCell ?_ (show w.heap.size ≤ w.heap.size + 1 + 1 by omega) _)
          · have zt1 : decide (dst ≥ r.f.regs) = true := by simp <;> omega
            have zt2 : decide (r.f.regs ≤ dst) = true := by simp <;> omega
            have HNO := Lib.hid (no_dst (i := ⟨9, op, dst, a, b, n, text, x0, x1, x2, x3, x4, x5, dest, els⟩) (regs := r.f.regs) (frame := r.f.frame) (len := r.f.code.length) (by simp [dstOk, regOk] <;> omega))
            go_wp2_with (first | ((with_reducible refine (sets_v ⟨9, op, dst, a, b, n, text, x0, x1, x2, x3, x4, x5, dest, els⟩ dst rfl _).mono ?_); rintro e v2 ⟨rfl, hb⟩; have K0 := (hb.block _ (show w.heap.size < wr.heap.size by omega)).trans G0.out; have K1 := (hb.block _ (show w.heap.size + 1 < wr.heap.size by omega)).trans G1.out; have K2 := (hb.block _ (show w.heap.size + 1 + 1 < wr.heap.size by omega)).trans G2.out; obtain ⟨c0, c1, c2, c3, c4, c5, c6, c7, c8, c9, c10, c11, c12, c13, c14⟩ := nv15 K0; obtain ⟨d0, d1, d2, d3, d4⟩ := nv5 K1; obtain ⟨e0, e1, e2, e3, e4, e5, e6, e7, e8, e9, e10, e11, e12, e13, e14⟩ := nv15 K2; have fz : ∀ j, v2.frozen? ⟨w.heap.size + 1 + 1, j, none⟩ = false := (fun j => by simp [World.frozen?, K2]); have hs3 : w.heap.size + 3 ≤ v2.heap.size := (by have := hb.size; omega); have HB3 := Lib.hid (HB2.out.trans (hb.mono (by omega))); have J0 := Lib.hid K0; have J1 := Lib.hid K1; have J2 := Lib.hid K2; clear hb K0 K1 K2))
            go_ret
            refine ⟨by rw [HNO.out]; rfl, ?_⟩
            repeat (first | exact HB3.out | refine Below.setCell ?_ (show w.heap.size ≤ w.heap.size + 1 + 1 by omega) _)
        · have zt0 : decide (dst < (0 : Int)) = true := by simp <;> omega
          have HNO := Lib.hid (no_dst (i := ⟨9, op, dst, a, b, n, text, x0, x1, x2, x3, x4, x5, dest, els⟩) (regs := r.f.regs) (frame := r.f.frame) (len := r.f.code.length) (by simp [dstOk, regOk] <;> omega))
          go_wp2_with (first | ((with_reducible refine (sets_v ⟨9, op, dst, a, b, n, text, x0, x1, x2, x3, x4, x5, dest, els⟩ dst rfl _).mono ?_); rintro e v2 ⟨rfl, hb⟩; have K0 := (hb.block _ (show w.heap.size < wr.heap.size by omega)).trans G0.out; have K1 := (hb.block _ (show w.heap.size + 1 < wr.heap.size by omega)).trans G1.out; have K2 := (hb.block _ (show w.heap.size + 1 + 1 < wr.heap.size by omega)).trans G2.out; obtain ⟨c0, c1, c2, c3, c4, c5, c6, c7, c8, c9, c10, c11, c12, c13, c14⟩ := nv15 K0; obtain ⟨d0, d1, d2, d3, d4⟩ := nv5 K1; obtain ⟨e0, e1, e2, e3, e4, e5, e6, e7, e8, e9, e10, e11, e12, e13, e14⟩ := nv15 K2; have fz : ∀ j, v2.frozen? ⟨w.heap.size + 1 + 1, j, none⟩ = false := (fun j => by simp [World.frozen?, K2]); have hs3 : w.heap.size + 3 ≤ v2.heap.size := (by have := hb.size; omega); have HB3 := Lib.hid (HB2.out.trans (hb.mono (by omega))); have J0 := Lib.hid K0; have J1 := Lib.hid K1; have J2 := Lib.hid K2; clear hb K0 K1 K2))
          go_ret
          refine ⟨by rw [HNO.out]; rfl, ?_⟩
          repeat (first | exact HB3.out | refine Below.setCell ?_ (show w.heap.size ≤ w.heap.size + 1 + 1 by omega) _)
end Go.Proofs.Ytgnpbodhjmappaa
