/-
  Layer 7: what instruction needs of an instruction of kind none.
-/
import Derived.Test.YtgnpbodhjmappaaPLQ
set_option linter.unusedVariables false
set_option linter.unusedSimpArgs false
namespace Go.Proofs.Ytgnpbodhjmappaa
set_option maxRecDepth 100000
open Go.RowKit Cd
open List renaming getElem_toArray → zA, getElem_cons_succ → zB, getElem_cons_zero → zC, setIfInBounds_toArray → zD, set_cons_succ → zE, set_cons_zero → zF
set_option maxHeartbeats 8000000 in
set_option maxRecDepth 100000 in
theorem instr_low (k op dst a b n : Int) (text : List UInt8) (x0 x1 x2 x3 x4 x5 dest els : Int) (hk : k < 1 ∨ 13 < k) (r : FnR) (z cb co : Nat) (R : Bool) (w : World) (hz : w.heap[z]? = some (bxB R)) (hi : ∀ (j : Nat) (u : Value), (inCells ⟨k, op, dst, a, b, n, text, x0, x1, x2, x3, x4, x5, dest, els⟩)[j]? = some u → w.cell? ⟨cb, co + j, none⟩ = some u) (hcb : cb < w.heap.size) (hne : z ≠ cb) :
    Calls Try.prog 57 #[fnV r, .pointer (some ⟨cb, co, none⟩), needV z] w (InPost z (R && rightI ⟨k, op, dst, a, b, n, text, x0, x1, x2, x3, x4, x5, dest, els⟩ r.f.regs r.f.frame r.f.code.length) w) := by
  have hmix : Try.prog.follows .mixedOrders = true := by kernel_rfl
  have HNO : Hid ((R && false) = (R && rightI ⟨k, op, dst, a, b, n, text, x0, x1, x2, x3, x4, x5, dest, els⟩ r.f.regs r.f.frame r.f.code.length)) := Lib.hid (by
    have e : rightI ⟨k, op, dst, a, b, n, text, x0, x1, x2, x3, x4, x5, dest, els⟩ r.f.regs r.f.frame r.f.code.length = false := by
      unfold rightI
      rcases hk with h | h
      · rw [decide_eq_false (show ¬ (1 : Int) ≤ k by omega)]; rfl
      · rw [decide_eq_false (show ¬ k ≤ (13 : Int) by omega)]; simp
    rw [e])
  have s0 : setsB k = false := by unfold setsB inB; simp; omega
  have s1 : Cd.readsA k = false := by unfold Cd.readsA; simp; omega
  have s2 : Cd.readsB k = false := by unfold Cd.readsB; simp; omega
  have s3 : inB k 1 13 = false := by unfold inB; simp; omega
  have t1 : (k == (1 : Int)) = false := by simp; omega
  have t2 : (k == (2 : Int)) = false := by simp; omega
  have t3 : (k == (3 : Int)) = false := by simp; omega
  have t5 : (k == (5 : Int)) = false := by simp; omega
  have t8 : (k == (8 : Int)) = false := by simp; omega
  have t11 : (k == (11 : Int)) = false := by simp; omega
  have t12 : (k == (12 : Int)) = false := by simp; omega
  clear hk
  have i0 : w.cell? ⟨cb, co, none⟩ = some (.int .i64 k) := hi 0 _ rfl
  go_enter Try.func57, Try.ntmps57
  go_wp2_with (first | ((with_reducible refine (cplain_any k _).mono ?_); rintro e v1 ⟨rfl, hb⟩; have HS : Hid (InSt w (v1.alloc (.cells #[.int .i64 k, .int .i64 0, .int .i64 (-1), .int .i64 0, .int .i64 0, .int .i64 0, .string (sb []), .int .i64 0, .int .i64 0, .int .i64 0, .int .i64 0, .int .i64 0, .int .i64 0, .int .i64 0, .int .i64 (-1)] 46)) z (w.heap.size + 1) w.heap.size v1.heap.size cb co ⟨k, op, dst, a, b, n, text, x0, x1, x2, x3, x4, x5, dest, els⟩ ⟨k, 0, -1, 0, 0, 0, [], 0, 0, 0, 0, 0, 0, 0, -1⟩ r R) := Lib.hid (inSt_first hz hi hcb hne hb); unfold inV; dsimp only [plainI]; clear hb i0; obtain ⟨i0, i1, i2, i3, i4, i5, i6, i7, i8, i9, i10, i11, i12, i13, i14⟩ := HS.out.cells; obtain ⟨n0, n1, fz⟩ := HS.out.side; obtain ⟨p0, p1, p2, p3, p4, p5, p6, p7, p8, p9, p10, p11, p12, p13, p14⟩ := nv15 HS.out.h6; obtain ⟨d0, d1, d2, d3, d4, d5⟩ := HS.out.apart) | ((with_reducible refine (csets_v k false s0 _).mono ?_); rintro e u ⟨rfl, rfl⟩) | ((with_reducible refine (creadsA_v k false s1 _).mono ?_); rintro e u ⟨rfl, rfl⟩) | ((with_reducible refine (creadsB_v k false s2 _).mono ?_); rintro e u ⟨rfl, rfl⟩))
  refine region_last (fun W => ∃ R, InSt w W z (w.heap.size + 1) w.heap.size v1.heap.size cb co ⟨k, op, dst, a, b, n, text, x0, x1, x2, x3, x4, x5, dest, els⟩ (⟨k, 0, -1, 0, 0, 0, [], 0, 0, 0, 0, 0, 0, 0, -1⟩ : Ins) r R) 1000000 hmix ?_
  have HD := Lib.hid HS.out.drew
  have hS : (fun W => ∃ R, InSt w W z (w.heap.size + 1) w.heap.size v1.heap.size cb co ⟨k, op, dst, a, b, n, text, x0, x1, x2, x3, x4, x5, dest, els⟩ (⟨k, 0, -1, 0, 0, 0, [], 0, 0, 0, 0, 0, 0, 0, -1⟩ : Ins) r R) _ := ⟨_, HD.out⟩
  refine tkA (i := 0) hS ?_
  simp only [Act.put, zA, zB, zC, zD, zE, zF]
  refine tkA (i := 1) hS ?_
  simp only [Act.put, zA, zB, zC, zD, zE, zF]
  refine tkA (i := 2) hS ?_
  simp only [Act.put, zA, zB, zC, zD, zE, zF]
  refine tkA (i := 3) hS ?_
  simp only [Act.put, zA, zB, zC, zD, zE, zF]
  refine tkA (i := 4) hS ?_
  simp only [Act.put, zA, zB, zC, zD, zE, zF]
  refine anyL_one (i := 5) (by kernel_rfl) rfl (fun K1 hK1 => ?_)
  go_simp
  refine (within_v k 1 13 false s3 _).mono ?_
  rintro e u ⟨rfl, rfl⟩
  refine hK1.out _ _ (fun _ => hS) ?_
  clear hK1 K1
  refine tkA (i := 6) hS ?_
  simp only [Act.put, zA, zB, zC, zD, zE, zF]
  refine tkD (i := 7) hS ?_
  simp only [Act.put, zA, zB, zC, zD, zE, zF]
  refine tkD (i := 8) hS ?_
  simp only [Act.put, zA, zB, zC, zD, zE, zF]
  refine tkD (i := 9) hS ?_
  simp only [Act.put, zA, zB, zC, zD, zE, zF]
  refine tkD (i := 10) hS ?_
  simp only [Act.put, zA, zB, zC, zD, zE, zF]
  refine tkD (i := 11) hS ?_
  simp only [Act.put, zA, zB, zC, zD, zE, zF]
  refine tkA (i := 12) hS ?_
  simp only [Act.put, zA, zB, zC, zD, zE, zF]
  refine anyL_one (i := 13) (by kernel_rfl) rfl (fun K1 hK1 => ?_)
  go_simp
  refine (need1_any z _ _ _ HD.out.told).mono ?_
  rintro e v2 ⟨rfl, hd⟩
  have HS := Lib.hid (HD.out.need hd); clear hd
  refine hK1.out _ _ (fun _ => ⟨_, HS.out⟩) ?_
  clear hK1 K1 hS
  refine anyL_done (by kernel_rfl) ?_ _
  go_wp2
  go_end0
  exact ⟨rfl, HNO.out ▸ HS.out.nd⟩
end Go.Proofs.Ytgnpbodhjmappaa
namespace Go.Proofs.Ytgnpbodhjmappaa
set_option maxRecDepth 100000
open Go.RowKit Cd
open List renaming getElem_toArray → zA, getElem_cons_succ → zB, getElem_cons_zero → zC, setIfInBounds_toArray → zD, set_cons_succ → zE, set_cons_zero → zF
theorem told_1 (op dst a b n : Int) (text : List UInt8) (x0 x1 x2 x3 x4 x5 dest els : Int) (r : FnR) (R : Bool) : (((R && regOk r.f.regs dst) && isW n) && decide ((⟨1, op, dst, a, b, n, text, x0, x1, x2, x3, x4, x5, dest, els⟩ : Ins) = (⟨1, 0, dst, 0, 0, n, [], 0, 0, 0, 0, 0, 0, 0, -1⟩ : Ins))) = (R && rightI ⟨1, op, dst, a, b, n, text, x0, x1, x2, x3, x4, x5, dest, els⟩ r.f.regs r.f.frame r.f.code.length) := by
  have hp : plainOf (⟨1, op, dst, a, b, n, text, x0, x1, x2, x3, x4, x5, dest, els⟩ : Ins) = (⟨1, 0, dst, 0, 0, n, [], 0, 0, 0, 0, 0, 0, 0, -1⟩ : Ins) := by first | rfl | simp [plainOf, readsA, readsB, ifI]
  unfold rightI
  rw [hp, Bool.eq_iff_iff]
  generalize decide ((⟨1, op, dst, a, b, n, text, x0, x1, x2, x3, x4, x5, dest, els⟩ : Ins) = (⟨1, 0, dst, 0, 0, n, [], 0, 0, 0, 0, 0, 0, 0, -1⟩ : Ins)) = q
  simp only [uses, readsA, readsB, dstOk, nOk, opOk, toOk, oneB, twoB, inB]
  simp
  try grind
set_option maxHeartbeats 8000000 in
set_option maxRecDepth 100000 in
theorem instr_1 (op dst a b n : Int) (text : List UInt8) (x0 x1 x2 x3 x4 x5 dest els : Int) (r : FnR) (hr0 : 0 ≤ r.f.regs) (hr1 : r.f.regs ≤ 4096) (hlen : r.f.code.length ≤ 1000000) (z cb co : Nat) (R : Bool) (w : World) (hz : w.heap[z]? = some (bxB R)) (hi : ∀ (j : Nat) (u : Value), (inCells ⟨1, op, dst, a, b, n, text, x0, x1, x2, x3, x4, x5, dest, els⟩)[j]? = some u → w.cell? ⟨cb, co + j, none⟩ = some u) (hcb : cb < w.heap.size) (hne : z ≠ cb) :
    Calls Try.prog 57 #[fnV r, .pointer (some ⟨cb, co, none⟩), needV z] w (InPost z (R && rightI ⟨1, op, dst, a, b, n, text, x0, x1, x2, x3, x4, x5, dest, els⟩ r.f.regs r.f.frame r.f.code.length) w) := by
  have hmix : Try.prog.follows .mixedOrders = true := by kernel_rfl
  have i0 : w.cell? ⟨cb, co, none⟩ = some (.int .i64 1) := hi 0 _ rfl
  go_enter Try.func57, Try.ntmps57
  go_wp2_with (first | ((with_reducible refine (cplain_any 1 _).mono ?_); rintro e v1 ⟨rfl, hb⟩; have HS : Hid (InSt w (v1.alloc (.cells #[.int .i64 1, .int .i64 0, .int .i64 (-1), .int .i64 0, .int .i64 0, .int .i64 0, .string (sb []), .int .i64 0, .int .i64 0, .int .i64 0, .int .i64 0, .int .i64 0, .int .i64 0, .int .i64 0, .int .i64 (-1)] 46)) z (w.heap.size + 1) w.heap.size v1.heap.size cb co ⟨1, op, dst, a, b, n, text, x0, x1, x2, x3, x4, x5, dest, els⟩ ⟨1, 0, -1, 0, 0, 0, [], 0, 0, 0, 0, 0, 0, 0, -1⟩ r R) := Lib.hid (inSt_first hz hi hcb hne hb); unfold inV; dsimp only [plainI]; clear hb i0; obtain ⟨i0, i1, i2, i3, i4, i5, i6, i7, i8, i9, i10, i11, i12, i13, i14⟩ := HS.out.cells; obtain ⟨n0, n1, fz⟩ := HS.out.side; obtain ⟨p0, p1, p2, p3, p4, p5, p6, p7, p8, p9, p10, p11, p12, p13, p14⟩ := nv15 HS.out.h6; obtain ⟨d0, d1, d2, d3, d4, d5⟩ := HS.out.apart) | ((with_reducible refine (csets_v 1 true (by decide) _).mono ?_); rintro e u ⟨rfl, rfl⟩) | ((with_reducible refine (creadsA_v 1 false (by decide) _).mono ?_); rintro e u ⟨rfl, rfl⟩) | ((with_reducible refine (creadsB_v 1 false (by decide) _).mono ?_); rintro e u ⟨rfl, rfl⟩) | ((with_reducible refine (register_any dst (w.heap.size + 1) z w.heap.size _ r ⟨hr0, hr1⟩ _ HS.out.told HS.out.hn HS.out.hf).mono ?_); rintro e v2 ⟨rfl, hd⟩; have HS := Lib.hid (HS.out.need hd); clear hd; clear i0 i1 i2 i3 i4 i5 i6 i7 i8 i9 i10 i11 i12 i13 i14 n0 n1 fz p0 p1 p2 p3 p4 p5 p6 p7 p8 p9 p10 p11 p12 p13 p14; obtain ⟨i0, i1, i2, i3, i4, i5, i6, i7, i8, i9, i10, i11, i12, i13, i14⟩ := HS.out.cells; obtain ⟨n0, n1, fz⟩ := HS.out.side; obtain ⟨p0, p1, p2, p3, p4, p5, p6, p7, p8, p9, p10, p11, p12, p13, p14⟩ := nv15 HS.out.h6; have HS := Lib.hid (HS.out.put (o' := ⟨1, 0, dst, 0, 0, 0, [], 0, 0, 0, 0, 0, 0, 0, -1⟩) 2 (.int .i64 dst) rfl)))
  have HS := Lib.hid (HS.out.put (o' := ⟨1, 0, dst, 0, 0, n, [], 0, 0, 0, 0, 0, 0, 0, -1⟩) 5 (.int .i64 n) rfl)
  refine region_last (fun W => ∃ R, InSt w W z (w.heap.size + 1) w.heap.size v1.heap.size cb co (⟨1, op, dst, a, b, n, text, x0, x1, x2, x3, x4, x5, dest, els⟩ : Ins) (⟨1, 0, dst, 0, 0, n, [], 0, 0, 0, 0, 0, 0, 0, -1⟩ : Ins) r R) 1000000 hmix ?_
  have HD := Lib.hid HS.out.drew
  have hS : (fun W => ∃ R, InSt w W z (w.heap.size + 1) w.heap.size v1.heap.size cb co (⟨1, op, dst, a, b, n, text, x0, x1, x2, x3, x4, x5, dest, els⟩ : Ins) (⟨1, 0, dst, 0, 0, n, [], 0, 0, 0, 0, 0, 0, 0, -1⟩ : Ins) r R) _ := ⟨_, HD.out⟩
  refine tkA (i := 0) hS ?_
  simp only [Act.put, zA, zB, zC, zD, zE, zF]
  refine tkA (i := 1) hS ?_
  simp only [Act.put, zA, zB, zC, zD, zE, zF]
  refine tkA (i := 2) hS ?_
  simp only [Act.put, zA, zB, zC, zD, zE, zF]
  refine tkA (i := 3) hS ?_
  simp only [Act.put, zA, zB, zC, zD, zE, zF]
  refine tkA (i := 4) hS ?_
  simp only [Act.put, zA, zB, zC, zD, zE, zF]
  refine anyL_one (i := 5) (by kernel_rfl) rfl (fun K1 hK1 => ?_)
  go_simp
  refine (wis_v n _ rfl _).mono ?_
  rintro e u ⟨rfl, rfl⟩
  refine hK1.out _ _ (fun _ => hS) ?_
  clear hK1 K1
  refine anyL_one (i := 6) (by kernel_rfl) rfl (fun K1 hK1 => ?_)
  go_simp
  refine (need1_any z _ _ _ HD.out.told).mono ?_
  rintro e v3 ⟨rfl, hd⟩
  have HS := Lib.hid (HD.out.need hd); clear hd; clear i0 i1 i2 i3 i4 i5 i6 i7 i8 i9 i10 i11 i12 i13 i14 n0 n1 fz p0 p1 p2 p3 p4 p5 p6 p7 p8 p9 p10 p11 p12 p13 p14; obtain ⟨i0, i1, i2, i3, i4, i5, i6, i7, i8, i9, i10, i11, i12, i13, i14⟩ := HS.out.cells; obtain ⟨n0, n1, fz⟩ := HS.out.side; obtain ⟨p0, p1, p2, p3, p4, p5, p6, p7, p8, p9, p10, p11, p12, p13, p14⟩ := nv15 HS.out.h6
  refine hK1.out _ _ (fun _ => ⟨_, HS.out⟩) ?_
  clear hK1 K1 hS
  refine anyL_done (by kernel_rfl) ?_ _
  go_wp2
  obtain ⟨q, hq⟩ : ∃ q, decide ((⟨1, op, dst, a, b, n, text, x0, x1, x2, x3, x4, x5, dest, els⟩ : Ins) = (⟨1, 0, dst, 0, 0, n, [], 0, 0, 0, 0, 0, 0, 0, -1⟩ : Ins)) = q := ⟨_, rfl⟩
  have heq : ∀ W, (binOp .eql 46 (inV ⟨1, op, dst, a, b, n, text, x0, x1, x2, x3, x4, x5, dest, els⟩) (inV ⟨1, 0, dst, 0, 0, n, [], 0, 0, 0, 0, 0, 0, 0, -1⟩)).run Try.prog W = .ok (.bool q) W := fun W => hq ▸ in_eql _ _ W
  dsimp only [inV] at heq
  have HQ := Lib.hid hq; clear hq
  refine region_last (fun W => ∃ R, InSt w W z (w.heap.size + 1) w.heap.size v1.heap.size cb co (⟨1, op, dst, a, b, n, text, x0, x1, x2, x3, x4, x5, dest, els⟩ : Ins) (⟨1, 0, dst, 0, 0, n, [], 0, 0, 0, 0, 0, 0, 0, -1⟩ : Ins) r R) 1000000 hmix ?_
  have HD := Lib.hid HS.out.drew
  have hS : (fun W => ∃ R, InSt w W z (w.heap.size + 1) w.heap.size v1.heap.size cb co (⟨1, op, dst, a, b, n, text, x0, x1, x2, x3, x4, x5, dest, els⟩ : Ins) (⟨1, 0, dst, 0, 0, n, [], 0, 0, 0, 0, 0, 0, 0, -1⟩ : Ins) r R) _ := ⟨_, HD.out⟩
  refine tkB (i := 0) hS ?_
  simp only [Act.put, zA, zB, zC, zD, zE, zF]
  refine tkB (i := 1) hS ?_
  simp only [Act.put, zA, zB, zC, zD, zE, zF]
  refine tkB (i := 2) hS ?_
  simp only [Act.put, zA, zB, zC, zD, zE, zF]
  refine tkB (i := 3) hS ?_
  simp only [Act.put, zA, zB, zC, zD, zE, zF]
  refine tkB (i := 4) hS ?_
  simp only [Act.put, zA, zB, zC, zD, zE, zF]
  refine anyL_one (i := 5) (by kernel_rfl) rfl (fun K1 hK1 => ?_)
  go_simp
  refine (within_v 1 1 13 true (by decide) _).mono ?_
  rintro e u ⟨rfl, rfl⟩
  refine hK1.out _ _ (fun _ => hS) ?_
  clear hK1 K1
  refine tkB (i := 6) hS ?_
  simp only [Act.put, zA, zB, zC, zD, zE, zF]
  refine tkB (i := 7) hS ?_
  simp only [Act.put, zA, zB, zC, zD, zE, zF]
  refine tkB (i := 8) hS ?_
  simp only [Act.put, zA, zB, zC, zD, zE, zF]
  refine tkB (i := 9) hS ?_
  simp only [Act.put, zA, zB, zC, zD, zE, zF]
  refine tkB (i := 10) hS ?_
  simp only [Act.put, zA, zB, zC, zD, zE, zF]
  refine tkB (i := 11) hS ?_
  simp only [Act.put, zA, zB, zC, zD, zE, zF]
  refine tkB (i := 12) hS ?_
  simp only [Act.put, zA, zB, zC, zD, zE, zF]
  refine anyL_one (i := 13) (by kernel_rfl) rfl (fun K1 hK1 => ?_)
  go_simp
  refine (need1_any z _ _ _ HD.out.told).mono ?_
  rintro e v4 ⟨rfl, hd⟩
  have HS := Lib.hid (HD.out.need hd); clear hd; clear i0 i1 i2 i3 i4 i5 i6 i7 i8 i9 i10 i11 i12 i13 i14 n0 n1 fz p0 p1 p2 p3 p4 p5 p6 p7 p8 p9 p10 p11 p12 p13 p14; obtain ⟨i0, i1, i2, i3, i4, i5, i6, i7, i8, i9, i10, i11, i12, i13, i14⟩ := HS.out.cells; obtain ⟨n0, n1, fz⟩ := HS.out.side; obtain ⟨p0, p1, p2, p3, p4, p5, p6, p7, p8, p9, p10, p11, p12, p13, p14⟩ := nv15 HS.out.h6
  refine hK1.out _ _ (fun _ => ⟨_, HS.out⟩) ?_
  clear hK1 K1 hS
  refine anyL_done (by kernel_rfl) ?_ _
  go_wp2
  go_end0
  exact ⟨rfl, told_1 op dst a b n text x0 x1 x2 x3 x4 x5 dest els r R ▸ HQ.out ▸ HS.out.nd⟩
end Go.Proofs.Ytgnpbodhjmappaa
namespace Go.Proofs.Ytgnpbodhjmappaa
set_option maxRecDepth 100000
open Go.RowKit Cd
open List renaming getElem_toArray → zA, getElem_cons_succ → zB, getElem_cons_zero → zC, setIfInBounds_toArray → zD, set_cons_succ → zE, set_cons_zero → zF
theorem told_2 (op dst a b n : Int) (text : List UInt8) (x0 x1 x2 x3 x4 x5 dest els : Int) (r : FnR) (R : Bool) : ((((R && regOk r.f.regs dst) && regOk r.f.regs a) && oneB op) && decide ((⟨2, op, dst, a, b, n, text, x0, x1, x2, x3, x4, x5, dest, els⟩ : Ins) = (⟨2, op, dst, a, 0, 0, [], 0, 0, 0, 0, 0, 0, 0, -1⟩ : Ins))) = (R && rightI ⟨2, op, dst, a, b, n, text, x0, x1, x2, x3, x4, x5, dest, els⟩ r.f.regs r.f.frame r.f.code.length) := by
  have hp : plainOf (⟨2, op, dst, a, b, n, text, x0, x1, x2, x3, x4, x5, dest, els⟩ : Ins) = (⟨2, op, dst, a, 0, 0, [], 0, 0, 0, 0, 0, 0, 0, -1⟩ : Ins) := by first | rfl | simp [plainOf, readsA, readsB, ifI]
  unfold rightI
  rw [hp, Bool.eq_iff_iff]
  generalize decide ((⟨2, op, dst, a, b, n, text, x0, x1, x2, x3, x4, x5, dest, els⟩ : Ins) = (⟨2, op, dst, a, 0, 0, [], 0, 0, 0, 0, 0, 0, 0, -1⟩ : Ins)) = q
  simp only [uses, readsA, readsB, dstOk, nOk, opOk, toOk, oneB, twoB, inB]
  simp
  try grind
set_option maxHeartbeats 8000000 in
set_option maxRecDepth 100000 in
theorem instr_2 (op dst a b n : Int) (text : List UInt8) (x0 x1 x2 x3 x4 x5 dest els : Int) (r : FnR) (hr0 : 0 ≤ r.f.regs) (hr1 : r.f.regs ≤ 4096) (hlen : r.f.code.length ≤ 1000000) (z cb co : Nat) (R : Bool) (w : World) (hz : w.heap[z]? = some (bxB R)) (hi : ∀ (j : Nat) (u : Value), (inCells ⟨2, op, dst, a, b, n, text, x0, x1, x2, x3, x4, x5, dest, els⟩)[j]? = some u → w.cell? ⟨cb, co + j, none⟩ = some u) (hcb : cb < w.heap.size) (hne : z ≠ cb) :
    Calls Try.prog 57 #[fnV r, .pointer (some ⟨cb, co, none⟩), needV z] w (InPost z (R && rightI ⟨2, op, dst, a, b, n, text, x0, x1, x2, x3, x4, x5, dest, els⟩ r.f.regs r.f.frame r.f.code.length) w) := by
  have hmix : Try.prog.follows .mixedOrders = true := by kernel_rfl
  have i0 : w.cell? ⟨cb, co, none⟩ = some (.int .i64 2) := hi 0 _ rfl
  go_enter Try.func57, Try.ntmps57
  go_wp2_with (first | ((with_reducible refine (cplain_any 2 _).mono ?_); rintro e v1 ⟨rfl, hb⟩; have HS : Hid (InSt w (v1.alloc (.cells #[.int .i64 2, .int .i64 0, .int .i64 (-1), .int .i64 0, .int .i64 0, .int .i64 0, .string (sb []), .int .i64 0, .int .i64 0, .int .i64 0, .int .i64 0, .int .i64 0, .int .i64 0, .int .i64 0, .int .i64 (-1)] 46)) z (w.heap.size + 1) w.heap.size v1.heap.size cb co ⟨2, op, dst, a, b, n, text, x0, x1, x2, x3, x4, x5, dest, els⟩ ⟨2, 0, -1, 0, 0, 0, [], 0, 0, 0, 0, 0, 0, 0, -1⟩ r R) := Lib.hid (inSt_first hz hi hcb hne hb); unfold inV; dsimp only [plainI]; clear hb i0; obtain ⟨i0, i1, i2, i3, i4, i5, i6, i7, i8, i9, i10, i11, i12, i13, i14⟩ := HS.out.cells; obtain ⟨n0, n1, fz⟩ := HS.out.side; obtain ⟨p0, p1, p2, p3, p4, p5, p6, p7, p8, p9, p10, p11, p12, p13, p14⟩ := nv15 HS.out.h6; obtain ⟨d0, d1, d2, d3, d4, d5⟩ := HS.out.apart) | ((with_reducible refine (csets_v 2 true (by decide) _).mono ?_); rintro e u ⟨rfl, rfl⟩) | ((with_reducible refine (creadsA_v 2 true (by decide) _).mono ?_); rintro e u ⟨rfl, rfl⟩) | ((with_reducible refine (creadsB_v 2 false (by decide) _).mono ?_); rintro e u ⟨rfl, rfl⟩) | ((with_reducible refine (register_any dst (w.heap.size + 1) z w.heap.size _ r ⟨hr0, hr1⟩ _ HS.out.told HS.out.hn HS.out.hf).mono ?_); rintro e v2 ⟨rfl, hd⟩; have HS := Lib.hid (HS.out.need hd); clear hd; clear i0 i1 i2 i3 i4 i5 i6 i7 i8 i9 i10 i11 i12 i13 i14 n0 n1 fz p0 p1 p2 p3 p4 p5 p6 p7 p8 p9 p10 p11 p12 p13 p14; obtain ⟨i0, i1, i2, i3, i4, i5, i6, i7, i8, i9, i10, i11, i12, i13, i14⟩ := HS.out.cells; obtain ⟨n0, n1, fz⟩ := HS.out.side; obtain ⟨p0, p1, p2, p3, p4, p5, p6, p7, p8, p9, p10, p11, p12, p13, p14⟩ := nv15 HS.out.h6; have HS := Lib.hid (HS.out.put (o' := ⟨2, 0, dst, 0, 0, 0, [], 0, 0, 0, 0, 0, 0, 0, -1⟩) 2 (.int .i64 dst) rfl)) | ((with_reducible refine (register_any a (w.heap.size + 1) z w.heap.size _ r ⟨hr0, hr1⟩ _ HS.out.told HS.out.hn HS.out.hf).mono ?_); rintro e v3 ⟨rfl, hd⟩; have HS := Lib.hid (HS.out.need hd); clear hd; clear i0 i1 i2 i3 i4 i5 i6 i7 i8 i9 i10 i11 i12 i13 i14 n0 n1 fz p0 p1 p2 p3 p4 p5 p6 p7 p8 p9 p10 p11 p12 p13 p14; obtain ⟨i0, i1, i2, i3, i4, i5, i6, i7, i8, i9, i10, i11, i12, i13, i14⟩ := HS.out.cells; obtain ⟨n0, n1, fz⟩ := HS.out.side; obtain ⟨p0, p1, p2, p3, p4, p5, p6, p7, p8, p9, p10, p11, p12, p13, p14⟩ := nv15 HS.out.h6; have HS := Lib.hid (HS.out.put (o' := ⟨2, 0, dst, a, 0, 0, [], 0, 0, 0, 0, 0, 0, 0, -1⟩) 3 (.int .i64 a) rfl)))
  have HS := Lib.hid (HS.out.put (o' := ⟨2, op, dst, a, 0, 0, [], 0, 0, 0, 0, 0, 0, 0, -1⟩) 1 (.int .i64 op) rfl)
  refine region_last (fun W => ∃ R, InSt w W z (w.heap.size + 1) w.heap.size v1.heap.size cb co (⟨2, op, dst, a, b, n, text, x0, x1, x2, x3, x4, x5, dest, els⟩ : Ins) (⟨2, op, dst, a, 0, 0, [], 0, 0, 0, 0, 0, 0, 0, -1⟩ : Ins) r R) 1000000 hmix ?_
  have HD := Lib.hid HS.out.drew
  have hS : (fun W => ∃ R, InSt w W z (w.heap.size + 1) w.heap.size v1.heap.size cb co (⟨2, op, dst, a, b, n, text, x0, x1, x2, x3, x4, x5, dest, els⟩ : Ins) (⟨2, op, dst, a, 0, 0, [], 0, 0, 0, 0, 0, 0, 0, -1⟩ : Ins) r R) _ := ⟨_, HD.out⟩
  refine tkA (i := 0) hS ?_
  simp only [Act.put, zA, zB, zC, zD, zE, zF]
  refine tkA (i := 1) hS ?_
  simp only [Act.put, zA, zB, zC, zD, zE, zF]
  refine tkA (i := 2) hS ?_
  simp only [Act.put, zA, zB, zC, zD, zE, zF]
  refine tkA (i := 3) hS ?_
  simp only [Act.put, zA, zB, zC, zD, zE, zF]
  refine tkA (i := 4) hS ?_
  simp only [Act.put, zA, zB, zC, zD, zE, zF]
  refine anyL_one (i := 5) (by kernel_rfl) rfl (fun K1 hK1 => ?_)
  go_simp
  refine (wone_v op _ rfl _).mono ?_
  rintro e u ⟨rfl, rfl⟩
  refine hK1.out _ _ (fun _ => hS) ?_
  clear hK1 K1
  refine anyL_one (i := 6) (by kernel_rfl) rfl (fun K1 hK1 => ?_)
  go_simp
  refine (need1_any z _ _ _ HD.out.told).mono ?_
  rintro e v4 ⟨rfl, hd⟩
  have HS := Lib.hid (HD.out.need hd); clear hd; clear i0 i1 i2 i3 i4 i5 i6 i7 i8 i9 i10 i11 i12 i13 i14 n0 n1 fz p0 p1 p2 p3 p4 p5 p6 p7 p8 p9 p10 p11 p12 p13 p14; obtain ⟨i0, i1, i2, i3, i4, i5, i6, i7, i8, i9, i10, i11, i12, i13, i14⟩ := HS.out.cells; obtain ⟨n0, n1, fz⟩ := HS.out.side; obtain ⟨p0, p1, p2, p3, p4, p5, p6, p7, p8, p9, p10, p11, p12, p13, p14⟩ := nv15 HS.out.h6
  refine hK1.out _ _ (fun _ => ⟨_, HS.out⟩) ?_
  clear hK1 K1 hS
  refine anyL_done (by kernel_rfl) ?_ _
  go_wp2
  obtain ⟨q, hq⟩ : ∃ q, decide ((⟨2, op, dst, a, b, n, text, x0, x1, x2, x3, x4, x5, dest, els⟩ : Ins) = (⟨2, op, dst, a, 0, 0, [], 0, 0, 0, 0, 0, 0, 0, -1⟩ : Ins)) = q := ⟨_, rfl⟩
  have heq : ∀ W, (binOp .eql 46 (inV ⟨2, op, dst, a, b, n, text, x0, x1, x2, x3, x4, x5, dest, els⟩) (inV ⟨2, op, dst, a, 0, 0, [], 0, 0, 0, 0, 0, 0, 0, -1⟩)).run Try.prog W = .ok (.bool q) W := fun W => hq ▸ in_eql _ _ W
  dsimp only [inV] at heq
  have HQ := Lib.hid hq; clear hq
  refine region_last (fun W => ∃ R, InSt w W z (w.heap.size + 1) w.heap.size v1.heap.size cb co (⟨2, op, dst, a, b, n, text, x0, x1, x2, x3, x4, x5, dest, els⟩ : Ins) (⟨2, op, dst, a, 0, 0, [], 0, 0, 0, 0, 0, 0, 0, -1⟩ : Ins) r R) 1000000 hmix ?_
  have HD := Lib.hid HS.out.drew
  have hS : (fun W => ∃ R, InSt w W z (w.heap.size + 1) w.heap.size v1.heap.size cb co (⟨2, op, dst, a, b, n, text, x0, x1, x2, x3, x4, x5, dest, els⟩ : Ins) (⟨2, op, dst, a, 0, 0, [], 0, 0, 0, 0, 0, 0, 0, -1⟩ : Ins) r R) _ := ⟨_, HD.out⟩
  refine tkB (i := 0) hS ?_
  simp only [Act.put, zA, zB, zC, zD, zE, zF]
  refine tkB (i := 1) hS ?_
  simp only [Act.put, zA, zB, zC, zD, zE, zF]
  refine tkB (i := 2) hS ?_
  simp only [Act.put, zA, zB, zC, zD, zE, zF]
  refine tkB (i := 3) hS ?_
  simp only [Act.put, zA, zB, zC, zD, zE, zF]
  refine tkB (i := 4) hS ?_
  simp only [Act.put, zA, zB, zC, zD, zE, zF]
  refine anyL_one (i := 5) (by kernel_rfl) rfl (fun K1 hK1 => ?_)
  go_simp
  refine (within_v 2 1 13 true (by decide) _).mono ?_
  rintro e u ⟨rfl, rfl⟩
  refine hK1.out _ _ (fun _ => hS) ?_
  clear hK1 K1
  refine tkB (i := 6) hS ?_
  simp only [Act.put, zA, zB, zC, zD, zE, zF]
  refine tkB (i := 7) hS ?_
  simp only [Act.put, zA, zB, zC, zD, zE, zF]
  refine tkB (i := 8) hS ?_
  simp only [Act.put, zA, zB, zC, zD, zE, zF]
  refine tkB (i := 9) hS ?_
  simp only [Act.put, zA, zB, zC, zD, zE, zF]
  refine tkB (i := 10) hS ?_
  simp only [Act.put, zA, zB, zC, zD, zE, zF]
  refine tkB (i := 11) hS ?_
  simp only [Act.put, zA, zB, zC, zD, zE, zF]
  refine tkB (i := 12) hS ?_
  simp only [Act.put, zA, zB, zC, zD, zE, zF]
  refine anyL_one (i := 13) (by kernel_rfl) rfl (fun K1 hK1 => ?_)
  go_simp
  refine (need1_any z _ _ _ HD.out.told).mono ?_
  rintro e v5 ⟨rfl, hd⟩
  have HS := Lib.hid (HD.out.need hd); clear hd; clear i0 i1 i2 i3 i4 i5 i6 i7 i8 i9 i10 i11 i12 i13 i14 n0 n1 fz p0 p1 p2 p3 p4 p5 p6 p7 p8 p9 p10 p11 p12 p13 p14; obtain ⟨i0, i1, i2, i3, i4, i5, i6, i7, i8, i9, i10, i11, i12, i13, i14⟩ := HS.out.cells; obtain ⟨n0, n1, fz⟩ := HS.out.side; obtain ⟨p0, p1, p2, p3, p4, p5, p6, p7, p8, p9, p10, p11, p12, p13, p14⟩ := nv15 HS.out.h6
  refine hK1.out _ _ (fun _ => ⟨_, HS.out⟩) ?_
  clear hK1 K1 hS
  refine anyL_done (by kernel_rfl) ?_ _
  go_wp2
  go_end0
  exact ⟨rfl, told_2 op dst a b n text x0 x1 x2 x3 x4 x5 dest els r R ▸ HQ.out ▸ HS.out.nd⟩
end Go.Proofs.Ytgnpbodhjmappaa
namespace Go.Proofs.Ytgnpbodhjmappaa
set_option maxRecDepth 100000
open Go.RowKit Cd
open List renaming getElem_toArray → zA, getElem_cons_succ → zB, getElem_cons_zero → zC, setIfInBounds_toArray → zD, set_cons_succ → zE, set_cons_zero → zF
theorem told_3 (op dst a b n : Int) (text : List UInt8) (x0 x1 x2 x3 x4 x5 dest els : Int) (r : FnR) (R : Bool) : (((((R && regOk r.f.regs dst) && regOk r.f.regs a) && regOk r.f.regs b) && twoB op) && decide ((⟨3, op, dst, a, b, n, text, x0, x1, x2, x3, x4, x5, dest, els⟩ : Ins) = (⟨3, op, dst, a, b, 0, [], 0, 0, 0, 0, 0, 0, 0, -1⟩ : Ins))) = (R && rightI ⟨3, op, dst, a, b, n, text, x0, x1, x2, x3, x4, x5, dest, els⟩ r.f.regs r.f.frame r.f.code.length) := by
  have hp : plainOf (⟨3, op, dst, a, b, n, text, x0, x1, x2, x3, x4, x5, dest, els⟩ : Ins) = (⟨3, op, dst, a, b, 0, [], 0, 0, 0, 0, 0, 0, 0, -1⟩ : Ins) := by first | rfl | simp [plainOf, readsA, readsB, ifI]
  unfold rightI
  rw [hp, Bool.eq_iff_iff]
  generalize decide ((⟨3, op, dst, a, b, n, text, x0, x1, x2, x3, x4, x5, dest, els⟩ : Ins) = (⟨3, op, dst, a, b, 0, [], 0, 0, 0, 0, 0, 0, 0, -1⟩ : Ins)) = q
  simp only [uses, readsA, readsB, dstOk, nOk, opOk, toOk, oneB, twoB, inB]
  simp
  try grind
set_option maxHeartbeats 8000000 in
set_option maxRecDepth 100000 in
theorem instr_3 (op dst a b n : Int) (text : List UInt8) (x0 x1 x2 x3 x4 x5 dest els : Int) (r : FnR) (hr0 : 0 ≤ r.f.regs) (hr1 : r.f.regs ≤ 4096) (hlen : r.f.code.length ≤ 1000000) (z cb co : Nat) (R : Bool) (w : World) (hz : w.heap[z]? = some (bxB R)) (hi : ∀ (j : Nat) (u : Value), (inCells ⟨3, op, dst, a, b, n, text, x0, x1, x2, x3, x4, x5, dest, els⟩)[j]? = some u → w.cell? ⟨cb, co + j, none⟩ = some u) (hcb : cb < w.heap.size) (hne : z ≠ cb) :
    Calls Try.prog 57 #[fnV r, .pointer (some ⟨cb, co, none⟩), needV z] w (InPost z (R && rightI ⟨3, op, dst, a, b, n, text, x0, x1, x2, x3, x4, x5, dest, els⟩ r.f.regs r.f.frame r.f.code.length) w) := by
  have hmix : Try.prog.follows .mixedOrders = true := by kernel_rfl
  have i0 : w.cell? ⟨cb, co, none⟩ = some (.int .i64 3) := hi 0 _ rfl
  go_enter Try.func57, Try.ntmps57
  go_wp2_with (first | ((with_reducible refine (cplain_any 3 _).mono ?_); rintro e v1 ⟨rfl, hb⟩; have HS : Hid (InSt w (v1.alloc (.cells #[.int .i64 3, .int .i64 0, .int .i64 (-1), .int .i64 0, .int .i64 0, .int .i64 0, .string (sb []), .int .i64 0, .int .i64 0, .int .i64 0, .int .i64 0, .int .i64 0, .int .i64 0, .int .i64 0, .int .i64 (-1)] 46)) z (w.heap.size + 1) w.heap.size v1.heap.size cb co ⟨3, op, dst, a, b, n, text, x0, x1, x2, x3, x4, x5, dest, els⟩ ⟨3, 0, -1, 0, 0, 0, [], 0, 0, 0, 0, 0, 0, 0, -1⟩ r R) := Lib.hid (inSt_first hz hi hcb hne hb); unfold inV; dsimp only [plainI]; clear hb i0; obtain ⟨i0, i1, i2, i3, i4, i5, i6, i7, i8, i9, i10, i11, i12, i13, i14⟩ := HS.out.cells; obtain ⟨n0, n1, fz⟩ := HS.out.side; obtain ⟨p0, p1, p2, p3, p4, p5, p6, p7, p8, p9, p10, p11, p12, p13, p14⟩ := nv15 HS.out.h6; obtain ⟨d0, d1, d2, d3, d4, d5⟩ := HS.out.apart) | ((with_reducible refine (csets_v 3 true (by decide) _).mono ?_); rintro e u ⟨rfl, rfl⟩) | ((with_reducible refine (creadsA_v 3 true (by decide) _).mono ?_); rintro e u ⟨rfl, rfl⟩) | ((with_reducible refine (creadsB_v 3 true (by decide) _).mono ?_); rintro e u ⟨rfl, rfl⟩) | ((with_reducible refine (register_any dst (w.heap.size + 1) z w.heap.size _ r ⟨hr0, hr1⟩ _ HS.out.told HS.out.hn HS.out.hf).mono ?_); rintro e v2 ⟨rfl, hd⟩; have HS := Lib.hid (HS.out.need hd); clear hd; clear i0 i1 i2 i3 i4 i5 i6 i7 i8 i9 i10 i11 i12 i13 i14 n0 n1 fz p0 p1 p2 p3 p4 p5 p6 p7 p8 p9 p10 p11 p12 p13 p14; obtain ⟨i0, i1, i2, i3, i4, i5, i6, i7, i8, i9, i10, i11, i12, i13, i14⟩ := HS.out.cells; obtain ⟨n0, n1, fz⟩ := HS.out.side; obtain ⟨p0, p1, p2, p3, p4, p5, p6, p7, p8, p9, p10, p11, p12, p13, p14⟩ := nv15 HS.out.h6; have HS := Lib.hid (HS.out.put (o' := ⟨3, 0, dst, 0, 0, 0, [], 0, 0, 0, 0, 0, 0, 0, -1⟩) 2 (.int .i64 dst) rfl)) | ((with_reducible refine (register_any a (w.heap.size + 1) z w.heap.size _ r ⟨hr0, hr1⟩ _ HS.out.told HS.out.hn HS.out.hf).mono ?_); rintro e v3 ⟨rfl, hd⟩; have HS := Lib.hid (HS.out.need hd); clear hd; clear i0 i1 i2 i3 i4 i5 i6 i7 i8 i9 i10 i11 i12 i13 i14 n0 n1 fz p0 p1 p2 p3 p4 p5 p6 p7 p8 p9 p10 p11 p12 p13 p14; obtain ⟨i0, i1, i2, i3, i4, i5, i6, i7, i8, i9, i10, i11, i12, i13, i14⟩ := HS.out.cells; obtain ⟨n0, n1, fz⟩ := HS.out.side; obtain ⟨p0, p1, p2, p3, p4, p5, p6, p7, p8, p9, p10, p11, p12, p13, p14⟩ := nv15 HS.out.h6; have HS := Lib.hid (HS.out.put (o' := ⟨3, 0, dst, a, 0, 0, [], 0, 0, 0, 0, 0, 0, 0, -1⟩) 3 (.int .i64 a) rfl)) | ((with_reducible refine (register_any b (w.heap.size + 1) z w.heap.size _ r ⟨hr0, hr1⟩ _ HS.out.told HS.out.hn HS.out.hf).mono ?_); rintro e v4 ⟨rfl, hd⟩; have HS := Lib.hid (HS.out.need hd); clear hd; clear i0 i1 i2 i3 i4 i5 i6 i7 i8 i9 i10 i11 i12 i13 i14 n0 n1 fz p0 p1 p2 p3 p4 p5 p6 p7 p8 p9 p10 p11 p12 p13 p14; obtain ⟨i0, i1, i2, i3, i4, i5, i6, i7, i8, i9, i10, i11, i12, i13, i14⟩ := HS.out.cells; obtain ⟨n0, n1, fz⟩ := HS.out.side; obtain ⟨p0, p1, p2, p3, p4, p5, p6, p7, p8, p9, p10, p11, p12, p13, p14⟩ := nv15 HS.out.h6; have HS := Lib.hid (HS.out.put (o' := ⟨3, 0, dst, a, b, 0, [], 0, 0, 0, 0, 0, 0, 0, -1⟩) 4 (.int .i64 b) rfl)))
  have HS := Lib.hid (HS.out.put (o' := ⟨3, op, dst, a, b, 0, [], 0, 0, 0, 0, 0, 0, 0, -1⟩) 1 (.int .i64 op) rfl)
  refine region_last (fun W => ∃ R, InSt w W z (w.heap.size + 1) w.heap.size v1.heap.size cb co (⟨3, op, dst, a, b, n, text, x0, x1, x2, x3, x4, x5, dest, els⟩ : Ins) (⟨3, op, dst, a, b, 0, [], 0, 0, 0, 0, 0, 0, 0, -1⟩ : Ins) r R) 1000000 hmix ?_
  have HD := Lib.hid HS.out.drew
  have hS : (fun W => ∃ R, InSt w W z (w.heap.size + 1) w.heap.size v1.heap.size cb co (⟨3, op, dst, a, b, n, text, x0, x1, x2, x3, x4, x5, dest, els⟩ : Ins) (⟨3, op, dst, a, b, 0, [], 0, 0, 0, 0, 0, 0, 0, -1⟩ : Ins) r R) _ := ⟨_, HD.out⟩
  refine tkA (i := 0) hS ?_
  simp only [Act.put, zA, zB, zC, zD, zE, zF]
  refine tkA (i := 1) hS ?_
  simp only [Act.put, zA, zB, zC, zD, zE, zF]
  refine tkA (i := 2) hS ?_
  simp only [Act.put, zA, zB, zC, zD, zE, zF]
  refine tkA (i := 3) hS ?_
  simp only [Act.put, zA, zB, zC, zD, zE, zF]
  refine tkA (i := 4) hS ?_
  simp only [Act.put, zA, zB, zC, zD, zE, zF]
  refine anyL_one (i := 5) (by kernel_rfl) rfl (fun K1 hK1 => ?_)
  go_simp
  refine (wtwo_v op _ rfl _).mono ?_
  rintro e u ⟨rfl, rfl⟩
  refine hK1.out _ _ (fun _ => hS) ?_
  clear hK1 K1
  refine anyL_one (i := 6) (by kernel_rfl) rfl (fun K1 hK1 => ?_)
  go_simp
  refine (need1_any z _ _ _ HD.out.told).mono ?_
  rintro e v5 ⟨rfl, hd⟩
  have HS := Lib.hid (HD.out.need hd); clear hd; clear i0 i1 i2 i3 i4 i5 i6 i7 i8 i9 i10 i11 i12 i13 i14 n0 n1 fz p0 p1 p2 p3 p4 p5 p6 p7 p8 p9 p10 p11 p12 p13 p14; obtain ⟨i0, i1, i2, i3, i4, i5, i6, i7, i8, i9, i10, i11, i12, i13, i14⟩ := HS.out.cells; obtain ⟨n0, n1, fz⟩ := HS.out.side; obtain ⟨p0, p1, p2, p3, p4, p5, p6, p7, p8, p9, p10, p11, p12, p13, p14⟩ := nv15 HS.out.h6
  refine hK1.out _ _ (fun _ => ⟨_, HS.out⟩) ?_
  clear hK1 K1 hS
  refine anyL_done (by kernel_rfl) ?_ _
  go_wp2
  obtain ⟨q, hq⟩ : ∃ q, decide ((⟨3, op, dst, a, b, n, text, x0, x1, x2, x3, x4, x5, dest, els⟩ : Ins) = (⟨3, op, dst, a, b, 0, [], 0, 0, 0, 0, 0, 0, 0, -1⟩ : Ins)) = q := ⟨_, rfl⟩
  have heq : ∀ W, (binOp .eql 46 (inV ⟨3, op, dst, a, b, n, text, x0, x1, x2, x3, x4, x5, dest, els⟩) (inV ⟨3, op, dst, a, b, 0, [], 0, 0, 0, 0, 0, 0, 0, -1⟩)).run Try.prog W = .ok (.bool q) W := fun W => hq ▸ in_eql _ _ W
  dsimp only [inV] at heq
  have HQ := Lib.hid hq; clear hq
  refine region_last (fun W => ∃ R, InSt w W z (w.heap.size + 1) w.heap.size v1.heap.size cb co (⟨3, op, dst, a, b, n, text, x0, x1, x2, x3, x4, x5, dest, els⟩ : Ins) (⟨3, op, dst, a, b, 0, [], 0, 0, 0, 0, 0, 0, 0, -1⟩ : Ins) r R) 1000000 hmix ?_
  have HD := Lib.hid HS.out.drew
  have hS : (fun W => ∃ R, InSt w W z (w.heap.size + 1) w.heap.size v1.heap.size cb co (⟨3, op, dst, a, b, n, text, x0, x1, x2, x3, x4, x5, dest, els⟩ : Ins) (⟨3, op, dst, a, b, 0, [], 0, 0, 0, 0, 0, 0, 0, -1⟩ : Ins) r R) _ := ⟨_, HD.out⟩
  refine tkB (i := 0) hS ?_
  simp only [Act.put, zA, zB, zC, zD, zE, zF]
  refine tkB (i := 1) hS ?_
  simp only [Act.put, zA, zB, zC, zD, zE, zF]
  refine tkB (i := 2) hS ?_
  simp only [Act.put, zA, zB, zC, zD, zE, zF]
  refine tkB (i := 3) hS ?_
  simp only [Act.put, zA, zB, zC, zD, zE, zF]
  refine tkB (i := 4) hS ?_
  simp only [Act.put, zA, zB, zC, zD, zE, zF]
  refine anyL_one (i := 5) (by kernel_rfl) rfl (fun K1 hK1 => ?_)
  go_simp
  refine (within_v 3 1 13 true (by decide) _).mono ?_
  rintro e u ⟨rfl, rfl⟩
  refine hK1.out _ _ (fun _ => hS) ?_
  clear hK1 K1
  refine tkB (i := 6) hS ?_
  simp only [Act.put, zA, zB, zC, zD, zE, zF]
  refine tkB (i := 7) hS ?_
  simp only [Act.put, zA, zB, zC, zD, zE, zF]
  refine tkB (i := 8) hS ?_
  simp only [Act.put, zA, zB, zC, zD, zE, zF]
  refine tkB (i := 9) hS ?_
  simp only [Act.put, zA, zB, zC, zD, zE, zF]
  refine tkB (i := 10) hS ?_
  simp only [Act.put, zA, zB, zC, zD, zE, zF]
  refine tkB (i := 11) hS ?_
  simp only [Act.put, zA, zB, zC, zD, zE, zF]
  refine tkB (i := 12) hS ?_
  simp only [Act.put, zA, zB, zC, zD, zE, zF]
  refine anyL_one (i := 13) (by kernel_rfl) rfl (fun K1 hK1 => ?_)
  go_simp
  refine (need1_any z _ _ _ HD.out.told).mono ?_
  rintro e v6 ⟨rfl, hd⟩
  have HS := Lib.hid (HD.out.need hd); clear hd; clear i0 i1 i2 i3 i4 i5 i6 i7 i8 i9 i10 i11 i12 i13 i14 n0 n1 fz p0 p1 p2 p3 p4 p5 p6 p7 p8 p9 p10 p11 p12 p13 p14; obtain ⟨i0, i1, i2, i3, i4, i5, i6, i7, i8, i9, i10, i11, i12, i13, i14⟩ := HS.out.cells; obtain ⟨n0, n1, fz⟩ := HS.out.side; obtain ⟨p0, p1, p2, p3, p4, p5, p6, p7, p8, p9, p10, p11, p12, p13, p14⟩ := nv15 HS.out.h6
  refine hK1.out _ _ (fun _ => ⟨_, HS.out⟩) ?_
  clear hK1 K1 hS
  refine anyL_done (by kernel_rfl) ?_ _
  go_wp2
  go_end0
  exact ⟨rfl, told_3 op dst a b n text x0 x1 x2 x3 x4 x5 dest els r R ▸ HQ.out ▸ HS.out.nd⟩
end Go.Proofs.Ytgnpbodhjmappaa
namespace Go.Proofs.Ytgnpbodhjmappaa
set_option maxRecDepth 100000
open Go.RowKit Cd
open List renaming getElem_toArray → zA, getElem_cons_succ → zB, getElem_cons_zero → zC, setIfInBounds_toArray → zD, set_cons_succ → zE, set_cons_zero → zF
theorem told_4 (op dst a b n : Int) (text : List UInt8) (x0 x1 x2 x3 x4 x5 dest els : Int) (r : FnR) (R : Bool) : (((R && regOk r.f.regs dst) && regOk r.f.regs a) && decide ((⟨4, op, dst, a, b, n, text, x0, x1, x2, x3, x4, x5, dest, els⟩ : Ins) = (⟨4, 0, dst, a, 0, 0, [], 0, 0, 0, 0, 0, 0, 0, -1⟩ : Ins))) = (R && rightI ⟨4, op, dst, a, b, n, text, x0, x1, x2, x3, x4, x5, dest, els⟩ r.f.regs r.f.frame r.f.code.length) := by
  have hp : plainOf (⟨4, op, dst, a, b, n, text, x0, x1, x2, x3, x4, x5, dest, els⟩ : Ins) = (⟨4, 0, dst, a, 0, 0, [], 0, 0, 0, 0, 0, 0, 0, -1⟩ : Ins) := by first | rfl | simp [plainOf, readsA, readsB, ifI]
  unfold rightI
  rw [hp, Bool.eq_iff_iff]
  generalize decide ((⟨4, op, dst, a, b, n, text, x0, x1, x2, x3, x4, x5, dest, els⟩ : Ins) = (⟨4, 0, dst, a, 0, 0, [], 0, 0, 0, 0, 0, 0, 0, -1⟩ : Ins)) = q
  simp only [uses, readsA, readsB, dstOk, nOk, opOk, toOk, oneB, twoB, inB]
  simp
  try grind
set_option maxHeartbeats 8000000 in
set_option maxRecDepth 100000 in
theorem instr_4 (op dst a b n : Int) (text : List UInt8) (x0 x1 x2 x3 x4 x5 dest els : Int) (r : FnR) (hr0 : 0 ≤ r.f.regs) (hr1 : r.f.regs ≤ 4096) (hlen : r.f.code.length ≤ 1000000) (z cb co : Nat) (R : Bool) (w : World) (hz : w.heap[z]? = some (bxB R)) (hi : ∀ (j : Nat) (u : Value), (inCells ⟨4, op, dst, a, b, n, text, x0, x1, x2, x3, x4, x5, dest, els⟩)[j]? = some u → w.cell? ⟨cb, co + j, none⟩ = some u) (hcb : cb < w.heap.size) (hne : z ≠ cb) :
    Calls Try.prog 57 #[fnV r, .pointer (some ⟨cb, co, none⟩), needV z] w (InPost z (R && rightI ⟨4, op, dst, a, b, n, text, x0, x1, x2, x3, x4, x5, dest, els⟩ r.f.regs r.f.frame r.f.code.length) w) := by
  have hmix : Try.prog.follows .mixedOrders = true := by kernel_rfl
  have i0 : w.cell? ⟨cb, co, none⟩ = some (.int .i64 4) := hi 0 _ rfl
  go_enter Try.func57, Try.ntmps57
  go_wp2_with (first | ((with_reducible refine (cplain_any 4 _).mono ?_); rintro e v1 ⟨rfl, hb⟩; have HS : Hid (InSt w (v1.alloc (.cells #[.int .i64 4, .int .i64 0, .int .i64 (-1), .int .i64 0, .int .i64 0, .int .i64 0, .string (sb []), .int .i64 0, .int .i64 0, .int .i64 0, .int .i64 0, .int .i64 0, .int .i64 0, .int .i64 0, .int .i64 (-1)] 46)) z (w.heap.size + 1) w.heap.size v1.heap.size cb co ⟨4, op, dst, a, b, n, text, x0, x1, x2, x3, x4, x5, dest, els⟩ ⟨4, 0, -1, 0, 0, 0, [], 0, 0, 0, 0, 0, 0, 0, -1⟩ r R) := Lib.hid (inSt_first hz hi hcb hne hb); unfold inV; dsimp only [plainI]; clear hb i0; obtain ⟨i0, i1, i2, i3, i4, i5, i6, i7, i8, i9, i10, i11, i12, i13, i14⟩ := HS.out.cells; obtain ⟨n0, n1, fz⟩ := HS.out.side; obtain ⟨p0, p1, p2, p3, p4, p5, p6, p7, p8, p9, p10, p11, p12, p13, p14⟩ := nv15 HS.out.h6; obtain ⟨d0, d1, d2, d3, d4, d5⟩ := HS.out.apart) | ((with_reducible refine (csets_v 4 true (by decide) _).mono ?_); rintro e u ⟨rfl, rfl⟩) | ((with_reducible refine (creadsA_v 4 true (by decide) _).mono ?_); rintro e u ⟨rfl, rfl⟩) | ((with_reducible refine (creadsB_v 4 false (by decide) _).mono ?_); rintro e u ⟨rfl, rfl⟩) | ((with_reducible refine (register_any dst (w.heap.size + 1) z w.heap.size _ r ⟨hr0, hr1⟩ _ HS.out.told HS.out.hn HS.out.hf).mono ?_); rintro e v2 ⟨rfl, hd⟩; have HS := Lib.hid (HS.out.need hd); clear hd; clear i0 i1 i2 i3 i4 i5 i6 i7 i8 i9 i10 i11 i12 i13 i14 n0 n1 fz p0 p1 p2 p3 p4 p5 p6 p7 p8 p9 p10 p11 p12 p13 p14; obtain ⟨i0, i1, i2, i3, i4, i5, i6, i7, i8, i9, i10, i11, i12, i13, i14⟩ := HS.out.cells; obtain ⟨n0, n1, fz⟩ := HS.out.side; obtain ⟨p0, p1, p2, p3, p4, p5, p6, p7, p8, p9, p10, p11, p12, p13, p14⟩ := nv15 HS.out.h6; have HS := Lib.hid (HS.out.put (o' := ⟨4, 0, dst, 0, 0, 0, [], 0, 0, 0, 0, 0, 0, 0, -1⟩) 2 (.int .i64 dst) rfl)) | ((with_reducible refine (register_any a (w.heap.size + 1) z w.heap.size _ r ⟨hr0, hr1⟩ _ HS.out.told HS.out.hn HS.out.hf).mono ?_); rintro e v3 ⟨rfl, hd⟩; have HS := Lib.hid (HS.out.need hd); clear hd; clear i0 i1 i2 i3 i4 i5 i6 i7 i8 i9 i10 i11 i12 i13 i14 n0 n1 fz p0 p1 p2 p3 p4 p5 p6 p7 p8 p9 p10 p11 p12 p13 p14; obtain ⟨i0, i1, i2, i3, i4, i5, i6, i7, i8, i9, i10, i11, i12, i13, i14⟩ := HS.out.cells; obtain ⟨n0, n1, fz⟩ := HS.out.side; obtain ⟨p0, p1, p2, p3, p4, p5, p6, p7, p8, p9, p10, p11, p12, p13, p14⟩ := nv15 HS.out.h6; have HS := Lib.hid (HS.out.put (o' := ⟨4, 0, dst, a, 0, 0, [], 0, 0, 0, 0, 0, 0, 0, -1⟩) 3 (.int .i64 a) rfl)))
  obtain ⟨q, hq⟩ : ∃ q, decide ((⟨4, op, dst, a, b, n, text, x0, x1, x2, x3, x4, x5, dest, els⟩ : Ins) = (⟨4, 0, dst, a, 0, 0, [], 0, 0, 0, 0, 0, 0, 0, -1⟩ : Ins)) = q := ⟨_, rfl⟩
  have heq : ∀ W, (binOp .eql 46 (inV ⟨4, op, dst, a, b, n, text, x0, x1, x2, x3, x4, x5, dest, els⟩) (inV ⟨4, 0, dst, a, 0, 0, [], 0, 0, 0, 0, 0, 0, 0, -1⟩)).run Try.prog W = .ok (.bool q) W := fun W => hq ▸ in_eql _ _ W
  dsimp only [inV] at heq
  have HQ := Lib.hid hq; clear hq
  refine region_last (fun W => ∃ R, InSt w W z (w.heap.size + 1) w.heap.size v1.heap.size cb co (⟨4, op, dst, a, b, n, text, x0, x1, x2, x3, x4, x5, dest, els⟩ : Ins) (⟨4, 0, dst, a, 0, 0, [], 0, 0, 0, 0, 0, 0, 0, -1⟩ : Ins) r R) 1000000 hmix ?_
  have HD := Lib.hid HS.out.drew
  have hS : (fun W => ∃ R, InSt w W z (w.heap.size + 1) w.heap.size v1.heap.size cb co (⟨4, op, dst, a, b, n, text, x0, x1, x2, x3, x4, x5, dest, els⟩ : Ins) (⟨4, 0, dst, a, 0, 0, [], 0, 0, 0, 0, 0, 0, 0, -1⟩ : Ins) r R) _ := ⟨_, HD.out⟩
  refine tkB (i := 0) hS ?_
  simp only [Act.put, zA, zB, zC, zD, zE, zF]
  refine tkB (i := 1) hS ?_
  simp only [Act.put, zA, zB, zC, zD, zE, zF]
  refine tkB (i := 2) hS ?_
  simp only [Act.put, zA, zB, zC, zD, zE, zF]
  refine tkB (i := 3) hS ?_
  simp only [Act.put, zA, zB, zC, zD, zE, zF]
  refine tkB (i := 4) hS ?_
  simp only [Act.put, zA, zB, zC, zD, zE, zF]
  refine anyL_one (i := 5) (by kernel_rfl) rfl (fun K1 hK1 => ?_)
  go_simp
  refine (within_v 4 1 13 true (by decide) _).mono ?_
  rintro e u ⟨rfl, rfl⟩
  refine hK1.out _ _ (fun _ => hS) ?_
  clear hK1 K1
  refine tkB (i := 6) hS ?_
  simp only [Act.put, zA, zB, zC, zD, zE, zF]
  refine tkB (i := 7) hS ?_
  simp only [Act.put, zA, zB, zC, zD, zE, zF]
  refine tkB (i := 8) hS ?_
  simp only [Act.put, zA, zB, zC, zD, zE, zF]
  refine tkB (i := 9) hS ?_
  simp only [Act.put, zA, zB, zC, zD, zE, zF]
  refine tkB (i := 10) hS ?_
  simp only [Act.put, zA, zB, zC, zD, zE, zF]
  refine tkB (i := 11) hS ?_
  simp only [Act.put, zA, zB, zC, zD, zE, zF]
  refine tkB (i := 12) hS ?_
  simp only [Act.put, zA, zB, zC, zD, zE, zF]
  refine anyL_one (i := 13) (by kernel_rfl) rfl (fun K1 hK1 => ?_)
  go_simp
  refine (need1_any z _ _ _ HD.out.told).mono ?_
  rintro e v4 ⟨rfl, hd⟩
  have HS := Lib.hid (HD.out.need hd); clear hd; clear i0 i1 i2 i3 i4 i5 i6 i7 i8 i9 i10 i11 i12 i13 i14 n0 n1 fz p0 p1 p2 p3 p4 p5 p6 p7 p8 p9 p10 p11 p12 p13 p14; obtain ⟨i0, i1, i2, i3, i4, i5, i6, i7, i8, i9, i10, i11, i12, i13, i14⟩ := HS.out.cells; obtain ⟨n0, n1, fz⟩ := HS.out.side; obtain ⟨p0, p1, p2, p3, p4, p5, p6, p7, p8, p9, p10, p11, p12, p13, p14⟩ := nv15 HS.out.h6
  refine hK1.out _ _ (fun _ => ⟨_, HS.out⟩) ?_
  clear hK1 K1 hS
  refine anyL_done (by kernel_rfl) ?_ _
  go_wp2
  go_end0
  exact ⟨rfl, told_4 op dst a b n text x0 x1 x2 x3 x4 x5 dest els r R ▸ HQ.out ▸ HS.out.nd⟩
end Go.Proofs.Ytgnpbodhjmappaa
namespace Go.Proofs.Ytgnpbodhjmappaa
set_option maxRecDepth 100000
open Go.RowKit Cd
open List renaming getElem_toArray → zA, getElem_cons_succ → zB, getElem_cons_zero → zC, setIfInBounds_toArray → zD, set_cons_succ → zE, set_cons_zero → zF
theorem told_5 (op dst a b n : Int) (text : List UInt8) (x0 x1 x2 x3 x4 x5 dest els : Int) (r : FnR) (R : Bool) : (((R && regOk r.f.regs dst) && inB n 0 r.f.frame) && decide ((⟨5, op, dst, a, b, n, text, x0, x1, x2, x3, x4, x5, dest, els⟩ : Ins) = (⟨5, 0, dst, 0, 0, n, [], 0, 0, 0, 0, 0, 0, 0, -1⟩ : Ins))) = (R && rightI ⟨5, op, dst, a, b, n, text, x0, x1, x2, x3, x4, x5, dest, els⟩ r.f.regs r.f.frame r.f.code.length) := by
  have hp : plainOf (⟨5, op, dst, a, b, n, text, x0, x1, x2, x3, x4, x5, dest, els⟩ : Ins) = (⟨5, 0, dst, 0, 0, n, [], 0, 0, 0, 0, 0, 0, 0, -1⟩ : Ins) := by first | rfl | simp [plainOf, readsA, readsB, ifI]
  unfold rightI
  rw [hp, Bool.eq_iff_iff]
  generalize decide ((⟨5, op, dst, a, b, n, text, x0, x1, x2, x3, x4, x5, dest, els⟩ : Ins) = (⟨5, 0, dst, 0, 0, n, [], 0, 0, 0, 0, 0, 0, 0, -1⟩ : Ins)) = q
  simp only [uses, readsA, readsB, dstOk, nOk, opOk, toOk, oneB, twoB, inB]
  simp
  try grind
set_option maxHeartbeats 8000000 in
set_option maxRecDepth 100000 in
theorem instr_5 (op dst a b n : Int) (text : List UInt8) (x0 x1 x2 x3 x4 x5 dest els : Int) (r : FnR) (hr0 : 0 ≤ r.f.regs) (hr1 : r.f.regs ≤ 4096) (hlen : r.f.code.length ≤ 1000000) (z cb co : Nat) (R : Bool) (w : World) (hz : w.heap[z]? = some (bxB R)) (hi : ∀ (j : Nat) (u : Value), (inCells ⟨5, op, dst, a, b, n, text, x0, x1, x2, x3, x4, x5, dest, els⟩)[j]? = some u → w.cell? ⟨cb, co + j, none⟩ = some u) (hcb : cb < w.heap.size) (hne : z ≠ cb) :
    Calls Try.prog 57 #[fnV r, .pointer (some ⟨cb, co, none⟩), needV z] w (InPost z (R && rightI ⟨5, op, dst, a, b, n, text, x0, x1, x2, x3, x4, x5, dest, els⟩ r.f.regs r.f.frame r.f.code.length) w) := by
  have hmix : Try.prog.follows .mixedOrders = true := by kernel_rfl
  have i0 : w.cell? ⟨cb, co, none⟩ = some (.int .i64 5) := hi 0 _ rfl
  go_enter Try.func57, Try.ntmps57
  go_wp2_with (first | ((with_reducible refine (cplain_any 5 _).mono ?_); rintro e v1 ⟨rfl, hb⟩; have HS : Hid (InSt w (v1.alloc (.cells #[.int .i64 5, .int .i64 0, .int .i64 (-1), .int .i64 0, .int .i64 0, .int .i64 0, .string (sb []), .int .i64 0, .int .i64 0, .int .i64 0, .int .i64 0, .int .i64 0, .int .i64 0, .int .i64 0, .int .i64 (-1)] 46)) z (w.heap.size + 1) w.heap.size v1.heap.size cb co ⟨5, op, dst, a, b, n, text, x0, x1, x2, x3, x4, x5, dest, els⟩ ⟨5, 0, -1, 0, 0, 0, [], 0, 0, 0, 0, 0, 0, 0, -1⟩ r R) := Lib.hid (inSt_first hz hi hcb hne hb); unfold inV; dsimp only [plainI]; clear hb i0; obtain ⟨i0, i1, i2, i3, i4, i5, i6, i7, i8, i9, i10, i11, i12, i13, i14⟩ := HS.out.cells; obtain ⟨n0, n1, fz⟩ := HS.out.side; obtain ⟨p0, p1, p2, p3, p4, p5, p6, p7, p8, p9, p10, p11, p12, p13, p14⟩ := nv15 HS.out.h6; obtain ⟨d0, d1, d2, d3, d4, d5⟩ := HS.out.apart) | ((with_reducible refine (csets_v 5 true (by decide) _).mono ?_); rintro e u ⟨rfl, rfl⟩) | ((with_reducible refine (creadsA_v 5 false (by decide) _).mono ?_); rintro e u ⟨rfl, rfl⟩) | ((with_reducible refine (creadsB_v 5 false (by decide) _).mono ?_); rintro e u ⟨rfl, rfl⟩) | ((with_reducible refine (register_any dst (w.heap.size + 1) z w.heap.size _ r ⟨hr0, hr1⟩ _ HS.out.told HS.out.hn HS.out.hf).mono ?_); rintro e v2 ⟨rfl, hd⟩; have HS := Lib.hid (HS.out.need hd); clear hd; clear i0 i1 i2 i3 i4 i5 i6 i7 i8 i9 i10 i11 i12 i13 i14 n0 n1 fz p0 p1 p2 p3 p4 p5 p6 p7 p8 p9 p10 p11 p12 p13 p14; obtain ⟨i0, i1, i2, i3, i4, i5, i6, i7, i8, i9, i10, i11, i12, i13, i14⟩ := HS.out.cells; obtain ⟨n0, n1, fz⟩ := HS.out.side; obtain ⟨p0, p1, p2, p3, p4, p5, p6, p7, p8, p9, p10, p11, p12, p13, p14⟩ := nv15 HS.out.h6; have HS := Lib.hid (HS.out.put (o' := ⟨5, 0, dst, 0, 0, 0, [], 0, 0, 0, 0, 0, 0, 0, -1⟩) 2 (.int .i64 dst) rfl)))
  have HS := Lib.hid (HS.out.put (o' := ⟨5, 0, dst, 0, 0, n, [], 0, 0, 0, 0, 0, 0, 0, -1⟩) 5 (.int .i64 n) rfl)
  refine region_last (fun W => ∃ R, InSt w W z (w.heap.size + 1) w.heap.size v1.heap.size cb co (⟨5, op, dst, a, b, n, text, x0, x1, x2, x3, x4, x5, dest, els⟩ : Ins) (⟨5, 0, dst, 0, 0, n, [], 0, 0, 0, 0, 0, 0, 0, -1⟩ : Ins) r R) 1000000 hmix ?_
  have HD := Lib.hid HS.out.drew
  have hS : (fun W => ∃ R, InSt w W z (w.heap.size + 1) w.heap.size v1.heap.size cb co (⟨5, op, dst, a, b, n, text, x0, x1, x2, x3, x4, x5, dest, els⟩ : Ins) (⟨5, 0, dst, 0, 0, n, [], 0, 0, 0, 0, 0, 0, 0, -1⟩ : Ins) r R) _ := ⟨_, HD.out⟩
  refine tkA (i := 0) hS ?_
  simp only [Act.put, zA, zB, zC, zD, zE, zF]
  refine tkA (i := 1) hS ?_
  simp only [Act.put, zA, zB, zC, zD, zE, zF]
  refine tkA (i := 2) hS ?_
  simp only [Act.put, zA, zB, zC, zD, zE, zF]
  refine tkA (i := 3) hS ?_
  simp only [Act.put, zA, zB, zC, zD, zE, zF]
  refine tkA (i := 4) hS ?_
  simp only [Act.put, zA, zB, zC, zD, zE, zF]
  refine tkA (i := 5) hS ?_
  simp only [Act.put, zA, zB, zC, zD, zE, zF]
  refine tkA (i := 6) hS ?_
  simp only [Act.put, zA, zB, zC, zD, zE, zF]
  refine anyL_one (i := 7) (by kernel_rfl) rfl (fun K1 hK1 => ?_)
  go_simp
  refine (within_any n 0 r.f.frame _).mono ?_
  rintro e u ⟨rfl, rfl⟩
  refine hK1.out _ _ (fun _ => hS) ?_
  clear hK1 K1
  refine anyL_one (i := 8) (by kernel_rfl) rfl (fun K1 hK1 => ?_)
  go_simp
  refine (need1_any z _ _ _ HD.out.told).mono ?_
  rintro e v3 ⟨rfl, hd⟩
  have HS := Lib.hid (HD.out.need hd); clear hd; clear i0 i1 i2 i3 i4 i5 i6 i7 i8 i9 i10 i11 i12 i13 i14 n0 n1 fz p0 p1 p2 p3 p4 p5 p6 p7 p8 p9 p10 p11 p12 p13 p14; obtain ⟨i0, i1, i2, i3, i4, i5, i6, i7, i8, i9, i10, i11, i12, i13, i14⟩ := HS.out.cells; obtain ⟨n0, n1, fz⟩ := HS.out.side; obtain ⟨p0, p1, p2, p3, p4, p5, p6, p7, p8, p9, p10, p11, p12, p13, p14⟩ := nv15 HS.out.h6
  refine hK1.out _ _ (fun _ => ⟨_, HS.out⟩) ?_
  clear hK1 K1 hS
  refine anyL_done (by kernel_rfl) ?_ _
  go_wp2
  obtain ⟨q, hq⟩ : ∃ q, decide ((⟨5, op, dst, a, b, n, text, x0, x1, x2, x3, x4, x5, dest, els⟩ : Ins) = (⟨5, 0, dst, 0, 0, n, [], 0, 0, 0, 0, 0, 0, 0, -1⟩ : Ins)) = q := ⟨_, rfl⟩
  have heq : ∀ W, (binOp .eql 46 (inV ⟨5, op, dst, a, b, n, text, x0, x1, x2, x3, x4, x5, dest, els⟩) (inV ⟨5, 0, dst, 0, 0, n, [], 0, 0, 0, 0, 0, 0, 0, -1⟩)).run Try.prog W = .ok (.bool q) W := fun W => hq ▸ in_eql _ _ W
  dsimp only [inV] at heq
  have HQ := Lib.hid hq; clear hq
  refine region_last (fun W => ∃ R, InSt w W z (w.heap.size + 1) w.heap.size v1.heap.size cb co (⟨5, op, dst, a, b, n, text, x0, x1, x2, x3, x4, x5, dest, els⟩ : Ins) (⟨5, 0, dst, 0, 0, n, [], 0, 0, 0, 0, 0, 0, 0, -1⟩ : Ins) r R) 1000000 hmix ?_
  have HD := Lib.hid HS.out.drew
  have hS : (fun W => ∃ R, InSt w W z (w.heap.size + 1) w.heap.size v1.heap.size cb co (⟨5, op, dst, a, b, n, text, x0, x1, x2, x3, x4, x5, dest, els⟩ : Ins) (⟨5, 0, dst, 0, 0, n, [], 0, 0, 0, 0, 0, 0, 0, -1⟩ : Ins) r R) _ := ⟨_, HD.out⟩
  refine tkB (i := 0) hS ?_
  simp only [Act.put, zA, zB, zC, zD, zE, zF]
  refine tkB (i := 1) hS ?_
  simp only [Act.put, zA, zB, zC, zD, zE, zF]
  refine tkB (i := 2) hS ?_
  simp only [Act.put, zA, zB, zC, zD, zE, zF]
  refine tkB (i := 3) hS ?_
  simp only [Act.put, zA, zB, zC, zD, zE, zF]
  refine tkB (i := 4) hS ?_
  simp only [Act.put, zA, zB, zC, zD, zE, zF]
  refine anyL_one (i := 5) (by kernel_rfl) rfl (fun K1 hK1 => ?_)
  go_simp
  refine (within_v 5 1 13 true (by decide) _).mono ?_
  rintro e u ⟨rfl, rfl⟩
  refine hK1.out _ _ (fun _ => hS) ?_
  clear hK1 K1
  refine tkB (i := 6) hS ?_
  simp only [Act.put, zA, zB, zC, zD, zE, zF]
  refine tkB (i := 7) hS ?_
  simp only [Act.put, zA, zB, zC, zD, zE, zF]
  refine tkB (i := 8) hS ?_
  simp only [Act.put, zA, zB, zC, zD, zE, zF]
  refine tkB (i := 9) hS ?_
  simp only [Act.put, zA, zB, zC, zD, zE, zF]
  refine tkB (i := 10) hS ?_
  simp only [Act.put, zA, zB, zC, zD, zE, zF]
  refine tkB (i := 11) hS ?_
  simp only [Act.put, zA, zB, zC, zD, zE, zF]
  refine tkB (i := 12) hS ?_
  simp only [Act.put, zA, zB, zC, zD, zE, zF]
  refine anyL_one (i := 13) (by kernel_rfl) rfl (fun K1 hK1 => ?_)
  go_simp
  refine (need1_any z _ _ _ HD.out.told).mono ?_
  rintro e v4 ⟨rfl, hd⟩
  have HS := Lib.hid (HD.out.need hd); clear hd; clear i0 i1 i2 i3 i4 i5 i6 i7 i8 i9 i10 i11 i12 i13 i14 n0 n1 fz p0 p1 p2 p3 p4 p5 p6 p7 p8 p9 p10 p11 p12 p13 p14; obtain ⟨i0, i1, i2, i3, i4, i5, i6, i7, i8, i9, i10, i11, i12, i13, i14⟩ := HS.out.cells; obtain ⟨n0, n1, fz⟩ := HS.out.side; obtain ⟨p0, p1, p2, p3, p4, p5, p6, p7, p8, p9, p10, p11, p12, p13, p14⟩ := nv15 HS.out.h6
  refine hK1.out _ _ (fun _ => ⟨_, HS.out⟩) ?_
  clear hK1 K1 hS
  refine anyL_done (by kernel_rfl) ?_ _
  go_wp2
  go_end0
  exact ⟨rfl, told_5 op dst a b n text x0 x1 x2 x3 x4 x5 dest els r R ▸ HQ.out ▸ HS.out.nd⟩
end Go.Proofs.Ytgnpbodhjmappaa
