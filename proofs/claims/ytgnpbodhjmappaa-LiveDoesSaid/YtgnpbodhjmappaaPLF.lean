/-
  Layer 7: what instruction needs of an instruction of kind 10.
-/
import Derived.Test.YtgnpbodhjmappaaPLQ
set_option linter.unusedVariables false
set_option linter.unusedSimpArgs false
namespace Go.Proofs.Ytgnpbodhjmappaa
set_option maxRecDepth 100000
open Go.RowKit Cd
open List renaming getElem_toArray → zA, getElem_cons_succ → zB, getElem_cons_zero → zC, setIfInBounds_toArray → zD, set_cons_succ → zE, set_cons_zero → zF
theorem told_10 (op dst a b n : Int) (text : List UInt8) (x0 x1 x2 x3 x4 x5 dest els : Int) (r : FnR) (R : Bool) : ((R && regOk r.f.regs a) && decide ((⟨10, op, dst, a, b, n, text, x0, x1, x2, x3, x4, x5, dest, els⟩ : Ins) = (⟨10, 0, -1, a, 0, 0, [], 0, 0, 0, 0, 0, 0, 0, -1⟩ : Ins))) = (R && rightI ⟨10, op, dst, a, b, n, text, x0, x1, x2, x3, x4, x5, dest, els⟩ r.f.regs r.f.frame r.f.code.length) := by
  have hp : plainOf (⟨10, op, dst, a, b, n, text, x0, x1, x2, x3, x4, x5, dest, els⟩ : Ins) = (⟨10, 0, -1, a, 0, 0, [], 0, 0, 0, 0, 0, 0, 0, -1⟩ : Ins) := by first | rfl | simp [plainOf, readsA, readsB, ifI]
  unfold rightI
  rw [hp, Bool.eq_iff_iff]
  generalize decide ((⟨10, op, dst, a, b, n, text, x0, x1, x2, x3, x4, x5, dest, els⟩ : Ins) = (⟨10, 0, -1, a, 0, 0, [], 0, 0, 0, 0, 0, 0, 0, -1⟩ : Ins)) = q
  simp only [uses, readsA, readsB, dstOk, nOk, opOk, toOk, oneB, twoB, inB]
  simp
  try grind
set_option maxHeartbeats 8000000 in
set_option maxRecDepth 100000 in
theorem instr_10 (op dst a b n : Int) (text : List UInt8) (x0 x1 x2 x3 x4 x5 dest els : Int) (r : FnR) (hr0 : 0 ≤ r.f.regs) (hr1 : r.f.regs ≤ 4096) (hlen : r.f.code.length ≤ 1000000) (z cb co : Nat) (R : Bool) (w : World) (hz : w.heap[z]? = some (bxB R)) (hi : ∀ (j : Nat) (u : Value), (inCells ⟨10, op, dst, a, b, n, text, x0, x1, x2, x3, x4, x5, dest, els⟩)[j]? = some u → w.cell? ⟨cb, co + j, none⟩ = some u) (hcb : cb < w.heap.size) (hne : z ≠ cb) :
    Calls Try.prog 57 #[fnV r, .pointer (some ⟨cb, co, none⟩), needV z] w (InPost z (R && rightI ⟨10, op, dst, a, b, n, text, x0, x1, x2, x3, x4, x5, dest, els⟩ r.f.regs r.f.frame r.f.code.length) w) := by
  have hmix : Try.prog.follows .mixedOrders = true := by kernel_rfl
  have i0 : w.cell? ⟨cb, co, none⟩ = some (.int .i64 10) := hi 0 _ rfl
  go_enter Try.func57, Try.ntmps57
  go_wp2_with (first | ((with_reducible refine (cplain_any 10 _).mono ?_); rintro e v1 ⟨rfl, hb⟩; have HS : Hid (InSt w (v1.alloc (.cells #[.int .i64 10, .int .i64 0, .int .i64 (-1), .int .i64 0, .int .i64 0, .int .i64 0, .string (sb []), .int .i64 0, .int .i64 0, .int .i64 0, .int .i64 0, .int .i64 0, .int .i64 0, .int .i64 0, .int .i64 (-1)] 46)) z (w.heap.size + 1) w.heap.size v1.heap.size cb co ⟨10, op, dst, a, b, n, text, x0, x1, x2, x3, x4, x5, dest, els⟩ ⟨10, 0, -1, 0, 0, 0, [], 0, 0, 0, 0, 0, 0, 0, -1⟩ r R) := Lib.hid (inSt_first hz hi hcb hne hb); unfold inV; dsimp only [plainI]; clear hb i0; obtain ⟨i0, i1, i2, i3, i4, i5, i6, i7, i8, i9, i10, i11, i12, i13, i14⟩ := HS.out.cells; obtain ⟨n0, n1, fz⟩ := HS.out.side; obtain ⟨p0, p1, p2, p3, p4, p5, p6, p7, p8, p9, p10, p11, p12, p13, p14⟩ := nv15 HS.out.h6; obtain ⟨d0, d1, d2, d3, d4, d5⟩ := HS.out.apart) | ((with_reducible refine (csets_v 10 false (by decide) _).mono ?_); rintro e u ⟨rfl, rfl⟩) | ((with_reducible refine (creadsA_v 10 true (by decide) _).mono ?_); rintro e u ⟨rfl, rfl⟩) | ((with_reducible refine (creadsB_v 10 false (by decide) _).mono ?_); rintro e u ⟨rfl, rfl⟩) | ((with_reducible refine (register_any a (w.heap.size + 1) z w.heap.size _ r ⟨hr0, hr1⟩ _ HS.out.told HS.out.hn HS.out.hf).mono ?_); rintro e v2 ⟨rfl, hd⟩; have HS := Lib.hid (HS.out.need hd); clear hd; clear i0 i1 i2 i3 i4 i5 i6 i7 i8 i9 i10 i11 i12 i13 i14 n0 n1 fz p0 p1 p2 p3 p4 p5 p6 p7 p8 p9 p10 p11 p12 p13 p14; obtain ⟨i0, i1, i2, i3, i4, i5, i6, i7, i8, i9, i10, i11, i12, i13, i14⟩ := HS.out.cells; obtain ⟨n0, n1, fz⟩ := HS.out.side; obtain ⟨p0, p1, p2, p3, p4, p5, p6, p7, p8, p9, p10, p11, p12, p13, p14⟩ := nv15 HS.out.h6; have HS := Lib.hid (HS.out.put (o' := ⟨10, 0, -1, a, 0, 0, [], 0, 0, 0, 0, 0, 0, 0, -1⟩) 3 (.int .i64 a) rfl)))
  obtain ⟨q, hq⟩ : ∃ q, decide ((⟨10, op, dst, a, b, n, text, x0, x1, x2, x3, x4, x5, dest, els⟩ : Ins) = (⟨10, 0, -1, a, 0, 0, [], 0, 0, 0, 0, 0, 0, 0, -1⟩ : Ins)) = q := ⟨_, rfl⟩
  have heq : ∀ W, (binOp .eql 46 (inV ⟨10, op, dst, a, b, n, text, x0, x1, x2, x3, x4, x5, dest, els⟩) (inV ⟨10, 0, -1, a, 0, 0, [], 0, 0, 0, 0, 0, 0, 0, -1⟩)).run Try.prog W = .ok (.bool q) W := fun W => hq ▸ in_eql _ _ W
  dsimp only [inV] at heq
  have HQ := Lib.hid hq; clear hq
  refine region_last (fun W => ∃ R, InSt w W z (w.heap.size + 1) w.heap.size v1.heap.size cb co (⟨10, op, dst, a, b, n, text, x0, x1, x2, x3, x4, x5, dest, els⟩ : Ins) (⟨10, 0, -1, a, 0, 0, [], 0, 0, 0, 0, 0, 0, 0, -1⟩ : Ins) r R) 1000000 hmix ?_
  have HD := Lib.hid HS.out.drew
  have hS : (fun W => ∃ R, InSt w W z (w.heap.size + 1) w.heap.size v1.heap.size cb co (⟨10, op, dst, a, b, n, text, x0, x1, x2, x3, x4, x5, dest, els⟩ : Ins) (⟨10, 0, -1, a, 0, 0, [], 0, 0, 0, 0, 0, 0, 0, -1⟩ : Ins) r R) _ := ⟨_, HD.out⟩
  refine tkB (i := 0) hS ?_
  simp only [Act.put, zA, zB, zC, zD, zE, zF]
  refine tkB (i := 1) hS ?_
  simp only [Act.put, zA, zB, zC, zD, zE, zF]
  refine tkB (i := 2) hS ?_
  simp only [Act.put, zA, zB, zC, zD, zE, zF]
  refine tkB (i := 3) hS ?_
  simp only [Act.put, zA, zB, zC, zD, zE, zF]
  refine tkB (i := 4) hS ?_
  simp only [Act.put, zA, zB, zC, zD, zE, zF]
  refine anyL_one (i := 5) (by kernel_rfl) rfl (fun K1 hK1 => ?_)
  go_simp
  refine (within_v 10 1 13 true (by decide) _).mono ?_
  rintro e u ⟨rfl, rfl⟩
  refine hK1.out _ _ (fun _ => hS) ?_
  clear hK1 K1
  refine tkB (i := 6) hS ?_
  simp only [Act.put, zA, zB, zC, zD, zE, zF]
  refine tkB (i := 7) hS ?_
  simp only [Act.put, zA, zB, zC, zD, zE, zF]
  refine tkB (i := 8) hS ?_
  simp only [Act.put, zA, zB, zC, zD, zE, zF]
  refine tkB (i := 9) hS ?_
  simp only [Act.put, zA, zB, zC, zD, zE, zF]
  refine tkB (i := 10) hS ?_
  simp only [Act.put, zA, zB, zC, zD, zE, zF]
  refine tkB (i := 11) hS ?_
  simp only [Act.put, zA, zB, zC, zD, zE, zF]
  refine tkB (i := 12) hS ?_
  simp only [Act.put, zA, zB, zC, zD, zE, zF]
  refine anyL_one (i := 13) (by kernel_rfl) rfl (fun K1 hK1 => ?_)
  go_simp
  refine (need1_any z _ _ _ HD.out.told).mono ?_
  rintro e v3 ⟨rfl, hd⟩
  have HS := Lib.hid (HD.out.need hd); clear hd; clear i0 i1 i2 i3 i4 i5 i6 i7 i8 i9 i10 i11 i12 i13 i14 n0 n1 fz p0 p1 p2 p3 p4 p5 p6 p7 p8 p9 p10 p11 p12 p13 p14; obtain ⟨i0, i1, i2, i3, i4, i5, i6, i7, i8, i9, i10, i11, i12, i13, i14⟩ := HS.out.cells; obtain ⟨n0, n1, fz⟩ := HS.out.side; obtain ⟨p0, p1, p2, p3, p4, p5, p6, p7, p8, p9, p10, p11, p12, p13, p14⟩ := nv15 HS.out.h6
  refine hK1.out _ _ (fun _ => ⟨_, HS.out⟩) ?_
  clear hK1 K1 hS
  refine anyL_done (by kernel_rfl) ?_ _
  go_wp2
  go_end0
  exact ⟨rfl, told_10 op dst a b n text x0 x1 x2 x3 x4 x5 dest els r R ▸ HQ.out ▸ HS.out.nd⟩
end Go.Proofs.Ytgnpbodhjmappaa
namespace Go.Proofs.Ytgnpbodhjmappaa
set_option maxRecDepth 100000
open Go.RowKit Cd
open List renaming getElem_toArray → zA, getElem_cons_succ → zB, getElem_cons_zero → zC, setIfInBounds_toArray → zD, set_cons_succ → zE, set_cons_zero → zF
theorem told_11 (op dst a b n : Int) (text : List UInt8) (x0 x1 x2 x3 x4 x5 dest els : Int) (r : FnR) (R : Bool) : ((R && regOk r.f.code.length dest) && decide ((⟨11, op, dst, a, b, n, text, x0, x1, x2, x3, x4, x5, dest, els⟩ : Ins) = (⟨11, 0, -1, 0, 0, 0, [], 0, 0, 0, 0, 0, 0, dest, -1⟩ : Ins))) = (R && rightI ⟨11, op, dst, a, b, n, text, x0, x1, x2, x3, x4, x5, dest, els⟩ r.f.regs r.f.frame r.f.code.length) := by
  have hp : plainOf (⟨11, op, dst, a, b, n, text, x0, x1, x2, x3, x4, x5, dest, els⟩ : Ins) = (⟨11, 0, -1, 0, 0, 0, [], 0, 0, 0, 0, 0, 0, dest, -1⟩ : Ins) := by first | rfl | simp [plainOf, readsA, readsB, ifI]
  unfold rightI
  rw [hp, Bool.eq_iff_iff]
  generalize decide ((⟨11, op, dst, a, b, n, text, x0, x1, x2, x3, x4, x5, dest, els⟩ : Ins) = (⟨11, 0, -1, 0, 0, 0, [], 0, 0, 0, 0, 0, 0, dest, -1⟩ : Ins)) = q
  simp only [uses, readsA, readsB, dstOk, nOk, opOk, toOk, oneB, twoB, inB]
  simp
  try grind
set_option maxHeartbeats 8000000 in
set_option maxRecDepth 100000 in
theorem instr_11 (op dst a b n : Int) (text : List UInt8) (x0 x1 x2 x3 x4 x5 dest els : Int) (r : FnR) (hr0 : 0 ≤ r.f.regs) (hr1 : r.f.regs ≤ 4096) (hlen : r.f.code.length ≤ 1000000) (z cb co : Nat) (R : Bool) (w : World) (hz : w.heap[z]? = some (bxB R)) (hi : ∀ (j : Nat) (u : Value), (inCells ⟨11, op, dst, a, b, n, text, x0, x1, x2, x3, x4, x5, dest, els⟩)[j]? = some u → w.cell? ⟨cb, co + j, none⟩ = some u) (hcb : cb < w.heap.size) (hne : z ≠ cb) :
    Calls Try.prog 57 #[fnV r, .pointer (some ⟨cb, co, none⟩), needV z] w (InPost z (R && rightI ⟨11, op, dst, a, b, n, text, x0, x1, x2, x3, x4, x5, dest, els⟩ r.f.regs r.f.frame r.f.code.length) w) := by
  have hmix : Try.prog.follows .mixedOrders = true := by kernel_rfl
  have i0 : w.cell? ⟨cb, co, none⟩ = some (.int .i64 11) := hi 0 _ rfl
  go_enter Try.func57, Try.ntmps57
  go_wp2_with (first | ((with_reducible refine (cplain_any 11 _).mono ?_); rintro e v1 ⟨rfl, hb⟩; have HS : Hid (InSt w (v1.alloc (.cells #[.int .i64 11, .int .i64 0, .int .i64 (-1), .int .i64 0, .int .i64 0, .int .i64 0, .string (sb []), .int .i64 0, .int .i64 0, .int .i64 0, .int .i64 0, .int .i64 0, .int .i64 0, .int .i64 0, .int .i64 (-1)] 46)) z (w.heap.size + 1) w.heap.size v1.heap.size cb co ⟨11, op, dst, a, b, n, text, x0, x1, x2, x3, x4, x5, dest, els⟩ ⟨11, 0, -1, 0, 0, 0, [], 0, 0, 0, 0, 0, 0, 0, -1⟩ r R) := Lib.hid (inSt_first hz hi hcb hne hb); unfold inV; dsimp only [plainI]; clear hb i0; obtain ⟨i0, i1, i2, i3, i4, i5, i6, i7, i8, i9, i10, i11, i12, i13, i14⟩ := HS.out.cells; obtain ⟨n0, n1, fz⟩ := HS.out.side; obtain ⟨p0, p1, p2, p3, p4, p5, p6, p7, p8, p9, p10, p11, p12, p13, p14⟩ := nv15 HS.out.h6; obtain ⟨d0, d1, d2, d3, d4, d5⟩ := HS.out.apart) | ((with_reducible refine (csets_v 11 false (by decide) _).mono ?_); rintro e u ⟨rfl, rfl⟩) | ((with_reducible refine (creadsA_v 11 false (by decide) _).mono ?_); rintro e u ⟨rfl, rfl⟩) | ((with_reducible refine (creadsB_v 11 false (by decide) _).mono ?_); rintro e u ⟨rfl, rfl⟩) | ((with_reducible refine (target_any dest (w.heap.size + 1) z w.heap.size _ r hlen _ HS.out.told HS.out.hn HS.out.hf).mono ?_); rintro e v2 ⟨rfl, hd⟩; have HS := Lib.hid (HS.out.need hd); clear hd; clear i0 i1 i2 i3 i4 i5 i6 i7 i8 i9 i10 i11 i12 i13 i14 n0 n1 fz p0 p1 p2 p3 p4 p5 p6 p7 p8 p9 p10 p11 p12 p13 p14; obtain ⟨i0, i1, i2, i3, i4, i5, i6, i7, i8, i9, i10, i11, i12, i13, i14⟩ := HS.out.cells; obtain ⟨n0, n1, fz⟩ := HS.out.side; obtain ⟨p0, p1, p2, p3, p4, p5, p6, p7, p8, p9, p10, p11, p12, p13, p14⟩ := nv15 HS.out.h6; have HS := Lib.hid (HS.out.put (o' := ⟨11, 0, -1, 0, 0, 0, [], 0, 0, 0, 0, 0, 0, dest, -1⟩) 13 (.int .i64 dest) rfl)))
  obtain ⟨q, hq⟩ : ∃ q, decide ((⟨11, op, dst, a, b, n, text, x0, x1, x2, x3, x4, x5, dest, els⟩ : Ins) = (⟨11, 0, -1, 0, 0, 0, [], 0, 0, 0, 0, 0, 0, dest, -1⟩ : Ins)) = q := ⟨_, rfl⟩
  have heq : ∀ W, (binOp .eql 46 (inV ⟨11, op, dst, a, b, n, text, x0, x1, x2, x3, x4, x5, dest, els⟩) (inV ⟨11, 0, -1, 0, 0, 0, [], 0, 0, 0, 0, 0, 0, dest, -1⟩)).run Try.prog W = .ok (.bool q) W := fun W => hq ▸ in_eql _ _ W
  dsimp only [inV] at heq
  have HQ := Lib.hid hq; clear hq
  refine region_last (fun W => ∃ R, InSt w W z (w.heap.size + 1) w.heap.size v1.heap.size cb co (⟨11, op, dst, a, b, n, text, x0, x1, x2, x3, x4, x5, dest, els⟩ : Ins) (⟨11, 0, -1, 0, 0, 0, [], 0, 0, 0, 0, 0, 0, dest, -1⟩ : Ins) r R) 1000000 hmix ?_
  have HD := Lib.hid HS.out.drew
  have hS : (fun W => ∃ R, InSt w W z (w.heap.size + 1) w.heap.size v1.heap.size cb co (⟨11, op, dst, a, b, n, text, x0, x1, x2, x3, x4, x5, dest, els⟩ : Ins) (⟨11, 0, -1, 0, 0, 0, [], 0, 0, 0, 0, 0, 0, dest, -1⟩ : Ins) r R) _ := ⟨_, HD.out⟩
  refine tkB (i := 0) hS ?_
  simp only [Act.put, zA, zB, zC, zD, zE, zF]
  refine tkB (i := 1) hS ?_
  simp only [Act.put, zA, zB, zC, zD, zE, zF]
  refine tkB (i := 2) hS ?_
  simp only [Act.put, zA, zB, zC, zD, zE, zF]
  refine tkB (i := 3) hS ?_
  simp only [Act.put, zA, zB, zC, zD, zE, zF]
  refine tkB (i := 4) hS ?_
  simp only [Act.put, zA, zB, zC, zD, zE, zF]
  refine anyL_one (i := 5) (by kernel_rfl) rfl (fun K1 hK1 => ?_)
  go_simp
  refine (within_v 11 1 13 true (by decide) _).mono ?_
  rintro e u ⟨rfl, rfl⟩
  refine hK1.out _ _ (fun _ => hS) ?_
  clear hK1 K1
  refine tkB (i := 6) hS ?_
  simp only [Act.put, zA, zB, zC, zD, zE, zF]
  refine tkB (i := 7) hS ?_
  simp only [Act.put, zA, zB, zC, zD, zE, zF]
  refine tkB (i := 8) hS ?_
  simp only [Act.put, zA, zB, zC, zD, zE, zF]
  refine tkB (i := 9) hS ?_
  simp only [Act.put, zA, zB, zC, zD, zE, zF]
  refine tkB (i := 10) hS ?_
  simp only [Act.put, zA, zB, zC, zD, zE, zF]
  refine tkB (i := 11) hS ?_
  simp only [Act.put, zA, zB, zC, zD, zE, zF]
  refine tkB (i := 12) hS ?_
  simp only [Act.put, zA, zB, zC, zD, zE, zF]
  refine anyL_one (i := 13) (by kernel_rfl) rfl (fun K1 hK1 => ?_)
  go_simp
  refine (need1_any z _ _ _ HD.out.told).mono ?_
  rintro e v3 ⟨rfl, hd⟩
  have HS := Lib.hid (HD.out.need hd); clear hd; clear i0 i1 i2 i3 i4 i5 i6 i7 i8 i9 i10 i11 i12 i13 i14 n0 n1 fz p0 p1 p2 p3 p4 p5 p6 p7 p8 p9 p10 p11 p12 p13 p14; obtain ⟨i0, i1, i2, i3, i4, i5, i6, i7, i8, i9, i10, i11, i12, i13, i14⟩ := HS.out.cells; obtain ⟨n0, n1, fz⟩ := HS.out.side; obtain ⟨p0, p1, p2, p3, p4, p5, p6, p7, p8, p9, p10, p11, p12, p13, p14⟩ := nv15 HS.out.h6
  refine hK1.out _ _ (fun _ => ⟨_, HS.out⟩) ?_
  clear hK1 K1 hS
  refine anyL_done (by kernel_rfl) ?_ _
  go_wp2
  go_end0
  exact ⟨rfl, told_11 op dst a b n text x0 x1 x2 x3 x4 x5 dest els r R ▸ HQ.out ▸ HS.out.nd⟩
end Go.Proofs.Ytgnpbodhjmappaa
namespace Go.Proofs.Ytgnpbodhjmappaa
set_option maxRecDepth 100000
open Go.RowKit Cd
open List renaming getElem_toArray → zA, getElem_cons_succ → zB, getElem_cons_zero → zC, setIfInBounds_toArray → zD, set_cons_succ → zE, set_cons_zero → zF
theorem told_12 (op dst a b n : Int) (text : List UInt8) (x0 x1 x2 x3 x4 x5 dest els : Int) (r : FnR) (R : Bool) : ((((R && regOk r.f.regs a) && regOk r.f.code.length els) && regOk r.f.code.length dest) && decide ((⟨12, op, dst, a, b, n, text, x0, x1, x2, x3, x4, x5, dest, els⟩ : Ins) = (⟨12, 0, -1, a, 0, 0, [], 0, 0, 0, 0, 0, 0, dest, els⟩ : Ins))) = (R && rightI ⟨12, op, dst, a, b, n, text, x0, x1, x2, x3, x4, x5, dest, els⟩ r.f.regs r.f.frame r.f.code.length) := by
  have hp : plainOf (⟨12, op, dst, a, b, n, text, x0, x1, x2, x3, x4, x5, dest, els⟩ : Ins) = (⟨12, 0, -1, a, 0, 0, [], 0, 0, 0, 0, 0, 0, dest, els⟩ : Ins) := by first | rfl | simp [plainOf, readsA, readsB, ifI]
  unfold rightI
  rw [hp, Bool.eq_iff_iff]
  generalize decide ((⟨12, op, dst, a, b, n, text, x0, x1, x2, x3, x4, x5, dest, els⟩ : Ins) = (⟨12, 0, -1, a, 0, 0, [], 0, 0, 0, 0, 0, 0, dest, els⟩ : Ins)) = q
  simp only [uses, readsA, readsB, dstOk, nOk, opOk, toOk, oneB, twoB, inB]
  simp
  try grind
set_option maxHeartbeats 8000000 in
set_option maxRecDepth 100000 in
theorem instr_12 (op dst a b n : Int) (text : List UInt8) (x0 x1 x2 x3 x4 x5 dest els : Int) (r : FnR) (hr0 : 0 ≤ r.f.regs) (hr1 : r.f.regs ≤ 4096) (hlen : r.f.code.length ≤ 1000000) (z cb co : Nat) (R : Bool) (w : World) (hz : w.heap[z]? = some (bxB R)) (hi : ∀ (j : Nat) (u : Value), (inCells ⟨12, op, dst, a, b, n, text, x0, x1, x2, x3, x4, x5, dest, els⟩)[j]? = some u → w.cell? ⟨cb, co + j, none⟩ = some u) (hcb : cb < w.heap.size) (hne : z ≠ cb) :
    Calls Try.prog 57 #[fnV r, .pointer (some ⟨cb, co, none⟩), needV z] w (InPost z (R && rightI ⟨12, op, dst, a, b, n, text, x0, x1, x2, x3, x4, x5, dest, els⟩ r.f.regs r.f.frame r.f.code.length) w) := by
  have hmix : Try.prog.follows .mixedOrders = true := by kernel_rfl
  have i0 : w.cell? ⟨cb, co, none⟩ = some (.int .i64 12) := hi 0 _ rfl
  go_enter Try.func57, Try.ntmps57
  go_wp2_with (first | ((with_reducible refine (cplain_any 12 _).mono ?_); rintro e v1 ⟨rfl, hb⟩; have HS : Hid (InSt w (v1.alloc (.cells #[.int .i64 12, .int .i64 0, .int .i64 (-1), .int .i64 0, .int .i64 0, .int .i64 0, .string (sb []), .int .i64 0, .int .i64 0, .int .i64 0, .int .i64 0, .int .i64 0, .int .i64 0, .int .i64 0, .int .i64 (-1)] 46)) z (w.heap.size + 1) w.heap.size v1.heap.size cb co ⟨12, op, dst, a, b, n, text, x0, x1, x2, x3, x4, x5, dest, els⟩ ⟨12, 0, -1, 0, 0, 0, [], 0, 0, 0, 0, 0, 0, 0, -1⟩ r R) := Lib.hid (inSt_first hz hi hcb hne hb); unfold inV; dsimp only [plainI]; clear hb i0; obtain ⟨i0, i1, i2, i3, i4, i5, i6, i7, i8, i9, i10, i11, i12, i13, i14⟩ := HS.out.cells; obtain ⟨n0, n1, fz⟩ := HS.out.side; obtain ⟨p0, p1, p2, p3, p4, p5, p6, p7, p8, p9, p10, p11, p12, p13, p14⟩ := nv15 HS.out.h6; obtain ⟨d0, d1, d2, d3, d4, d5⟩ := HS.out.apart) | ((with_reducible refine (csets_v 12 false (by decide) _).mono ?_); rintro e u ⟨rfl, rfl⟩) | ((with_reducible refine (creadsA_v 12 true (by decide) _).mono ?_); rintro e u ⟨rfl, rfl⟩) | ((with_reducible refine (creadsB_v 12 false (by decide) _).mono ?_); rintro e u ⟨rfl, rfl⟩) | ((with_reducible refine (register_any a (w.heap.size + 1) z w.heap.size _ r ⟨hr0, hr1⟩ _ HS.out.told HS.out.hn HS.out.hf).mono ?_); rintro e v2 ⟨rfl, hd⟩; have HS := Lib.hid (HS.out.need hd); clear hd; clear i0 i1 i2 i3 i4 i5 i6 i7 i8 i9 i10 i11 i12 i13 i14 n0 n1 fz p0 p1 p2 p3 p4 p5 p6 p7 p8 p9 p10 p11 p12 p13 p14; obtain ⟨i0, i1, i2, i3, i4, i5, i6, i7, i8, i9, i10, i11, i12, i13, i14⟩ := HS.out.cells; obtain ⟨n0, n1, fz⟩ := HS.out.side; obtain ⟨p0, p1, p2, p3, p4, p5, p6, p7, p8, p9, p10, p11, p12, p13, p14⟩ := nv15 HS.out.h6; have HS := Lib.hid (HS.out.put (o' := ⟨12, 0, -1, a, 0, 0, [], 0, 0, 0, 0, 0, 0, 0, -1⟩) 3 (.int .i64 a) rfl)) | ((with_reducible refine (target_any els (w.heap.size + 1) z w.heap.size _ r hlen _ HS.out.told HS.out.hn HS.out.hf).mono ?_); rintro e v3 ⟨rfl, hd⟩; have HS := Lib.hid (HS.out.need hd); clear hd; clear i0 i1 i2 i3 i4 i5 i6 i7 i8 i9 i10 i11 i12 i13 i14 n0 n1 fz p0 p1 p2 p3 p4 p5 p6 p7 p8 p9 p10 p11 p12 p13 p14; obtain ⟨i0, i1, i2, i3, i4, i5, i6, i7, i8, i9, i10, i11, i12, i13, i14⟩ := HS.out.cells; obtain ⟨n0, n1, fz⟩ := HS.out.side; obtain ⟨p0, p1, p2, p3, p4, p5, p6, p7, p8, p9, p10, p11, p12, p13, p14⟩ := nv15 HS.out.h6; have HS := Lib.hid (HS.out.put (o' := ⟨12, 0, -1, a, 0, 0, [], 0, 0, 0, 0, 0, 0, 0, els⟩) 14 (.int .i64 els) rfl)) | ((with_reducible refine (target_any dest (w.heap.size + 1) z w.heap.size _ r hlen _ HS.out.told HS.out.hn HS.out.hf).mono ?_); rintro e v4 ⟨rfl, hd⟩; have HS := Lib.hid (HS.out.need hd); clear hd; clear i0 i1 i2 i3 i4 i5 i6 i7 i8 i9 i10 i11 i12 i13 i14 n0 n1 fz p0 p1 p2 p3 p4 p5 p6 p7 p8 p9 p10 p11 p12 p13 p14; obtain ⟨i0, i1, i2, i3, i4, i5, i6, i7, i8, i9, i10, i11, i12, i13, i14⟩ := HS.out.cells; obtain ⟨n0, n1, fz⟩ := HS.out.side; obtain ⟨p0, p1, p2, p3, p4, p5, p6, p7, p8, p9, p10, p11, p12, p13, p14⟩ := nv15 HS.out.h6; have HS := Lib.hid (HS.out.put (o' := ⟨12, 0, -1, a, 0, 0, [], 0, 0, 0, 0, 0, 0, dest, els⟩) 13 (.int .i64 dest) rfl)))
  obtain ⟨q, hq⟩ : ∃ q, decide ((⟨12, op, dst, a, b, n, text, x0, x1, x2, x3, x4, x5, dest, els⟩ : Ins) = (⟨12, 0, -1, a, 0, 0, [], 0, 0, 0, 0, 0, 0, dest, els⟩ : Ins)) = q := ⟨_, rfl⟩
  have heq : ∀ W, (binOp .eql 46 (inV ⟨12, op, dst, a, b, n, text, x0, x1, x2, x3, x4, x5, dest, els⟩) (inV ⟨12, 0, -1, a, 0, 0, [], 0, 0, 0, 0, 0, 0, dest, els⟩)).run Try.prog W = .ok (.bool q) W := fun W => hq ▸ in_eql _ _ W
  dsimp only [inV] at heq
  have HQ := Lib.hid hq; clear hq
  refine region_last (fun W => ∃ R, InSt w W z (w.heap.size + 1) w.heap.size v1.heap.size cb co (⟨12, op, dst, a, b, n, text, x0, x1, x2, x3, x4, x5, dest, els⟩ : Ins) (⟨12, 0, -1, a, 0, 0, [], 0, 0, 0, 0, 0, 0, dest, els⟩ : Ins) r R) 1000000 hmix ?_
  have HD := Lib.hid HS.out.drew
  have hS : (fun W => ∃ R, InSt w W z (w.heap.size + 1) w.heap.size v1.heap.size cb co (⟨12, op, dst, a, b, n, text, x0, x1, x2, x3, x4, x5, dest, els⟩ : Ins) (⟨12, 0, -1, a, 0, 0, [], 0, 0, 0, 0, 0, 0, dest, els⟩ : Ins) r R) _ := ⟨_, HD.out⟩
  refine tkB (i := 0) hS ?_
  simp only [Act.put, zA, zB, zC, zD, zE, zF]
  refine tkB (i := 1) hS ?_
  simp only [Act.put, zA, zB, zC, zD, zE, zF]
  refine tkB (i := 2) hS ?_
  simp only [Act.put, zA, zB, zC, zD, zE, zF]
  refine tkB (i := 3) hS ?_
  simp only [Act.put, zA, zB, zC, zD, zE, zF]
  refine tkB (i := 4) hS ?_
  simp only [Act.put, zA, zB, zC, zD, zE, zF]
  refine anyL_one (i := 5) (by kernel_rfl) rfl (fun K1 hK1 => ?_)
  go_simp
  refine (within_v 12 1 13 true (by decide) _).mono ?_
  rintro e u ⟨rfl, rfl⟩
  refine hK1.out _ _ (fun _ => hS) ?_
  clear hK1 K1
  refine tkB (i := 6) hS ?_
  simp only [Act.put, zA, zB, zC, zD, zE, zF]
  refine tkB (i := 7) hS ?_
  simp only [Act.put, zA, zB, zC, zD, zE, zF]
  refine tkB (i := 8) hS ?_
  simp only [Act.put, zA, zB, zC, zD, zE, zF]
  refine tkB (i := 9) hS ?_
  simp only [Act.put, zA, zB, zC, zD, zE, zF]
  refine tkB (i := 10) hS ?_
  simp only [Act.put, zA, zB, zC, zD, zE, zF]
  refine tkB (i := 11) hS ?_
  simp only [Act.put, zA, zB, zC, zD, zE, zF]
  refine tkB (i := 12) hS ?_
  simp only [Act.put, zA, zB, zC, zD, zE, zF]
  refine anyL_one (i := 13) (by kernel_rfl) rfl (fun K1 hK1 => ?_)
  go_simp
  refine (need1_any z _ _ _ HD.out.told).mono ?_
  rintro e v5 ⟨rfl, hd⟩
  have HS := Lib.hid (HD.out.need hd); clear hd; clear i0 i1 i2 i3 i4 i5 i6 i7 i8 i9 i10 i11 i12 i13 i14 n0 n1 fz p0 p1 p2 p3 p4 p5 p6 p7 p8 p9 p10 p11 p12 p13 p14; obtain ⟨i0, i1, i2, i3, i4, i5, i6, i7, i8, i9, i10, i11, i12, i13, i14⟩ := HS.out.cells; obtain ⟨n0, n1, fz⟩ := HS.out.side; obtain ⟨p0, p1, p2, p3, p4, p5, p6, p7, p8, p9, p10, p11, p12, p13, p14⟩ := nv15 HS.out.h6
  refine hK1.out _ _ (fun _ => ⟨_, HS.out⟩) ?_
  clear hK1 K1 hS
  refine anyL_done (by kernel_rfl) ?_ _
  go_wp2
  go_end0
  exact ⟨rfl, told_12 op dst a b n text x0 x1 x2 x3 x4 x5 dest els r R ▸ HQ.out ▸ HS.out.nd⟩
end Go.Proofs.Ytgnpbodhjmappaa
namespace Go.Proofs.Ytgnpbodhjmappaa
set_option maxRecDepth 100000
open Go.RowKit Cd
open List renaming getElem_toArray → zA, getElem_cons_succ → zB, getElem_cons_zero → zC, setIfInBounds_toArray → zD, set_cons_succ → zE, set_cons_zero → zF
theorem told_13 (op dst a b n : Int) (text : List UInt8) (x0 x1 x2 x3 x4 x5 dest els : Int) (r : FnR) (R : Bool) : ((R && regOk r.f.regs a) && decide ((⟨13, op, dst, a, b, n, text, x0, x1, x2, x3, x4, x5, dest, els⟩ : Ins) = (⟨13, 0, -1, a, 0, 0, [], 0, 0, 0, 0, 0, 0, 0, -1⟩ : Ins))) = (R && rightI ⟨13, op, dst, a, b, n, text, x0, x1, x2, x3, x4, x5, dest, els⟩ r.f.regs r.f.frame r.f.code.length) := by
  have hp : plainOf (⟨13, op, dst, a, b, n, text, x0, x1, x2, x3, x4, x5, dest, els⟩ : Ins) = (⟨13, 0, -1, a, 0, 0, [], 0, 0, 0, 0, 0, 0, 0, -1⟩ : Ins) := by first | rfl | simp [plainOf, readsA, readsB, ifI]
  unfold rightI
  rw [hp, Bool.eq_iff_iff]
  generalize decide ((⟨13, op, dst, a, b, n, text, x0, x1, x2, x3, x4, x5, dest, els⟩ : Ins) = (⟨13, 0, -1, a, 0, 0, [], 0, 0, 0, 0, 0, 0, 0, -1⟩ : Ins)) = q
  simp only [uses, readsA, readsB, dstOk, nOk, opOk, toOk, oneB, twoB, inB]
  simp
  try grind
set_option maxHeartbeats 8000000 in
set_option maxRecDepth 100000 in
theorem instr_13 (op dst a b n : Int) (text : List UInt8) (x0 x1 x2 x3 x4 x5 dest els : Int) (r : FnR) (hr0 : 0 ≤ r.f.regs) (hr1 : r.f.regs ≤ 4096) (hlen : r.f.code.length ≤ 1000000) (z cb co : Nat) (R : Bool) (w : World) (hz : w.heap[z]? = some (bxB R)) (hi : ∀ (j : Nat) (u : Value), (inCells ⟨13, op, dst, a, b, n, text, x0, x1, x2, x3, x4, x5, dest, els⟩)[j]? = some u → w.cell? ⟨cb, co + j, none⟩ = some u) (hcb : cb < w.heap.size) (hne : z ≠ cb) :
    Calls Try.prog 57 #[fnV r, .pointer (some ⟨cb, co, none⟩), needV z] w (InPost z (R && rightI ⟨13, op, dst, a, b, n, text, x0, x1, x2, x3, x4, x5, dest, els⟩ r.f.regs r.f.frame r.f.code.length) w) := by
  have hmix : Try.prog.follows .mixedOrders = true := by kernel_rfl
  have i0 : w.cell? ⟨cb, co, none⟩ = some (.int .i64 13) := hi 0 _ rfl
  go_enter Try.func57, Try.ntmps57
  go_wp2_with (first | ((with_reducible refine (cplain_any 13 _).mono ?_); rintro e v1 ⟨rfl, hb⟩; have HS : Hid (InSt w (v1.alloc (.cells #[.int .i64 13, .int .i64 0, .int .i64 (-1), .int .i64 0, .int .i64 0, .int .i64 0, .string (sb []), .int .i64 0, .int .i64 0, .int .i64 0, .int .i64 0, .int .i64 0, .int .i64 0, .int .i64 0, .int .i64 (-1)] 46)) z (w.heap.size + 1) w.heap.size v1.heap.size cb co ⟨13, op, dst, a, b, n, text, x0, x1, x2, x3, x4, x5, dest, els⟩ ⟨13, 0, -1, 0, 0, 0, [], 0, 0, 0, 0, 0, 0, 0, -1⟩ r R) := Lib.hid (inSt_first hz hi hcb hne hb); unfold inV; dsimp only [plainI]; clear hb i0; obtain ⟨i0, i1, i2, i3, i4, i5, i6, i7, i8, i9, i10, i11, i12, i13, i14⟩ := HS.out.cells; obtain ⟨n0, n1, fz⟩ := HS.out.side; obtain ⟨p0, p1, p2, p3, p4, p5, p6, p7, p8, p9, p10, p11, p12, p13, p14⟩ := nv15 HS.out.h6; obtain ⟨d0, d1, d2, d3, d4, d5⟩ := HS.out.apart) | ((with_reducible refine (csets_v 13 false (by decide) _).mono ?_); rintro e u ⟨rfl, rfl⟩) | ((with_reducible refine (creadsA_v 13 true (by decide) _).mono ?_); rintro e u ⟨rfl, rfl⟩) | ((with_reducible refine (creadsB_v 13 false (by decide) _).mono ?_); rintro e u ⟨rfl, rfl⟩) | ((with_reducible refine (register_any a (w.heap.size + 1) z w.heap.size _ r ⟨hr0, hr1⟩ _ HS.out.told HS.out.hn HS.out.hf).mono ?_); rintro e v2 ⟨rfl, hd⟩; have HS := Lib.hid (HS.out.need hd); clear hd; clear i0 i1 i2 i3 i4 i5 i6 i7 i8 i9 i10 i11 i12 i13 i14 n0 n1 fz p0 p1 p2 p3 p4 p5 p6 p7 p8 p9 p10 p11 p12 p13 p14; obtain ⟨i0, i1, i2, i3, i4, i5, i6, i7, i8, i9, i10, i11, i12, i13, i14⟩ := HS.out.cells; obtain ⟨n0, n1, fz⟩ := HS.out.side; obtain ⟨p0, p1, p2, p3, p4, p5, p6, p7, p8, p9, p10, p11, p12, p13, p14⟩ := nv15 HS.out.h6; have HS := Lib.hid (HS.out.put (o' := ⟨13, 0, -1, a, 0, 0, [], 0, 0, 0, 0, 0, 0, 0, -1⟩) 3 (.int .i64 a) rfl)))
  obtain ⟨q, hq⟩ : ∃ q, decide ((⟨13, op, dst, a, b, n, text, x0, x1, x2, x3, x4, x5, dest, els⟩ : Ins) = (⟨13, 0, -1, a, 0, 0, [], 0, 0, 0, 0, 0, 0, 0, -1⟩ : Ins)) = q := ⟨_, rfl⟩
  have heq : ∀ W, (binOp .eql 46 (inV ⟨13, op, dst, a, b, n, text, x0, x1, x2, x3, x4, x5, dest, els⟩) (inV ⟨13, 0, -1, a, 0, 0, [], 0, 0, 0, 0, 0, 0, 0, -1⟩)).run Try.prog W = .ok (.bool q) W := fun W => hq ▸ in_eql _ _ W
  dsimp only [inV] at heq
  have HQ := Lib.hid hq; clear hq
  refine region_last (fun W => ∃ R, InSt w W z (w.heap.size + 1) w.heap.size v1.heap.size cb co (⟨13, op, dst, a, b, n, text, x0, x1, x2, x3, x4, x5, dest, els⟩ : Ins) (⟨13, 0, -1, a, 0, 0, [], 0, 0, 0, 0, 0, 0, 0, -1⟩ : Ins) r R) 1000000 hmix ?_
  have HD := Lib.hid HS.out.drew
  have hS : (fun W => ∃ R, InSt w W z (w.heap.size + 1) w.heap.size v1.heap.size cb co (⟨13, op, dst, a, b, n, text, x0, x1, x2, x3, x4, x5, dest, els⟩ : Ins) (⟨13, 0, -1, a, 0, 0, [], 0, 0, 0, 0, 0, 0, 0, -1⟩ : Ins) r R) _ := ⟨_, HD.out⟩
  refine tkB (i := 0) hS ?_
  simp only [Act.put, zA, zB, zC, zD, zE, zF]
  refine tkB (i := 1) hS ?_
  simp only [Act.put, zA, zB, zC, zD, zE, zF]
  refine tkB (i := 2) hS ?_
  simp only [Act.put, zA, zB, zC, zD, zE, zF]
  refine tkB (i := 3) hS ?_
  simp only [Act.put, zA, zB, zC, zD, zE, zF]
  refine tkB (i := 4) hS ?_
  simp only [Act.put, zA, zB, zC, zD, zE, zF]
  refine anyL_one (i := 5) (by kernel_rfl) rfl (fun K1 hK1 => ?_)
  go_simp
  refine (within_v 13 1 13 true (by decide) _).mono ?_
  rintro e u ⟨rfl, rfl⟩
  refine hK1.out _ _ (fun _ => hS) ?_
  clear hK1 K1
  refine tkB (i := 6) hS ?_
  simp only [Act.put, zA, zB, zC, zD, zE, zF]
  refine tkB (i := 7) hS ?_
  simp only [Act.put, zA, zB, zC, zD, zE, zF]
  refine tkB (i := 8) hS ?_
  simp only [Act.put, zA, zB, zC, zD, zE, zF]
  refine tkB (i := 9) hS ?_
  simp only [Act.put, zA, zB, zC, zD, zE, zF]
  refine tkB (i := 10) hS ?_
  simp only [Act.put, zA, zB, zC, zD, zE, zF]
  refine tkB (i := 11) hS ?_
  simp only [Act.put, zA, zB, zC, zD, zE, zF]
  refine tkB (i := 12) hS ?_
  simp only [Act.put, zA, zB, zC, zD, zE, zF]
  refine anyL_one (i := 13) (by kernel_rfl) rfl (fun K1 hK1 => ?_)
  go_simp
  refine (need1_any z _ _ _ HD.out.told).mono ?_
  rintro e v3 ⟨rfl, hd⟩
  have HS := Lib.hid (HD.out.need hd); clear hd; clear i0 i1 i2 i3 i4 i5 i6 i7 i8 i9 i10 i11 i12 i13 i14 n0 n1 fz p0 p1 p2 p3 p4 p5 p6 p7 p8 p9 p10 p11 p12 p13 p14; obtain ⟨i0, i1, i2, i3, i4, i5, i6, i7, i8, i9, i10, i11, i12, i13, i14⟩ := HS.out.cells; obtain ⟨n0, n1, fz⟩ := HS.out.side; obtain ⟨p0, p1, p2, p3, p4, p5, p6, p7, p8, p9, p10, p11, p12, p13, p14⟩ := nv15 HS.out.h6
  refine hK1.out _ _ (fun _ => ⟨_, HS.out⟩) ?_
  clear hK1 K1 hS
  refine anyL_done (by kernel_rfl) ?_ _
  go_wp2
  go_end0
  exact ⟨rfl, told_13 op dst a b n text x0 x1 x2 x3 x4 x5 dest els r R ▸ HQ.out ▸ HS.out.nd⟩
end Go.Proofs.Ytgnpbodhjmappaa
