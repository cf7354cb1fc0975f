/-
  Layer 7: what instruction needs of an instruction of kind 8.
-/
import Derived.Test.YtgnpbodhjmappaaPLQ
set_option linter.unusedVariables false
set_option linter.unusedSimpArgs false
namespace Go.Proofs.Ytgnpbodhjmappaa
set_option maxRecDepth 100000
open Go.RowKit Cd
open List renaming getElem_toArray → zA, getElem_cons_succ → zB, getElem_cons_zero → zC, setIfInBounds_toArray → zD, set_cons_succ → zE, set_cons_zero → zF
theorem told_8b (op dst a b n : Int) (text : List UInt8) (x0 x1 x2 x3 x4 x5 dest els : Int) (r : FnR) (R : Bool) (k : Nat) (tb : Bool) (hdst : dst ≠ -1) (hk : argN n = k) (htb : (inB n 0 6 = false ∧ tb = false) ∨ (inB n 0 6 = true ∧ text = [] ∧ tb = false) ∨ (inB n 0 6 = true ∧ text ≠ [] ∧ tb = true)) :
    ((((R && regOk r.f.regs dst) && tb) && ([x0, x1, x2, x3, x4, x5].take k).all (regOk r.f.regs)) && decide ((⟨8, op, dst, a, b, n, text, x0, x1, x2, x3, x4, x5, dest, els⟩ : Ins) = o8 dst n text x0 x1 x2 x3 x4 x5 k)) = (R && rightI ⟨8, op, dst, a, b, n, text, x0, x1, x2, x3, x4, x5, dest, els⟩ r.f.regs r.f.frame r.f.code.length) := by
  have hn : nOk ⟨8, op, dst, a, b, n, text, x0, x1, x2, x3, x4, x5, dest, els⟩ r.f.frame = tb := by
    have e : nOk ⟨8, op, dst, a, b, n, text, x0, x1, x2, x3, x4, x5, dest, els⟩ r.f.frame = (inB n 0 6 && decide (text ≠ [])) := rfl
    rw [e]
    rcases htb with ⟨h1, rfl⟩ | ⟨h1, h2, rfl⟩ | ⟨h1, h2, rfl⟩
    · rw [h1]; rfl
    · subst h2; simp
    · rw [h1, decide_eq_true h2]; rfl
  cases tb
  · rw [no_n hn]; simp
  · have hin : inB n 0 6 = true := by rcases htb with ⟨h1, h⟩ | ⟨h1, h2, h⟩ | ⟨h1, h2, h⟩ <;> simp_all
    have hb : 0 ≤ n ∧ n ≤ 6 := by simpa [inB] using hin
    have hkn : k = n.toNat := by rw [← hk]; unfold argN; rw [if_neg (by omega), if_neg (by omega)]
    have hp : plainOf ⟨8, op, dst, a, b, n, text, x0, x1, x2, x3, x4, x5, dest, els⟩ = o8 dst n text x0 x1 x2 x3 x4 x5 k := by
      subst hkn
      unfold plainOf o8
      simp [readsA, readsB, ifI, ifN] <;> omega
    have hu : uses ⟨8, op, dst, a, b, n, text, x0, x1, x2, x3, x4, x5, dest, els⟩ = [x0, x1, x2, x3, x4, x5].take k := by rw [hkn]; simp [uses, readsA, readsB, Ins.args]
    have hd : dstOk ⟨8, op, dst, a, b, n, text, x0, x1, x2, x3, x4, x5, dest, els⟩ r.f.regs = regOk r.f.regs dst := by unfold dstOk regOk; rw [if_pos rfl]; congr 1; simp only [decide_eq_decide]; omega
    unfold rightI
    rw [hp, hu, hd, hn]
    generalize decide ((⟨8, op, dst, a, b, n, text, x0, x1, x2, x3, x4, x5, dest, els⟩ : Ins) = o8 dst n text x0 x1 x2 x3 x4 x5 k) = q
    generalize ([x0, x1, x2, x3, x4, x5].take k).all (regOk r.f.regs) = q2
    cases R <;> cases q <;> cases q2 <;> simp [opOk, toOk]
set_option maxHeartbeats 16000000 in
set_option maxRecDepth 100000 in
theorem instr_8b (op dst a b n : Int) (text : List UInt8) (x0 x1 x2 x3 x4 x5 dest els : Int) (r : FnR) (hr0 : 0 ≤ r.f.regs) (hr1 : r.f.regs ≤ 4096) (hdst : dst ≠ -1) (z cb co : Nat) (R : Bool) (w : World) (hz : w.heap[z]? = some (bxB R)) (hi : ∀ (j : Nat) (u : Value), (inCells ⟨8, op, dst, a, b, n, text, x0, x1, x2, x3, x4, x5, dest, els⟩)[j]? = some u → w.cell? ⟨cb, co + j, none⟩ = some u) (hcb : cb < w.heap.size) (hne : z ≠ cb) :
    Calls Try.prog 57 #[fnV r, .pointer (some ⟨cb, co, none⟩), needV z] w (InPost z (R && rightI ⟨8, op, dst, a, b, n, text, x0, x1, x2, x3, x4, x5, dest, els⟩ r.f.regs r.f.frame r.f.code.length) w) := by
  have hmix : Try.prog.follows .mixedOrders = true := by kernel_rfl
  have zd : (dst != (-1 : Int)) = true := by simpa using hdst
  have HDS := Lib.hid hdst; clear hdst
  have i0 : w.cell? ⟨cb, co, none⟩ = some (.int .i64 8) := hi 0 _ rfl
  go_enter Try.func57, Try.ntmps57
  go_wp2_with (first | ((with_reducible refine (cplain_any 8 _).mono ?_); rintro e v1 ⟨rfl, hb⟩; have HS : Hid (InSt w (v1.alloc (.cells #[.int .i64 8, .int .i64 0, .int .i64 (-1), .int .i64 0, .int .i64 0, .int .i64 0, .string (sb []), .int .i64 0, .int .i64 0, .int .i64 0, .int .i64 0, .int .i64 0, .int .i64 0, .int .i64 0, .int .i64 (-1)] 46)) z (w.heap.size + 1) w.heap.size v1.heap.size cb co ⟨8, op, dst, a, b, n, text, x0, x1, x2, x3, x4, x5, dest, els⟩ ⟨8, 0, -1, 0, 0, 0, [], 0, 0, 0, 0, 0, 0, 0, -1⟩ r R) := Lib.hid (inSt_first hz hi hcb hne hb); unfold inV; dsimp only [plainI]; clear hb i0; obtain ⟨i0, i1, i2, i3, i4, i5, i6, i7, i8, i9, i10, i11, i12, i13, i14⟩ := HS.out.cells; obtain ⟨n0, n1, fz⟩ := HS.out.side; obtain ⟨p0, p1, p2, p3, p4, p5, p6, p7, p8, p9, p10, p11, p12, p13, p14⟩ := nv15 HS.out.h6; obtain ⟨d0, d1, d2, d3, d4, d5⟩ := HS.out.apart) | ((with_reducible refine (csets_v 8 true (by decide) _).mono ?_); rintro e u ⟨rfl, rfl⟩) | ((with_reducible refine (creadsA_v 8 false (by decide) _).mono ?_); rintro e u ⟨rfl, rfl⟩) | ((with_reducible refine (creadsB_v 8 false (by decide) _).mono ?_); rintro e u ⟨rfl, rfl⟩) | ((with_reducible refine (register_any dst (w.heap.size + 1) z w.heap.size _ r ⟨hr0, hr1⟩ _ HS.out.told HS.out.hn HS.out.hf).mono ?_); rintro e v2 ⟨rfl, hd⟩; have HS := Lib.hid (HS.out.need hd); clear hd; clear i0 i1 i2 i3 i4 i5 i6 i7 i8 i9 i10 i11 i12 i13 i14 n0 n1 fz p0 p1 p2 p3 p4 p5 p6 p7 p8 p9 p10 p11 p12 p13 p14; obtain ⟨i0, i1, i2, i3, i4, i5, i6, i7, i8, i9, i10, i11, i12, i13, i14⟩ := HS.out.cells; obtain ⟨n0, n1, fz⟩ := HS.out.side; obtain ⟨p0, p1, p2, p3, p4, p5, p6, p7, p8, p9, p10, p11, p12, p13, p14⟩ := nv15 HS.out.h6; have HS := Lib.hid (HS.out.put (o' := ⟨8, 0, dst, 0, 0, 0, [], 0, 0, 0, 0, 0, 0, 0, -1⟩) 2 (.int .i64 dst) rfl)))
  refine region_last (fun W => ∃ o, InSt w W z (w.heap.size + 1) w.heap.size v1.heap.size cb co (⟨8, op, dst, a, b, n, text, x0, x1, x2, x3, x4, x5, dest, els⟩ : Ins) o r (R && regOk r.f.regs dst)) 1000000 hmix ?_
  have HD := Lib.hid HS.out.drew
  have hS : (fun W => ∃ o, InSt w W z (w.heap.size + 1) w.heap.size v1.heap.size cb co (⟨8, op, dst, a, b, n, text, x0, x1, x2, x3, x4, x5, dest, els⟩ : Ins) o r (R && regOk r.f.regs dst)) _ := ⟨_, HD.out⟩
  refine tkA (i := 0) hS ?_
  simp only [Act.put, zA, zB, zC, zD, zE, zF]
  refine tkA (i := 1) hS ?_
  simp only [Act.put, zA, zB, zC, zD, zE, zF]
  refine tkA (i := 2) hS ?_
  simp only [Act.put, zA, zB, zC, zD, zE, zF]
  refine tkA (i := 3) hS ?_
  simp only [Act.put, zA, zB, zC, zD, zE, zF]
  refine tkA (i := 4) hS ?_
  simp only [Act.put, zA, zB, zC, zD, zE, zF]
  refine tkA (i := 5) hS ?_
  simp only [Act.put, zA, zB, zC, zD, zE, zF]
  refine tkA (i := 6) hS ?_
  simp only [Act.put, zA, zB, zC, zD, zE, zF]
  refine tkA (i := 7) hS ?_
  simp only [Act.put, zA, zB, zC, zD, zE, zF]
  refine tkA (i := 8) hS ?_
  simp only [Act.put, zA, zB, zC, zD, zE, zF]
  refine anyL_one (i := 9) (by kernel_rfl) rfl (fun K1 hK1 => ?_)
  go_simp
  have HD := Lib.hid (HD.out.put (o' := ⟨8, 0, dst, 0, 0, n, [], 0, 0, 0, 0, 0, 0, 0, -1⟩) 5 (.int .i64 n) rfl)
  clear hS
  have hS : (fun W => ∃ o, InSt w W z (w.heap.size + 1) w.heap.size v1.heap.size cb co (⟨8, op, dst, a, b, n, text, x0, x1, x2, x3, x4, x5, dest, els⟩ : Ins) o r (R && regOk r.f.regs dst)) _ := ⟨_, HD.out⟩
  refine hK1.out _ _ (fun _ => hS) ?_
  clear hK1 K1
  refine tkA (i := 10) hS ?_
  simp only [Act.put, zA, zB, zC, zD, zE, zF]
  refine anyL_one (i := 11) (by kernel_rfl) rfl (fun K1 hK1 => ?_)
  go_simp
  have HD := Lib.hid (HD.out.put (o' := ⟨8, 0, dst, 0, 0, n, text, 0, 0, 0, 0, 0, 0, 0, -1⟩) 6 (.string (sb text)) rfl)
  clear hS
  have hS : (fun W => ∃ o, InSt w W z (w.heap.size + 1) w.heap.size v1.heap.size cb co (⟨8, op, dst, a, b, n, text, x0, x1, x2, x3, x4, x5, dest, els⟩ : Ins) o r (R && regOk r.f.regs dst)) _ := ⟨_, HD.out⟩
  refine hK1.out _ _ (fun _ => hS) ?_
  clear hK1 K1
  refine anyL_done (by kernel_rfl) ?_ _
  have HS := HD; clear hS HD
  clear i0 i1 i2 i3 i4 i5 i6 i7 i8 i9 i10 i11 i12 i13 i14 n0 n1 fz p0 p1 p2 p3 p4 p5 p6 p7 p8 p9 p10 p11 p12 p13 p14
  obtain ⟨i0, i1, i2, i3, i4, i5, i6, i7, i8, i9, i10, i11, i12, i13, i14⟩ := HS.out.cells; obtain ⟨n0, n1, fz⟩ := HS.out.side; obtain ⟨p0, p1, p2, p3, p4, p5, p6, p7, p8, p9, p10, p11, p12, p13, p14⟩ := nv15 HS.out.h6
  go_wp2
  have HT3 : Hid (∃ tb : Bool, ((inB n 0 6 = false ∧ tb = false) ∨ (inB n 0 6 = true ∧ text = [] ∧ tb = false) ∨ (inB n 0 6 = true ∧ text ≠ [] ∧ tb = true))) := Lib.hid (by by_cases h1 : inB n 0 6 = true <;> by_cases h2 : text = [] <;> simp [h1, h2])
  obtain ⟨tb, htb⟩ := HT3.out
  have HTB := Lib.hid htb
  clear HT3
  have HND : Hid (∀ (v : World) (R' : Bool), Nd z R' w v → True) := Lib.hid (fun _ _ _ => trivial)
  rcases htb with ⟨hin, rfl⟩ | ⟨hin, htx, rfl⟩ | ⟨hin, htx, rfl⟩
  · refine region_last (fun W => ∃ R, InSt w W z (w.heap.size + 1) w.heap.size v1.heap.size cb co (⟨8, op, dst, a, b, n, text, x0, x1, x2, x3, x4, x5, dest, els⟩ : Ins) (⟨8, 0, dst, 0, 0, n, text, 0, 0, 0, 0, 0, 0, 0, -1⟩ : Ins) r R) 1000000 hmix ?_
    have HD := Lib.hid HS.out.drew
    have hS : (fun W => ∃ R, InSt w W z (w.heap.size + 1) w.heap.size v1.heap.size cb co (⟨8, op, dst, a, b, n, text, x0, x1, x2, x3, x4, x5, dest, els⟩ : Ins) (⟨8, 0, dst, 0, 0, n, text, 0, 0, 0, 0, 0, 0, 0, -1⟩ : Ins) r R) _ := ⟨_, HD.out⟩
    refine tkA (i := 0) hS ?_
    simp only [Act.put, zA, zB, zC, zD, zE, zF]
    refine tkA (i := 1) hS ?_
    simp only [Act.put, zA, zB, zC, zD, zE, zF]
    refine tkA (i := 2) hS ?_
    simp only [Act.put, zA, zB, zC, zD, zE, zF]
    refine tkA (i := 3) hS ?_
    simp only [Act.put, zA, zB, zC, zD, zE, zF]
    refine tkA (i := 4) hS ?_
    simp only [Act.put, zA, zB, zC, zD, zE, zF]
    refine anyL_one (i := 5) (by kernel_rfl) rfl (fun K1 hK1 => ?_)
    go_simp
    refine (within_v n 0 6 false hin _).mono ?_
    rintro e u ⟨rfl, rfl⟩
    refine hK1.out _ _ (fun _ => hS) ?_
    clear hK1 K1
    refine tkA (i := 6) hS ?_
    simp only [Act.put, zA, zB, zC, zD, zE, zF]
    refine tkD (i := 7) hS ?_
    simp only [Act.put, zA, zB, zC, zD, zE, zF]
    refine tkD (i := 8) hS ?_
    simp only [Act.put, zA, zB, zC, zD, zE, zF]
    refine tkD (i := 9) hS ?_
    simp only [Act.put, zA, zB, zC, zD, zE, zF]
    refine tkD (i := 10) hS ?_
    simp only [Act.put, zA, zB, zC, zD, zE, zF]
    refine tkD (i := 11) hS ?_
    simp only [Act.put, zA, zB, zC, zD, zE, zF]
    refine tkA (i := 12) hS ?_
    simp only [Act.put, zA, zB, zC, zD, zE, zF]
    refine anyL_one (i := 13) (by kernel_rfl) rfl (fun K1 hK1 => ?_)
    go_simp
    refine (need1_any z _ _ _ HD.out.told).mono ?_
    rintro e v20 ⟨rfl, hd⟩
    have HS := Lib.hid (HD.out.need hd); clear hd; clear i0 i1 i2 i3 i4 i5 i6 i7 i8 i9 i10 i11 i12 i13 i14 n0 n1 fz p0 p1 p2 p3 p4 p5 p6 p7 p8 p9 p10 p11 p12 p13 p14; obtain ⟨i0, i1, i2, i3, i4, i5, i6, i7, i8, i9, i10, i11, i12, i13, i14⟩ := HS.out.cells; obtain ⟨n0, n1, fz⟩ := HS.out.side; obtain ⟨p0, p1, p2, p3, p4, p5, p6, p7, p8, p9, p10, p11, p12, p13, p14⟩ := nv15 HS.out.h6
    refine hK1.out _ _ (fun _ => ⟨_, HS.out⟩) ?_
    clear hK1 K1 hS
    refine anyL_done (by kernel_rfl) ?_ _
    go_wp2_with ((with_reducible refine (arguments_8 n cb co _ i0 i5).mono ?_); rintro e v21 ⟨rfl, rfl⟩; have HS := Lib.hid HS.out.drew)
    obtain ⟨R2, hR2⟩ : ∃ R2, ((R && regOk r.f.regs dst) && false) = R2 := ⟨_, rfl⟩
    have HR2 := Lib.hid hR2
    rw [hR2] at HS; clear hR2
    obtain ⟨m, hm⟩ : ∃ m, argN n = m := ⟨_, rfl⟩
    have HM := Lib.hid hm
    have hm6 : m ≤ 6 := by rw [← hm]; unfold argN; split; omega; split <;> omega
    rw [hm]; clear hm
    clear i0 i1 i2 i3 i4 i5 i6 i7 i8 i9 i10 i11 i12 i13 i14 n0 n1 fz p0 p1 p2 p3 p4 p5 p6 p7 p8 p9 p10 p11 p12 p13 p14
    go_loopw [163] (fun s wr => ∃ k : Nat, k ≤ m ∧ s = .int .i64 k ∧ Hid (InSt w wr z (w.heap.size + 1) w.heap.size v1.heap.size cb co ⟨8, op, dst, a, b, n, text, x0, x1, x2, x3, x4, x5, dest, els⟩ (o8 dst n text x0 x1 x2 x3 x4 x5 k) r (R2 && ([x0, x1, x2, x3, x4, x5].take k).all (regOk r.f.regs)))) (fun s wr => m - (intOf s).toNat)
    case atStart => exact ⟨0, by omega, rfl, Lib.hid (by have := HS.out; simpa [o8, ifN] using this)⟩
    case round =>
      obtain ⟨k, hk, rfl, HA⟩ := hrel
      have HS := HA; clear HA
      obtain ⟨i0, i1, i2, i3, i4, i5, i6, i7, i8, i9, i10, i11, i12, i13, i14⟩ := HS.out.cells; obtain ⟨n0, n1, fz⟩ := HS.out.side; obtain ⟨p0, p1, p2, p3, p4, p5, p6, p7, p8, p9, p10, p11, p12, p13, p14⟩ := nv15 HS.out.h6
      by_cases hlt : k < m
      · have hk6 : k < 6 := by omega
        have xc := HS.out.arg hk6
        obtain ⟨pv, pc⟩ := HS.out.arg6 hk6
        obtain ⟨x, hx⟩ : ∃ x, [x0, x1, x2, x3, x4, x5].getD k 0 = x := ⟨_, rfl⟩
        have HX := Lib.hid hx
        replace xc : wr.cell? ⟨cb, co + 7 + k, none⟩ = some (.int .i64 x) := hx ▸ xc
        clear hx
        have q0 : (0 : Int) ≤ (k : Int) := Int.natCast_nonneg _
        have q1 : (k : Int) < (m : Int) := by omega
        have q2 : (k : Int) < 6 := by omega
        have t1 : decide ((k : Int) < (m : Int)) = true := by simpa using q1
        clear p0 p1 p2 p3 p4 p5 p6 p7 p8 p9 p10 p11 p12 p13 p14
        go_wp2_with ((with_reducible refine (register_any x (w.heap.size + 1) z w.heap.size _ r ⟨hr0, hr1⟩ _ HS.out.told HS.out.hn HS.out.hf).mono ?_); rintro e v22 ⟨rfl, hd⟩; have HS2 := Lib.hid (HS.out.need hd); clear hd pc fz; have fz := HS2.out.side.2.2; obtain ⟨pv, pc⟩ := HS2.out.arg6 hk6)
        go_roundw
        case rel => exact ⟨k + 1, by omega, by go_num, Lib.hid (by have h3 := HS2.out.put8 hk6 HX.out; rw [Bool.and_assoc, ← all_next hk6 HX.out] at h3; exact h3)⟩
        case measure => simp [intOf]; omega
      · obtain rfl : k = m := by omega
        have t1 : decide ((k : Int) < (k : Int)) = false := by simp
        go_wp2
        obtain ⟨q, hq⟩ : ∃ q, decide ((⟨8, op, dst, a, b, n, text, x0, x1, x2, x3, x4, x5, dest, els⟩ : Ins) = o8 dst n text x0 x1 x2 x3 x4 x5 k) = q := ⟨_, rfl⟩
        have heq : ∀ W, (binOp .eql 46 (inV ⟨8, op, dst, a, b, n, text, x0, x1, x2, x3, x4, x5, dest, els⟩) (inV (o8 dst n text x0 x1 x2 x3 x4 x5 k))).run Try.prog W = .ok (.bool q) W := fun W => hq ▸ in_eql _ _ W
        dsimp only [inV, o8] at heq
        have HQ := Lib.hid hq; clear hq
        refine region_last (fun W => ∃ R, InSt w W z (w.heap.size + 1) w.heap.size v1.heap.size cb co (⟨8, op, dst, a, b, n, text, x0, x1, x2, x3, x4, x5, dest, els⟩ : Ins) (o8 dst n text x0 x1 x2 x3 x4 x5 k) r R) 1000000 hmix ?_
        have HD := Lib.hid HS.out.drew
        have hS : (fun W => ∃ R, InSt w W z (w.heap.size + 1) w.heap.size v1.heap.size cb co (⟨8, op, dst, a, b, n, text, x0, x1, x2, x3, x4, x5, dest, els⟩ : Ins) (o8 dst n text x0 x1 x2 x3 x4 x5 k) r R) _ := ⟨_, HD.out⟩
        refine tkC (i := 0) hS ?_
        simp only [Act.put, zA, zB, zC, zD, zE, zF]
        refine tkC (i := 1) hS ?_
        simp only [Act.put, zA, zB, zC, zD, zE, zF]
        refine tkC (i := 2) hS ?_
        simp only [Act.put, zA, zB, zC, zD, zE, zF]
        refine tkC (i := 3) hS ?_
        simp only [Act.put, zA, zB, zC, zD, zE, zF]
        refine tkC (i := 4) hS ?_
        simp only [Act.put, zA, zB, zC, zD, zE, zF]
        refine anyL_one (i := 5) (by kernel_rfl) rfl (fun K1 hK1 => ?_)
        go_simp
        refine (within_v 8 1 13 true (by decide) _).mono ?_
        rintro e u ⟨rfl, rfl⟩
        refine hK1.out _ _ (fun _ => hS) ?_
        clear hK1 K1
        refine tkC (i := 6) hS ?_
        simp only [Act.put, zA, zB, zC, zD, zE, zF]
        refine tkC (i := 7) hS ?_
        simp only [Act.put, zA, zB, zC, zD, zE, zF]
        refine tkC (i := 8) hS ?_
        simp only [Act.put, zA, zB, zC, zD, zE, zF]
        refine tkC (i := 9) hS ?_
        simp only [Act.put, zA, zB, zC, zD, zE, zF]
        refine tkC (i := 10) hS ?_
        simp only [Act.put, zA, zB, zC, zD, zE, zF]
        refine tkC (i := 11) hS ?_
        simp only [Act.put, zA, zB, zC, zD, zE, zF]
        refine tkC (i := 12) hS ?_
        simp only [Act.put, zA, zB, zC, zD, zE, zF]
        refine anyL_one (i := 13) (by kernel_rfl) rfl (fun K1 hK1 => ?_)
        go_simp
        refine (need1_any z _ _ _ HD.out.told).mono ?_
        rintro e v32 ⟨rfl, hd⟩
        have HS := Lib.hid (HD.out.need hd); clear hd; clear i0 i1 i2 i3 i4 i5 i6 i7 i8 i9 i10 i11 i12 i13 i14 n0 n1 fz p0 p1 p2 p3 p4 p5 p6 p7 p8 p9 p10 p11 p12 p13 p14; obtain ⟨i0, i1, i2, i3, i4, i5, i6, i7, i8, i9, i10, i11, i12, i13, i14⟩ := HS.out.cells; obtain ⟨n0, n1, fz⟩ := HS.out.side; obtain ⟨p0, p1, p2, p3, p4, p5, p6, p7, p8, p9, p10, p11, p12, p13, p14⟩ := nv15 HS.out.h6
        refine hK1.out _ _ (fun _ => ⟨_, HS.out⟩) ?_
        clear hK1 K1 hS
        refine anyL_done (by kernel_rfl) ?_ _
        go_wp2
        go_end0
        exact ⟨rfl, told_8b op dst a b n text x0 x1 x2 x3 x4 x5 dest els r R k false HDS.out HM.out (.inl ⟨hin, rfl⟩) ▸ HR2.out ▸ HQ.out ▸ HS.out.nd⟩
  · have htq : text.isEmpty = true := by simpa using htx
    have HTX := Lib.hid htx; clear htx
    refine region_last (fun W => ∃ R, InSt w W z (w.heap.size + 1) w.heap.size v1.heap.size cb co (⟨8, op, dst, a, b, n, text, x0, x1, x2, x3, x4, x5, dest, els⟩ : Ins) (⟨8, 0, dst, 0, 0, n, text, 0, 0, 0, 0, 0, 0, 0, -1⟩ : Ins) r R) 1000000 hmix ?_
    have HD := Lib.hid HS.out.drew
    have hS : (fun W => ∃ R, InSt w W z (w.heap.size + 1) w.heap.size v1.heap.size cb co (⟨8, op, dst, a, b, n, text, x0, x1, x2, x3, x4, x5, dest, els⟩ : Ins) (⟨8, 0, dst, 0, 0, n, text, 0, 0, 0, 0, 0, 0, 0, -1⟩ : Ins) r R) _ := ⟨_, HD.out⟩
    refine tkA (i := 0) hS ?_
    simp only [Act.put, zA, zB, zC, zD, zE, zF]
    refine tkA (i := 1) hS ?_
    simp only [Act.put, zA, zB, zC, zD, zE, zF]
    refine tkA (i := 2) hS ?_
    simp only [Act.put, zA, zB, zC, zD, zE, zF]
    refine tkA (i := 3) hS ?_
    simp only [Act.put, zA, zB, zC, zD, zE, zF]
    refine tkA (i := 4) hS ?_
    simp only [Act.put, zA, zB, zC, zD, zE, zF]
    refine anyL_one (i := 5) (by kernel_rfl) rfl (fun K1 hK1 => ?_)
    go_simp
    refine (within_v n 0 6 true hin _).mono ?_
    rintro e u ⟨rfl, rfl⟩
    refine hK1.out _ _ (fun _ => hS) ?_
    clear hK1 K1
    refine tkA (i := 6) hS ?_
    simp only [Act.put, zA, zB, zC, zD, zE, zF]
    refine tkA (i := 7) hS ?_
    simp only [Act.put, zA, zB, zC, zD, zE, zF]
    refine tkA (i := 8) hS ?_
    simp only [Act.put, zA, zB, zC, zD, zE, zF]
    refine tkA (i := 9) hS ?_
    simp only [Act.put, zA, zB, zC, zD, zE, zF]
    refine tkA (i := 10) hS ?_
    simp only [Act.put, zA, zB, zC, zD, zE, zF]
    refine tkA (i := 11) hS ?_
    simp only [Act.put, zA, zB, zC, zD, zE, zF]
    refine tkA (i := 12) hS ?_
    simp only [Act.put, zA, zB, zC, zD, zE, zF]
    refine anyL_one (i := 13) (by kernel_rfl) rfl (fun K1 hK1 => ?_)
    go_simp
    refine (need1_any z _ _ _ HD.out.told).mono ?_
    rintro e v20 ⟨rfl, hd⟩
    have HS := Lib.hid (HD.out.need hd); clear hd; clear i0 i1 i2 i3 i4 i5 i6 i7 i8 i9 i10 i11 i12 i13 i14 n0 n1 fz p0 p1 p2 p3 p4 p5 p6 p7 p8 p9 p10 p11 p12 p13 p14; obtain ⟨i0, i1, i2, i3, i4, i5, i6, i7, i8, i9, i10, i11, i12, i13, i14⟩ := HS.out.cells; obtain ⟨n0, n1, fz⟩ := HS.out.side; obtain ⟨p0, p1, p2, p3, p4, p5, p6, p7, p8, p9, p10, p11, p12, p13, p14⟩ := nv15 HS.out.h6
    refine hK1.out _ _ (fun _ => ⟨_, HS.out⟩) ?_
    clear hK1 K1 hS
    refine anyL_done (by kernel_rfl) ?_ _
    go_wp2_with ((with_reducible refine (arguments_8 n cb co _ i0 i5).mono ?_); rintro e v21 ⟨rfl, rfl⟩; have HS := Lib.hid HS.out.drew)
    obtain ⟨R2, hR2⟩ : ∃ R2, ((R && regOk r.f.regs dst) && false) = R2 := ⟨_, rfl⟩
    have HR2 := Lib.hid hR2
    rw [hR2] at HS; clear hR2
    obtain ⟨m, hm⟩ : ∃ m, argN n = m := ⟨_, rfl⟩
    have HM := Lib.hid hm
    have hm6 : m ≤ 6 := by rw [← hm]; unfold argN; split; omega; split <;> omega
    rw [hm]; clear hm
    clear i0 i1 i2 i3 i4 i5 i6 i7 i8 i9 i10 i11 i12 i13 i14 n0 n1 fz p0 p1 p2 p3 p4 p5 p6 p7 p8 p9 p10 p11 p12 p13 p14
    go_loopw [163] (fun s wr => ∃ k : Nat, k ≤ m ∧ s = .int .i64 k ∧ Hid (InSt w wr z (w.heap.size + 1) w.heap.size v1.heap.size cb co ⟨8, op, dst, a, b, n, text, x0, x1, x2, x3, x4, x5, dest, els⟩ (o8 dst n text x0 x1 x2 x3 x4 x5 k) r (R2 && ([x0, x1, x2, x3, x4, x5].take k).all (regOk r.f.regs)))) (fun s wr => m - (intOf s).toNat)
    case atStart => exact ⟨0, by omega, rfl, Lib.hid (by have := HS.out; simpa [o8, ifN] using this)⟩
    case round =>
      obtain ⟨k, hk, rfl, HA⟩ := hrel
      have HS := HA; clear HA
      obtain ⟨i0, i1, i2, i3, i4, i5, i6, i7, i8, i9, i10, i11, i12, i13, i14⟩ := HS.out.cells; obtain ⟨n0, n1, fz⟩ := HS.out.side; obtain ⟨p0, p1, p2, p3, p4, p5, p6, p7, p8, p9, p10, p11, p12, p13, p14⟩ := nv15 HS.out.h6
      by_cases hlt : k < m
      · have hk6 : k < 6 := by omega
        have xc := HS.out.arg hk6
        obtain ⟨pv, pc⟩ := HS.out.arg6 hk6
        obtain ⟨x, hx⟩ : ∃ x, [x0, x1, x2, x3, x4, x5].getD k 0 = x := ⟨_, rfl⟩
        have HX := Lib.hid hx
        replace xc : wr.cell? ⟨cb, co + 7 + k, none⟩ = some (.int .i64 x) := hx ▸ xc
        clear hx
        have q0 : (0 : Int) ≤ (k : Int) := Int.natCast_nonneg _
        have q1 : (k : Int) < (m : Int) := by omega
        have q2 : (k : Int) < 6 := by omega
        have t1 : decide ((k : Int) < (m : Int)) = true := by simpa using q1
        clear p0 p1 p2 p3 p4 p5 p6 p7 p8 p9 p10 p11 p12 p13 p14
        go_wp2_with ((with_reducible refine (register_any x (w.heap.size + 1) z w.heap.size _ r ⟨hr0, hr1⟩ _ HS.out.told HS.out.hn HS.out.hf).mono ?_); rintro e v22 ⟨rfl, hd⟩; have HS2 := Lib.hid (HS.out.need hd); clear hd pc fz; have fz := HS2.out.side.2.2; obtain ⟨pv, pc⟩ := HS2.out.arg6 hk6)
        go_roundw
        case rel => exact ⟨k + 1, by omega, by go_num, Lib.hid (by have h3 := HS2.out.put8 hk6 HX.out; rw [Bool.and_assoc, ← all_next hk6 HX.out] at h3; exact h3)⟩
        case measure => simp [intOf]; omega
      · obtain rfl : k = m := by omega
        have t1 : decide ((k : Int) < (k : Int)) = false := by simp
        go_wp2
        obtain ⟨q, hq⟩ : ∃ q, decide ((⟨8, op, dst, a, b, n, text, x0, x1, x2, x3, x4, x5, dest, els⟩ : Ins) = o8 dst n text x0 x1 x2 x3 x4 x5 k) = q := ⟨_, rfl⟩
        have heq : ∀ W, (binOp .eql 46 (inV ⟨8, op, dst, a, b, n, text, x0, x1, x2, x3, x4, x5, dest, els⟩) (inV (o8 dst n text x0 x1 x2 x3 x4 x5 k))).run Try.prog W = .ok (.bool q) W := fun W => hq ▸ in_eql _ _ W
        dsimp only [inV, o8] at heq
        have HQ := Lib.hid hq; clear hq
        refine region_last (fun W => ∃ R, InSt w W z (w.heap.size + 1) w.heap.size v1.heap.size cb co (⟨8, op, dst, a, b, n, text, x0, x1, x2, x3, x4, x5, dest, els⟩ : Ins) (o8 dst n text x0 x1 x2 x3 x4 x5 k) r R) 1000000 hmix ?_
        have HD := Lib.hid HS.out.drew
        have hS : (fun W => ∃ R, InSt w W z (w.heap.size + 1) w.heap.size v1.heap.size cb co (⟨8, op, dst, a, b, n, text, x0, x1, x2, x3, x4, x5, dest, els⟩ : Ins) (o8 dst n text x0 x1 x2 x3 x4 x5 k) r R) _ := ⟨_, HD.out⟩
        refine tkC (i := 0) hS ?_
        simp only [Act.put, zA, zB, zC, zD, zE, zF]
        refine tkC (i := 1) hS ?_
        simp only [Act.put, zA, zB, zC, zD, zE, zF]
        refine tkC (i := 2) hS ?_
        simp only [Act.put, zA, zB, zC, zD, zE, zF]
        refine tkC (i := 3) hS ?_
        simp only [Act.put, zA, zB, zC, zD, zE, zF]
        refine tkC (i := 4) hS ?_
        simp only [Act.put, zA, zB, zC, zD, zE, zF]
        refine anyL_one (i := 5) (by kernel_rfl) rfl (fun K1 hK1 => ?_)
        go_simp
        refine (within_v 8 1 13 true (by decide) _).mono ?_
        rintro e u ⟨rfl, rfl⟩
        refine hK1.out _ _ (fun _ => hS) ?_
        clear hK1 K1
        refine tkC (i := 6) hS ?_
        simp only [Act.put, zA, zB, zC, zD, zE, zF]
        refine tkC (i := 7) hS ?_
        simp only [Act.put, zA, zB, zC, zD, zE, zF]
        refine tkC (i := 8) hS ?_
        simp only [Act.put, zA, zB, zC, zD, zE, zF]
        refine tkC (i := 9) hS ?_
        simp only [Act.put, zA, zB, zC, zD, zE, zF]
        refine tkC (i := 10) hS ?_
        simp only [Act.put, zA, zB, zC, zD, zE, zF]
        refine tkC (i := 11) hS ?_
        simp only [Act.put, zA, zB, zC, zD, zE, zF]
        refine tkC (i := 12) hS ?_
        simp only [Act.put, zA, zB, zC, zD, zE, zF]
        refine anyL_one (i := 13) (by kernel_rfl) rfl (fun K1 hK1 => ?_)
        go_simp
        refine (need1_any z _ _ _ HD.out.told).mono ?_
        rintro e v32 ⟨rfl, hd⟩
        have HS := Lib.hid (HD.out.need hd); clear hd; clear i0 i1 i2 i3 i4 i5 i6 i7 i8 i9 i10 i11 i12 i13 i14 n0 n1 fz p0 p1 p2 p3 p4 p5 p6 p7 p8 p9 p10 p11 p12 p13 p14; obtain ⟨i0, i1, i2, i3, i4, i5, i6, i7, i8, i9, i10, i11, i12, i13, i14⟩ := HS.out.cells; obtain ⟨n0, n1, fz⟩ := HS.out.side; obtain ⟨p0, p1, p2, p3, p4, p5, p6, p7, p8, p9, p10, p11, p12, p13, p14⟩ := nv15 HS.out.h6
        refine hK1.out _ _ (fun _ => ⟨_, HS.out⟩) ?_
        clear hK1 K1 hS
        refine anyL_done (by kernel_rfl) ?_ _
        go_wp2
        go_end0
        exact ⟨rfl, told_8b op dst a b n text x0 x1 x2 x3 x4 x5 dest els r R k false HDS.out HM.out (.inr (.inl ⟨hin, HTX.out, rfl⟩)) ▸ HR2.out ▸ HQ.out ▸ HS.out.nd⟩
  · have htq : text.isEmpty = false := by simpa using htx
    have HTX := Lib.hid htx; clear htx
    refine region_last (fun W => ∃ R, InSt w W z (w.heap.size + 1) w.heap.size v1.heap.size cb co (⟨8, op, dst, a, b, n, text, x0, x1, x2, x3, x4, x5, dest, els⟩ : Ins) (⟨8, 0, dst, 0, 0, n, text, 0, 0, 0, 0, 0, 0, 0, -1⟩ : Ins) r R) 1000000 hmix ?_
    have HD := Lib.hid HS.out.drew
    have hS : (fun W => ∃ R, InSt w W z (w.heap.size + 1) w.heap.size v1.heap.size cb co (⟨8, op, dst, a, b, n, text, x0, x1, x2, x3, x4, x5, dest, els⟩ : Ins) (⟨8, 0, dst, 0, 0, n, text, 0, 0, 0, 0, 0, 0, 0, -1⟩ : Ins) r R) _ := ⟨_, HD.out⟩
    refine tkA (i := 0) hS ?_
    simp only [Act.put, zA, zB, zC, zD, zE, zF]
    refine tkA (i := 1) hS ?_
    simp only [Act.put, zA, zB, zC, zD, zE, zF]
    refine tkA (i := 2) hS ?_
    simp only [Act.put, zA, zB, zC, zD, zE, zF]
    refine tkA (i := 3) hS ?_
    simp only [Act.put, zA, zB, zC, zD, zE, zF]
    refine tkA (i := 4) hS ?_
    simp only [Act.put, zA, zB, zC, zD, zE, zF]
    refine anyL_one (i := 5) (by kernel_rfl) rfl (fun K1 hK1 => ?_)
    go_simp
    refine (within_v n 0 6 true hin _).mono ?_
    rintro e u ⟨rfl, rfl⟩
    refine hK1.out _ _ (fun _ => hS) ?_
    clear hK1 K1
    refine tkA (i := 6) hS ?_
    simp only [Act.put, zA, zB, zC, zD, zE, zF]
    refine tkA (i := 7) hS ?_
    simp only [Act.put, zA, zB, zC, zD, zE, zF]
    refine tkA (i := 8) hS ?_
    simp only [Act.put, zA, zB, zC, zD, zE, zF]
    refine tkA (i := 9) hS ?_
    simp only [Act.put, zA, zB, zC, zD, zE, zF]
    refine tkA (i := 10) hS ?_
    simp only [Act.put, zA, zB, zC, zD, zE, zF]
    refine tkA (i := 11) hS ?_
    simp only [Act.put, zA, zB, zC, zD, zE, zF]
    refine tkA (i := 12) hS ?_
    simp only [Act.put, zA, zB, zC, zD, zE, zF]
    refine anyL_one (i := 13) (by kernel_rfl) rfl (fun K1 hK1 => ?_)
    go_simp
    refine (need1_any z _ _ _ HD.out.told).mono ?_
    rintro e v20 ⟨rfl, hd⟩
    have HS := Lib.hid (HD.out.need hd); clear hd; clear i0 i1 i2 i3 i4 i5 i6 i7 i8 i9 i10 i11 i12 i13 i14 n0 n1 fz p0 p1 p2 p3 p4 p5 p6 p7 p8 p9 p10 p11 p12 p13 p14; obtain ⟨i0, i1, i2, i3, i4, i5, i6, i7, i8, i9, i10, i11, i12, i13, i14⟩ := HS.out.cells; obtain ⟨n0, n1, fz⟩ := HS.out.side; obtain ⟨p0, p1, p2, p3, p4, p5, p6, p7, p8, p9, p10, p11, p12, p13, p14⟩ := nv15 HS.out.h6
    refine hK1.out _ _ (fun _ => ⟨_, HS.out⟩) ?_
    clear hK1 K1 hS
    refine anyL_done (by kernel_rfl) ?_ _
    go_wp2_with ((with_reducible refine (arguments_8 n cb co _ i0 i5).mono ?_); rintro e v21 ⟨rfl, rfl⟩; have HS := Lib.hid HS.out.drew)
    obtain ⟨R2, hR2⟩ : ∃ R2, ((R && regOk r.f.regs dst) && true) = R2 := ⟨_, rfl⟩
    have HR2 := Lib.hid hR2
    rw [hR2] at HS; clear hR2
    obtain ⟨m, hm⟩ : ∃ m, argN n = m := ⟨_, rfl⟩
    have HM := Lib.hid hm
    have hm6 : m ≤ 6 := by rw [← hm]; unfold argN; split; omega; split <;> omega
    rw [hm]; clear hm
    clear i0 i1 i2 i3 i4 i5 i6 i7 i8 i9 i10 i11 i12 i13 i14 n0 n1 fz p0 p1 p2 p3 p4 p5 p6 p7 p8 p9 p10 p11 p12 p13 p14
    go_loopw [163] (fun s wr => ∃ k : Nat, k ≤ m ∧ s = .int .i64 k ∧ Hid (InSt w wr z (w.heap.size + 1) w.heap.size v1.heap.size cb co ⟨8, op, dst, a, b, n, text, x0, x1, x2, x3, x4, x5, dest, els⟩ (o8 dst n text x0 x1 x2 x3 x4 x5 k) r (R2 && ([x0, x1, x2, x3, x4, x5].take k).all (regOk r.f.regs)))) (fun s wr => m - (intOf s).toNat)
    case atStart => exact ⟨0, by omega, rfl, Lib.hid (by have := HS.out; simpa [o8, ifN] using this)⟩
    case round =>
      obtain ⟨k, hk, rfl, HA⟩ := hrel
      have HS := HA; clear HA
      obtain ⟨i0, i1, i2, i3, i4, i5, i6, i7, i8, i9, i10, i11, i12, i13, i14⟩ := HS.out.cells; obtain ⟨n0, n1, fz⟩ := HS.out.side; obtain ⟨p0, p1, p2, p3, p4, p5, p6, p7, p8, p9, p10, p11, p12, p13, p14⟩ := nv15 HS.out.h6
      by_cases hlt : k < m
      · have hk6 : k < 6 := by omega
        have xc := HS.out.arg hk6
        obtain ⟨pv, pc⟩ := HS.out.arg6 hk6
        obtain ⟨x, hx⟩ : ∃ x, [x0, x1, x2, x3, x4, x5].getD k 0 = x := ⟨_, rfl⟩
        have HX := Lib.hid hx
        replace xc : wr.cell? ⟨cb, co + 7 + k, none⟩ = some (.int .i64 x) := hx ▸ xc
        clear hx
        have q0 : (0 : Int) ≤ (k : Int) := Int.natCast_nonneg _
        have q1 : (k : Int) < (m : Int) := by omega
        have q2 : (k : Int) < 6 := by omega
        have t1 : decide ((k : Int) < (m : Int)) = true := by simpa using q1
        clear p0 p1 p2 p3 p4 p5 p6 p7 p8 p9 p10 p11 p12 p13 p14
        go_wp2_with ((with_reducible refine (register_any x (w.heap.size + 1) z w.heap.size _ r ⟨hr0, hr1⟩ _ HS.out.told HS.out.hn HS.out.hf).mono ?_); rintro e v22 ⟨rfl, hd⟩; have HS2 := Lib.hid (HS.out.need hd); clear hd pc fz; have fz := HS2.out.side.2.2; obtain ⟨pv, pc⟩ := HS2.out.arg6 hk6)
        go_roundw
        case rel => exact ⟨k + 1, by omega, by go_num, Lib.hid (by have h3 := HS2.out.put8 hk6 HX.out; rw [Bool.and_assoc, ← all_next hk6 HX.out] at h3; exact h3)⟩
        case measure => simp [intOf]; omega
      · obtain rfl : k = m := by omega
        have t1 : decide ((k : Int) < (k : Int)) = false := by simp
        go_wp2
        obtain ⟨q, hq⟩ : ∃ q, decide ((⟨8, op, dst, a, b, n, text, x0, x1, x2, x3, x4, x5, dest, els⟩ : Ins) = o8 dst n text x0 x1 x2 x3 x4 x5 k) = q := ⟨_, rfl⟩
        have heq : ∀ W, (binOp .eql 46 (inV ⟨8, op, dst, a, b, n, text, x0, x1, x2, x3, x4, x5, dest, els⟩) (inV (o8 dst n text x0 x1 x2 x3 x4 x5 k))).run Try.prog W = .ok (.bool q) W := fun W => hq ▸ in_eql _ _ W
        dsimp only [inV, o8] at heq
        have HQ := Lib.hid hq; clear hq
        refine region_last (fun W => ∃ R, InSt w W z (w.heap.size + 1) w.heap.size v1.heap.size cb co (⟨8, op, dst, a, b, n, text, x0, x1, x2, x3, x4, x5, dest, els⟩ : Ins) (o8 dst n text x0 x1 x2 x3 x4 x5 k) r R) 1000000 hmix ?_
        have HD := Lib.hid HS.out.drew
        have hS : (fun W => ∃ R, InSt w W z (w.heap.size + 1) w.heap.size v1.heap.size cb co (⟨8, op, dst, a, b, n, text, x0, x1, x2, x3, x4, x5, dest, els⟩ : Ins) (o8 dst n text x0 x1 x2 x3 x4 x5 k) r R) _ := ⟨_, HD.out⟩
        refine tkC (i := 0) hS ?_
        simp only [Act.put, zA, zB, zC, zD, zE, zF]
        refine tkC (i := 1) hS ?_
        simp only [Act.put, zA, zB, zC, zD, zE, zF]
        refine tkC (i := 2) hS ?_
        simp only [Act.put, zA, zB, zC, zD, zE, zF]
        refine tkC (i := 3) hS ?_
        simp only [Act.put, zA, zB, zC, zD, zE, zF]
        refine tkC (i := 4) hS ?_
        simp only [Act.put, zA, zB, zC, zD, zE, zF]
        refine anyL_one (i := 5) (by kernel_rfl) rfl (fun K1 hK1 => ?_)
        go_simp
        refine (within_v 8 1 13 true (by decide) _).mono ?_
        rintro e u ⟨rfl, rfl⟩
        refine hK1.out _ _ (fun _ => hS) ?_
        clear hK1 K1
        refine tkC (i := 6) hS ?_
        simp only [Act.put, zA, zB, zC, zD, zE, zF]
        refine tkC (i := 7) hS ?_
        simp only [Act.put, zA, zB, zC, zD, zE, zF]
        refine tkC (i := 8) hS ?_
        simp only [Act.put, zA, zB, zC, zD, zE, zF]
        refine tkC (i := 9) hS ?_
        simp only [Act.put, zA, zB, zC, zD, zE, zF]
        refine tkC (i := 10) hS ?_
        simp only [Act.put, zA, zB, zC, zD, zE, zF]
        refine tkC (i := 11) hS ?_
        simp only [Act.put, zA, zB, zC, zD, zE, zF]
        refine tkC (i := 12) hS ?_
        simp only [Act.put, zA, zB, zC, zD, zE, zF]
        refine anyL_one (i := 13) (by kernel_rfl) rfl (fun K1 hK1 => ?_)
        go_simp
        refine (need1_any z _ _ _ HD.out.told).mono ?_
        rintro e v32 ⟨rfl, hd⟩
        have HS := Lib.hid (HD.out.need hd); clear hd; clear i0 i1 i2 i3 i4 i5 i6 i7 i8 i9 i10 i11 i12 i13 i14 n0 n1 fz p0 p1 p2 p3 p4 p5 p6 p7 p8 p9 p10 p11 p12 p13 p14; obtain ⟨i0, i1, i2, i3, i4, i5, i6, i7, i8, i9, i10, i11, i12, i13, i14⟩ := HS.out.cells; obtain ⟨n0, n1, fz⟩ := HS.out.side; obtain ⟨p0, p1, p2, p3, p4, p5, p6, p7, p8, p9, p10, p11, p12, p13, p14⟩ := nv15 HS.out.h6
        refine hK1.out _ _ (fun _ => ⟨_, HS.out⟩) ?_
        clear hK1 K1 hS
        refine anyL_done (by kernel_rfl) ?_ _
        go_wp2
        go_end0
        exact ⟨rfl, told_8b op dst a b n text x0 x1 x2 x3 x4 x5 dest els r R k true HDS.out HM.out (.inr (.inr ⟨hin, HTX.out, rfl⟩)) ▸ HR2.out ▸ HQ.out ▸ HS.out.nd⟩
end Go.Proofs.Ytgnpbodhjmappaa
