/-
  Layer 7: a step of the machine, by kinds.
  Layer 7: a step of the machine, by kinds.
  Layer 7: a step of the machine, lemmas.
-/
import Derived.Test.YtmcpfjhdeplgmaaQLeave
namespace Go.Proofs.Ytmcpfjhdeplgmaa
open Go.RowKit Cd Go.Maps
set_option linter.unusedVariables false
set_option linter.unusedSimpArgs false
variable {w0 w w' : World} {U : UnR} {N : Nat} {b : Blk} {M : Mac} {V : MV}
set_option maxRecDepth 100000 in
set_option maxHeartbeats 4000000 in
theorem step_1 (h : MacAt w0 w U N b M V) (hU : UnAt w0 w0.heap.size U) (hfu : 0 < M.fuel ∧ M.fuel ≤ 1000000) (ini : List Cal) (c : Cal) (hc : M.calls = ini ++ [c]) (rr : FnR) (hrr : U.fs[c.k]? = some rr) (p : Nat) (hp : c.pos = p) (i : Ins) (hi : rr.f.code[p]? = some i) (hpl : p ≤ 1000000)
    (h1 : i.kind = 1) (hst : StIn M i) : Calls Try.prog 33 #[mP b] w (MPost w0 U N b w V (mset (onM M ini c) i.dst i.n) (.tuple #[])) := by
  have hmix : Try.prog.follows .mixedOrders = true := by kernel_rfl
  obtain ⟨cb, off, hca, hins⟩ := hU.ins hrr hi
  obtain ⟨c0, c1, c2, c3, c4, c5, c6, c7, c8, c9, c10, c11, c12, c13⟩ := h.cells
  obtain ⟨ca, cc, hvc, hcn, hcm, hcf⟩ := row_parts h.calls
  have hcll : M.calls.length = ini.length + 1 := by rw [hc]; simp
  obtain ⟨cg, hcga, hcg, hcgw, hccell⟩ : ∃ g, ca = some ⟨g, 0, none⟩ ∧ N ≤ g ∧ g < w.heap.size ∧ ∀ (j : Nat) (u : Value), (M.calls.flatMap (calCells U))[j]? = some u → w.cell? ⟨g, j, none⟩ = some u := by
    rcases hcf with ⟨_, h1, _⟩ | h1
    · omega
    · exact h1
  subst hcga
  have hcv : codeV U c.k = .slice (some ⟨cb, off, none⟩) rr.f.code.length rr.cc := by unfold codeV; rw [hrr, ← hca]
  have hcc : ∀ j, j < 5 → w.cell? ⟨cg, ini.length * 5 + j, none⟩ = (calCells U c)[j]? := fun j hj => by
    obtain ⟨u, hu⟩ : ∃ u, (calCells U c)[j]? = some u := ⟨_, List.getElem?_eq_getElem (by rw [calCells_len]; exact hj)⟩
    rw [hu]
    exact hccell _ u (by rw [hc, calls_last j hj, hu])
  have k0 : w.cell? ⟨cg, ini.length * 5, none⟩ = some (.slice (some ⟨cb, off, none⟩) rr.f.code.length rr.cc) := by rw [← hcv]; exact hcc 0 (by omega)
  have k1 : w.cell? ⟨cg, ini.length * 5 + 1, none⟩ = some (.int .i64 p) := by rw [← hp]; exact hcc 1 (by omega)
  have k2 : w.cell? ⟨cg, ini.length * 5 + 2, none⟩ = some (.int .i64 c.frame) := hcc 2 (by omega)
  have kf : ∀ j, w.frozen? ⟨cg, j, none⟩ = false := fun j => by
    obtain ⟨_, ⟨h0, _⟩ | ⟨g', cap', cur, hv, _, hh, _⟩⟩ := h.calls
    · rw [hvc] at h0; cases h0
    · rw [hvc] at hv
      injection hv with hv _ _
      injection hv with hv
      injection hv with hv _ _
      subst hv
      simp [World.frozen?, hh]
  obtain ⟨m, hm⟩ : ∃ m, ini.length = m := ⟨_, rfl⟩
  rw [hvc, hcll, hm] at c8
  rw [hm] at k0 k1 k2
  have HVC : Hid (V.vc = .slice (some ⟨cg, 0, none⟩) (m + 1) cc) := Lib.hid (by rw [hvc, hcll, hm])
  have HM := Lib.hid hm; have HCC := Lib.hid hc; have HI := Lib.hid hins; have HPP := Lib.hid hp; have HST := Lib.hid (hst.on hc); have HU := Lib.hid hU; have HK := Lib.hid h1
  have f1 := h.fz 4106
  have kf1 := kf (m * 5 + 1)
  have H := Lib.hid h
  have hpn : p < rr.f.code.length := (List.getElem?_eq_some_iff.1 hi).1
  obtain ⟨cn, hcnE⟩ : ∃ cn, rr.f.code.length = cn := ⟨_, rfl⟩
  rw [hcnE] at k0 hpn
  have e3 : ¬ cb = cg := by have := hins.lt; have := h.lo.1; have := h.hi.1; omega
  have e4 : ¬ cg = cb := fun e => e3 e.symm
  have e1 : ¬ b.mb = cg := by have := h.hi.1; omega
  have e2 : ¬ cg = b.mb := fun e => e1 e.symm
  have mbw : b.mb < w.heap.size := lt_heap h.box
  have hcl : m + 1 ≤ 1000001 := by have := hst.c; omega
  have q0 : (0 : Int) ≤ (m : Int) := Int.natCast_nonneg _
  have hw1 : IntKind.i64.wrap ((m : Int) + 1 - 1) = (m : Int) := by rw [IntKind.wrap_i64]; omega
  have hw3 : IntKind.i64.wrap (m : Int) = (m : Int) := by rw [IntKind.wrap_i64]; omega
  have hix : ∀ W, (Instr.indexAt 65 (.slice (some ⟨cg, 0, none⟩) (m + 1) cc) (.int .i64 m)).run Try.prog W = .ok (.pointer (some ⟨cg, m * 5, none⟩)) W := fun W => by
    have q1 : (m : Int) < ((m + 1 : Nat) : Int) := by omega
    have q0 : (0 : Int) ≤ (m : Int) := Int.natCast_nonneg _
    go_simp
    all_goals (intro h; omega)
  have q5 : (m : Int) < (m : Int) + 1 := by omega
  have q1 : (0 : Int) ≤ (p : Int) := Int.natCast_nonneg _
  have q2 : (p : Int) < (cn : Int) := by omega
  have q3 : (p : Int) ≤ 1000000 := by omega
  have wf : IntKind.i64.wrap (M.fuel - 1) = M.fuel - 1 := by rw [IntKind.wrap_i64]; omega
  have tf : (M.fuel == 0) = false := by simp; omega
  have wp1 : IntKind.i64.wrap ((p : Int) + 1) = (p : Int) + 1 := by rw [IntKind.wrap_i64]; omega
  clear hcv hcc hccell hca hcnE hc hcll hm hp hins hst hU h1 hi hrr hcf kf hvc h c0 c1 c2 c3 c4 c5 c6 c7 c9 c11 c12 c13
  go_enter Try.func33, Try.ntmps33
  go_wp2
  obtain ⟨wA, hwA⟩ : ∃ wA : World, w.setCell ⟨b.mb, 4106, none⟩ (.int .i64 (M.fuel - 1)) = wA := ⟨_, rfl⟩
  have HA : Hid (MacAt w0 wA U N b { M with fuel := M.fuel - 1 } V) := Lib.hid (by rw [← hwA]; exact H.out.field (M' := { M with fuel := M.fuel - 1 }) 6 (.int .i64 (M.fuel - 1)) rfl rfl rfl rfl rfl rfl rfl rfl)
  have HVA := Lib.hid (show Mov b w V wA V by rw [← hwA]; exact Mov.cell b w V (.inl rfl) 4106 (.int .i64 (M.fuel - 1)))
  have hcg1 : wA.heap[cg]? = w.heap[cg]? := by rw [← hwA]; exact heap_other7 e2
  have k0' := (cell_blk7 hcg1 (m * 5)).trans k0
  have k1' := (cell_blk7 hcg1 (m * 5 + 1)).trans k1
  have k2' := (cell_blk7 hcg1 (m * 5 + 2)).trans k2
  have kf1' : wA.frozen? ⟨cg, m * 5 + 1, none⟩ = false := by rw [← kf1]; unfold World.frozen?; simp only [hcg1]
  rw [hwA]
  obtain ⟨_, _, _, _, _, _, _, _, d8, _⟩ := HA.out.cells
  rw [HVC.out] at d8
  have d8' : wA.cell? ⟨b.mb, 4104, none⟩ = some (.slice (some ⟨cg, 0, none⟩) (m + 1) cc) := by
    rw [d8]
  have j0 : wA.cell? ⟨cb, off + p * 15, none⟩ = some (.int .i64 1) := by rw [← HK.out]; exact HA.out.ins HI.out 0 _ rfl
  clear hwA k0 k1 k2 kf1 c8 c10 f1 d8 hcg1
  go_region_held3 (fun w' => w'.cell? ⟨b.mb, 4104, none⟩ = some (.slice (some ⟨cg, 0, none⟩) (m + 1) cc)) (go_keep) (fail)
  go_wp2
  go_region_held3 (fun w' => w'.cell? ⟨cg, m * 5, none⟩ = some (.slice (some ⟨cb, off, none⟩) cn rr.cc) ∧ w'.cell? ⟨cg, m * 5 + 1, none⟩ = some (.int .i64 p)) (go_keep) (fail)
  have HB0 : Hid (MacAt w0 (wA.setCell ⟨cg, m * 5 + 1, none⟩ (.int .i64 ((p : Int) + 1))).drew.drew U N b (onM M ini c) V) := Lib.hid (by
    have := (HA.out.keep ((Below.refl _ wA).drew.drew)).setPos HCC.out HVC.out (c.pos + 1)
    rw [HPP.out, HM.out] at this
    unfold onM
    rw [HPP.out]
    exact this)
  have HVB0 : Hid (Mov b w V (wA.setCell ⟨cg, m * 5 + 1, none⟩ (.int .i64 ((p : Int) + 1))).drew.drew V) := Lib.hid ((HVA.out.trans (Mov.of_below ((Below.refl _ wA).drew.drew))).trans (Mov.pos HVC.out _ _))
  go_wp2
  obtain ⟨wB, hwB⟩ : ∃ wB : World, (wA.setCell ⟨cg, m * 5 + 1, none⟩ (.int .i64 ((p : Int) + 1))).drew.drew = wB := ⟨_, rfl⟩
  have HB : Hid (MacAt w0 wB U N b (onM M ini c) V) := Lib.hid (by rw [← hwB]; exact HB0.out)
  have HVB : Hid (Mov b w V wB V) := Lib.hid (by rw [← hwB]; exact HVB0.out)
  rw [hwB]
  clear HB0 HVB0
  refine region_last (fun W : World => ∃ (M' : Mac) (V' : MV), MacAt w0 W U N b M' V') 1000000 hmix ?_
  have hL : MacAt w0 wB.drew U N b (onM M ini c) V := HB.out.keep ((Below.refl _ wB).drew)
  have hS : (fun W : World => ∃ (M' : Mac) (V' : MV), MacAt w0 W U N b M' V') wB.drew := ⟨_, V, hL⟩
  have HVL := Lib.hid (HVB.out.trans (Mov.of_below ((Below.refl _ wB).drew)))
  refine anyL_takeH (i := 0) (v := ?_) rfl (by decide) (by kernel_rfl) (by kernel_rfl) (by kernel_rfl) (fun _ _ _ h => h) (Or.inl ⟨by rfl, ?_⟩) hS ?_
  rotate_left
  · (intro w' hSw; obtain ⟨M', V', hSm⟩ := hSw; have s2 : w'.cell? ⟨cb, off + p * 15 + 2, none⟩ = some (.int .i64 i.dst) := hSm.ins HI.out 2 _ rfl; have s3 : w'.cell? ⟨cb, off + p * 15 + 3, none⟩ = some (.int .i64 i.a) := hSm.ins HI.out 3 _ rfl; have s5 : w'.cell? ⟨cb, off + p * 15 + 5, none⟩ = some (.int .i64 i.n) := hSm.ins HI.out 5 _ rfl; clear hSm; go_simp; first | done | with_reducible rfl)
  simp only [Act.put, List.getElem_toArray, List.getElem_cons_succ, List.getElem_cons_zero, List.setIfInBounds_toArray, List.set_cons_succ, List.set_cons_zero]
  refine anyL_takeH (i := 1) (v := ?_) rfl (by decide) (by kernel_rfl) (by kernel_rfl) (by kernel_rfl) (fun _ _ _ h => h) (Or.inl ⟨by rfl, ?_⟩) hS ?_
  rotate_left
  · (intro w' hSw; obtain ⟨M', V', hSm⟩ := hSw; have s2 : w'.cell? ⟨cb, off + p * 15 + 2, none⟩ = some (.int .i64 i.dst) := hSm.ins HI.out 2 _ rfl; have s3 : w'.cell? ⟨cb, off + p * 15 + 3, none⟩ = some (.int .i64 i.a) := hSm.ins HI.out 3 _ rfl; have s5 : w'.cell? ⟨cb, off + p * 15 + 5, none⟩ = some (.int .i64 i.n) := hSm.ins HI.out 5 _ rfl; clear hSm; go_simp; first | done | with_reducible rfl)
  simp only [Act.put, List.getElem_toArray, List.getElem_cons_succ, List.getElem_cons_zero, List.setIfInBounds_toArray, List.set_cons_succ, List.set_cons_zero]
  refine anyL_takeH (i := 2) (v := ?_) rfl (by decide) (by kernel_rfl) (by kernel_rfl) (by kernel_rfl) (fun _ _ _ h => h) (Or.inl ⟨by rfl, ?_⟩) hS ?_
  rotate_left
  · (intro w' hSw; obtain ⟨M', V', hSm⟩ := hSw; have s2 : w'.cell? ⟨cb, off + p * 15 + 2, none⟩ = some (.int .i64 i.dst) := hSm.ins HI.out 2 _ rfl; have s3 : w'.cell? ⟨cb, off + p * 15 + 3, none⟩ = some (.int .i64 i.a) := hSm.ins HI.out 3 _ rfl; have s5 : w'.cell? ⟨cb, off + p * 15 + 5, none⟩ = some (.int .i64 i.n) := hSm.ins HI.out 5 _ rfl; clear hSm; go_simp; first | done | with_reducible rfl)
  simp only [Act.put, List.getElem_toArray, List.getElem_cons_succ, List.getElem_cons_zero, List.setIfInBounds_toArray, List.set_cons_succ, List.set_cons_zero]
  refine anyL_takeH (i := 3) (v := ?_) rfl (by decide) (by kernel_rfl) (by kernel_rfl) (by kernel_rfl) (fun _ _ _ h => h) (Or.inl ⟨by rfl, ?_⟩) hS ?_
  rotate_left
  · (intro w' hSw; obtain ⟨M', V', hSm⟩ := hSw; have s2 : w'.cell? ⟨cb, off + p * 15 + 2, none⟩ = some (.int .i64 i.dst) := hSm.ins HI.out 2 _ rfl; have s3 : w'.cell? ⟨cb, off + p * 15 + 3, none⟩ = some (.int .i64 i.a) := hSm.ins HI.out 3 _ rfl; have s5 : w'.cell? ⟨cb, off + p * 15 + 5, none⟩ = some (.int .i64 i.n) := hSm.ins HI.out 5 _ rfl; clear hSm; go_simp; first | done | with_reducible rfl)
  simp only [Act.put, List.getElem_toArray, List.getElem_cons_succ, List.getElem_cons_zero, List.setIfInBounds_toArray, List.set_cons_succ, List.set_cons_zero]
  refine anyL_takeH (i := 4) (v := ?_) rfl (by decide) (by kernel_rfl) (by kernel_rfl) (by kernel_rfl) (fun _ _ _ h => h) (Or.inl ⟨by rfl, ?_⟩) hS ?_
  rotate_left
  · (intro w' hSw; obtain ⟨M', V', hSm⟩ := hSw; have s2 : w'.cell? ⟨cb, off + p * 15 + 2, none⟩ = some (.int .i64 i.dst) := hSm.ins HI.out 2 _ rfl; have s3 : w'.cell? ⟨cb, off + p * 15 + 3, none⟩ = some (.int .i64 i.a) := hSm.ins HI.out 3 _ rfl; have s5 : w'.cell? ⟨cb, off + p * 15 + 5, none⟩ = some (.int .i64 i.n) := hSm.ins HI.out 5 _ rfl; clear hSm; go_simp; first | done | with_reducible rfl)
  simp only [Act.put, List.getElem_toArray, List.getElem_cons_succ, List.getElem_cons_zero, List.setIfInBounds_toArray, List.set_cons_succ, List.set_cons_zero]
  refine anyL_takeH (i := 5) (v := ?_) rfl (by decide) (by kernel_rfl) (by kernel_rfl) (by kernel_rfl) (fun _ _ _ h => h) (Or.inl ⟨by rfl, ?_⟩) hS ?_
  rotate_left
  · (intro w' hSw; obtain ⟨M', V', hSm⟩ := hSw; have s2 : w'.cell? ⟨cb, off + p * 15 + 2, none⟩ = some (.int .i64 i.dst) := hSm.ins HI.out 2 _ rfl; have s3 : w'.cell? ⟨cb, off + p * 15 + 3, none⟩ = some (.int .i64 i.a) := hSm.ins HI.out 3 _ rfl; have s5 : w'.cell? ⟨cb, off + p * 15 + 5, none⟩ = some (.int .i64 i.n) := hSm.ins HI.out 5 _ rfl; clear hSm; go_simp; first | done | with_reducible rfl)
  simp only [Act.put, List.getElem_toArray, List.getElem_cons_succ, List.getElem_cons_zero, List.setIfInBounds_toArray, List.set_cons_succ, List.set_cons_zero]
  refine anyL_takeH (i := 6) (v := ?_) rfl (by decide) (by kernel_rfl) (by kernel_rfl) (by kernel_rfl) (fun _ _ _ h => h) (Or.inl ⟨by rfl, ?_⟩) hS ?_
  rotate_left
  · (intro w' hSw; obtain ⟨M', V', hSm⟩ := hSw; have s2 : w'.cell? ⟨cb, off + p * 15 + 2, none⟩ = some (.int .i64 i.dst) := hSm.ins HI.out 2 _ rfl; have s3 : w'.cell? ⟨cb, off + p * 15 + 3, none⟩ = some (.int .i64 i.a) := hSm.ins HI.out 3 _ rfl; have s5 : w'.cell? ⟨cb, off + p * 15 + 5, none⟩ = some (.int .i64 i.n) := hSm.ins HI.out 5 _ rfl; clear hSm; go_simp; first | done | with_reducible rfl)
  simp only [Act.put, List.getElem_toArray, List.getElem_cons_succ, List.getElem_cons_zero, List.setIfInBounds_toArray, List.set_cons_succ, List.set_cons_zero]
  refine anyL_takeH (i := 7) (v := ?_) rfl (by decide) (by kernel_rfl) (by kernel_rfl) (by kernel_rfl) (fun _ _ _ h => h) (Or.inl ⟨by rfl, ?_⟩) hS ?_
  rotate_left
  · (intro w' hSw; obtain ⟨M', V', hSm⟩ := hSw; have s2 : w'.cell? ⟨cb, off + p * 15 + 2, none⟩ = some (.int .i64 i.dst) := hSm.ins HI.out 2 _ rfl; have s3 : w'.cell? ⟨cb, off + p * 15 + 3, none⟩ = some (.int .i64 i.a) := hSm.ins HI.out 3 _ rfl; have s5 : w'.cell? ⟨cb, off + p * 15 + 5, none⟩ = some (.int .i64 i.n) := hSm.ins HI.out 5 _ rfl; clear hSm; go_simp; first | done | with_reducible rfl)
  simp only [Act.put, List.getElem_toArray, List.getElem_cons_succ, List.getElem_cons_zero, List.setIfInBounds_toArray, List.set_cons_succ, List.set_cons_zero]
  refine anyL_takeH (i := 8) (v := ?_) rfl (by decide) (by kernel_rfl) (by kernel_rfl) (by kernel_rfl) (fun _ _ _ h => h) (Or.inl ⟨by rfl, ?_⟩) hS ?_
  rotate_left
  · (intro w' hSw; obtain ⟨M', V', hSm⟩ := hSw; have s2 : w'.cell? ⟨cb, off + p * 15 + 2, none⟩ = some (.int .i64 i.dst) := hSm.ins HI.out 2 _ rfl; have s3 : w'.cell? ⟨cb, off + p * 15 + 3, none⟩ = some (.int .i64 i.a) := hSm.ins HI.out 3 _ rfl; have s5 : w'.cell? ⟨cb, off + p * 15 + 5, none⟩ = some (.int .i64 i.n) := hSm.ins HI.out 5 _ rfl; clear hSm; go_simp; first | done | with_reducible rfl)
  simp only [Act.put, List.getElem_toArray, List.getElem_cons_succ, List.getElem_cons_zero, List.setIfInBounds_toArray, List.set_cons_succ, List.set_cons_zero]
  refine anyL_one (i := 9) (by kernel_rfl) rfl (fun K1 hK1 => ?_)
  go_simp
  refine (set_any hL i.dst i.n HST.out.d.1 HST.out.d.2 HST.out.s HST.out.c HST.out.l).mono ?_
  rintro e v ⟨rfl, V2, hm2, hv2⟩
  have hS3 : (fun W : World => ∃ (M' : Mac) (V' : MV), MacAt w0 W U N b M' V') v := ⟨_, V2, hm2⟩
  have HM5 := Lib.hid hm2; have HV5 := Lib.hid (HVL.out.trans hv2); clear hm2 hv2 hS hL
  refine hK1.out _ _ (fun _ => hS3) ?_
  clear hK1 K1 hS3
  refine anyL_done (by kernel_rfl) ?_ _
  go_wp2
  go_end0
  exact ⟨rfl, V2, HM5.out, HV5.out⟩
set_option maxRecDepth 100000 in
set_option maxHeartbeats 4000000 in
theorem step_2 (h : MacAt w0 w U N b M V) (hU : UnAt w0 w0.heap.size U) (hfu : 0 < M.fuel ∧ M.fuel ≤ 1000000) (ini : List Cal) (c : Cal) (hc : M.calls = ini ++ [c]) (rr : FnR) (hrr : U.fs[c.k]? = some rr) (p : Nat) (hp : c.pos = p) (i : Ins) (hi : rr.f.code[p]? = some i) (hpl : p ≤ 1000000)
    (h1 : i.kind = 2) (hst : StIn M i) : Calls Try.prog 33 #[mP b] w (MPost w0 U N b w V (operateM (onM M ini c) i) (.tuple #[])) := by
  have hmix : Try.prog.follows .mixedOrders = true := by kernel_rfl
  obtain ⟨cb, off, hca, hins⟩ := hU.ins hrr hi
  obtain ⟨c0, c1, c2, c3, c4, c5, c6, c7, c8, c9, c10, c11, c12, c13⟩ := h.cells
  obtain ⟨ca, cc, hvc, hcn, hcm, hcf⟩ := row_parts h.calls
  have hcll : M.calls.length = ini.length + 1 := by rw [hc]; simp
  obtain ⟨cg, hcga, hcg, hcgw, hccell⟩ : ∃ g, ca = some ⟨g, 0, none⟩ ∧ N ≤ g ∧ g < w.heap.size ∧ ∀ (j : Nat) (u : Value), (M.calls.flatMap (calCells U))[j]? = some u → w.cell? ⟨g, j, none⟩ = some u := by
    rcases hcf with ⟨_, h1, _⟩ | h1
    · omega
    · exact h1
  subst hcga
  have hcv : codeV U c.k = .slice (some ⟨cb, off, none⟩) rr.f.code.length rr.cc := by unfold codeV; rw [hrr, ← hca]
  have hcc : ∀ j, j < 5 → w.cell? ⟨cg, ini.length * 5 + j, none⟩ = (calCells U c)[j]? := fun j hj => by
    obtain ⟨u, hu⟩ : ∃ u, (calCells U c)[j]? = some u := ⟨_, List.getElem?_eq_getElem (by rw [calCells_len]; exact hj)⟩
    rw [hu]
    exact hccell _ u (by rw [hc, calls_last j hj, hu])
  have k0 : w.cell? ⟨cg, ini.length * 5, none⟩ = some (.slice (some ⟨cb, off, none⟩) rr.f.code.length rr.cc) := by rw [← hcv]; exact hcc 0 (by omega)
  have k1 : w.cell? ⟨cg, ini.length * 5 + 1, none⟩ = some (.int .i64 p) := by rw [← hp]; exact hcc 1 (by omega)
  have k2 : w.cell? ⟨cg, ini.length * 5 + 2, none⟩ = some (.int .i64 c.frame) := hcc 2 (by omega)
  have kf : ∀ j, w.frozen? ⟨cg, j, none⟩ = false := fun j => by
    obtain ⟨_, ⟨h0, _⟩ | ⟨g', cap', cur, hv, _, hh, _⟩⟩ := h.calls
    · rw [hvc] at h0; cases h0
    · rw [hvc] at hv
      injection hv with hv _ _
      injection hv with hv
      injection hv with hv _ _
      subst hv
      simp [World.frozen?, hh]
  obtain ⟨m, hm⟩ : ∃ m, ini.length = m := ⟨_, rfl⟩
  rw [hvc, hcll, hm] at c8
  rw [hm] at k0 k1 k2
  have HVC : Hid (V.vc = .slice (some ⟨cg, 0, none⟩) (m + 1) cc) := Lib.hid (by rw [hvc, hcll, hm])
  have HM := Lib.hid hm; have HCC := Lib.hid hc; have HI := Lib.hid hins; have HPP := Lib.hid hp; have HST := Lib.hid (hst.on hc); have HU := Lib.hid hU; have HK := Lib.hid h1
  have f1 := h.fz 4106
  have kf1 := kf (m * 5 + 1)
  have H := Lib.hid h
  have hpn : p < rr.f.code.length := (List.getElem?_eq_some_iff.1 hi).1
  obtain ⟨cn, hcnE⟩ : ∃ cn, rr.f.code.length = cn := ⟨_, rfl⟩
  rw [hcnE] at k0 hpn
  have e3 : ¬ cb = cg := by have := hins.lt; have := h.lo.1; have := h.hi.1; omega
  have e4 : ¬ cg = cb := fun e => e3 e.symm
  have e1 : ¬ b.mb = cg := by have := h.hi.1; omega
  have e2 : ¬ cg = b.mb := fun e => e1 e.symm
  have mbw : b.mb < w.heap.size := lt_heap h.box
  have hcl : m + 1 ≤ 1000001 := by have := hst.c; omega
  have q0 : (0 : Int) ≤ (m : Int) := Int.natCast_nonneg _
  have hw1 : IntKind.i64.wrap ((m : Int) + 1 - 1) = (m : Int) := by rw [IntKind.wrap_i64]; omega
  have hw3 : IntKind.i64.wrap (m : Int) = (m : Int) := by rw [IntKind.wrap_i64]; omega
  have hix : ∀ W, (Instr.indexAt 65 (.slice (some ⟨cg, 0, none⟩) (m + 1) cc) (.int .i64 m)).run Try.prog W = .ok (.pointer (some ⟨cg, m * 5, none⟩)) W := fun W => by
    have q1 : (m : Int) < ((m + 1 : Nat) : Int) := by omega
    have q0 : (0 : Int) ≤ (m : Int) := Int.natCast_nonneg _
    go_simp
    all_goals (intro h; omega)
  have q5 : (m : Int) < (m : Int) + 1 := by omega
  have q1 : (0 : Int) ≤ (p : Int) := Int.natCast_nonneg _
  have q2 : (p : Int) < (cn : Int) := by omega
  have q3 : (p : Int) ≤ 1000000 := by omega
  have wf : IntKind.i64.wrap (M.fuel - 1) = M.fuel - 1 := by rw [IntKind.wrap_i64]; omega
  have tf : (M.fuel == 0) = false := by simp; omega
  have wp1 : IntKind.i64.wrap ((p : Int) + 1) = (p : Int) + 1 := by rw [IntKind.wrap_i64]; omega
  clear hcv hcc hccell hca hcnE hc hcll hm hp hins hst hU h1 hi hrr hcf kf hvc h c0 c1 c2 c3 c4 c5 c6 c7 c9 c11 c12 c13
  go_enter Try.func33, Try.ntmps33
  go_wp2
  obtain ⟨wA, hwA⟩ : ∃ wA : World, w.setCell ⟨b.mb, 4106, none⟩ (.int .i64 (M.fuel - 1)) = wA := ⟨_, rfl⟩
  have HA : Hid (MacAt w0 wA U N b { M with fuel := M.fuel - 1 } V) := Lib.hid (by rw [← hwA]; exact H.out.field (M' := { M with fuel := M.fuel - 1 }) 6 (.int .i64 (M.fuel - 1)) rfl rfl rfl rfl rfl rfl rfl rfl)
  have HVA := Lib.hid (show Mov b w V wA V by rw [← hwA]; exact Mov.cell b w V (.inl rfl) 4106 (.int .i64 (M.fuel - 1)))
  have hcg1 : wA.heap[cg]? = w.heap[cg]? := by rw [← hwA]; exact heap_other7 e2
  have k0' := (cell_blk7 hcg1 (m * 5)).trans k0
  have k1' := (cell_blk7 hcg1 (m * 5 + 1)).trans k1
  have k2' := (cell_blk7 hcg1 (m * 5 + 2)).trans k2
  have kf1' : wA.frozen? ⟨cg, m * 5 + 1, none⟩ = false := by rw [← kf1]; unfold World.frozen?; simp only [hcg1]
  rw [hwA]
  obtain ⟨_, _, _, _, _, _, _, _, d8, _⟩ := HA.out.cells
  rw [HVC.out] at d8
  have d8' : wA.cell? ⟨b.mb, 4104, none⟩ = some (.slice (some ⟨cg, 0, none⟩) (m + 1) cc) := by
    rw [d8]
  have j0 : wA.cell? ⟨cb, off + p * 15, none⟩ = some (.int .i64 2) := by rw [← HK.out]; exact HA.out.ins HI.out 0 _ rfl
  clear hwA k0 k1 k2 kf1 c8 c10 f1 d8 hcg1
  go_region_held3 (fun w' => w'.cell? ⟨b.mb, 4104, none⟩ = some (.slice (some ⟨cg, 0, none⟩) (m + 1) cc)) (go_keep) (fail)
  go_wp2
  go_region_held3 (fun w' => w'.cell? ⟨cg, m * 5, none⟩ = some (.slice (some ⟨cb, off, none⟩) cn rr.cc) ∧ w'.cell? ⟨cg, m * 5 + 1, none⟩ = some (.int .i64 p)) (go_keep) (fail)
  have HB0 : Hid (MacAt w0 (wA.setCell ⟨cg, m * 5 + 1, none⟩ (.int .i64 ((p : Int) + 1))).drew.drew U N b (onM M ini c) V) := Lib.hid (by
    have := (HA.out.keep ((Below.refl _ wA).drew.drew)).setPos HCC.out HVC.out (c.pos + 1)
    rw [HPP.out, HM.out] at this
    unfold onM
    rw [HPP.out]
    exact this)
  have HVB0 : Hid (Mov b w V (wA.setCell ⟨cg, m * 5 + 1, none⟩ (.int .i64 ((p : Int) + 1))).drew.drew V) := Lib.hid ((HVA.out.trans (Mov.of_below ((Below.refl _ wA).drew.drew))).trans (Mov.pos HVC.out _ _))
  go_wp2_with ((with_reducible refine (operate_any HB0.out i cb (off + p * 15) HI.out HST.out).mono ?_); rintro e v ⟨rfl, V2, hm2, hv2⟩; have HM5 := Lib.hid hm2; have HV5 := Lib.hid (HVB0.out.trans hv2); clear hm2 hv2)
  go_end0
  exact ⟨rfl, V2, HM5.out, HV5.out⟩
set_option maxRecDepth 100000 in
set_option maxHeartbeats 4000000 in
theorem step_3 (h : MacAt w0 w U N b M V) (hU : UnAt w0 w0.heap.size U) (hfu : 0 < M.fuel ∧ M.fuel ≤ 1000000) (ini : List Cal) (c : Cal) (hc : M.calls = ini ++ [c]) (rr : FnR) (hrr : U.fs[c.k]? = some rr) (p : Nat) (hp : c.pos = p) (i : Ins) (hi : rr.f.code[p]? = some i) (hpl : p ≤ 1000000)
    (h1 : i.kind = 3) (hst : StIn M i) : Calls Try.prog 33 #[mP b] w (MPost w0 U N b w V (operateM (onM M ini c) i) (.tuple #[])) := by
  have hmix : Try.prog.follows .mixedOrders = true := by kernel_rfl
  obtain ⟨cb, off, hca, hins⟩ := hU.ins hrr hi
  obtain ⟨c0, c1, c2, c3, c4, c5, c6, c7, c8, c9, c10, c11, c12, c13⟩ := h.cells
  obtain ⟨ca, cc, hvc, hcn, hcm, hcf⟩ := row_parts h.calls
  have hcll : M.calls.length = ini.length + 1 := by rw [hc]; simp
  obtain ⟨cg, hcga, hcg, hcgw, hccell⟩ : ∃ g, ca = some ⟨g, 0, none⟩ ∧ N ≤ g ∧ g < w.heap.size ∧ ∀ (j : Nat) (u : Value), (M.calls.flatMap (calCells U))[j]? = some u → w.cell? ⟨g, j, none⟩ = some u := by
    rcases hcf with ⟨_, h1, _⟩ | h1
    · omega
    · exact h1
  subst hcga
  have hcv : codeV U c.k = .slice (some ⟨cb, off, none⟩) rr.f.code.length rr.cc := by unfold codeV; rw [hrr, ← hca]
  have hcc : ∀ j, j < 5 → w.cell? ⟨cg, ini.length * 5 + j, none⟩ = (calCells U c)[j]? := fun j hj => by
    obtain ⟨u, hu⟩ : ∃ u, (calCells U c)[j]? = some u := ⟨_, List.getElem?_eq_getElem (by rw [calCells_len]; exact hj)⟩
    rw [hu]
    exact hccell _ u (by rw [hc, calls_last j hj, hu])
  have k0 : w.cell? ⟨cg, ini.length * 5, none⟩ = some (.slice (some ⟨cb, off, none⟩) rr.f.code.length rr.cc) := by rw [← hcv]; exact hcc 0 (by omega)
  have k1 : w.cell? ⟨cg, ini.length * 5 + 1, none⟩ = some (.int .i64 p) := by rw [← hp]; exact hcc 1 (by omega)
  have k2 : w.cell? ⟨cg, ini.length * 5 + 2, none⟩ = some (.int .i64 c.frame) := hcc 2 (by omega)
  have kf : ∀ j, w.frozen? ⟨cg, j, none⟩ = false := fun j => by
    obtain ⟨_, ⟨h0, _⟩ | ⟨g', cap', cur, hv, _, hh, _⟩⟩ := h.calls
    · rw [hvc] at h0; cases h0
    · rw [hvc] at hv
      injection hv with hv _ _
      injection hv with hv
      injection hv with hv _ _
      subst hv
      simp [World.frozen?, hh]
  obtain ⟨m, hm⟩ : ∃ m, ini.length = m := ⟨_, rfl⟩
  rw [hvc, hcll, hm] at c8
  rw [hm] at k0 k1 k2
  have HVC : Hid (V.vc = .slice (some ⟨cg, 0, none⟩) (m + 1) cc) := Lib.hid (by rw [hvc, hcll, hm])
  have HM := Lib.hid hm; have HCC := Lib.hid hc; have HI := Lib.hid hins; have HPP := Lib.hid hp; have HST := Lib.hid (hst.on hc); have HU := Lib.hid hU; have HK := Lib.hid h1
  have f1 := h.fz 4106
  have kf1 := kf (m * 5 + 1)
  have H := Lib.hid h
  have hpn : p < rr.f.code.length := (List.getElem?_eq_some_iff.1 hi).1
  obtain ⟨cn, hcnE⟩ : ∃ cn, rr.f.code.length = cn := ⟨_, rfl⟩
  rw [hcnE] at k0 hpn
  have e3 : ¬ cb = cg := by have := hins.lt; have := h.lo.1; have := h.hi.1; omega
  have e4 : ¬ cg = cb := fun e => e3 e.symm
  have e1 : ¬ b.mb = cg := by have := h.hi.1; omega
  have e2 : ¬ cg = b.mb := fun e => e1 e.symm
  have mbw : b.mb < w.heap.size := lt_heap h.box
  have hcl : m + 1 ≤ 1000001 := by have := hst.c; omega
  have q0 : (0 : Int) ≤ (m : Int) := Int.natCast_nonneg _
  have hw1 : IntKind.i64.wrap ((m : Int) + 1 - 1) = (m : Int) := by rw [IntKind.wrap_i64]; omega
  have hw3 : IntKind.i64.wrap (m : Int) = (m : Int) := by rw [IntKind.wrap_i64]; omega
  have hix : ∀ W, (Instr.indexAt 65 (.slice (some ⟨cg, 0, none⟩) (m + 1) cc) (.int .i64 m)).run Try.prog W = .ok (.pointer (some ⟨cg, m * 5, none⟩)) W := fun W => by
    have q1 : (m : Int) < ((m + 1 : Nat) : Int) := by omega
    have q0 : (0 : Int) ≤ (m : Int) := Int.natCast_nonneg _
    go_simp
    all_goals (intro h; omega)
  have q5 : (m : Int) < (m : Int) + 1 := by omega
  have q1 : (0 : Int) ≤ (p : Int) := Int.natCast_nonneg _
  have q2 : (p : Int) < (cn : Int) := by omega
  have q3 : (p : Int) ≤ 1000000 := by omega
  have wf : IntKind.i64.wrap (M.fuel - 1) = M.fuel - 1 := by rw [IntKind.wrap_i64]; omega
  have tf : (M.fuel == 0) = false := by simp; omega
  have wp1 : IntKind.i64.wrap ((p : Int) + 1) = (p : Int) + 1 := by rw [IntKind.wrap_i64]; omega
  clear hcv hcc hccell hca hcnE hc hcll hm hp hins hst hU h1 hi hrr hcf kf hvc h c0 c1 c2 c3 c4 c5 c6 c7 c9 c11 c12 c13
  go_enter Try.func33, Try.ntmps33
  go_wp2
  obtain ⟨wA, hwA⟩ : ∃ wA : World, w.setCell ⟨b.mb, 4106, none⟩ (.int .i64 (M.fuel - 1)) = wA := ⟨_, rfl⟩
  have HA : Hid (MacAt w0 wA U N b { M with fuel := M.fuel - 1 } V) := Lib.hid (by rw [← hwA]; exact H.out.field (M' := { M with fuel := M.fuel - 1 }) 6 (.int .i64 (M.fuel - 1)) rfl rfl rfl rfl rfl rfl rfl rfl)
  have HVA := Lib.hid (show Mov b w V wA V by rw [← hwA]; exact Mov.cell b w V (.inl rfl) 4106 (.int .i64 (M.fuel - 1)))
  have hcg1 : wA.heap[cg]? = w.heap[cg]? := by rw [← hwA]; exact heap_other7 e2
  have k0' := (cell_blk7 hcg1 (m * 5)).trans k0
  have k1' := (cell_blk7 hcg1 (m * 5 + 1)).trans k1
  have k2' := (cell_blk7 hcg1 (m * 5 + 2)).trans k2
  have kf1' : wA.frozen? ⟨cg, m * 5 + 1, none⟩ = false := by rw [← kf1]; unfold World.frozen?; simp only [hcg1]
  rw [hwA]
  obtain ⟨_, _, _, _, _, _, _, _, d8, _⟩ := HA.out.cells
  rw [HVC.out] at d8
  have d8' : wA.cell? ⟨b.mb, 4104, none⟩ = some (.slice (some ⟨cg, 0, none⟩) (m + 1) cc) := by
    rw [d8]
  have j0 : wA.cell? ⟨cb, off + p * 15, none⟩ = some (.int .i64 3) := by rw [← HK.out]; exact HA.out.ins HI.out 0 _ rfl
  clear hwA k0 k1 k2 kf1 c8 c10 f1 d8 hcg1
  go_region_held3 (fun w' => w'.cell? ⟨b.mb, 4104, none⟩ = some (.slice (some ⟨cg, 0, none⟩) (m + 1) cc)) (go_keep) (fail)
  go_wp2
  go_region_held3 (fun w' => w'.cell? ⟨cg, m * 5, none⟩ = some (.slice (some ⟨cb, off, none⟩) cn rr.cc) ∧ w'.cell? ⟨cg, m * 5 + 1, none⟩ = some (.int .i64 p)) (go_keep) (fail)
  have HB0 : Hid (MacAt w0 (wA.setCell ⟨cg, m * 5 + 1, none⟩ (.int .i64 ((p : Int) + 1))).drew.drew U N b (onM M ini c) V) := Lib.hid (by
    have := (HA.out.keep ((Below.refl _ wA).drew.drew)).setPos HCC.out HVC.out (c.pos + 1)
    rw [HPP.out, HM.out] at this
    unfold onM
    rw [HPP.out]
    exact this)
  have HVB0 : Hid (Mov b w V (wA.setCell ⟨cg, m * 5 + 1, none⟩ (.int .i64 ((p : Int) + 1))).drew.drew V) := Lib.hid ((HVA.out.trans (Mov.of_below ((Below.refl _ wA).drew.drew))).trans (Mov.pos HVC.out _ _))
  go_wp2_with ((with_reducible refine (operate_any HB0.out i cb (off + p * 15) HI.out HST.out).mono ?_); rintro e v ⟨rfl, V2, hm2, hv2⟩; have HM5 := Lib.hid hm2; have HV5 := Lib.hid (HVB0.out.trans hv2); clear hm2 hv2)
  go_end0
  exact ⟨rfl, V2, HM5.out, HV5.out⟩
set_option maxRecDepth 100000 in
set_option maxHeartbeats 4000000 in
theorem step_4 (h : MacAt w0 w U N b M V) (hU : UnAt w0 w0.heap.size U) (hfu : 0 < M.fuel ∧ M.fuel ≤ 1000000) (ini : List Cal) (c : Cal) (hc : M.calls = ini ++ [c]) (rr : FnR) (hrr : U.fs[c.k]? = some rr) (p : Nat) (hp : c.pos = p) (i : Ins) (hi : rr.f.code[p]? = some i) (hpl : p ≤ 1000000)
    (h1 : i.kind = 4) (hst : StIn M i) : Calls Try.prog 33 #[mP b] w (MPost w0 U N b w V (mset (onM M ini c) i.dst (mget (onM M ini c) i.a)) (.tuple #[])) := by
  have hmix : Try.prog.follows .mixedOrders = true := by kernel_rfl
  obtain ⟨cb, off, hca, hins⟩ := hU.ins hrr hi
  obtain ⟨c0, c1, c2, c3, c4, c5, c6, c7, c8, c9, c10, c11, c12, c13⟩ := h.cells
  obtain ⟨ca, cc, hvc, hcn, hcm, hcf⟩ := row_parts h.calls
  have hcll : M.calls.length = ini.length + 1 := by rw [hc]; simp
  obtain ⟨cg, hcga, hcg, hcgw, hccell⟩ : ∃ g, ca = some ⟨g, 0, none⟩ ∧ N ≤ g ∧ g < w.heap.size ∧ ∀ (j : Nat) (u : Value), (M.calls.flatMap (calCells U))[j]? = some u → w.cell? ⟨g, j, none⟩ = some u := by
    rcases hcf with ⟨_, h1, _⟩ | h1
    · omega
    · exact h1
  subst hcga
  have hcv : codeV U c.k = .slice (some ⟨cb, off, none⟩) rr.f.code.length rr.cc := by unfold codeV; rw [hrr, ← hca]
  have hcc : ∀ j, j < 5 → w.cell? ⟨cg, ini.length * 5 + j, none⟩ = (calCells U c)[j]? := fun j hj => by
    obtain ⟨u, hu⟩ : ∃ u, (calCells U c)[j]? = some u := ⟨_, List.getElem?_eq_getElem (by rw [calCells_len]; exact hj)⟩
    rw [hu]
    exact hccell _ u (by rw [hc, calls_last j hj, hu])
  have k0 : w.cell? ⟨cg, ini.length * 5, none⟩ = some (.slice (some ⟨cb, off, none⟩) rr.f.code.length rr.cc) := by rw [← hcv]; exact hcc 0 (by omega)
  have k1 : w.cell? ⟨cg, ini.length * 5 + 1, none⟩ = some (.int .i64 p) := by rw [← hp]; exact hcc 1 (by omega)
  have k2 : w.cell? ⟨cg, ini.length * 5 + 2, none⟩ = some (.int .i64 c.frame) := hcc 2 (by omega)
  have kf : ∀ j, w.frozen? ⟨cg, j, none⟩ = false := fun j => by
    obtain ⟨_, ⟨h0, _⟩ | ⟨g', cap', cur, hv, _, hh, _⟩⟩ := h.calls
    · rw [hvc] at h0; cases h0
    · rw [hvc] at hv
      injection hv with hv _ _
      injection hv with hv
      injection hv with hv _ _
      subst hv
      simp [World.frozen?, hh]
  obtain ⟨m, hm⟩ : ∃ m, ini.length = m := ⟨_, rfl⟩
  rw [hvc, hcll, hm] at c8
  rw [hm] at k0 k1 k2
  have HVC : Hid (V.vc = .slice (some ⟨cg, 0, none⟩) (m + 1) cc) := Lib.hid (by rw [hvc, hcll, hm])
  have HM := Lib.hid hm; have HCC := Lib.hid hc; have HI := Lib.hid hins; have HPP := Lib.hid hp; have HST := Lib.hid (hst.on hc); have HU := Lib.hid hU; have HK := Lib.hid h1
  have f1 := h.fz 4106
  have kf1 := kf (m * 5 + 1)
  have H := Lib.hid h
  have hpn : p < rr.f.code.length := (List.getElem?_eq_some_iff.1 hi).1
  obtain ⟨cn, hcnE⟩ : ∃ cn, rr.f.code.length = cn := ⟨_, rfl⟩
  rw [hcnE] at k0 hpn
  have e3 : ¬ cb = cg := by have := hins.lt; have := h.lo.1; have := h.hi.1; omega
  have e4 : ¬ cg = cb := fun e => e3 e.symm
  have e1 : ¬ b.mb = cg := by have := h.hi.1; omega
  have e2 : ¬ cg = b.mb := fun e => e1 e.symm
  have mbw : b.mb < w.heap.size := lt_heap h.box
  have hcl : m + 1 ≤ 1000001 := by have := hst.c; omega
  have q0 : (0 : Int) ≤ (m : Int) := Int.natCast_nonneg _
  have hw1 : IntKind.i64.wrap ((m : Int) + 1 - 1) = (m : Int) := by rw [IntKind.wrap_i64]; omega
  have hw3 : IntKind.i64.wrap (m : Int) = (m : Int) := by rw [IntKind.wrap_i64]; omega
  have hix : ∀ W, (Instr.indexAt 65 (.slice (some ⟨cg, 0, none⟩) (m + 1) cc) (.int .i64 m)).run Try.prog W = .ok (.pointer (some ⟨cg, m * 5, none⟩)) W := fun W => by
    have q1 : (m : Int) < ((m + 1 : Nat) : Int) := by omega
    have q0 : (0 : Int) ≤ (m : Int) := Int.natCast_nonneg _
    go_simp
    all_goals (intro h; omega)
  have q5 : (m : Int) < (m : Int) + 1 := by omega
  have q1 : (0 : Int) ≤ (p : Int) := Int.natCast_nonneg _
  have q2 : (p : Int) < (cn : Int) := by omega
  have q3 : (p : Int) ≤ 1000000 := by omega
  have wf : IntKind.i64.wrap (M.fuel - 1) = M.fuel - 1 := by rw [IntKind.wrap_i64]; omega
  have tf : (M.fuel == 0) = false := by simp; omega
  have wp1 : IntKind.i64.wrap ((p : Int) + 1) = (p : Int) + 1 := by rw [IntKind.wrap_i64]; omega
  clear hcv hcc hccell hca hcnE hc hcll hm hp hins hst hU h1 hi hrr hcf kf hvc h c0 c1 c2 c3 c4 c5 c6 c7 c9 c11 c12 c13
  go_enter Try.func33, Try.ntmps33
  go_wp2
  obtain ⟨wA, hwA⟩ : ∃ wA : World, w.setCell ⟨b.mb, 4106, none⟩ (.int .i64 (M.fuel - 1)) = wA := ⟨_, rfl⟩
  have HA : Hid (MacAt w0 wA U N b { M with fuel := M.fuel - 1 } V) := Lib.hid (by rw [← hwA]; exact H.out.field (M' := { M with fuel := M.fuel - 1 }) 6 (.int .i64 (M.fuel - 1)) rfl rfl rfl rfl rfl rfl rfl rfl)
  have HVA := Lib.hid (show Mov b w V wA V by rw [← hwA]; exact Mov.cell b w V (.inl rfl) 4106 (.int .i64 (M.fuel - 1)))
  have hcg1 : wA.heap[cg]? = w.heap[cg]? := by rw [← hwA]; exact heap_other7 e2
  have k0' := (cell_blk7 hcg1 (m * 5)).trans k0
  have k1' := (cell_blk7 hcg1 (m * 5 + 1)).trans k1
  have k2' := (cell_blk7 hcg1 (m * 5 + 2)).trans k2
  have kf1' : wA.frozen? ⟨cg, m * 5 + 1, none⟩ = false := by rw [← kf1]; unfold World.frozen?; simp only [hcg1]
  rw [hwA]
  obtain ⟨_, _, _, _, _, _, _, _, d8, _⟩ := HA.out.cells
  rw [HVC.out] at d8
  have d8' : wA.cell? ⟨b.mb, 4104, none⟩ = some (.slice (some ⟨cg, 0, none⟩) (m + 1) cc) := by
    rw [d8]
  have j0 : wA.cell? ⟨cb, off + p * 15, none⟩ = some (.int .i64 4) := by rw [← HK.out]; exact HA.out.ins HI.out 0 _ rfl
  clear hwA k0 k1 k2 kf1 c8 c10 f1 d8 hcg1
  go_region_held3 (fun w' => w'.cell? ⟨b.mb, 4104, none⟩ = some (.slice (some ⟨cg, 0, none⟩) (m + 1) cc)) (go_keep) (fail)
  go_wp2
  go_region_held3 (fun w' => w'.cell? ⟨cg, m * 5, none⟩ = some (.slice (some ⟨cb, off, none⟩) cn rr.cc) ∧ w'.cell? ⟨cg, m * 5 + 1, none⟩ = some (.int .i64 p)) (go_keep) (fail)
  have HB0 : Hid (MacAt w0 (wA.setCell ⟨cg, m * 5 + 1, none⟩ (.int .i64 ((p : Int) + 1))).drew.drew U N b (onM M ini c) V) := Lib.hid (by
    have := (HA.out.keep ((Below.refl _ wA).drew.drew)).setPos HCC.out HVC.out (c.pos + 1)
    rw [HPP.out, HM.out] at this
    unfold onM
    rw [HPP.out]
    exact this)
  have HVB0 : Hid (Mov b w V (wA.setCell ⟨cg, m * 5 + 1, none⟩ (.int .i64 ((p : Int) + 1))).drew.drew V) := Lib.hid ((HVA.out.trans (Mov.of_below ((Below.refl _ wA).drew.drew))).trans (Mov.pos HVC.out _ _))
  go_wp2
  obtain ⟨wB, hwB⟩ : ∃ wB : World, (wA.setCell ⟨cg, m * 5 + 1, none⟩ (.int .i64 ((p : Int) + 1))).drew.drew = wB := ⟨_, rfl⟩
  have HB : Hid (MacAt w0 wB U N b (onM M ini c) V) := Lib.hid (by rw [← hwB]; exact HB0.out)
  have HVB : Hid (Mov b w V wB V) := Lib.hid (by rw [← hwB]; exact HVB0.out)
  rw [hwB]
  clear HB0 HVB0
  refine region_last (fun W : World => ∃ (M' : Mac) (V' : MV), MacAt w0 W U N b M' V') 1000000 hmix ?_
  have hL : MacAt w0 wB.drew U N b (onM M ini c) V := HB.out.keep ((Below.refl _ wB).drew)
  have hS : (fun W : World => ∃ (M' : Mac) (V' : MV), MacAt w0 W U N b M' V') wB.drew := ⟨_, V, hL⟩
  have HVL := Lib.hid (HVB.out.trans (Mov.of_below ((Below.refl _ wB).drew)))
  refine anyL_takeH (i := 0) (v := ?_) rfl (by decide) (by kernel_rfl) (by kernel_rfl) (by kernel_rfl) (fun _ _ _ h => h) (Or.inl ⟨by rfl, ?_⟩) hS ?_
  rotate_left
  · (intro w' hSw; obtain ⟨M', V', hSm⟩ := hSw; have s2 : w'.cell? ⟨cb, off + p * 15 + 2, none⟩ = some (.int .i64 i.dst) := hSm.ins HI.out 2 _ rfl; have s3 : w'.cell? ⟨cb, off + p * 15 + 3, none⟩ = some (.int .i64 i.a) := hSm.ins HI.out 3 _ rfl; have s5 : w'.cell? ⟨cb, off + p * 15 + 5, none⟩ = some (.int .i64 i.n) := hSm.ins HI.out 5 _ rfl; clear hSm; go_simp; first | done | with_reducible rfl)
  simp only [Act.put, List.getElem_toArray, List.getElem_cons_succ, List.getElem_cons_zero, List.setIfInBounds_toArray, List.set_cons_succ, List.set_cons_zero]
  refine anyL_takeH (i := 1) (v := ?_) rfl (by decide) (by kernel_rfl) (by kernel_rfl) (by kernel_rfl) (fun _ _ _ h => h) (Or.inl ⟨by rfl, ?_⟩) hS ?_
  rotate_left
  · (intro w' hSw; obtain ⟨M', V', hSm⟩ := hSw; have s2 : w'.cell? ⟨cb, off + p * 15 + 2, none⟩ = some (.int .i64 i.dst) := hSm.ins HI.out 2 _ rfl; have s3 : w'.cell? ⟨cb, off + p * 15 + 3, none⟩ = some (.int .i64 i.a) := hSm.ins HI.out 3 _ rfl; have s5 : w'.cell? ⟨cb, off + p * 15 + 5, none⟩ = some (.int .i64 i.n) := hSm.ins HI.out 5 _ rfl; clear hSm; go_simp; first | done | with_reducible rfl)
  simp only [Act.put, List.getElem_toArray, List.getElem_cons_succ, List.getElem_cons_zero, List.setIfInBounds_toArray, List.set_cons_succ, List.set_cons_zero]
  refine anyL_takeH (i := 2) (v := ?_) rfl (by decide) (by kernel_rfl) (by kernel_rfl) (by kernel_rfl) (fun _ _ _ h => h) (Or.inl ⟨by rfl, ?_⟩) hS ?_
  rotate_left
  · (intro w' hSw; obtain ⟨M', V', hSm⟩ := hSw; have s2 : w'.cell? ⟨cb, off + p * 15 + 2, none⟩ = some (.int .i64 i.dst) := hSm.ins HI.out 2 _ rfl; have s3 : w'.cell? ⟨cb, off + p * 15 + 3, none⟩ = some (.int .i64 i.a) := hSm.ins HI.out 3 _ rfl; have s5 : w'.cell? ⟨cb, off + p * 15 + 5, none⟩ = some (.int .i64 i.n) := hSm.ins HI.out 5 _ rfl; clear hSm; go_simp; first | done | with_reducible rfl)
  simp only [Act.put, List.getElem_toArray, List.getElem_cons_succ, List.getElem_cons_zero, List.setIfInBounds_toArray, List.set_cons_succ, List.set_cons_zero]
  refine anyL_takeH (i := 3) (v := ?_) rfl (by decide) (by kernel_rfl) (by kernel_rfl) (by kernel_rfl) (fun _ _ _ h => h) (Or.inl ⟨by rfl, ?_⟩) hS ?_
  rotate_left
  · (intro w' hSw; obtain ⟨M', V', hSm⟩ := hSw; have s2 : w'.cell? ⟨cb, off + p * 15 + 2, none⟩ = some (.int .i64 i.dst) := hSm.ins HI.out 2 _ rfl; have s3 : w'.cell? ⟨cb, off + p * 15 + 3, none⟩ = some (.int .i64 i.a) := hSm.ins HI.out 3 _ rfl; have s5 : w'.cell? ⟨cb, off + p * 15 + 5, none⟩ = some (.int .i64 i.n) := hSm.ins HI.out 5 _ rfl; clear hSm; go_simp; first | done | with_reducible rfl)
  simp only [Act.put, List.getElem_toArray, List.getElem_cons_succ, List.getElem_cons_zero, List.setIfInBounds_toArray, List.set_cons_succ, List.set_cons_zero]
  refine anyL_takeH (i := 4) (v := ?_) rfl (by decide) (by kernel_rfl) (by kernel_rfl) (by kernel_rfl) (fun _ _ _ h => h) (Or.inl ⟨by rfl, ?_⟩) hS ?_
  rotate_left
  · (intro w' hSw; obtain ⟨M', V', hSm⟩ := hSw; have s2 : w'.cell? ⟨cb, off + p * 15 + 2, none⟩ = some (.int .i64 i.dst) := hSm.ins HI.out 2 _ rfl; have s3 : w'.cell? ⟨cb, off + p * 15 + 3, none⟩ = some (.int .i64 i.a) := hSm.ins HI.out 3 _ rfl; have s5 : w'.cell? ⟨cb, off + p * 15 + 5, none⟩ = some (.int .i64 i.n) := hSm.ins HI.out 5 _ rfl; clear hSm; go_simp; first | done | with_reducible rfl)
  simp only [Act.put, List.getElem_toArray, List.getElem_cons_succ, List.getElem_cons_zero, List.setIfInBounds_toArray, List.set_cons_succ, List.set_cons_zero]
  refine anyL_takeH (i := 5) (v := ?_) rfl (by decide) (by kernel_rfl) (by kernel_rfl) (by kernel_rfl) (fun _ _ _ h => h) (Or.inl ⟨by rfl, ?_⟩) hS ?_
  rotate_left
  · (intro w' hSw; obtain ⟨M', V', hSm⟩ := hSw; have s2 : w'.cell? ⟨cb, off + p * 15 + 2, none⟩ = some (.int .i64 i.dst) := hSm.ins HI.out 2 _ rfl; have s3 : w'.cell? ⟨cb, off + p * 15 + 3, none⟩ = some (.int .i64 i.a) := hSm.ins HI.out 3 _ rfl; have s5 : w'.cell? ⟨cb, off + p * 15 + 5, none⟩ = some (.int .i64 i.n) := hSm.ins HI.out 5 _ rfl; clear hSm; go_simp; first | done | with_reducible rfl)
  simp only [Act.put, List.getElem_toArray, List.getElem_cons_succ, List.getElem_cons_zero, List.setIfInBounds_toArray, List.set_cons_succ, List.set_cons_zero]
  refine anyL_takeH (i := 6) (v := ?_) rfl (by decide) (by kernel_rfl) (by kernel_rfl) (by kernel_rfl) (fun _ _ _ h => h) (Or.inl ⟨by rfl, ?_⟩) hS ?_
  rotate_left
  · (intro w' hSw; obtain ⟨M', V', hSm⟩ := hSw; have s2 : w'.cell? ⟨cb, off + p * 15 + 2, none⟩ = some (.int .i64 i.dst) := hSm.ins HI.out 2 _ rfl; have s3 : w'.cell? ⟨cb, off + p * 15 + 3, none⟩ = some (.int .i64 i.a) := hSm.ins HI.out 3 _ rfl; have s5 : w'.cell? ⟨cb, off + p * 15 + 5, none⟩ = some (.int .i64 i.n) := hSm.ins HI.out 5 _ rfl; clear hSm; go_simp; first | done | with_reducible rfl)
  simp only [Act.put, List.getElem_toArray, List.getElem_cons_succ, List.getElem_cons_zero, List.setIfInBounds_toArray, List.set_cons_succ, List.set_cons_zero]
  refine anyL_takeH (i := 7) (v := ?_) rfl (by decide) (by kernel_rfl) (by kernel_rfl) (by kernel_rfl) (fun _ _ _ h => h) (Or.inl ⟨by rfl, ?_⟩) hS ?_
  rotate_left
  · (intro w' hSw; obtain ⟨M', V', hSm⟩ := hSw; have s2 : w'.cell? ⟨cb, off + p * 15 + 2, none⟩ = some (.int .i64 i.dst) := hSm.ins HI.out 2 _ rfl; have s3 : w'.cell? ⟨cb, off + p * 15 + 3, none⟩ = some (.int .i64 i.a) := hSm.ins HI.out 3 _ rfl; have s5 : w'.cell? ⟨cb, off + p * 15 + 5, none⟩ = some (.int .i64 i.n) := hSm.ins HI.out 5 _ rfl; clear hSm; go_simp; first | done | with_reducible rfl)
  simp only [Act.put, List.getElem_toArray, List.getElem_cons_succ, List.getElem_cons_zero, List.setIfInBounds_toArray, List.set_cons_succ, List.set_cons_zero]
  refine anyL_takeH (i := 8) (v := ?_) rfl (by decide) (by kernel_rfl) (by kernel_rfl) (by kernel_rfl) (fun _ _ _ h => h) (Or.inl ⟨by rfl, ?_⟩) hS ?_
  rotate_left
  · (intro w' hSw; obtain ⟨M', V', hSm⟩ := hSw; have s2 : w'.cell? ⟨cb, off + p * 15 + 2, none⟩ = some (.int .i64 i.dst) := hSm.ins HI.out 2 _ rfl; have s3 : w'.cell? ⟨cb, off + p * 15 + 3, none⟩ = some (.int .i64 i.a) := hSm.ins HI.out 3 _ rfl; have s5 : w'.cell? ⟨cb, off + p * 15 + 5, none⟩ = some (.int .i64 i.n) := hSm.ins HI.out 5 _ rfl; clear hSm; go_simp; first | done | with_reducible rfl)
  simp only [Act.put, List.getElem_toArray, List.getElem_cons_succ, List.getElem_cons_zero, List.setIfInBounds_toArray, List.set_cons_succ, List.set_cons_zero]
  refine anyL_takeH (i := 9) (v := ?_) rfl (by decide) (by kernel_rfl) (by kernel_rfl) (by kernel_rfl) (fun _ _ _ h => h) (Or.inl ⟨by rfl, ?_⟩) hS ?_
  rotate_left
  · (intro w' hSw; obtain ⟨M', V', hSm⟩ := hSw; have s2 : w'.cell? ⟨cb, off + p * 15 + 2, none⟩ = some (.int .i64 i.dst) := hSm.ins HI.out 2 _ rfl; have s3 : w'.cell? ⟨cb, off + p * 15 + 3, none⟩ = some (.int .i64 i.a) := hSm.ins HI.out 3 _ rfl; have s5 : w'.cell? ⟨cb, off + p * 15 + 5, none⟩ = some (.int .i64 i.n) := hSm.ins HI.out 5 _ rfl; clear hSm; go_simp; first | done | with_reducible rfl)
  simp only [Act.put, List.getElem_toArray, List.getElem_cons_succ, List.getElem_cons_zero, List.setIfInBounds_toArray, List.set_cons_succ, List.set_cons_zero]
  refine anyL_one (i := 10) (by kernel_rfl) rfl (fun K1 hK1 => ?_)
  go_simp
  refine (get_v hL i.a (mget (onM M ini c) i.a) rfl HST.out.a.1 HST.out.a.2 HST.out.s HST.out.c).mono ?_
  rintro e u ⟨rfl, hB2⟩
  have hL2 := hL.keep hB2
  have HVL2 := Lib.hid (HVL.out.trans (Mov.of_below hB2))
  have hS3 : (fun W : World => ∃ (M' : Mac) (V' : MV), MacAt w0 W U N b M' V') u := ⟨_, V, hL2⟩
  refine hK1.out _ _ (fun _ => hS3) ?_
  clear hK1 K1 hS hL hB2 HVL
  have hS := hS3; have hL := hL2; have HVL := HVL2
  clear hS3 hL2 HVL2
  refine anyL_one (i := 11) (by kernel_rfl) rfl (fun K1 hK1 => ?_)
  go_simp
  refine (set_any hL i.dst (mget (onM M ini c) i.a) HST.out.d.1 HST.out.d.2 HST.out.s HST.out.c HST.out.l).mono ?_
  rintro e v ⟨rfl, V2, hm2, hv2⟩
  have hS3 : (fun W : World => ∃ (M' : Mac) (V' : MV), MacAt w0 W U N b M' V') v := ⟨_, V2, hm2⟩
  have HM5 := Lib.hid hm2; have HV5 := Lib.hid (HVL.out.trans hv2); clear hm2 hv2 hS hL
  refine hK1.out _ _ (fun _ => hS3) ?_
  clear hK1 K1 hS3
  refine anyL_done (by kernel_rfl) ?_ _
  go_wp2
  go_end0
  exact ⟨rfl, V2, HM5.out, HV5.out⟩
set_option maxRecDepth 100000 in
set_option maxHeartbeats 4000000 in
theorem step_6 (h : MacAt w0 w U N b M V) (hU : UnAt w0 w0.heap.size U) (hfu : 0 < M.fuel ∧ M.fuel ≤ 1000000) (ini : List Cal) (c : Cal) (hc : M.calls = ini ++ [c]) (rr : FnR) (hrr : U.fs[c.k]? = some rr) (p : Nat) (hp : c.pos = p) (i : Ins) (hi : rr.f.code[p]? = some i) (hpl : p ≤ 1000000)
    (h1 : i.kind = 6) (hst : StIn M i) : Calls Try.prog 33 #[mP b] w (MPost w0 U N b w V (accessM (onM M ini c) i) (.tuple #[])) := by
  have hmix : Try.prog.follows .mixedOrders = true := by kernel_rfl
  obtain ⟨cb, off, hca, hins⟩ := hU.ins hrr hi
  obtain ⟨c0, c1, c2, c3, c4, c5, c6, c7, c8, c9, c10, c11, c12, c13⟩ := h.cells
  obtain ⟨ca, cc, hvc, hcn, hcm, hcf⟩ := row_parts h.calls
  have hcll : M.calls.length = ini.length + 1 := by rw [hc]; simp
  obtain ⟨cg, hcga, hcg, hcgw, hccell⟩ : ∃ g, ca = some ⟨g, 0, none⟩ ∧ N ≤ g ∧ g < w.heap.size ∧ ∀ (j : Nat) (u : Value), (M.calls.flatMap (calCells U))[j]? = some u → w.cell? ⟨g, j, none⟩ = some u := by
    rcases hcf with ⟨_, h1, _⟩ | h1
    · omega
    · exact h1
  subst hcga
  have hcv : codeV U c.k = .slice (some ⟨cb, off, none⟩) rr.f.code.length rr.cc := by unfold codeV; rw [hrr, ← hca]
  have hcc : ∀ j, j < 5 → w.cell? ⟨cg, ini.length * 5 + j, none⟩ = (calCells U c)[j]? := fun j hj => by
    obtain ⟨u, hu⟩ : ∃ u, (calCells U c)[j]? = some u := ⟨_, List.getElem?_eq_getElem (by rw [calCells_len]; exact hj)⟩
    rw [hu]
    exact hccell _ u (by rw [hc, calls_last j hj, hu])
  have k0 : w.cell? ⟨cg, ini.length * 5, none⟩ = some (.slice (some ⟨cb, off, none⟩) rr.f.code.length rr.cc) := by rw [← hcv]; exact hcc 0 (by omega)
  have k1 : w.cell? ⟨cg, ini.length * 5 + 1, none⟩ = some (.int .i64 p) := by rw [← hp]; exact hcc 1 (by omega)
  have k2 : w.cell? ⟨cg, ini.length * 5 + 2, none⟩ = some (.int .i64 c.frame) := hcc 2 (by omega)
  have kf : ∀ j, w.frozen? ⟨cg, j, none⟩ = false := fun j => by
    obtain ⟨_, ⟨h0, _⟩ | ⟨g', cap', cur, hv, _, hh, _⟩⟩ := h.calls
    · rw [hvc] at h0; cases h0
    · rw [hvc] at hv
      injection hv with hv _ _
      injection hv with hv
      injection hv with hv _ _
      subst hv
      simp [World.frozen?, hh]
  obtain ⟨m, hm⟩ : ∃ m, ini.length = m := ⟨_, rfl⟩
  rw [hvc, hcll, hm] at c8
  rw [hm] at k0 k1 k2
  have HVC : Hid (V.vc = .slice (some ⟨cg, 0, none⟩) (m + 1) cc) := Lib.hid (by rw [hvc, hcll, hm])
  have HM := Lib.hid hm; have HCC := Lib.hid hc; have HI := Lib.hid hins; have HPP := Lib.hid hp; have HST := Lib.hid (hst.on hc); have HU := Lib.hid hU; have HK := Lib.hid h1
  have f1 := h.fz 4106
  have kf1 := kf (m * 5 + 1)
  have H := Lib.hid h
  have hpn : p < rr.f.code.length := (List.getElem?_eq_some_iff.1 hi).1
  obtain ⟨cn, hcnE⟩ : ∃ cn, rr.f.code.length = cn := ⟨_, rfl⟩
  rw [hcnE] at k0 hpn
  have e3 : ¬ cb = cg := by have := hins.lt; have := h.lo.1; have := h.hi.1; omega
  have e4 : ¬ cg = cb := fun e => e3 e.symm
  have e1 : ¬ b.mb = cg := by have := h.hi.1; omega
  have e2 : ¬ cg = b.mb := fun e => e1 e.symm
  have mbw : b.mb < w.heap.size := lt_heap h.box
  have hcl : m + 1 ≤ 1000001 := by have := hst.c; omega
  have q0 : (0 : Int) ≤ (m : Int) := Int.natCast_nonneg _
  have hw1 : IntKind.i64.wrap ((m : Int) + 1 - 1) = (m : Int) := by rw [IntKind.wrap_i64]; omega
  have hw3 : IntKind.i64.wrap (m : Int) = (m : Int) := by rw [IntKind.wrap_i64]; omega
  have hix : ∀ W, (Instr.indexAt 65 (.slice (some ⟨cg, 0, none⟩) (m + 1) cc) (.int .i64 m)).run Try.prog W = .ok (.pointer (some ⟨cg, m * 5, none⟩)) W := fun W => by
    have q1 : (m : Int) < ((m + 1 : Nat) : Int) := by omega
    have q0 : (0 : Int) ≤ (m : Int) := Int.natCast_nonneg _
    go_simp
    all_goals (intro h; omega)
  have q5 : (m : Int) < (m : Int) + 1 := by omega
  have q1 : (0 : Int) ≤ (p : Int) := Int.natCast_nonneg _
  have q2 : (p : Int) < (cn : Int) := by omega
  have q3 : (p : Int) ≤ 1000000 := by omega
  have wf : IntKind.i64.wrap (M.fuel - 1) = M.fuel - 1 := by rw [IntKind.wrap_i64]; omega
  have tf : (M.fuel == 0) = false := by simp; omega
  have wp1 : IntKind.i64.wrap ((p : Int) + 1) = (p : Int) + 1 := by rw [IntKind.wrap_i64]; omega
  clear hcv hcc hccell hca hcnE hc hcll hm hp hins hst hU h1 hi hrr hcf kf hvc h c0 c1 c2 c3 c4 c5 c6 c7 c9 c11 c12 c13
  go_enter Try.func33, Try.ntmps33
  go_wp2
  obtain ⟨wA, hwA⟩ : ∃ wA : World, w.setCell ⟨b.mb, 4106, none⟩ (.int .i64 (M.fuel - 1)) = wA := ⟨_, rfl⟩
  have HA : Hid (MacAt w0 wA U N b { M with fuel := M.fuel - 1 } V) := Lib.hid (by rw [← hwA]; exact H.out.field (M' := { M with fuel := M.fuel - 1 }) 6 (.int .i64 (M.fuel - 1)) rfl rfl rfl rfl rfl rfl rfl rfl)
  have HVA := Lib.hid (show Mov b w V wA V by rw [← hwA]; exact Mov.cell b w V (.inl rfl) 4106 (.int .i64 (M.fuel - 1)))
  have hcg1 : wA.heap[cg]? = w.heap[cg]? := by rw [← hwA]; exact heap_other7 e2
  have k0' := (cell_blk7 hcg1 (m * 5)).trans k0
  have k1' := (cell_blk7 hcg1 (m * 5 + 1)).trans k1
  have k2' := (cell_blk7 hcg1 (m * 5 + 2)).trans k2
  have kf1' : wA.frozen? ⟨cg, m * 5 + 1, none⟩ = false := by rw [← kf1]; unfold World.frozen?; simp only [hcg1]
  rw [hwA]
  obtain ⟨_, _, _, _, _, _, _, _, d8, _⟩ := HA.out.cells
  rw [HVC.out] at d8
  have d8' : wA.cell? ⟨b.mb, 4104, none⟩ = some (.slice (some ⟨cg, 0, none⟩) (m + 1) cc) := by
    rw [d8]
  have j0 : wA.cell? ⟨cb, off + p * 15, none⟩ = some (.int .i64 6) := by rw [← HK.out]; exact HA.out.ins HI.out 0 _ rfl
  clear hwA k0 k1 k2 kf1 c8 c10 f1 d8 hcg1
  go_region_held3 (fun w' => w'.cell? ⟨b.mb, 4104, none⟩ = some (.slice (some ⟨cg, 0, none⟩) (m + 1) cc)) (go_keep) (fail)
  go_wp2
  go_region_held3 (fun w' => w'.cell? ⟨cg, m * 5, none⟩ = some (.slice (some ⟨cb, off, none⟩) cn rr.cc) ∧ w'.cell? ⟨cg, m * 5 + 1, none⟩ = some (.int .i64 p)) (go_keep) (fail)
  have HB0 : Hid (MacAt w0 (wA.setCell ⟨cg, m * 5 + 1, none⟩ (.int .i64 ((p : Int) + 1))).drew.drew U N b (onM M ini c) V) := Lib.hid (by
    have := (HA.out.keep ((Below.refl _ wA).drew.drew)).setPos HCC.out HVC.out (c.pos + 1)
    rw [HPP.out, HM.out] at this
    unfold onM
    rw [HPP.out]
    exact this)
  have HVB0 : Hid (Mov b w V (wA.setCell ⟨cg, m * 5 + 1, none⟩ (.int .i64 ((p : Int) + 1))).drew.drew V) := Lib.hid ((HVA.out.trans (Mov.of_below ((Below.refl _ wA).drew.drew))).trans (Mov.pos HVC.out _ _))
  go_wp2_with ((with_reducible refine (access_any HB0.out i cb (off + p * 15) HI.out HST.out.toA (fun _ => HST.out.d)).mono ?_); rintro e v ⟨rfl, V2, hm2, hv2⟩; have HM5 := Lib.hid hm2; have HV5 := Lib.hid (HVB0.out.trans hv2); clear hm2 hv2)
  go_end0
  exact ⟨rfl, V2, HM5.out, HV5.out⟩
set_option maxRecDepth 100000 in
set_option maxHeartbeats 4000000 in
theorem step_7 (h : MacAt w0 w U N b M V) (hU : UnAt w0 w0.heap.size U) (hfu : 0 < M.fuel ∧ M.fuel ≤ 1000000) (ini : List Cal) (c : Cal) (hc : M.calls = ini ++ [c]) (rr : FnR) (hrr : U.fs[c.k]? = some rr) (p : Nat) (hp : c.pos = p) (i : Ins) (hi : rr.f.code[p]? = some i) (hpl : p ≤ 1000000)
    (h1 : i.kind = 7) (hst : StA M i) : Calls Try.prog 33 #[mP b] w (MPost w0 U N b w V (accessM (onM M ini c) i) (.tuple #[])) := by
  have hmix : Try.prog.follows .mixedOrders = true := by kernel_rfl
  obtain ⟨cb, off, hca, hins⟩ := hU.ins hrr hi
  obtain ⟨c0, c1, c2, c3, c4, c5, c6, c7, c8, c9, c10, c11, c12, c13⟩ := h.cells
  obtain ⟨ca, cc, hvc, hcn, hcm, hcf⟩ := row_parts h.calls
  have hcll : M.calls.length = ini.length + 1 := by rw [hc]; simp
  obtain ⟨cg, hcga, hcg, hcgw, hccell⟩ : ∃ g, ca = some ⟨g, 0, none⟩ ∧ N ≤ g ∧ g < w.heap.size ∧ ∀ (j : Nat) (u : Value), (M.calls.flatMap (calCells U))[j]? = some u → w.cell? ⟨g, j, none⟩ = some u := by
    rcases hcf with ⟨_, h1, _⟩ | h1
    · omega
    · exact h1
  subst hcga
  have hcv : codeV U c.k = .slice (some ⟨cb, off, none⟩) rr.f.code.length rr.cc := by unfold codeV; rw [hrr, ← hca]
  have hcc : ∀ j, j < 5 → w.cell? ⟨cg, ini.length * 5 + j, none⟩ = (calCells U c)[j]? := fun j hj => by
    obtain ⟨u, hu⟩ : ∃ u, (calCells U c)[j]? = some u := ⟨_, List.getElem?_eq_getElem (by rw [calCells_len]; exact hj)⟩
    rw [hu]
    exact hccell _ u (by rw [hc, calls_last j hj, hu])
  have k0 : w.cell? ⟨cg, ini.length * 5, none⟩ = some (.slice (some ⟨cb, off, none⟩) rr.f.code.length rr.cc) := by rw [← hcv]; exact hcc 0 (by omega)
  have k1 : w.cell? ⟨cg, ini.length * 5 + 1, none⟩ = some (.int .i64 p) := by rw [← hp]; exact hcc 1 (by omega)
  have k2 : w.cell? ⟨cg, ini.length * 5 + 2, none⟩ = some (.int .i64 c.frame) := hcc 2 (by omega)
  have kf : ∀ j, w.frozen? ⟨cg, j, none⟩ = false := fun j => by
    obtain ⟨_, ⟨h0, _⟩ | ⟨g', cap', cur, hv, _, hh, _⟩⟩ := h.calls
    · rw [hvc] at h0; cases h0
    · rw [hvc] at hv
      injection hv with hv _ _
      injection hv with hv
      injection hv with hv _ _
      subst hv
      simp [World.frozen?, hh]
  obtain ⟨m, hm⟩ : ∃ m, ini.length = m := ⟨_, rfl⟩
  rw [hvc, hcll, hm] at c8
  rw [hm] at k0 k1 k2
  have HVC : Hid (V.vc = .slice (some ⟨cg, 0, none⟩) (m + 1) cc) := Lib.hid (by rw [hvc, hcll, hm])
  have HM := Lib.hid hm; have HCC := Lib.hid hc; have HI := Lib.hid hins; have HPP := Lib.hid hp; have HST := Lib.hid (hst.on hc); have HU := Lib.hid hU; have HK := Lib.hid h1
  have f1 := h.fz 4106
  have kf1 := kf (m * 5 + 1)
  have H := Lib.hid h
  have hpn : p < rr.f.code.length := (List.getElem?_eq_some_iff.1 hi).1
  obtain ⟨cn, hcnE⟩ : ∃ cn, rr.f.code.length = cn := ⟨_, rfl⟩
  rw [hcnE] at k0 hpn
  have e3 : ¬ cb = cg := by have := hins.lt; have := h.lo.1; have := h.hi.1; omega
  have e4 : ¬ cg = cb := fun e => e3 e.symm
  have e1 : ¬ b.mb = cg := by have := h.hi.1; omega
  have e2 : ¬ cg = b.mb := fun e => e1 e.symm
  have mbw : b.mb < w.heap.size := lt_heap h.box
  have hcl : m + 1 ≤ 1000001 := by have := hst.c; omega
  have q0 : (0 : Int) ≤ (m : Int) := Int.natCast_nonneg _
  have hw1 : IntKind.i64.wrap ((m : Int) + 1 - 1) = (m : Int) := by rw [IntKind.wrap_i64]; omega
  have hw3 : IntKind.i64.wrap (m : Int) = (m : Int) := by rw [IntKind.wrap_i64]; omega
  have hix : ∀ W, (Instr.indexAt 65 (.slice (some ⟨cg, 0, none⟩) (m + 1) cc) (.int .i64 m)).run Try.prog W = .ok (.pointer (some ⟨cg, m * 5, none⟩)) W := fun W => by
    have q1 : (m : Int) < ((m + 1 : Nat) : Int) := by omega
    have q0 : (0 : Int) ≤ (m : Int) := Int.natCast_nonneg _
    go_simp
    all_goals (intro h; omega)
  have q5 : (m : Int) < (m : Int) + 1 := by omega
  have q1 : (0 : Int) ≤ (p : Int) := Int.natCast_nonneg _
  have q2 : (p : Int) < (cn : Int) := by omega
  have q3 : (p : Int) ≤ 1000000 := by omega
  have wf : IntKind.i64.wrap (M.fuel - 1) = M.fuel - 1 := by rw [IntKind.wrap_i64]; omega
  have tf : (M.fuel == 0) = false := by simp; omega
  have wp1 : IntKind.i64.wrap ((p : Int) + 1) = (p : Int) + 1 := by rw [IntKind.wrap_i64]; omega
  clear hcv hcc hccell hca hcnE hc hcll hm hp hins hst hU h1 hi hrr hcf kf hvc h c0 c1 c2 c3 c4 c5 c6 c7 c9 c11 c12 c13
  go_enter Try.func33, Try.ntmps33
  go_wp2
  obtain ⟨wA, hwA⟩ : ∃ wA : World, w.setCell ⟨b.mb, 4106, none⟩ (.int .i64 (M.fuel - 1)) = wA := ⟨_, rfl⟩
  have HA : Hid (MacAt w0 wA U N b { M with fuel := M.fuel - 1 } V) := Lib.hid (by rw [← hwA]; exact H.out.field (M' := { M with fuel := M.fuel - 1 }) 6 (.int .i64 (M.fuel - 1)) rfl rfl rfl rfl rfl rfl rfl rfl)
  have HVA := Lib.hid (show Mov b w V wA V by rw [← hwA]; exact Mov.cell b w V (.inl rfl) 4106 (.int .i64 (M.fuel - 1)))
  have hcg1 : wA.heap[cg]? = w.heap[cg]? := by rw [← hwA]; exact heap_other7 e2
  have k0' := (cell_blk7 hcg1 (m * 5)).trans k0
  have k1' := (cell_blk7 hcg1 (m * 5 + 1)).trans k1
  have k2' := (cell_blk7 hcg1 (m * 5 + 2)).trans k2
  have kf1' : wA.frozen? ⟨cg, m * 5 + 1, none⟩ = false := by rw [← kf1]; unfold World.frozen?; simp only [hcg1]
  rw [hwA]
  obtain ⟨_, _, _, _, _, _, _, _, d8, _⟩ := HA.out.cells
  rw [HVC.out] at d8
  have d8' : wA.cell? ⟨b.mb, 4104, none⟩ = some (.slice (some ⟨cg, 0, none⟩) (m + 1) cc) := by
    rw [d8]
  have j0 : wA.cell? ⟨cb, off + p * 15, none⟩ = some (.int .i64 7) := by rw [← HK.out]; exact HA.out.ins HI.out 0 _ rfl
  clear hwA k0 k1 k2 kf1 c8 c10 f1 d8 hcg1
  go_region_held3 (fun w' => w'.cell? ⟨b.mb, 4104, none⟩ = some (.slice (some ⟨cg, 0, none⟩) (m + 1) cc)) (go_keep) (fail)
  go_wp2
  go_region_held3 (fun w' => w'.cell? ⟨cg, m * 5, none⟩ = some (.slice (some ⟨cb, off, none⟩) cn rr.cc) ∧ w'.cell? ⟨cg, m * 5 + 1, none⟩ = some (.int .i64 p)) (go_keep) (fail)
  have HB0 : Hid (MacAt w0 (wA.setCell ⟨cg, m * 5 + 1, none⟩ (.int .i64 ((p : Int) + 1))).drew.drew U N b (onM M ini c) V) := Lib.hid (by
    have := (HA.out.keep ((Below.refl _ wA).drew.drew)).setPos HCC.out HVC.out (c.pos + 1)
    rw [HPP.out, HM.out] at this
    unfold onM
    rw [HPP.out]
    exact this)
  have HVB0 : Hid (Mov b w V (wA.setCell ⟨cg, m * 5 + 1, none⟩ (.int .i64 ((p : Int) + 1))).drew.drew V) := Lib.hid ((HVA.out.trans (Mov.of_below ((Below.refl _ wA).drew.drew))).trans (Mov.pos HVC.out _ _))
  go_wp2_with ((with_reducible refine (access_any HB0.out i cb (off + p * 15) HI.out HST.out (fun e => by have := HK.out; omega)).mono ?_); rintro e v ⟨rfl, V2, hm2, hv2⟩; have HM5 := Lib.hid hm2; have HV5 := Lib.hid (HVB0.out.trans hv2); clear hm2 hv2)
  go_end0
  exact ⟨rfl, V2, HM5.out, HV5.out⟩
end Go.Proofs.Ytmcpfjhdeplgmaa
namespace Go.Proofs.Ytmcpfjhdeplgmaa
open Go.RowKit Cd Go.Maps
set_option linter.unusedVariables false
set_option linter.unusedSimpArgs false
variable {w0 w w' : World} {U : UnR} {N : Nat} {b : Blk} {M : Mac} {V : MV}
set_option maxRecDepth 100000 in
set_option maxHeartbeats 4000000 in
theorem step_13 (h : MacAt w0 w U N b M V) (hU : UnAt w0 w0.heap.size U) (hfu : 0 < M.fuel ∧ M.fuel ≤ 1000000) (ini : List Cal) (c : Cal) (hc : M.calls = ini ++ [c]) (rr : FnR) (hrr : U.fs[c.k]? = some rr) (p : Nat) (hp : c.pos = p) (i : Ins) (hi : rr.f.code[p]? = some i) (hpl : p ≤ 1000000)
    (h1 : i.kind = 13) (hst : StA M i) (hlo : c.aside ≤ M.aside.length) (hok : ∀ v ∈ M.aside, 0 ≤ v.reg ∧ v.reg < M.regs.length) (hal : M.aside.length ≤ 9000000) (hdst : c.dst = -1 ∨ (0 ≤ c.dst ∧ c.dst < M.regs.length)) : Calls Try.prog 33 #[mP b] w (MPost w0 U N b w V (leaveM (onM M ini c) ini { c with pos := c.pos + 1 } (mget (onM M ini c) i.a)) (.tuple #[])) := by
  have HLO : Hid (({ c with pos := c.pos + 1 } : Cal).aside ≤ (onM M ini c).aside.length) := Lib.hid hlo
  have HOK : Hid (∀ v ∈ (onM M ini c).aside, 0 ≤ v.reg ∧ v.reg < (onM M ini c).regs.length) := Lib.hid hok
  have HAL : Hid ((onM M ini c).aside.length ≤ 9000000) := Lib.hid hal
  have HDS : Hid (({ c with pos := c.pos + 1 } : Cal).dst = -1 ∨ (0 ≤ ({ c with pos := c.pos + 1 } : Cal).dst ∧ ({ c with pos := c.pos + 1 } : Cal).dst < (onM M ini c).regs.length)) := Lib.hid hdst
  have HRR : Hid (U.fs[({ c with pos := c.pos + 1 } : Cal).k]? = some rr) := Lib.hid hrr
  have HOC : Hid ((onM M ini c).calls = ini ++ [({ c with pos := c.pos + 1 } : Cal)]) := Lib.hid rfl
  clear hlo hok hal hdst
  have hmix : Try.prog.follows .mixedOrders = true := by kernel_rfl
  obtain ⟨cb, off, hca, hins⟩ := hU.ins hrr hi
  obtain ⟨c0, c1, c2, c3, c4, c5, c6, c7, c8, c9, c10, c11, c12, c13⟩ := h.cells
  obtain ⟨ca, cc, hvc, hcn, hcm, hcf⟩ := row_parts h.calls
  have hcll : M.calls.length = ini.length + 1 := by rw [hc]; simp
  obtain ⟨cg, hcga, hcg, hcgw, hccell⟩ : ∃ g, ca = some ⟨g, 0, none⟩ ∧ N ≤ g ∧ g < w.heap.size ∧ ∀ (j : Nat) (u : Value), (M.calls.flatMap (calCells U))[j]? = some u → w.cell? ⟨g, j, none⟩ = some u := by
    rcases hcf with ⟨_, h1, _⟩ | h1
    · omega
    · exact h1
  subst hcga
  have hcv : codeV U c.k = .slice (some ⟨cb, off, none⟩) rr.f.code.length rr.cc := by unfold codeV; rw [hrr, ← hca]
  have hcc : ∀ j, j < 5 → w.cell? ⟨cg, ini.length * 5 + j, none⟩ = (calCells U c)[j]? := fun j hj => by
    obtain ⟨u, hu⟩ : ∃ u, (calCells U c)[j]? = some u := ⟨_, List.getElem?_eq_getElem (by rw [calCells_len]; exact hj)⟩
    rw [hu]
    exact hccell _ u (by rw [hc, calls_last j hj, hu])
  have k0 : w.cell? ⟨cg, ini.length * 5, none⟩ = some (.slice (some ⟨cb, off, none⟩) rr.f.code.length rr.cc) := by rw [← hcv]; exact hcc 0 (by omega)
  have k1 : w.cell? ⟨cg, ini.length * 5 + 1, none⟩ = some (.int .i64 p) := by rw [← hp]; exact hcc 1 (by omega)
  have k2 : w.cell? ⟨cg, ini.length * 5 + 2, none⟩ = some (.int .i64 c.frame) := hcc 2 (by omega)
  have kf : ∀ j, w.frozen? ⟨cg, j, none⟩ = false := fun j => by
    obtain ⟨_, ⟨h0, _⟩ | ⟨g', cap', cur, hv, _, hh, _⟩⟩ := h.calls
    · rw [hvc] at h0; cases h0
    · rw [hvc] at hv
      injection hv with hv _ _
      injection hv with hv
      injection hv with hv _ _
      subst hv
      simp [World.frozen?, hh]
  obtain ⟨m, hm⟩ : ∃ m, ini.length = m := ⟨_, rfl⟩
  rw [hvc, hcll, hm] at c8
  rw [hm] at k0 k1 k2
  have HVC : Hid (V.vc = .slice (some ⟨cg, 0, none⟩) (m + 1) cc) := Lib.hid (by rw [hvc, hcll, hm])
  have HM := Lib.hid hm; have HCC := Lib.hid hc; have HI := Lib.hid hins; have HPP := Lib.hid hp; have HST := Lib.hid (hst.on hc); have HU := Lib.hid hU; have HK := Lib.hid h1
  have f1 := h.fz 4106
  have kf1 := kf (m * 5 + 1)
  have H := Lib.hid h
  have hpn : p < rr.f.code.length := (List.getElem?_eq_some_iff.1 hi).1
  obtain ⟨cn, hcnE⟩ : ∃ cn, rr.f.code.length = cn := ⟨_, rfl⟩
  rw [hcnE] at k0 hpn
  have e3 : ¬ cb = cg := by have := hins.lt; have := h.lo.1; have := h.hi.1; omega
  have e4 : ¬ cg = cb := fun e => e3 e.symm
  have e1 : ¬ b.mb = cg := by have := h.hi.1; omega
  have e2 : ¬ cg = b.mb := fun e => e1 e.symm
  have mbw : b.mb < w.heap.size := lt_heap h.box
  have hcl : m + 1 ≤ 1000001 := by have := hst.c; omega
  have q0 : (0 : Int) ≤ (m : Int) := Int.natCast_nonneg _
  have hw1 : IntKind.i64.wrap ((m : Int) + 1 - 1) = (m : Int) := by rw [IntKind.wrap_i64]; omega
  have hw3 : IntKind.i64.wrap (m : Int) = (m : Int) := by rw [IntKind.wrap_i64]; omega
  have hix : ∀ W, (Instr.indexAt 65 (.slice (some ⟨cg, 0, none⟩) (m + 1) cc) (.int .i64 m)).run Try.prog W = .ok (.pointer (some ⟨cg, m * 5, none⟩)) W := fun W => by
    have q1 : (m : Int) < ((m + 1 : Nat) : Int) := by omega
    have q0 : (0 : Int) ≤ (m : Int) := Int.natCast_nonneg _
    go_simp
    all_goals (intro h; omega)
  have q5 : (m : Int) < (m : Int) + 1 := by omega
  have q1 : (0 : Int) ≤ (p : Int) := Int.natCast_nonneg _
  have q2 : (p : Int) < (cn : Int) := by omega
  have q3 : (p : Int) ≤ 1000000 := by omega
  have wf : IntKind.i64.wrap (M.fuel - 1) = M.fuel - 1 := by rw [IntKind.wrap_i64]; omega
  have tf : (M.fuel == 0) = false := by simp; omega
  have wp1 : IntKind.i64.wrap ((p : Int) + 1) = (p : Int) + 1 := by rw [IntKind.wrap_i64]; omega
  clear hcv hcc hccell hca hcnE hc hcll hm hp hins hst hU h1 hi hrr hcf kf hvc h c0 c1 c2 c3 c4 c5 c6 c7 c9 c11 c12 c13
  go_enter Try.func33, Try.ntmps33
  go_wp2
  obtain ⟨wA, hwA⟩ : ∃ wA : World, w.setCell ⟨b.mb, 4106, none⟩ (.int .i64 (M.fuel - 1)) = wA := ⟨_, rfl⟩
  have HA : Hid (MacAt w0 wA U N b { M with fuel := M.fuel - 1 } V) := Lib.hid (by rw [← hwA]; exact H.out.field (M' := { M with fuel := M.fuel - 1 }) 6 (.int .i64 (M.fuel - 1)) rfl rfl rfl rfl rfl rfl rfl rfl)
  have HVA := Lib.hid (show Mov b w V wA V by rw [← hwA]; exact Mov.cell b w V (.inl rfl) 4106 (.int .i64 (M.fuel - 1)))
  have hcg1 : wA.heap[cg]? = w.heap[cg]? := by rw [← hwA]; exact heap_other7 e2
  have k0' := (cell_blk7 hcg1 (m * 5)).trans k0
  have k1' := (cell_blk7 hcg1 (m * 5 + 1)).trans k1
  have k2' := (cell_blk7 hcg1 (m * 5 + 2)).trans k2
  have kf1' : wA.frozen? ⟨cg, m * 5 + 1, none⟩ = false := by rw [← kf1]; unfold World.frozen?; simp only [hcg1]
  rw [hwA]
  obtain ⟨_, _, _, _, _, _, _, _, d8, _⟩ := HA.out.cells
  rw [HVC.out] at d8
  have d8' : wA.cell? ⟨b.mb, 4104, none⟩ = some (.slice (some ⟨cg, 0, none⟩) (m + 1) cc) := by
    rw [d8]
  have j0 : wA.cell? ⟨cb, off + p * 15, none⟩ = some (.int .i64 13) := by rw [← HK.out]; exact HA.out.ins HI.out 0 _ rfl
  clear hwA k0 k1 k2 kf1 c8 c10 f1 d8 hcg1
  go_region_held3 (fun w' => w'.cell? ⟨b.mb, 4104, none⟩ = some (.slice (some ⟨cg, 0, none⟩) (m + 1) cc)) (go_keep) (fail)
  go_wp2
  go_region_held3 (fun w' => w'.cell? ⟨cg, m * 5, none⟩ = some (.slice (some ⟨cb, off, none⟩) cn rr.cc) ∧ w'.cell? ⟨cg, m * 5 + 1, none⟩ = some (.int .i64 p)) (go_keep) (fail)
  have HB0 : Hid (MacAt w0 (wA.setCell ⟨cg, m * 5 + 1, none⟩ (.int .i64 ((p : Int) + 1))).drew.drew U N b (onM M ini c) V) := Lib.hid (by
    have := (HA.out.keep ((Below.refl _ wA).drew.drew)).setPos HCC.out HVC.out (c.pos + 1)
    rw [HPP.out, HM.out] at this
    unfold onM
    rw [HPP.out]
    exact this)
  have HVB0 : Hid (Mov b w V (wA.setCell ⟨cg, m * 5 + 1, none⟩ (.int .i64 ((p : Int) + 1))).drew.drew V) := Lib.hid ((HVA.out.trans (Mov.of_below ((Below.refl _ wA).drew.drew))).trans (Mov.pos HVC.out _ _))
  have i3 := HB0.out.ins HI.out 3 (.int .i64 i.a) rfl
  have i3' : wA.cell? ⟨cb, off + p * 15 + 3, none⟩ = some (.int .i64 i.a) := HA.out.ins HI.out 3 _ rfl
  go_wp2_with (first | ((with_reducible refine (get_v HB0.out i.a (mget (onM M ini c) i.a) rfl HST.out.a.1 HST.out.a.2 HST.out.s HST.out.c).mono ?_); rintro e wg ⟨rfl, hB⟩; have HBG := Lib.hid hB; clear hB) | ((with_reducible refine (leave_any (HB0.out.keep HBG.out) ini { c with pos := c.pos + 1 } HOC.out rr HRR.out (mget (onM M ini c) i.a) HLO.out HOK.out HST.out.s HST.out.c HAL.out HDS.out).mono ?_); rintro e v ⟨rfl, V2, hm2, hv2⟩; have HM5 := Lib.hid hm2; have HV5 := Lib.hid ((HVB0.out.trans (Mov.of_below HBG.out)).trans hv2); clear hm2 hv2))
  go_end0
  exact ⟨rfl, V2, HM5.out, HV5.out⟩
set_option maxRecDepth 100000 in
set_option maxHeartbeats 4000000 in
theorem step_8 (h : MacAt w0 w U N b M V) (hU : UnAt w0 w0.heap.size U) (hfu : 0 < M.fuel ∧ M.fuel ≤ 1000000) (ini : List Cal) (c : Cal) (hc : M.calls = ini ++ [c]) (rr : FnR) (hrr : U.fs[c.k]? = some rr) (p : Nat) (hp : c.pos = p) (i : Ins) (hi : rr.f.code[p]? = some i) (hpl : p ≤ 1000000)
    (h1 : i.kind = 8) (hcl7 : M.calls.length ≤ 1000001) (hn : 0 ≤ i.n ∧ i.n ≤ 6) (htx : i.text.length ≤ 1000000) (kf : Nat) (rf : FnR) (hf : findN U.fns i.text = some kf) (hrf : U.fs[kf]? = some rf) (hrs : ∀ r ∈ i.args.take i.n.toNat, 0 ≤ r ∧ r < M.regs.length) (hll : i.n ≤ M.regs.length) (hs8 : M.sets.length = M.regs.length) (hfree : 0 ≤ M.free ∧ M.free ≤ 4096) (hfr : 0 ≤ rf.f.frame ∧ rf.f.frame ≤ 4096) (hcl8 : M.calls.length ≤ 1000000) (hal : M.aside.length ≤ 9000000) : Calls Try.prog 33 #[mP b] w (MPost w0 U N b w V (callM U (onM M ini c) kf rf i) (.tuple #[])) := by
  have hcl9 : (onM M ini c).calls.length ≤ 1000000 := by have e : (onM M ini c).calls.length = M.calls.length := by (unfold onM posM; rw [hc]; simp)
                                                         rw [e]; exact hcl8
  have H1 := Lib.hid hn; have H2 := Lib.hid htx; have H3 := Lib.hid hf; have H4 := Lib.hid hrf; have H5 : Hid (∀ r ∈ i.args.take i.n.toNat, 0 ≤ r ∧ r < (onM M ini c).regs.length) := Lib.hid hrs; have H6 : Hid (i.n ≤ (onM M ini c).regs.length) := Lib.hid hll; have H7 : Hid (0 ≤ (onM M ini c).free ∧ (onM M ini c).free ≤ 4096) := Lib.hid hfree; have H8 := Lib.hid hfr; have H9 := Lib.hid hcl9; have H10 : Hid ((onM M ini c).aside.length ≤ 9000000) := Lib.hid hal; have H11 : Hid ((onM M ini c).sets.length = (onM M ini c).regs.length) := Lib.hid hs8
  clear hn htx hf hrf hrs hll hfree hfr hcl8 hcl9 hal hs8
  have hmix : Try.prog.follows .mixedOrders = true := by kernel_rfl
  obtain ⟨cb, off, hca, hins⟩ := hU.ins hrr hi
  obtain ⟨c0, c1, c2, c3, c4, c5, c6, c7, c8, c9, c10, c11, c12, c13⟩ := h.cells
  obtain ⟨ca, cc, hvc, hcn, hcm, hcf⟩ := row_parts h.calls
  have hcll : M.calls.length = ini.length + 1 := by rw [hc]; simp
  obtain ⟨cg, hcga, hcg, hcgw, hccell⟩ : ∃ g, ca = some ⟨g, 0, none⟩ ∧ N ≤ g ∧ g < w.heap.size ∧ ∀ (j : Nat) (u : Value), (M.calls.flatMap (calCells U))[j]? = some u → w.cell? ⟨g, j, none⟩ = some u := by
    rcases hcf with ⟨_, h1, _⟩ | h1
    · omega
    · exact h1
  subst hcga
  have hcv : codeV U c.k = .slice (some ⟨cb, off, none⟩) rr.f.code.length rr.cc := by unfold codeV; rw [hrr, ← hca]
  have hcc : ∀ j, j < 5 → w.cell? ⟨cg, ini.length * 5 + j, none⟩ = (calCells U c)[j]? := fun j hj => by
    obtain ⟨u, hu⟩ : ∃ u, (calCells U c)[j]? = some u := ⟨_, List.getElem?_eq_getElem (by rw [calCells_len]; exact hj)⟩
    rw [hu]
    exact hccell _ u (by rw [hc, calls_last j hj, hu])
  have k0 : w.cell? ⟨cg, ini.length * 5, none⟩ = some (.slice (some ⟨cb, off, none⟩) rr.f.code.length rr.cc) := by rw [← hcv]; exact hcc 0 (by omega)
  have k1 : w.cell? ⟨cg, ini.length * 5 + 1, none⟩ = some (.int .i64 p) := by rw [← hp]; exact hcc 1 (by omega)
  have k2 : w.cell? ⟨cg, ini.length * 5 + 2, none⟩ = some (.int .i64 c.frame) := hcc 2 (by omega)
  have kf : ∀ j, w.frozen? ⟨cg, j, none⟩ = false := fun j => by
    obtain ⟨_, ⟨h0, _⟩ | ⟨g', cap', cur, hv, _, hh, _⟩⟩ := h.calls
    · rw [hvc] at h0; cases h0
    · rw [hvc] at hv
      injection hv with hv _ _
      injection hv with hv
      injection hv with hv _ _
      subst hv
      simp [World.frozen?, hh]
  obtain ⟨m, hm⟩ : ∃ m, ini.length = m := ⟨_, rfl⟩
  rw [hvc, hcll, hm] at c8
  rw [hm] at k0 k1 k2
  have HVC : Hid (V.vc = .slice (some ⟨cg, 0, none⟩) (m + 1) cc) := Lib.hid (by rw [hvc, hcll, hm])
  have HM := Lib.hid hm; have HCC := Lib.hid hc; have HI := Lib.hid hins; have HPP := Lib.hid hp; have HST := Lib.hid hcl7; have HU := Lib.hid hU; have HK := Lib.hid h1
  have f1 := h.fz 4106
  have kf1 := kf (m * 5 + 1)
  have H := Lib.hid h
  have hpn : p < rr.f.code.length := (List.getElem?_eq_some_iff.1 hi).1
  obtain ⟨cn, hcnE⟩ : ∃ cn, rr.f.code.length = cn := ⟨_, rfl⟩
  rw [hcnE] at k0 hpn
  have e3 : ¬ cb = cg := by have := hins.lt; have := h.lo.1; have := h.hi.1; omega
  have e4 : ¬ cg = cb := fun e => e3 e.symm
  have e1 : ¬ b.mb = cg := by have := h.hi.1; omega
  have e2 : ¬ cg = b.mb := fun e => e1 e.symm
  have mbw : b.mb < w.heap.size := lt_heap h.box
  have hcl : m + 1 ≤ 1000001 := by have := hcl7; omega
  have q0 : (0 : Int) ≤ (m : Int) := Int.natCast_nonneg _
  have hw1 : IntKind.i64.wrap ((m : Int) + 1 - 1) = (m : Int) := by rw [IntKind.wrap_i64]; omega
  have hw3 : IntKind.i64.wrap (m : Int) = (m : Int) := by rw [IntKind.wrap_i64]; omega
  have hix : ∀ W, (Instr.indexAt 65 (.slice (some ⟨cg, 0, none⟩) (m + 1) cc) (.int .i64 m)).run Try.prog W = .ok (.pointer (some ⟨cg, m * 5, none⟩)) W := fun W => by
    have q1 : (m : Int) < ((m + 1 : Nat) : Int) := by omega
    have q0 : (0 : Int) ≤ (m : Int) := Int.natCast_nonneg _
    go_simp
    all_goals (intro h; omega)
  have q5 : (m : Int) < (m : Int) + 1 := by omega
  have q1 : (0 : Int) ≤ (p : Int) := Int.natCast_nonneg _
  have q2 : (p : Int) < (cn : Int) := by omega
  have q3 : (p : Int) ≤ 1000000 := by omega
  have wf : IntKind.i64.wrap (M.fuel - 1) = M.fuel - 1 := by rw [IntKind.wrap_i64]; omega
  have tf : (M.fuel == 0) = false := by simp; omega
  have wp1 : IntKind.i64.wrap ((p : Int) + 1) = (p : Int) + 1 := by rw [IntKind.wrap_i64]; omega
  clear hcv hcc hccell hca hcnE hc hcll hm hp hins hU h1 hi hrr hcf kf hvc h c0 c1 c2 c3 c4 c5 c6 c7 c9 c11 c12 c13
  go_enter Try.func33, Try.ntmps33
  go_wp2
  obtain ⟨wA, hwA⟩ : ∃ wA : World, w.setCell ⟨b.mb, 4106, none⟩ (.int .i64 (M.fuel - 1)) = wA := ⟨_, rfl⟩
  have HA : Hid (MacAt w0 wA U N b { M with fuel := M.fuel - 1 } V) := Lib.hid (by rw [← hwA]; exact H.out.field (M' := { M with fuel := M.fuel - 1 }) 6 (.int .i64 (M.fuel - 1)) rfl rfl rfl rfl rfl rfl rfl rfl)
  have HVA := Lib.hid (show Mov b w V wA V by rw [← hwA]; exact Mov.cell b w V (.inl rfl) 4106 (.int .i64 (M.fuel - 1)))
  have hcg1 : wA.heap[cg]? = w.heap[cg]? := by rw [← hwA]; exact heap_other7 e2
  have k0' := (cell_blk7 hcg1 (m * 5)).trans k0
  have k1' := (cell_blk7 hcg1 (m * 5 + 1)).trans k1
  have k2' := (cell_blk7 hcg1 (m * 5 + 2)).trans k2
  have kf1' : wA.frozen? ⟨cg, m * 5 + 1, none⟩ = false := by rw [← kf1]; unfold World.frozen?; simp only [hcg1]
  rw [hwA]
  obtain ⟨_, _, _, _, _, _, _, _, d8, _⟩ := HA.out.cells
  rw [HVC.out] at d8
  have d8' : wA.cell? ⟨b.mb, 4104, none⟩ = some (.slice (some ⟨cg, 0, none⟩) (m + 1) cc) := by
    rw [d8]
  have j0 : wA.cell? ⟨cb, off + p * 15, none⟩ = some (.int .i64 8) := by rw [← HK.out]; exact HA.out.ins HI.out 0 _ rfl
  clear hwA k0 k1 k2 kf1 c8 c10 f1 d8 hcg1
  go_region_held3 (fun w' => w'.cell? ⟨b.mb, 4104, none⟩ = some (.slice (some ⟨cg, 0, none⟩) (m + 1) cc)) (go_keep) (fail)
  go_wp2
  go_region_held3 (fun w' => w'.cell? ⟨cg, m * 5, none⟩ = some (.slice (some ⟨cb, off, none⟩) cn rr.cc) ∧ w'.cell? ⟨cg, m * 5 + 1, none⟩ = some (.int .i64 p)) (go_keep) (fail)
  have HB0 : Hid (MacAt w0 (wA.setCell ⟨cg, m * 5 + 1, none⟩ (.int .i64 ((p : Int) + 1))).drew.drew U N b (onM M ini c) V) := Lib.hid (by
    have := (HA.out.keep ((Below.refl _ wA).drew.drew)).setPos HCC.out HVC.out (c.pos + 1)
    rw [HPP.out, HM.out] at this
    unfold onM
    rw [HPP.out]
    exact this)
  have HVB0 : Hid (Mov b w V (wA.setCell ⟨cg, m * 5 + 1, none⟩ (.int .i64 ((p : Int) + 1))).drew.drew V) := Lib.hid ((HVA.out.trans (Mov.of_below ((Below.refl _ wA).drew.drew))).trans (Mov.pos HVC.out _ _))
  go_wp2_with ((with_reducible refine (call_any HB0.out HU.out i cb (off + p * 15) HI.out HK.out H1.out H2.out kf rf H3.out H4.out H5.out H6.out H11.out H7.out H8.out H9.out H10.out).mono ?_); rintro e v ⟨rfl, V2, hm2, hv2⟩; have HM5 := Lib.hid hm2; have HV5 := Lib.hid (HVB0.out.trans hv2); clear hm2 hv2)
  go_end0
  exact ⟨rfl, V2, HM5.out, HV5.out⟩
end Go.Proofs.Ytmcpfjhdeplgmaa
namespace Go.Proofs.Ytmcpfjhdeplgmaa
open Go.RowKit Cd Go.Maps
set_option linter.unusedVariables false
set_option linter.unusedSimpArgs false
variable {w0 w w' : World} {U : UnR} {N : Nat} {b : Blk} {M : Mac} {V : MV}
theorem MacAt.frameCell (h : MacAt w0 w U N b M V) {ini : List Cal} {c : Cal} (hc : M.calls = ini ++ [c]) {cg n cc : Nat} (hv : V.vc = .slice (some ⟨cg, 0, none⟩) n cc) : w.cell? ⟨cg, ini.length * 5 + 2, none⟩ = some (.int .i64 c.frame) := by
  obtain ⟨ca, c', hvc, _, _, hcf⟩ := row_parts h.calls
  rw [hv] at hvc
  injection hvc with e1 _ _
  rcases hcf with ⟨h0, _⟩ | ⟨g, hg, _, _, hcell⟩
  · rw [← e1] at h0; cases h0
  · rw [← e1] at hg
    injection hg with hg
    injection hg with hg _ _
    subst hg
    exact hcell _ _ (by rw [hc, calls_last 2 (by omega)]; rfl)
theorem MacAt.posCell (h : MacAt w0 w U N b M V) {ini : List Cal} {c : Cal} (hc : M.calls = ini ++ [c]) {cg n cc : Nat} (hv : V.vc = .slice (some ⟨cg, 0, none⟩) n cc) : w.cell? ⟨cg, ini.length * 5 + 1, none⟩ = some (.int .i64 c.pos) ∧ ∀ j, w.frozen? ⟨cg, j, none⟩ = false := by
  constructor
  · obtain ⟨ca, c', hvc, _, _, hcf⟩ := row_parts h.calls
    rw [hv] at hvc
    injection hvc with e1 _ _
    rcases hcf with ⟨h0, _⟩ | ⟨g, hg, _, _, hcell⟩
    · rw [← e1] at h0; cases h0
    · rw [← e1] at hg
      injection hg with hg
      injection hg with hg _ _
      subst hg
      exact hcell _ _ (by rw [hc, calls_last 1 (by omega)]; rfl)
  · intro j
    obtain ⟨_, ⟨h0, _⟩ | ⟨g', cap', cur, hv', _, hh, _⟩⟩ := h.calls
    · rw [hv] at h0; cases h0
    · rw [hv] at hv'
      injection hv' with hv' _ _
      injection hv' with hv'
      injection hv' with hv' _ _
      subst hv'
      simp [World.frozen?, hh]
theorem nextM_same (M : Mac) : (nextM M).2.regs = M.regs ∧ (nextM M).2.sets = M.sets ∧ (nextM M).2.calls = M.calls ∧ (nextM M).2.aside = M.aside := by
  unfold nextM
  split <;> exact ⟨rfl, rfl, rfl, rfl⟩
theorem posM_len (M : Mac) (ini : List Cal) (c : Cal) (p : Int) : (posM (onM M ini c) ini c p).calls.length = (onM M ini c).calls.length := by
  unfold onM posM
  simp
theorem mget_posM (M : Mac) (ini : List Cal) (c : Cal) (c' : Cal) (p r : Int) : mget (posM (onM M ini c) ini c' p) r = mget (onM M ini c) r := by
  unfold mget onM posM
  simp
theorem onM_calls (M : Mac) (ini : List Cal) (c : Cal) : (onM M ini c).calls = ini ++ [{ c with pos := c.pos + 1 }] := rfl
end Go.Proofs.Ytmcpfjhdeplgmaa
