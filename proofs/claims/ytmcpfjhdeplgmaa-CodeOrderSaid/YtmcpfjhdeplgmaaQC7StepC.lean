/-
  Layer 7: a step of the machine, by kinds.
-/
import Derived.Test.YtmcpfjhdeplgmaaQStepA
namespace Go.Proofs.Ytmcpfjhdeplgmaa
open Go.RowKit Cd Go.Maps
set_option linter.unusedVariables false
set_option linter.unusedSimpArgs false
variable {w0 w w' : World} {U : UnR} {N : Nat} {b : Blk} {M : Mac} {V : MV}
set_option maxRecDepth 100000 in
set_option maxHeartbeats 4000000 in
theorem step_5 (h : MacAt w0 w U N b M V) (hU : UnAt w0 w0.heap.size U) (hfu : 0 < M.fuel ∧ M.fuel ≤ 1000000) (ini : List Cal) (c : Cal) (hc : M.calls = ini ++ [c]) (rr : FnR) (hrr : U.fs[c.k]? = some rr) (p : Nat) (hp : c.pos = p) (i : Ins) (hi : rr.f.code[p]? = some i) (hpl : p ≤ 1000000)
    (h1 : i.kind = 5) (hst : StIn M i) (hfrm : 0 ≤ c.frame ∧ c.frame ≤ 4096 ∧ 0 ≤ i.n ∧ i.n ≤ 4096) : Calls Try.prog 33 #[mP b] w (MPost w0 U N b w V (mset (onM M ini c) i.dst (c.frame + i.n)) (.tuple #[])) := by
  obtain ⟨hfr0, hfr1, hin0, hin1⟩ := hfrm
  have wfr : IntKind.i64.wrap (c.frame + i.n) = c.frame + i.n := by rw [IntKind.wrap_i64]; omega
  have hmix : Try.prog.follows .mixedOrders = true := by kernel_rfl
  obtain ⟨cb, off, hca, hins⟩ := hU.ins hrr hi
  obtain ⟨c0, c1, c2, c3, c4, c5, c6, c7, c8, c9, c10, c11, c12, c13⟩ := h.cells
  obtain ⟨ca, cc, hvc, hcn, hcm, hcf⟩ := row_parts h.calls
  have hcll : M.calls.length = ini.length + 1 := by rw [hc]; simp
  obtain ⟨cg, hcga, hcg, hcgw, hccell⟩ : ∃ g, ca = some ⟨g, 0, none⟩ ∧ N ≤ g ∧ g < w.heap.size ∧ ∀ (j : Nat) (u : Value), (M.calls.flatMap (calCells U))[j]? = some u → w.cell? ⟨g, j, none⟩ = some u := by
    rcases hcf with ⟨_, h1, _⟩ | h1
    · omega
    · exact h1
  subst hcga
  have hcv : codeV U c.k = .slice (some ⟨cb, off, none⟩) rr.f.code.length rr.cc := by unfold codeV; rw [hrr, ← hca]
  have hcc : ∀ j, j < 5 → w.cell? ⟨cg, ini.length * 5 + j, none⟩ = (calCells U c)[j]? := fun j hj => by
    obtain ⟨u, hu⟩ : ∃ u, (calCells U c)[j]? = some u := ⟨_, List.getElem?_eq_getElem (by rw [calCells_len]; exact hj)⟩
    rw [hu]
    exact hccell _ u (by rw [hc, calls_last j hj, hu])
  have k0 : w.cell? ⟨cg, ini.length * 5, none⟩ = some (.slice (some ⟨cb, off, none⟩) rr.f.code.length rr.cc) := by rw [← hcv]; exact hcc 0 (by omega)
  have k1 : w.cell? ⟨cg, ini.length * 5 + 1, none⟩ = some (.int .i64 p) := by rw [← hp]; exact hcc 1 (by omega)
  have k2 : w.cell? ⟨cg, ini.length * 5 + 2, none⟩ = some (.int .i64 c.frame) := hcc 2 (by omega)
  have kf : ∀ j, w.frozen? ⟨cg, j, none⟩ = false := fun j => by
    obtain ⟨_, ⟨h0, _⟩ | ⟨g', cap', cur, hv, _, hh, _⟩⟩ := h.calls
    · rw [hvc] at h0; cases h0
    · rw [hvc] at hv
      injection hv with hv _ _
      injection hv with hv
      injection hv with hv _ _
      subst hv
      simp [World.frozen?, hh]
  obtain ⟨m, hm⟩ : ∃ m, ini.length = m := ⟨_, rfl⟩
  rw [hvc, hcll, hm] at c8
  rw [hm] at k0 k1 k2
  have HVC : Hid (V.vc = .slice (some ⟨cg, 0, none⟩) (m + 1) cc) := Lib.hid (by rw [hvc, hcll, hm])
  have HM := Lib.hid hm; have HCC := Lib.hid hc; have HI := Lib.hid hins; have HPP := Lib.hid hp; have HST := Lib.hid (hst.on hc); have HU := Lib.hid hU; have HK := Lib.hid h1
  have f1 := h.fz 4106
  have kf1 := kf (m * 5 + 1)
  have H := Lib.hid h
  have hpn : p < rr.f.code.length := (List.getElem?_eq_some_iff.1 hi).1
  obtain ⟨cn, hcnE⟩ : ∃ cn, rr.f.code.length = cn := ⟨_, rfl⟩
  rw [hcnE] at k0 hpn
  have e3 : ¬ cb = cg := by have := hins.lt; have := h.lo.1; have := h.hi.1; omega
  have e4 : ¬ cg = cb := fun e => e3 e.symm
  have e1 : ¬ b.mb = cg := by have := h.hi.1; omega
  have e2 : ¬ cg = b.mb := fun e => e1 e.symm
  have mbw : b.mb < w.heap.size := lt_heap h.box
  have hcl : m + 1 ≤ 1000001 := by have := hst.c; omega
  have q0 : (0 : Int) ≤ (m : Int) := Int.natCast_nonneg _
  have hw1 : IntKind.i64.wrap ((m : Int) + 1 - 1) = (m : Int) := by rw [IntKind.wrap_i64]; omega
  have hw3 : IntKind.i64.wrap (m : Int) = (m : Int) := by rw [IntKind.wrap_i64]; omega
  have hix : ∀ W, (Instr.indexAt 65 (.slice (some ⟨cg, 0, none⟩) (m + 1) cc) (.int .i64 m)).run Try.prog W = .ok (.pointer (some ⟨cg, m * 5, none⟩)) W := fun W => by
    have q1 : (m : Int) < ((m + 1 : Nat) : Int) := by omega
    have q0 : (0 : Int) ≤ (m : Int) := Int.natCast_nonneg _
    go_simp
    all_goals (intro h; omega)
  have q5 : (m : Int) < (m : Int) + 1 := by omega
  have q1 : (0 : Int) ≤ (p : Int) := Int.natCast_nonneg _
  have q2 : (p : Int) < (cn : Int) := by omega
  have q3 : (p : Int) ≤ 1000000 := by omega
  have wf : IntKind.i64.wrap (M.fuel - 1) = M.fuel - 1 := by rw [IntKind.wrap_i64]; omega
  have tf : (M.fuel == 0) = false := by simp; omega
  have wp1 : IntKind.i64.wrap ((p : Int) + 1) = (p : Int) + 1 := by rw [IntKind.wrap_i64]; omega
  clear hcv hcc hccell hca hcnE hc hcll hm hp hins hst hU h1 hi hrr hcf kf hvc h c0 c1 c2 c3 c4 c5 c6 c7 c9 c11 c12 c13
  go_enter Try.func33, Try.ntmps33
  go_wp2
  obtain ⟨wA, hwA⟩ : ∃ wA : World, w.setCell ⟨b.mb, 4106, none⟩ (.int .i64 (M.fuel - 1)) = wA := ⟨_, rfl⟩
  have HA : Hid (MacAt w0 wA U N b { M with fuel := M.fuel - 1 } V) := Lib.hid (by rw [← hwA]; exact H.out.field (M' := { M with fuel := M.fuel - 1 }) 6 (.int .i64 (M.fuel - 1)) rfl rfl rfl rfl rfl rfl rfl rfl)
  have HVA := Lib.hid (show Mov b w V wA V by rw [← hwA]; exact Mov.cell b w V (.inl rfl) 4106 (.int .i64 (M.fuel - 1)))
  have hcg1 : wA.heap[cg]? = w.heap[cg]? := by rw [← hwA]; exact heap_other7 e2
  have k0' := (cell_blk7 hcg1 (m * 5)).trans k0
  have k1' := (cell_blk7 hcg1 (m * 5 + 1)).trans k1
  have k2' := (cell_blk7 hcg1 (m * 5 + 2)).trans k2
  have kf1' : wA.frozen? ⟨cg, m * 5 + 1, none⟩ = false := by rw [← kf1]; unfold World.frozen?; simp only [hcg1]
  rw [hwA]
  obtain ⟨_, _, _, _, _, _, _, _, d8, _⟩ := HA.out.cells
  rw [HVC.out] at d8
  have d8' : wA.cell? ⟨b.mb, 4104, none⟩ = some (.slice (some ⟨cg, 0, none⟩) (m + 1) cc) := by
    rw [d8]
  have j0 : wA.cell? ⟨cb, off + p * 15, none⟩ = some (.int .i64 5) := by rw [← HK.out]; exact HA.out.ins HI.out 0 _ rfl
  clear hwA k0 k1 k2 kf1 c8 c10 f1 d8 hcg1
  go_region_held3 (fun w' => w'.cell? ⟨b.mb, 4104, none⟩ = some (.slice (some ⟨cg, 0, none⟩) (m + 1) cc)) (go_keep) (fail)
  go_wp2
  go_region_held3 (fun w' => w'.cell? ⟨cg, m * 5, none⟩ = some (.slice (some ⟨cb, off, none⟩) cn rr.cc) ∧ w'.cell? ⟨cg, m * 5 + 1, none⟩ = some (.int .i64 p)) (go_keep) (fail)
  have HB0 : Hid (MacAt w0 (wA.setCell ⟨cg, m * 5 + 1, none⟩ (.int .i64 ((p : Int) + 1))).drew.drew U N b (onM M ini c) V) := Lib.hid (by
    have := (HA.out.keep ((Below.refl _ wA).drew.drew)).setPos HCC.out HVC.out (c.pos + 1)
    rw [HPP.out, HM.out] at this
    unfold onM
    rw [HPP.out]
    exact this)
  have HVB0 : Hid (Mov b w V (wA.setCell ⟨cg, m * 5 + 1, none⟩ (.int .i64 ((p : Int) + 1))).drew.drew V) := Lib.hid ((HVA.out.trans (Mov.of_below ((Below.refl _ wA).drew.drew))).trans (Mov.pos HVC.out _ _))
  go_wp2
  obtain ⟨wB, hwB⟩ : ∃ wB : World, (wA.setCell ⟨cg, m * 5 + 1, none⟩ (.int .i64 ((p : Int) + 1))).drew.drew = wB := ⟨_, rfl⟩
  have HB : Hid (MacAt w0 wB U N b (onM M ini c) V) := Lib.hid (by rw [← hwB]; exact HB0.out)
  have HVB : Hid (Mov b w V wB V) := Lib.hid (by rw [← hwB]; exact HVB0.out)
  rw [hwB]
  clear HB0 HVB0
  refine region_last (fun W : World => ∃ (M' : Mac) (V' : MV), MacAt w0 W U N b M' V' ∧ W.cell? ⟨cg, m * 5 + 2, none⟩ = some (.int .i64 c.frame)) 1000000 hmix ?_
  have hL : MacAt w0 wB.drew U N b (onM M ini c) V := HB.out.keep ((Below.refl _ wB).drew)
  have hS : (fun W : World => ∃ (M' : Mac) (V' : MV), MacAt w0 W U N b M' V' ∧ W.cell? ⟨cg, m * 5 + 2, none⟩ = some (.int .i64 c.frame)) wB.drew := ⟨_, V, hL, by rw [← HM.out]; exact hL.frameCell (onM_calls M ini c) HVC.out⟩
  have HVL := Lib.hid (HVB.out.trans (Mov.of_below ((Below.refl _ wB).drew)))
  refine anyL_takeH (i := 0) (v := ?_) rfl (by decide) (by kernel_rfl) (by kernel_rfl) (by kernel_rfl) (fun _ _ _ h => h) (Or.inl ⟨by rfl, ?_⟩) hS ?_
  rotate_left
  · (intro w' hSw; obtain ⟨M', V', hSm, hSf⟩ := hSw; have s2 : w'.cell? ⟨cb, off + p * 15 + 2, none⟩ = some (.int .i64 i.dst) := hSm.ins HI.out 2 _ rfl; have s3 : w'.cell? ⟨cb, off + p * 15 + 3, none⟩ = some (.int .i64 i.a) := hSm.ins HI.out 3 _ rfl; have s5 : w'.cell? ⟨cb, off + p * 15 + 5, none⟩ = some (.int .i64 i.n) := hSm.ins HI.out 5 _ rfl; clear hSm; go_simp; first | done | with_reducible rfl)
  simp only [Act.put, List.getElem_toArray, List.getElem_cons_succ, List.getElem_cons_zero, List.setIfInBounds_toArray, List.set_cons_succ, List.set_cons_zero]
  refine anyL_takeH (i := 1) (v := ?_) rfl (by decide) (by kernel_rfl) (by kernel_rfl) (by kernel_rfl) (fun _ _ _ h => h) (Or.inl ⟨by rfl, ?_⟩) hS ?_
  rotate_left
  · (intro w' hSw; obtain ⟨M', V', hSm, hSf⟩ := hSw; have s2 : w'.cell? ⟨cb, off + p * 15 + 2, none⟩ = some (.int .i64 i.dst) := hSm.ins HI.out 2 _ rfl; have s3 : w'.cell? ⟨cb, off + p * 15 + 3, none⟩ = some (.int .i64 i.a) := hSm.ins HI.out 3 _ rfl; have s5 : w'.cell? ⟨cb, off + p * 15 + 5, none⟩ = some (.int .i64 i.n) := hSm.ins HI.out 5 _ rfl; clear hSm; go_simp; first | done | with_reducible rfl)
  simp only [Act.put, List.getElem_toArray, List.getElem_cons_succ, List.getElem_cons_zero, List.setIfInBounds_toArray, List.set_cons_succ, List.set_cons_zero]
  refine anyL_takeH (i := 2) (v := ?_) rfl (by decide) (by kernel_rfl) (by kernel_rfl) (by kernel_rfl) (fun _ _ _ h => h) (Or.inl ⟨by rfl, ?_⟩) hS ?_
  rotate_left
  · (intro w' hSw; obtain ⟨M', V', hSm, hSf⟩ := hSw; have s2 : w'.cell? ⟨cb, off + p * 15 + 2, none⟩ = some (.int .i64 i.dst) := hSm.ins HI.out 2 _ rfl; have s3 : w'.cell? ⟨cb, off + p * 15 + 3, none⟩ = some (.int .i64 i.a) := hSm.ins HI.out 3 _ rfl; have s5 : w'.cell? ⟨cb, off + p * 15 + 5, none⟩ = some (.int .i64 i.n) := hSm.ins HI.out 5 _ rfl; clear hSm; go_simp; first | done | with_reducible rfl)
  simp only [Act.put, List.getElem_toArray, List.getElem_cons_succ, List.getElem_cons_zero, List.setIfInBounds_toArray, List.set_cons_succ, List.set_cons_zero]
  refine anyL_takeH (i := 3) (v := ?_) rfl (by decide) (by kernel_rfl) (by kernel_rfl) (by kernel_rfl) (fun _ _ _ h => h) (Or.inl ⟨by rfl, ?_⟩) hS ?_
  rotate_left
  · (intro w' hSw; obtain ⟨M', V', hSm, hSf⟩ := hSw; have s2 : w'.cell? ⟨cb, off + p * 15 + 2, none⟩ = some (.int .i64 i.dst) := hSm.ins HI.out 2 _ rfl; have s3 : w'.cell? ⟨cb, off + p * 15 + 3, none⟩ = some (.int .i64 i.a) := hSm.ins HI.out 3 _ rfl; have s5 : w'.cell? ⟨cb, off + p * 15 + 5, none⟩ = some (.int .i64 i.n) := hSm.ins HI.out 5 _ rfl; clear hSm; go_simp; first | done | with_reducible rfl)
  simp only [Act.put, List.getElem_toArray, List.getElem_cons_succ, List.getElem_cons_zero, List.setIfInBounds_toArray, List.set_cons_succ, List.set_cons_zero]
  refine anyL_takeH (i := 4) (v := ?_) rfl (by decide) (by kernel_rfl) (by kernel_rfl) (by kernel_rfl) (fun _ _ _ h => h) (Or.inl ⟨by rfl, ?_⟩) hS ?_
  rotate_left
  · (intro w' hSw; obtain ⟨M', V', hSm, hSf⟩ := hSw; have s2 : w'.cell? ⟨cb, off + p * 15 + 2, none⟩ = some (.int .i64 i.dst) := hSm.ins HI.out 2 _ rfl; have s3 : w'.cell? ⟨cb, off + p * 15 + 3, none⟩ = some (.int .i64 i.a) := hSm.ins HI.out 3 _ rfl; have s5 : w'.cell? ⟨cb, off + p * 15 + 5, none⟩ = some (.int .i64 i.n) := hSm.ins HI.out 5 _ rfl; clear hSm; go_simp; first | done | with_reducible rfl)
  simp only [Act.put, List.getElem_toArray, List.getElem_cons_succ, List.getElem_cons_zero, List.setIfInBounds_toArray, List.set_cons_succ, List.set_cons_zero]
  refine anyL_takeH (i := 5) (v := ?_) rfl (by decide) (by kernel_rfl) (by kernel_rfl) (by kernel_rfl) (fun _ _ _ h => h) (Or.inl ⟨by rfl, ?_⟩) hS ?_
  rotate_left
  · (intro w' hSw; obtain ⟨M', V', hSm, hSf⟩ := hSw; have s2 : w'.cell? ⟨cb, off + p * 15 + 2, none⟩ = some (.int .i64 i.dst) := hSm.ins HI.out 2 _ rfl; have s3 : w'.cell? ⟨cb, off + p * 15 + 3, none⟩ = some (.int .i64 i.a) := hSm.ins HI.out 3 _ rfl; have s5 : w'.cell? ⟨cb, off + p * 15 + 5, none⟩ = some (.int .i64 i.n) := hSm.ins HI.out 5 _ rfl; clear hSm; go_simp; first | done | with_reducible rfl)
  simp only [Act.put, List.getElem_toArray, List.getElem_cons_succ, List.getElem_cons_zero, List.setIfInBounds_toArray, List.set_cons_succ, List.set_cons_zero]
  refine anyL_takeH (i := 6) (v := ?_) rfl (by decide) (by kernel_rfl) (by kernel_rfl) (by kernel_rfl) (fun _ _ _ h => h) (Or.inl ⟨by rfl, ?_⟩) hS ?_
  rotate_left
  · (intro w' hSw; obtain ⟨M', V', hSm, hSf⟩ := hSw; have s2 : w'.cell? ⟨cb, off + p * 15 + 2, none⟩ = some (.int .i64 i.dst) := hSm.ins HI.out 2 _ rfl; have s3 : w'.cell? ⟨cb, off + p * 15 + 3, none⟩ = some (.int .i64 i.a) := hSm.ins HI.out 3 _ rfl; have s5 : w'.cell? ⟨cb, off + p * 15 + 5, none⟩ = some (.int .i64 i.n) := hSm.ins HI.out 5 _ rfl; clear hSm; go_simp; first | done | with_reducible rfl)
  simp only [Act.put, List.getElem_toArray, List.getElem_cons_succ, List.getElem_cons_zero, List.setIfInBounds_toArray, List.set_cons_succ, List.set_cons_zero]
  refine anyL_takeH (i := 7) (v := ?_) rfl (by decide) (by kernel_rfl) (by kernel_rfl) (by kernel_rfl) (fun _ _ _ h => h) (Or.inl ⟨by rfl, ?_⟩) hS ?_
  rotate_left
  · (intro w' hSw; obtain ⟨M', V', hSm, hSf⟩ := hSw; have s2 : w'.cell? ⟨cb, off + p * 15 + 2, none⟩ = some (.int .i64 i.dst) := hSm.ins HI.out 2 _ rfl; have s3 : w'.cell? ⟨cb, off + p * 15 + 3, none⟩ = some (.int .i64 i.a) := hSm.ins HI.out 3 _ rfl; have s5 : w'.cell? ⟨cb, off + p * 15 + 5, none⟩ = some (.int .i64 i.n) := hSm.ins HI.out 5 _ rfl; clear hSm; go_simp; first | done | with_reducible rfl)
  simp only [Act.put, List.getElem_toArray, List.getElem_cons_succ, List.getElem_cons_zero, List.setIfInBounds_toArray, List.set_cons_succ, List.set_cons_zero]
  refine anyL_takeH (i := 8) (v := ?_) rfl (by decide) (by kernel_rfl) (by kernel_rfl) (by kernel_rfl) (fun _ _ _ h => h) (Or.inl ⟨by rfl, ?_⟩) hS ?_
  rotate_left
  · (intro w' hSw; obtain ⟨M', V', hSm, hSf⟩ := hSw; have s2 : w'.cell? ⟨cb, off + p * 15 + 2, none⟩ = some (.int .i64 i.dst) := hSm.ins HI.out 2 _ rfl; have s3 : w'.cell? ⟨cb, off + p * 15 + 3, none⟩ = some (.int .i64 i.a) := hSm.ins HI.out 3 _ rfl; have s5 : w'.cell? ⟨cb, off + p * 15 + 5, none⟩ = some (.int .i64 i.n) := hSm.ins HI.out 5 _ rfl; clear hSm; go_simp; first | done | with_reducible rfl)
  simp only [Act.put, List.getElem_toArray, List.getElem_cons_succ, List.getElem_cons_zero, List.setIfInBounds_toArray, List.set_cons_succ, List.set_cons_zero]
  refine anyL_takeH (i := 9) (v := ?_) rfl (by decide) (by kernel_rfl) (by kernel_rfl) (by kernel_rfl) (fun _ _ _ h => h) (Or.inl ⟨by rfl, ?_⟩) hS ?_
  rotate_left
  · (intro w' hSw; obtain ⟨M', V', hSm, hSf⟩ := hSw; have s2 : w'.cell? ⟨cb, off + p * 15 + 2, none⟩ = some (.int .i64 i.dst) := hSm.ins HI.out 2 _ rfl; have s3 : w'.cell? ⟨cb, off + p * 15 + 3, none⟩ = some (.int .i64 i.a) := hSm.ins HI.out 3 _ rfl; have s5 : w'.cell? ⟨cb, off + p * 15 + 5, none⟩ = some (.int .i64 i.n) := hSm.ins HI.out 5 _ rfl; clear hSm; go_simp; first | done | with_reducible rfl)
  simp only [Act.put, List.getElem_toArray, List.getElem_cons_succ, List.getElem_cons_zero, List.setIfInBounds_toArray, List.set_cons_succ, List.set_cons_zero]
  refine anyL_takeH (i := 10) (v := ?_) rfl (by decide) (by kernel_rfl) (by kernel_rfl) (by kernel_rfl) (fun _ _ _ h => h) (Or.inl ⟨by rfl, ?_⟩) hS ?_
  rotate_left
  · (intro w' hSw; obtain ⟨M', V', hSm, hSf⟩ := hSw; have s2 : w'.cell? ⟨cb, off + p * 15 + 2, none⟩ = some (.int .i64 i.dst) := hSm.ins HI.out 2 _ rfl; have s3 : w'.cell? ⟨cb, off + p * 15 + 3, none⟩ = some (.int .i64 i.a) := hSm.ins HI.out 3 _ rfl; have s5 : w'.cell? ⟨cb, off + p * 15 + 5, none⟩ = some (.int .i64 i.n) := hSm.ins HI.out 5 _ rfl; clear hSm; go_simp; first | done | with_reducible rfl)
  simp only [Act.put, List.getElem_toArray, List.getElem_cons_succ, List.getElem_cons_zero, List.setIfInBounds_toArray, List.set_cons_succ, List.set_cons_zero]
  refine anyL_takeH (i := 11) (v := ?_) rfl (by decide) (by kernel_rfl) (by kernel_rfl) (by kernel_rfl) (fun _ _ _ h => h) (Or.inl ⟨by rfl, ?_⟩) hS ?_
  rotate_left
  · (intro w' hSw; obtain ⟨M', V', hSm, hSf⟩ := hSw; have s2 : w'.cell? ⟨cb, off + p * 15 + 2, none⟩ = some (.int .i64 i.dst) := hSm.ins HI.out 2 _ rfl; have s3 : w'.cell? ⟨cb, off + p * 15 + 3, none⟩ = some (.int .i64 i.a) := hSm.ins HI.out 3 _ rfl; have s5 : w'.cell? ⟨cb, off + p * 15 + 5, none⟩ = some (.int .i64 i.n) := hSm.ins HI.out 5 _ rfl; clear hSm; go_simp; first | done | with_reducible rfl)
  simp only [Act.put, List.getElem_toArray, List.getElem_cons_succ, List.getElem_cons_zero, List.setIfInBounds_toArray, List.set_cons_succ, List.set_cons_zero]
  refine anyL_takeH (i := 12) (v := ?_) rfl (by decide) (by kernel_rfl) (by kernel_rfl) (by kernel_rfl) (fun _ _ _ h => h) (Or.inl ⟨by rfl, ?_⟩) hS ?_
  rotate_left
  · (intro w' hSw; obtain ⟨M', V', hSm, hSf⟩ := hSw; have s2 : w'.cell? ⟨cb, off + p * 15 + 2, none⟩ = some (.int .i64 i.dst) := hSm.ins HI.out 2 _ rfl; have s3 : w'.cell? ⟨cb, off + p * 15 + 3, none⟩ = some (.int .i64 i.a) := hSm.ins HI.out 3 _ rfl; have s5 : w'.cell? ⟨cb, off + p * 15 + 5, none⟩ = some (.int .i64 i.n) := hSm.ins HI.out 5 _ rfl; clear hSm; go_simp; first | done | with_reducible rfl)
  simp only [Act.put, List.getElem_toArray, List.getElem_cons_succ, List.getElem_cons_zero, List.setIfInBounds_toArray, List.set_cons_succ, List.set_cons_zero]
  refine anyL_takeH (i := 13) (v := ?_) rfl (by decide) (by kernel_rfl) (by kernel_rfl) (by kernel_rfl) (fun _ _ _ h => h) (Or.inl ⟨by rfl, ?_⟩) hS ?_
  rotate_left
  · (intro w' hSw; obtain ⟨M', V', hSm, hSf⟩ := hSw; have s2 : w'.cell? ⟨cb, off + p * 15 + 2, none⟩ = some (.int .i64 i.dst) := hSm.ins HI.out 2 _ rfl; have s3 : w'.cell? ⟨cb, off + p * 15 + 3, none⟩ = some (.int .i64 i.a) := hSm.ins HI.out 3 _ rfl; have s5 : w'.cell? ⟨cb, off + p * 15 + 5, none⟩ = some (.int .i64 i.n) := hSm.ins HI.out 5 _ rfl; clear hSm; go_simp; first | done | with_reducible rfl)
  simp only [Act.put, List.getElem_toArray, List.getElem_cons_succ, List.getElem_cons_zero, List.setIfInBounds_toArray, List.set_cons_succ, List.set_cons_zero]
  refine anyL_one (i := 14) (by kernel_rfl) rfl (fun K1 hK1 => ?_)
  go_simp
  refine (set_c hL i.dst (c.frame + i.n) HST.out.d.1 HST.out.d.2 HST.out.s HST.out.c HST.out.l).mono ?_
  rintro e v ⟨rfl, V2, hm2, hv2, hvc2⟩
  have hS3 : (fun W : World => ∃ (M' : Mac) (V' : MV), MacAt w0 W U N b M' V' ∧ W.cell? ⟨cg, m * 5 + 2, none⟩ = some (.int .i64 c.frame)) v := ⟨_, V2, hm2, by rw [← HM.out]; exact hm2.frameCell (((mset_same (onM M ini c) i.dst (c.frame + i.n)).2.2.1).trans (onM_calls M ini c)) (hvc2.trans HVC.out)⟩
  have HM5 := Lib.hid hm2; have HV5 := Lib.hid (HVL.out.trans hv2); clear hm2 hv2 hvc2 hS hL
  refine hK1.out _ _ (fun _ => hS3) ?_
  clear hK1 K1 hS3
  refine anyL_done (by kernel_rfl) ?_ _
  go_wp2
  go_end0
  exact ⟨rfl, V2, HM5.out, HV5.out⟩
set_option maxRecDepth 100000 in
set_option maxHeartbeats 4000000 in
theorem step_9 (h : MacAt w0 w U N b M V) (hU : UnAt w0 w0.heap.size U) (hfu : 0 < M.fuel ∧ M.fuel ≤ 1000000) (ini : List Cal) (c : Cal) (hc : M.calls = ini ++ [c]) (rr : FnR) (hrr : U.fs[c.k]? = some rr) (p : Nat) (hp : c.pos = p) (i : Ins) (hi : rr.f.code[p]? = some i) (hpl : p ≤ 1000000)
    (h1 : i.kind = 9) (hst : StIn M i) : Calls Try.prog 33 #[mP b] w (MPost w0 U N b w V (mset (nextM (onM M ini c)).2 i.dst (nextM (onM M ini c)).1) (.tuple #[])) := by
  have hmix : Try.prog.follows .mixedOrders = true := by kernel_rfl
  obtain ⟨cb, off, hca, hins⟩ := hU.ins hrr hi
  obtain ⟨c0, c1, c2, c3, c4, c5, c6, c7, c8, c9, c10, c11, c12, c13⟩ := h.cells
  obtain ⟨ca, cc, hvc, hcn, hcm, hcf⟩ := row_parts h.calls
  have hcll : M.calls.length = ini.length + 1 := by rw [hc]; simp
  obtain ⟨cg, hcga, hcg, hcgw, hccell⟩ : ∃ g, ca = some ⟨g, 0, none⟩ ∧ N ≤ g ∧ g < w.heap.size ∧ ∀ (j : Nat) (u : Value), (M.calls.flatMap (calCells U))[j]? = some u → w.cell? ⟨g, j, none⟩ = some u := by
    rcases hcf with ⟨_, h1, _⟩ | h1
    · omega
    · exact h1
  subst hcga
  have hcv : codeV U c.k = .slice (some ⟨cb, off, none⟩) rr.f.code.length rr.cc := by unfold codeV; rw [hrr, ← hca]
  have hcc : ∀ j, j < 5 → w.cell? ⟨cg, ini.length * 5 + j, none⟩ = (calCells U c)[j]? := fun j hj => by
    obtain ⟨u, hu⟩ : ∃ u, (calCells U c)[j]? = some u := ⟨_, List.getElem?_eq_getElem (by rw [calCells_len]; exact hj)⟩
    rw [hu]
    exact hccell _ u (by rw [hc, calls_last j hj, hu])
  have k0 : w.cell? ⟨cg, ini.length * 5, none⟩ = some (.slice (some ⟨cb, off, none⟩) rr.f.code.length rr.cc) := by rw [← hcv]; exact hcc 0 (by omega)
  have k1 : w.cell? ⟨cg, ini.length * 5 + 1, none⟩ = some (.int .i64 p) := by rw [← hp]; exact hcc 1 (by omega)
  have k2 : w.cell? ⟨cg, ini.length * 5 + 2, none⟩ = some (.int .i64 c.frame) := hcc 2 (by omega)
  have kf : ∀ j, w.frozen? ⟨cg, j, none⟩ = false := fun j => by
    obtain ⟨_, ⟨h0, _⟩ | ⟨g', cap', cur, hv, _, hh, _⟩⟩ := h.calls
    · rw [hvc] at h0; cases h0
    · rw [hvc] at hv
      injection hv with hv _ _
      injection hv with hv
      injection hv with hv _ _
      subst hv
      simp [World.frozen?, hh]
  obtain ⟨m, hm⟩ : ∃ m, ini.length = m := ⟨_, rfl⟩
  rw [hvc, hcll, hm] at c8
  rw [hm] at k0 k1 k2
  have HVC : Hid (V.vc = .slice (some ⟨cg, 0, none⟩) (m + 1) cc) := Lib.hid (by rw [hvc, hcll, hm])
  have HM := Lib.hid hm; have HCC := Lib.hid hc; have HI := Lib.hid hins; have HPP := Lib.hid hp; have HST := Lib.hid (hst.on hc); have HU := Lib.hid hU; have HK := Lib.hid h1
  have f1 := h.fz 4106
  have kf1 := kf (m * 5 + 1)
  have H := Lib.hid h
  have hpn : p < rr.f.code.length := (List.getElem?_eq_some_iff.1 hi).1
  obtain ⟨cn, hcnE⟩ : ∃ cn, rr.f.code.length = cn := ⟨_, rfl⟩
  rw [hcnE] at k0 hpn
  have e3 : ¬ cb = cg := by have := hins.lt; have := h.lo.1; have := h.hi.1; omega
  have e4 : ¬ cg = cb := fun e => e3 e.symm
  have e1 : ¬ b.mb = cg := by have := h.hi.1; omega
  have e2 : ¬ cg = b.mb := fun e => e1 e.symm
  have mbw : b.mb < w.heap.size := lt_heap h.box
  have hcl : m + 1 ≤ 1000001 := by have := hst.c; omega
  have q0 : (0 : Int) ≤ (m : Int) := Int.natCast_nonneg _
  have hw1 : IntKind.i64.wrap ((m : Int) + 1 - 1) = (m : Int) := by rw [IntKind.wrap_i64]; omega
  have hw3 : IntKind.i64.wrap (m : Int) = (m : Int) := by rw [IntKind.wrap_i64]; omega
  have hix : ∀ W, (Instr.indexAt 65 (.slice (some ⟨cg, 0, none⟩) (m + 1) cc) (.int .i64 m)).run Try.prog W = .ok (.pointer (some ⟨cg, m * 5, none⟩)) W := fun W => by
    have q1 : (m : Int) < ((m + 1 : Nat) : Int) := by omega
    have q0 : (0 : Int) ≤ (m : Int) := Int.natCast_nonneg _
    go_simp
    all_goals (intro h; omega)
  have q5 : (m : Int) < (m : Int) + 1 := by omega
  have q1 : (0 : Int) ≤ (p : Int) := Int.natCast_nonneg _
  have q2 : (p : Int) < (cn : Int) := by omega
  have q3 : (p : Int) ≤ 1000000 := by omega
  have wf : IntKind.i64.wrap (M.fuel - 1) = M.fuel - 1 := by rw [IntKind.wrap_i64]; omega
  have tf : (M.fuel == 0) = false := by simp; omega
  have wp1 : IntKind.i64.wrap ((p : Int) + 1) = (p : Int) + 1 := by rw [IntKind.wrap_i64]; omega
  clear hcv hcc hccell hca hcnE hc hcll hm hp hins hst hU h1 hi hrr hcf kf hvc h c0 c1 c2 c3 c4 c5 c6 c7 c9 c11 c12 c13
  go_enter Try.func33, Try.ntmps33
  go_wp2
  obtain ⟨wA, hwA⟩ : ∃ wA : World, w.setCell ⟨b.mb, 4106, none⟩ (.int .i64 (M.fuel - 1)) = wA := ⟨_, rfl⟩
  have HA : Hid (MacAt w0 wA U N b { M with fuel := M.fuel - 1 } V) := Lib.hid (by rw [← hwA]; exact H.out.field (M' := { M with fuel := M.fuel - 1 }) 6 (.int .i64 (M.fuel - 1)) rfl rfl rfl rfl rfl rfl rfl rfl)
  have HVA := Lib.hid (show Mov b w V wA V by rw [← hwA]; exact Mov.cell b w V (.inl rfl) 4106 (.int .i64 (M.fuel - 1)))
  have hcg1 : wA.heap[cg]? = w.heap[cg]? := by rw [← hwA]; exact heap_other7 e2
  have k0' := (cell_blk7 hcg1 (m * 5)).trans k0
  have k1' := (cell_blk7 hcg1 (m * 5 + 1)).trans k1
  have k2' := (cell_blk7 hcg1 (m * 5 + 2)).trans k2
  have kf1' : wA.frozen? ⟨cg, m * 5 + 1, none⟩ = false := by rw [← kf1]; unfold World.frozen?; simp only [hcg1]
  rw [hwA]
  obtain ⟨_, _, _, _, _, _, _, _, d8, _⟩ := HA.out.cells
  rw [HVC.out] at d8
  have d8' : wA.cell? ⟨b.mb, 4104, none⟩ = some (.slice (some ⟨cg, 0, none⟩) (m + 1) cc) := by
    rw [d8]
  have j0 : wA.cell? ⟨cb, off + p * 15, none⟩ = some (.int .i64 9) := by rw [← HK.out]; exact HA.out.ins HI.out 0 _ rfl
  clear hwA k0 k1 k2 kf1 c8 c10 f1 d8 hcg1
  go_region_held3 (fun w' => w'.cell? ⟨b.mb, 4104, none⟩ = some (.slice (some ⟨cg, 0, none⟩) (m + 1) cc)) (go_keep) (fail)
  go_wp2
  go_region_held3 (fun w' => w'.cell? ⟨cg, m * 5, none⟩ = some (.slice (some ⟨cb, off, none⟩) cn rr.cc) ∧ w'.cell? ⟨cg, m * 5 + 1, none⟩ = some (.int .i64 p)) (go_keep) (fail)
  have HB0 : Hid (MacAt w0 (wA.setCell ⟨cg, m * 5 + 1, none⟩ (.int .i64 ((p : Int) + 1))).drew.drew U N b (onM M ini c) V) := Lib.hid (by
    have := (HA.out.keep ((Below.refl _ wA).drew.drew)).setPos HCC.out HVC.out (c.pos + 1)
    rw [HPP.out, HM.out] at this
    unfold onM
    rw [HPP.out]
    exact this)
  have HVB0 : Hid (Mov b w V (wA.setCell ⟨cg, m * 5 + 1, none⟩ (.int .i64 ((p : Int) + 1))).drew.drew V) := Lib.hid ((HVA.out.trans (Mov.of_below ((Below.refl _ wA).drew.drew))).trans (Mov.pos HVC.out _ _))
  go_wp2
  obtain ⟨wB, hwB⟩ : ∃ wB : World, (wA.setCell ⟨cg, m * 5 + 1, none⟩ (.int .i64 ((p : Int) + 1))).drew.drew = wB := ⟨_, rfl⟩
  have HB : Hid (MacAt w0 wB U N b (onM M ini c) V) := Lib.hid (by rw [← hwB]; exact HB0.out)
  have HVB : Hid (Mov b w V wB V) := Lib.hid (by rw [← hwB]; exact HVB0.out)
  rw [hwB]
  clear HB0 HVB0
  refine region_last (fun W : World => ∃ (M' : Mac) (V' : MV), MacAt w0 W U N b M' V') 1000000 hmix ?_
  have hL : MacAt w0 wB.drew U N b (onM M ini c) V := HB.out.keep ((Below.refl _ wB).drew)
  have hS : (fun W : World => ∃ (M' : Mac) (V' : MV), MacAt w0 W U N b M' V') wB.drew := ⟨_, V, hL⟩
  have HVL := Lib.hid (HVB.out.trans (Mov.of_below ((Below.refl _ wB).drew)))
  refine anyL_takeH (i := 0) (v := ?_) rfl (by decide) (by kernel_rfl) (by kernel_rfl) (by kernel_rfl) (fun _ _ _ h => h) (Or.inl ⟨by rfl, ?_⟩) hS ?_
  rotate_left
  · (intro w' hSw; obtain ⟨M', V', hSm⟩ := hSw; have s2 : w'.cell? ⟨cb, off + p * 15 + 2, none⟩ = some (.int .i64 i.dst) := hSm.ins HI.out 2 _ rfl; have s3 : w'.cell? ⟨cb, off + p * 15 + 3, none⟩ = some (.int .i64 i.a) := hSm.ins HI.out 3 _ rfl; have s5 : w'.cell? ⟨cb, off + p * 15 + 5, none⟩ = some (.int .i64 i.n) := hSm.ins HI.out 5 _ rfl; clear hSm; go_simp; first | done | with_reducible rfl)
  simp only [Act.put, List.getElem_toArray, List.getElem_cons_succ, List.getElem_cons_zero, List.setIfInBounds_toArray, List.set_cons_succ, List.set_cons_zero]
  refine anyL_takeH (i := 1) (v := ?_) rfl (by decide) (by kernel_rfl) (by kernel_rfl) (by kernel_rfl) (fun _ _ _ h => h) (Or.inl ⟨by rfl, ?_⟩) hS ?_
  rotate_left
  · (intro w' hSw; obtain ⟨M', V', hSm⟩ := hSw; have s2 : w'.cell? ⟨cb, off + p * 15 + 2, none⟩ = some (.int .i64 i.dst) := hSm.ins HI.out 2 _ rfl; have s3 : w'.cell? ⟨cb, off + p * 15 + 3, none⟩ = some (.int .i64 i.a) := hSm.ins HI.out 3 _ rfl; have s5 : w'.cell? ⟨cb, off + p * 15 + 5, none⟩ = some (.int .i64 i.n) := hSm.ins HI.out 5 _ rfl; clear hSm; go_simp; first | done | with_reducible rfl)
  simp only [Act.put, List.getElem_toArray, List.getElem_cons_succ, List.getElem_cons_zero, List.setIfInBounds_toArray, List.set_cons_succ, List.set_cons_zero]
  refine anyL_takeH (i := 2) (v := ?_) rfl (by decide) (by kernel_rfl) (by kernel_rfl) (by kernel_rfl) (fun _ _ _ h => h) (Or.inl ⟨by rfl, ?_⟩) hS ?_
  rotate_left
  · (intro w' hSw; obtain ⟨M', V', hSm⟩ := hSw; have s2 : w'.cell? ⟨cb, off + p * 15 + 2, none⟩ = some (.int .i64 i.dst) := hSm.ins HI.out 2 _ rfl; have s3 : w'.cell? ⟨cb, off + p * 15 + 3, none⟩ = some (.int .i64 i.a) := hSm.ins HI.out 3 _ rfl; have s5 : w'.cell? ⟨cb, off + p * 15 + 5, none⟩ = some (.int .i64 i.n) := hSm.ins HI.out 5 _ rfl; clear hSm; go_simp; first | done | with_reducible rfl)
  simp only [Act.put, List.getElem_toArray, List.getElem_cons_succ, List.getElem_cons_zero, List.setIfInBounds_toArray, List.set_cons_succ, List.set_cons_zero]
  refine anyL_takeH (i := 3) (v := ?_) rfl (by decide) (by kernel_rfl) (by kernel_rfl) (by kernel_rfl) (fun _ _ _ h => h) (Or.inl ⟨by rfl, ?_⟩) hS ?_
  rotate_left
  · (intro w' hSw; obtain ⟨M', V', hSm⟩ := hSw; have s2 : w'.cell? ⟨cb, off + p * 15 + 2, none⟩ = some (.int .i64 i.dst) := hSm.ins HI.out 2 _ rfl; have s3 : w'.cell? ⟨cb, off + p * 15 + 3, none⟩ = some (.int .i64 i.a) := hSm.ins HI.out 3 _ rfl; have s5 : w'.cell? ⟨cb, off + p * 15 + 5, none⟩ = some (.int .i64 i.n) := hSm.ins HI.out 5 _ rfl; clear hSm; go_simp; first | done | with_reducible rfl)
  simp only [Act.put, List.getElem_toArray, List.getElem_cons_succ, List.getElem_cons_zero, List.setIfInBounds_toArray, List.set_cons_succ, List.set_cons_zero]
  refine anyL_takeH (i := 4) (v := ?_) rfl (by decide) (by kernel_rfl) (by kernel_rfl) (by kernel_rfl) (fun _ _ _ h => h) (Or.inl ⟨by rfl, ?_⟩) hS ?_
  rotate_left
  · (intro w' hSw; obtain ⟨M', V', hSm⟩ := hSw; have s2 : w'.cell? ⟨cb, off + p * 15 + 2, none⟩ = some (.int .i64 i.dst) := hSm.ins HI.out 2 _ rfl; have s3 : w'.cell? ⟨cb, off + p * 15 + 3, none⟩ = some (.int .i64 i.a) := hSm.ins HI.out 3 _ rfl; have s5 : w'.cell? ⟨cb, off + p * 15 + 5, none⟩ = some (.int .i64 i.n) := hSm.ins HI.out 5 _ rfl; clear hSm; go_simp; first | done | with_reducible rfl)
  simp only [Act.put, List.getElem_toArray, List.getElem_cons_succ, List.getElem_cons_zero, List.setIfInBounds_toArray, List.set_cons_succ, List.set_cons_zero]
  refine anyL_takeH (i := 5) (v := ?_) rfl (by decide) (by kernel_rfl) (by kernel_rfl) (by kernel_rfl) (fun _ _ _ h => h) (Or.inl ⟨by rfl, ?_⟩) hS ?_
  rotate_left
  · (intro w' hSw; obtain ⟨M', V', hSm⟩ := hSw; have s2 : w'.cell? ⟨cb, off + p * 15 + 2, none⟩ = some (.int .i64 i.dst) := hSm.ins HI.out 2 _ rfl; have s3 : w'.cell? ⟨cb, off + p * 15 + 3, none⟩ = some (.int .i64 i.a) := hSm.ins HI.out 3 _ rfl; have s5 : w'.cell? ⟨cb, off + p * 15 + 5, none⟩ = some (.int .i64 i.n) := hSm.ins HI.out 5 _ rfl; clear hSm; go_simp; first | done | with_reducible rfl)
  simp only [Act.put, List.getElem_toArray, List.getElem_cons_succ, List.getElem_cons_zero, List.setIfInBounds_toArray, List.set_cons_succ, List.set_cons_zero]
  refine anyL_one (i := 6) (by kernel_rfl) rfl (fun K1 hK1 => ?_)
  go_simp
  refine (next_c hL).mono ?_
  rintro e u ⟨rfl, V1, hm1, hv1⟩
  have hS3 : (fun W : World => ∃ (M' : Mac) (V' : MV), MacAt w0 W U N b M' V') u := ⟨_, V1, hm1⟩
  have HVL2 := Lib.hid (HVL.out.trans hv1)
  refine hK1.out _ _ (fun _ => hS3) ?_
  clear hK1 K1 hS hL hv1 HVL
  have hS := hS3; have hL := hm1; have HVL := HVL2
  clear hS3 hm1 HVL2
  obtain ⟨e1, e2, e3, e4⟩ := nextM_same (onM M ini c)
  have Hd : i.dst < (nextM (onM M ini c)).2.regs.length := by rw [e1]; exact HST.out.d.2
  have Hs : (nextM (onM M ini c)).2.sets.length = (nextM (onM M ini c)).2.regs.length := by rw [e1, e2]; exact HST.out.s
  have Hc : (nextM (onM M ini c)).2.calls.length ≤ 1000001 := by rw [e3]; exact HST.out.c
  have Hl : (nextM (onM M ini c)).2.aside.length ≤ 10000000 := by rw [e4]; exact HST.out.l
  clear e1 e2 e3 e4
  refine anyL_one (i := 7) (by kernel_rfl) rfl (fun K1 hK1 => ?_)
  go_simp
  refine (set_any hL i.dst (nextM (onM M ini c)).1 HST.out.d.1 Hd Hs Hc Hl).mono ?_
  rintro e v ⟨rfl, V2, hm2, hv2⟩
  have hS3 : (fun W : World => ∃ (M' : Mac) (V' : MV), MacAt w0 W U N b M' V') v := ⟨_, V2, hm2⟩
  have HM5 := Lib.hid hm2; have HV5 := Lib.hid (HVL.out.trans hv2); clear hm2 hv2 hS hL
  refine hK1.out _ _ (fun _ => hS3) ?_
  clear hK1 K1 hS3
  refine anyL_done (by kernel_rfl) ?_ _
  go_wp2
  go_end0
  exact ⟨rfl, V2, HM5.out, HV5.out⟩
end Go.Proofs.Ytmcpfjhdeplgmaa
