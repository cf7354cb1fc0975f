/-
  Layer 7: a step of the machine, by kinds.
  Layer 7: a step of the machine, by kinds.
-/
import Derived.Test.YtmcpfjhdeplgmaaQStepA
namespace Go.Proofs.Ytmcpfjhdeplgmaa
open Go.RowKit Cd Go.Maps
set_option linter.unusedVariables false
set_option linter.unusedSimpArgs false
variable {w0 w w' : World} {U : UnR} {N : Nat} {b : Blk} {M : Mac} {V : MV}
/-- What a step wants that reads nothing. -/
structure StC (M : Mac) : Prop where
  c : M.calls.length ≤ 1000001
theorem StC.on {ini : List Cal} {c : Cal} (h : StC M) (hc : M.calls = ini ++ [c]) : StC (onM M ini c) :=
  ⟨by have e : (onM M ini c).calls.length = M.calls.length := by unfold onM posM; rw [hc]; simp
      rw [e]; exact h.c⟩
set_option maxRecDepth 100000 in
set_option maxHeartbeats 4000000 in
theorem step_11 (h : MacAt w0 w U N b M V) (hU : UnAt w0 w0.heap.size U) (hfu : 0 < M.fuel ∧ M.fuel ≤ 1000000) (ini : List Cal) (c : Cal) (hc : M.calls = ini ++ [c]) (rr : FnR) (hrr : U.fs[c.k]? = some rr) (p : Nat) (hp : c.pos = p) (i : Ins) (hi : rr.f.code[p]? = some i) (hpl : p ≤ 1000000)
    (h1 : i.kind = 11) (hst : StC M) : Calls Try.prog 33 #[mP b] w (MPost w0 U N b w V ((posM (onM M ini c) ini { c with pos := c.pos + 1 } i.dest)) (.tuple #[])) := by
  have hmix : Try.prog.follows .mixedOrders = true := by kernel_rfl
  obtain ⟨cb, off, hca, hins⟩ := hU.ins hrr hi
  obtain ⟨c0, c1, c2, c3, c4, c5, c6, c7, c8, c9, c10, c11, c12, c13⟩ := h.cells
  obtain ⟨ca, cc, hvc, hcn, hcm, hcf⟩ := row_parts h.calls
  have hcll : M.calls.length = ini.length + 1 := by rw [hc]; simp
  obtain ⟨cg, hcga, hcg, hcgw, hccell⟩ : ∃ g, ca = some ⟨g, 0, none⟩ ∧ N ≤ g ∧ g < w.heap.size ∧ ∀ (j : Nat) (u : Value), (M.calls.flatMap (calCells U))[j]? = some u → w.cell? ⟨g, j, none⟩ = some u := by
    rcases hcf with ⟨_, h1, _⟩ | h1
    · omega
    · exact h1
  subst hcga
  have hcv : codeV U c.k = .slice (some ⟨cb, off, none⟩) rr.f.code.length rr.cc := by unfold codeV; rw [hrr, ← hca]
  have hcc : ∀ j, j < 5 → w.cell? ⟨cg, ini.length * 5 + j, none⟩ = (calCells U c)[j]? := fun j hj => by
    obtain ⟨u, hu⟩ : ∃ u, (calCells U c)[j]? = some u := ⟨_, List.getElem?_eq_getElem (by rw [calCells_len]; exact hj)⟩
    rw [hu]
    exact hccell _ u (by rw [hc, calls_last j hj, hu])
  have k0 : w.cell? ⟨cg, ini.length * 5, none⟩ = some (.slice (some ⟨cb, off, none⟩) rr.f.code.length rr.cc) := by rw [← hcv]; exact hcc 0 (by omega)
  have k1 : w.cell? ⟨cg, ini.length * 5 + 1, none⟩ = some (.int .i64 p) := by rw [← hp]; exact hcc 1 (by omega)
  have k2 : w.cell? ⟨cg, ini.length * 5 + 2, none⟩ = some (.int .i64 c.frame) := hcc 2 (by omega)
  have kf : ∀ j, w.frozen? ⟨cg, j, none⟩ = false := fun j => by
    obtain ⟨_, ⟨h0, _⟩ | ⟨g', cap', cur, hv, _, hh, _⟩⟩ := h.calls
    · rw [hvc] at h0; cases h0
    · rw [hvc] at hv
      injection hv with hv _ _
      injection hv with hv
      injection hv with hv _ _
      subst hv
      simp [World.frozen?, hh]
  obtain ⟨m, hm⟩ : ∃ m, ini.length = m := ⟨_, rfl⟩
  rw [hvc, hcll, hm] at c8
  rw [hm] at k0 k1 k2
  have HVC : Hid (V.vc = .slice (some ⟨cg, 0, none⟩) (m + 1) cc) := Lib.hid (by rw [hvc, hcll, hm])
  have HM := Lib.hid hm; have HCC := Lib.hid hc; have HI := Lib.hid hins; have HPP := Lib.hid hp; have HST := Lib.hid (hst.on hc); have HU := Lib.hid hU; have HK := Lib.hid h1
  have f1 := h.fz 4106
  have kf1 := kf (m * 5 + 1)
  have H := Lib.hid h
  have hpn : p < rr.f.code.length := (List.getElem?_eq_some_iff.1 hi).1
  obtain ⟨cn, hcnE⟩ : ∃ cn, rr.f.code.length = cn := ⟨_, rfl⟩
  rw [hcnE] at k0 hpn
  have e3 : ¬ cb = cg := by have := hins.lt; have := h.lo.1; have := h.hi.1; omega
  have e4 : ¬ cg = cb := fun e => e3 e.symm
  have e1 : ¬ b.mb = cg := by have := h.hi.1; omega
  have e2 : ¬ cg = b.mb := fun e => e1 e.symm
  have mbw : b.mb < w.heap.size := lt_heap h.box
  have hcl : m + 1 ≤ 1000001 := by have := hst.c; omega
  have q0 : (0 : Int) ≤ (m : Int) := Int.natCast_nonneg _
  have hw1 : IntKind.i64.wrap ((m : Int) + 1 - 1) = (m : Int) := by rw [IntKind.wrap_i64]; omega
  have hw3 : IntKind.i64.wrap (m : Int) = (m : Int) := by rw [IntKind.wrap_i64]; omega
  have hix : ∀ W, (Instr.indexAt 65 (.slice (some ⟨cg, 0, none⟩) (m + 1) cc) (.int .i64 m)).run Try.prog W = .ok (.pointer (some ⟨cg, m * 5, none⟩)) W := fun W => by
    have q1 : (m : Int) < ((m + 1 : Nat) : Int) := by omega
    have q0 : (0 : Int) ≤ (m : Int) := Int.natCast_nonneg _
    go_simp
    all_goals (intro h; omega)
  have q5 : (m : Int) < (m : Int) + 1 := by omega
  have q1 : (0 : Int) ≤ (p : Int) := Int.natCast_nonneg _
  have q2 : (p : Int) < (cn : Int) := by omega
  have q3 : (p : Int) ≤ 1000000 := by omega
  have wf : IntKind.i64.wrap (M.fuel - 1) = M.fuel - 1 := by rw [IntKind.wrap_i64]; omega
  have tf : (M.fuel == 0) = false := by simp; omega
  have wp1 : IntKind.i64.wrap ((p : Int) + 1) = (p : Int) + 1 := by rw [IntKind.wrap_i64]; omega
  clear hcv hcc hccell hca hcnE hc hcll hm hp hins hst hU h1 hi hrr hcf kf hvc h c0 c1 c2 c3 c4 c5 c6 c7 c9 c11 c12 c13
  go_enter Try.func33, Try.ntmps33
  go_wp2
  obtain ⟨wA, hwA⟩ : ∃ wA : World, w.setCell ⟨b.mb, 4106, none⟩ (.int .i64 (M.fuel - 1)) = wA := ⟨_, rfl⟩
  have HA : Hid (MacAt w0 wA U N b { M with fuel := M.fuel - 1 } V) := Lib.hid (by rw [← hwA]; exact H.out.field (M' := { M with fuel := M.fuel - 1 }) 6 (.int .i64 (M.fuel - 1)) rfl rfl rfl rfl rfl rfl rfl rfl)
  have HVA := Lib.hid (show Mov b w V wA V by rw [← hwA]; exact Mov.cell b w V (.inl rfl) 4106 (.int .i64 (M.fuel - 1)))
  have hcg1 : wA.heap[cg]? = w.heap[cg]? := by rw [← hwA]; exact heap_other7 e2
  have k0' := (cell_blk7 hcg1 (m * 5)).trans k0
  have k1' := (cell_blk7 hcg1 (m * 5 + 1)).trans k1
  have k2' := (cell_blk7 hcg1 (m * 5 + 2)).trans k2
  have kf1' : wA.frozen? ⟨cg, m * 5 + 1, none⟩ = false := by rw [← kf1]; unfold World.frozen?; simp only [hcg1]
  rw [hwA]
  obtain ⟨_, _, _, _, _, _, _, _, d8, _⟩ := HA.out.cells
  rw [HVC.out] at d8
  have d8' : wA.cell? ⟨b.mb, 4104, none⟩ = some (.slice (some ⟨cg, 0, none⟩) (m + 1) cc) := by
    rw [d8]
  have j0 : wA.cell? ⟨cb, off + p * 15, none⟩ = some (.int .i64 11) := by rw [← HK.out]; exact HA.out.ins HI.out 0 _ rfl
  clear hwA k0 k1 k2 kf1 c8 c10 f1 d8 hcg1
  go_region_held3 (fun w' => w'.cell? ⟨b.mb, 4104, none⟩ = some (.slice (some ⟨cg, 0, none⟩) (m + 1) cc)) (go_keep) (fail)
  go_wp2
  go_region_held3 (fun w' => w'.cell? ⟨cg, m * 5, none⟩ = some (.slice (some ⟨cb, off, none⟩) cn rr.cc) ∧ w'.cell? ⟨cg, m * 5 + 1, none⟩ = some (.int .i64 p)) (go_keep) (fail)
  have HB0 : Hid (MacAt w0 (wA.setCell ⟨cg, m * 5 + 1, none⟩ (.int .i64 ((p : Int) + 1))).drew.drew U N b (onM M ini c) V) := Lib.hid (by
    have := (HA.out.keep ((Below.refl _ wA).drew.drew)).setPos HCC.out HVC.out (c.pos + 1)
    rw [HPP.out, HM.out] at this
    unfold onM
    rw [HPP.out]
    exact this)
  have HVB0 : Hid (Mov b w V (wA.setCell ⟨cg, m * 5 + 1, none⟩ (.int .i64 ((p : Int) + 1))).drew.drew V) := Lib.hid ((HVA.out.trans (Mov.of_below ((Below.refl _ wA).drew.drew))).trans (Mov.pos HVC.out _ _))
  have i8 : wA.cell? ⟨cb, off + p * 15 + 13, none⟩ = some (.int .i64 i.dest) := HA.out.ins HI.out 13 _ rfl
  have i8' := HB0.out.ins HI.out 13 (.int .i64 i.dest) rfl
  go_wp2
  go_end0
  have h11 := HB0.out.setPos (c := { c with pos := c.pos + 1 }) rfl HVC.out i.dest
  rw [HM.out] at h11
  exact ⟨rfl, V, h11, HVB0.out.trans (Mov.pos HVC.out _ _)⟩
set_option maxRecDepth 100000 in
set_option maxHeartbeats 4000000 in
theorem step_12 (h : MacAt w0 w U N b M V) (hU : UnAt w0 w0.heap.size U) (hfu : 0 < M.fuel ∧ M.fuel ≤ 1000000) (ini : List Cal) (c : Cal) (hc : M.calls = ini ++ [c]) (rr : FnR) (hrr : U.fs[c.k]? = some rr) (p : Nat) (hp : c.pos = p) (i : Ins) (hi : rr.f.code[p]? = some i) (hpl : p ≤ 1000000)
    (h1 : i.kind = 12) (hst : StA M i) (M12 : Mac) (hM12 : M12 = (posM (onM M ini c) ini { c with pos := c.pos + 1 } (if mget (onM M ini c) i.a ≠ 0 then i.dest else i.els))) : Calls Try.prog 33 #[mP b] w (MPost w0 U N b w V (M12) (.tuple #[])) := by
  have HM12 := Lib.hid hM12
  clear hM12
  have hmix : Try.prog.follows .mixedOrders = true := by kernel_rfl
  obtain ⟨cb, off, hca, hins⟩ := hU.ins hrr hi
  obtain ⟨c0, c1, c2, c3, c4, c5, c6, c7, c8, c9, c10, c11, c12, c13⟩ := h.cells
  obtain ⟨ca, cc, hvc, hcn, hcm, hcf⟩ := row_parts h.calls
  have hcll : M.calls.length = ini.length + 1 := by rw [hc]; simp
  obtain ⟨cg, hcga, hcg, hcgw, hccell⟩ : ∃ g, ca = some ⟨g, 0, none⟩ ∧ N ≤ g ∧ g < w.heap.size ∧ ∀ (j : Nat) (u : Value), (M.calls.flatMap (calCells U))[j]? = some u → w.cell? ⟨g, j, none⟩ = some u := by
    rcases hcf with ⟨_, h1, _⟩ | h1
    · omega
    · exact h1
  subst hcga
  have hcv : codeV U c.k = .slice (some ⟨cb, off, none⟩) rr.f.code.length rr.cc := by unfold codeV; rw [hrr, ← hca]
  have hcc : ∀ j, j < 5 → w.cell? ⟨cg, ini.length * 5 + j, none⟩ = (calCells U c)[j]? := fun j hj => by
    obtain ⟨u, hu⟩ : ∃ u, (calCells U c)[j]? = some u := ⟨_, List.getElem?_eq_getElem (by rw [calCells_len]; exact hj)⟩
    rw [hu]
    exact hccell _ u (by rw [hc, calls_last j hj, hu])
  have k0 : w.cell? ⟨cg, ini.length * 5, none⟩ = some (.slice (some ⟨cb, off, none⟩) rr.f.code.length rr.cc) := by rw [← hcv]; exact hcc 0 (by omega)
  have k1 : w.cell? ⟨cg, ini.length * 5 + 1, none⟩ = some (.int .i64 p) := by rw [← hp]; exact hcc 1 (by omega)
  have k2 : w.cell? ⟨cg, ini.length * 5 + 2, none⟩ = some (.int .i64 c.frame) := hcc 2 (by omega)
  have kf : ∀ j, w.frozen? ⟨cg, j, none⟩ = false := fun j => by
    obtain ⟨_, ⟨h0, _⟩ | ⟨g', cap', cur, hv, _, hh, _⟩⟩ := h.calls
    · rw [hvc] at h0; cases h0
    · rw [hvc] at hv
      injection hv with hv _ _
      injection hv with hv
      injection hv with hv _ _
      subst hv
      simp [World.frozen?, hh]
  obtain ⟨m, hm⟩ : ∃ m, ini.length = m := ⟨_, rfl⟩
  rw [hvc, hcll, hm] at c8
  rw [hm] at k0 k1 k2
  have HVC : Hid (V.vc = .slice (some ⟨cg, 0, none⟩) (m + 1) cc) := Lib.hid (by rw [hvc, hcll, hm])
  have HM := Lib.hid hm; have HCC := Lib.hid hc; have HI := Lib.hid hins; have HPP := Lib.hid hp; have HST := Lib.hid (hst.on hc); have HU := Lib.hid hU; have HK := Lib.hid h1
  have f1 := h.fz 4106
  have kf1 := kf (m * 5 + 1)
  have H := Lib.hid h
  have hpn : p < rr.f.code.length := (List.getElem?_eq_some_iff.1 hi).1
  obtain ⟨cn, hcnE⟩ : ∃ cn, rr.f.code.length = cn := ⟨_, rfl⟩
  rw [hcnE] at k0 hpn
  have e3 : ¬ cb = cg := by have := hins.lt; have := h.lo.1; have := h.hi.1; omega
  have e4 : ¬ cg = cb := fun e => e3 e.symm
  have e1 : ¬ b.mb = cg := by have := h.hi.1; omega
  have e2 : ¬ cg = b.mb := fun e => e1 e.symm
  have mbw : b.mb < w.heap.size := lt_heap h.box
  have hcl : m + 1 ≤ 1000001 := by have := hst.c; omega
  have q0 : (0 : Int) ≤ (m : Int) := Int.natCast_nonneg _
  have hw1 : IntKind.i64.wrap ((m : Int) + 1 - 1) = (m : Int) := by rw [IntKind.wrap_i64]; omega
  have hw3 : IntKind.i64.wrap (m : Int) = (m : Int) := by rw [IntKind.wrap_i64]; omega
  have hix : ∀ W, (Instr.indexAt 65 (.slice (some ⟨cg, 0, none⟩) (m + 1) cc) (.int .i64 m)).run Try.prog W = .ok (.pointer (some ⟨cg, m * 5, none⟩)) W := fun W => by
    have q1 : (m : Int) < ((m + 1 : Nat) : Int) := by omega
    have q0 : (0 : Int) ≤ (m : Int) := Int.natCast_nonneg _
    go_simp
    all_goals (intro h; omega)
  have q5 : (m : Int) < (m : Int) + 1 := by omega
  have q1 : (0 : Int) ≤ (p : Int) := Int.natCast_nonneg _
  have q2 : (p : Int) < (cn : Int) := by omega
  have q3 : (p : Int) ≤ 1000000 := by omega
  have wf : IntKind.i64.wrap (M.fuel - 1) = M.fuel - 1 := by rw [IntKind.wrap_i64]; omega
  have tf : (M.fuel == 0) = false := by simp; omega
  have wp1 : IntKind.i64.wrap ((p : Int) + 1) = (p : Int) + 1 := by rw [IntKind.wrap_i64]; omega
  clear hcv hcc hccell hca hcnE hc hcll hm hp hins hst hU h1 hi hrr hcf kf hvc h c0 c1 c2 c3 c4 c5 c6 c7 c9 c11 c12 c13
  go_enter Try.func33, Try.ntmps33
  go_wp2
  obtain ⟨wA, hwA⟩ : ∃ wA : World, w.setCell ⟨b.mb, 4106, none⟩ (.int .i64 (M.fuel - 1)) = wA := ⟨_, rfl⟩
  have HA : Hid (MacAt w0 wA U N b { M with fuel := M.fuel - 1 } V) := Lib.hid (by rw [← hwA]; exact H.out.field (M' := { M with fuel := M.fuel - 1 }) 6 (.int .i64 (M.fuel - 1)) rfl rfl rfl rfl rfl rfl rfl rfl)
  have HVA := Lib.hid (show Mov b w V wA V by rw [← hwA]; exact Mov.cell b w V (.inl rfl) 4106 (.int .i64 (M.fuel - 1)))
  have hcg1 : wA.heap[cg]? = w.heap[cg]? := by rw [← hwA]; exact heap_other7 e2
  have k0' := (cell_blk7 hcg1 (m * 5)).trans k0
  have k1' := (cell_blk7 hcg1 (m * 5 + 1)).trans k1
  have k2' := (cell_blk7 hcg1 (m * 5 + 2)).trans k2
  have kf1' : wA.frozen? ⟨cg, m * 5 + 1, none⟩ = false := by rw [← kf1]; unfold World.frozen?; simp only [hcg1]
  rw [hwA]
  obtain ⟨_, _, _, _, _, _, _, _, d8, _⟩ := HA.out.cells
  rw [HVC.out] at d8
  have d8' : wA.cell? ⟨b.mb, 4104, none⟩ = some (.slice (some ⟨cg, 0, none⟩) (m + 1) cc) := by
    rw [d8]
  have j0 : wA.cell? ⟨cb, off + p * 15, none⟩ = some (.int .i64 12) := by rw [← HK.out]; exact HA.out.ins HI.out 0 _ rfl
  clear hwA k0 k1 k2 kf1 c8 c10 f1 d8 hcg1
  go_region_held3 (fun w' => w'.cell? ⟨b.mb, 4104, none⟩ = some (.slice (some ⟨cg, 0, none⟩) (m + 1) cc)) (go_keep) (fail)
  go_wp2
  go_region_held3 (fun w' => w'.cell? ⟨cg, m * 5, none⟩ = some (.slice (some ⟨cb, off, none⟩) cn rr.cc) ∧ w'.cell? ⟨cg, m * 5 + 1, none⟩ = some (.int .i64 p)) (go_keep) (fail)
  have HB0 : Hid (MacAt w0 (wA.setCell ⟨cg, m * 5 + 1, none⟩ (.int .i64 ((p : Int) + 1))).drew.drew U N b (onM M ini c) V) := Lib.hid (by
    have := (HA.out.keep ((Below.refl _ wA).drew.drew)).setPos HCC.out HVC.out (c.pos + 1)
    rw [HPP.out, HM.out] at this
    unfold onM
    rw [HPP.out]
    exact this)
  have HVB0 : Hid (Mov b w V (wA.setCell ⟨cg, m * 5 + 1, none⟩ (.int .i64 ((p : Int) + 1))).drew.drew V) := Lib.hid ((HVA.out.trans (Mov.of_below ((Below.refl _ wA).drew.drew))).trans (Mov.pos HVC.out _ _))
  have i3 : wA.cell? ⟨cb, off + p * 15 + 3, none⟩ = some (.int .i64 i.a) := HA.out.ins HI.out 3 _ rfl
  have i8 : wA.cell? ⟨cb, off + p * 15 + 13, none⟩ = some (.int .i64 i.dest) := HA.out.ins HI.out 13 _ rfl
  have i9 : wA.cell? ⟨cb, off + p * 15 + 14, none⟩ = some (.int .i64 i.els) := HA.out.ins HI.out 14 _ rfl
  have i3' := HB0.out.ins HI.out 3 (.int .i64 i.a) rfl
  have i9' := HB0.out.ins HI.out 14 (.int .i64 i.els) rfl
  obtain ⟨ga, hga⟩ : ∃ ga, mget (onM M ini c) i.a = ga := ⟨_, rfl⟩
  have HGA := Lib.hid hga
  have h12 : MacAt w0 (((wA.setCell ⟨cg, m * 5 + 1, none⟩ (.int .i64 ((p : Int) + 1))).setCell ⟨cg, m * 5 + 1, none⟩ (.int .i64 i.els)).drew.drew) U N b (posM (onM M ini c) ini { c with pos := c.pos + 1 } i.els) V := by
    have h := HB0.out.setPos (c := { c with pos := c.pos + 1 }) rfl HVC.out i.els
    rw [HM.out] at h
    exact h
  have H12 := Lib.hid h12; clear h12
  have HV12 : Hid (Mov b w V (((wA.setCell ⟨cg, m * 5 + 1, none⟩ (.int .i64 ((p : Int) + 1))).setCell ⟨cg, m * 5 + 1, none⟩ (.int .i64 i.els)).drew.drew) V) := Lib.hid (HVB0.out.trans (Mov.pos (w := (wA.setCell ⟨cg, m * 5 + 1, none⟩ (.int .i64 ((p : Int) + 1))).drew.drew) (b := b) HVC.out (m * 5 + 1) (.int .i64 i.els)))
  have hcl12 : (posM (onM M ini c) ini { c with pos := c.pos + 1 } i.els).calls.length ≤ 1000001 := by unfold posM; have := HST.out.c; rw [onM_calls] at this; simpa using this
  have hg12 : mget (posM (onM M ini c) ini { c with pos := c.pos + 1 } i.els) i.a = ga := by rw [mget_posM]; exact hga
  have HA2 : Hid (i.a < (posM (onM M ini c) ini { c with pos := c.pos + 1 } i.els).regs.length) := Lib.hid HST.out.a.2
  have HS2 : Hid ((posM (onM M ini c) ini { c with pos := c.pos + 1 } i.els).sets.length = (posM (onM M ini c) ini { c with pos := c.pos + 1 } i.els).regs.length) := Lib.hid HST.out.s
  have HCL := Lib.hid hcl12; have HGG := Lib.hid hg12; clear hcl12 hg12
  have hM12b : M12 = posM (onM M ini c) ini { c with pos := c.pos + 1 } (if ga ≠ 0 then i.dest else i.els) := by rw [HM12.out, hga]
  clear hga
  by_cases hz : ga = 0
  · have tz : (ga != 0) = false := by simpa using hz
    rw [if_neg (by simpa using hz)] at hM12b
    subst hM12b
    clear hz
    go_wp2_with ((with_reducible refine (get_v H12.out i.a ga HGG.out HST.out.a.1 HA2.out HS2.out HCL.out).mono ?_); rintro e wg ⟨rfl, hB⟩; have HBG := Lib.hid hB; clear hB)
    go_end0
    exact ⟨rfl, V, H12.out.keep HBG.out, HV12.out.trans (Mov.of_below HBG.out)⟩
  · have tz : (ga != 0) = true := by simpa using hz
    rw [if_pos hz] at hM12b
    subst hM12b
    clear hz
    go_wp2_with ((with_reducible refine (get_v H12.out i.a ga HGG.out HST.out.a.1 HA2.out HS2.out HCL.out).mono ?_); rintro e wg ⟨rfl, hB⟩; have HBG := Lib.hid hB; have i8w := (H12.out.keep hB).ins HI.out 13 (.int .i64 i.dest) rfl; have p1w := ((H12.out.keep hB).posCell (ini := ini) (c := { c with pos := i.els }) rfl HVC.out).1; rw [HM.out] at p1w; have p2w := ((H12.out.keep hB).posCell (ini := ini) (c := { c with pos := i.els }) rfl HVC.out).2 (m * 5 + 1); clear hB)
    go_end0
    have h13 := (H12.out.keep HBG.out).setPos (c := { c with pos := i.els }) rfl HVC.out i.dest
    rw [HM.out] at h13
    exact ⟨rfl, V, h13, (HV12.out.trans (Mov.of_below HBG.out)).trans (Mov.pos HVC.out _ _)⟩
end Go.Proofs.Ytmcpfjhdeplgmaa
namespace Go.Proofs.Ytmcpfjhdeplgmaa
open Go.RowKit Cd Go.Maps
set_option linter.unusedVariables false
set_option linter.unusedSimpArgs false
variable {w0 w w' : World} {U : UnR} {N : Nat} {b : Blk} {M : Mac} {V : MV}
theorem MacAt.outCell (h : MacAt w0 w U N b M V) {oa : Option Addr} {on oc : Nat} (hv : V.vo = .slice oa on oc) : w.cell? ⟨b.mb, 4109, none⟩ = some (.slice oa on oc) ∧ w.frozen? ⟨b.mb, 4109, none⟩ = false ∧ N ≤ w.heap.size ∧ b.mb < w.heap.size := by
  obtain ⟨_, _, _, _, _, _, _, _, _, _, _, _, _, d13⟩ := h.cells
  rw [hv] at d13
  exact ⟨d13, h.fz 4109, h.base, lt_heap h.box⟩
theorem MacAt.outRow (h : MacAt w0 w U N b M V) {oa : Option Addr} {on oc : Nat} (hv : V.vo = .slice oa on oc) (hon : M.out.length = on) : w.ownsRow N 5 1 (.slice oa on oc) on (u8s M.out) := by
  have := h.out
  rw [hv, hon] at this
  exact this
theorem MacAt.outPush (h : MacAt w0 w U N b M V) {oa : Option Addr} {on oc : Nat} (hv : V.vo = .slice oa on oc) (hon : M.out.length = on) {ch : UInt8} {O : Obj} {g cap : Nat} {w1 : World} (hown : w1.ownsRow N 5 1 (.slice (some ⟨g, 0, none⟩) (on + 1) cap) (on + 1) (u8s M.out ++ [.int .u8 ch.toNat]))
    (hgrow : (w.alloc O).grownBy w1 (Value.slice oa on oc).ownBlock) (hat : ∀ q, (Value.slice (some ⟨g, 0, none⟩) (on + 1) cap).ownBlock = some q → (Value.slice oa on oc).ownBlock = some q ∨ w.heap.size ≤ q) :
    (MacAt w0 (w1.setCell ⟨b.mb, 4109, none⟩ (.slice (some ⟨g, 0, none⟩) (on + 1) cap)) U N b { M with out := M.out ++ [ch] } { V with vo := .slice (some ⟨g, 0, none⟩) (on + 1) cap } ∧ Mov b w V (w1.setCell ⟨b.mb, 4109, none⟩ (.slice (some ⟨g, 0, none⟩) (on + 1) cap)) { V with vo := .slice (some ⟨g, 0, none⟩) (on + 1) cap }) ∧ w1.frozen? ⟨b.mb, 4109, none⟩ = false ∧ w1.cell? ⟨b.mb, 4109, none⟩ = some (.slice oa on oc) := by
  have hB2 : Below w.heap.size w (w.alloc O) := (Below.refl _ w).alloc (Nat.le_refl _) _
  have hbase := h.base
  have hhi := h.hi.1
  have hbx : w1.heap[b.mb]? = w.heap[b.mb]? := (hgrow.block _ (by simp; omega) (fun e => by have h1 := (h.out.lt _ (by rw [hv]; exact e.symm)).1; omega)).trans (hB2.block _ (by omega))
  obtain ⟨d1, d2, _, _⟩ := h.outCell hv
  refine ⟨h.pushO hB2 (by rw [hv]; exact hgrow) (by rw [hon]; exact hown) (fun q hq => by rw [hv]; exact hat q hq), ?_, (cell_blk7 hbx _).trans d1⟩
  unfold World.frozen? at d2 ⊢
  simp only [hbx]
  exact d2
theorem infoU8 : (Try.prog.info? 5).map (fun i => (i.zero, i.size, i.bytes)) = some (some (.int .u8 0), 1, 1) := by kernel_rfl
theorem low_byte (x : Int) : IntKind.u8.wrap (doV 22 x 0) = ((Cd.byteOf x).toNat : Int) := by
  have hB : doB 22 0 = true := by decide +kernel
  have e : doV 22 x 0 = x % 256 := by
    unfold doV oneV
    rw [if_neg (by rw [hB]; simp), if_neg (by decide), if_neg (by decide), if_neg (by decide), if_neg (by decide), if_pos (by decide)]
    simp only [wrap32, IntKind.wrap_i32]
    omega
  rw [e, IntKind.wrap_u8]
  unfold Cd.byteOf
  rw [UInt8.toNat_ofNat']
  omega
set_option maxRecDepth 100000 in
set_option maxHeartbeats 4000000 in
theorem step_10 (h : MacAt w0 w U N b M V) (hU : UnAt w0 w0.heap.size U) (hfu : 0 < M.fuel ∧ M.fuel ≤ 1000000) (ini : List Cal) (c : Cal) (hc : M.calls = ini ++ [c]) (rr : FnR) (hrr : U.fs[c.k]? = some rr) (p : Nat) (hp : c.pos = p) (i : Ins) (hi : rr.f.code[p]? = some i) (hpl : p ≤ 1000000)
    (h1 : i.kind = 10) (hst : StA M i) (hol : M.out.length ≤ 1000000) : Calls Try.prog 33 #[mP b] w (MPost w0 U N b w V ({ onM M ini c with out := (onM M ini c).out ++ [Cd.byteOf (mget (onM M ini c) i.a)] }) (.tuple #[])) := by
  have HOL : Hid ((onM M ini c).out.length ≤ 1000000) := Lib.hid hol
  clear hol
  have hmix : Try.prog.follows .mixedOrders = true := by kernel_rfl
  obtain ⟨cb, off, hca, hins⟩ := hU.ins hrr hi
  obtain ⟨c0, c1, c2, c3, c4, c5, c6, c7, c8, c9, c10, c11, c12, c13⟩ := h.cells
  obtain ⟨ca, cc, hvc, hcn, hcm, hcf⟩ := row_parts h.calls
  have hcll : M.calls.length = ini.length + 1 := by rw [hc]; simp
  obtain ⟨cg, hcga, hcg, hcgw, hccell⟩ : ∃ g, ca = some ⟨g, 0, none⟩ ∧ N ≤ g ∧ g < w.heap.size ∧ ∀ (j : Nat) (u : Value), (M.calls.flatMap (calCells U))[j]? = some u → w.cell? ⟨g, j, none⟩ = some u := by
    rcases hcf with ⟨_, h1, _⟩ | h1
    · omega
    · exact h1
  subst hcga
  have hcv : codeV U c.k = .slice (some ⟨cb, off, none⟩) rr.f.code.length rr.cc := by unfold codeV; rw [hrr, ← hca]
  have hcc : ∀ j, j < 5 → w.cell? ⟨cg, ini.length * 5 + j, none⟩ = (calCells U c)[j]? := fun j hj => by
    obtain ⟨u, hu⟩ : ∃ u, (calCells U c)[j]? = some u := ⟨_, List.getElem?_eq_getElem (by rw [calCells_len]; exact hj)⟩
    rw [hu]
    exact hccell _ u (by rw [hc, calls_last j hj, hu])
  have k0 : w.cell? ⟨cg, ini.length * 5, none⟩ = some (.slice (some ⟨cb, off, none⟩) rr.f.code.length rr.cc) := by rw [← hcv]; exact hcc 0 (by omega)
  have k1 : w.cell? ⟨cg, ini.length * 5 + 1, none⟩ = some (.int .i64 p) := by rw [← hp]; exact hcc 1 (by omega)
  have k2 : w.cell? ⟨cg, ini.length * 5 + 2, none⟩ = some (.int .i64 c.frame) := hcc 2 (by omega)
  have kf : ∀ j, w.frozen? ⟨cg, j, none⟩ = false := fun j => by
    obtain ⟨_, ⟨h0, _⟩ | ⟨g', cap', cur, hv, _, hh, _⟩⟩ := h.calls
    · rw [hvc] at h0; cases h0
    · rw [hvc] at hv
      injection hv with hv _ _
      injection hv with hv
      injection hv with hv _ _
      subst hv
      simp [World.frozen?, hh]
  obtain ⟨m, hm⟩ : ∃ m, ini.length = m := ⟨_, rfl⟩
  rw [hvc, hcll, hm] at c8
  rw [hm] at k0 k1 k2
  have HVC : Hid (V.vc = .slice (some ⟨cg, 0, none⟩) (m + 1) cc) := Lib.hid (by rw [hvc, hcll, hm])
  have HM := Lib.hid hm; have HCC := Lib.hid hc; have HI := Lib.hid hins; have HPP := Lib.hid hp; have HST := Lib.hid (hst.on hc); have HU := Lib.hid hU; have HK := Lib.hid h1
  have f1 := h.fz 4106
  have kf1 := kf (m * 5 + 1)
  have H := Lib.hid h
  have hpn : p < rr.f.code.length := (List.getElem?_eq_some_iff.1 hi).1
  obtain ⟨cn, hcnE⟩ : ∃ cn, rr.f.code.length = cn := ⟨_, rfl⟩
  rw [hcnE] at k0 hpn
  have e3 : ¬ cb = cg := by have := hins.lt; have := h.lo.1; have := h.hi.1; omega
  have e4 : ¬ cg = cb := fun e => e3 e.symm
  have e1 : ¬ b.mb = cg := by have := h.hi.1; omega
  have e2 : ¬ cg = b.mb := fun e => e1 e.symm
  have mbw : b.mb < w.heap.size := lt_heap h.box
  have hcl : m + 1 ≤ 1000001 := by have := hst.c; omega
  have q0 : (0 : Int) ≤ (m : Int) := Int.natCast_nonneg _
  have hw1 : IntKind.i64.wrap ((m : Int) + 1 - 1) = (m : Int) := by rw [IntKind.wrap_i64]; omega
  have hw3 : IntKind.i64.wrap (m : Int) = (m : Int) := by rw [IntKind.wrap_i64]; omega
  have hix : ∀ W, (Instr.indexAt 65 (.slice (some ⟨cg, 0, none⟩) (m + 1) cc) (.int .i64 m)).run Try.prog W = .ok (.pointer (some ⟨cg, m * 5, none⟩)) W := fun W => by
    have q1 : (m : Int) < ((m + 1 : Nat) : Int) := by omega
    have q0 : (0 : Int) ≤ (m : Int) := Int.natCast_nonneg _
    go_simp
    all_goals (intro h; omega)
  have q5 : (m : Int) < (m : Int) + 1 := by omega
  have q1 : (0 : Int) ≤ (p : Int) := Int.natCast_nonneg _
  have q2 : (p : Int) < (cn : Int) := by omega
  have q3 : (p : Int) ≤ 1000000 := by omega
  have wf : IntKind.i64.wrap (M.fuel - 1) = M.fuel - 1 := by rw [IntKind.wrap_i64]; omega
  have tf : (M.fuel == 0) = false := by simp; omega
  have wp1 : IntKind.i64.wrap ((p : Int) + 1) = (p : Int) + 1 := by rw [IntKind.wrap_i64]; omega
  clear hcv hcc hccell hca hcnE hc hcll hm hp hins hst hU h1 hi hrr hcf kf hvc h c0 c1 c2 c3 c4 c5 c6 c7 c9 c11 c12 c13
  go_enter Try.func33, Try.ntmps33
  go_wp2
  obtain ⟨wA, hwA⟩ : ∃ wA : World, w.setCell ⟨b.mb, 4106, none⟩ (.int .i64 (M.fuel - 1)) = wA := ⟨_, rfl⟩
  have HA : Hid (MacAt w0 wA U N b { M with fuel := M.fuel - 1 } V) := Lib.hid (by rw [← hwA]; exact H.out.field (M' := { M with fuel := M.fuel - 1 }) 6 (.int .i64 (M.fuel - 1)) rfl rfl rfl rfl rfl rfl rfl rfl)
  have HVA := Lib.hid (show Mov b w V wA V by rw [← hwA]; exact Mov.cell b w V (.inl rfl) 4106 (.int .i64 (M.fuel - 1)))
  have hcg1 : wA.heap[cg]? = w.heap[cg]? := by rw [← hwA]; exact heap_other7 e2
  have k0' := (cell_blk7 hcg1 (m * 5)).trans k0
  have k1' := (cell_blk7 hcg1 (m * 5 + 1)).trans k1
  have k2' := (cell_blk7 hcg1 (m * 5 + 2)).trans k2
  have kf1' : wA.frozen? ⟨cg, m * 5 + 1, none⟩ = false := by rw [← kf1]; unfold World.frozen?; simp only [hcg1]
  rw [hwA]
  obtain ⟨_, _, _, _, _, _, _, _, d8, _⟩ := HA.out.cells
  rw [HVC.out] at d8
  have d8' : wA.cell? ⟨b.mb, 4104, none⟩ = some (.slice (some ⟨cg, 0, none⟩) (m + 1) cc) := by
    rw [d8]
  have j0 : wA.cell? ⟨cb, off + p * 15, none⟩ = some (.int .i64 10) := by rw [← HK.out]; exact HA.out.ins HI.out 0 _ rfl
  clear hwA k0 k1 k2 kf1 c8 c10 f1 d8 hcg1
  go_region_held3 (fun w' => w'.cell? ⟨b.mb, 4104, none⟩ = some (.slice (some ⟨cg, 0, none⟩) (m + 1) cc)) (go_keep) (fail)
  go_wp2
  go_region_held3 (fun w' => w'.cell? ⟨cg, m * 5, none⟩ = some (.slice (some ⟨cb, off, none⟩) cn rr.cc) ∧ w'.cell? ⟨cg, m * 5 + 1, none⟩ = some (.int .i64 p)) (go_keep) (fail)
  have HB0 : Hid (MacAt w0 (wA.setCell ⟨cg, m * 5 + 1, none⟩ (.int .i64 ((p : Int) + 1))).drew.drew U N b (onM M ini c) V) := Lib.hid (by
    have := (HA.out.keep ((Below.refl _ wA).drew.drew)).setPos HCC.out HVC.out (c.pos + 1)
    rw [HPP.out, HM.out] at this
    unfold onM
    rw [HPP.out]
    exact this)
  have HVB0 : Hid (Mov b w V (wA.setCell ⟨cg, m * 5 + 1, none⟩ (.int .i64 ((p : Int) + 1))).drew.drew V) := Lib.hid ((HVA.out.trans (Mov.of_below ((Below.refl _ wA).drew.drew))).trans (Mov.pos HVC.out _ _))
  have i3 : wA.cell? ⟨cb, off + p * 15 + 3, none⟩ = some (.int .i64 i.a) := HA.out.ins HI.out 3 _ rfl
  have i3' := HB0.out.ins HI.out 3 (.int .i64 i.a) rfl
  obtain ⟨x, hx⟩ : ∃ x, mget (onM M ini c) i.a = x := ⟨_, rfl⟩
  have HX := Lib.hid hx
  obtain ⟨ch, hch⟩ : ∃ ch, Cd.byteOf x = ch := ⟨_, rfl⟩
  obtain ⟨lo, hlo⟩ : ∃ lo, doV 22 x 0 = lo := ⟨_, rfl⟩
  obtain ⟨bb, hbb⟩ : ∃ bb, doB 22 0 = bb := ⟨_, rfl⟩
  have HDO : ∀ W, Calls Try.prog 53 #[.int .i64 22, .int .i64 x, .int .i64 0] W fun e w' => e = .returned (.tuple #[.int .i64 lo, .bool bb]) ∧ W = w' := fun W => hlo ▸ hbb ▸ do_any 22 x 0 W
  have hcv : IntKind.u8.wrap lo = (ch.toNat : Int) := by rw [← hlo, ← hch]; exact low_byte x
  have HCH := Lib.hid hch
  clear hx hch hlo hbb
  obtain ⟨oa, oc, hvo⟩ := row_slice HB0.out.out
  obtain ⟨on, hon⟩ : ∃ on, (onM M ini c).out.length = on := ⟨_, rfl⟩
  have HON := Lib.hid hon
  have hol : on ≤ 1000000 := by rw [← hon]; exact HOL.out
  have HVO : Hid (V.vo = .slice oa on oc) := Lib.hid (by rw [hvo, hon])
  clear hvo hon
  obtain ⟨i0u, hi0, hz0, hz1, hz2⟩ := info_parts infoU8
  go_wp2_with (first | ((with_reducible refine (get_v HB0.out i.a x HX.out HST.out.a.1 HST.out.a.2 HST.out.s HST.out.c).mono ?_); rintro e wg ⟨rfl, hB⟩; have HBG := Lib.hid hB; have HMG := Lib.hid (HB0.out.keep hB); obtain ⟨d13, fO, hNw, mbg⟩ := HMG.out.outCell HVO.out; have HOW := Lib.hid (HMG.out.outRow HVO.out HON.out); clear hB) | ((with_reducible refine (HDO _).mono ?_); rintro e wh ⟨rfl, hw⟩; subst hw) | ((at_builtin; go_loud (refine wpList_append_lies _ rfl _ _ 34 rfl N 5 i0u _ 1 1 Try.underlying34 hi0 hz0 hz1 hz2 rfl (by omega) _ on (u8s (onM M ini c).out) rfl (by exact HOW.out.alloc _) ⟨wg.heap.size, 0, none⟩ 1 1 [.int .u8 ch.toNat] (by rfl) (by rfl) (cell_one_new wg _ _) (by simp [Value.oneCell']) (by omega) (by unfold maxLen; omega) (by omega) (by simp; omega) (wg.heap.size + 1) (by simp) ?_); intro g2 cap2 w1 hown1 hgrow hat hlt1; obtain ⟨hp1, hf1, hd1⟩ := HMG.out.outPush HVO.out HON.out hown1 hgrow (by clear hown1 hgrow; intro q hq; rcases hat with h1 | h1; exact .inl (h1.trans hq); (have : g2 = q := by simpa [Value.ownBlock] using hq); exact .inr (by omega)); have HP := Lib.hid hp1; clear hown1 hgrow hat hlt1 hp1)))
  go_end0
  refine ⟨rfl, _, by rw [HX.out, HCH.out]; exact HP.out.1, (HVB0.out.trans (Mov.of_below HBG.out)).trans HP.out.2⟩
end Go.Proofs.Ytmcpfjhdeplgmaa
