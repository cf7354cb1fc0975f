/-
  Layer 7: Right.
-/
import Derived.Test.YtmcpfjhdeplgmaaQEach
import Derived.Laws.EntriesVeiled
namespace Go.Proofs.Ytmcpfjhdeplgmaa
open Go.RowKit Cd Go.Maps
set_option linter.unusedVariables false
set_option linter.unusedSimpArgs false

/-- The unit's box, what is told, need. -/
structure RuSt (w0 w : World) (U : UnR) (R : Bool) : Prop where
  below : Below w0.heap.size w0 w
  hu : w.heap[w0.heap.size]? = some (unO U)
  hz : w.heap[w0.heap.size + 1]? = some (bxB R)
  hn : w.heap[w0.heap.size + 2]? = some (need2O (w0.heap.size + 1))
variable {w0 w w' : World} {U : UnR} {R R' : Bool}
theorem RuSt.need (h : RuSt w0 w U R) (hd : Nd (w0.heap.size + 1) R' w w') : RuSt w0 w' U R' :=
  ⟨h.below.trans (hd.below.mono (by omega)), (hd.kept _ (lt_heap h.hu) (by omega)).trans h.hu, hd.cell, (hd.kept _ (lt_heap h.hn) (by omega)).trans h.hn⟩
theorem RuSt.more (h : RuSt w0 w U R) (hb : Below w.heap.size w w') : RuSt w0 w' U R :=
  ⟨h.below.trans (hb.mono h.below.size), (hb.block _ (lt_heap h.hu)).trans h.hu, (hb.block _ (lt_heap h.hz)).trans h.hz, (hb.block _ (lt_heap h.hn)).trans h.hn⟩
theorem below_drew (w : World) : Below w.heap.size w w.drew := ⟨rfl, rfl, rfl, Nat.le_refl _, fun _ _ => rfl⟩
theorem RuSt.drew (h : RuSt w0 w U R) : RuSt w0 w.drew U R := h.more (below_drew w)
theorem ruSt_first (w : World) (U : UnR) : RuSt w (((w.alloc (unO U)).alloc (bxB true)).alloc (need2O (w.heap.size + 1))) U true := by
  obtain ⟨h0, h1, h2, hb, _⟩ := three_new w (unO U) (bxB true) (need2O (w.heap.size + 1))
  exact ⟨hb, h0, h1, h2⟩
theorem RuSt.cells (h : RuSt w0 w U R) : w.cell? ⟨w0.heap.size, 0, none⟩ = some (.slice U.fa U.fs.length U.fc) ∧ w.cell? ⟨w0.heap.size, 1, none⟩ = some (.slice U.ga U.gs.length U.gc) ∧ w.cell? ⟨w0.heap.size, 2, none⟩ = some (.int .i64 U.top) ∧ w.cell? ⟨w0.heap.size + 1, 0, none⟩ = some (.bool R) ∧ w.cell? ⟨w0.heap.size + 2, 0, none⟩ = some (need2V (w0.heap.size + 1)) := by
  obtain ⟨u0, u1, u2⟩ := nv3 h.hu
  exact ⟨u0, u1, u2, (boxB_cell h.hz).1, (nv1 h.hn).1⟩
theorem RuSt.size (h : RuSt w0 w U R) : w0.heap.size + 2 < w.heap.size := lt_heap h.hn
abbrev glO (g : Glo) : Obj := .cells #[.string (sb g.name), .int .i64 g.pos, .int .i64 g.size, .int .i64 g.init] 41
set_option maxHeartbeats 16000000 in
set_option maxRecDepth 100000 in
theorem right_c (U : UnR) (B : Nat) (w : World) (hU : UnAt w B U) (hB : B ≤ w.heap.size) (hn : Names U) (hW : ∀ g ∈ U.gs, Wd g.pos) :
    Calls Try.prog 11 #[unV U] w (RPost (.bool (rightU U.un)) w) := by
  have hmix : Try.prog.follows .mixedOrders = true := by kernel_rfl
  have hlg := hU.lg; have hlf := hU.lf
  unfold maxLen at hlg hlf
  have hfl : U.fns.length = U.fs.length := by unfold UnR.fns; simp
  have HFL := Lib.hid hfl
  have HU := Lib.hid hU; have HN := Lib.hid hn; have HWD := Lib.hid hW
  have HS0 := Lib.hid (ruSt_first w U)
  obtain ⟨b0, hb0⟩ : ∃ b, decide ((U.fs.length : Int) ≤ 64) = b := ⟨_, rfl⟩
  obtain ⟨b1, hb1⟩ : ∃ b, inB U.top 1 4096 = b := ⟨_, rfl⟩
  have HB1 := Lib.hid hb1
  have hh : (decide (U.un.funcs.length ≤ 64) && inB U.un.top 1 4096) = ((true && b0) && b1) := by
    rw [← hb0, ← hb1]
    have : decide (U.un.funcs.length ≤ 64) = decide ((U.fs.length : Int) ≤ 64) := by
      show decide (U.fns.length ≤ 64) = _
      rw [hfl, decide_eq_decide]; omega
    rw [this]; rfl
  clear hU hn hW hfl
  cases hho : ((true && b0) && b1) with
  | false =>
    have HRF : Hid (rightU U.un = false) := Lib.hid (rightU_none (hh.trans hho))
    have HH := Lib.hid hho
    clear hh hho
    go_enter Try.func11, Try.ntmps11
    have HS := HS0; clear HS0
    go_wp2_with ((with_reducible refine (need2_any (w.heap.size + 1) _ _ _ HS.out.hz).mono ?_); rintro e v ⟨rfl, hd⟩; have HS := Lib.hid (HS.out.need hd); clear hd; obtain ⟨c0, c1, c2, c3, c4⟩ := HS.out.cells)
    have HS1 := Lib.hid HS.out.drew
    refine region_last (fun W => ∃ R', RuSt w W U R') 1000000 hmix ?_
    have hS : (fun W => ∃ R', RuSt w W U R') _ := ⟨_, HS1.out⟩
    refine anyL_takeH (i := 0) (v := ?_) rfl (by decide) (by kernel_rfl) (by kernel_rfl) (by kernel_rfl) (fun _ _ _ h => h) (Or.inl ⟨by rfl, ?_⟩) hS ?_
    rotate_left
    · (intro w' hSw; obtain ⟨_, hSw⟩ := hSw; obtain ⟨c0, c1, c2, c3, c4⟩ := hSw.cells; go_simp; first | done | with_reducible rfl)
    simp only [Act.put, List.getElem_toArray, List.getElem_cons_succ, List.getElem_cons_zero, List.setIfInBounds_toArray, List.set_cons_succ, List.set_cons_zero]
    refine anyL_takeH (i := 1) (v := ?_) rfl (by decide) (by kernel_rfl) (by kernel_rfl) (by kernel_rfl) (fun _ _ _ h => h) (Or.inl ⟨by rfl, ?_⟩) hS ?_
    rotate_left
    · (intro w' hSw; obtain ⟨_, hSw⟩ := hSw; obtain ⟨c0, c1, c2, c3, c4⟩ := hSw.cells; go_simp; first | done | with_reducible rfl)
    simp only [Act.put, List.getElem_toArray, List.getElem_cons_succ, List.getElem_cons_zero, List.setIfInBounds_toArray, List.set_cons_succ, List.set_cons_zero]
    refine anyL_takeH (i := 2) (v := ?_) rfl (by decide) (by kernel_rfl) (by kernel_rfl) (by kernel_rfl) (fun _ _ _ h => h) (Or.inl ⟨by rfl, ?_⟩) hS ?_
    rotate_left
    · (intro w' hSw; obtain ⟨_, hSw⟩ := hSw; obtain ⟨c0, c1, c2, c3, c4⟩ := hSw.cells; go_simp; first | done | with_reducible rfl)
    simp only [Act.put, List.getElem_toArray, List.getElem_cons_succ, List.getElem_cons_zero, List.setIfInBounds_toArray, List.set_cons_succ, List.set_cons_zero]
    refine anyL_one (i := 3) (by kernel_rfl) rfl (fun K1 hK1 => ?_)
    go_simp
    refine (within_v _ _ _ b1 HB1.out _).mono ?_
    rintro e u ⟨rfl, rfl⟩
    refine hK1.out _ _ (fun _ => hS) ?_
    clear hK1 K1
    refine anyL_one (i := 4) (by kernel_rfl) rfl (fun K1 hK1 => ?_)
    go_simp
    refine (need2_any (w.heap.size + 1) _ _ _ HS1.out.hz).mono ?_
    rintro e v1 ⟨rfl, hd⟩
    rw [HH.out] at hd
    have HS := Lib.hid (HS1.out.need hd)
    clear hd HS1 c0 c1 c2 c3 c4
    obtain ⟨c0, c1, c2, c3, c4⟩ := HS.out.cells
    refine hK1.out _ _ (fun _ => ⟨_, HS.out⟩) ?_
    clear hK1 K1 hS
    refine anyL_done (by kernel_rfl) ?_ _
    go_wp2
    go_ret
    exact ⟨by rw [HRF.out]; rfl, HS.out.below⟩
  | true =>
    have HRF := Lib.hid (rightU_all (hh.trans hho))
    have HH := Lib.hid hho
    have hb0t : b0 = true := by cases b0 <;> simp at hho ⊢
    have hb1t : b1 = true := by cases b1 <;> simp at hho ⊢
    have hlen64 : U.fs.length ≤ 64 := by rw [hb0t] at hb0; simp at hb0; omega
    have htop : 1 ≤ U.top ∧ U.top ≤ 4096 := by rw [hb1t] at hb1; simpa [inB] using hb1
    have HGA := Lib.hid (glob_all htop)
    obtain ⟨ht0, ht1⟩ := htop
    clear hh hho hb0t hb1t hb1
    go_enter Try.func11, Try.ntmps11
    have HS := HS0; clear HS0
    go_wp2_with ((with_reducible refine (need2_any (w.heap.size + 1) _ _ _ HS.out.hz).mono ?_); rintro e v ⟨rfl, hd⟩; have HS := Lib.hid (HS.out.need hd); clear hd; obtain ⟨c0, c1, c2, c3, c4⟩ := HS.out.cells)
    have HS1 := Lib.hid HS.out.drew
    refine region_last (fun W => ∃ R', RuSt w W U R') 1000000 hmix ?_
    have hS : (fun W => ∃ R', RuSt w W U R') _ := ⟨_, HS1.out⟩
    refine anyL_takeH (i := 0) (v := ?_) rfl (by decide) (by kernel_rfl) (by kernel_rfl) (by kernel_rfl) (fun _ _ _ h => h) (Or.inl ⟨by rfl, ?_⟩) hS ?_
    rotate_left
    · (intro w' hSw; obtain ⟨_, hSw⟩ := hSw; obtain ⟨c0, c1, c2, c3, c4⟩ := hSw.cells; go_simp; first | done | with_reducible rfl)
    simp only [Act.put, List.getElem_toArray, List.getElem_cons_succ, List.getElem_cons_zero, List.setIfInBounds_toArray, List.set_cons_succ, List.set_cons_zero]
    refine anyL_takeH (i := 1) (v := ?_) rfl (by decide) (by kernel_rfl) (by kernel_rfl) (by kernel_rfl) (fun _ _ _ h => h) (Or.inl ⟨by rfl, ?_⟩) hS ?_
    rotate_left
    · (intro w' hSw; obtain ⟨_, hSw⟩ := hSw; obtain ⟨c0, c1, c2, c3, c4⟩ := hSw.cells; go_simp; first | done | with_reducible rfl)
    simp only [Act.put, List.getElem_toArray, List.getElem_cons_succ, List.getElem_cons_zero, List.setIfInBounds_toArray, List.set_cons_succ, List.set_cons_zero]
    refine anyL_takeH (i := 2) (v := ?_) rfl (by decide) (by kernel_rfl) (by kernel_rfl) (by kernel_rfl) (fun _ _ _ h => h) (Or.inl ⟨by rfl, ?_⟩) hS ?_
    rotate_left
    · (intro w' hSw; obtain ⟨_, hSw⟩ := hSw; obtain ⟨c0, c1, c2, c3, c4⟩ := hSw.cells; go_simp; first | done | with_reducible rfl)
    simp only [Act.put, List.getElem_toArray, List.getElem_cons_succ, List.getElem_cons_zero, List.setIfInBounds_toArray, List.set_cons_succ, List.set_cons_zero]
    refine anyL_one (i := 3) (by kernel_rfl) rfl (fun K1 hK1 => ?_)
    go_simp
    refine (within_v _ _ _ b1 HB1.out _).mono ?_
    rintro e u ⟨rfl, rfl⟩
    refine hK1.out _ _ (fun _ => hS) ?_
    clear hK1 K1
    refine anyL_one (i := 4) (by kernel_rfl) rfl (fun K1 hK1 => ?_)
    go_simp
    refine (need2_any (w.heap.size + 1) _ _ _ HS1.out.hz).mono ?_
    rintro e v1 ⟨rfl, hd⟩
    rw [HH.out] at hd
    have HS := Lib.hid (HS1.out.need hd)
    clear hd HS1 c0 c1 c2 c3 c4
    obtain ⟨c0, c1, c2, c3, c4⟩ := HS.out.cells
    refine hK1.out _ _ (fun _ => ⟨_, HS.out⟩) ?_
    clear hK1 K1 hS
    refine anyL_done (by kernel_rfl) ?_ _
    go_wp2
    have HS1 := HS; clear HS c0 c1 c2 c3 c4
    go_loopw [27] (fun s27 wr => ∃ k : Nat, k ≤ U.gs.length ∧ s27 = .int .i64 k ∧ Hid (RuSt w wr U ((U.gs.take k).all (globOk U.top)))) (fun i wr => U.gs.length - (intOf i).toNat)
    case atStart => exact ⟨0, by omega, rfl, Lib.hid (by simpa using HS1.out)⟩
    case round =>
      clear HS1
      obtain ⟨k, hk, rfl, HS⟩ := hrel
      have q0 : (0 : Int) ≤ (k : Int) := Int.natCast_nonneg _
      obtain ⟨c0, c1, c2, c3, c4⟩ := HS.out.cells
      by_cases hlt : k < U.gs.length
      · obtain ⟨g, hg⟩ : ∃ g, U.gs[k]? = some g := ⟨_, List.getElem?_eq_getElem hlt⟩
        have HTK : Hid ((U.gs.take (k + 1)).all (globOk U.top) = ((U.gs.take k).all (globOk U.top) && globOk U.top g)) := Lib.hid (by rw [List.take_add_one, hg, List.all_append]; simp)
        obtain ⟨gb, off, hga, hgB, _, g0, g1, g2, g3⟩ := (HU.out.below (HS.out.below.mono hB)).gl hg
        have hgbw : gb < wr.heap.size := by have := HS.out.size; omega
        have hwd := HWD.out g (List.mem_of_getElem? hg)
        unfold Wd at hwd
        obtain ⟨hwd0, hwd1⟩ := hwd
        have q1 : (k : Int) < (U.gs.length : Int) := by omega
        have hix : ∀ W, (Instr.indexAt 23 (.slice U.ga U.gs.length U.gc) (.int .i64 k)).run Try.prog W = .ok (.pointer (some ⟨gb, off + k * 4, none⟩)) W := fun W => by
          rw [hga]
          go_simp
        have t1 : decide ((k : Int) < (U.gs.length : Int)) = true := by simpa using q1
        have HGO := Lib.hid (HGA.out g)
        have HW1 := Lib.hid (HS.out.more ((Below.refl _ wr).alloc (Nat.le_refl _) (glO g)))
        have HG1 := Lib.hid (heap_alloc_new wr (glO g))
        clear hg hga
        by_cases hp : 1 ≤ g.pos
        rotate_left
        · have HE : Hid (globOk U.top g = false) := Lib.hid (by rw [HGO.out, decide_eq_false hp]; rfl)
          have tp : decide ((1 : Int) ≤ g.pos) = false := by simpa using hp
          have tp2 : decide (g.pos ≥ (1 : Int)) = false := by simpa using hp
          clear hp
          go_wp2
          have HD1 := Lib.hid HW1.out.drew
          refine region_last (fun W => (∃ R', RuSt w W U R') ∧ W.heap[wr.heap.size]? = some (glO g)) 1000000 hmix ?_
          have hS : (fun W => (∃ R', RuSt w W U R') ∧ W.heap[wr.heap.size]? = some (glO g)) _ := ⟨⟨_, HD1.out⟩, HG1.out⟩
          refine anyL_takeH (i := 0) (v := ?_) rfl (by decide) (by kernel_rfl) (by kernel_rfl) (by kernel_rfl) (fun _ _ _ h => h) (Or.inl ⟨by rfl, ?_⟩) hS ?_
          rotate_left
          · (intro w' hSw; obtain ⟨⟨_, hSw⟩, hgl⟩ := hSw; obtain ⟨c0, c1, c2, c3, c4⟩ := hSw.cells; obtain ⟨d0, d1, d2, d3⟩ := nv4 hgl; go_simp; first | done | with_reducible rfl)
          simp only [Act.put, List.getElem_toArray, List.getElem_cons_succ, List.getElem_cons_zero, List.setIfInBounds_toArray, List.set_cons_succ, List.set_cons_zero]
          refine anyL_takeH (i := 1) (v := ?_) rfl (by decide) (by kernel_rfl) (by kernel_rfl) (by kernel_rfl) (fun _ _ _ h => h) (Or.inl ⟨by rfl, ?_⟩) hS ?_
          rotate_left
          · (intro w' hSw; obtain ⟨⟨_, hSw⟩, hgl⟩ := hSw; obtain ⟨c0, c1, c2, c3, c4⟩ := hSw.cells; obtain ⟨d0, d1, d2, d3⟩ := nv4 hgl; go_simp; first | done | with_reducible rfl)
          simp only [Act.put, List.getElem_toArray, List.getElem_cons_succ, List.getElem_cons_zero, List.setIfInBounds_toArray, List.set_cons_succ, List.set_cons_zero]
          refine anyL_takeH (i := 2) (v := ?_) rfl (by decide) (by kernel_rfl) (by kernel_rfl) (by kernel_rfl) (fun _ _ _ h => h) (Or.inl ⟨by rfl, ?_⟩) hS ?_
          rotate_left
          · (intro w' hSw; obtain ⟨⟨_, hSw⟩, hgl⟩ := hSw; obtain ⟨c0, c1, c2, c3, c4⟩ := hSw.cells; obtain ⟨d0, d1, d2, d3⟩ := nv4 hgl; go_simp; first | done | with_reducible rfl)
          simp only [Act.put, List.getElem_toArray, List.getElem_cons_succ, List.getElem_cons_zero, List.setIfInBounds_toArray, List.set_cons_succ, List.set_cons_zero]
          refine anyL_takeH (i := 3) (v := ?_) rfl (by decide) (by kernel_rfl) (by kernel_rfl) (by kernel_rfl) (fun _ _ _ h => h) (Or.inl ⟨by rfl, ?_⟩) hS ?_
          rotate_left
          · (intro w' hSw; obtain ⟨⟨_, hSw⟩, hgl⟩ := hSw; obtain ⟨c0, c1, c2, c3, c4⟩ := hSw.cells; obtain ⟨d0, d1, d2, d3⟩ := nv4 hgl; go_simp; first | done | with_reducible rfl)
          simp only [Act.put, List.getElem_toArray, List.getElem_cons_succ, List.getElem_cons_zero, List.setIfInBounds_toArray, List.set_cons_succ, List.set_cons_zero]
          refine anyL_takeH (i := 4) (v := ?_) rfl (by decide) (by kernel_rfl) (by kernel_rfl) (by kernel_rfl) (fun _ _ _ h => h) (Or.inl ⟨by rfl, ?_⟩) hS ?_
          rotate_left
          · (intro w' hSw; obtain ⟨⟨_, hSw⟩, hgl⟩ := hSw; obtain ⟨c0, c1, c2, c3, c4⟩ := hSw.cells; obtain ⟨d0, d1, d2, d3⟩ := nv4 hgl; go_simp; first | done | with_reducible rfl)
          simp only [Act.put, List.getElem_toArray, List.getElem_cons_succ, List.getElem_cons_zero, List.setIfInBounds_toArray, List.set_cons_succ, List.set_cons_zero]
          refine anyL_takeH (i := 5) (v := undef) rfl (by decide) (by kernel_rfl) (by kernel_rfl) (by kernel_rfl) (fun _ _ _ h => h) (Or.inr ⟨by rfl, rfl⟩) hS ?_
          simp only [Act.put, List.getElem_toArray, List.getElem_cons_succ, List.getElem_cons_zero, List.setIfInBounds_toArray, List.set_cons_succ, List.set_cons_zero]
          refine anyL_takeH (i := 6) (v := undef) rfl (by decide) (by kernel_rfl) (by kernel_rfl) (by kernel_rfl) (fun _ _ _ h => h) (Or.inr ⟨by rfl, rfl⟩) hS ?_
          simp only [Act.put, List.getElem_toArray, List.getElem_cons_succ, List.getElem_cons_zero, List.setIfInBounds_toArray, List.set_cons_succ, List.set_cons_zero]
          refine anyL_takeH (i := 7) (v := undef) rfl (by decide) (by kernel_rfl) (by kernel_rfl) (by kernel_rfl) (fun _ _ _ h => h) (Or.inr ⟨by rfl, rfl⟩) hS ?_
          simp only [Act.put, List.getElem_toArray, List.getElem_cons_succ, List.getElem_cons_zero, List.setIfInBounds_toArray, List.set_cons_succ, List.set_cons_zero]
          refine anyL_takeH (i := 8) (v := undef) rfl (by decide) (by kernel_rfl) (by kernel_rfl) (by kernel_rfl) (fun _ _ _ h => h) (Or.inr ⟨by rfl, rfl⟩) hS ?_
          simp only [Act.put, List.getElem_toArray, List.getElem_cons_succ, List.getElem_cons_zero, List.setIfInBounds_toArray, List.set_cons_succ, List.set_cons_zero]
          refine anyL_takeH (i := 9) (v := undef) rfl (by decide) (by kernel_rfl) (by kernel_rfl) (by kernel_rfl) (fun _ _ _ h => h) (Or.inr ⟨by rfl, rfl⟩) hS ?_
          simp only [Act.put, List.getElem_toArray, List.getElem_cons_succ, List.getElem_cons_zero, List.setIfInBounds_toArray, List.set_cons_succ, List.set_cons_zero]
          refine anyL_takeH (i := 10) (v := undef) rfl (by decide) (by kernel_rfl) (by kernel_rfl) (by kernel_rfl) (fun _ _ _ h => h) (Or.inr ⟨by rfl, rfl⟩) hS ?_
          simp only [Act.put, List.getElem_toArray, List.getElem_cons_succ, List.getElem_cons_zero, List.setIfInBounds_toArray, List.set_cons_succ, List.set_cons_zero]
          refine anyL_takeH (i := 11) (v := undef) rfl (by decide) (by kernel_rfl) (by kernel_rfl) (by kernel_rfl) (fun _ _ _ h => h) (Or.inr ⟨by rfl, rfl⟩) hS ?_
          simp only [Act.put, List.getElem_toArray, List.getElem_cons_succ, List.getElem_cons_zero, List.setIfInBounds_toArray, List.set_cons_succ, List.set_cons_zero]
          refine anyL_one (i := 12) (by kernel_rfl) rfl (fun K1 hK1 => ?_)
          go_simp
          refine hK1.out _ _ (fun _ => hS) ?_
          clear hK1 K1
          refine anyL_takeH (i := 13) (v := ?_) rfl (by decide) (by kernel_rfl) (by kernel_rfl) (by kernel_rfl) (fun _ _ _ h => h) (Or.inl ⟨by rfl, ?_⟩) hS ?_
          rotate_left
          · (intro w' hSw; obtain ⟨⟨_, hSw⟩, hgl⟩ := hSw; obtain ⟨c0, c1, c2, c3, c4⟩ := hSw.cells; obtain ⟨d0, d1, d2, d3⟩ := nv4 hgl; go_simp; first | done | with_reducible rfl)
          simp only [Act.put, List.getElem_toArray, List.getElem_cons_succ, List.getElem_cons_zero, List.setIfInBounds_toArray, List.set_cons_succ, List.set_cons_zero]
          refine anyL_takeH (i := 14) (v := ?_) rfl (by decide) (by kernel_rfl) (by kernel_rfl) (by kernel_rfl) (fun _ _ _ h => h) (Or.inl ⟨by rfl, ?_⟩) hS ?_
          rotate_left
          · (intro w' hSw; obtain ⟨⟨_, hSw⟩, hgl⟩ := hSw; obtain ⟨c0, c1, c2, c3, c4⟩ := hSw.cells; obtain ⟨d0, d1, d2, d3⟩ := nv4 hgl; go_simp; first | done | with_reducible rfl)
          simp only [Act.put, List.getElem_toArray, List.getElem_cons_succ, List.getElem_cons_zero, List.setIfInBounds_toArray, List.set_cons_succ, List.set_cons_zero]
          refine anyL_takeH (i := 15) (v := undef) rfl (by decide) (by kernel_rfl) (by kernel_rfl) (by kernel_rfl) (fun _ _ _ h => h) (Or.inr ⟨by rfl, rfl⟩) hS ?_
          simp only [Act.put, List.getElem_toArray, List.getElem_cons_succ, List.getElem_cons_zero, List.setIfInBounds_toArray, List.set_cons_succ, List.set_cons_zero]
          refine anyL_takeH (i := 16) (v := undef) rfl (by decide) (by kernel_rfl) (by kernel_rfl) (by kernel_rfl) (fun _ _ _ h => h) (Or.inr ⟨by rfl, rfl⟩) hS ?_
          simp only [Act.put, List.getElem_toArray, List.getElem_cons_succ, List.getElem_cons_zero, List.setIfInBounds_toArray, List.set_cons_succ, List.set_cons_zero]
          refine anyL_one (i := 17) (by kernel_rfl) rfl (fun K1 hK1 => ?_)
          go_simp
          refine hK1.out _ _ (fun _ => hS) ?_
          clear hK1 K1
          refine anyL_takeH (i := 18) (v := ?_) rfl (by decide) (by kernel_rfl) (by kernel_rfl) (by kernel_rfl) (fun _ _ _ h => h) (Or.inl ⟨by rfl, ?_⟩) hS ?_
          rotate_left
          · (intro w' hSw; obtain ⟨⟨_, hSw⟩, hgl⟩ := hSw; obtain ⟨c0, c1, c2, c3, c4⟩ := hSw.cells; obtain ⟨d0, d1, d2, d3⟩ := nv4 hgl; go_simp; first | done | with_reducible rfl)
          simp only [Act.put, List.getElem_toArray, List.getElem_cons_succ, List.getElem_cons_zero, List.setIfInBounds_toArray, List.set_cons_succ, List.set_cons_zero]
          refine anyL_one (i := 19) (by kernel_rfl) rfl (fun K1 hK1 => ?_)
          go_simp
          refine (need2_any (w.heap.size + 1) _ _ _ HD1.out.hz).mono ?_
          rintro e v2 ⟨rfl, hd⟩
          have HS2 := Lib.hid (HD1.out.need hd)
          have hgl2 := (hd.kept _ (lt_heap HG1.out) (by have := HS.out.size; omega)).trans HG1.out
          clear hd
          refine hK1.out _ _ (fun _ => ⟨⟨_, HS2.out⟩, hgl2⟩) ?_
          clear hK1 K1 hS
          refine anyL_done (by kernel_rfl) ?_ _
          go_wp2
          go_roundw
          case rel => exact ⟨k + 1, by omega, by go_num, Lib.hid (by rw [HTK.out, HE.out]; exact HS2.out)⟩
          case measure => simp [intOf]; omega
        have tp : decide ((1 : Int) ≤ g.pos) = true := by simpa using hp
        have tp2 : decide (g.pos ≥ (1 : Int)) = true := by simpa using hp
        have hw : IntKind.i64.wrap (U.top - g.pos) = U.top - g.pos := by rw [IntKind.wrap_i64]; omega
        cases hin : inB g.size 0 (U.top - g.pos) with
        | false =>
          have HE : Hid (globOk U.top g = false) := Lib.hid (by rw [HGO.out, hin]; simp)
          go_wp2
          have HD1 := Lib.hid HW1.out.drew
          refine region_last (fun W => (∃ R', RuSt w W U R') ∧ W.heap[wr.heap.size]? = some (glO g)) 1000000 hmix ?_
          have hS : (fun W => (∃ R', RuSt w W U R') ∧ W.heap[wr.heap.size]? = some (glO g)) _ := ⟨⟨_, HD1.out⟩, HG1.out⟩
          refine anyL_takeH (i := 0) (v := ?_) rfl (by decide) (by kernel_rfl) (by kernel_rfl) (by kernel_rfl) (fun _ _ _ h => h) (Or.inl ⟨by rfl, ?_⟩) hS ?_
          rotate_left
          · (intro w' hSw; obtain ⟨⟨_, hSw⟩, hgl⟩ := hSw; obtain ⟨c0, c1, c2, c3, c4⟩ := hSw.cells; obtain ⟨d0, d1, d2, d3⟩ := nv4 hgl; go_simp; first | done | with_reducible rfl)
          simp only [Act.put, List.getElem_toArray, List.getElem_cons_succ, List.getElem_cons_zero, List.setIfInBounds_toArray, List.set_cons_succ, List.set_cons_zero]
          refine anyL_takeH (i := 1) (v := ?_) rfl (by decide) (by kernel_rfl) (by kernel_rfl) (by kernel_rfl) (fun _ _ _ h => h) (Or.inl ⟨by rfl, ?_⟩) hS ?_
          rotate_left
          · (intro w' hSw; obtain ⟨⟨_, hSw⟩, hgl⟩ := hSw; obtain ⟨c0, c1, c2, c3, c4⟩ := hSw.cells; obtain ⟨d0, d1, d2, d3⟩ := nv4 hgl; go_simp; first | done | with_reducible rfl)
          simp only [Act.put, List.getElem_toArray, List.getElem_cons_succ, List.getElem_cons_zero, List.setIfInBounds_toArray, List.set_cons_succ, List.set_cons_zero]
          refine anyL_takeH (i := 2) (v := ?_) rfl (by decide) (by kernel_rfl) (by kernel_rfl) (by kernel_rfl) (fun _ _ _ h => h) (Or.inl ⟨by rfl, ?_⟩) hS ?_
          rotate_left
          · (intro w' hSw; obtain ⟨⟨_, hSw⟩, hgl⟩ := hSw; obtain ⟨c0, c1, c2, c3, c4⟩ := hSw.cells; obtain ⟨d0, d1, d2, d3⟩ := nv4 hgl; go_simp; first | done | with_reducible rfl)
          simp only [Act.put, List.getElem_toArray, List.getElem_cons_succ, List.getElem_cons_zero, List.setIfInBounds_toArray, List.set_cons_succ, List.set_cons_zero]
          refine anyL_takeH (i := 3) (v := ?_) rfl (by decide) (by kernel_rfl) (by kernel_rfl) (by kernel_rfl) (fun _ _ _ h => h) (Or.inl ⟨by rfl, ?_⟩) hS ?_
          rotate_left
          · (intro w' hSw; obtain ⟨⟨_, hSw⟩, hgl⟩ := hSw; obtain ⟨c0, c1, c2, c3, c4⟩ := hSw.cells; obtain ⟨d0, d1, d2, d3⟩ := nv4 hgl; go_simp; first | done | with_reducible rfl)
          simp only [Act.put, List.getElem_toArray, List.getElem_cons_succ, List.getElem_cons_zero, List.setIfInBounds_toArray, List.set_cons_succ, List.set_cons_zero]
          refine anyL_takeH (i := 4) (v := ?_) rfl (by decide) (by kernel_rfl) (by kernel_rfl) (by kernel_rfl) (fun _ _ _ h => h) (Or.inl ⟨by rfl, ?_⟩) hS ?_
          rotate_left
          · (intro w' hSw; obtain ⟨⟨_, hSw⟩, hgl⟩ := hSw; obtain ⟨c0, c1, c2, c3, c4⟩ := hSw.cells; obtain ⟨d0, d1, d2, d3⟩ := nv4 hgl; go_simp; first | done | with_reducible rfl)
          simp only [Act.put, List.getElem_toArray, List.getElem_cons_succ, List.getElem_cons_zero, List.setIfInBounds_toArray, List.set_cons_succ, List.set_cons_zero]
          refine anyL_takeH (i := 5) (v := ?_) rfl (by decide) (by kernel_rfl) (by kernel_rfl) (by kernel_rfl) (fun _ _ _ h => h) (Or.inl ⟨by rfl, ?_⟩) hS ?_
          rotate_left
          · (intro w' hSw; obtain ⟨⟨_, hSw⟩, hgl⟩ := hSw; obtain ⟨c0, c1, c2, c3, c4⟩ := hSw.cells; obtain ⟨d0, d1, d2, d3⟩ := nv4 hgl; go_simp; first | done | with_reducible rfl)
          simp only [Act.put, List.getElem_toArray, List.getElem_cons_succ, List.getElem_cons_zero, List.setIfInBounds_toArray, List.set_cons_succ, List.set_cons_zero]
          refine anyL_takeH (i := 6) (v := ?_) rfl (by decide) (by kernel_rfl) (by kernel_rfl) (by kernel_rfl) (fun _ _ _ h => h) (Or.inl ⟨by rfl, ?_⟩) hS ?_
          rotate_left
          · (intro w' hSw; obtain ⟨⟨_, hSw⟩, hgl⟩ := hSw; obtain ⟨c0, c1, c2, c3, c4⟩ := hSw.cells; obtain ⟨d0, d1, d2, d3⟩ := nv4 hgl; go_simp; first | done | with_reducible rfl)
          simp only [Act.put, List.getElem_toArray, List.getElem_cons_succ, List.getElem_cons_zero, List.setIfInBounds_toArray, List.set_cons_succ, List.set_cons_zero]
          refine anyL_takeH (i := 7) (v := ?_) rfl (by decide) (by kernel_rfl) (by kernel_rfl) (by kernel_rfl) (fun _ _ _ h => h) (Or.inl ⟨by rfl, ?_⟩) hS ?_
          rotate_left
          · (intro w' hSw; obtain ⟨⟨_, hSw⟩, hgl⟩ := hSw; obtain ⟨c0, c1, c2, c3, c4⟩ := hSw.cells; obtain ⟨d0, d1, d2, d3⟩ := nv4 hgl; go_simp; first | done | with_reducible rfl)
          simp only [Act.put, List.getElem_toArray, List.getElem_cons_succ, List.getElem_cons_zero, List.setIfInBounds_toArray, List.set_cons_succ, List.set_cons_zero]
          refine anyL_takeH (i := 8) (v := ?_) rfl (by decide) (by kernel_rfl) (by kernel_rfl) (by kernel_rfl) (fun _ _ _ h => h) (Or.inl ⟨by rfl, ?_⟩) hS ?_
          rotate_left
          · (intro w' hSw; obtain ⟨⟨_, hSw⟩, hgl⟩ := hSw; obtain ⟨c0, c1, c2, c3, c4⟩ := hSw.cells; obtain ⟨d0, d1, d2, d3⟩ := nv4 hgl; go_simp; first | done | with_reducible rfl)
          simp only [Act.put, List.getElem_toArray, List.getElem_cons_succ, List.getElem_cons_zero, List.setIfInBounds_toArray, List.set_cons_succ, List.set_cons_zero]
          refine anyL_takeH (i := 9) (v := ?_) rfl (by decide) (by kernel_rfl) (by kernel_rfl) (by kernel_rfl) (fun _ _ _ h => h) (Or.inl ⟨by rfl, ?_⟩) hS ?_
          rotate_left
          · (intro w' hSw; obtain ⟨⟨_, hSw⟩, hgl⟩ := hSw; obtain ⟨c0, c1, c2, c3, c4⟩ := hSw.cells; obtain ⟨d0, d1, d2, d3⟩ := nv4 hgl; go_simp; first | done | with_reducible rfl)
          simp only [Act.put, List.getElem_toArray, List.getElem_cons_succ, List.getElem_cons_zero, List.setIfInBounds_toArray, List.set_cons_succ, List.set_cons_zero]
          refine anyL_takeH (i := 10) (v := ?_) rfl (by decide) (by kernel_rfl) (by kernel_rfl) (by kernel_rfl) (fun _ _ _ h => h) (Or.inl ⟨by rfl, ?_⟩) hS ?_
          rotate_left
          · (intro w' hSw; obtain ⟨⟨_, hSw⟩, hgl⟩ := hSw; obtain ⟨c0, c1, c2, c3, c4⟩ := hSw.cells; obtain ⟨d0, d1, d2, d3⟩ := nv4 hgl; go_simp; first | done | with_reducible rfl)
          simp only [Act.put, List.getElem_toArray, List.getElem_cons_succ, List.getElem_cons_zero, List.setIfInBounds_toArray, List.set_cons_succ, List.set_cons_zero]
          refine anyL_takeH (i := 11) (v := ?_) rfl (by decide) (by kernel_rfl) (by kernel_rfl) (by kernel_rfl) (fun _ _ _ h => h) (Or.inl ⟨by rfl, ?_⟩) hS ?_
          rotate_left
          · (intro w' hSw; obtain ⟨⟨_, hSw⟩, hgl⟩ := hSw; obtain ⟨c0, c1, c2, c3, c4⟩ := hSw.cells; obtain ⟨d0, d1, d2, d3⟩ := nv4 hgl; go_simp; first | done | with_reducible rfl)
          simp only [Act.put, List.getElem_toArray, List.getElem_cons_succ, List.getElem_cons_zero, List.setIfInBounds_toArray, List.set_cons_succ, List.set_cons_zero]
          refine anyL_one (i := 12) (by kernel_rfl) rfl (fun K1 hK1 => ?_)
          go_simp
          refine (within_v _ _ _ _ hin _).mono ?_
          rintro e u ⟨rfl, rfl⟩
          refine hK1.out _ _ (fun _ => hS) ?_
          clear hK1 K1
          refine anyL_takeH (i := 13) (v := ?_) rfl (by decide) (by kernel_rfl) (by kernel_rfl) (by kernel_rfl) (fun _ _ _ h => h) (Or.inl ⟨by rfl, ?_⟩) hS ?_
          rotate_left
          · (intro w' hSw; obtain ⟨⟨_, hSw⟩, hgl⟩ := hSw; obtain ⟨c0, c1, c2, c3, c4⟩ := hSw.cells; obtain ⟨d0, d1, d2, d3⟩ := nv4 hgl; go_simp; first | done | with_reducible rfl)
          simp only [Act.put, List.getElem_toArray, List.getElem_cons_succ, List.getElem_cons_zero, List.setIfInBounds_toArray, List.set_cons_succ, List.set_cons_zero]
          refine anyL_takeH (i := 14) (v := ?_) rfl (by decide) (by kernel_rfl) (by kernel_rfl) (by kernel_rfl) (fun _ _ _ h => h) (Or.inl ⟨by rfl, ?_⟩) hS ?_
          rotate_left
          · (intro w' hSw; obtain ⟨⟨_, hSw⟩, hgl⟩ := hSw; obtain ⟨c0, c1, c2, c3, c4⟩ := hSw.cells; obtain ⟨d0, d1, d2, d3⟩ := nv4 hgl; go_simp; first | done | with_reducible rfl)
          simp only [Act.put, List.getElem_toArray, List.getElem_cons_succ, List.getElem_cons_zero, List.setIfInBounds_toArray, List.set_cons_succ, List.set_cons_zero]
          refine anyL_takeH (i := 15) (v := undef) rfl (by decide) (by kernel_rfl) (by kernel_rfl) (by kernel_rfl) (fun _ _ _ h => h) (Or.inr ⟨by rfl, rfl⟩) hS ?_
          simp only [Act.put, List.getElem_toArray, List.getElem_cons_succ, List.getElem_cons_zero, List.setIfInBounds_toArray, List.set_cons_succ, List.set_cons_zero]
          refine anyL_takeH (i := 16) (v := undef) rfl (by decide) (by kernel_rfl) (by kernel_rfl) (by kernel_rfl) (fun _ _ _ h => h) (Or.inr ⟨by rfl, rfl⟩) hS ?_
          simp only [Act.put, List.getElem_toArray, List.getElem_cons_succ, List.getElem_cons_zero, List.setIfInBounds_toArray, List.set_cons_succ, List.set_cons_zero]
          refine anyL_one (i := 17) (by kernel_rfl) rfl (fun K1 hK1 => ?_)
          go_simp
          refine hK1.out _ _ (fun _ => hS) ?_
          clear hK1 K1
          refine anyL_takeH (i := 18) (v := ?_) rfl (by decide) (by kernel_rfl) (by kernel_rfl) (by kernel_rfl) (fun _ _ _ h => h) (Or.inl ⟨by rfl, ?_⟩) hS ?_
          rotate_left
          · (intro w' hSw; obtain ⟨⟨_, hSw⟩, hgl⟩ := hSw; obtain ⟨c0, c1, c2, c3, c4⟩ := hSw.cells; obtain ⟨d0, d1, d2, d3⟩ := nv4 hgl; go_simp; first | done | with_reducible rfl)
          simp only [Act.put, List.getElem_toArray, List.getElem_cons_succ, List.getElem_cons_zero, List.setIfInBounds_toArray, List.set_cons_succ, List.set_cons_zero]
          refine anyL_one (i := 19) (by kernel_rfl) rfl (fun K1 hK1 => ?_)
          go_simp
          refine (need2_any (w.heap.size + 1) _ _ _ HD1.out.hz).mono ?_
          rintro e v2 ⟨rfl, hd⟩
          have HS2 := Lib.hid (HD1.out.need hd)
          have hgl2 := (hd.kept _ (lt_heap HG1.out) (by have := HS.out.size; omega)).trans HG1.out
          clear hd
          refine hK1.out _ _ (fun _ => ⟨⟨_, HS2.out⟩, hgl2⟩) ?_
          clear hK1 K1 hS
          refine anyL_done (by kernel_rfl) ?_ _
          go_wp2
          go_roundw
          case rel => exact ⟨k + 1, by omega, by go_num, Lib.hid (by rw [HTK.out, HE.out]; exact HS2.out)⟩
          case measure => simp [intOf]; omega
        | true =>
          obtain ⟨bw, hbw⟩ : ∃ bw, isW g.init = bw := ⟨_, rfl⟩
          have HE : Hid (globOk U.top g = bw) := Lib.hid (by rw [HGO.out, hin, decide_eq_true hp, hbw]; rfl)
          go_wp2
          have HD1 := Lib.hid HW1.out.drew
          refine region_last (fun W => (∃ R', RuSt w W U R') ∧ W.heap[wr.heap.size]? = some (glO g)) 1000000 hmix ?_
          have hS : (fun W => (∃ R', RuSt w W U R') ∧ W.heap[wr.heap.size]? = some (glO g)) _ := ⟨⟨_, HD1.out⟩, HG1.out⟩
          refine anyL_takeH (i := 0) (v := ?_) rfl (by decide) (by kernel_rfl) (by kernel_rfl) (by kernel_rfl) (fun _ _ _ h => h) (Or.inl ⟨by rfl, ?_⟩) hS ?_
          rotate_left
          · (intro w' hSw; obtain ⟨⟨_, hSw⟩, hgl⟩ := hSw; obtain ⟨c0, c1, c2, c3, c4⟩ := hSw.cells; obtain ⟨d0, d1, d2, d3⟩ := nv4 hgl; go_simp; first | done | with_reducible rfl)
          simp only [Act.put, List.getElem_toArray, List.getElem_cons_succ, List.getElem_cons_zero, List.setIfInBounds_toArray, List.set_cons_succ, List.set_cons_zero]
          refine anyL_takeH (i := 1) (v := ?_) rfl (by decide) (by kernel_rfl) (by kernel_rfl) (by kernel_rfl) (fun _ _ _ h => h) (Or.inl ⟨by rfl, ?_⟩) hS ?_
          rotate_left
          · (intro w' hSw; obtain ⟨⟨_, hSw⟩, hgl⟩ := hSw; obtain ⟨c0, c1, c2, c3, c4⟩ := hSw.cells; obtain ⟨d0, d1, d2, d3⟩ := nv4 hgl; go_simp; first | done | with_reducible rfl)
          simp only [Act.put, List.getElem_toArray, List.getElem_cons_succ, List.getElem_cons_zero, List.setIfInBounds_toArray, List.set_cons_succ, List.set_cons_zero]
          refine anyL_takeH (i := 2) (v := ?_) rfl (by decide) (by kernel_rfl) (by kernel_rfl) (by kernel_rfl) (fun _ _ _ h => h) (Or.inl ⟨by rfl, ?_⟩) hS ?_
          rotate_left
          · (intro w' hSw; obtain ⟨⟨_, hSw⟩, hgl⟩ := hSw; obtain ⟨c0, c1, c2, c3, c4⟩ := hSw.cells; obtain ⟨d0, d1, d2, d3⟩ := nv4 hgl; go_simp; first | done | with_reducible rfl)
          simp only [Act.put, List.getElem_toArray, List.getElem_cons_succ, List.getElem_cons_zero, List.setIfInBounds_toArray, List.set_cons_succ, List.set_cons_zero]
          refine anyL_takeH (i := 3) (v := ?_) rfl (by decide) (by kernel_rfl) (by kernel_rfl) (by kernel_rfl) (fun _ _ _ h => h) (Or.inl ⟨by rfl, ?_⟩) hS ?_
          rotate_left
          · (intro w' hSw; obtain ⟨⟨_, hSw⟩, hgl⟩ := hSw; obtain ⟨c0, c1, c2, c3, c4⟩ := hSw.cells; obtain ⟨d0, d1, d2, d3⟩ := nv4 hgl; go_simp; first | done | with_reducible rfl)
          simp only [Act.put, List.getElem_toArray, List.getElem_cons_succ, List.getElem_cons_zero, List.setIfInBounds_toArray, List.set_cons_succ, List.set_cons_zero]
          refine anyL_takeH (i := 4) (v := ?_) rfl (by decide) (by kernel_rfl) (by kernel_rfl) (by kernel_rfl) (fun _ _ _ h => h) (Or.inl ⟨by rfl, ?_⟩) hS ?_
          rotate_left
          · (intro w' hSw; obtain ⟨⟨_, hSw⟩, hgl⟩ := hSw; obtain ⟨c0, c1, c2, c3, c4⟩ := hSw.cells; obtain ⟨d0, d1, d2, d3⟩ := nv4 hgl; go_simp; first | done | with_reducible rfl)
          simp only [Act.put, List.getElem_toArray, List.getElem_cons_succ, List.getElem_cons_zero, List.setIfInBounds_toArray, List.set_cons_succ, List.set_cons_zero]
          refine anyL_takeH (i := 5) (v := ?_) rfl (by decide) (by kernel_rfl) (by kernel_rfl) (by kernel_rfl) (fun _ _ _ h => h) (Or.inl ⟨by rfl, ?_⟩) hS ?_
          rotate_left
          · (intro w' hSw; obtain ⟨⟨_, hSw⟩, hgl⟩ := hSw; obtain ⟨c0, c1, c2, c3, c4⟩ := hSw.cells; obtain ⟨d0, d1, d2, d3⟩ := nv4 hgl; go_simp; first | done | with_reducible rfl)
          simp only [Act.put, List.getElem_toArray, List.getElem_cons_succ, List.getElem_cons_zero, List.setIfInBounds_toArray, List.set_cons_succ, List.set_cons_zero]
          refine anyL_takeH (i := 6) (v := ?_) rfl (by decide) (by kernel_rfl) (by kernel_rfl) (by kernel_rfl) (fun _ _ _ h => h) (Or.inl ⟨by rfl, ?_⟩) hS ?_
          rotate_left
          · (intro w' hSw; obtain ⟨⟨_, hSw⟩, hgl⟩ := hSw; obtain ⟨c0, c1, c2, c3, c4⟩ := hSw.cells; obtain ⟨d0, d1, d2, d3⟩ := nv4 hgl; go_simp; first | done | with_reducible rfl)
          simp only [Act.put, List.getElem_toArray, List.getElem_cons_succ, List.getElem_cons_zero, List.setIfInBounds_toArray, List.set_cons_succ, List.set_cons_zero]
          refine anyL_takeH (i := 7) (v := ?_) rfl (by decide) (by kernel_rfl) (by kernel_rfl) (by kernel_rfl) (fun _ _ _ h => h) (Or.inl ⟨by rfl, ?_⟩) hS ?_
          rotate_left
          · (intro w' hSw; obtain ⟨⟨_, hSw⟩, hgl⟩ := hSw; obtain ⟨c0, c1, c2, c3, c4⟩ := hSw.cells; obtain ⟨d0, d1, d2, d3⟩ := nv4 hgl; go_simp; first | done | with_reducible rfl)
          simp only [Act.put, List.getElem_toArray, List.getElem_cons_succ, List.getElem_cons_zero, List.setIfInBounds_toArray, List.set_cons_succ, List.set_cons_zero]
          refine anyL_takeH (i := 8) (v := ?_) rfl (by decide) (by kernel_rfl) (by kernel_rfl) (by kernel_rfl) (fun _ _ _ h => h) (Or.inl ⟨by rfl, ?_⟩) hS ?_
          rotate_left
          · (intro w' hSw; obtain ⟨⟨_, hSw⟩, hgl⟩ := hSw; obtain ⟨c0, c1, c2, c3, c4⟩ := hSw.cells; obtain ⟨d0, d1, d2, d3⟩ := nv4 hgl; go_simp; first | done | with_reducible rfl)
          simp only [Act.put, List.getElem_toArray, List.getElem_cons_succ, List.getElem_cons_zero, List.setIfInBounds_toArray, List.set_cons_succ, List.set_cons_zero]
          refine anyL_takeH (i := 9) (v := ?_) rfl (by decide) (by kernel_rfl) (by kernel_rfl) (by kernel_rfl) (fun _ _ _ h => h) (Or.inl ⟨by rfl, ?_⟩) hS ?_
          rotate_left
          · (intro w' hSw; obtain ⟨⟨_, hSw⟩, hgl⟩ := hSw; obtain ⟨c0, c1, c2, c3, c4⟩ := hSw.cells; obtain ⟨d0, d1, d2, d3⟩ := nv4 hgl; go_simp; first | done | with_reducible rfl)
          simp only [Act.put, List.getElem_toArray, List.getElem_cons_succ, List.getElem_cons_zero, List.setIfInBounds_toArray, List.set_cons_succ, List.set_cons_zero]
          refine anyL_takeH (i := 10) (v := ?_) rfl (by decide) (by kernel_rfl) (by kernel_rfl) (by kernel_rfl) (fun _ _ _ h => h) (Or.inl ⟨by rfl, ?_⟩) hS ?_
          rotate_left
          · (intro w' hSw; obtain ⟨⟨_, hSw⟩, hgl⟩ := hSw; obtain ⟨c0, c1, c2, c3, c4⟩ := hSw.cells; obtain ⟨d0, d1, d2, d3⟩ := nv4 hgl; go_simp; first | done | with_reducible rfl)
          simp only [Act.put, List.getElem_toArray, List.getElem_cons_succ, List.getElem_cons_zero, List.setIfInBounds_toArray, List.set_cons_succ, List.set_cons_zero]
          refine anyL_takeH (i := 11) (v := ?_) rfl (by decide) (by kernel_rfl) (by kernel_rfl) (by kernel_rfl) (fun _ _ _ h => h) (Or.inl ⟨by rfl, ?_⟩) hS ?_
          rotate_left
          · (intro w' hSw; obtain ⟨⟨_, hSw⟩, hgl⟩ := hSw; obtain ⟨c0, c1, c2, c3, c4⟩ := hSw.cells; obtain ⟨d0, d1, d2, d3⟩ := nv4 hgl; go_simp; first | done | with_reducible rfl)
          simp only [Act.put, List.getElem_toArray, List.getElem_cons_succ, List.getElem_cons_zero, List.setIfInBounds_toArray, List.set_cons_succ, List.set_cons_zero]
          refine anyL_one (i := 12) (by kernel_rfl) rfl (fun K1 hK1 => ?_)
          go_simp
          refine (within_v _ _ _ _ hin _).mono ?_
          rintro e u ⟨rfl, rfl⟩
          refine hK1.out _ _ (fun _ => hS) ?_
          clear hK1 K1
          refine anyL_takeH (i := 13) (v := ?_) rfl (by decide) (by kernel_rfl) (by kernel_rfl) (by kernel_rfl) (fun _ _ _ h => h) (Or.inl ⟨by rfl, ?_⟩) hS ?_
          rotate_left
          · (intro w' hSw; obtain ⟨⟨_, hSw⟩, hgl⟩ := hSw; obtain ⟨c0, c1, c2, c3, c4⟩ := hSw.cells; obtain ⟨d0, d1, d2, d3⟩ := nv4 hgl; go_simp; first | done | with_reducible rfl)
          simp only [Act.put, List.getElem_toArray, List.getElem_cons_succ, List.getElem_cons_zero, List.setIfInBounds_toArray, List.set_cons_succ, List.set_cons_zero]
          refine anyL_takeH (i := 14) (v := ?_) rfl (by decide) (by kernel_rfl) (by kernel_rfl) (by kernel_rfl) (fun _ _ _ h => h) (Or.inl ⟨by rfl, ?_⟩) hS ?_
          rotate_left
          · (intro w' hSw; obtain ⟨⟨_, hSw⟩, hgl⟩ := hSw; obtain ⟨c0, c1, c2, c3, c4⟩ := hSw.cells; obtain ⟨d0, d1, d2, d3⟩ := nv4 hgl; go_simp; first | done | with_reducible rfl)
          simp only [Act.put, List.getElem_toArray, List.getElem_cons_succ, List.getElem_cons_zero, List.setIfInBounds_toArray, List.set_cons_succ, List.set_cons_zero]
          refine anyL_takeH (i := 15) (v := ?_) rfl (by decide) (by kernel_rfl) (by kernel_rfl) (by kernel_rfl) (fun _ _ _ h => h) (Or.inl ⟨by rfl, ?_⟩) hS ?_
          rotate_left
          · (intro w' hSw; obtain ⟨⟨_, hSw⟩, hgl⟩ := hSw; obtain ⟨c0, c1, c2, c3, c4⟩ := hSw.cells; obtain ⟨d0, d1, d2, d3⟩ := nv4 hgl; go_simp; first | done | with_reducible rfl)
          simp only [Act.put, List.getElem_toArray, List.getElem_cons_succ, List.getElem_cons_zero, List.setIfInBounds_toArray, List.set_cons_succ, List.set_cons_zero]
          refine anyL_takeH (i := 16) (v := ?_) rfl (by decide) (by kernel_rfl) (by kernel_rfl) (by kernel_rfl) (fun _ _ _ h => h) (Or.inl ⟨by rfl, ?_⟩) hS ?_
          rotate_left
          · (intro w' hSw; obtain ⟨⟨_, hSw⟩, hgl⟩ := hSw; obtain ⟨c0, c1, c2, c3, c4⟩ := hSw.cells; obtain ⟨d0, d1, d2, d3⟩ := nv4 hgl; go_simp; first | done | with_reducible rfl)
          simp only [Act.put, List.getElem_toArray, List.getElem_cons_succ, List.getElem_cons_zero, List.setIfInBounds_toArray, List.set_cons_succ, List.set_cons_zero]
          refine anyL_one (i := 17) (by kernel_rfl) rfl (fun K1 hK1 => ?_)
          go_simp
          refine (wis_v _ _ hbw _).mono ?_
          rintro e u ⟨rfl, rfl⟩
          refine hK1.out _ _ (fun _ => hS) ?_
          clear hK1 K1
          refine anyL_takeH (i := 18) (v := ?_) rfl (by decide) (by kernel_rfl) (by kernel_rfl) (by kernel_rfl) (fun _ _ _ h => h) (Or.inl ⟨by rfl, ?_⟩) hS ?_
          rotate_left
          · (intro w' hSw; obtain ⟨⟨_, hSw⟩, hgl⟩ := hSw; obtain ⟨c0, c1, c2, c3, c4⟩ := hSw.cells; obtain ⟨d0, d1, d2, d3⟩ := nv4 hgl; go_simp; first | done | with_reducible rfl)
          simp only [Act.put, List.getElem_toArray, List.getElem_cons_succ, List.getElem_cons_zero, List.setIfInBounds_toArray, List.set_cons_succ, List.set_cons_zero]
          refine anyL_one (i := 19) (by kernel_rfl) rfl (fun K1 hK1 => ?_)
          go_simp
          refine (need2_any (w.heap.size + 1) _ _ _ HD1.out.hz).mono ?_
          rintro e v2 ⟨rfl, hd⟩
          have HS2 := Lib.hid (HD1.out.need hd)
          have hgl2 := (hd.kept _ (lt_heap HG1.out) (by have := HS.out.size; omega)).trans HG1.out
          clear hd
          refine hK1.out _ _ (fun _ => ⟨⟨_, HS2.out⟩, hgl2⟩) ?_
          clear hK1 K1 hS
          refine anyL_done (by kernel_rfl) ?_ _
          go_wp2
          go_roundw
          case rel => exact ⟨k + 1, by omega, by go_num, Lib.hid (by rw [HTK.out, HE.out]; exact HS2.out)⟩
          case measure => simp [intOf]; omega
      · obtain rfl : k = U.gs.length := by omega
        have t1 : decide ((U.gs.length : Int) < (U.gs.length : Int)) = false := by simp
        rw [List.take_length] at HS c3
        obtain ⟨bg, hbg⟩ : ∃ bg, U.gs.all (globOk U.top) = bg := ⟨_, rfl⟩
        rw [hbg] at HS c3
        have HBG := Lib.hid hbg
        clear hbg
        obtain ⟨bd, hbd⟩ : ∃ bd, decide ((U.fns.map (·.name)).Nodup) = bd := ⟨_, rfl⟩
        have HBD := Lib.hid hbd
        clear hbd
        have HUw : Hid (UnAt wr B U) := Lib.hid (HU.out.below (HS.out.below.mono hB))
        have hBw : B ≤ wr.heap.size := by have := HS.out.size; omega
        have hxr := HS.out.size
        go_wp2_with (first | ((with_reducible refine (places_any U B wr HUw.out hBw HN.out (by omega)).mono ?_); rintro e v1 ⟨b, rfl, hb, hbl, hpl⟩; have HP := Lib.hid hpl; have HB2 := Lib.hid hbl; have HS2 := Lib.hid (HS.out.more hbl); have hbv := hpl.lt; have HS3 := Lib.hid (HS2.out.more ((Below.refl _ v1).alloc (Nat.le_refl _) (mapO b))); have HP3 := Lib.hid (hpl.below ((Below.refl _ v1).alloc (Nat.le_refl _) (mapO b)) hbv); obtain ⟨sz, hlen, hsz⟩ := HP3.out.len HBD.out; clear hpl hbl HS c0 c1 c2 c3 c4; obtain ⟨c0, c1, c2, c3, c4⟩ := HS2.out.cells; have hx2 := HS2.out.size; have hx1 : w.heap.size + 1 < v1.heap.size := (by omega); have hx0 : w.heap.size < v1.heap.size := (by omega); rw [HFL.out] at hsz; have t2 : ((sz : Int) == (U.fs.length : Int)) = bd := hsz) | ((with_reducible refine (need2_any (w.heap.size + 1) _ _ _ HS3.out.hz).mono ?_); rintro e v3 ⟨rfl, hd⟩; have HD3 := Lib.hid hd; have HS4 := Lib.hid (HS3.out.need hd); clear hd c0 c1 c2 c3 c4; obtain ⟨c0, c1, c2, c3, c4⟩ := HS4.out.cells))
        have HE4 : Hid (EaSt v3 U (w.heap.size + 1) (w.heap.size + 2) v1.heap.size b w.heap.size (bg && bd)) := Lib.hid (by
          have h2 := HS2.out.size
          have hm := (HD3.out.kept v1.heap.size (by simp) (by omega)).trans (heap_alloc_new v1 (mapO b))
          exact ⟨HS4.out.hz, HS4.out.hn, hm, HP3.out.keep (HD3.out.kept b (by simp; omega) (by omega)), HS4.out.hu, by omega, by omega, by omega, by omega⟩)
        obtain ⟨F, hF⟩ : ∃ F : FnR → Bool, F = fun r => rightF r.f && r.f.code.all (callOk U.fns) := ⟨_, rfl⟩
        have HF := Lib.hid hF; clear hF
        have HSL := HS4; have HEL := HE4
        clear HS2 HS3 HS4 HE4 HP3 HD3 HP hlen t2 hsz c0 c1 c2 c3 c4 hb hbv HB2
        go_loopw [65] (fun s65 wr => ∃ k : Nat, k ≤ U.fs.length ∧ s65 = .int .i64 k ∧ Hid (RuSt w wr U ((bg && bd) && (U.fs.take k).all F)) ∧ Hid (EaSt wr U (w.heap.size + 1) (w.heap.size + 2) v1.heap.size b w.heap.size ((bg && bd) && (U.fs.take k).all F))) (fun i wr => U.fs.length - (intOf i).toNat)
        case atStart => exact ⟨0, by omega, rfl, Lib.hid (by simpa using HSL.out), Lib.hid (by simpa using HEL.out)⟩
        case round =>
          clear HSL HEL
          obtain ⟨k, hk, rfl, HS, HE⟩ := hrel
          have q0 : (0 : Int) ≤ (k : Int) := Int.natCast_nonneg _
          obtain ⟨c0, c1, c2, c3, c4⟩ := HS.out.cells
          by_cases hlt : k < U.fs.length
          · obtain ⟨r, hr⟩ : ∃ r, U.fs[k]? = some r := ⟨_, List.getElem?_eq_getElem hlt⟩
            have HTK : Hid ((U.fs.take (k + 1)).all F = ((U.fs.take k).all F && (rightF r.f && r.f.code.all (callOk U.fns)))) := Lib.hid (by rw [List.take_add_one, hr, List.all_append]; rw [HF.out]; simp)
            have HUr := Lib.hid (HU.out.below (HS.out.below.mono hB))
            obtain ⟨fb, off, hfa, hfB, _, g0, g1, g2, g3, g4⟩ := HUr.out.fn hr
            have hfbw : fb < wr.heap.size := by have := HS.out.size; omega
            have q1 : (k : Int) < (U.fs.length : Int) := by omega
            have t1 : decide ((k : Int) < (U.fs.length : Int)) = true := by simpa using q1
            have hix : ∀ W, (Instr.indexAt 22 (.slice U.fa U.fs.length U.fc) (.int .i64 k)).run Try.prog W = .ok (.pointer (some ⟨fb, off + k * 5, none⟩)) W := fun W => by
              rw [hfa]
              go_simp
            have HW1 := Lib.hid (HS.out.more ((Below.refl _ wr).alloc (Nat.le_refl _) (fnO r)))
            have HE1 := Lib.hid (HE.out.more ((Below.refl _ wr).alloc (Nat.le_refl _) (fnO r)))
            have HG1 := Lib.hid (heap_alloc_new wr (fnO r))
            have hmem := List.mem_of_getElem? hr
            have hcode := HUr.out.code r hmem
            have hlc := HUr.out.lc r hmem
            have HMEM := Lib.hid hmem; have HCD := Lib.hid hcode; have HLC := Lib.hid hlc
            have HNM := Lib.hid (HN.out r hmem).2
            have hBwr : B ≤ wr.heap.size := by have := HS.out.size; omega
            clear hr hfa hmem hcode hlc
            go_wp2
            have HDs := Lib.hid HW1.out.drew
            have HDe := Lib.hid HE1.out.drew
            clear c0 c1 c2 c3 c4
            refine region_last (fun W => (∃ R', RuSt w W U R') ∧ (∃ R', EaSt W U (w.heap.size + 1) (w.heap.size + 2) v1.heap.size b w.heap.size R') ∧ W.heap[wr.heap.size]? = some (fnO r)) 1000000 hmix ?_
            have hS : (fun W => (∃ R', RuSt w W U R') ∧ (∃ R', EaSt W U (w.heap.size + 1) (w.heap.size + 2) v1.heap.size b w.heap.size R') ∧ W.heap[wr.heap.size]? = some (fnO r)) _ := ⟨⟨_, HDs.out⟩, ⟨_, HDe.out⟩, HG1.out⟩
            refine anyL_takeH (i := 0) (v := ?_) rfl (by decide) (by kernel_rfl) (by kernel_rfl) (by kernel_rfl) (fun _ _ _ h => h) (Or.inl ⟨by rfl, ?_⟩) hS ?_
            rotate_left
            · (intro w' hSw; obtain ⟨⟨_, hSw⟩, _, hgl⟩ := hSw; obtain ⟨c0, c1, c2, c3, c4⟩ := hSw.cells; obtain ⟨d0, d1, d2, d3, d4⟩ := nv5 hgl; go_simp; first | done | with_reducible rfl)
            simp only [Act.put, List.getElem_toArray, List.getElem_cons_succ, List.getElem_cons_zero, List.setIfInBounds_toArray, List.set_cons_succ, List.set_cons_zero]
            refine anyL_takeH (i := 1) (v := ?_) rfl (by decide) (by kernel_rfl) (by kernel_rfl) (by kernel_rfl) (fun _ _ _ h => h) (Or.inl ⟨by rfl, ?_⟩) hS ?_
            rotate_left
            · (intro w' hSw; obtain ⟨⟨_, hSw⟩, _, hgl⟩ := hSw; obtain ⟨c0, c1, c2, c3, c4⟩ := hSw.cells; obtain ⟨d0, d1, d2, d3, d4⟩ := nv5 hgl; go_simp; first | done | with_reducible rfl)
            simp only [Act.put, List.getElem_toArray, List.getElem_cons_succ, List.getElem_cons_zero, List.setIfInBounds_toArray, List.set_cons_succ, List.set_cons_zero]
            refine anyL_one (i := 2) (by kernel_rfl) rfl (fun K1 hK1 => ?_)
            go_simp
            refine (rightFunc_c r B _ (HCD.out.below (((Below.refl _ wr).alloc (Nat.le_refl _) (fnO r)).drew.mono hBwr)) (by show B ≤ (wr.alloc (fnO r)).heap.size; simp; omega) HLC.out).mono ?_
            rintro e v4 ⟨rfl, hb4⟩
            have HS5 := Lib.hid (HDs.out.more hb4)
            have HE5 := Lib.hid (HDe.out.more hb4)
            have HG5 : Hid (v4.heap[wr.heap.size]? = some (fnO r)) := Lib.hid ((hb4.block _ (lt_heap HG1.out)).trans HG1.out)
            clear hb4
            clear hS
            have hS : (fun W => (∃ R', RuSt w W U R') ∧ (∃ R', EaSt W U (w.heap.size + 1) (w.heap.size + 2) v1.heap.size b w.heap.size R') ∧ W.heap[wr.heap.size]? = some (fnO r)) v4 := ⟨⟨_, HS5.out⟩, ⟨_, HE5.out⟩, HG5.out⟩
            refine hK1.out _ _ (fun _ => hS) ?_
            clear hK1 K1
            refine anyL_one (i := 3) (by kernel_rfl) rfl (fun K1 hK1 => ?_)
            go_simp
            refine (need2_any (w.heap.size + 1) _ _ _ HS5.out.hz).mono ?_
            rintro e v5 ⟨rfl, hd⟩
            have HS6 := Lib.hid (HS5.out.need hd)
            have HE6 := Lib.hid (HE5.out.need hd)
            have HG6 : Hid (v5.heap[wr.heap.size]? = some (fnO r)) := Lib.hid ((hd.kept _ (lt_heap HG5.out) (by have := HS.out.size; omega)).trans HG5.out)
            clear hd
            refine hK1.out _ _ (fun _ => ⟨⟨_, HS6.out⟩, ⟨_, HE6.out⟩, HG6.out⟩) ?_
            clear hK1 K1 hS
            refine anyL_done (by kernel_rfl) ?_ _
            obtain ⟨c0, c1, c2, c3, c4⟩ := HS6.out.cells
            obtain ⟨d0, d1, d2, d3, d4⟩ := nv5 HG6.out
            have HU6 := Lib.hid (HU.out.below (HS6.out.below.mono hB))
            have hB6 : B ≤ v5.heap.size := by have := HS6.out.size; omega
            have HC6 := Lib.hid (HU6.out.code r HMEM.out)
            go_wp2_with ((with_reducible refine (each_any r B v5 HE6.out HU6.out HC6.out hB6 HLC.out HNM.out (by omega)).mono ?_); rintro e v6 ⟨rfl, hd⟩; have HS7 := Lib.hid (HS6.out.need hd); have HE7 := Lib.hid (HE6.out.need hd); clear hd)
            go_roundw
            case rel => exact ⟨k + 1, by omega, by go_num, Lib.hid (by rw [HTK.out, ← Bool.and_assoc, ← Bool.and_assoc]; exact HS7.out), Lib.hid (by rw [HTK.out, ← Bool.and_assoc, ← Bool.and_assoc]; exact HE7.out)⟩
            case measure => simp [intOf]; omega
          · obtain rfl : k = U.fs.length := by omega
            have t1 : decide ((U.fs.length : Int) < (U.fs.length : Int)) = false := by simp
            have HEND : Hid (((bg && bd) && (U.fs.take U.fs.length).all F) = rightU U.un) := Lib.hid (by
              rw [List.take_length, HRF.out, ← HBG.out, ← HBD.out, HF.out]
              congr 1
              show _ = U.fns.all _
              unfold UnR.fns
              rw [List.all_map]
              rfl)
            rw [HEND.out] at c3
            go_wp2
            go_ret
            exact ⟨rfl, HS.out.below⟩
end Go.Proofs.Ytmcpfjhdeplgmaa
