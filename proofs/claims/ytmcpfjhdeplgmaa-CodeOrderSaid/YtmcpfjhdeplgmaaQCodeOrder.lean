/-
  CodeOrder: in which order functions stand, and what globals are called.
-/
import Derived.Test.YtmcpfjhdeplgmaaQTurn
namespace Go.Proofs.Ytmcpfjhdeplgmaa
open Go.RowKit Cd Go.Maps Go.Sort
set_option linter.unusedVariables false
set_option linter.unusedSimpArgs false

theorem add_x (s : List UInt8) (h : s.length ≤ 50) (w : World) : (Op.stringOp .add (sb s) ⟨#[120]⟩).run Try.prog w = .ok (.string (sb (s ++ [120]))) w := by
  rw [run_string_add_sum w (sb s) ⟨#[120]⟩ (by show s.toArray.size + 1 ≤ _; simp; omega)]
  have e : sb s ++ ⟨#[120]⟩ = sb (s ++ [120]) := by
    apply ByteArray.ext
    simp [sb]
  rw [e]
/-- The box of the turned unit, on its way. -/
abbrev vbO (U : UnR) (gv : Value) : Obj := .cells #[.slice U.fa U.fs.length U.fc, gv, .int .i64 U.top] 25
abbrev glO7 (g : Glo) : Obj := .cells #[.string (sb g.name), .int .i64 g.pos, .int .i64 g.size, .int .i64 g.init] 41
theorem own_below {w w' : World} {B size n : Nat} {e : TypeId} {v : Value} {xs : List Value} (h : w.ownsRow B e size v n xs) (hb : Below w.heap.size w w') : w'.ownsRow B e size v n xs := by
  obtain ⟨hl, h | ⟨g, cap, cur, hv, hg, hh, h1, h2, h3, ht⟩⟩ := h
  · exact ⟨hl, .inl h⟩
  · exact ⟨hl, .inr ⟨g, cap, cur, hv, hg, (hb.block g (lt_heap hh)).trans hh, h1, h2, h3, ht⟩⟩
theorem turnU_wd {U : UnR} {k : Nat} {va : Option Addr} {vc : Nat} {ga : Option Addr} {gc : Nat} (h : ∀ g ∈ U.gs, Wd g.pos) : ∀ g ∈ (turnU U k va vc ga gc).gs, Wd g.pos := fun g hg => by
  obtain ⟨g', hg', rfl⟩ := List.mem_map.1 hg
  exact h g' hg'
theorem turnU_box (U : UnR) {k : Nat} (hk : k ≤ U.fs.length) (va : Option Addr) (vc : Nat) (ga : Option Addr) (gc : Nat) : unO (turnU U k va vc ga gc) = .cells #[.slice va U.fs.length vc, .slice ga U.gs.length gc, .int .i64 U.top] 25 := by
  have h1 := turnU_len U hk va vc ga gc
  have h2 : (turnU U k va vc ga gc).gs.length = U.gs.length := List.length_map _
  show Obj.cells #[.slice va (turnU U k va vc ga gc).fs.length vc, .slice ga (turnU U k va vc ga gc).gs.length gc, .int .i64 U.top] 25 = _
  rw [h1, h2]
theorem names_glob {U : UnR} (h : fewB U.un = true) : (∀ g ∈ U.gs, g.name.length ≤ 50) ∧ U.gs.length ≤ 10 ∧ U.fs.length ≤ 6 := by
  unfold fewB at h
  simp only [Bool.and_eq_true, decide_eq_true_eq, List.all_eq_true] at h
  obtain ⟨⟨⟨h1, h2⟩, h3⟩, h4⟩ := h
  exact ⟨h4, h2, by have : U.un.funcs.length ≤ 6 := h1; unfold UnR.un UnR.fns at this; simpa using this⟩
set_option maxRecDepth 100000 in
set_option maxHeartbeats 8000000 in
theorem order_no (U : UnR) (by_ : Int) (ia : Option Addr) (inp : List UInt8) (ic : Nat) (fuel : Int) (W : World) (hU : UnAt W W.heap.size U) (hf : fewB U.un = false) : Calls Try.prog 5 #[unV U, .int .u8 by_, .slice ia inp.length ic, .int .i64 fuel] W (RPost (.bool true) W) := by
  have HU := Lib.hid hU; have HF := Lib.hid hf
  have HW0 := Lib.hid ((Below.refl _ W).alloc (Nat.le_refl _) (unO U))
  clear hU hf
  go_enter Try.func5, Try.ntmps5
  go_wp2_with (first | ((with_reducible refine (few_any U false W.heap.size _ (HU.out.below HW0.out) (by simp) HF.out).mono ?_); rintro e w1 ⟨rfl, hb1⟩; have HB1 := Lib.hid (HW0.out.trans (hb1.mono (by simp))); have G1 := Lib.hid ((hb1.block W.heap.size (by simp)).trans (heap_alloc_new W (unO U))); obtain ⟨d0, d1, d2⟩ := nv3 G1.out; clear hb1) | ((with_reducible refine (awake7_any _).mono ?_); rintro e wv ⟨rfl, hbv⟩; have HBV := Lib.hid hbv; clear hbv))
  go_ret
  exact ⟨rfl, HB1.out.trans (HBV.out.mono HB1.out.size)⟩
set_option maxRecDepth 100000 in
set_option maxHeartbeats 8000000 in
theorem order_long (U : UnR) (by_ : Int) (ia : Option Addr) (inp : List UInt8) (ic : Nat) (fuel : Int) (W : World) (hU : UnAt W W.heap.size U) (hf : fewB U.un = true) (h1 : 200 < inp.length) : Calls Try.prog 5 #[unV U, .int .u8 by_, .slice ia inp.length ic, .int .i64 fuel] W (RPost (.bool true) W) := by
  have HU := Lib.hid hU; have HF := Lib.hid hf
  have HW0 := Lib.hid ((Below.refl _ W).alloc (Nat.le_refl _) (unO U))
  have t2 : decide ((inp.length : Int) > 200) = true := by rw [decide_eq_true_eq]; omega
  have t3 : decide ((200 : Int) < (inp.length : Int)) = true := t2
  clear hU hf h1
  go_enter Try.func5, Try.ntmps5
  go_wp2_with (first | ((with_reducible refine (few_any U true W.heap.size _ (HU.out.below HW0.out) (by simp) HF.out).mono ?_); rintro e w1 ⟨rfl, hb1⟩; have HB1 := Lib.hid (HW0.out.trans (hb1.mono (by simp))); have G1 := Lib.hid ((hb1.block W.heap.size (by simp)).trans (heap_alloc_new W (unO U))); obtain ⟨d0, d1, d2⟩ := nv3 G1.out; clear hb1) | ((with_reducible refine (awake7_any _).mono ?_); rintro e wv ⟨rfl, hbv⟩; have HBV := Lib.hid hbv; clear hbv))
  go_ret
  exact ⟨rfl, HB1.out.trans (HBV.out.mono HB1.out.size)⟩
set_option maxRecDepth 100000 in
set_option maxHeartbeats 8000000 in
theorem order_much (U : UnR) (by_ : Int) (ia : Option Addr) (inp : List UInt8) (ic : Nat) (fuel : Int) (W : World) (hU : UnAt W W.heap.size U) (hf : fewB U.un = true) (h1 : inp.length ≤ 200) (h3 : 5000 < fuel) : Calls Try.prog 5 #[unV U, .int .u8 by_, .slice ia inp.length ic, .int .i64 fuel] W (RPost (.bool true) W) := by
  have HU := Lib.hid hU; have HF := Lib.hid hf
  have HW0 := Lib.hid ((Below.refl _ W).alloc (Nat.le_refl _) (unO U))
  have t2 : decide ((inp.length : Int) > 200) = false := by rw [decide_eq_false_iff_not]; omega
  have t3 : decide ((200 : Int) < (inp.length : Int)) = false := t2
  have t5 : decide (fuel > (5000 : Int)) = true := by rw [decide_eq_true_eq]; omega
  have t6 : decide ((5000 : Int) < fuel) = true := t5
  clear hU hf h1 h3
  go_enter Try.func5, Try.ntmps5
  go_wp2_with (first | ((with_reducible refine (few_any U true W.heap.size _ (HU.out.below HW0.out) (by simp) HF.out).mono ?_); rintro e w1 ⟨rfl, hb1⟩; have HB1 := Lib.hid (HW0.out.trans (hb1.mono (by simp))); have G1 := Lib.hid ((hb1.block W.heap.size (by simp)).trans (heap_alloc_new W (unO U))); obtain ⟨d0, d1, d2⟩ := nv3 G1.out; clear hb1) | ((with_reducible refine (awake7_any _).mono ?_); rintro e wv ⟨rfl, hbv⟩; have HBV := Lib.hid hbv; clear hbv))
  go_ret
  exact ⟨rfl, HB1.out.trans (HBV.out.mono HB1.out.size)⟩
set_option maxRecDepth 100000 in
set_option maxHeartbeats 16000000 in
theorem order_go (U : UnR) (by_ : Int) (ia : Option Addr) (inp : List UInt8) (ic : Nat) (fuel : Int) (W : World) (hU : UnAt W W.heap.size U) (hby : 0 ≤ by_ ∧ by_ ≤ 255) (hin : CIn W (.slice ia inp.length ic) inp) (hWd : ∀ g ∈ U.gs, Wd g.pos) (hfc : U.fs.length ≤ U.fc ∧ U.fc ≤ maxLen ∧ (U.fa = none → U.fc = 0)) (hf : fewB U.un = true) (h1 : inp.length ≤ 200) (h3 : fuel ≤ 5000) : Calls Try.prog 5 #[unV U, .int .u8 by_, .slice ia inp.length ic, .int .i64 fuel] W (RPost (.bool true) W) := by
  have hmix : Try.prog.follows .mixedOrders = true := by kernel_rfl
  obtain ⟨hN, hL⟩ := namesF_few hf
  obtain ⟨hgn, hgl, hfl⟩ := names_glob hf
  have HU := Lib.hid hU; have HF := Lib.hid hf
  have HW0 := Lib.hid ((Below.refl _ W).alloc (Nat.le_refl _) (unO U))
  have t2 : decide ((inp.length : Int) > 200) = false := by rw [decide_eq_false_iff_not]; omega
  have t3 : decide ((200 : Int) < (inp.length : Int)) = false := t2
  have t5 : decide (fuel > (5000 : Int)) = false := by rw [decide_eq_false_iff_not]; omega
  have t6 : decide ((5000 : Int) < fuel) = false := t5
  have HN := Lib.hid hN; have HL := Lib.hid hL; have HWD := Lib.hid hWd; have HIN := Lib.hid hin; have HGN := Lib.hid hgn; have HFC := Lib.hid hfc
  obtain ⟨i0u, hi0, hz0, hz1, hz2⟩ := info_parts infoGl
  obtain ⟨by0, by1⟩ := hby
  clear hU hf h1 h3 hN hL hWd hin hgn hfc
  go_enter Try.func5, Try.ntmps5
  go_wp2_with ((with_reducible refine (few_any U true W.heap.size _ (HU.out.below HW0.out) (by simp) HF.out).mono ?_); rintro e w1 ⟨rfl, hb1⟩; have HB1 := Lib.hid (HW0.out.trans (hb1.mono (by simp))); have G1 := Lib.hid ((hb1.block W.heap.size (by simp)).trans (heap_alloc_new W (unO U))); obtain ⟨d0, d1, d2⟩ := nv3 G1.out; have hq1 : W.heap.size < w1.heap.size := lt_heap G1.out; clear hb1)
  go_loopw [31] (fun s31 wr => ∃ (k : Nat) (gv : Value), k ≤ U.gs.length ∧ s31 = .int .i64 k ∧ Hid (Below W.heap.size W wr) ∧ Hid (wr.heap[W.heap.size]? = some (unO U)) ∧ Hid (wr.heap[w1.heap.size]? = some (vbO U gv)) ∧ Hid (wr.ownsRow (w1.heap.size + 1) 41 4 gv k (((U.gs.map glX).take k).flatMap glCells))) (fun i wr => U.gs.length - (intOf i).toNat)
  case atStart =>
    refine ⟨0, .slice none 0 0, by omega, rfl, Lib.hid (HB1.out.alloc HB1.out.size _), Lib.hid ((Below.heap_alloc _ _ _ hq1).trans G1.out), Lib.hid (heap_alloc_new w1 _), Lib.hid (World.ownsRow_nil _ _ _ _)⟩
  case round =>
    obtain ⟨k, gv, hk, rfl, HB, HG, HV, HO⟩ := hrel
    have hbx := lt_heap HG.out
    have hvx := lt_heap HV.out
    by_cases hlt : k < U.gs.length
    · obtain ⟨g, hgk⟩ : ∃ g, U.gs[k]? = some g := ⟨_, List.getElem?_eq_getElem hlt⟩
      obtain ⟨gb, off, hga, hgb, hBw, q0, q1, q2, q3⟩ := (HU.out.below HB.out).gl hgk
      have hgX : (U.gs.map glX)[k]? = some (glX g) := by rw [List.getElem?_map, hgk]; rfl
      have HTK : Hid (((U.gs.map glX).take (k + 1)).flatMap glCells = ((U.gs.map glX).take k).flatMap glCells ++ glCells (glX g)) := Lib.hid (by rw [List.take_add_one, hgX]; simp)
      have k0 : (0 : Int) ≤ (k : Int) := Int.natCast_nonneg _
      have k1 : (k : Int) < (U.gs.length : Int) := by omega
      have hix : ∀ W', (Instr.indexAt 23 (.slice U.ga U.gs.length U.gc) (.int .i64 k)).run Try.prog W' = .ok (.pointer (some ⟨gb, off + k * 4, none⟩)) W' := fun W' => by
        rw [hga]
        go_simp
      have hadd := add_x g.name (HGN.out g (List.mem_of_getElem? hgk))
      have hgw : gb < wr.heap.size := by omega
      obtain ⟨gva, gvc, rfl⟩ := row_slice HO.out
      obtain ⟨v0, v1, v2⟩ := nv3 HV.out
      obtain ⟨z0, z1, z2⟩ := frozen7 HV.out
      clear hgk hga hgX
      go_wp2_with ((at_builtin; go_loud (refine wpList_append_lies _ rfl _ _ 23 rfl (w1.heap.size + 1) 41 i0u _ 4 40 Try.underlying23 hi0 hz0 hz1 hz2 rfl (by omega) _ k (((U.gs.map glX).take k).flatMap glCells) rfl (by exact (HO.out.alloc _).alloc _) ⟨wr.heap.size + 1, 0, none⟩ 1 1 (glCells (glX g)) (by rfl) (by rfl) (by have h9 := heap_alloc_new (wr.alloc (glO7 (glX g))) (glO7 (glX g)); rw [World.size_alloc] at h9; exact World.news_of_block h9) (by intro u hu; simp only [glCells, List.mem_cons, List.not_mem_nil, or_false] at hu; rcases hu with rfl | rfl | rfl | rfl <;> simp [Value.oneCell']) (by omega) (by unfold maxLen; omega) (by omega) (by simp; omega) (wr.heap.size + 2) (by simp) ?_); intro g2 cap2 w2 hown hgrow hat hlt2; have ao : (Value.slice gva k gvc).ownBlock ≠ some w1.heap.size := (fun e => by have := HO.out.lt _ e; omega); have ab : (Value.slice gva k gvc).ownBlock ≠ some W.heap.size := (fun e => by have := HO.out.lt _ e; omega); have g9 : w2.heap[w1.heap.size]? = some (vbO U (.slice gva k gvc)) := (hgrow.block _ (by simp; omega) (Ne.symm ao)).trans ((Below.heap_alloc _ _ _ (by simp; omega)).trans ((Below.heap_alloc _ _ _ hvx).trans HV.out)); have gz : w2.heap[W.heap.size]? = some (unO U) := (hgrow.block _ (by simp; omega) (Ne.symm ab)).trans ((Below.heap_alloc _ _ _ (by simp; omega)).trans ((Below.heap_alloc _ _ _ hbx).trans HG.out)); obtain ⟨y0, y1, y2⟩ := nv3 g9; obtain ⟨x0, x1, x2⟩ := frozen7 g9; have HB2 := Lib.hid (((HB.out.alloc HB.out.size _).alloc (by simp; have := HB.out.size; omega) _).grown hgrow (by simp; have := HB.out.size; omega) (fun b e => by have := HO.out.lt _ e; omega)); have G9 := Lib.hid g9; have GZ := Lib.hid gz; have HO2 := Lib.hid hown; clear hown hgrow hat hlt2 g9 gz ao ab))
      go_roundw
      case rel => exact ⟨k + 1, _, by omega, by go_num, Lib.hid (HB2.out.setCell (by simp; omega) _), Lib.hid ((Below.heap_setCell _ _ _ _ (by simp; omega)).trans GZ.out), Lib.hid (cells_set G9.out 1 _), Lib.hid (by rw [HTK.out]; exact ownsRow_setCell_below HO2.out (by simp) _)⟩
      case measure => simp [intOf]; omega
    · obtain rfl : k = U.gs.length := by omega
      obtain ⟨gva, gvc, rfl⟩ := row_slice HO.out
      obtain ⟨v0, v1, v2⟩ := nv3 HV.out
      obtain ⟨z0, z1, z2⟩ := frozen7 HV.out
      obtain ⟨u0, u1, u2⟩ := nv3 HG.out
      clear d0 d1 d2
      obtain ⟨k, hk, hkl⟩ : ∃ k : Nat, by_.tmod ((U.fs.length : Int) + 1) = (k : Int) ∧ k ≤ U.fs.length := by
        refine ⟨(by_.tmod ((U.fs.length : Int) + 1)).toNat, ?_, ?_⟩
        · rw [Int.toNat_of_nonneg (Int.tmod_nonneg _ by0)]
        · have := Int.tmod_lt_of_pos by_ (b := (U.fs.length : Int) + 1) (by omega)
          omega
      have hwu : IntKind.i64.wrap by_ = by_ := by rw [IntKind.wrap_i64]; omega
      have hwl : IntKind.i64.wrap ((U.fs.length : Int) + 1) = (U.fs.length : Int) + 1 := by rw [IntKind.wrap_i64]; omega
      have hwk : IntKind.i64.wrap (k : Int) = (k : Int) := by rw [IntKind.wrap_i64]; omega
      have hnz : ((U.fs.length : Int) + 1) ≠ 0 := by omega
      obtain ⟨sv, hsv⟩ : ∃ sv, sliced U.fa k U.fs.length U.fc 5 = sv := ⟨_, rfl⟩
      have hsA : ∀ W', (Instr.sliceAt 22 (.slice U.fa U.fs.length U.fc) (some (.int .i64 k)) none none).run Try.prog W' = .ok sv W' := fun W' => by
        rw [slice_from Try.underlying22 size_fn hkl HFC.out.1 HFC.out.2.1 W', hsv]
      have hsB : ∀ W', (Instr.sliceAt 22 (.slice U.fa U.fs.length U.fc) none (some (.int .i64 k)) none).run Try.prog W' = .ok (.slice U.fa k U.fc) W' := fun W' =>
        slice_toG Try.underlying22 size_fn (Nat.le_trans hkl HFC.out.1) HFC.out.2.1 W'
      have HS1 := Lib.hid (src_drop (HU.out.below HB.out) HFC.out.1 HFC.out.2.2 hkl)
      rw [hsv] at HS1
      have HS2 := Lib.hid (src_take (HU.out.below HB.out) HFC.out.1 HFC.out.2.2 hkl)
      clear hsv
      have hSg : ∀ {w' : World}, Below wr.heap.size wr w' → (fun w' : World => w'.cell? ⟨W.heap.size, 0, none⟩ = some (.slice U.fa U.fs.length U.fc)) w' := fun h => (nv3 ((h.block _ hbx).trans HG.out)).1
      have Hw0 := Lib.hid (drW (Below.refl wr.heap.size wr))
      go_wp2
      refine region_lastS (fun w' : World => w'.cell? ⟨W.heap.size, 0, none⟩ = some (.slice U.fa U.fs.length U.fc)) 1000000 hmix (hSg Hw0.out) (fun hS => ?main)
      refine anyL_takeH (i := 1) (v := ?_) rfl (by decide) (by kernel_rfl) (by kernel_rfl) (by kernel_rfl) (fun _ _ _ h => h) (Or.inl ⟨by rfl, ?_⟩) hS ?_
      rotate_left
      · (intro w' hSw; go_simp; first | done | with_reducible rfl)
      simp only [Act.put, List.getElem_toArray, List.getElem_cons_succ, List.getElem_cons_zero, List.setIfInBounds_toArray, List.set_cons_succ, List.set_cons_zero]
      refine anyL_takeH (i := 2) (v := ?_) rfl (by decide) (by kernel_rfl) (by kernel_rfl) (by kernel_rfl) (fun _ _ _ h => h) (Or.inl ⟨by rfl, ?_⟩) hS ?_
      rotate_left
      · (intro w' hSw; go_simp; first | done | with_reducible rfl)
      simp only [Act.put, List.getElem_toArray, List.getElem_cons_succ, List.getElem_cons_zero, List.setIfInBounds_toArray, List.set_cons_succ, List.set_cons_zero]
      refine anyL_takeH (i := 3) (v := ?_) rfl (by decide) (by kernel_rfl) (by kernel_rfl) (by kernel_rfl) (fun _ _ _ h => h) (Or.inl ⟨by rfl, ?_⟩) hS ?_
      rotate_left
      · (intro w' hSw; go_simp; first | done | with_reducible rfl)
      simp only [Act.put, List.getElem_toArray, List.getElem_cons_succ, List.getElem_cons_zero, List.setIfInBounds_toArray, List.set_cons_succ, List.set_cons_zero]
      refine anyL_takeH (i := 4) (v := ?_) rfl (by decide) (by kernel_rfl) (by kernel_rfl) (by kernel_rfl) (fun _ _ _ h => h) (Or.inl ⟨by rfl, ?_⟩) hS ?_
      rotate_left
      · (intro w' hSw; go_simp; first | done | with_reducible rfl)
      simp only [Act.put, List.getElem_toArray, List.getElem_cons_succ, List.getElem_cons_zero, List.setIfInBounds_toArray, List.set_cons_succ, List.set_cons_zero]
      refine anyL_takeH (i := 6) (v := ?_) rfl (by decide) (by kernel_rfl) (by kernel_rfl) (by kernel_rfl) (fun _ _ _ h => h) (Or.inl ⟨by rfl, ?_⟩) hS ?_
      rotate_left
      · (intro w' hSw; go_simp; first | done | with_reducible rfl)
      simp only [Act.put, List.getElem_toArray, List.getElem_cons_succ, List.getElem_cons_zero, List.setIfInBounds_toArray, List.set_cons_succ, List.set_cons_zero]
      refine anyL_takeH (i := 7) (v := ?_) rfl (by decide) (by kernel_rfl) (by kernel_rfl) (by kernel_rfl) (fun _ _ _ h => h) (Or.inl ⟨by rfl, ?_⟩) hS ?_
      rotate_left
      · (intro w' hSw; go_simp; first | done | with_reducible rfl)
      simp only [Act.put, List.getElem_toArray, List.getElem_cons_succ, List.getElem_cons_zero, List.setIfInBounds_toArray, List.set_cons_succ, List.set_cons_zero]
      refine anyL_takeH (i := 8) (v := ?_) rfl (by decide) (by kernel_rfl) (by kernel_rfl) (by kernel_rfl) (fun _ _ _ h => h) (Or.inl ⟨by rfl, ?_⟩) hS ?_
      rotate_left
      · (intro w' hSw; go_simp; first | done | with_reducible rfl)
      simp only [Act.put, List.getElem_toArray, List.getElem_cons_succ, List.getElem_cons_zero, List.setIfInBounds_toArray, List.set_cons_succ, List.set_cons_zero]
      refine anyL_takeH (i := 9) (v := ?_) rfl (by decide) (by kernel_rfl) (by kernel_rfl) (by kernel_rfl) (fun _ _ _ h => h) (Or.inl ⟨by rfl, ?_⟩) hS ?_
      rotate_left
      · (intro w' hSw; go_simp; first | done | with_reducible rfl)
      simp only [Act.put, List.getElem_toArray, List.getElem_cons_succ, List.getElem_cons_zero, List.setIfInBounds_toArray, List.set_cons_succ, List.set_cons_zero]
      refine anyL_one (i := 0) (by kernel_rfl) rfl (fun K1 hK1 => ?_)
      go_simp
      have HA := Lib.hid (drW ((Below.refl wr.heap.size wr).alloc (Nat.le_refl _) (.cells #[] 30)))
      have hownA : ((wr.alloc (.cells #[] 30)).drew).ownsRow wr.heap.size 30 5 (.slice (some ⟨wr.heap.size, 0, none⟩) 0 0) 0 [] := ⟨rfl, .inr ⟨wr.heap.size, 0, #[], rfl, Nat.le_refl _, heap_alloc_new wr _, Nat.le_refl _, by unfold maxLen; omega, rfl, rfl⟩⟩
      refine hK1.out _ _ (fun _ => hSg HA.out) ?_
      clear hK1 K1
      obtain ⟨f0u, hf0, hy0, hy1, hy2⟩ := info_parts infoFn
      refine anyL_one (i := 5) (by kernel_rfl) rfl (fun K1 hK1 => ?_)
      refine step_append_any (by rfl) _ _ 22 (by rfl) wr.heap.size 30 f0u _ 5 64 Try.underlying22 hf0 hy0 hy1 hy2 rfl (by omega) _ 0 _ (by rfl) hownA _ _ _ (by rfl) (HS1.out.below HA.out) fn_one (by unfold maxLen; omega) (by omega) (HA.out.size) ?_
      intro v5 w5 hown5 hgrow5 _
      have H5 := Lib.hid (HA.out.grown hgrow5 HA.out.size (fun b e => (hownA.lt b e).1))
      clear hgrow5 hownA
      refine hK1.out _ _ (fun _ => hSg H5.out) ?_
      clear hK1 K1
      refine anyL_one (i := 10) (by kernel_rfl) rfl (fun K1 hK1 => ?_)
      refine step_append_any (by rfl) _ _ 22 (by rfl) wr.heap.size 30 f0u _ 5 64 Try.underlying22 hf0 hy0 hy1 hy2 rfl (by omega) _ (0 + (U.fs.length - k)) _ (by rfl) hown5 _ _ _ (by rfl) (HS2.out.below H5.out) fn_one (by unfold maxLen; omega) (by omega) (H5.out.size) ?_
      intro v10 w10 hown10 hgrow10 _
      have H10 := Lib.hid (H5.out.grown hgrow10 H5.out.size (fun b e => (hown5.lt b e).1))
      clear hgrow10 hown5
      have hS10 := hSg H10.out
      refine hK1.out _ _ (fun _ => hS10) ?_
      clear hK1 K1 hS
      have hS := hS10
      rw [show 0 + (U.fs.length - k) + k = U.fs.length by omega, List.nil_append, ← List.flatMap_append] at hown10
      obtain ⟨va, vc, rfl⟩ := row_slice hown10
      have HF10 := Lib.hid hown10
      have g10 : w10.heap[w1.heap.size]? = some (vbO U (.slice gva U.gs.length gvc)) := (H10.out.block _ hvx).trans HV.out
      have G10 := Lib.hid g10
      obtain ⟨y0, y1, y2⟩ := nv3 g10
      obtain ⟨x0, x1, x2⟩ := frozen7 g10
      clear g10 hown10
      refine anyL_takeH (i := 11) (v := ?_) rfl (by decide) (by kernel_rfl) (by kernel_rfl) (by kernel_rfl) (fun _ _ _ h => h) (Or.inl ⟨by rfl, ?_⟩) hS ?_
      rotate_left
      · (intro w' hSw; go_simp; first | done | with_reducible rfl)
      simp only [Act.put, List.getElem_toArray, List.getElem_cons_succ, List.getElem_cons_zero, List.setIfInBounds_toArray, List.set_cons_succ, List.set_cons_zero]
      refine anyL_one (i := 12) (by kernel_rfl) rfl (fun K1 hK1 => ?_)
      go_simp
      obtain ⟨wz, hwz⟩ : ∃ wz, wz = w10.setCell ⟨w1.heap.size, 0, none⟩ (.slice va U.fs.length vc) := ⟨_, rfl⟩
      have HBz := Lib.hid (show Below W.heap.size W wz by rw [hwz]; exact (HB.out.trans (H10.out.mono HB.out.size)).setCell (by simp; omega) _)
      have HGz := Lib.hid (show wz.heap[W.heap.size]? = some (unO U) by rw [hwz]; exact (Below.heap_setCell _ _ _ _ (by simp; omega)).trans ((H10.out.block _ hbx).trans HG.out))
      have HVz := Lib.hid (show wz.heap[w1.heap.size]? = some (.cells #[.slice va U.fs.length vc, .slice gva U.gs.length gvc, .int .i64 U.top] 25) by rw [hwz]; exact cells_set G10.out 0 _)
      have HFz := Lib.hid (show wz.ownsRow wr.heap.size 30 5 (.slice va U.fs.length vc) U.fs.length ((U.fs.drop k ++ U.fs.take k).flatMap fnCells) by rw [hwz]; exact ownsRow_setCell_below HF10.out (by simp; omega) _)
      have HOz := Lib.hid (show wz.ownsRow (w1.heap.size + 1) 41 4 (.slice gva U.gs.length gvc) U.gs.length ((U.gs.map glX).flatMap glCells) by rw [hwz]; have h := own_below HO.out H10.out; rw [List.take_of_length_le (l := U.gs.map glX) (i := U.gs.length) (Nat.le_of_eq (List.length_map _))] at h; exact ownsRow_setCell_below h (by simp) _)
      rw [← hwz]
      refine hK1.out _ _ (fun _ => (nv3 HGz.out).1) ?_
      clear hK1 K1 hS hwz
      refine anyL_done (by kernel_rfl) ?_ _
      have hqz : w1.heap.size ≠ W.heap.size := by omega
      obtain ⟨V, hVat, hVbox, hVT, hVN, hVL, hVW⟩ : ∃ V : UnR, UnAt wz wz.heap.size V ∧ wz.heap[w1.heap.size]? = some (unO V) ∧ Turned U.un V.un ∧ Names V ∧ V.fs.length ≤ 1000 ∧ (∀ g ∈ V.gs, Wd g.pos) := ⟨turnU U k va vc gva gvc, turnU_at hkl HU.out HBz.out HFz.out HOz.out, by rw [turnU_box U hkl]; exact HVz.out, turnU_turned .., fun r hr => HN.out r (turnU_mem hr), by rw [turnU_len U hkl]; exact HL.out, turnU_wd HWD.out⟩
      obtain ⟨x, hx⟩ : ∃ x, runU U.un inp fuel = x := ⟨_, rfl⟩
      have hxV : runU V.un inp fuel = x := by rw [← hx]; exact (runU_turned hVT inp fuel).symm
      obtain ⟨X, hX⟩ : ∃ b, rightU U.un = b := ⟨_, rfl⟩
      have hXV : rightU V.un = X := by rw [← hX]; exact (hVT.right).symm
      have HVA := Lib.hid hVat; have HVB := Lib.hid hVbox; have HVN := Lib.hid hVN; have HVW := Lib.hid hVW; have HVL := Lib.hid hVL
      clear hVat hVbox hVT hVN hVW hVL y0 y1 y2 x0 x1 x2 v0 v1 v2 z0 z1 z2 u0 u1 u2 hSg hsA hsB HS1 HS2 HVz HFz HOz HF10 G10 Hw0 HA H5 H10
      have hbz := lt_heap HGz.out
      have hvz := lt_heap HVB.out
      have hSg : ∀ {w' : World}, Below wz.heap.size wz w' → (fun w' : World => (w'.cell? ⟨W.heap.size, 0, none⟩ = some (.slice U.fa U.fs.length U.fc) ∧ w'.cell? ⟨W.heap.size, 1, none⟩ = some (.slice U.ga U.gs.length U.gc) ∧ w'.cell? ⟨W.heap.size, 2, none⟩ = some (.int .i64 U.top)) ∧ (w'.cell? ⟨w1.heap.size, 0, none⟩ = some (.slice V.fa V.fs.length V.fc) ∧ w'.cell? ⟨w1.heap.size, 1, none⟩ = some (.slice V.ga V.gs.length V.gc) ∧ w'.cell? ⟨w1.heap.size, 2, none⟩ = some (.int .i64 V.top))) w' := fun h => ⟨nv3 ((h.block _ hbz).trans HGz.out), nv3 ((h.block _ hvz).trans HVB.out)⟩
      have hup : ∀ {w' : World}, Below wz.heap.size wz w' → Below W.heap.size W w' := fun h => HBz.out.trans (h.mono HBz.out.size)
      have ra := run_on HU.out HIN.out HN.out HL.out HWD.out HBz.out hx
      have rb : ∀ w', Below wz.heap.size wz w' → Calls Try.prog 15 #[unV V, .slice ia inp.length ic, .int .i64 fuel] w' (RunPost x w') := fun w' h => crun_v V ia inp inp.length ic fuel wz.heap.size w' (HVA.out.below h) h.size HVN.out HVW.out HVL.out rfl (HIN.out.up (hup h)) x hxV
      have ca := fun (w' : World) (h : Below wz.heap.size wz w') => right_cb U W.heap.size X w' (HU.out.below (hup h)) (hup h).size HN.out HWD.out hX
      have cb := fun (w' : World) (h : Below wz.heap.size wz w') => right_cb V wz.heap.size X w' (HVA.out.below h) h.size HVN.out HVW.out hXV
      have Hw0 := Lib.hid (drW (Below.refl wz.heap.size wz))
      go_wp2
      refine region_lastS (fun w' : World => (w'.cell? ⟨W.heap.size, 0, none⟩ = some (.slice U.fa U.fs.length U.fc) ∧ w'.cell? ⟨W.heap.size, 1, none⟩ = some (.slice U.ga U.gs.length U.gc) ∧ w'.cell? ⟨W.heap.size, 2, none⟩ = some (.int .i64 U.top)) ∧ (w'.cell? ⟨w1.heap.size, 0, none⟩ = some (.slice V.fa V.fs.length V.fc) ∧ w'.cell? ⟨w1.heap.size, 1, none⟩ = some (.slice V.ga V.gs.length V.gc) ∧ w'.cell? ⟨w1.heap.size, 2, none⟩ = some (.int .i64 V.top))) 1000000 hmix (hSg Hw0.out) (fun hS => ?main2)
      refine anyL_takeH (i := 0) (v := ?_) rfl (by decide) (by kernel_rfl) (by kernel_rfl) (by kernel_rfl) (fun _ _ _ h => h) (Or.inl ⟨by rfl, ?_⟩) hS ?_
      rotate_left
      · (intro w' hSw; obtain ⟨⟨k0, k1, k2⟩, l0, l1, l2⟩ := hSw; go_simp; first | done | with_reducible rfl)
      simp only [Act.put, List.getElem_toArray, List.getElem_cons_succ, List.getElem_cons_zero, List.setIfInBounds_toArray, List.set_cons_succ, List.set_cons_zero]
      refine anyL_takeH (i := 2) (v := ?_) rfl (by decide) (by kernel_rfl) (by kernel_rfl) (by kernel_rfl) (fun _ _ _ h => h) (Or.inl ⟨by rfl, ?_⟩) hS ?_
      rotate_left
      · (intro w' hSw; obtain ⟨⟨k0, k1, k2⟩, l0, l1, l2⟩ := hSw; go_simp; first | done | with_reducible rfl)
      simp only [Act.put, List.getElem_toArray, List.getElem_cons_succ, List.getElem_cons_zero, List.setIfInBounds_toArray, List.set_cons_succ, List.set_cons_zero]
      refine anyL_one (i := 1) (by kernel_rfl) rfl (fun K1 hK1 => ?_)
      go_simp
      refine (ca _ Hw0.out).mono ?_
      rintro e wq1 ⟨rfl, hb1⟩
      have Hv1 := Lib.hid (Hw0.out.trans (hb1.mono Hw0.out.size)); clear hb1
      refine hK1.out _ _ (fun _ => hSg Hv1.out) ?_
      clear hK1 K1 hS
      have hS := hSg Hv1.out
      refine anyL_one (i := 3) (by kernel_rfl) rfl (fun K1 hK1 => ?_)
      go_simp
      refine (cb _ Hv1.out).mono ?_
      rintro e wq3 ⟨rfl, hb3⟩
      have Hv3 := Lib.hid (Hv1.out.trans (hb3.mono Hv1.out.size)); clear hb3
      refine hK1.out _ _ (fun _ => hSg Hv3.out) ?_
      clear hK1 K1 hS
      have hS := hSg Hv3.out
      refine anyL_one (i := 4) (by kernel_rfl) rfl (fun K1 hK1 => ?_)
      go_simp
      refine hK1.out _ _ (fun _ => hSg Hv3.out) ?_
      clear hK1 K1
      refine anyL_one (i := 5) (by kernel_rfl) rfl (fun K1 hK1 => ?_)
      go_simp
      refine hK1.out _ _ (fun _ => hSg Hv3.out) ?_
      clear hK1 K1
      refine anyL_takeH (i := 6) (v := ?_) rfl (by decide) (by kernel_rfl) (by kernel_rfl) (by kernel_rfl) (fun _ _ _ h => h) (Or.inl ⟨by rfl, ?_⟩) hS ?_
      rotate_left
      · (intro w' hSw; obtain ⟨⟨k0, k1, k2⟩, l0, l1, l2⟩ := hSw; go_simp; first | done | with_reducible rfl)
      simp only [Act.put, List.getElem_toArray, List.getElem_cons_succ, List.getElem_cons_zero, List.setIfInBounds_toArray, List.set_cons_succ, List.set_cons_zero]
      refine anyL_takeH (i := 7) (v := ?_) rfl (by decide) (by kernel_rfl) (by kernel_rfl) (by kernel_rfl) (fun _ _ _ h => h) (Or.inl ⟨by rfl, ?_⟩) hS ?_
      rotate_left
      · (intro w' hSw; obtain ⟨⟨k0, k1, k2⟩, l0, l1, l2⟩ := hSw; go_simp; first | done | with_reducible rfl)
      simp only [Act.put, List.getElem_toArray, List.getElem_cons_succ, List.getElem_cons_zero, List.setIfInBounds_toArray, List.set_cons_succ, List.set_cons_zero]
      refine anyL_takeH (i := 8) (v := ?_) rfl (by decide) (by kernel_rfl) (by kernel_rfl) (by kernel_rfl) (fun _ _ _ h => h) (Or.inl ⟨by rfl, ?_⟩) hS ?_
      rotate_left
      · (intro w' hSw; obtain ⟨⟨k0, k1, k2⟩, l0, l1, l2⟩ := hSw; go_simp; first | done | with_reducible rfl)
      simp only [Act.put, List.getElem_toArray, List.getElem_cons_succ, List.getElem_cons_zero, List.setIfInBounds_toArray, List.set_cons_succ, List.set_cons_zero]
      refine anyL_takeH (i := 10) (v := ?_) rfl (by decide) (by kernel_rfl) (by kernel_rfl) (by kernel_rfl) (fun _ _ _ h => h) (Or.inl ⟨by rfl, ?_⟩) hS ?_
      rotate_left
      · (intro w' hSw; obtain ⟨⟨k0, k1, k2⟩, l0, l1, l2⟩ := hSw; go_simp; first | done | with_reducible rfl)
      simp only [Act.put, List.getElem_toArray, List.getElem_cons_succ, List.getElem_cons_zero, List.setIfInBounds_toArray, List.set_cons_succ, List.set_cons_zero]
      refine anyL_takeH (i := 11) (v := ?_) rfl (by decide) (by kernel_rfl) (by kernel_rfl) (by kernel_rfl) (fun _ _ _ h => h) (Or.inl ⟨by rfl, ?_⟩) hS ?_
      rotate_left
      · (intro w' hSw; obtain ⟨⟨k0, k1, k2⟩, l0, l1, l2⟩ := hSw; go_simp; first | done | with_reducible rfl)
      simp only [Act.put, List.getElem_toArray, List.getElem_cons_succ, List.getElem_cons_zero, List.setIfInBounds_toArray, List.set_cons_succ, List.set_cons_zero]
      refine anyL_takeH (i := 12) (v := ?_) rfl (by decide) (by kernel_rfl) (by kernel_rfl) (by kernel_rfl) (fun _ _ _ h => h) (Or.inl ⟨by rfl, ?_⟩) hS ?_
      rotate_left
      · (intro w' hSw; obtain ⟨⟨k0, k1, k2⟩, l0, l1, l2⟩ := hSw; go_simp; first | done | with_reducible rfl)
      simp only [Act.put, List.getElem_toArray, List.getElem_cons_succ, List.getElem_cons_zero, List.setIfInBounds_toArray, List.set_cons_succ, List.set_cons_zero]
      refine anyL_one (i := 9) (by kernel_rfl) rfl (fun K1 hK1 => ?_)
      go_simp
      refine (ra _ Hv3.out).mono ?_
      rintro e v9 ⟨xa, xc, rfl, hox, hb9⟩
      have Hv9 := Lib.hid (Hv3.out.trans (hb9.mono Hv3.out.size)); have HX9 := Lib.hid (bytes_of_own hox); have hlx : x.out.length ≤ maxLen := Nat.le_trans (own_cap hox).1 (own_cap hox).2; clear hox hb9
      refine hK1.out _ _ (fun _ => hSg Hv9.out) ?_
      clear hK1 K1 hS
      have hS := hSg Hv9.out
      refine anyL_one (i := 13) (by kernel_rfl) rfl (fun K1 hK1 => ?_)
      go_simp
      refine (rb _ Hv9.out).mono ?_
      rintro e v13 ⟨ya, yc, rfl, hoy, hb13⟩
      have Hv13 := Lib.hid (Hv9.out.trans (hb13.mono Hv9.out.size)); have HX13 := Lib.hid (HX9.out.below hb13); have HY13 := Lib.hid (bytes_of_own hoy); clear hoy hb13
      refine hK1.out _ _ (fun _ => hSg Hv13.out) ?_
      clear hK1 K1 hS
      have hS := hSg Hv13.out
      refine anyL_one (i := 14) (by kernel_rfl) rfl (fun K1 hK1 => ?_)
      go_simp
      refine (result_v x x xa ya xc yc true _ HX13.out HY13.out hlx hlx (sameR_refl x)).mono ?_
      rintro e v14 ⟨rfl, hb14⟩
      have Hv14 := Lib.hid (Hv13.out.trans (hb14.mono Hv13.out.size)); clear hb14
      refine hK1.out _ _ (fun _ => hSg Hv14.out) ?_
      clear hK1 K1 hS
      have hS := hSg Hv14.out
      refine anyL_one (i := 15) (by kernel_rfl) rfl (fun K1 hK1 => ?_)
      go_simp
      refine hK1.out _ _ (fun _ => hSg Hv14.out) ?_
      clear hK1 K1
      refine anyL_one (i := 16) (by kernel_rfl) rfl (fun K1 hK1 => ?_)
      go_simp
      refine hK1.out _ _ (fun _ => hSg Hv14.out) ?_
      clear hK1 K1
      refine anyL_one (i := 17) (by kernel_rfl) rfl (fun K1 hK1 => ?_)
      go_simp
      refine (awake7_any v14).mono ?_
      rintro e v17 ⟨rfl, hb17⟩
      have Hv17 := Lib.hid (Hv14.out.trans (hb17.mono Hv14.out.size)); clear hb17
      refine hK1.out _ _ (fun _ => hSg Hv17.out) ?_
      clear hK1 K1 hS
      have hS := hSg Hv17.out
      refine anyL_one (i := 18) (by kernel_rfl) rfl (fun K1 hK1 => ?_)
      go_simp
      refine hK1.out _ _ (fun _ => hSg Hv17.out) ?_
      clear hK1 K1
      refine anyL_one (i := 19) (by kernel_rfl) rfl (fun K1 hK1 => ?_)
      go_simp
      refine hK1.out _ _ (fun _ => hSg Hv17.out) ?_
      clear hK1 K1
      refine anyL_done (by kernel_rfl) ?_ _
      clear ra rb ca cb hSg hS
      go_wp2
      go_ret
      exact ⟨rfl, hup Hv17.out⟩
theorem order_any (U : UnR) (by_ : Int) (ia : Option Addr) (inp : List UInt8) (ic : Nat) (fuel : Int) (W : World) (hU : UnAt W W.heap.size U) (hby : 0 ≤ by_ ∧ by_ ≤ 255) (hin : CIn W (.slice ia inp.length ic) inp) (hWd : ∀ g ∈ U.gs, Wd g.pos) (hfc : U.fs.length ≤ U.fc ∧ U.fc ≤ maxLen ∧ (U.fa = none → U.fc = 0)) : Calls Try.prog 5 #[unV U, .int .u8 by_, .slice ia inp.length ic, .int .i64 fuel] W (RPost (.bool true) W) := by
  cases hf : fewB U.un with
  | false => exact order_no U by_ ia inp ic fuel W hU hf
  | true =>
    by_cases h1 : inp.length ≤ 200
    rotate_left
    · exact order_long U by_ ia inp ic fuel W hU hf (by omega)
    by_cases h3 : fuel ≤ 5000
    rotate_left
    · exact order_much U by_ ia inp ic fuel W hU hf h1 (by omega)
    exact order_go U by_ ia inp ic fuel W hU hby hin hWd hfc hf h1 h3
end Go.Proofs.Ytmcpfjhdeplgmaa
