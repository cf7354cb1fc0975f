/-
  Contract of doppelref10's Ahead.
  Contracts of doppelref10's Behind and Pure.
-/
import Derived.Test.YtpajndeongcjbaaQLA
import Derived.Test.YtpajndeongcjbaaQLG
import Derived.Lib.QuietBelow
namespace Go.Proofs.Ytpajndeongcjbaa
set_option maxRecDepth 100000
open Go.RowKit Cd
set_option linter.unusedVariables false
set_option linter.unusedSimpArgs false

theorem uses_c (x : Ins) (us : List Int) (hus : uses x = us) (w : World) :
    Calls Try.prog 35 #[inV x] w fun e w' => ∃ (a : Option Addr) (c : Nat), e = .returned (.slice a us.length c) ∧ IntsAt w' a us ∧ Below w.heap.size w w' := by
  subst hus
  refine (uses_any x w).mono ?_
  rintro e w' ⟨v, rfl, ho, hb⟩
  obtain ⟨a, c, rfl⟩ := row_slice ho
  exact ⟨a, c, rfl, IntsAt.of_own ho, hb⟩
theorem own_one (w : World) (o : Obj) (x : Int) : ((w.alloc o).alloc (.cells #[.int .i64 x] 3)).ownsRow (w.heap.size + 1) 3 1 (.slice (some ⟨w.heap.size + 1, 0, none⟩) 1 1) 1 ([x].map (Value.int .i64)) := by
  refine ⟨rfl, .inr ⟨w.heap.size + 1, 1, #[.int .i64 x], rfl, by omega, ?_, Nat.le_refl _, by unfold maxLen; omega, rfl, rfl⟩⟩
  have := heap_alloc_new (w.alloc o) (.cells #[.int .i64 x] 3)
  rw [World.size_alloc] at this
  exact this
def ST (zi g k : Nat) (p : Int) (x : Ins) (w : World) : Prop := w.cell? ⟨g, k, none⟩ = some (.int .i64 p) ∧ w.cell? ⟨zi, 0, none⟩ = some (.int .i64 x.kind) ∧ w.cell? ⟨zi, 1, none⟩ = some (.int .i64 x.op) ∧ w.cell? ⟨zi, 2, none⟩ = some (.int .i64 x.dst) ∧ w.cell? ⟨zi, 3, none⟩ = some (.int .i64 x.a) ∧ w.cell? ⟨zi, 4, none⟩ = some (.int .i64 x.b) ∧ w.cell? ⟨zi, 5, none⟩ = some (.int .i64 x.n) ∧ w.cell? ⟨zi, 6, none⟩ = some (.string (sb x.text)) ∧ w.cell? ⟨zi, 7, none⟩ = some (.int .i64 x.x0) ∧ w.cell? ⟨zi, 8, none⟩ = some (.int .i64 x.x1) ∧ w.cell? ⟨zi, 9, none⟩ = some (.int .i64 x.x2) ∧ w.cell? ⟨zi, 10, none⟩ = some (.int .i64 x.x3) ∧ w.cell? ⟨zi, 11, none⟩ = some (.int .i64 x.x4) ∧ w.cell? ⟨zi, 12, none⟩ = some (.int .i64 x.x5) ∧ w.cell? ⟨zi, 13, none⟩ = some (.int .i64 x.dest) ∧ w.cell? ⟨zi, 14, none⟩ = some (.int .i64 x.els)
theorem ST.below {zi g k : Nat} {p : Int} {x : Ins} {w w' : World} (h : ST zi g k p x w) (hz : zi < w.heap.size) (hg : g < w.heap.size) (hw : Below w.heap.size w w') : ST zi g k p x w' := by
  obtain ⟨h0, h1, h2, h3, h4, h5, h6, h7, h8, h9, h10, h11, h12, h13, h14, h15⟩ := h
  exact ⟨(hw.cell (p := ⟨g, k, none⟩) hg).trans h0, (hw.cell (p := ⟨zi, 0, none⟩) hz).trans h1, (hw.cell (p := ⟨zi, 1, none⟩) hz).trans h2, (hw.cell (p := ⟨zi, 2, none⟩) hz).trans h3, (hw.cell (p := ⟨zi, 3, none⟩) hz).trans h4, (hw.cell (p := ⟨zi, 4, none⟩) hz).trans h5, (hw.cell (p := ⟨zi, 5, none⟩) hz).trans h6, (hw.cell (p := ⟨zi, 6, none⟩) hz).trans h7, (hw.cell (p := ⟨zi, 7, none⟩) hz).trans h8, (hw.cell (p := ⟨zi, 8, none⟩) hz).trans h9, (hw.cell (p := ⟨zi, 9, none⟩) hz).trans h10, (hw.cell (p := ⟨zi, 10, none⟩) hz).trans h11, (hw.cell (p := ⟨zi, 11, none⟩) hz).trans h12, (hw.cell (p := ⟨zi, 12, none⟩) hz).trans h13, (hw.cell (p := ⟨zi, 13, none⟩) hz).trans h14, (hw.cell (p := ⟨zi, 14, none⟩) hz).trans h15⟩
set_option maxHeartbeats 8000000 in
set_option maxRecDepth 100000 in
theorem ahead_v (name : List UInt8) (params regs frame : Int) (code : List Ins) (ca : Option Addr) (cc : Nat) (a rg : Int) (B : Nat) (w : World) (hc : CodeAt w B ⟨⟨name, params, regs, frame, code⟩, ca, cc⟩) (hf : RightF ⟨name, params, regs, frame, code⟩) (ha : Inside code a) (hBw : B ≤ w.heap.size) :
    Calls Try.prog 20 #[fnV ⟨⟨name, params, regs, frame, code⟩, ca, cc⟩, .int .i64 a, .int .i64 rg] w (RPost (.bool (aheadR code a rg)) w) := by
  have hcl := closed_of hf
  have hlen := hf.code.2
  have hlen0 := hf.code.1
  simp only at hcl hlen hlen0
  have HCL := Lib.hid hcl; clear hcl
  have HC := Lib.hid hc; clear hc hf
  obtain ⟨i0, hi0, hz0, hz1, hz2⟩ := info_parts infoInt
  obtain ⟨R, hR⟩ : ∃ R, aheadF code rg (code.length + 1) [a] 0 = R := ⟨_, rfl⟩
  have E := Lib.hid (show aheadR code a rg = R from hR); have HR := Lib.hid hR; clear hR
  have HN0 := Lib.hid (show [a].Nodup ∧ ∀ x ∈ [a], Inside code x from ⟨by simp, fun x hx => by rw [List.mem_singleton] at hx; rw [hx]; exact ha⟩)
  clear ha
  go_enter Try.func20, Try.ntmps20
  go_wp2
  go_loopw [7, 8] (fun s7 s8 wr => ∃ (out : List Int) (k f : Nat), k ≤ out.length ∧ s8 = .int .i64 k ∧ Hid (wr.ownsRow (w.heap.size + 1) 3 1 s7 out.length (out.map (Value.int .i64))) ∧ Hid (Below w.heap.size w wr) ∧ Hid (wr.heap[w.heap.size]? = some (fnO ⟨⟨name, params, regs, frame, code⟩, ca, cc⟩)) ∧ Hid (aheadF code rg f out k = R) ∧ Hid (out.Nodup ∧ ∀ x ∈ out, Inside code x) ∧ code.length < f + k ∧ out.length ≤ code.length) (fun _ s8 wr => code.length - (intOf s8).toNat)
  case atStart => exact ⟨[a], 0, code.length + 1, by simp, rfl, Lib.hid (own_one w _ a), Lib.hid (((Below.refl _ _).alloc (Nat.le_refl _) _).alloc (by simp) _), Lib.hid ((Below.heap_alloc _ _ _ (by simp)).trans (heap_alloc_new w _)), HR, HN0, by omega, by simp; omega⟩
  case round =>
    clear HN0 HR
    obtain ⟨out, k, f, hk, rfl, HO, HB, HW, HR, HN, hfk, hol⟩ := hrel
    obtain ⟨a7, cp7, rfl⟩ := row_slice HO.out
    have hz := lt_heap HW.out
    obtain ⟨f', rfl⟩ : ∃ f', f = f' + 1 := ⟨f - 1, by omega⟩
    by_cases hlt : k < out.length
    · obtain ⟨p, hp⟩ : ∃ p, out[k]? = some p := ⟨_, List.getElem?_eq_getElem hlt⟩
      have hin := HN.out.2 p (List.mem_of_getElem? hp)
      unfold Inside at hin
      obtain ⟨q, rfl⟩ : ∃ q : Nat, p = (q : Int) := ⟨p.toNat, by omega⟩
      obtain ⟨x, hx⟩ : ∃ x, code[q]? = some x := ⟨_, List.getElem?_eq_getElem (by omega)⟩
      obtain ⟨g, rfl, hg, hgl, cu⟩ := own_int HO.out hp
      have HC2 := Lib.hid (HC.out.below (HB.out.mono hBw))
      obtain ⟨b, off, hca, hb, hBw2, q0, q1, q2, q3, q4, q5, q6, q7, q8, q9, q10, q11, q12, q13, q14⟩ := HC2.out.cells hx
      simp only at hca
      subst hca
      obtain ⟨d0, d1, d2, d3, d4⟩ := nv5 HW.out
      have HP := Lib.hid hp; have HX := Lib.hid hx; clear hp hx
      have HRS := Lib.hid (show (if (uses x).contains rg then true else if sets x = rg then aheadF code rg f' out (k + 1) else aheadF code rg f' (addNew (-1) out (next x q)) (k + 1)) = R by have := HR.out; unfold aheadF at this; rw [HP.out] at this; simp only [Int.toNat_natCast] at this; rw [HX.out] at this; exact this)
      have hSW : SW w.heap.size b off code.length cc g k q q x wr.drew := ⟨d4, cu, q0, q1, q2, q3, q4, q5, q6, q7, q8, q9, q10, q11, q12, q13, q14⟩
      have p0 : (0 : Int) ≤ (k : Int) := Int.natCast_nonneg _
      have p1 : (k : Int) < (out.length : Int) := by omega
      have p2 : (0 : Int) ≤ (q : Int) := Int.natCast_nonneg _
      have p3 : (q : Int) < (code.length : Int) := by omega
      have hbl : b < wr.heap.size := Nat.lt_of_lt_of_le hb hBw2
      clear cu q0 q1 q2 q3 q4 q5 q6 q7 q8 q9 q10 q11 q12 q13 q14 d0 d1 d2 d3 d4
      obtain ⟨wo, rfl⟩ : ∃ wo : World, wo = wr := ⟨_, rfl⟩
      go_wp2
      have hmix : Try.prog.follows .mixedOrders = true := by kernel_rfl
      have BB := drW HB.out
      refine region_lastS (SW w.heap.size b off code.length cc g k q q x) 9 hmix hSW (fun hS => ?main)
      clear hSW
      refine anyL_take (i := 0) (v := ?_) rfl rfl (by kernel_rfl) (by kernel_rfl) (by kernel_rfl) (by kernel_rfl) (fun _ _ _ h => h) (Or.inl ⟨by rfl, ?_⟩) hS ?_
      rotate_left
      · (intro w' hSw; obtain ⟨k0, k1, k2, k3, k4, k5, k6, k7, k8, k9, k10, k11, k12, k13, k14, k15, k16⟩ := hSw; go_simp; first | done | with_reducible rfl)
      simp only [Act.put, List.getElem_toArray, List.getElem_cons_succ, List.getElem_cons_zero, List.setIfInBounds_toArray, List.set_cons_succ, List.set_cons_zero]
      refine anyL_take (i := 1) (v := ?_) rfl rfl (by kernel_rfl) (by kernel_rfl) (by kernel_rfl) (by kernel_rfl) (fun _ _ _ h => h) (Or.inl ⟨by rfl, ?_⟩) hS ?_
      rotate_left
      · (intro w' hSw; obtain ⟨k0, k1, k2, k3, k4, k5, k6, k7, k8, k9, k10, k11, k12, k13, k14, k15, k16⟩ := hSw; go_simp; first | done | with_reducible rfl)
      simp only [Act.put, List.getElem_toArray, List.getElem_cons_succ, List.getElem_cons_zero, List.setIfInBounds_toArray, List.set_cons_succ, List.set_cons_zero]
      refine anyL_take (i := 2) (v := ?_) rfl rfl (by kernel_rfl) (by kernel_rfl) (by kernel_rfl) (by kernel_rfl) (fun _ _ _ h => h) (Or.inl ⟨by rfl, ?_⟩) hS ?_
      rotate_left
      · (intro w' hSw; obtain ⟨k0, k1, k2, k3, k4, k5, k6, k7, k8, k9, k10, k11, k12, k13, k14, k15, k16⟩ := hSw; go_simp; first | done | with_reducible rfl)
      simp only [Act.put, List.getElem_toArray, List.getElem_cons_succ, List.getElem_cons_zero, List.setIfInBounds_toArray, List.set_cons_succ, List.set_cons_zero]
      refine anyL_take (i := 3) (v := ?_) rfl rfl (by kernel_rfl) (by kernel_rfl) (by kernel_rfl) (by kernel_rfl) (fun _ _ _ h => h) (Or.inl ⟨by rfl, ?_⟩) hS ?_
      rotate_left
      · (intro w' hSw; obtain ⟨k0, k1, k2, k3, k4, k5, k6, k7, k8, k9, k10, k11, k12, k13, k14, k15, k16⟩ := hSw; go_simp; first | done | with_reducible rfl)
      simp only [Act.put, List.getElem_toArray, List.getElem_cons_succ, List.getElem_cons_zero, List.setIfInBounds_toArray, List.set_cons_succ, List.set_cons_zero]
      refine anyL_take (i := 4) (v := ?_) rfl rfl (by kernel_rfl) (by kernel_rfl) (by kernel_rfl) (by kernel_rfl) (fun _ _ _ h => h) (Or.inl ⟨by rfl, ?_⟩) hS ?_
      rotate_left
      · (intro w' hSw; obtain ⟨k0, k1, k2, k3, k4, k5, k6, k7, k8, k9, k10, k11, k12, k13, k14, k15, k16⟩ := hSw; go_simp; first | done | with_reducible rfl)
      simp only [Act.put, List.getElem_toArray, List.getElem_cons_succ, List.getElem_cons_zero, List.setIfInBounds_toArray, List.set_cons_succ, List.set_cons_zero]
      refine anyL_take (i := 5) (v := ?_) rfl rfl (by kernel_rfl) (by kernel_rfl) (by kernel_rfl) (by kernel_rfl) (fun _ _ _ h => h) (Or.inl ⟨by rfl, ?_⟩) hS ?_
      rotate_left
      · (intro w' hSw; obtain ⟨k0, k1, k2, k3, k4, k5, k6, k7, k8, k9, k10, k11, k12, k13, k14, k15, k16⟩ := hSw; go_simp; first | done | with_reducible rfl)
      simp only [Act.put, List.getElem_toArray, List.getElem_cons_succ, List.getElem_cons_zero, List.setIfInBounds_toArray, List.set_cons_succ, List.set_cons_zero]
      refine anyL_take (i := 6) (v := ?_) rfl rfl (by kernel_rfl) (by kernel_rfl) (by kernel_rfl) (by kernel_rfl) (fun _ _ _ h => h) (Or.inl ⟨by rfl, ?_⟩) hS ?_
      rotate_left
      · (intro w' hSw; obtain ⟨k0, k1, k2, k3, k4, k5, k6, k7, k8, k9, k10, k11, k12, k13, k14, k15, k16⟩ := hSw; go_simp; first | done | with_reducible rfl)
      simp only [Act.put, List.getElem_toArray, List.getElem_cons_succ, List.getElem_cons_zero, List.setIfInBounds_toArray, List.set_cons_succ, List.set_cons_zero]
      refine anyL_take (i := 7) (v := ?_) rfl rfl (by kernel_rfl) (by kernel_rfl) (by kernel_rfl) (by kernel_rfl) (fun _ _ _ h => h) (Or.inl ⟨by rfl, ?_⟩) hS ?_
      rotate_left
      · (intro w' hSw; obtain ⟨k0, k1, k2, k3, k4, k5, k6, k7, k8, k9, k10, k11, k12, k13, k14, k15, k16⟩ := hSw; go_simp; first | done | with_reducible rfl)
      simp only [Act.put, List.getElem_toArray, List.getElem_cons_succ, List.getElem_cons_zero, List.setIfInBounds_toArray, List.set_cons_succ, List.set_cons_zero]
      refine anyL_one (i := 8) (by kernel_rfl) rfl (fun K1 hK1 => ?_)
      go_simp
      have hS' := hS.below (w := wo.drew) hz hbl hgl ((Below.refl _ _).alloc (Nat.le_refl _) (inO ⟨0, 0, 0, 0, 0, 0, [], 0, 0, 0, 0, 0, 0, 0, 0⟩))
      refine hK1.out _ _ (fun _ => hS') ?_
      clear hK1 K1 hS
      have hS := hS'; clear hS'
      refine anyL_one (i := 9) (by kernel_rfl) rfl (fun K1 hK1 => ?_)
      go_simp
      refine hK1.out _ _ (fun h => absurd rfl h) ?_
      clear hK1 K1 hS
      refine anyL_done (by kernel_rfl) ?_ _
      have FX : Hid ((wo.alloc (inO x)).drew.heap[wo.heap.size]? = some (inO x)) := Lib.hid (heap_alloc_new wo (inO x))
      have HB9 : Hid (Below w.heap.size w (wo.alloc (inO x)).drew) := Lib.hid (drW (HB.out.alloc HB.out.size _))
      have HW9 : Hid ((wo.alloc (inO x)).drew.heap[w.heap.size]? = some (fnO ⟨⟨name, params, regs, frame, code⟩, some ⟨b, off, none⟩, cc⟩)) := Lib.hid ((Below.heap_alloc _ _ _ hz).trans HW.out)
      have HO9 : Hid ((wo.alloc (inO x)).drew.ownsRow (w.heap.size + 1) 3 1 (.slice (some ⟨g, 0, none⟩) out.length cp7) out.length (out.map (Value.int .i64))) := Lib.hid (HO.out.alloc (inO x)).drew
      generalize hv9 : (wo.alloc (inO x)).drew = v9 at *
      clear hv9 BB
      obtain ⟨c0, c1, c2, c3, c4, c5, c6, c7, c8, c9, c10, c11, c12, c13, c14⟩ := nv15 FX.out
      have hzx := lt_heap FX.out
      obtain ⟨us, hus⟩ : ∃ us, uses x = us := ⟨_, rfl⟩
      have hul := uses_len x
      rw [hus] at hul HRS
      have HUS := Lib.hid hus; clear hus
      obtain ⟨m, hm⟩ : ∃ m, us.contains rg = m := ⟨_, rfl⟩
      rw [hm] at HRS
      have HM := Lib.hid hm; clear hm
      cases m with
      | true =>
        obtain rfl : true = R := HRS.out
        go_wp2_with (first | ((with_reducible refine (uses_c x us HUS.out _).mono ?_); go_loud (rintro e v10 ⟨a9, cp9, rfl, hi9, hb10⟩; have HI9 := Lib.hid hi9; have FX10 := Lib.hid ((hb10.block _ (lt_heap FX.out)).trans FX.out); obtain ⟨c0, c1, c2, c3, c4, c5, c6, c7, c8, c9, c10, c11, c12, c13, c14⟩ := nv15 (w := v10) FX10.out; have HB10 := Lib.hid (HB9.out.trans (hb10.mono HB9.out.size)); have HW10 := Lib.hid ((hb10.block _ (lt_heap HW9.out)).trans HW9.out); have HO10 := Lib.hid (own_keep (w' := v10) HO9.out (fun g' hg' => hb10.block g' (HO9.out.lt g' hg').2)); clear hi9 hb10)) | ((with_reducible refine (in_v us a9 cp9 rg true _ HI9.out (by unfold maxLen; omega) HM.out).mono ?_); rintro e v12 ⟨rfl, rfl⟩))
        go_ret
        exact ⟨by rw [E.out]; rfl, HB10.out⟩
      | false =>
        obtain ⟨d, hd⟩ : ∃ d, sets x = d := ⟨_, rfl⟩
        rw [hd] at HRS
        have HD := Lib.hid hd; clear hd
        by_cases hdr : d = rg
        · have t1 : (d == rg) = true := by simpa using hdr
          have HR2 := Lib.hid (show aheadF code rg f' out (k + 1) = R by have := HRS.out; rw [if_neg (by simp), if_pos hdr] at this; exact this)
          clear hdr
          go_wp2_with (first | ((with_reducible refine (uses_c x us HUS.out _).mono ?_); go_loud (rintro e v10 ⟨a9, cp9, rfl, hi9, hb10⟩; have HI9 := Lib.hid hi9; have FX10 := Lib.hid ((hb10.block _ (lt_heap FX.out)).trans FX.out); obtain ⟨c0, c1, c2, c3, c4, c5, c6, c7, c8, c9, c10, c11, c12, c13, c14⟩ := nv15 (w := v10) FX10.out; have HB10 := Lib.hid (HB9.out.trans (hb10.mono HB9.out.size)); have HW10 := Lib.hid ((hb10.block _ (lt_heap HW9.out)).trans HW9.out); have HO10 := Lib.hid (own_keep (w' := v10) HO9.out (fun g' hg' => hb10.block g' (HO9.out.lt g' hg').2)); clear hi9 hb10)) | ((with_reducible refine (in_v us a9 cp9 rg false _ HI9.out (by unfold maxLen; omega) HM.out).mono ?_); rintro e v12 ⟨rfl, rfl⟩) | ((with_reducible refine (sets_v x d HD.out _).mono ?_); go_loud (rintro e v11 ⟨rfl, hb11⟩; have FX11 := Lib.hid ((hb11.block _ (lt_heap FX10.out)).trans FX10.out); obtain ⟨c0, c1, c2, c3, c4, c5, c6, c7, c8, c9, c10, c11, c12, c13, c14⟩ := nv15 (w := v11) FX11.out; have HB11 := Lib.hid (HB10.out.trans (hb11.mono HB10.out.size)); have HW11 := Lib.hid ((hb11.block _ (lt_heap HW10.out)).trans HW10.out); have HO11 := Lib.hid (own_keep (w' := v11) HO10.out (fun g' hg' => hb11.block g' (HO10.out.lt g' hg').2)); clear hb11)))
          go_roundw
          case rel => exact ⟨out, k + 1, f', by omega, by go_num, HO11, HB11, HW11, HR2, HN, by omega, hol⟩
          case measure => simp [intOf]; omega
        have t1 : (d == rg) = false := by simpa using hdr
        have HR2 := Lib.hid (show aheadF code rg f' (addNew (-1) out (next x q)) (k + 1) = R by have := HRS.out; rw [if_neg (by simp), if_neg hdr] at this; exact this)
        clear hdr
        go_wp2_with (first | ((with_reducible refine (uses_c x us HUS.out _).mono ?_); go_loud (rintro e v10 ⟨a9, cp9, rfl, hi9, hb10⟩; have HI9 := Lib.hid hi9; have FX10 := Lib.hid ((hb10.block _ (lt_heap FX.out)).trans FX.out); obtain ⟨c0, c1, c2, c3, c4, c5, c6, c7, c8, c9, c10, c11, c12, c13, c14⟩ := nv15 (w := v10) FX10.out; have HB10 := Lib.hid (HB9.out.trans (hb10.mono HB9.out.size)); have HW10 := Lib.hid ((hb10.block _ (lt_heap HW9.out)).trans HW9.out); have HO10 := Lib.hid (own_keep (w' := v10) HO9.out (fun g' hg' => hb10.block g' (HO9.out.lt g' hg').2)); clear hi9 hb10)) | ((with_reducible refine (in_v us a9 cp9 rg false _ HI9.out (by unfold maxLen; omega) HM.out).mono ?_); rintro e v12 ⟨rfl, rfl⟩) | ((with_reducible refine (sets_v x d HD.out _).mono ?_); go_loud (rintro e v11 ⟨rfl, hb11⟩; have FX11 := Lib.hid ((hb11.block _ (lt_heap FX10.out)).trans FX10.out); obtain ⟨c0, c1, c2, c3, c4, c5, c6, c7, c8, c9, c10, c11, c12, c13, c14⟩ := nv15 (w := v11) FX11.out; have HB11 := Lib.hid (HB10.out.trans (hb11.mono HB10.out.size)); have HW11 := Lib.hid ((hb11.block _ (lt_heap HW10.out)).trans HW10.out); have HO11 := Lib.hid (own_keep (w' := v11) HO10.out (fun g' hg' => hb11.block g' (HO10.out.lt g' hg').2)); clear hb11)))
        obtain ⟨g2, hg2, _, hgl2, cu2⟩ := own_int HO11.out HP.out
        injection hg2 with hg2; injection hg2 with hg2 _ _; subst hg2
        have hST : ST wo.heap.size g k q x v11.drew := ⟨cu2, c0, c1, c2, c3, c4, c5, c6, c7, c8, c9, c10, c11, c12, c13, c14⟩
        have hzx2 := lt_heap FX11.out
        clear cu2 c0 c1 c2 c3 c4 c5 c6 c7 c8 c9 c10 c11 c12 c13 c14
        have BB := drW HB11.out
        refine region_lastS (ST wo.heap.size g k q x) 6 hmix hST (fun hS => ?main2)
        clear hST
        refine anyL_take (i := 0) (v := ?_) rfl rfl (by kernel_rfl) (by kernel_rfl) (by kernel_rfl) (by kernel_rfl) (fun _ _ _ h => h) (Or.inl ⟨by rfl, ?_⟩) hS ?_
        rotate_left
        · (intro w' hSw; obtain ⟨k0, k1, k2, k3, k4, k5, k6, k7, k8, k9, k10, k11, k12, k13, k14, k15⟩ := hSw; go_simp; first | done | with_reducible rfl)
        simp only [Act.put, List.getElem_toArray, List.getElem_cons_succ, List.getElem_cons_zero, List.setIfInBounds_toArray, List.set_cons_succ, List.set_cons_zero]
        refine anyL_take (i := 1) (v := ?_) rfl rfl (by kernel_rfl) (by kernel_rfl) (by kernel_rfl) (by kernel_rfl) (fun _ _ _ h => h) (Or.inl ⟨by rfl, ?_⟩) hS ?_
        rotate_left
        · (intro w' hSw; obtain ⟨k0, k1, k2, k3, k4, k5, k6, k7, k8, k9, k10, k11, k12, k13, k14, k15⟩ := hSw; go_simp; first | done | with_reducible rfl)
        simp only [Act.put, List.getElem_toArray, List.getElem_cons_succ, List.getElem_cons_zero, List.setIfInBounds_toArray, List.set_cons_succ, List.set_cons_zero]
        refine anyL_take (i := 2) (v := ?_) rfl rfl (by kernel_rfl) (by kernel_rfl) (by kernel_rfl) (by kernel_rfl) (fun _ _ _ h => h) (Or.inl ⟨by rfl, ?_⟩) hS ?_
        rotate_left
        · (intro w' hSw; obtain ⟨k0, k1, k2, k3, k4, k5, k6, k7, k8, k9, k10, k11, k12, k13, k14, k15⟩ := hSw; go_simp; first | done | with_reducible rfl)
        simp only [Act.put, List.getElem_toArray, List.getElem_cons_succ, List.getElem_cons_zero, List.setIfInBounds_toArray, List.set_cons_succ, List.set_cons_zero]
        refine anyL_take (i := 3) (v := ?_) rfl rfl (by kernel_rfl) (by kernel_rfl) (by kernel_rfl) (by kernel_rfl) (fun _ _ _ h => h) (Or.inl ⟨by rfl, ?_⟩) hS ?_
        rotate_left
        · (intro w' hSw; obtain ⟨k0, k1, k2, k3, k4, k5, k6, k7, k8, k9, k10, k11, k12, k13, k14, k15⟩ := hSw; go_simp; first | done | with_reducible rfl)
        simp only [Act.put, List.getElem_toArray, List.getElem_cons_succ, List.getElem_cons_zero, List.setIfInBounds_toArray, List.set_cons_succ, List.set_cons_zero]
        refine anyL_take (i := 4) (v := ?_) rfl rfl (by kernel_rfl) (by kernel_rfl) (by kernel_rfl) (by kernel_rfl) (fun _ _ _ h => h) (Or.inl ⟨by rfl, ?_⟩) hS ?_
        rotate_left
        · (intro w' hSw; obtain ⟨k0, k1, k2, k3, k4, k5, k6, k7, k8, k9, k10, k11, k12, k13, k14, k15⟩ := hSw; go_simp; first | done | with_reducible rfl)
        simp only [Act.put, List.getElem_toArray, List.getElem_cons_succ, List.getElem_cons_zero, List.setIfInBounds_toArray, List.set_cons_succ, List.set_cons_zero]
        refine anyL_one (i := 5) (by kernel_rfl) rfl (fun K1 hK1 => ?_)
        go_simp
        obtain ⟨ns, hns⟩ : ∃ ns, next x q = ns := ⟨_, rfl⟩
        have hnl := nexts_len x q
        rw [hns] at hnl
        have HNS : Hid (nexts code q = ns) := Lib.hid ((nexts_at (by rw [Int.toNat_natCast]; exact HX.out)).trans hns)
        refine (next_any x q ⟨p2, by omega⟩ _).mono ?_
        rintro e v20 ⟨v, rfl, hno, hbx⟩
        rw [hns] at hno
        obtain ⟨a9', c9', rfl⟩ := row_slice hno
        have hS' := hS.below (w := v11.drew) hzx2 hgl2 hbx
        refine hK1.out _ _ (fun _ => hS') ?_
        clear hK1 K1 hS hS'
        have HN9 : Hid (v20.ownsRow v11.heap.size 3 1 (.slice a9' ns.length c9') ns.length (ns.map (Value.int .i64))) := Lib.hid hno
        have HO2 := Lib.hid (own_keep (w' := v20) HO11.out (fun g' hg' => hbx.block g' (HO11.out.lt g' hg').2))
        have HW2 : Hid (v20.heap[w.heap.size]? = some (fnO ⟨⟨name, params, regs, frame, code⟩, some ⟨b, off, none⟩, cc⟩)) := Lib.hid ((hbx.block _ (lt_heap HW11.out)).trans HW11.out)
        have HB2 := Lib.hid (BB.trans (hbx.mono BB.size))
        have HAP : Hid (∀ g', (Value.slice a9' ns.length c9').ownBlock = some g' → (Value.slice (some ⟨g, 0, none⟩) out.length cp7).ownBlock ≠ some g') := Lib.hid (fun g' hg' he => by have h1 := (hno.lt g' hg').1; have h2 : v11.drew.heap.size = v11.heap.size := rfl; simp [Value.ownBlock] at he; omega)
        have HR3 : Hid (aheadF code rg f' (addNew (-1) out ns) (k + 1) = R) := Lib.hid (hns ▸ HR2.out)
        clear hno hbx BB hns HR2
        refine anyL_one (i := 6) (by kernel_rfl) rfl (fun K1 hK1 => ?_)
        go_simp
        refine hK1.out _ _ (fun h => absurd rfl h) ?_
        clear hK1 K1
        refine anyL_done (by kernel_rfl) ?_ _
        go_wp2
        go_loopw [7, 11] (fun s7 s10 wr => ∃ (out2 : List Int) (j : Nat), j ≤ ns.length ∧ s10 = .int .i64 j ∧ Hid (wr.ownsRow (w.heap.size + 1) 3 1 s7 out2.length (out2.map (Value.int .i64))) ∧ Hid (addNew (-1) out (ns.take j) = out2) ∧ Hid (Below w.heap.size w wr) ∧ Hid (wr.heap[w.heap.size]? = some (fnO ⟨⟨name, params, regs, frame, code⟩, some ⟨b, off, none⟩, cc⟩)) ∧ Hid (wr.ownsRow v11.heap.size 3 1 (.slice a9' ns.length c9') ns.length (ns.map (Value.int .i64))) ∧ Hid (∀ g', (Value.slice a9' ns.length c9').ownBlock = some g' → s7.ownBlock ≠ some g') ∧ out2.length ≤ out.length + j) (fun _ s10 wr => ns.length - (intOf s10).toNat)
        case atStart => exact ⟨out, 0, by omega, rfl, HO2, Lib.hid (by simp [addNew]), HB2, HW2, HN9, HAP, by omega⟩
        case round =>
          clear HO2 HB2 HW2 HN9 HAP
          obtain ⟨out2, j, hj, rfl, HO2, HAD, HB2, HW2, HN9, HAP, hol2⟩ := hrel
          obtain ⟨a8, c8, rfl⟩ := row_slice HO2.out
          have hzb := lt_heap HW2.out
          by_cases hlj : j < ns.length
          · obtain ⟨y, hy⟩ : ∃ y, ns[j]? = some y := ⟨_, List.getElem?_eq_getElem hlj⟩
            obtain ⟨h, rfl, hh, hhl, ch⟩ := own_int HN9.out hy
            have HTK := Lib.hid (take_more hy)
            have hyn : y ≠ -1 := by have := HCL.out (q : Int) ⟨p2, p3⟩ y (by rw [HNS.out]; exact List.mem_of_getElem? hy); unfold Inside at this; omega
            have HYN := Lib.hid hyn; clear hy hyn
            have r0 : (0 : Int) ≤ (j : Int) := Int.natCast_nonneg _
            have r1 : (j : Int) < (ns.length : Int) := by omega
            have HIA := Lib.hid (IntsAt.of_own HO2.out)
            by_cases hyo : y ∈ out2
            · have HAD2 := Lib.hid (show addNew (-1) out (ns.take (j + 1)) = out2 by rw [HTK.out, addNew_snoc, HAD.out, if_neg (fun h => h.2 hyo)])
              have HCT := Lib.hid (show out2.contains y = true by rw [List.contains_iff_mem]; exact hyo)
              clear hyo
              go_wp2_with ((with_reducible refine (in_v out2 a8 c8 y true _ HIA.out (by unfold maxLen; omega) HCT.out).mono ?_); rintro e v3 ⟨rfl, rfl⟩)
              go_roundw
              case rel => exact ⟨out2, j + 1, by omega, by go_num, HO2, HAD2, HB2, HW2, HN9, HAP, by omega⟩
              case measure => simp [intOf]; omega
            have HAD2 := Lib.hid (show addNew (-1) out (ns.take (j + 1)) = out2 ++ [y] by rw [HTK.out, addNew_snoc, HAD.out, if_pos ⟨HYN.out, hyo⟩])
            have HCT := Lib.hid (show out2.contains y = false by rw [Bool.eq_false_iff, ne_eq, List.contains_iff_mem]; exact hyo)
            clear hyo
            go_wp2_with (first | ((with_reducible refine (in_v out2 a8 c8 y false _ HIA.out (by unfold maxLen; omega) HCT.out).mono ?_); rintro e v3 ⟨rfl, rfl⟩) | (at_builtin; go_loud (refine wpList_append_lies _ rfl (.tmp 55) (.tmp 60) 29 rfl (w.heap.size + 1) 3 i0 (.int .i64 0) 1 8 Try.underlying29 hi0 hz0 hz1 hz2 rfl (by decide) (.slice a8 out2.length c8) (out2.length) (out2.map (Value.int .i64)) rfl (HO2.out.alloc _) _ 1 1 [.int .i64 (y)] rfl rfl (cell_new1 _ _ _ _ (by simp)) (by simp [Value.oneCell']) (by omega) (by unfold maxLen; omega) (by omega) (by simp <;> omega) (wr.heap.size + 1) (by simp) ?_; intro g3 cap3 w3 hown3 hgrow hat hlt3; have HO3 := Lib.hid hown3; have HB3 := Lib.hid ((HB2.out.alloc (by omega) _).grown hgrow (by simp <;> omega) (fun k e => by have := (HO2.out.lt k e).1; omega)); have HW3 := Lib.hid ((hgrow.block w.heap.size (by simp <;> omega) (fun e => by have := (HO2.out.lt _ e.symm).1; omega)).trans ((Below.heap_alloc _ _ _ (by omega)).trans HW2.out)); have HN3 := Lib.hid (own_keep (w' := w3) HN9.out (fun g' hg' => (hgrow.block g' (by have := (HN9.out.lt g' hg').2; simp <;> omega) (fun e => HAP.out g' hg' e.symm)).trans (Below.heap_alloc _ _ _ (HN9.out.lt g' hg').2))); have HAP3 := Lib.hid (fun g' (hg' : (Value.slice (some ⟨h, 0, none⟩) ns.length c9').ownBlock = some g') => (fun (e : (Value.slice (some ⟨g3, 0, none⟩) (out2.length + 1) cap3).ownBlock = some g') => by have h2 := (HN9.out.lt g' hg').2; have h3 := HAP.out g' hg'; simp only [Value.ownBlock, Option.some.injEq] at e; subst e; rcases hat with hat | hat; exact h3 hat; omega)); clear hown3 hgrow hat hlt3)))
            go_roundw
            case rel => exact ⟨out2 ++ [y], j + 1, by omega, by go_num, Lib.hid (by simpa using HO3.out), HAD2, HB3, HW3, HN3, HAP3, by simp; omega⟩
            case measure => simp [intOf]; omega
          · obtain rfl : j = ns.length := by omega
            have hA := HAD.out
            rw [List.take_length] at hA
            have HR4 := Lib.hid (show aheadF code rg f' out2 (k + 1) = R by rw [← hA]; exact HR3.out)
            have HNn := Lib.hid (show out2.Nodup ∧ ∀ z ∈ out2, Inside code z from ⟨hA ▸ addNew_nodup _ _ _ HN.out.1, fun z hz => by rw [← hA] at hz; rcases (addNew_mem _ _ _ _).1 hz with h1 | h1; exact HN.out.2 z h1; exact HCL.out (q : Int) ⟨p2, p3⟩ z (by rw [HNS.out]; exact h1.1)⟩)
            have hkl : k + 1 ≤ out2.length := by obtain ⟨t, ht⟩ := addNew_grows (-1) ns out; rw [hA] at ht; rw [ht, List.length_append]; omega
            have hol3 := nodup_le HNn.out.1 HNn.out.2
            clear hA
            go_wp2
            go_roundw
            case rel => exact ⟨out2, k + 1, f', hkl, by go_num, HO2, HB2, HW2, HR4, HNn, by omega, hol3⟩
            case measure => simp [intOf]; omega
    · obtain rfl : k = out.length := by omega
      have HE := Lib.hid (show R = false by have := HR.out; unfold aheadF at this; rw [List.getElem?_eq_none (Nat.le_refl _)] at this; exact this.symm)
      go_wp2
      go_ret
      exact ⟨by rw [E.out, HE.out]; rfl, HB.out⟩
theorem ahead_any (r : FnR) (a rg : Int) (m : Bool) (B : Nat) (w : World) (hc : CodeAt w B r) (hf : RightF r.f) (ha : Inside r.f.code a) (hBw : B ≤ w.heap.size) (hm : aheadR r.f.code a rg = m) :
    Calls Try.prog 20 #[fnV r, .int .i64 a, .int .i64 rg] w (RPost (.bool m) w) := hm ▸ ahead_v r.f.name r.f.params r.f.regs r.f.frame r.f.code r.ca r.cc a rg B w hc hf ha hBw
end Go.Proofs.Ytpajndeongcjbaa
namespace Go.Proofs.Ytpajndeongcjbaa
set_option maxRecDepth 100000
open Go.RowKit Go.Sort Cd
set_option linter.unusedVariables false
set_option linter.unusedSimpArgs false

theorem pure_any (i : Ins) (w : World) : Calls Try.prog 25 #[inV i] w (RPost (.bool (pureI i)) w) := by
  by_cases h : i.kind = 1 ∨ i.kind = 2 ∨ i.kind = 4 ∨ i.kind = 5
  · have e : pureI i = true := by unfold pureI; rw [decide_eq_true h]; rfl
    have E := Lib.hid e; clear e
    rcases h with h | h | h | h
    all_goals
      go_enter Try.func25, Try.ntmps25
      go_wp2
      go_ret
      exact ⟨by rw [E.out]; rfl, (Below.refl _ _).alloc (Nat.le_refl _) _⟩
  · have g1 : ((i.kind : Int) == 1) = false := by simp; omega
    have g2 : ((i.kind : Int) == 2) = false := by simp; omega
    have g4 : ((i.kind : Int) == 4) = false := by simp; omega
    have g5 : ((i.kind : Int) == 5) = false := by simp; omega
    by_cases h3 : i.kind = 3
    · have g3 : ((i.kind : Int) == 3) = true := by simpa using h3
      have e : pureI i = (decide (1 ≤ i.op) && decide (i.op ≤ 23) && (decide (i.op < 4) || decide (7 < i.op))) := by unfold pureI; rw [decide_eq_false h, decide_eq_true h3]; simp
      have E := Lib.hid e; clear e h h3
      by_cases z1 : 1 ≤ i.op
      rotate_left
      · have t1 : decide ((1 : Int) ≤ i.op) = false := by simp <;> omega
        have t1' : decide (i.op ≥ (1 : Int)) = false := by simp <;> omega
        go_enter Try.func25, Try.ntmps25
        go_wp2
        go_ret
        exact ⟨by rw [E.out]; simp <;> omega, (Below.refl _ _).alloc (Nat.le_refl _) _⟩
      have t1 : decide ((1 : Int) ≤ i.op) = true := by simp <;> omega
      have t1' : decide (i.op ≥ (1 : Int)) = true := by simp <;> omega
      by_cases z2 : i.op ≤ 23
      rotate_left
      · have t2 : decide (i.op ≤ (23 : Int)) = false := by simp <;> omega
        go_enter Try.func25, Try.ntmps25
        go_wp2
        go_ret
        exact ⟨by rw [E.out]; simp <;> omega, (Below.refl _ _).alloc (Nat.le_refl _) _⟩
      have t2 : decide (i.op ≤ (23 : Int)) = true := by simp <;> omega
      by_cases z3 : i.op < 4
      · have t3 : decide (i.op < (4 : Int)) = true := by simp <;> omega
        go_enter Try.func25, Try.ntmps25
        go_wp2
        go_ret
        exact ⟨by rw [E.out]; simp <;> omega, (Below.refl _ _).alloc (Nat.le_refl _) _⟩
      have t3 : decide (i.op < (4 : Int)) = false := by simp <;> omega
      by_cases z4 : 7 < i.op
      · have t4 : decide ((7 : Int) < i.op) = true := by simp <;> omega
        have t4' : decide (i.op > (7 : Int)) = true := by simp <;> omega
        go_enter Try.func25, Try.ntmps25
        go_wp2
        go_ret
        exact ⟨by rw [E.out]; simp <;> omega, (Below.refl _ _).alloc (Nat.le_refl _) _⟩
      · have t4 : decide ((7 : Int) < i.op) = false := by simp <;> omega
        have t4' : decide (i.op > (7 : Int)) = false := by simp <;> omega
        go_enter Try.func25, Try.ntmps25
        go_wp2
        go_ret
        exact ⟨by rw [E.out]; simp <;> omega, (Below.refl _ _).alloc (Nat.le_refl _) _⟩
    · have g3 : ((i.kind : Int) == 3) = false := by simpa using h3
      have e : pureI i = false := by unfold pureI; rw [decide_eq_false h, decide_eq_false h3]; simp
      have E := Lib.hid e; clear e h h3
      go_enter Try.func25, Try.ntmps25
      go_wp2
      go_ret
      exact ⟨by rw [E.out]; rfl, (Below.refl _ _).alloc (Nat.le_refl _) _⟩
set_option maxHeartbeats 8000000 in
set_option maxRecDepth 100000 in
theorem behind_v (name : List UInt8) (params regs frame : Int) (code : List Ins) (ca : Option Addr) (cc : Nat) (q : Nat) (rg : Int) (B : Nat) (w : World) (hc : CodeAt w B ⟨⟨name, params, regs, frame, code⟩, ca, cc⟩) (hf : RightF ⟨name, params, regs, frame, code⟩) (ha : q < code.length) (hBw : B ≤ w.heap.size) :
    Calls Try.prog 21 #[fnV ⟨⟨name, params, regs, frame, code⟩, ca, cc⟩, .int .i64 q, .int .i64 rg] w (RPost (.bool (behindR code q rg)) w) := by
  have hcl := closed_of hf
  have hlen := hf.code.2
  simp only at hcl hlen
  have HCL := Lib.hid hcl; clear hcl
  obtain ⟨x, hx⟩ : ∃ x, code[q]? = some x := ⟨_, List.getElem?_eq_getElem ha⟩
  obtain ⟨ns, hns⟩ : ∃ ns, next x q = ns := ⟨_, rfl⟩
  have HNC := Lib.hid (show nexts code q = ns from (nexts_at (by rw [Int.toNat_natCast]; exact hx)).trans hns)
  have E := Lib.hid (show behindR code q rg = ns.any (fun y => aheadR code y rg) by unfold behindR; rw [HNC.out])
  have hnl := nexts_len x q
  rw [hns] at hnl
  have HNS := Lib.hid hns; clear hns
  have HC1 := Lib.hid (hc.below ((Below.refl _ _).alloc hBw (fnO ⟨⟨name, params, regs, frame, code⟩, ca, cc⟩)))
  obtain ⟨b, off, hca, hb, hBw2, q0, q1, q2, q3, q4, q5, q6, q7, q8, q9, q10, q11, q12, q13, q14⟩ := HC1.out.cells hx
  simp only at hca
  subst hca
  have HC := Lib.hid hc; have HF := Lib.hid hf; clear hc hf
  have p2 : (0 : Int) ≤ (q : Int) := Int.natCast_nonneg _
  have p3 : (q : Int) < (code.length : Int) := by omega
  clear hx
  go_enter Try.func21, Try.ntmps21
  go_wp2_with ((with_reducible refine (next_c x (q : Int) ns ⟨p2, by omega⟩ HNS.out _).mono ?_); go_loud (rintro e v1 ⟨a9, cp9, rfl, hi9, hb1⟩; have HI9 := Lib.hid hi9; have HB1 := Lib.hid (((Below.refl w.heap.size w).alloc (Nat.le_refl _) (fnO ⟨⟨name, params, regs, frame, code⟩, some ⟨b, off, none⟩, cc⟩)).trans (hb1.mono (by simp <;> omega))); have HW1 := Lib.hid ((hb1.block w.heap.size (by simp)).trans (heap_alloc_new w (fnO ⟨⟨name, params, regs, frame, code⟩, some ⟨b, off, none⟩, cc⟩))); clear hi9 hb1))
  go_loopw [8] (fun s8 wr => ∃ j : Nat, j ≤ ns.length ∧ s8 = .int .i64 j ∧ Hid (Below w.heap.size w wr) ∧ Hid (wr.heap[w.heap.size]? = some (fnO ⟨⟨name, params, regs, frame, code⟩, some ⟨b, off, none⟩, cc⟩)) ∧ Hid (IntsAt wr a9 ns) ∧ Hid ((ns.take j).any (fun y => aheadR code y rg) = false)) (fun s8 wr => ns.length - (intOf s8).toNat)
  case atStart => exact ⟨0, by omega, rfl, HB1, HW1, HI9, Lib.hid (by simp)⟩
  case round =>
    clear HB1 HW1 HI9 q0 q1 q2 q3 q4 q5 q6 q7 q8 q9 q10 q11 q12 q13 q14
    obtain ⟨j, hj, rfl, HB1, HW1, HI9, HN⟩ := hrel
    have hz := lt_heap HW1.out
    by_cases hlj : j < ns.length
    · obtain ⟨y, hy⟩ : ∃ y, ns[j]? = some y := ⟨_, List.getElem?_eq_getElem hlj⟩
      have hyi := HCL.out (q : Int) ⟨p2, p3⟩ y (by rw [HNC.out]; exact List.mem_of_getElem? hy)
      obtain ⟨h, oh, rfl, hhl, ch⟩ := HI9.out.at hy
      have HTK := Lib.hid (take_more hy)
      have HYM := Lib.hid (List.mem_of_getElem? hy)
      have HYI := Lib.hid hyi; clear hy hyi
      obtain ⟨d0, d1, d2, d3, d4⟩ := nv5 HW1.out
      have r0 : (0 : Int) ≤ (j : Int) := Int.natCast_nonneg _
      have r1 : (j : Int) < (ns.length : Int) := by omega
      obtain ⟨wo, rfl⟩ : ∃ wo : World, wo = wr := ⟨_, rfl⟩
      cases hm : aheadR code y rg with
      | true =>
        have HM := Lib.hid hm; clear hm
        have HA : Hid (∀ dd os, Calls Try.prog 20 #[fnV ⟨⟨name, params, regs, frame, code⟩, some ⟨b, off, none⟩, cc⟩, .int .i64 y, .int .i64 rg] (grow (redrawn wo dd) os) fun e w' => e = .returned (.bool true) ∧ Below (grow (redrawn wo dd) os).heap.size (grow (redrawn wo dd) os) w') := Lib.hid (fun dd os => ahead_any _ y rg _ B _ (HC.out.below ((HB1.out.mono hBw).trans ((below_regrown wo dd os).mono (Nat.le_trans hBw HB1.out.size)))) HF.out HYI.out (Nat.le_trans hBw (Nat.le_trans HB1.out.size (below_regrown wo dd os).size)) HM.out)
        go_wp2
        have d0' : ∀ dd os, (grow (redrawn wo dd) os).cell? ⟨w.heap.size, 0, none⟩ = _ := fun dd os => cell_regrown d0 dd os
        have d1' : ∀ dd os, (grow (redrawn wo dd) os).cell? ⟨w.heap.size, 1, none⟩ = _ := fun dd os => cell_regrown d1 dd os
        have d2' : ∀ dd os, (grow (redrawn wo dd) os).cell? ⟨w.heap.size, 2, none⟩ = _ := fun dd os => cell_regrown d2 dd os
        have d3' : ∀ dd os, (grow (redrawn wo dd) os).cell? ⟨w.heap.size, 3, none⟩ = _ := fun dd os => cell_regrown d3 dd os
        have d4' : ∀ dd os, (grow (redrawn wo dd) os).cell? ⟨w.heap.size, 4, none⟩ = _ := fun dd os => cell_regrown d4 dd os
        have ch' : ∀ dd os, (grow (redrawn wo dd) os).cell? ⟨h, oh + j, none⟩ = _ := fun dd os => cell_regrown ch dd os
        clear d0 d1 d2 d3 d4 ch
        refine wp_region_quiet_below (by kernel_rfl) (by kernel_rfl) ?_
        repeat (any_goals (first | go_big_quiet_step ((go_at_call 20; exact Calls.regrown_of (HA.out _ _))) | quiet_step ((go_at_call 20; exact Calls.regrown_of (HA.out _ _)))))
        refine wpQuiet_nil ?_
        intro _ hw'
        obtain ⟨⟨dq, osq⟩, hw''⟩ := hw'
        subst hw''
        have HB7 := Lib.hid (HB1.out.trans ((below_regrown wo dq osq).mono HB1.out.size))
        have E2 := Lib.hid (show ns.any (fun y => aheadR code y rg) = true by rw [List.any_eq_true]; exact ⟨y, HYM.out, HM.out⟩)
        go_wp2
        go_ret
        exact ⟨by rw [E.out, E2.out]; rfl, HB7.out⟩
      | false =>
        have HM := Lib.hid hm; clear hm
        have HA : Hid (∀ dd os, Calls Try.prog 20 #[fnV ⟨⟨name, params, regs, frame, code⟩, some ⟨b, off, none⟩, cc⟩, .int .i64 y, .int .i64 rg] (grow (redrawn wo dd) os) fun e w' => e = .returned (.bool false) ∧ Below (grow (redrawn wo dd) os).heap.size (grow (redrawn wo dd) os) w') := Lib.hid (fun dd os => ahead_any _ y rg _ B _ (HC.out.below ((HB1.out.mono hBw).trans ((below_regrown wo dd os).mono (Nat.le_trans hBw HB1.out.size)))) HF.out HYI.out (Nat.le_trans hBw (Nat.le_trans HB1.out.size (below_regrown wo dd os).size)) HM.out)
        go_wp2
        have d0' : ∀ dd os, (grow (redrawn wo dd) os).cell? ⟨w.heap.size, 0, none⟩ = _ := fun dd os => cell_regrown d0 dd os
        have d1' : ∀ dd os, (grow (redrawn wo dd) os).cell? ⟨w.heap.size, 1, none⟩ = _ := fun dd os => cell_regrown d1 dd os
        have d2' : ∀ dd os, (grow (redrawn wo dd) os).cell? ⟨w.heap.size, 2, none⟩ = _ := fun dd os => cell_regrown d2 dd os
        have d3' : ∀ dd os, (grow (redrawn wo dd) os).cell? ⟨w.heap.size, 3, none⟩ = _ := fun dd os => cell_regrown d3 dd os
        have d4' : ∀ dd os, (grow (redrawn wo dd) os).cell? ⟨w.heap.size, 4, none⟩ = _ := fun dd os => cell_regrown d4 dd os
        have ch' : ∀ dd os, (grow (redrawn wo dd) os).cell? ⟨h, oh + j, none⟩ = _ := fun dd os => cell_regrown ch dd os
        clear d0 d1 d2 d3 d4 ch
        refine wp_region_quiet_below (by kernel_rfl) (by kernel_rfl) ?_
        repeat (any_goals (first | go_big_quiet_step ((go_at_call 20; exact Calls.regrown_of (HA.out _ _))) | quiet_step ((go_at_call 20; exact Calls.regrown_of (HA.out _ _)))))
        refine wpQuiet_nil ?_
        intro _ hw'
        obtain ⟨⟨dq, osq⟩, hw''⟩ := hw'
        subst hw''
        have HB7 := Lib.hid (HB1.out.trans ((below_regrown wo dq osq).mono HB1.out.size))
        have HW7 := Lib.hid (((below_regrown wo dq osq).block _ hz).trans HW1.out)
        have HI7 := Lib.hid (HI9.out.below (below_regrown wo dq osq))
        have HN2 := Lib.hid (show (ns.take (j + 1)).any (fun y => aheadR code y rg) = false by rw [HTK.out, List.any_append, HN.out]; simp [HM.out])
        go_wp2
        go_roundw
        case rel => exact ⟨j + 1, by omega, by go_num, HB7, HW7, HI7, HN2⟩
        case measure => simp [intOf]; omega
    · obtain rfl : j = ns.length := by omega
      have E2 := Lib.hid (show ns.any (fun y => aheadR code y rg) = false by have := HN.out; rwa [List.take_length] at this)
      go_wp2
      go_ret
      exact ⟨by rw [E.out, E2.out]; rfl, HB1.out⟩
theorem behind_any (r : FnR) (q : Nat) (rg : Int) (m : Bool) (B : Nat) (w : World) (hc : CodeAt w B r) (hf : RightF r.f) (ha : q < r.f.code.length) (hBw : B ≤ w.heap.size) (hm : behindR r.f.code q rg = m) :
    Calls Try.prog 21 #[fnV r, .int .i64 q, .int .i64 rg] w (RPost (.bool m) w) := hm ▸ behind_v r.f.name r.f.params r.f.regs r.f.frame r.f.code r.ca r.cc q rg B w hc hf ha hBw
end Go.Proofs.Ytpajndeongcjbaa
