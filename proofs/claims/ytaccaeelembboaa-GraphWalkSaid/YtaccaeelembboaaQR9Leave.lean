/-
  Contract of doppelref09's leave.
-/
import Derived.Test.YtaccaeelembboaaQR9A
import Derived.Maps.AppendAt
import Derived.Laws.AppendOwnNone
namespace Go.Proofs.Ytaccaeelembboaa
open Go.RowKit Cd
set_option linter.unusedVariables false
set_option linter.unusedSimpArgs false

/-- Numbers appended out of another row, whatever it is. -/
theorem wpList_append_ints {w : World} {ops : Array Oper} {rest : List Oper} {o : Oper} {a : Act} {Q : Exit → Act → World → Prop} (hgd : o.guard = none) (s x : Operand)
    (ho : o.op = .call { callee := .builtin .append, args := #[s, x], argTypes := #[31, 31] })
    (base : Nat) (i : TypeInfo) (hi : Try.prog.info? 3 = some i) (hz : i.zero = some (.int .i64 0)) (hsize : i.size = 1) (hby : i.bytes = 8)
    (v u : Value) (n m : Nat) (xs : List Value) (ys : List Int) (hs : a.eval s = v) (hx : a.eval x = u) (hown : w.ownsRow base 3 1 v n xs) (hsrc : w.ownsRow 0 3 1 u m (ys.map (Value.int .i64))) (hnm : n + m ≤ 100000) (hbase : base ≤ w.heap.size)
    (h : ∀ v' w', w'.ownsRow base 3 1 v' (n + m) (xs ++ ys.map (Value.int .i64)) → w.grownBy w' v.ownBlock → wpList Try.prog ops Q rest (a.put o.dst v') w') : wpList Try.prog ops Q (o :: rest) a w := by
  obtain ⟨hl, ⟨rfl, rfl⟩ | ⟨g, cap, cur, rfl, hg, hh, h1, h2, h3, ht⟩⟩ := id hsrc
  · have hy : ys = [] := List.eq_nil_of_length_eq_zero (by simpa using hl)
    subst hy
    exact wpList_append_own_none hgd s x _ ho base 3 i 1 Try.underlying31 hi v n xs hs hown hx (h v w (by simpa using hown) (World.grownBy.refl w _))
  · refine wpList_append_own_at w hgd s x _ ho base 3 i (.int .i64 0) 1 8 Try.underlying31 hi hz hsize hby rfl (by decide) v n xs hs hown ⟨g, 0, none⟩ m cap (ys.map (Value.int .i64)) hx (by simpa using hl) (hsrc.cells rfl) (fun u hu => by
      obtain ⟨y, _, rfl⟩ := List.mem_map.1 hu
      simp [Value.oneCell']) (by unfold maxLen; omega) (by omega) hbase (fun v' w' k1 k2 _ _ => h v' w' k1 k2)
/-- The empty row that a literal makes. -/
theorem own_empty (w : World) (N : Nat) (hN : N ≤ w.heap.size) : (w.alloc (.cells #[] 3)).ownsRow N 3 1 (.slice (some ⟨w.heap.size, 0, none⟩) 0 0) 0 [] :=
  ⟨rfl, .inr ⟨w.heap.size, 0, #[], rfl, hN, heap_alloc_new w _, Nat.le_refl _, by unfold maxLen; omega, rfl, rfl⟩⟩
/-- The answer: two rows. -/
def TwoPost (q : LP) (w : World) (e : Ending) (w' : World) : Prop :=
  ∃ v1 v2, e = .returned (.tuple #[v1, v2]) ∧ w'.ownsRow w.heap.size 3 1 v1 q.1.length (q.1.map (Value.int .i64)) ∧ w'.ownsRow w.heap.size 3 1 v2 q.2.length (q.2.map (Value.int .i64)) ∧ Below w.heap.size w w'
/-- What the region that goes deeper reads. -/
def SV (z g j : Nat) (r : FnR) (y : Int) (w : World) : Prop :=
  w.cell? ⟨g, j, none⟩ = some (.int .i64 y) ∧ w.cell? ⟨z, 0, none⟩ = some (.string (sb r.f.name)) ∧ w.cell? ⟨z, 1, none⟩ = some (.int .i64 r.f.params) ∧ w.cell? ⟨z, 2, none⟩ = some (.int .i64 r.f.regs) ∧ w.cell? ⟨z, 3, none⟩ = some (.int .i64 r.f.frame) ∧ w.cell? ⟨z, 4, none⟩ = some (.slice r.ca r.f.code.length r.cc)
theorem SV.below {z g j : Nat} {r : FnR} {y : Int} {w w' : World} (h : SV z g j r y w) (hz : z < w.heap.size) (hg : g < w.heap.size) (hw : Below w.heap.size w w') : SV z g j r y w' := by
  obtain ⟨h0, h1, h2, h3, h4, h5⟩ := h
  exact ⟨(hw.cell (p := ⟨g, j, none⟩) hg).trans h0, (hw.cell (p := ⟨z, 0, none⟩) hz).trans h1, (hw.cell (p := ⟨z, 1, none⟩) hz).trans h2, (hw.cell (p := ⟨z, 2, none⟩) hz).trans h3, (hw.cell (p := ⟨z, 3, none⟩) hz).trans h4, (hw.cell (p := ⟨z, 4, none⟩) hz).trans h5⟩
set_option maxHeartbeats 8000000 in
set_option maxRecDepth 100000 in
theorem leave_v (name : List UInt8) (params regs frame : Int) (code : List Ins) (ca : Option Addr) (cc : Nat) (B : Nat) (hf : RightF ⟨name, params, regs, frame, code⟩) :
    ∀ (f : Nat) (n : Int) (seen left : List Int) (vs vl : Value) (w : World), CodeAt w B ⟨⟨name, params, regs, frame, code⟩, ca, cc⟩ → B ≤ w.heap.size → LGood code (seen, left) → Inside code n → n ∉ seen → code.length ≤ f + seen.length → w.ownsRow 0 3 1 vs seen.length (seen.map (Value.int .i64)) → w.ownsRow 0 3 1 vl left.length (left.map (Value.int .i64)) →
      Calls Try.prog 36 #[fnV ⟨⟨name, params, regs, frame, code⟩, ca, cc⟩, .int .i64 n, vs, vl] w (TwoPost (leaveF code f n (seen, left)) w)
  | 0, n, seen, left, vs, vl, w, hc, hBw, hg, hn, hm, hl, ha, hb => by have := hg.lt hn hm; simp only at this; omega
  | f + 1, n, seen, left, vs, vl, w, hc, hBw, hg, hn, hm, hl, ha, hb => by
    have HIH := Lib.hid (leave_v name params regs frame code ca cc B hf f)
    have hlen := hf.code.2
    simp only at hlen
    have hsl := hg.lt hn hm
    have hll := hg.len
    simp only at hsl hll
    obtain ⟨k, rfl⟩ : ∃ k : Nat, n = (k : Int) := ⟨n.toNat, by have := hn.1; omega⟩
    obtain ⟨x, hx⟩ : ∃ x, code[k]? = some x := ⟨_, List.getElem?_eq_getElem (by have := hn.2; omega)⟩
    obtain ⟨ns, hns⟩ : ∃ ns, next x k = ns := ⟨_, rfl⟩
    have hnl := nexts_len x k
    rw [hns] at hnl
    have HNC := Lib.hid (show nexts code k = ns from (nexts_at (by rw [Int.toNat_natCast]; exact hx)).trans hns)
    have HNS := Lib.hid hns
    have p0 : (0 : Int) ≤ (k : Int) := hn.1
    have p1 : (k : Int) < (code.length : Int) := hn.2
    have HCL := Lib.hid (closed_of hf)
    have HG1 := Lib.hid (hg.add hn hm)
    have HC1 := Lib.hid (hc.below ((Below.refl _ _).alloc hBw (fnO ⟨⟨name, params, regs, frame, code⟩, ca, cc⟩)))
    obtain ⟨b, off, hca, hcb, hBw2, q0, q1, q2, q3, q4, q5, q6, q7, q8, q9, q10, q11, q12, q13, q14⟩ := HC1.out.cells hx
    simp only at hca
    subst hca
    have HC := Lib.hid hc; have HF := Lib.hid hf; have ha2 := ha; have hb2 := hb
    have hbw : b < w.heap.size := by omega
    have HX := Lib.hid hx; clear hx hns hg hn hm hc hf ha hb HC1 q0 q1 q2 q3 q4 q5 q6 q7 q8 q9 q10 q11 q12 q13 q14
    obtain ⟨i0, hi0, hz0, hz1, hz2⟩ := info_parts infoInt
    go_enter Try.func36, Try.ntmps36
    have HSO := Lib.hid ha2; have HLO := Lib.hid hb2; clear ha2 hb2
    go_wp2_with (first | (at_builtin; refine wpList_append_ints rfl (.tmp 12) (.tmp 13) rfl (w.heap.size + 1) i0 hi0 hz0 hz1 hz2 (.slice (some ⟨w.heap.size + 1, 0, none⟩) 0 0) vs 0 seen.length [] seen rfl rfl (by have := own_empty (w.alloc (fnO ⟨⟨name, params, regs, frame, code⟩, some ⟨b, off, none⟩, cc⟩)) (w.heap.size + 1) (by simp); rw [World.size_alloc] at this; exact this) ((HSO.out.alloc (fnO ⟨⟨name, params, regs, frame, code⟩, some ⟨b, off, none⟩, cc⟩)).alloc (.cells #[] 3)) (by omega) (by simp <;> omega) ?_; intro v1 w1 hown1 hgrow1; obtain ⟨g1, cp1, rfl⟩ := row_slice hown1; have HO1 := Lib.hid (show w1.ownsRow (w.heap.size + 1) 3 1 (.slice g1 seen.length cp1) seen.length (seen.map (Value.int .i64)) by simpa using hown1); have HB1 := Lib.hid ((((Below.refl w.heap.size w).alloc (Nat.le_refl _) (fnO ⟨⟨name, params, regs, frame, code⟩, some ⟨b, off, none⟩, cc⟩)).alloc (by simp) (.cells #[] 3)).grown hgrow1 (by simp <;> omega) (fun k e => by simp [Value.ownBlock] at e; omega)); have HW1 := Lib.hid ((hgrow1.block w.heap.size (by simp <;> omega) (by simp [Value.ownBlock])).trans ((Below.heap_alloc _ _ _ (by simp)).trans (heap_alloc_new w (fnO ⟨⟨name, params, regs, frame, code⟩, some ⟨b, off, none⟩, cc⟩)))); have hs1 : w.heap.size + 2 ≤ w1.heap.size := (by have := hgrow1.size; simp at this; omega); have e0 : (0 : Nat) + seen.length = seen.length := Nat.zero_add _; clear hown1 hgrow1) | (at_builtin; refine wpList_append_lies _ rfl (.tmp 14) (.tmp 16) 31 rfl (w.heap.size + 1) 3 i0 (.int .i64 0) 1 8 Try.underlying31 hi0 hz0 hz1 hz2 rfl (by decide) (.slice g1 seen.length cp1) seen.length (seen.map (Value.int .i64)) (by simp [Act.eval]) (HO1.out.alloc _) _ 1 1 [.int .i64 (k : Int)] rfl rfl (cell_new1 _ _ _ _ (by simp)) (by simp [Value.oneCell']) (by omega) (by unfold maxLen; omega) (by omega) (by simp <;> omega) (w1.heap.size + 1) (by simp) ?_; go_loud (intro g2 cap2 w2 hown2 hgrow2 hat2 hlt2; have HO2 := Lib.hid (show w2.ownsRow (w.heap.size + 1) 3 1 (.slice (some ⟨g2, 0, none⟩) (seen.length + 1) cap2) (seen.length + 1) ((seen ++ [(k : Int)]).map (Value.int .i64)) by simpa using hown2); have HB2 := Lib.hid ((HB1.out.alloc HB1.out.size _).grown hgrow2 (by simp <;> omega) (fun k e => by have := (HO1.out.lt k e).1; omega)); have HW2 := Lib.hid ((hgrow2.block w.heap.size (by simp <;> omega) (fun e => by have := (HO1.out.lt _ e.symm).1; omega)).trans ((Below.heap_alloc _ _ _ (by omega)).trans HW1.out)); obtain ⟨d0, d1, d2, d3, d4⟩ := nv5 (w := w2) HW2.out; have hs2 := HB2.out.size; obtain ⟨b', off', hca', _, _, q0, q1, q2, q3, q4, q5, q6, q7, q8, q9, q10, q11, q12, q13, q14⟩ := (HC.out.below (HB2.out.mono hBw)).cells HX.out; simp only [Option.some.injEq, Addr.mk.injEq, and_true] at hca'; obtain ⟨rfl, rfl⟩ := hca'; clear hown2 hgrow2 hat2 hlt2)) | ((with_reducible refine (next_c x (k : Int) ns ⟨p0, by omega⟩ HNS.out _).mono ?_); go_loud (rintro e v3 ⟨a9, cp9, rfl, hi9, hb3⟩; have HI9 := Lib.hid hi9; have HB3 := Lib.hid (HB2.out.trans (hb3.mono hs2)); have HW3 := Lib.hid ((hb3.block w.heap.size (lt_heap HW2.out)).trans HW2.out); have HO3 := Lib.hid (own_keep (w' := v3) HO2.out (fun g' hg' => hb3.block g' (HO2.out.lt g' hg').2)); clear hi9 hb3)))
    have HLL := Lib.hid (show v3.ownsRow 0 3 1 vl left.length (left.map (Value.int .i64)) from own_keep HLO.out (fun g' hg' => HB3.out.block g' (HLO.out.lt g' hg').2))
    have HOS := Lib.hid (show v3.ownsRow w.heap.size 3 1 (.slice (some ⟨g2, 0, none⟩) (seen.length + 1) cap2) (seen ++ [(k : Int)]).length ((seen ++ [(k : Int)]).map (Value.int .i64)) by have := ownsRow_le HO3.out (show w.heap.size ≤ w.heap.size + 1 by omega); simpa using this)
    clear d0 d1 d2 d3 d4 q0 q1 q2 q3 q4 q5 q6 q7 q8 q9 q10 q11 q12 q13 q14 HO1 HO2 HO3 HB1 HB2 HW1 HW2
    go_loopw [2, 3, 11] (fun s2 s3 s11 wr => ∃ (j : Nat) (p : LP), j ≤ ns.length ∧ s11 = .int .i64 j ∧ Hid (leaveL (leaveF code f) (ns.take j) (seen ++ [(k : Int)], left) = p) ∧ Hid (wr.ownsRow w.heap.size 3 1 s2 p.1.length (p.1.map (Value.int .i64))) ∧ Hid (wr.ownsRow 0 3 1 s3 p.2.length (p.2.map (Value.int .i64))) ∧ Hid (Below w.heap.size w wr) ∧ Hid (wr.heap[w.heap.size]? = some (fnO ⟨⟨name, params, regs, frame, code⟩, some ⟨b, off, none⟩, cc⟩)) ∧ Hid (IntsAt wr a9 ns) ∧ Hid (LGood code p) ∧ seen.length + 1 ≤ p.1.length) (fun _ _ s11 wr => ns.length - (intOf s11).toNat)
    case atStart => exact ⟨0, (seen ++ [(k : Int)], left), by omega, rfl, Lib.hid rfl, HOS, HLL, HB3, HW3, HI9, HG1, by simp⟩
    case round =>
      clear HLL HOS HB3 HW3 HI9
      obtain ⟨j, p, hj, rfl, HP, HO, HL, HB, HW, HI, HG, hsp⟩ := hrel
      obtain ⟨s2a, s2c, rfl⟩ := row_slice HO.out
      obtain ⟨s3a, s3c, rfl⟩ := row_slice HL.out
      have hz := lt_heap HW.out
      have hle := HG.out.le
      have hle2 := HG.out.len
      obtain ⟨d0, d1, d2, d3, d4⟩ := nv5 HW.out
      by_cases hlj : j < ns.length
      · obtain ⟨y, hy⟩ : ∃ y, ns[j]? = some y := ⟨_, List.getElem?_eq_getElem hlj⟩
        obtain ⟨h, oh, rfl, hhl, ch⟩ := HI.out.at hy
        have HTK := Lib.hid (take_more hy)
        have HYI := Lib.hid (HCL.out (k : Int) ⟨p0, p1⟩ y (by rw [HNC.out]; exact List.mem_of_getElem? hy))
        clear hy
        have r0 : (0 : Int) ≤ (j : Int) := Int.natCast_nonneg _
        have r1 : (j : Int) < (ns.length : Int) := by omega
        have HIA := Lib.hid (IntsAt.of_own HO.out)
        by_cases hyo : y ∈ p.1
        · have HP2 := Lib.hid (show leaveL (leaveF code f) (ns.take (j + 1)) (seen ++ [(k : Int)], left) = p by rw [HTK.out, leaveL_snoc, HP.out, if_pos hyo])
          have HCT := Lib.hid (show p.1.contains y = true by rw [List.contains_iff_mem]; exact hyo)
          clear hyo
          go_wp2_with ((with_reducible refine (in_v p.1 s2a s2c y true _ HIA.out (by unfold maxLen; omega) HCT.out).mono ?_); rintro e v5 ⟨rfl, rfl⟩)
          go_roundw
          case rel => exact ⟨j + 1, p, by omega, by go_num, HP2, HO, HL, HB, HW, HI, HG, hsp⟩
          case measure => simp [intOf]; omega
        have HP2 := Lib.hid (show leaveL (leaveF code f) (ns.take (j + 1)) (seen ++ [(k : Int)], left) = leaveF code f y p by rw [HTK.out, leaveL_snoc, HP.out, if_neg hyo])
        have HCT := Lib.hid (show p.1.contains y = false by rw [Bool.eq_false_iff, ne_eq, List.contains_iff_mem]; exact hyo)
        have HYO := Lib.hid hyo; clear hyo
        obtain ⟨HG2, hgr⟩ := leaveF_good HCL.out f y p HG.out HYI.out HYO.out
        have hsp2 : seen.length + 1 ≤ (leaveF code f y p).1.length := by have := hgr.1.length_le; omega
        have HG3 := Lib.hid HG2; clear HG2 hgr
        obtain ⟨wo, rfl⟩ : ∃ wo : World, wo = wr := ⟨_, rfl⟩
        go_wp2_with ((with_reducible refine (in_v p.1 s2a s2c y false _ HIA.out (by unfold maxLen; omega) HCT.out).mono ?_); rintro e v5 ⟨rfl, rfl⟩)
        have hmix : Try.prog.follows .mixedOrders = true := by kernel_rfl
        have hSV : SV w.heap.size h (oh + j) ⟨⟨name, params, regs, frame, code⟩, some ⟨b, off, none⟩, cc⟩ y wo.drew := ⟨ch, d0, d1, d2, d3, d4⟩
        have BB := drW HB.out
        clear ch d0 d1 d2 d3 d4
        refine region_lastS (SV w.heap.size h (oh + j) ⟨⟨name, params, regs, frame, code⟩, some ⟨b, off, none⟩, cc⟩ y) 12 hmix hSV (fun hS => ?main)
        clear hSV
        refine anyL_take (i := 0) (v := ?_) rfl rfl (by kernel_rfl) (by kernel_rfl) (by kernel_rfl) (by kernel_rfl) (fun _ _ _ h => h) (Or.inl ⟨by rfl, ?_⟩) hS ?_
        rotate_left
        · (intro w' hSw; obtain ⟨k0, k1, k2, k3, k4, k5⟩ := hSw; go_simp; first | done | with_reducible rfl)
        simp only [Act.put, List.getElem_toArray, List.getElem_cons_succ, List.getElem_cons_zero, List.setIfInBounds_toArray, List.set_cons_succ, List.set_cons_zero]
        refine anyL_take (i := 1) (v := ?_) rfl rfl (by kernel_rfl) (by kernel_rfl) (by kernel_rfl) (by kernel_rfl) (fun _ _ _ h => h) (Or.inl ⟨by rfl, ?_⟩) hS ?_
        rotate_left
        · (intro w' hSw; obtain ⟨k0, k1, k2, k3, k4, k5⟩ := hSw; go_simp; first | done | with_reducible rfl)
        simp only [Act.put, List.getElem_toArray, List.getElem_cons_succ, List.getElem_cons_zero, List.setIfInBounds_toArray, List.set_cons_succ, List.set_cons_zero]
        refine anyL_take (i := 2) (v := ?_) rfl rfl (by kernel_rfl) (by kernel_rfl) (by kernel_rfl) (by kernel_rfl) (fun _ _ _ h => h) (Or.inl ⟨by rfl, ?_⟩) hS ?_
        rotate_left
        · (intro w' hSw; obtain ⟨k0, k1, k2, k3, k4, k5⟩ := hSw; go_simp; first | done | with_reducible rfl)
        simp only [Act.put, List.getElem_toArray, List.getElem_cons_succ, List.getElem_cons_zero, List.setIfInBounds_toArray, List.set_cons_succ, List.set_cons_zero]
        refine anyL_take (i := 3) (v := ?_) rfl rfl (by kernel_rfl) (by kernel_rfl) (by kernel_rfl) (by kernel_rfl) (fun _ _ _ h => h) (Or.inl ⟨by rfl, ?_⟩) hS ?_
        rotate_left
        · (intro w' hSw; obtain ⟨k0, k1, k2, k3, k4, k5⟩ := hSw; go_simp; first | done | with_reducible rfl)
        simp only [Act.put, List.getElem_toArray, List.getElem_cons_succ, List.getElem_cons_zero, List.setIfInBounds_toArray, List.set_cons_succ, List.set_cons_zero]
        refine anyL_take (i := 4) (v := ?_) rfl rfl (by kernel_rfl) (by kernel_rfl) (by kernel_rfl) (by kernel_rfl) (fun _ _ _ h => h) (Or.inl ⟨by rfl, ?_⟩) hS ?_
        rotate_left
        · (intro w' hSw; obtain ⟨k0, k1, k2, k3, k4, k5⟩ := hSw; go_simp; first | done | with_reducible rfl)
        simp only [Act.put, List.getElem_toArray, List.getElem_cons_succ, List.getElem_cons_zero, List.setIfInBounds_toArray, List.set_cons_succ, List.set_cons_zero]
        refine anyL_take (i := 5) (v := ?_) rfl rfl (by kernel_rfl) (by kernel_rfl) (by kernel_rfl) (by kernel_rfl) (fun _ _ _ h => h) (Or.inl ⟨by rfl, ?_⟩) hS ?_
        rotate_left
        · (intro w' hSw; obtain ⟨k0, k1, k2, k3, k4, k5⟩ := hSw; go_simp; first | done | with_reducible rfl)
        simp only [Act.put, List.getElem_toArray, List.getElem_cons_succ, List.getElem_cons_zero, List.setIfInBounds_toArray, List.set_cons_succ, List.set_cons_zero]
        refine anyL_take (i := 6) (v := ?_) rfl rfl (by kernel_rfl) (by kernel_rfl) (by kernel_rfl) (by kernel_rfl) (fun _ _ _ h => h) (Or.inl ⟨by rfl, ?_⟩) hS ?_
        rotate_left
        · (intro w' hSw; obtain ⟨k0, k1, k2, k3, k4, k5⟩ := hSw; go_simp; first | done | with_reducible rfl)
        simp only [Act.put, List.getElem_toArray, List.getElem_cons_succ, List.getElem_cons_zero, List.setIfInBounds_toArray, List.set_cons_succ, List.set_cons_zero]
        refine anyL_one (i := 7) (by kernel_rfl) rfl (fun K1 hK1 => ?_)
        go_simp
        refine (HIH.out y p.1 p.2 _ _ wo.drew (HC.out.below (BB.mono hBw)) (Nat.le_trans hBw BB.size) HG.out HYI.out HYO.out (by omega) (ownsRow_le HO.out.drew (Nat.zero_le _)) HL.out.drew).mono ?_
        rintro e v6 ⟨u1, u2, rfl, ho1, ho2, hbx⟩
        have hSx := hS.below (w := wo.drew) hz hhl hbx
        refine hK1.out _ _ (fun _ => hSx) ?_
        clear hK1 K1 hS
        have hS := hSx; clear hSx
        have HO4 := Lib.hid (ownsRow_le ho1 BB.size)
        have HL4 := Lib.hid (ownsRow_le ho2 (Nat.zero_le _))
        have HB4 := Lib.hid (BB.trans (hbx.mono BB.size))
        have HW4 : Hid (v6.heap[w.heap.size]? = some (fnO ⟨⟨name, params, regs, frame, code⟩, some ⟨b, off, none⟩, cc⟩)) := Lib.hid ((hbx.block _ hz).trans HW.out)
        have HI4 : Hid (IntsAt v6 (some ⟨h, oh, none⟩) ns) := Lib.hid (IntsAt.below (w := wo.drew) HI.out hbx)
        clear ho1 ho2 hbx BB
        refine anyL_take (i := 8) (v := ?_) rfl rfl (by kernel_rfl) (by kernel_rfl) (by kernel_rfl) (by kernel_rfl) (fun _ _ _ h => h) (Or.inl ⟨by rfl, ?_⟩) hS ?_
        rotate_left
        · (intro w' hSw; obtain ⟨k0, k1, k2, k3, k4, k5⟩ := hSw; go_simp; first | done | with_reducible rfl)
        simp only [Act.put, List.getElem_toArray, List.getElem_cons_succ, List.getElem_cons_zero, List.setIfInBounds_toArray, List.set_cons_succ, List.set_cons_zero]
        refine anyL_take (i := 9) (v := ?_) rfl rfl (by kernel_rfl) (by kernel_rfl) (by kernel_rfl) (by kernel_rfl) (fun _ _ _ h => h) (Or.inl ⟨by rfl, ?_⟩) hS ?_
        rotate_left
        · (intro w' hSw; obtain ⟨k0, k1, k2, k3, k4, k5⟩ := hSw; go_simp; first | done | with_reducible rfl)
        simp only [Act.put, List.getElem_toArray, List.getElem_cons_succ, List.getElem_cons_zero, List.setIfInBounds_toArray, List.set_cons_succ, List.set_cons_zero]
        refine anyL_take (i := 10) (v := ?_) rfl rfl (by kernel_rfl) (by kernel_rfl) (by kernel_rfl) (by kernel_rfl) (fun _ _ _ h => h) (Or.inl ⟨by rfl, ?_⟩) hS ?_
        rotate_left
        · (intro w' hSw; obtain ⟨k0, k1, k2, k3, k4, k5⟩ := hSw; go_simp; first | done | with_reducible rfl)
        simp only [Act.put, List.getElem_toArray, List.getElem_cons_succ, List.getElem_cons_zero, List.setIfInBounds_toArray, List.set_cons_succ, List.set_cons_zero]
        refine anyL_take (i := 11) (v := ?_) rfl rfl (by kernel_rfl) (by kernel_rfl) (by kernel_rfl) (by kernel_rfl) (fun _ _ _ h => h) (Or.inl ⟨by rfl, ?_⟩) hS ?_
        rotate_left
        · (intro w' hSw; obtain ⟨k0, k1, k2, k3, k4, k5⟩ := hSw; go_simp; first | done | with_reducible rfl)
        simp only [Act.put, List.getElem_toArray, List.getElem_cons_succ, List.getElem_cons_zero, List.setIfInBounds_toArray, List.set_cons_succ, List.set_cons_zero]
        refine anyL_one (i := 12) (by kernel_rfl) rfl (fun K1 hK1 => ?_)
        go_simp
        refine hK1.out _ _ (fun h => absurd rfl h) ?_
        clear hK1 K1 hS
        refine anyL_done (by kernel_rfl) ?_ _
        go_wp2
        go_roundw
        case rel => exact ⟨j + 1, leaveF code f y p, by omega, by go_num, HP2, HO4, HL4, HB4, HW4, HI4, HG3, hsp2⟩
        case measure => simp [intOf]; omega
      · obtain rfl : j = ns.length := by omega
        have HQ := Lib.hid (show leaveF code (f + 1) (k : Int) (seen, left) = (p.1, p.2 ++ [(k : Int)]) by unfold leaveF; have := HP.out; rw [List.take_length] at this; rw [HNC.out, this])
        have hsz := HB.out.size
        go_wp2_with (first | (at_builtin; refine wpList_append_ints rfl (.tmp 50) (.tmp 51) rfl wr.heap.size i0 hi0 hz0 hz1 hz2 (.slice (some ⟨wr.heap.size, 0, none⟩) 0 0) (.slice s3a p.2.length s3c) 0 p.2.length [] p.2 rfl rfl (own_empty wr wr.heap.size (Nat.le_refl _)) (HL.out.alloc (.cells #[] 3)) (by omega) (by simp <;> omega) ?_; intro v7 w7 hown7 hgrow7; obtain ⟨g7, cp7, rfl⟩ := row_slice hown7; have HO7 := Lib.hid (show w7.ownsRow wr.heap.size 3 1 (.slice g7 p.2.length cp7) p.2.length (p.2.map (Value.int .i64)) by simpa using hown7); have HB7 := Lib.hid ((HB.out.alloc hsz (.cells #[] 3)).grown hgrow7 (by simp <;> omega) (fun k e => by simp [Value.ownBlock] at e; omega)); have HS7 := Lib.hid (own_keep (w' := w7) HO.out (fun g' hg' => (hgrow7.block g' (by have := (HO.out.lt g' hg').2; simp <;> omega) (fun e => by have := (HO.out.lt g' hg').2; simp [Value.ownBlock] at e; omega)).trans (Below.heap_alloc _ _ _ (HO.out.lt g' hg').2))); have hap7 : ∀ g', (Value.slice s2a p.1.length s2c).ownBlock = some g' → (Value.slice g7 p.2.length cp7).ownBlock ≠ some g' := (fun g' hg' e => by have h1 := (HO.out.lt g' hg').2; have h2 := (HO7.out.lt g' e).1; omega); have hgrs7 : wr.heap.size ≤ w7.heap.size := (by have := hgrow7.size; simp at this; omega); have e7 : (0 : Nat) + p.2.length = p.2.length := Nat.zero_add _; clear hown7 hgrow7) | (at_builtin; refine wpList_append_lies _ rfl (.tmp 52) (.tmp 54) 31 rfl wr.heap.size 3 i0 (.int .i64 0) 1 8 Try.underlying31 hi0 hz0 hz1 hz2 rfl (by decide) (.slice g7 p.2.length cp7) p.2.length (p.2.map (Value.int .i64)) (by simp [Act.eval]) (HO7.out.alloc _) _ 1 1 [.int .i64 (k : Int)] rfl rfl (cell_new1 _ _ _ _ (by simp)) (by simp [Value.oneCell']) (by omega) (by unfold maxLen; omega) (by omega) (by have := hgrs7; simp <;> omega) (w7.heap.size + 1) (by simp) ?_; go_loud (intro g8 cap8 w8 hown8 hgrow8 hat8 hlt8; have HO8 := Lib.hid (show w8.ownsRow wr.heap.size 3 1 (.slice (some ⟨g8, 0, none⟩) (p.2.length + 1) cap8) (p.2 ++ [(k : Int)]).length ((p.2 ++ [(k : Int)]).map (Value.int .i64)) by simpa using hown8); have HB8 := Lib.hid ((HB7.out.alloc HB7.out.size _).grown hgrow8 (by have := HB7.out.size; simp <;> omega) (fun k e => by have := (HO7.out.lt k e).1; omega)); have HS8 := Lib.hid (own_keep (w' := w8) HS7.out (fun g' hg' => (hgrow8.block g' (by have := (HS7.out.lt g' hg').2; simp <;> omega) (fun e => hap7 g' hg' e.symm)).trans (Below.heap_alloc _ _ _ (HS7.out.lt g' hg').2))); clear hown8 hgrow8 hat8 hlt8)))
        go_ret2
        refine ⟨_, _, rfl, ?_, ?_, HB8.out⟩
        · rw [HQ.out]; exact HS8.out
        · rw [HQ.out]; exact ownsRow_le HO8.out hsz
theorem leave_any (r : FnR) (f : Nat) (n : Int) (seen left : List Int) (vs vl : Value) (B : Nat) (w : World) (hc : CodeAt w B r) (hf : RightF r.f) (hBw : B ≤ w.heap.size) (hg : LGood r.f.code (seen, left)) (hn : Inside r.f.code n) (hm : n ∉ seen) (hl : r.f.code.length ≤ f + seen.length) (h1 : w.ownsRow 0 3 1 vs seen.length (seen.map (Value.int .i64))) (h2 : w.ownsRow 0 3 1 vl left.length (left.map (Value.int .i64))) :
    Calls Try.prog 36 #[fnV r, .int .i64 n, vs, vl] w (TwoPost (leaveF r.f.code f n (seen, left)) w) := leave_v r.f.name r.f.params r.f.regs r.f.frame r.f.code r.ca r.cc B hf f n seen left vs vl w hc hBw hg hn hm hl h1 h2
set_option maxHeartbeats 4000000 in
theorem order_any (r : FnR) (B : Nat) (w : World) (hc : CodeAt w B r) (hf : RightF r.f) (hBw : B ≤ w.heap.size) :
    Calls Try.prog 16 #[fnV r] w (ListPost (orderN r.f.code) w) := by
  have hlen := hf.code.2
  have hg0 : LGood r.f.code (([], []) : LP) := ⟨by simp, by simp, by simp⟩
  obtain ⟨hg, hgr⟩ := leaveF_good (closed_of hf) r.f.code.length 0 ([], []) hg0 (zero_inside hf.code.1) (by simp)
  obtain ⟨q, hq⟩ : ∃ q, leaveF r.f.code r.f.code.length 0 ([], []) = q := ⟨_, rfl⟩
  rw [hq] at hg hgr
  have hql := hg.le
  have hq2 := hg.len
  have E := Lib.hid (show orderN r.f.code = q.2.reverse by unfold orderN; rw [hq])
  have HQ := Lib.hid hq; have HC := Lib.hid hc; have HF := Lib.hid hf; have HG0 := Lib.hid hg0
  clear hq hc hf hg hgr hg0
  obtain ⟨i0, hi0, hz0, hz1, hz2⟩ := info_parts infoInt
  go_enter Try.func16, Try.ntmps16
  go_wp2_with ((with_reducible refine (leave_any r r.f.code.length 0 [] [] (.slice none 0 0) (.slice none 0 0) B _ (HC.out.below ((Below.refl _ _).alloc hBw _)) HF.out (by simp <;> omega) HG0.out (zero_inside HF.out.code.1) (by simp) (by simp) (World.ownsRow_nil _ _ _ _) (World.ownsRow_nil _ _ _ _)).mono ?_); go_loud (rintro e v1 ⟨u1, u2, rfl, ho1, ho2, hb1⟩; rw [HQ.out] at ho1 ho2; obtain ⟨a1, c1, rfl⟩ := row_slice ho1; obtain ⟨a2, c2, rfl⟩ := row_slice ho2; have HO := Lib.hid ho2; have HB := Lib.hid (((Below.refl w.heap.size w).alloc (Nat.le_refl _) (fnO r)).trans (hb1.mono (by simp <;> omega))); have HI := Lib.hid (IntsAt.of_own ho2); clear ho1 ho2 hb1))
  obtain ⟨wb, rfl⟩ : ∃ wb : World, wb = v1 := ⟨_, rfl⟩
  go_loopw [5, 6] (fun s5 s6 wr => ∃ (m : Nat), m ≤ q.2.length ∧ s6 = .int .i64 ((m : Int) - 1) ∧ Hid (wr.ownsRow wb.heap.size 3 1 s5 (q.2.length - m) (((q.2.reverse).take (q.2.length - m)).map (Value.int .i64))) ∧ Hid (Below wb.heap.size wb wr)) (fun _ s6 wr => (intOf s6 + 1).toNat)
  case atStart => exact ⟨q.2.length, by omega, (by first | rfl | go_num), Lib.hid (by simpa using World.ownsRow_nil wb wb.heap.size 3 1), Lib.hid (Below.refl _ _)⟩
  case round =>
    obtain ⟨m, hm, rfl, HR, HBB⟩ := hrel
    obtain ⟨a5, c5, rfl⟩ := row_slice HR.out
    have hbs := HBB.out.size
    cases m with
    | zero =>
      have t0 : decide (((0 : Nat) : Int) - 1 ≥ (0 : Int)) = false := by simp
      have t1 : decide ((0 : Int) ≤ ((0 : Nat) : Int) - 1) = false := by simp
      go_wp2
      go_ret
      refine ⟨_, rfl, ?_, HB.out.trans (HBB.out.mono HB.out.size)⟩
      rw [E.out]
      have := ownsRow_le HR.out HB.out.size
      rw [Nat.sub_zero, List.take_of_length_le (by simp)] at this
      rw [List.length_reverse]
      exact this
    | succ m =>
      obtain ⟨y, hy⟩ : ∃ y, q.2[m]? = some y := ⟨_, List.getElem?_eq_getElem (by omega)⟩
      obtain ⟨g, off, rfl, hgl, ch0⟩ := HI.out.at hy
      have ch : wr.cell? ⟨g, off + m, none⟩ = some (.int .i64 y) := (HBB.out.cell (p := ⟨g, off + m, none⟩) hgl).trans ch0
      have hgw : g < wr.heap.size := by omega
      have hrv : (q.2.reverse)[q.2.length - (m + 1)]? = some y := by rw [List.getElem?_reverse (by omega)]; rw [show q.2.length - 1 - (q.2.length - (m + 1)) = m by omega]; exact hy
      have HTK := Lib.hid (take_more hrv)
      clear hy hrv ch0
      have p0 : (((m + 1 : Nat) : Int) - 1) = (m : Int) := by omega
      have p1 : (0 : Int) ≤ (m : Int) := Int.natCast_nonneg _
      have p2 : (m : Int) < (q.2.length : Int) := by omega
      obtain ⟨d, hd⟩ : ∃ d, q.2.length - (m + 1) = d := ⟨_, rfl⟩
      rw [hd] at HR HTK ⊢
      have hd2 : q.2.length - m = d + 1 := by omega
      have hdl : d + 1 ≤ q.2.length := by omega
      have HD2 := Lib.hid hd2; clear hd hd2
      rw [p0]
      clear p0
      go_wp2_with (at_builtin; go_loud (refine wpList_append_lies _ rfl (.tmp 19) (.tmp 24) 31 rfl wb.heap.size 3 i0 (.int .i64 0) 1 8 Try.underlying31 hi0 hz0 hz1 hz2 rfl (by decide) (.slice a5 d c5) d (((q.2.reverse).take d).map (Value.int .i64)) (by simp [Act.eval]) (HR.out.alloc _) _ 1 1 [.int .i64 y] rfl rfl (cell_new1 _ _ _ _ (by simp)) (by simp [Value.oneCell']) (by omega) (by unfold maxLen; omega) (by omega) (by simp <;> omega) (wr.heap.size + 1) (by simp) ?_; intro g8 cap8 w8 hown8 hgrow8 hat8 hlt8; have HO8 := Lib.hid (show w8.ownsRow wb.heap.size 3 1 (.slice (some ⟨g8, 0, none⟩) (d + 1) cap8) (d + 1) (((q.2.reverse).take (d + 1)).map (Value.int .i64)) by rw [HTK.out, List.map_append]; exact hown8); have HB8 := Lib.hid ((HBB.out.alloc hbs _).grown hgrow8 (by simp <;> omega) (fun k e => by have := (HR.out.lt k e).1; omega)); clear hown8 hgrow8 hat8 hlt8))
      go_roundw
      case rel => exact ⟨m, by omega, by go_num, by rw [HD2.out]; exact HO8, HB8⟩
      case measure => simp [intOf] <;> omega
end Go.Proofs.Ytaccaeelembboaa
