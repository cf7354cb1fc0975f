/-
  Layer 10: the beginning of usesOf: rows and maps made in whatever order.
-/
import Derived.Test.YtgnpbodhjmappaaPG10Reach
import Derived.Test.YtgnpbodhjmappaaPLG
import Derived.Test.YtgnpbodhjmappaaPMF
import Derived.Test.YtgnpbodhjmappaaPMG
import Derived.Deep.RegionLaw
set_option linter.unusedVariables false
set_option linter.unusedSimpArgs false
namespace Go.Proofs.Ytgnpbodhjmappaa
set_option maxRecDepth 100000
open Go.RowKit Cd Go.Maps
open List renaming getElem_toArray → zA, getElem_cons_succ → zB, getElem_cons_zero → zC, setIfInBounds_toArray → zD, set_cons_succ → zE, set_cons_zero → zF
def slot (l : Bool) (v : Value) : Value := if l = true then v else undef
structure Its (N : Nat) (ob : Nat → Obj) (L : Nat → Bool) (b : Nat → Nat) (w : World) : Prop where
  at_ : ∀ k, L k = true → N ≤ b k ∧ w.heap[b k]? = some (ob k)
  apart : ∀ k l, L k = true → L l = true → k ≠ l → b k ≠ b l
theorem Its.none (N : Nat) (ob : Nat → Obj) (L : Nat → Bool) (b : Nat → Nat) (w : World) (h : ∀ k, L k = false) : Its N ob L b w := ⟨(fun k hk => by rw [h k] at hk; cases hk), (fun k l hk => by rw [h k] at hk; cases hk)⟩
theorem Its.alloc {N : Nat} {ob : Nat → Obj} {L L' : Nat → Bool} {b : Nat → Nat} {w : World} (h : Its N ob L b w) (hN : N ≤ w.heap.size) (k : Nat) (hL : ∀ j, L' j = true → j ≠ k → L j = true) : Its N ob L' (fun j => if j = k then w.heap.size else b j) (w.alloc (ob k)) := by
  have hlt : ∀ j, L j = true → b j < w.heap.size := fun j hj => lt_heap (h.at_ j hj).2
  refine ⟨fun j hj => ?_, fun i j hi hj hij => ?_⟩
  · by_cases e : j = k
    · subst e
      simp only [if_true]
      exact ⟨hN, heap_alloc_new w _⟩
    · simp only [e, if_false]
      have hj' := hL j hj e
      exact ⟨(h.at_ j hj').1, (Below.heap_alloc _ _ _ (hlt j hj')).trans (h.at_ j hj').2⟩
  · by_cases e : i = k
    · subst e
      have e2 : ¬ j = i := fun e2 => hij e2.symm
      simp only [if_true, e2, if_false]
      have := hlt j (hL j hj e2)
      omega
    · by_cases e2 : j = k
      · subst e2
        simp only [if_true, e, if_false]
        have := hlt i (hL i hi e)
        omega
      · simp only [e, e2, if_false]
        exact h.apart i j (hL i hi e) (hL j hj e2) hij
theorem Its.same {N : Nat} {ob : Nat → Obj} {L L' : Nat → Bool} {b : Nat → Nat} {w : World} (h : Its N ob L b w) (hL : ∀ j, L' j = true → L j = true) : Its N ob L' b w :=
  ⟨fun k hk => h.at_ k (hL k hk), fun k l hk hl => h.apart k l (hL k hk) (hL l hl)⟩
theorem not_ready {md : Region.Mode} {ops : Array Oper} {listed : Array Bool} (hr : Region.ready md ops listed = []) (i : Nat) (o : Oper) (ho : ops[i]? = some o) (h0 : listed.getD i true = false) (h : ∀ e ∈ o.after, Region.binds md e = true → listed.getD e.on false = true) : False := by
  have := mem_ready.2 ⟨h0, o, ho, h⟩
  rw [hr] at this
  cases this
theorem allT (k : Nat) (hk : k < 6) : [true, true, true, true, true, true].getD k false = true := by
  rcases k with _ | _ | _ | _ | _ | _ | k
  all_goals first | rfl | omega
theorem sets5 {W : World} {b : Nat} {x0 x1 x2 x3 x4 : Value} {t : TypeId} (h : W.heap[b]? = some (.cells #[x0, x1, x2, x3, x4] t (0, 0))) (y0 y1 y2 y3 y4 : Value) :
    (((((W.setCell ⟨b, 0, none⟩ y0).setCell ⟨b, 1, none⟩ y1).setCell ⟨b, 2, none⟩ y2).setCell ⟨b, 3, none⟩ y3).setCell ⟨b, 4, none⟩ y4).heap[b]? = some (.cells #[y0, y1, y2, y3, y4] t (0, 0)) ∧
      ∀ k, k ≠ b → (((((W.setCell ⟨b, 0, none⟩ y0).setCell ⟨b, 1, none⟩ y1).setCell ⟨b, 2, none⟩ y2).setCell ⟨b, 3, none⟩ y3).setCell ⟨b, 4, none⟩ y4).heap[k]? = W.heap[k]? := by
  refine ⟨?_, fun k hk => ?_⟩
  · have h1 := cells_set (cells_set (cells_set (cells_set (cells_set h 0 y0) 1 y1) 2 y2) 3 y3) 4 y4
    simpa using h1
  · rw [heap_other7 hk, heap_other7 hk, heap_other7 hk, heap_other7 hk, heap_other7 hk]
theorem set_old {code : List Ins} {k : Nat} (h : k < code.length) : (((code.take k).map Cd.sets) ++ List.replicate (code.length - k) (0 : Int))[k]? = some 0 := by
  have hl : ((code.take k).map Cd.sets).length = k := by rw [List.length_map, List.length_take]; omega
  rw [List.getElem?_append_right (by omega), hl, Nat.sub_self, List.getElem?_replicate, if_pos (by omega)]
set_option maxHeartbeats 8000000 in
theorem usesOf_c (name : List UInt8) (params regs frame : Int) (code : List Ins) (ca : Option Addr) (cc : Nat) (w : World) (hwf : ∀ (p : Nat) (i : Ins), code[p]? = some i → (∀ y ∈ uses i, (Lit.int .i64 y).wf = true) ∧ (pureI i = true → (Lit.int .i64 i.dst).wf = true)) (hlen : code.length ≤ 10000) (hcl : Closed code) (hC : CodeAt w w.heap.size ⟨⟨name, params, regs, frame, code⟩, ca, cc⟩) :
    Calls Try.prog 35 #[fnV ⟨⟨name, params, regs, frame, code⟩, ca, cc⟩] w (fun e w' => ∃ (b : Nat → Nat) (V : Nat → Int → Value) (lo : Nat), e = .returned (usV (some ⟨b 0, 0, none⟩) code.length code.length (some ⟨b 1, 0, none⟩) code.length code.length (b 2) (b 3) (some ⟨b 4, 0, none⟩) code.length code.length) ∧ w.heap.size + 2 ≤ lo ∧ USt w' (w.heap.size + 2) lo code.length (9 * code.length) b V (UG code code.length) (code.map Cd.sets) ∧ Below w.heap.size w w') := by
  have hmix : Try.prog.follows .mixedOrders = true := by kernel_rfl
  have n0 : (0 : Int) ≤ (code.length : Int) := Int.natCast_nonneg _
  have hmk1 := make_rows code.length (by omega)
  have hmk2 := make_ints code.length (by omega)
  have hmk3 := make_bools code.length (by omega)
  obtain ⟨d0, d1, d2, d3, d4⟩ := nv5 (heap_alloc_new w (fnO ⟨⟨name, params, regs, frame, code⟩, ca, cc⟩))
  go_enter Try.func35, Try.ntmps35
  go_upto_region 2 with fail
  obtain ⟨OB, hOB⟩ : ∃ OB : Nat → Obj, (fun k : Nat => match k with | 0 => rObj (List.replicate code.length (.slice none 0 0)) | 1 => iObj (List.replicate code.length 0) | 2 => .map #[] 0 | 3 => .map #[] 0 | 4 => bObj (List.replicate code.length false) | 5 => .cells #[.slice none 0 0, .slice none 0 0, .map none, .map none, .slice none 0 0] 57 | _ => .map #[] 0) = OB := ⟨_, rfl⟩
  have hob0 : OB 0 = rObj (List.replicate code.length (.slice none 0 0)) := (congrFun hOB 0).symm
  have hob1 : OB 1 = iObj (List.replicate code.length 0) := (congrFun hOB 1).symm
  have hob2 : OB 2 = .map #[] 0 := (congrFun hOB 2).symm
  have hob3 : OB 3 = .map #[] 0 := (congrFun hOB 3).symm
  have hob4 : OB 4 = bObj (List.replicate code.length false) := (congrFun hOB 4).symm
  have hob5 : OB 5 = .cells #[.slice none 0 0, .slice none 0 0, .map none, .map none, .slice none 0 0] 57 := (congrFun hOB 5).symm
  obtain ⟨W2, hW2⟩ : ∃ W2, (w.alloc (fnO ⟨⟨name, params, regs, frame, code⟩, ca, cc⟩)).alloc (.cells #[.slice none 0 0, .slice none 0 0, .map none, .map none, .slice none 0 0] 57) = W2 := ⟨_, rfl⟩
  have hW2s : W2.heap.size = w.heap.size + 2 := by rw [← hW2]; simp
  rw [hW2]
  go_cut [4] from 14 to 22 (fun s4 wc => ∃ b : Nat → Nat, s4 = .pointer (some ⟨b 5, 0, none⟩) ∧ Hid (MadeU (w.heap.size + 2) code.length b wc) ∧ Hid (Below (w.heap.size + 2) W2 wc))
  case rest =>
    obtain ⟨b, rfl, HM, HBW⟩ := hcut
    have HU := Lib.hid (USt.made HM.out)
    clear HM
    have c4 : wc.cell? ⟨w.heap.size, 4, none⟩ = some (.slice ca code.length cc) := by
      rw [Below.cell HBW.out (show w.heap.size < w.heap.size + 2 by omega), ← hW2]
      exact (World.cell?_of_block (w := w.alloc (fnO ⟨⟨name, params, regs, frame, code⟩, ca, cc⟩)) (Below.heap_alloc _ _ _ (by simp))).trans d4
    have HB2 : Hid (Below w.heap.size w W2) := Lib.hid (hW2 ▸ ((Below.refl w.heap.size w).alloc (Nat.le_refl _) _).alloc (by simp) _)
    have hres : W2.heap[w.heap.size + 1]? = some (.cells #[.slice none 0 0, .slice none 0 0, .map none, .map none, .slice none 0 0] 57) := by
      rw [← hW2]
      have := heap_alloc_new (w.alloc (fnO ⟨⟨name, params, regs, frame, code⟩, ca, cc⟩)) (.cells #[.slice none 0 0, .slice none 0 0, .map none, .map none, .slice none 0 0] 57)
      rwa [World.size_alloc] at this
    have HRES := Lib.hid hres
    clear hres
    clear hOB hob0 hob1 hob2 hob3 hob4 hob5 d0 d1 d2 d3 d4 hmk1 hmk2 hmk3
    have hlo : w.heap.size + 2 ≤ wc.heap.size := by have := HBW.out.size; omega
    obtain ⟨i0, hi0, hz0, hz1, hz2⟩ := info_parts infoInt
    have HC := Lib.hid hC
    have HCL := Lib.hid hcl
    have HWF := Lib.hid hwf
    clear hwf
    clear hC hcl
    go_wp2
    go_loopw [26] (fun s26 wr => ∃ (k : Nat) (V : Nat → Int → Value), k ≤ code.length ∧ s26 = .int .i64 (k : Int) ∧ wc.heap.size ≤ wr.heap.size ∧ Hid (USt wr (w.heap.size + 2) wc.heap.size code.length (9 * k) b V (UG code k) (((code.take k).map Cd.sets) ++ List.replicate (code.length - k) 0)) ∧ Hid (Below (w.heap.size + 2) W2 wr)) (fun s26 wr => code.length - (intOf s26).toNat)
    case atStart => exact ⟨0, _, by omega, rfl, Nat.le_refl _, Lib.hid (by simpa [UG] using HU.out), HBW⟩
    case round =>
      obtain ⟨k, V, hk, rfl, hbig, HU1, HB1⟩ := hrel
      by_cases hlt : k < code.length
      · obtain ⟨x, hx⟩ : ∃ x, code[k]? = some x := ⟨_, List.getElem?_eq_getElem hlt⟩
        have HC2 := Lib.hid (HC.out.below (HB2.out.trans (HB1.out.mono (by omega))))
        obtain ⟨b', off, hca, hb', hBw2, q0, q1, q2, q3, q4, q5, q6, q7, q8, q9, q10, q11, q12, q13, q14⟩ := HC2.out.cells hx
        simp only at hca
        subst hca
        have HXK := Lib.hid hx
        have p0 : (0 : Int) ≤ (k : Int) := Int.natCast_nonneg _
        have p1 : (k : Int) < (code.length : Int) := by omega
        clear hx
        go_wp2_with ((with_reducible refine (cnext_any x (k : Int) ⟨p0, by omega⟩ _).mono ?_); rintro e v1 ⟨v9, rfl, ho9, hb9⟩; obtain ⟨a9, c9, rfl⟩ := row_slice ho9)
        have hs9 : (wr.alloc (inO x)).heap.size = wr.heap.size + 1 := by simp
        rw [hs9] at ho9 hb9
        have hW9 : Below wr.heap.size wr v1 := ((Below.refl _ _).alloc (Nat.le_refl _) (inO x)).trans (hb9.mono (by omega))
        have HU9 := Lib.hid (HU1.out.below (by omega) hW9)
        have HB9 := Lib.hid (HB1.out.trans (hW9.mono (by have := HB1.out.size; omega)))
        have HX9 : Hid (v1.heap[wr.heap.size]? = some (inO x)) := Lib.hid ((hb9.block wr.heap.size (by omega)).trans (heap_alloc_new wr _))
        have HV9 : Hid (∀ t y g, (V t y).ownBlock = some g → g < wr.heap.size) := Lib.hid (fun t y g e => (HU1.out.fam.at e).2)
        have HL9 : Hid (∀ q, q < 6 → b q < wr.heap.size) := Lib.hid (fun q hq => HU1.out.lt hq)
        have HO9 := Lib.hid ho9
        have hs1 : wr.heap.size < v1.heap.size := lt_heap HX9.out
        obtain ⟨M9, hM9⟩ : ∃ M9, wr.heap.size = M9 := ⟨_, rfl⟩
        rw [hM9] at HX9 HV9 HL9 HO9 hs1 ⊢
        clear ho9 hb9 hW9 hs9 q0 q1 q2 q3 q4 q5 q6 q7 q8 q9 q10 q11 q12 q13 q14 c4
        have hnl := next_len2 x (k : Int)
        have HIN : Hid (∀ y ∈ next x (k : Int), Inside code y) := Lib.hid (fun y hy => HCL.out (k : Int) ⟨p0, p1⟩ y (by rw [nexts_at (by simpa using HXK.out)]; exact hy))
        obtain ⟨ns, hns⟩ : ∃ ns, next x (k : Int) = ns := ⟨_, rfl⟩
        have HNS := Lib.hid hns
        rw [hns] at hnl HIN HO9 ⊢
        clear hns
        go_loopw [35] (fun s35 wr => ∃ (j : Nat) (V' : Nat → Int → Value), j ≤ ns.length ∧ s35 = .int .i64 (j : Int) ∧ Hid (USt wr (w.heap.size + 2) wc.heap.size code.length (9 * k) b V' (addL (UG code k) 0 (k : Int) (ns.take j)) (((code.take k).map Cd.sets) ++ List.replicate (code.length - k) 0)) ∧ Hid (Mv b V v1 V' wr) ∧ Hid (Below (w.heap.size + 2) W2 wr)) (fun s35 wr => ns.length - (intOf s35).toNat)
        case atStart => exact ⟨0, V, by omega, rfl, HU9, Lib.hid (Mv.refl _ _ _), HB9⟩
        case round =>
          obtain ⟨j, V', hj, rfl, HUJ, HMJ, HBJ⟩ := hrel
          by_cases hjl : j < ns.length
          · obtain ⟨y, hy⟩ : ∃ y, ns[j]? = some y := ⟨_, List.getElem?_eq_getElem hjl⟩
            have hyin := HIN.out y (List.mem_of_getElem? hy)
            unfold Inside at hyin
            obtain ⟨i, rfl⟩ : ∃ i : Nat, y = (i : Int) := ⟨y.toNat, by omega⟩
            have hin : i < code.length := by omega
            have hOJ := own_keep (w' := wr) HO9.out (fun g hg => HMJ.out.kept g (HO9.out.lt g hg).2 (fun t y e => by have h1 := HV9.out t y g e; have h2 := (HO9.out.lt g hg).1; omega) (fun q hq e => by have h1 := HL9.out q hq; have h2 := (HO9.out.lt g hg).1; omega))
            obtain ⟨b1, o1, rfl, hb1, hBw1, hc1⟩ := IntsAt.cellsB (LiesIn.row (LiesIn.of_own hOJ)) hy
            have E := Lib.hid (addL_more (G := UG code k) (t := 0) (k := (k : Int)) hy)
            have hgl : (addL (UG code k) 0 (k : Int) (ns.take j) 0 (i : Int)).length ≤ 11 * k + 2 := by
              have h1 := addL_len 0 0 (k : Int) (i : Int) (ns.take j) (UG code k)
              have h2 := ug_len code 0 (i : Int) k
              rw [List.length_take] at h1
              omega
            obtain ⟨GJ, hGJ⟩ : ∃ GJ, addL (UG code k) 0 (k : Int) (ns.take j) = GJ := ⟨_, rfl⟩
            rw [hGJ] at HUJ E hgl
            clear hGJ
            obtain ⟨z0, z1, z2, z3, z4⟩ := nv5 HUJ.out.box
            have hd1 : v1.heap.size ≤ wr.heap.size := HMJ.out.size
            obtain ⟨ai, ci, hvi, hoi⟩ := HUJ.out.fam.rows 0 (i : Int)
            obtain ⟨r, hr⟩ : ∃ r, GJ 0 (i : Int) = r := ⟨_, rfl⟩
            rw [hr] at hvi hoi hgl
            have cbf : wr.cell? ⟨b 0, i, none⟩ = some (.slice ai r.length ci) := by
              refine HUJ.out.rows.cell ?_
              rw [List.getElem?_map, List.getElem?_range hin, Option.map_some, hvi]
            have HRI := Lib.hid hr; have HVI := Lib.hid hvi; have HOI := Lib.hid hoi
            have hbl := HUJ.out.lt (k := 0) (by omega)
            have hb0 := HUJ.out.place 0 (by omega)
            have hb5 := HUJ.out.place 5 (by omega)
            have hbl5 := HUJ.out.lt (k := 5) (by omega)
            have i0' : (0 : Int) ≤ (i : Int) := Int.natCast_nonneg _
            have i1' : (i : Int) < (code.length : Int) := by omega
            have j0 : (0 : Int) ≤ (j : Int) := Int.natCast_nonneg _
            have j1 : (j : Int) < (ns.length : Int) := by omega
            clear hy hr hvi hoi hOJ
            have HZ0 := Lib.hid z0; have HCB := Lib.hid cbf
            have HAL : Hid (∀ o : Obj, (fun W' : World => W'.heap[b 5]? = wr.heap[b 5]? ∧ W'.heap[b 0]? = wr.heap[b 0]? ∧ wr.heap.size ≤ W'.heap.size) (wr.alloc o)) := Lib.hid (fun o => ⟨Below.heap_alloc _ _ _ hbl5, Below.heap_alloc _ _ _ hbl, by simp⟩)
            go_upto_region 9 with fail
            clear z0 z1 z2 z3 z4 cbf hc1
            refine region_lastS (fun W' : World => W'.heap[b 5]? = wr.heap[b 5]? ∧ W'.heap[b 0]? = wr.heap[b 0]? ∧ wr.heap.size ≤ W'.heap.size) 12 hmix ⟨rfl, rfl, Nat.le_refl _⟩ (fun hS => ?_)
            refine anyL_take (i := 0) (v := ?_) rfl rfl (by kernel_rfl) (by kernel_rfl) (by kernel_rfl) (by kernel_rfl) (fun _ _ _ h => h) (Or.inl ⟨by rfl, ?_⟩) hS ?_
            rotate_left
            · (intro w' hSw; obtain ⟨e5, e0, esz⟩ := hSw; have z0 := (World.cell?_of_block (w := wr) e5).trans HZ0.out; have cbf := (World.cell?_of_block (w := wr) e0).trans HCB.out; have g5 : b 5 < w'.heap.size := (by omega); have g0 : b 0 < w'.heap.size := (by omega); go_simp; first | done | with_reducible rfl)
            simp only [Act.put, zA, zB, zC, zD, zE, zF]
            refine anyL_take (i := 1) (v := ?_) rfl rfl (by kernel_rfl) (by kernel_rfl) (by kernel_rfl) (by kernel_rfl) (fun _ _ _ h => h) (Or.inl ⟨by rfl, ?_⟩) hS ?_
            rotate_left
            · (intro w' hSw; obtain ⟨e5, e0, esz⟩ := hSw; have z0 := (World.cell?_of_block (w := wr) e5).trans HZ0.out; have cbf := (World.cell?_of_block (w := wr) e0).trans HCB.out; have g5 : b 5 < w'.heap.size := (by omega); have g0 : b 0 < w'.heap.size := (by omega); go_simp; first | done | with_reducible rfl)
            simp only [Act.put, zA, zB, zC, zD, zE, zF]
            refine anyL_take (i := 2) (v := ?_) rfl rfl (by kernel_rfl) (by kernel_rfl) (by kernel_rfl) (by kernel_rfl) (fun _ _ _ h => h) (Or.inl ⟨by rfl, ?_⟩) hS ?_
            rotate_left
            · (intro w' hSw; obtain ⟨e5, e0, esz⟩ := hSw; have z0 := (World.cell?_of_block (w := wr) e5).trans HZ0.out; have cbf := (World.cell?_of_block (w := wr) e0).trans HCB.out; have g5 : b 5 < w'.heap.size := (by omega); have g0 : b 0 < w'.heap.size := (by omega); go_simp; first | done | with_reducible rfl)
            simp only [Act.put, zA, zB, zC, zD, zE, zF]
            refine anyL_take (i := 3) (v := ?_) rfl rfl (by kernel_rfl) (by kernel_rfl) (by kernel_rfl) (by kernel_rfl) (fun _ _ _ h => h) (Or.inl ⟨by rfl, ?_⟩) hS ?_
            rotate_left
            · (intro w' hSw; obtain ⟨e5, e0, esz⟩ := hSw; have z0 := (World.cell?_of_block (w := wr) e5).trans HZ0.out; have cbf := (World.cell?_of_block (w := wr) e0).trans HCB.out; have g5 : b 5 < w'.heap.size := (by omega); have g0 : b 0 < w'.heap.size := (by omega); go_simp; first | done | with_reducible rfl)
            simp only [Act.put, zA, zB, zC, zD, zE, zF]
            refine anyL_take (i := 4) (v := ?_) rfl rfl (by kernel_rfl) (by kernel_rfl) (by kernel_rfl) (by kernel_rfl) (fun _ _ _ h => h) (Or.inl ⟨by rfl, ?_⟩) hS ?_
            rotate_left
            · (intro w' hSw; obtain ⟨e5, e0, esz⟩ := hSw; have z0 := (World.cell?_of_block (w := wr) e5).trans HZ0.out; have cbf := (World.cell?_of_block (w := wr) e0).trans HCB.out; have g5 : b 5 < w'.heap.size := (by omega); have g0 : b 0 < w'.heap.size := (by omega); go_simp; first | done | with_reducible rfl)
            simp only [Act.put, zA, zB, zC, zD, zE, zF]
            refine anyL_take (i := 5) (v := ?_) rfl rfl (by kernel_rfl) (by kernel_rfl) (by kernel_rfl) (by kernel_rfl) (fun _ _ _ h => h) (Or.inl ⟨by rfl, ?_⟩) hS ?_
            rotate_left
            · (intro w' hSw; obtain ⟨e5, e0, esz⟩ := hSw; have z0 := (World.cell?_of_block (w := wr) e5).trans HZ0.out; have cbf := (World.cell?_of_block (w := wr) e0).trans HCB.out; have g5 : b 5 < w'.heap.size := (by omega); have g0 : b 0 < w'.heap.size := (by omega); go_simp; first | done | with_reducible rfl)
            simp only [Act.put, zA, zB, zC, zD, zE, zF]
            refine anyL_take (i := 6) (v := ?_) rfl rfl (by kernel_rfl) (by kernel_rfl) (by kernel_rfl) (by kernel_rfl) (fun _ _ _ h => h) (Or.inl ⟨by rfl, ?_⟩) hS ?_
            rotate_left
            · (intro w' hSw; obtain ⟨e5, e0, esz⟩ := hSw; have z0 := (World.cell?_of_block (w := wr) e5).trans HZ0.out; have cbf := (World.cell?_of_block (w := wr) e0).trans HCB.out; have g5 : b 5 < w'.heap.size := (by omega); have g0 : b 0 < w'.heap.size := (by omega); go_simp; first | done | with_reducible rfl)
            simp only [Act.put, zA, zB, zC, zD, zE, zF]
            refine anyL_take (i := 7) (v := ?_) rfl rfl (by kernel_rfl) (by kernel_rfl) (by kernel_rfl) (by kernel_rfl) (fun _ _ _ h => h) (Or.inl ⟨by rfl, ?_⟩) hS ?_
            rotate_left
            · (intro w' hSw; obtain ⟨e5, e0, esz⟩ := hSw; have z0 := (World.cell?_of_block (w := wr) e5).trans HZ0.out; have cbf := (World.cell?_of_block (w := wr) e0).trans HCB.out; have g5 : b 5 < w'.heap.size := (by omega); have g0 : b 0 < w'.heap.size := (by omega); go_simp; first | done | with_reducible rfl)
            simp only [Act.put, zA, zB, zC, zD, zE, zF]
            refine anyL_take (i := 8) (v := ?_) rfl rfl (by kernel_rfl) (by kernel_rfl) (by kernel_rfl) (by kernel_rfl) (fun _ _ _ h => h) (Or.inl ⟨by rfl, ?_⟩) hS ?_
            rotate_left
            · (intro w' hSw; obtain ⟨e5, e0, esz⟩ := hSw; have z0 := (World.cell?_of_block (w := wr) e5).trans HZ0.out; have cbf := (World.cell?_of_block (w := wr) e0).trans HCB.out; have g5 : b 5 < w'.heap.size := (by omega); have g0 : b 0 < w'.heap.size := (by omega); go_simp; first | done | with_reducible rfl)
            simp only [Act.put, zA, zB, zC, zD, zE, zF]
            refine anyL_one (i := 9) (by kernel_rfl) rfl (fun K1 hK1 => ?_)
            go_simp
            refine hK1.out _ _ (fun _ => HAL.out _) ?_
            clear hK1 K1
            refine anyL_one (i := 10) (by kernel_rfl) rfl (fun K1 hK1 => ?_)
            refine step_append_lies _ (by rfl) (.tmp 46) (.tmp 48) 30 (by rfl) wc.heap.size 3 i0 (.int .i64 0) 1 8 Try.underlying30 hi0 hz0 hz1 hz2 rfl (by decide) (.slice ai r.length ci) r.length (ints r) (by rfl) (by exact HOI.out.alloc _) ⟨wr.heap.size, 0, none⟩ 1 1 [.int .i64 (k : Int)] (by rfl) (by rfl) (by exact cell_new1 _ _ _ _ (by simp)) (by simp [Value.oneCell']) (by omega) (by unfold maxLen; omega) (by omega) (by change wc.heap.size ≤ (wr.alloc _).heap.size; rw [World.size_alloc]; omega) (wr.heap.size + 1) (by change (wr.alloc _).heap.size = wr.heap.size + 1; rw [World.size_alloc]) ?_
            intro g3 cap3 w3 hown3 hgrow hat hlt3
            have HB3 := Lib.hid ((drW (HBJ.out.alloc (by have := HBJ.out.size; omega) _)).grown hgrow (by change _ ≤ (wr.alloc _).heap.size; rw [World.size_alloc]; have := HBJ.out.size; omega) (fun q e => by have := (HOI.out.lt q e).1; omega))
            have HK3 : Hid (∀ g, g < wr.heap.size → (Value.slice ai r.length ci).ownBlock ≠ some g → w3.heap[g]? = wr.heap[g]?) := Lib.hid (fun g hg hne => (hgrow.block g (by change g < (wr.alloc _).heap.size; rw [World.size_alloc]; omega) (fun e => hne e.symm)).trans (Below.heap_alloc _ _ _ hg))
            have HS3 : Hid (wr.heap.size ≤ w3.heap.size) := Lib.hid (by have h9 : (wr.alloc (.cells #[Value.int .i64 (k : Int)] 3)).heap.size ≤ w3.heap.size := hgrow.size; rw [World.size_alloc] at h9; omega)
            have HAT : Hid ((Value.slice ai r.length ci).ownBlock = some g3 ∨ wr.heap.size ≤ g3) := Lib.hid (hat.imp id (fun e => by omega))
            have HO3 := Lib.hid hown3
            have hb3 : w3.heap[b 0]? = wr.heap[b 0]? := HK3.out _ hbl (fun e => by have := (HOI.out.lt _ e).1; omega)
            have hb53 : w3.heap[b 5]? = wr.heap[b 5]? := HK3.out _ hbl5 (fun e => by have := (HOI.out.lt _ e).1; omega)
            have hss3 := HS3.out
            refine hK1.out _ _ (fun _ => ⟨hb53, hb3, hss3⟩) ?_
            clear hK1 K1 hown3 hgrow hat hlt3
            have c33 : w3.cell? ⟨b 0, i, none⟩ = some (.slice ai r.length ci) := (World.cell?_of_block (w := wr) hb3).trans HCB.out
            have f33 : w3.frozen? ⟨b 0, i, none⟩ = false := (VRow.keep HUJ.out.rows hb3).frozen i
            have g03 : b 0 < w3.heap.size := by omega
            refine anyL_one (i := 11) (by kernel_rfl) rfl (fun K1 hK1 => ?_)
            go_simp
            refine hK1.out _ _ (fun _ => ⟨hb53, hb3, hss3⟩) ?_
            clear hK1 K1
            refine anyL_one (i := 12) (by kernel_rfl) rfl (fun K1 hK1 => ?_)
            go_simp
            refine hK1.out _ _ (fun h => absurd rfl h) ?_
            clear hK1 K1
            refine anyL_done (by kernel_rfl) ?_ _
            clear c33 f33 hb53 hb3
            go_wp2
            go_roundw
            case rel => exact ⟨j + 1, _, by omega, by go_num, by rw [E.out]; exact Lib.hid (HUJ.out.from_r hin HRI.out HVI.out HO3.out HK3.out HAT.out), Lib.hid (HMJ.out.grow HVI.out HK3.out HAT.out HS3.out (by simp [World.setCell]) (fun g _ hg => Below.heap_setCell _ _ _ _ (hg 0 (by omega)))), Lib.hid (HB3.out.setCell (show w.heap.size + 2 ≤ b 0 by omega) _)⟩
            case measure => simp [intOf]; omega
          · obtain rfl : j = ns.length := by omega
            have hts : ns.take ns.length = ns := List.take_length
            rw [hts] at HUJ
            obtain ⟨G1, hG1⟩ : ∃ G1, addL (UG code k) 0 (k : Int) ns = G1 := ⟨_, rfl⟩
            rw [hG1] at HUJ
            have HG1 := Lib.hid hG1
            have hXJ : wr.heap[M9]? = some (inO x) := (HMJ.out.kept M9 hs1 (fun t y e => Nat.lt_irrefl _ (HV9.out t y M9 e)) (fun q hq e => by have := HL9.out q hq; omega)).trans HX9.out
            have hwu := HWF.out k x HXK.out
            clear hG1 hts
            obtain ⟨e0, e1, e2, e3, e4, e5, e6, e7, e8, e9, e10, e11, e12, e13, e14⟩ := nv15 hXJ
            go_wp2_with ((with_reducible refine (cuses_any x _).mono ?_); rintro e v2 ⟨u9, rfl, ho2, hb2⟩; obtain ⟨a2, c2, rfl⟩ := row_slice ho2)
            have hv1 := HMJ.out.size
            have HU2 := Lib.hid (HUJ.out.below (by omega) hb2)
            have HB3' := Lib.hid (HBJ.out.trans (hb2.mono (by have := HBJ.out.size; omega)))
            have HX2 : Hid (v2.heap[M9]? = some (inO x)) := Lib.hid ((hb2.block M9 (by omega)).trans hXJ)
            have HV2 : Hid (∀ t y g, (V' t y).ownBlock = some g → g < wr.heap.size ∧ g ≠ M9) := Lib.hid (fun t y g e => ⟨(HUJ.out.fam.at e).2, fun e' => by
              subst e'
              rcases HMJ.out.own t y g e with ⟨t', y', h'⟩ | h'
              · exact Nat.lt_irrefl _ (HV9.out t' y' g h')
              · omega⟩)
            have HL2 : Hid (∀ q, q < 6 → b q < wr.heap.size) := Lib.hid (fun q hq => HUJ.out.lt hq)
            have HO2 := Lib.hid ho2
            have hs2 := hb2.size
            obtain ⟨M2, hM2⟩ : ∃ M2, wr.heap.size = M2 := ⟨_, rfl⟩
            rw [hM2] at HV2 HL2 HO2 hs2 hv1
            have hul := uses_len8 x
            obtain ⟨us, hus⟩ : ∃ us, uses x = us := ⟨_, rfl⟩
            have HUS := Lib.hid hus
            rw [hus] at hul HO2 hwu ⊢
            have HWU := Lib.hid hwu
            clear ho2 hb2 hus hwu hXJ e0 e1 e2 e3 e4 e5 e6 e7 e8 e9 e10 e11 e12 e13 e14 HO9
            go_loopw [55] (fun s55 wr => ∃ (j : Nat) (V3 : Nat → Int → Value), j ≤ us.length ∧ s55 = .int .i64 (j : Int) ∧ Hid (USt wr (w.heap.size + 2) wc.heap.size code.length (9 * k + j) b V3 (addL G1 1 (k : Int) (us.take j)) (((code.take k).map Cd.sets) ++ List.replicate (code.length - k) 0)) ∧ Hid (Mv b V' v2 V3 wr) ∧ Hid (Below (w.heap.size + 2) W2 wr)) (fun s55 wr => us.length - (intOf s55).toNat)
            case atStart => exact ⟨0, V', by omega, rfl, HU2, Lib.hid (Mv.refl _ _ _), HB3'⟩
            case round =>
              clear HU2 HB3' HUJ HMJ HBJ
              obtain ⟨j, V3, hj, rfl, HUJ, HMJ, HBJ⟩ := hrel
              by_cases hjl : j < us.length
              · obtain ⟨y, hy⟩ : ∃ y, us[j]? = some y := ⟨_, List.getElem?_eq_getElem hjl⟩
                have hwy := HWU.out.1 y (List.mem_of_getElem? hy)
                have hOJ := own_keep (w' := wr) HO2.out (fun g hg => HMJ.out.kept g (HO2.out.lt g hg).2 (fun t y e => by have h1 := (HV2.out t y g e).1; have h2 := (HO2.out.lt g hg).1; omega) (fun q hq e => by have h1 := HL2.out q hq; have h2 := (HO2.out.lt g hg).1; omega))
                obtain ⟨b1, o1, rfl, hb1, hBw1, hc1⟩ := IntsAt.cellsB (LiesIn.row (LiesIn.of_own hOJ)) hy
                have E := Lib.hid (addL_more (G := G1) (t := 1) (k := (k : Int)) hy)
                have hgl : (addL G1 1 (k : Int) (us.take j) 1 y).length ≤ 11 * k + 11 := by
                  have h1 := addL_len 1 1 (k : Int) y (us.take j) G1
                  have h3 := addL_len 0 1 (k : Int) y ns (UG code k)
                  rw [HG1.out] at h3
                  have h2 := ug_len code 1 y k
                  rw [List.length_take] at h1
                  omega
                obtain ⟨GJ, hGJ⟩ : ∃ GJ, addL G1 1 (k : Int) (us.take j) = GJ := ⟨_, rfl⟩
                rw [hGJ] at HUJ E hgl
                clear hGJ
                obtain ⟨z0, z1, z2, z3, z4⟩ := nv5 HUJ.out.box
                have hd1 : v2.heap.size ≤ wr.heap.size := HMJ.out.size
                obtain ⟨ai, ci, hvi, hoi⟩ := HUJ.out.fam.rows 1 y
                obtain ⟨r, hr⟩ : ∃ r, GJ 1 y = r := ⟨_, rfl⟩
                rw [hr] at hvi hoi hgl
                have hlk : ∀ W : World, W.heap[b 2]? = wr.heap[b 2]? → (Instr.lookup 54 (.map (some (b 2))) (.int .i64 y) false).run Try.prog W = .ok (.slice ai r.length ci) W := fun W hW => by rw [(HUJ.out.read.keep hW).look hwy, hvi]
                have HLK := Lib.hid hlk
                have HRI := Lib.hid hr; have HVI := Lib.hid hvi; have HOI := Lib.hid hoi
                have hbl2 := HUJ.out.lt (k := 2) (by omega)
                have hb2 := HUJ.out.place 2 (by omega)
                have hb5 := HUJ.out.place 5 (by omega)
                have hbl5 := HUJ.out.lt (k := 5) (by omega)
                have j0 : (0 : Int) ≤ (j : Int) := Int.natCast_nonneg _
                have j1 : (j : Int) < (us.length : Int) := by omega
                have HWY := Lib.hid hwy
                clear hy hr hvi hoi hOJ hlk hwy
                have HZ2 := Lib.hid z2
                have HAL : Hid (∀ o : Obj, (fun W' : World => W'.heap[b 5]? = wr.heap[b 5]? ∧ W'.heap[b 2]? = wr.heap[b 2]? ∧ wr.heap.size ≤ W'.heap.size) (wr.alloc o)) := Lib.hid (fun o => ⟨Below.heap_alloc _ _ _ hbl5, Below.heap_alloc _ _ _ hbl2, by simp⟩)
                go_upto_region 14 with fail
                clear z0 z1 z2 z3 z4 hc1
                refine region_lastS (fun W' : World => W'.heap[b 5]? = wr.heap[b 5]? ∧ W'.heap[b 2]? = wr.heap[b 2]? ∧ wr.heap.size ≤ W'.heap.size) 10 hmix ⟨rfl, rfl, Nat.le_refl _⟩ (fun hS => ?_)
                refine anyL_take (i := 0) (v := ?_) rfl rfl (by kernel_rfl) (by kernel_rfl) (by kernel_rfl) (by kernel_rfl) (fun _ _ _ h => h) (Or.inl ⟨by rfl, ?_⟩) hS ?_
                rotate_left
                · (intro w' hSw; obtain ⟨e5, e2, esz⟩ := hSw; have z2 := (World.cell?_of_block (w := wr) e5).trans HZ2.out; have hl := HLK.out w' e2; have g5 : b 5 < w'.heap.size := (by omega); go_simp; first | done | with_reducible rfl)
                simp only [Act.put, zA, zB, zC, zD, zE, zF]
                refine anyL_take (i := 1) (v := ?_) rfl rfl (by kernel_rfl) (by kernel_rfl) (by kernel_rfl) (by kernel_rfl) (fun _ _ _ h => h) (Or.inl ⟨by rfl, ?_⟩) hS ?_
                rotate_left
                · (intro w' hSw; obtain ⟨e5, e2, esz⟩ := hSw; have z2 := (World.cell?_of_block (w := wr) e5).trans HZ2.out; have hl := HLK.out w' e2; have g5 : b 5 < w'.heap.size := (by omega); go_simp; first | done | with_reducible rfl)
                simp only [Act.put, zA, zB, zC, zD, zE, zF]
                refine anyL_take (i := 2) (v := ?_) rfl rfl (by kernel_rfl) (by kernel_rfl) (by kernel_rfl) (by kernel_rfl) (fun _ _ _ h => h) (Or.inl ⟨by rfl, ?_⟩) hS ?_
                rotate_left
                · (intro w' hSw; obtain ⟨e5, e2, esz⟩ := hSw; have z2 := (World.cell?_of_block (w := wr) e5).trans HZ2.out; have hl := HLK.out w' e2; have g5 : b 5 < w'.heap.size := (by omega); go_simp; first | done | with_reducible rfl)
                simp only [Act.put, zA, zB, zC, zD, zE, zF]
                refine anyL_take (i := 3) (v := ?_) rfl rfl (by kernel_rfl) (by kernel_rfl) (by kernel_rfl) (by kernel_rfl) (fun _ _ _ h => h) (Or.inl ⟨by rfl, ?_⟩) hS ?_
                rotate_left
                · (intro w' hSw; obtain ⟨e5, e2, esz⟩ := hSw; have z2 := (World.cell?_of_block (w := wr) e5).trans HZ2.out; have hl := HLK.out w' e2; have g5 : b 5 < w'.heap.size := (by omega); go_simp; first | done | with_reducible rfl)
                simp only [Act.put, zA, zB, zC, zD, zE, zF]
                refine anyL_take (i := 4) (v := ?_) rfl rfl (by kernel_rfl) (by kernel_rfl) (by kernel_rfl) (by kernel_rfl) (fun _ _ _ h => h) (Or.inl ⟨by rfl, ?_⟩) hS ?_
                rotate_left
                · (intro w' hSw; obtain ⟨e5, e2, esz⟩ := hSw; have z2 := (World.cell?_of_block (w := wr) e5).trans HZ2.out; have hl := HLK.out w' e2; have g5 : b 5 < w'.heap.size := (by omega); go_simp; first | done | with_reducible rfl)
                simp only [Act.put, zA, zB, zC, zD, zE, zF]
                refine anyL_take (i := 5) (v := ?_) rfl rfl (by kernel_rfl) (by kernel_rfl) (by kernel_rfl) (by kernel_rfl) (fun _ _ _ h => h) (Or.inl ⟨by rfl, ?_⟩) hS ?_
                rotate_left
                · (intro w' hSw; obtain ⟨e5, e2, esz⟩ := hSw; have z2 := (World.cell?_of_block (w := wr) e5).trans HZ2.out; have hl := HLK.out w' e2; have g5 : b 5 < w'.heap.size := (by omega); go_simp; first | done | with_reducible rfl)
                simp only [Act.put, zA, zB, zC, zD, zE, zF]
                refine anyL_take (i := 6) (v := ?_) rfl rfl (by kernel_rfl) (by kernel_rfl) (by kernel_rfl) (by kernel_rfl) (fun _ _ _ h => h) (Or.inl ⟨by rfl, ?_⟩) hS ?_
                rotate_left
                · (intro w' hSw; obtain ⟨e5, e2, esz⟩ := hSw; have z2 := (World.cell?_of_block (w := wr) e5).trans HZ2.out; have hl := HLK.out w' e2; have g5 : b 5 < w'.heap.size := (by omega); go_simp; first | done | with_reducible rfl)
                simp only [Act.put, zA, zB, zC, zD, zE, zF]
                refine anyL_take (i := 7) (v := ?_) rfl rfl (by kernel_rfl) (by kernel_rfl) (by kernel_rfl) (by kernel_rfl) (fun _ _ _ h => h) (Or.inl ⟨by rfl, ?_⟩) hS ?_
                rotate_left
                · (intro w' hSw; obtain ⟨e5, e2, esz⟩ := hSw; have z2 := (World.cell?_of_block (w := wr) e5).trans HZ2.out; have hl := HLK.out w' e2; have g5 : b 5 < w'.heap.size := (by omega); go_simp; first | done | with_reducible rfl)
                simp only [Act.put, zA, zB, zC, zD, zE, zF]
                refine anyL_one (i := 8) (by kernel_rfl) rfl (fun K1 hK1 => ?_)
                go_simp
                refine hK1.out _ _ (fun _ => HAL.out _) ?_
                clear hK1 K1
                refine anyL_one (i := 9) (by kernel_rfl) rfl (fun K1 hK1 => ?_)
                refine step_append_lies _ (by rfl) (.tmp 65) (.tmp 67) 30 (by rfl) wc.heap.size 3 i0 (.int .i64 0) 1 8 Try.underlying30 hi0 hz0 hz1 hz2 rfl (by decide) (.slice ai r.length ci) r.length (ints r) (by rfl) (by exact HOI.out.alloc _) ⟨wr.heap.size, 0, none⟩ 1 1 [.int .i64 (k : Int)] (by rfl) (by rfl) (by exact cell_new1 _ _ _ _ (by simp)) (by simp [Value.oneCell']) (by omega) (by unfold maxLen; omega) (by omega) (by change wc.heap.size ≤ (wr.alloc _).heap.size; rw [World.size_alloc]; omega) (wr.heap.size + 1) (by change (wr.alloc _).heap.size = wr.heap.size + 1; rw [World.size_alloc]) ?_
                intro g3 cap3 w3 hown3 hgrow hat hlt3
                have HB3 := Lib.hid ((drW (HBJ.out.alloc (by have := HBJ.out.size; omega) _)).grown hgrow (by change _ ≤ (wr.alloc _).heap.size; rw [World.size_alloc]; have := HBJ.out.size; omega) (fun q e => by have := (HOI.out.lt q e).1; omega))
                have HK3 : Hid (∀ g, g < wr.heap.size → (Value.slice ai r.length ci).ownBlock ≠ some g → w3.heap[g]? = wr.heap[g]?) := Lib.hid (fun g hg hne => (hgrow.block g (by change g < (wr.alloc _).heap.size; rw [World.size_alloc]; omega) (fun e => hne e.symm)).trans (Below.heap_alloc _ _ _ hg))
                have HS3 : Hid (wr.heap.size ≤ w3.heap.size) := Lib.hid (by have h9 : (wr.alloc (.cells #[Value.int .i64 (k : Int)] 3)).heap.size ≤ w3.heap.size := hgrow.size; rw [World.size_alloc] at h9; omega)
                have HAT : Hid ((Value.slice ai r.length ci).ownBlock = some g3 ∨ wr.heap.size ≤ g3) := Lib.hid (hat.imp id (fun e => by omega))
                have HO3 := Lib.hid hown3
                have hb23 : w3.heap[b 2]? = wr.heap[b 2]? := HK3.out _ hbl2 (fun e => by have := (HOI.out.lt _ e).1; omega)
                obtain ⟨w4, hr4, ht4, hM4⟩ := (HUJ.out.read.keep hb23).store (by unfold maxLen; omega) HWY.out (n := r.length + 1) (c := cap3) (.inr ⟨g3, 0, rfl⟩)
                have HT4 := Lib.hid ht4; have HM4 := Lib.hid hM4
                have hb53 : w3.heap[b 5]? = wr.heap[b 5]? := HK3.out _ hbl5 (fun e => by have := (HOI.out.lt _ e).1; omega)
                have hss3 := HS3.out
                refine hK1.out _ _ (fun _ => ⟨hb53, hb23, hss3⟩) ?_
                clear hK1 K1 hown3 hgrow hat hlt3 ht4 hM4 hb23 hb53
                refine anyL_one (i := 10) (by kernel_rfl) rfl (fun K1 hK1 => ?_)
                go_simp
                refine hK1.out _ _ (fun h => absurd rfl h) ?_
                clear hK1 K1
                refine anyL_done (by kernel_rfl) ?_ _
                clear hr4
                go_wp2
                go_roundw
                case rel => exact ⟨j + 1, _, by omega, by go_num, by rw [E.out]; exact Lib.hid (HUJ.out.read_r HRI.out HVI.out HO3.out HK3.out HAT.out HS3.out HT4.out HM4.out), Lib.hid (HMJ.out.grow HVI.out HK3.out HAT.out HS3.out HT4.out.grown.size (fun g hg hn => HT4.out.grown.block g hg (fun e => hn 2 (by omega) (by injection e with e)))), Lib.hid (HB3.out.grown HT4.out.grown (by have := HB3.out.size; omega) (fun q e => by injection e with e; omega))⟩
                case measure => simp [intOf]; omega
              · obtain rfl : j = us.length := by omega
                have hts : us.take us.length = us := List.take_length
                rw [hts] at HUJ
                obtain ⟨G2, hG2⟩ : ∃ G2, addL G1 1 (k : Int) us = G2 := ⟨_, rfl⟩
                rw [hG2] at HUJ
                have HG2 := Lib.hid hG2
                have hm9 : M9 < v2.heap.size := lt_heap HX2.out
                have hv2 : v2.heap.size ≤ wr.heap.size := HMJ.out.size
                have hXJ : wr.heap[M9]? = some (inO x) := (HMJ.out.kept M9 hm9 (fun t y e => (HV2.out t y M9 e).2 rfl) (fun q hq e => by have := HL9.out q hq; omega)).trans HX2.out
                have HXJ := Lib.hid hXJ
                clear hG2 hts
                obtain ⟨e0, e1, e2, e3, e4, e5, e6, e7, e8, e9, e10, e11, e12, e13, e14⟩ := nv15 hXJ
                obtain ⟨z0, z1, z2, z3, z4⟩ := nv5 HUJ.out.box
                have cs : wr.cell? ⟨b 1, k, none⟩ = some (.int .i64 0) := IRow.cell HUJ.out.sets (set_old hlt)
                have fs : wr.frozen? ⟨b 1, k, none⟩ = false := VRow.frozen HUJ.out.sets k
                have hbl1 := HUJ.out.lt (k := 1) (by omega)
                have hbl5 := HUJ.out.lt (k := 5) (by omega)
                have hb1p := HUJ.out.place 1 (by omega)
                have h51 := HUJ.out.ne 5 1 (by omega) (by omega) (by omega)
                have h91 : M9 ≠ b 1 := fun e => by have := HL9.out 1 (by omega); omega
                clear hXJ
                go_upto_region 16 with fail
                go_cut [] from 70 to 75 (fun v5 => Hid (USt v5 (w.heap.size + 2) wc.heap.size code.length (9 * k + us.length) b V3 G2 (((code.take (k + 1)).map Cd.sets) ++ List.replicate (code.length - (k + 1)) 0)) ∧ Hid (v5.heap[M9]? = some (inO x)) ∧ Hid (Below (w.heap.size + 2) W2 v5) ∧ wr.heap.size ≤ v5.heap.size)
                case first =>
                  go_region_with ((with_reducible refine (csets_i x _).mono ?_); rintro e v4 ⟨rfl, hb4⟩; have HB4 : Hid (Below wr.heap.size wr v4) := Lib.hid ((drW (Below.refl _ _)).trans hb4); have z41 : v4.cell? ⟨b 5, 1, none⟩ = some (.slice (some ⟨b 1, 0, none⟩) code.length code.length) := (World.cell?_of_block (w := wr) (HB4.out.block (b 5) hbl5)).trans z1; have cs4 : v4.cell? ⟨b 1, k, none⟩ = some (.int .i64 0) := (World.cell?_of_block (w := wr) (HB4.out.block (b 1) hbl1)).trans cs; have fs4 : v4.frozen? ⟨b 1, k, none⟩ = false := VRow.frozen (VRow.keep HUJ.out.sets (HB4.out.block (b 1) hbl1)) k; clear hb4)
                  all_goals
                    have HU5 := Lib.hid ((HUJ.out.below (by omega) HB4.out).set_put k (Cd.sets x))
                    rw [set_sets HXK.out] at HU5
                    have HB5 := Lib.hid ((HBJ.out.trans (HB4.out.mono (by have := HBJ.out.size; omega))).setCell (p := ⟨b 1, k, none⟩) (show w.heap.size + 2 ≤ b 1 by omega) (.int .i64 (Cd.sets x)))
                    have HX5 : Hid ((v4.setCell ⟨b 1, k, none⟩ (.int .i64 (Cd.sets x))).heap[M9]? = some (inO x)) := Lib.hid ((Below.heap_setCell _ _ _ _ h91).trans ((HB4.out.block M9 (by omega)).trans HXJ.out))
                    have hs5 : wr.heap.size ≤ (v4.setCell ⟨b 1, k, none⟩ (.int .i64 (Cd.sets x))).heap.size := by have := HB4.out.size; simpa [World.setCell] using this
                    go_wp2
                    go_meet
                    case rel => exact ⟨HU5, HX5, HB5, hs5⟩
                case rest =>
                  rename World => v5
                  obtain ⟨HU5, HX5, HB5, hs5⟩ := hcut
                  clear e0 e1 e2 e3 e4 e5 e6 e7 e8 e9 e10 e11 e12 e13 e14 z0 z1 z2 z3 z4 cs fs
                  obtain ⟨e0, e1, e2, e3, e4, e5, e6, e7, e8, e9, e10, e11, e12, e13, e14⟩ := nv15 HX5.out
                  have HV3 : Hid (∀ t y, (V3 t y).ownBlock ≠ some M9) := Lib.hid (fun t y e => by
                    rcases HMJ.out.own t y M9 e with ⟨t', y', h'⟩ | h'
                    · exact (HV2.out t' y' M9 h').2 rfl
                    · omega)
                  have hus8 : us.length ≤ 8 := hul
                  cases hp : pureI x with
                  | false =>
                    have HLP : Hid (∀ w, Calls Try.prog 33 #[inV x] w (RPost (.bool false) w)) := Lib.hid (fun w => hp ▸ lpure_any x w)
                    have HUG : Hid (UG code (k + 1) = G2) := Lib.hid (by rw [ug_more HXK.out, HNS.out, HG1.out, HUS.out, HG2.out]; unfold pureL; rw [if_neg (by simp [hp])]; rfl)
                    go_wp2_with ((with_reducible refine (HLP.out _).mono ?_); rintro e v6 ⟨rfl, hb6⟩; have HB6 := Lib.hid hb6; clear hb6)
                    have hs6 := HB6.out.size
                    go_roundw
                    case rel => exact ⟨k + 1, V3, by omega, by go_num, by omega, by rw [HUG.out]; exact Lib.hid ((HU5.out.below (by omega) HB6.out).mono (by omega)), Lib.hid (HB5.out.trans (HB6.out.mono (by have := HB5.out.size; omega)))⟩
                    case measure => simp [intOf]; omega
                  | true =>
                    have HLP : Hid (∀ w, Calls Try.prog 33 #[inV x] w (RPost (.bool true) w)) := Lib.hid (fun w => hp ▸ lpure_any x w)
                    have HUG : Hid (UG code (k + 1) = add1 G2 2 (k : Int) x.dst) := Lib.hid (by rw [ug_more HXK.out, HNS.out, HG1.out, HUS.out, HG2.out]; unfold pureL; rw [if_pos hp]; rfl)
                    have HWY := Lib.hid (HWU.out.2 hp)
                    go_wp2_with ((with_reducible refine (HLP.out _).mono ?_); rintro e wr ⟨rfl, hb6⟩; have HB6 := Lib.hid hb6; clear hb6)
                    have hs6 := HB6.out.size
                    have HU6 := Lib.hid (HU5.out.below (by omega) HB6.out)
                    have HBJ6 := Lib.hid (HB5.out.trans (HB6.out.mono (by have := HB5.out.size; omega)))
                    have hX6 := (HB6.out.block M9 (by omega)).trans HX5.out
                    clear e0 e1 e2 e3 e4 e5 e6 e7 e8 e9 e10 e11 e12 e13 e14 HU5 HB5 HB6 HX5
                    have d2 := (nv15 hX6).2.2.1
                    obtain ⟨z0, z1, z2, z3, z4⟩ := nv5 HU6.out.box
                    have hgl : (G2 2 x.dst).length ≤ 11 * k + 10 := by
                      have h1 := addL_len 1 2 (k : Int) x.dst us G1
                      have h3 := addL_len 0 2 (k : Int) x.dst ns (UG code k)
                      rw [HG1.out] at h3
                      rw [HG2.out] at h1
                      have h2 := ug_len code 2 x.dst k
                      omega
                    obtain ⟨ai, ci, hvi, hoi⟩ := HU6.out.fam.rows 2 x.dst
                    obtain ⟨r, hr⟩ : ∃ r, G2 2 x.dst = r := ⟨_, rfl⟩
                    rw [hr] at hvi hoi hgl
                    have hlk : ∀ W : World, W.heap[b 3]? = wr.heap[b 3]? → (Instr.lookup 54 (.map (some (b 3))) (.int .i64 x.dst) false).run Try.prog W = .ok (.slice ai r.length ci) W := fun W hW => by rw [(HU6.out.pure.keep hW).look HWY.out, hvi]
                    have HLK := Lib.hid hlk
                    have HRI := Lib.hid hr; have HVI := Lib.hid hvi; have HOI := Lib.hid hoi; have HX6 := Lib.hid hX6
                    have hbl3 := HU6.out.lt (k := 3) (by omega)
                    have hb3p := HU6.out.place 3 (by omega)
                    have hb5p := HU6.out.place 5 (by omega)
                    have hbl6 := HU6.out.lt (k := 5) (by omega)
                    have hm6 : M9 < wr.heap.size := by omega
                    have HZ3 := Lib.hid z3; have HD2 := Lib.hid d2
                    clear hr hvi hoi hlk hX6 z0 z1 z2 z3 z4 d2
                    have HAL : Hid (∀ o : Obj, (fun W' : World => W'.heap[b 5]? = wr.heap[b 5]? ∧ W'.heap[M9]? = wr.heap[M9]? ∧ W'.heap[b 3]? = wr.heap[b 3]? ∧ wr.heap.size ≤ W'.heap.size) (wr.alloc o)) := Lib.hid (fun o => ⟨Below.heap_alloc _ _ _ hbl6, Below.heap_alloc _ _ _ hm6, Below.heap_alloc _ _ _ hbl3, by simp⟩)
                    go_upto_region 18 with fail
                    refine region_lastS (fun W' : World => W'.heap[b 5]? = wr.heap[b 5]? ∧ W'.heap[M9]? = wr.heap[M9]? ∧ W'.heap[b 3]? = wr.heap[b 3]? ∧ wr.heap.size ≤ W'.heap.size) 12 hmix ⟨rfl, rfl, rfl, Nat.le_refl _⟩ (fun hS => ?_)
                    refine anyL_take (i := 0) (v := ?_) rfl rfl (by kernel_rfl) (by kernel_rfl) (by kernel_rfl) (by kernel_rfl) (fun _ _ _ h => h) (Or.inl ⟨by rfl, ?_⟩) hS ?_
                    rotate_left
                    · (intro w' hSw; obtain ⟨e5, e9, e3, esz⟩ := hSw; have z3 := (World.cell?_of_block (w := wr) e5).trans HZ3.out; have d2 := (World.cell?_of_block (w := wr) e9).trans HD2.out; have hl := HLK.out w' e3; have g5 : b 5 < w'.heap.size := (by omega); have g9 : M9 < w'.heap.size := (by omega); go_simp; first | done | with_reducible rfl)
                    simp only [Act.put, zA, zB, zC, zD, zE, zF]
                    refine anyL_take (i := 1) (v := ?_) rfl rfl (by kernel_rfl) (by kernel_rfl) (by kernel_rfl) (by kernel_rfl) (fun _ _ _ h => h) (Or.inl ⟨by rfl, ?_⟩) hS ?_
                    rotate_left
                    · (intro w' hSw; obtain ⟨e5, e9, e3, esz⟩ := hSw; have z3 := (World.cell?_of_block (w := wr) e5).trans HZ3.out; have d2 := (World.cell?_of_block (w := wr) e9).trans HD2.out; have hl := HLK.out w' e3; have g5 : b 5 < w'.heap.size := (by omega); have g9 : M9 < w'.heap.size := (by omega); go_simp; first | done | with_reducible rfl)
                    simp only [Act.put, zA, zB, zC, zD, zE, zF]
                    refine anyL_take (i := 2) (v := ?_) rfl rfl (by kernel_rfl) (by kernel_rfl) (by kernel_rfl) (by kernel_rfl) (fun _ _ _ h => h) (Or.inl ⟨by rfl, ?_⟩) hS ?_
                    rotate_left
                    · (intro w' hSw; obtain ⟨e5, e9, e3, esz⟩ := hSw; have z3 := (World.cell?_of_block (w := wr) e5).trans HZ3.out; have d2 := (World.cell?_of_block (w := wr) e9).trans HD2.out; have hl := HLK.out w' e3; have g5 : b 5 < w'.heap.size := (by omega); have g9 : M9 < w'.heap.size := (by omega); go_simp; first | done | with_reducible rfl)
                    simp only [Act.put, zA, zB, zC, zD, zE, zF]
                    refine anyL_take (i := 3) (v := ?_) rfl rfl (by kernel_rfl) (by kernel_rfl) (by kernel_rfl) (by kernel_rfl) (fun _ _ _ h => h) (Or.inl ⟨by rfl, ?_⟩) hS ?_
                    rotate_left
                    · (intro w' hSw; obtain ⟨e5, e9, e3, esz⟩ := hSw; have z3 := (World.cell?_of_block (w := wr) e5).trans HZ3.out; have d2 := (World.cell?_of_block (w := wr) e9).trans HD2.out; have hl := HLK.out w' e3; have g5 : b 5 < w'.heap.size := (by omega); have g9 : M9 < w'.heap.size := (by omega); go_simp; first | done | with_reducible rfl)
                    simp only [Act.put, zA, zB, zC, zD, zE, zF]
                    refine anyL_take (i := 4) (v := ?_) rfl rfl (by kernel_rfl) (by kernel_rfl) (by kernel_rfl) (by kernel_rfl) (fun _ _ _ h => h) (Or.inl ⟨by rfl, ?_⟩) hS ?_
                    rotate_left
                    · (intro w' hSw; obtain ⟨e5, e9, e3, esz⟩ := hSw; have z3 := (World.cell?_of_block (w := wr) e5).trans HZ3.out; have d2 := (World.cell?_of_block (w := wr) e9).trans HD2.out; have hl := HLK.out w' e3; have g5 : b 5 < w'.heap.size := (by omega); have g9 : M9 < w'.heap.size := (by omega); go_simp; first | done | with_reducible rfl)
                    simp only [Act.put, zA, zB, zC, zD, zE, zF]
                    refine anyL_take (i := 5) (v := ?_) rfl rfl (by kernel_rfl) (by kernel_rfl) (by kernel_rfl) (by kernel_rfl) (fun _ _ _ h => h) (Or.inl ⟨by rfl, ?_⟩) hS ?_
                    rotate_left
                    · (intro w' hSw; obtain ⟨e5, e9, e3, esz⟩ := hSw; have z3 := (World.cell?_of_block (w := wr) e5).trans HZ3.out; have d2 := (World.cell?_of_block (w := wr) e9).trans HD2.out; have hl := HLK.out w' e3; have g5 : b 5 < w'.heap.size := (by omega); have g9 : M9 < w'.heap.size := (by omega); go_simp; first | done | with_reducible rfl)
                    simp only [Act.put, zA, zB, zC, zD, zE, zF]
                    refine anyL_take (i := 6) (v := ?_) rfl rfl (by kernel_rfl) (by kernel_rfl) (by kernel_rfl) (by kernel_rfl) (fun _ _ _ h => h) (Or.inl ⟨by rfl, ?_⟩) hS ?_
                    rotate_left
                    · (intro w' hSw; obtain ⟨e5, e9, e3, esz⟩ := hSw; have z3 := (World.cell?_of_block (w := wr) e5).trans HZ3.out; have d2 := (World.cell?_of_block (w := wr) e9).trans HD2.out; have hl := HLK.out w' e3; have g5 : b 5 < w'.heap.size := (by omega); have g9 : M9 < w'.heap.size := (by omega); go_simp; first | done | with_reducible rfl)
                    simp only [Act.put, zA, zB, zC, zD, zE, zF]
                    refine anyL_take (i := 7) (v := ?_) rfl rfl (by kernel_rfl) (by kernel_rfl) (by kernel_rfl) (by kernel_rfl) (fun _ _ _ h => h) (Or.inl ⟨by rfl, ?_⟩) hS ?_
                    rotate_left
                    · (intro w' hSw; obtain ⟨e5, e9, e3, esz⟩ := hSw; have z3 := (World.cell?_of_block (w := wr) e5).trans HZ3.out; have d2 := (World.cell?_of_block (w := wr) e9).trans HD2.out; have hl := HLK.out w' e3; have g5 : b 5 < w'.heap.size := (by omega); have g9 : M9 < w'.heap.size := (by omega); go_simp; first | done | with_reducible rfl)
                    simp only [Act.put, zA, zB, zC, zD, zE, zF]
                    refine anyL_take (i := 8) (v := ?_) rfl rfl (by kernel_rfl) (by kernel_rfl) (by kernel_rfl) (by kernel_rfl) (fun _ _ _ h => h) (Or.inl ⟨by rfl, ?_⟩) hS ?_
                    rotate_left
                    · (intro w' hSw; obtain ⟨e5, e9, e3, esz⟩ := hSw; have z3 := (World.cell?_of_block (w := wr) e5).trans HZ3.out; have d2 := (World.cell?_of_block (w := wr) e9).trans HD2.out; have hl := HLK.out w' e3; have g5 : b 5 < w'.heap.size := (by omega); have g9 : M9 < w'.heap.size := (by omega); go_simp; first | done | with_reducible rfl)
                    simp only [Act.put, zA, zB, zC, zD, zE, zF]
                    refine anyL_take (i := 9) (v := ?_) rfl rfl (by kernel_rfl) (by kernel_rfl) (by kernel_rfl) (by kernel_rfl) (fun _ _ _ h => h) (Or.inl ⟨by rfl, ?_⟩) hS ?_
                    rotate_left
                    · (intro w' hSw; obtain ⟨e5, e9, e3, esz⟩ := hSw; have z3 := (World.cell?_of_block (w := wr) e5).trans HZ3.out; have d2 := (World.cell?_of_block (w := wr) e9).trans HD2.out; have hl := HLK.out w' e3; have g5 : b 5 < w'.heap.size := (by omega); have g9 : M9 < w'.heap.size := (by omega); go_simp; first | done | with_reducible rfl)
                    simp only [Act.put, zA, zB, zC, zD, zE, zF]
                    refine anyL_one (i := 10) (by kernel_rfl) rfl (fun K1 hK1 => ?_)
                    go_simp
                    refine hK1.out _ _ (fun _ => HAL.out _) ?_
                    clear hK1 K1
                    refine anyL_one (i := 11) (by kernel_rfl) rfl (fun K1 hK1 => ?_)
                    refine step_append_lies _ (by rfl) (.tmp 86) (.tmp 88) 30 (by rfl) wc.heap.size 3 i0 (.int .i64 0) 1 8 Try.underlying30 hi0 hz0 hz1 hz2 rfl (by decide) (.slice ai r.length ci) r.length (ints r) (by rfl) (by exact HOI.out.alloc _) ⟨wr.heap.size, 0, none⟩ 1 1 [.int .i64 (k : Int)] (by rfl) (by rfl) (by exact cell_new1 _ _ _ _ (by simp)) (by simp [Value.oneCell']) (by omega) (by unfold maxLen; omega) (by omega) (by change wc.heap.size ≤ (wr.alloc _).heap.size; rw [World.size_alloc]; omega) (wr.heap.size + 1) (by change (wr.alloc _).heap.size = wr.heap.size + 1; rw [World.size_alloc]) ?_
                    intro g3 cap3 w3 hown3 hgrow hat hlt3
                    have HB3 := Lib.hid ((drW (HBJ6.out.alloc (by have := HBJ6.out.size; omega) _)).grown hgrow (by change _ ≤ (wr.alloc _).heap.size; rw [World.size_alloc]; have := HBJ6.out.size; omega) (fun q e => by have := (HOI.out.lt q e).1; omega))
                    have HK3 : Hid (∀ g, g < wr.heap.size → (Value.slice ai r.length ci).ownBlock ≠ some g → w3.heap[g]? = wr.heap[g]?) := Lib.hid (fun g hg hne => (hgrow.block g (by change g < (wr.alloc _).heap.size; rw [World.size_alloc]; omega) (fun e => hne e.symm)).trans (Below.heap_alloc _ _ _ hg))
                    have HS3 : Hid (wr.heap.size ≤ w3.heap.size) := Lib.hid (by have h9 : (wr.alloc (.cells #[Value.int .i64 (k : Int)] 3)).heap.size ≤ w3.heap.size := hgrow.size; rw [World.size_alloc] at h9; omega)
                    have HAT : Hid ((Value.slice ai r.length ci).ownBlock = some g3 ∨ wr.heap.size ≤ g3) := Lib.hid (hat.imp id (fun e => by omega))
                    have HO3 := Lib.hid hown3
                    have hb33 : w3.heap[b 3]? = wr.heap[b 3]? := HK3.out _ hbl3 (fun e => by have := (HOI.out.lt _ e).1; omega)
                    obtain ⟨w4, hr4, ht4, hM4⟩ := (HU6.out.pure.keep hb33).store (by unfold maxLen; omega) HWY.out (n := r.length + 1) (c := cap3) (.inr ⟨g3, 0, rfl⟩)
                    have HT4 := Lib.hid ht4; have HM4 := Lib.hid hM4
                    have hb53 : w3.heap[b 5]? = wr.heap[b 5]? := HK3.out _ hbl6 (fun e => by have := (HOI.out.lt _ e).1; omega)
                    have hb93 : w3.heap[M9]? = wr.heap[M9]? := HK3.out M9 hm6 (fun e => HV3.out 2 x.dst (by rw [HVI.out]; exact e))
                    have hss3 := HS3.out
                    refine hK1.out _ _ (fun _ => ⟨hb53, hb93, hb33, hss3⟩) ?_
                    clear hK1 K1 hown3 hgrow hat hlt3 ht4 hM4
                    refine anyL_one (i := 12) (by kernel_rfl) rfl (fun K1 hK1 => ?_)
                    go_simp
                    refine hK1.out _ _ (fun h => absurd rfl h) ?_
                    clear hK1 K1
                    refine anyL_done (by kernel_rfl) ?_ _
                    clear hr4
                    go_wp2
                    have hs7 := HT4.out.grown.size
                    have hs8 := HS3.out
                    go_roundw
                    case rel => exact ⟨k + 1, _, by omega, by go_num, by omega, by rw [HUG.out]; exact Lib.hid ((HU6.out.pure_r HRI.out HVI.out HO3.out HK3.out HAT.out HS3.out HT4.out HM4.out).mono (by omega)), Lib.hid (HB3.out.grown HT4.out.grown (by have := HB3.out.size; omega) (fun q e => by injection e with e; omega))⟩
                    case measure => simp [intOf]; omega
      · obtain rfl : k = code.length := by omega
        obtain ⟨z0, z1, z2, z3, z4⟩ := nv5 HU1.out.box
        have hrs := (HB1.out.block (w.heap.size + 1) (by omega)).trans HRES.out
        obtain ⟨y0, y1, y2, y3, y4⟩ := nv5 hrs
        have fy : ∀ j : Nat, wr.frozen? ⟨w.heap.size + 1, j, none⟩ = false := fun j => by simp [World.frozen?, hrs]
        have HRS := Lib.hid hrs
        clear hrs
        go_wp2
        obtain ⟨g1, g2⟩ := sets5 HRS.out (.slice (some ⟨b 0, 0, none⟩) code.length code.length) (.slice (some ⟨b 1, 0, none⟩) code.length code.length) (.map (some (b 2))) (.map (some (b 3))) (.slice (some ⟨b 4, 0, none⟩) code.length code.length)
        obtain ⟨t0, t1, t2, t3, t4⟩ := nv5 g1
        have HFU := Lib.hid (HU1.out.keep (by omega) (fun g hg _ => g2 g (by omega)))
        have f0 : Below w.heap.size w wr := HB2.out.trans (HB1.out.mono (by omega))
        have hle : w.heap.size ≤ w.heap.size + 1 := by omega
        have f1 := Below.setCell f0 (p := ⟨w.heap.size + 1, 0, none⟩) hle (.slice (some ⟨b 0, 0, none⟩) code.length code.length)
        have f2 := Below.setCell f1 (p := ⟨w.heap.size + 1, 1, none⟩) hle (.slice (some ⟨b 1, 0, none⟩) code.length code.length)
        have f3 := Below.setCell f2 (p := ⟨w.heap.size + 1, 2, none⟩) hle (.map (some (b 2)))
        have f4 := Below.setCell f3 (p := ⟨w.heap.size + 1, 3, none⟩) hle (.map (some (b 3)))
        have HFB := Lib.hid (Below.setCell f4 (p := ⟨w.heap.size + 1, 4, none⟩) hle (.slice (some ⟨b 4, 0, none⟩) code.length code.length))
        clear f0 f1 f2 f3 f4
        refine bodyPost_ret (v := usV (some ⟨b 0, 0, none⟩) code.length code.length (some ⟨b 1, 0, none⟩) code.length code.length (b 2) (b 3) (some ⟨b 4, 0, none⟩) code.length code.length) (by simp [results, Try.results35, go_sem, t0, t1, t2, t3, t4]) rfl ?_
        exact ⟨b, V, wc.heap.size, rfl, by omega, by simpa using HFU.out, HFB.out⟩
  case first =>
  refine wp_region_any hmix ?_
  refine any_inv (J := (fun listed a W => ∃ l0 l1 l2 l3 l4 l5 l6 l7 l8 l9 l10 : Bool, ∃ b : Nat → Nat, listed = #[l0, l1, l2, l3, l4, l5, l6, l7, l8, l9, l10] ∧ a = ⟨#[fnV ⟨⟨name, params, regs, frame, code⟩, ca, cc⟩, .pointer (some ⟨w.heap.size, 0, none⟩), .pointer (some ⟨w.heap.size + 1, 0, none⟩), .int .i64 (code.length : Int), slot l9 (.pointer (some ⟨b 5, 0, none⟩)), undef, undef, undef, undef, undef, undef, .pointer (some ⟨w.heap.size, 4, none⟩), .slice ca code.length cc, .int .i64 (code.length : Int), slot l0 (.int .i64 (code.length : Int)), slot l1 (.slice (some ⟨b 0, 0, none⟩) code.length code.length), slot l2 (.int .i64 (code.length : Int)), slot l3 (.slice (some ⟨b 1, 0, none⟩) code.length code.length), slot l4 (.map (some (b 2))), slot l5 (.map (some (b 3))), slot l6 (.int .i64 (code.length : Int)), slot l7 (.slice (some ⟨b 4, 0, none⟩) code.length code.length), slot l8 (usV (some ⟨b 0, 0, none⟩) code.length code.length (some ⟨b 1, 0, none⟩) code.length code.length (b 2) (b 3) (some ⟨b 4, 0, none⟩) code.length code.length), undef, undef, undef, undef, undef, undef, undef, undef, undef, undef, undef, undef, undef, undef, undef, undef, undef, undef, undef, undef, undef, undef, undef, undef, undef, undef, undef, undef, undef, undef, undef, undef, undef, undef, undef, undef, undef, undef, undef, undef, undef, undef, undef, undef, undef, undef, undef, undef, undef, undef, undef, undef, undef, undef, undef, undef, undef, undef, undef, undef, undef, undef, undef, undef, undef, undef, undef, undef, undef], []⟩ ∧ Below (w.heap.size + 2) W2 W ∧ (l8 = true → l1 = true ∧ l3 = true ∧ l4 = true ∧ l5 = true ∧ l7 = true) ∧ (l10 = true → l0 = true ∧ l1 = true ∧ l2 = true ∧ l3 = true ∧ l4 = true ∧ l5 = true ∧ l6 = true ∧ l7 = true ∧ l8 = true ∧ l9 = true) ∧ (l10 = false → Its (w.heap.size + 2) OB (fun k : Nat => [l1, l3, l4, l5, l7, l9].getD k false) b W) ∧ (l10 = true → MadeU (w.heap.size + 2) code.length b W))) ?_ ?_ _ _ _ _ ?_ ?_
  · intro listed a W i o hJ hi ho K' hK
    obtain ⟨l0, l1, l2, l3, l4, l5, l6, l7, l8, l9, l10, b, rfl, rfl, hB, hI8, hI10, hM1, hM2⟩ := hJ
    obtain ⟨hun, o2, ho2, hall⟩ := mem_ready.1 hi
    have hlt := (Array.getElem?_eq_some_iff.1 ho).1
    have hWs : w.heap.size + 2 ≤ W.heap.size := by have := hB.size; omega
    simp only [List.size_toArray, List.length_cons, List.length_nil] at hlt
    rcases (by omega : i = 0 ∨ i = 1 ∨ i = 2 ∨ i = 3 ∨ i = 4 ∨ i = 5 ∨ i = 6 ∨ i = 7 ∨ i = 8 ∨ i = 9 ∨ i = 10) with rfl | rfl | rfl | rfl | rfl | rfl | rfl | rfl | rfl | rfl | rfl
    · obtain rfl := Option.some.inj ho
      obtain rfl := Option.some.inj ho2
      have e0 : l0 = false := hun
      subst e0
      have e10 : l10 = false := by rcases l10 with _ | _; · rfl
                                   · exact absurd (hI10 rfl) (by simp)
      subst e10
      clear hi ho ho2 hall hun
      simp only [slot, if_true, Bool.false_eq_true, if_false]
      go_simp
      exact hK _ _ ⟨true, l1, l2, l3, l4, l5, l6, l7, l8, l9, false, b, rfl, rfl, hB, hI8, fun h => (by cases h), hM1, fun h => (by cases h)⟩
    · obtain rfl := Option.some.inj ho
      obtain rfl := Option.some.inj ho2
      have e1 : l1 = false := hun
      subst e1
      have e0 : l0 = true := hall ⟨0, .data⟩ (by simp) rfl
      subst e0
      have e10 : l10 = false := by rcases l10 with _ | _; · rfl
                                   · exact absurd (hI10 rfl) (by simp)
      subst e10
      have e8 : l8 = false := by rcases l8 with _ | _; · rfl
                                 · exact absurd (hI8 rfl) (by simp)
      subst e8
      clear hi ho ho2 hall hun
      simp only [slot, if_true, Bool.false_eq_true, if_false]
      go_simp
      refine hK _ _ ⟨true, true, l2, l3, l4, l5, l6, l7, false, l9, false, (fun j => if j = 0 then W.heap.size else b j), rfl, rfl, hB.alloc hWs _, fun h => (by cases h), fun h => (by cases h), fun h => ?_, fun h => (by cases h)⟩
      · rw [← hob0]
        exact (hM1 h).alloc (L' := (fun k : Nat => [true, l3, l4, l5, l7, l9].getD k false)) hWs 0 (fun j hj hjk => by rcases j with _ | _ | _ | _ | _ | _ | j <;> first | exact hj | exact absurd rfl hjk)
    · obtain rfl := Option.some.inj ho
      obtain rfl := Option.some.inj ho2
      have e2 : l2 = false := hun
      subst e2
      have e10 : l10 = false := by rcases l10 with _ | _; · rfl
                                   · exact absurd (hI10 rfl) (by simp)
      subst e10
      clear hi ho ho2 hall hun
      simp only [slot, if_true, Bool.false_eq_true, if_false]
      go_simp
      exact hK _ _ ⟨l0, l1, true, l3, l4, l5, l6, l7, l8, l9, false, b, rfl, rfl, hB, hI8, fun h => (by cases h), hM1, fun h => (by cases h)⟩
    · obtain rfl := Option.some.inj ho
      obtain rfl := Option.some.inj ho2
      have e3 : l3 = false := hun
      subst e3
      have e2 : l2 = true := hall ⟨2, .data⟩ (by simp) rfl
      subst e2
      have e10 : l10 = false := by rcases l10 with _ | _; · rfl
                                   · exact absurd (hI10 rfl) (by simp)
      subst e10
      have e8 : l8 = false := by rcases l8 with _ | _; · rfl
                                 · exact absurd (hI8 rfl) (by simp)
      subst e8
      clear hi ho ho2 hall hun
      simp only [slot, if_true, Bool.false_eq_true, if_false]
      go_simp
      refine hK _ _ ⟨l0, l1, true, true, l4, l5, l6, l7, false, l9, false, (fun j => if j = 1 then W.heap.size else b j), rfl, rfl, hB.alloc hWs _, fun h => (by cases h), fun h => (by cases h), fun h => ?_, fun h => (by cases h)⟩
      · rw [← hob1]
        exact (hM1 h).alloc (L' := (fun k : Nat => [l1, true, l4, l5, l7, l9].getD k false)) hWs 1 (fun j hj hjk => by rcases j with _ | _ | _ | _ | _ | _ | j <;> first | exact hj | exact absurd rfl hjk)
    · obtain rfl := Option.some.inj ho
      obtain rfl := Option.some.inj ho2
      have e4 : l4 = false := hun
      subst e4
      have e10 : l10 = false := by rcases l10 with _ | _; · rfl
                                   · exact absurd (hI10 rfl) (by simp)
      subst e10
      have e8 : l8 = false := by rcases l8 with _ | _; · rfl
                                 · exact absurd (hI8 rfl) (by simp)
      subst e8
      clear hi ho ho2 hall hun
      simp only [slot, if_true, Bool.false_eq_true, if_false]
      go_simp
      refine hK _ _ ⟨l0, l1, l2, l3, true, l5, l6, l7, false, l9, false, (fun j => if j = 2 then W.heap.size else b j), rfl, rfl, hB.alloc hWs _, fun h => (by cases h), fun h => (by cases h), fun h => ?_, fun h => (by cases h)⟩
      · rw [← hob2]
        exact (hM1 h).alloc (L' := (fun k : Nat => [l1, l3, true, l5, l7, l9].getD k false)) hWs 2 (fun j hj hjk => by rcases j with _ | _ | _ | _ | _ | _ | j <;> first | exact hj | exact absurd rfl hjk)
    · obtain rfl := Option.some.inj ho
      obtain rfl := Option.some.inj ho2
      have e5 : l5 = false := hun
      subst e5
      have e10 : l10 = false := by rcases l10 with _ | _; · rfl
                                   · exact absurd (hI10 rfl) (by simp)
      subst e10
      have e8 : l8 = false := by rcases l8 with _ | _; · rfl
                                 · exact absurd (hI8 rfl) (by simp)
      subst e8
      clear hi ho ho2 hall hun
      simp only [slot, if_true, Bool.false_eq_true, if_false]
      go_simp
      refine hK _ _ ⟨l0, l1, l2, l3, l4, true, l6, l7, false, l9, false, (fun j => if j = 3 then W.heap.size else b j), rfl, rfl, hB.alloc hWs _, fun h => (by cases h), fun h => (by cases h), fun h => ?_, fun h => (by cases h)⟩
      · rw [← hob3]
        exact (hM1 h).alloc (L' := (fun k : Nat => [l1, l3, l4, true, l7, l9].getD k false)) hWs 3 (fun j hj hjk => by rcases j with _ | _ | _ | _ | _ | _ | j <;> first | exact hj | exact absurd rfl hjk)
    · obtain rfl := Option.some.inj ho
      obtain rfl := Option.some.inj ho2
      have e6 : l6 = false := hun
      subst e6
      have e10 : l10 = false := by rcases l10 with _ | _; · rfl
                                   · exact absurd (hI10 rfl) (by simp)
      subst e10
      clear hi ho ho2 hall hun
      simp only [slot, if_true, Bool.false_eq_true, if_false]
      go_simp
      exact hK _ _ ⟨l0, l1, l2, l3, l4, l5, true, l7, l8, l9, false, b, rfl, rfl, hB, hI8, fun h => (by cases h), hM1, fun h => (by cases h)⟩
    · obtain rfl := Option.some.inj ho
      obtain rfl := Option.some.inj ho2
      have e7 : l7 = false := hun
      subst e7
      have e6 : l6 = true := hall ⟨6, .data⟩ (by simp) rfl
      subst e6
      have e10 : l10 = false := by rcases l10 with _ | _; · rfl
                                   · exact absurd (hI10 rfl) (by simp)
      subst e10
      have e8 : l8 = false := by rcases l8 with _ | _; · rfl
                                 · exact absurd (hI8 rfl) (by simp)
      subst e8
      clear hi ho ho2 hall hun
      simp only [slot, if_true, Bool.false_eq_true, if_false]
      go_simp
      refine hK _ _ ⟨l0, l1, l2, l3, l4, l5, true, true, false, l9, false, (fun j => if j = 4 then W.heap.size else b j), rfl, rfl, hB.alloc hWs _, fun h => (by cases h), fun h => (by cases h), fun h => ?_, fun h => (by cases h)⟩
      · rw [← hob4]
        exact (hM1 h).alloc (L' := (fun k : Nat => [l1, l3, l4, l5, true, l9].getD k false)) hWs 4 (fun j hj hjk => by rcases j with _ | _ | _ | _ | _ | _ | j <;> first | exact hj | exact absurd rfl hjk)
    · obtain rfl := Option.some.inj ho
      obtain rfl := Option.some.inj ho2
      have e8 : l8 = false := hun
      subst e8
      have e1 : l1 = true := hall ⟨1, .data⟩ (by simp) rfl
      subst e1
      have e3 : l3 = true := hall ⟨3, .data⟩ (by simp) rfl
      subst e3
      have e4 : l4 = true := hall ⟨4, .data⟩ (by simp) rfl
      subst e4
      have e5 : l5 = true := hall ⟨5, .data⟩ (by simp) rfl
      subst e5
      have e7 : l7 = true := hall ⟨7, .data⟩ (by simp) rfl
      subst e7
      have e10 : l10 = false := by rcases l10 with _ | _; · rfl
                                   · exact absurd (hI10 rfl) (by simp)
      subst e10
      clear hi ho ho2 hall hun
      simp only [slot, if_true, Bool.false_eq_true, if_false]
      go_simp
      exact hK _ _ ⟨l0, true, l2, true, true, true, l6, true, true, l9, false, b, rfl, rfl, hB, fun _ => ⟨rfl, rfl, rfl, rfl, rfl⟩, fun h => (by cases h), hM1, fun h => (by cases h)⟩
    · obtain rfl := Option.some.inj ho
      obtain rfl := Option.some.inj ho2
      have e9 : l9 = false := hun
      subst e9
      have e10 : l10 = false := by rcases l10 with _ | _; · rfl
                                   · exact absurd (hI10 rfl) (by simp)
      subst e10
      clear hi ho ho2 hall hun
      simp only [slot, if_true, Bool.false_eq_true, if_false]
      go_simp
      refine hK _ _ ⟨l0, l1, l2, l3, l4, l5, l6, l7, l8, true, false, (fun j => if j = 5 then W.heap.size else b j), rfl, rfl, hB.alloc hWs _, hI8, fun h => (by cases h), fun h => ?_, fun h => (by cases h)⟩
      · rw [← hob5]
        exact (hM1 h).alloc (L' := (fun k : Nat => [l1, l3, l4, l5, l7, true].getD k false)) hWs 5 (fun j hj hjk => by rcases j with _ | _ | _ | _ | _ | _ | j <;> first | exact hj | exact absurd rfl hjk)
    · obtain rfl := Option.some.inj ho
      obtain rfl := Option.some.inj ho2
      have e10 : l10 = false := hun
      subst e10
      have e9 : l9 = true := hall ⟨9, .data⟩ (by simp) rfl
      subst e9
      have e8 : l8 = true := hall ⟨8, .data⟩ (by simp) rfl
      subst e8
      have e0 : l0 = true := hall ⟨0, .phase⟩ (by simp) rfl
      subst e0
      have e1 : l1 = true := hall ⟨1, .phase⟩ (by simp) rfl
      subst e1
      have e2 : l2 = true := hall ⟨2, .phase⟩ (by simp) rfl
      subst e2
      have e3 : l3 = true := hall ⟨3, .phase⟩ (by simp) rfl
      subst e3
      have e4 : l4 = true := hall ⟨4, .phase⟩ (by simp) rfl
      subst e4
      have e5 : l5 = true := hall ⟨5, .phase⟩ (by simp) rfl
      subst e5
      have e6 : l6 = true := hall ⟨6, .phase⟩ (by simp) rfl
      subst e6
      have e7 : l7 = true := hall ⟨7, .phase⟩ (by simp) rfl
      subst e7
      clear hi ho ho2 hall hun
      have hM := hM1 rfl
      have H5 := (hM.at_ 5 rfl).2
      rw [hob5] at H5
      obtain ⟨z0, z1, z2, z3, z4⟩ := nv5 H5
      have fz : ∀ j : Nat, W.frozen? ⟨b 5, j, none⟩ = false := fun j => by simp [World.frozen?, H5]
      simp only [slot, if_true, Bool.false_eq_true, if_false]
      go_simp
      obtain ⟨q1, q2⟩ := sets5 H5 (.slice (some ⟨b 0, 0, none⟩) code.length code.length) (.slice (some ⟨b 1, 0, none⟩) code.length code.length) (.map (some (b 2))) (.map (some (b 3))) (.slice (some ⟨b 4, 0, none⟩) code.length code.length)
      have h5 := (hM.at_ 5 rfl).1
      refine hK _ _ ⟨true, true, true, true, true, true, true, true, true, true, true, b, rfl, rfl, ((((hB.setCell h5 _).setCell h5 _).setCell h5 _).setCell h5 _).setCell h5 _, fun _ => ⟨rfl, rfl, rfl, rfl, rfl⟩, fun _ => ⟨rfl, rfl, rfl, rfl, rfl, rfl, rfl, rfl, rfl, rfl⟩, fun h => (by cases h), fun h => ⟨?_, ?_, ?_, ?_, ?_, ?_, ?_, q1⟩⟩
      · intro k l hk hl hkl; exact hM.apart k l (allT k hk) (allT l hl) hkl
      · intro k hk; exact (hM.at_ k (allT k hk)).1
      · rw [q2 (b 0) (hM.apart 0 5 rfl rfl (by decide)), ← hob0]; exact (hM.at_ 0 rfl).2
      · rw [q2 (b 1) (hM.apart 1 5 rfl rfl (by decide)), ← hob1]; exact (hM.at_ 1 rfl).2
      · rw [q2 (b 2) (hM.apart 2 5 rfl rfl (by decide)), ← hob2]; exact (hM.at_ 2 rfl).2
      · rw [q2 (b 3) (hM.apart 3 5 rfl rfl (by decide)), ← hob3]; exact (hM.at_ 3 rfl).2
      · rw [q2 (b 4) (hM.apart 4 5 rfl rfl (by decide)), ← hob4]; exact (hM.at_ 4 rfl).2
  · intro listed a W hJ hr
    obtain ⟨l0, l1, l2, l3, l4, l5, l6, l7, l8, l9, l10, b, rfl, rfl, hB, hI8, hI10, hM1, hM2⟩ := hJ
    have e0 : l0 = true := by
      rcases l0 with _ | _
      · exact (not_ready hr 0 _ rfl rfl (fun e he _ => absurd he (by simp))).elim
      · rfl
    subst e0
    have e2 : l2 = true := by
      rcases l2 with _ | _
      · exact (not_ready hr 2 _ rfl rfl (fun e he _ => absurd he (by simp))).elim
      · rfl
    subst e2
    have e4 : l4 = true := by
      rcases l4 with _ | _
      · exact (not_ready hr 4 _ rfl rfl (fun e he _ => absurd he (by simp))).elim
      · rfl
    subst e4
    have e5 : l5 = true := by
      rcases l5 with _ | _
      · exact (not_ready hr 5 _ rfl rfl (fun e he _ => absurd he (by simp))).elim
      · rfl
    subst e5
    have e6 : l6 = true := by
      rcases l6 with _ | _
      · exact (not_ready hr 6 _ rfl rfl (fun e he _ => absurd he (by simp))).elim
      · rfl
    subst e6
    have e9 : l9 = true := by
      rcases l9 with _ | _
      · exact (not_ready hr 9 _ rfl rfl (fun e he _ => absurd he (by simp))).elim
      · rfl
    subst e9
    have e1 : l1 = true := by
      rcases l1 with _ | _
      · exact (not_ready hr 1 _ rfl rfl (fun e he _ => by change e ∈ #[_, _] at he; simp only [List.mem_toArray, List.mem_cons, List.not_mem_nil, or_false] at he; rcases he with rfl | rfl <;> rfl)).elim
      · rfl
    subst e1
    have e3 : l3 = true := by
      rcases l3 with _ | _
      · exact (not_ready hr 3 _ rfl rfl (fun e he _ => by change e ∈ #[_, _] at he; simp only [List.mem_toArray, List.mem_cons, List.not_mem_nil, or_false] at he; rcases he with rfl | rfl <;> rfl)).elim
      · rfl
    subst e3
    have e7 : l7 = true := by
      rcases l7 with _ | _
      · exact (not_ready hr 7 _ rfl rfl (fun e he _ => by change e ∈ #[_, _] at he; simp only [List.mem_toArray, List.mem_cons, List.not_mem_nil, or_false] at he; rcases he with rfl | rfl <;> rfl)).elim
      · rfl
    subst e7
    have e8 : l8 = true := by
      rcases l8 with _ | _
      · exact (not_ready hr 8 _ rfl rfl (fun e he _ => by change e ∈ #[_, _, _, _, _] at he; simp only [List.mem_toArray, List.mem_cons, List.not_mem_nil, or_false] at he; rcases he with rfl | rfl | rfl | rfl | rfl <;> rfl)).elim
      · rfl
    subst e8
    have e10 : l10 = true := by
      rcases l10 with _ | _
      · exact (not_ready hr 10 _ rfl rfl (fun e he _ => by change e ∈ #[_, _, _, _, _, _, _, _, _, _, _, _] at he; simp only [List.mem_toArray, List.mem_cons, List.not_mem_nil, or_false] at he; rcases he with rfl | rfl | rfl | rfl | rfl | rfl | rfl | rfl | rfl | rfl | rfl | rfl <;> rfl)).elim
      · rfl
    subst e10
    have HM := Lib.hid (hM2 rfl)
    have HB := Lib.hid hB
    clear hI8 hI10 hM1 hM2 hB hr
    simp only [slot, if_true]
    go_wp2
    go_meet
    case rel => exact ⟨b, rfl, HM, HB⟩
  · exact (by decide : lacks (Array.replicate 11 false).toList ≤ 11)
  · exact ⟨false, false, false, false, false, false, false, false, false, false, false, fun _ => 0, rfl, rfl, drW (Below.refl _ _), fun h => (by cases h), fun h => (by cases h), fun _ => Its.none _ _ _ _ _ (fun k => by rcases k with _ | _ | _ | _ | _ | _ | k <;> rfl), fun h => (by cases h)⟩
end Go.Proofs.Ytgnpbodhjmappaa
