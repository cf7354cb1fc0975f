/-
  Layer 7: what instruction needs of any instruction.
-/
import Derived.Test.YtgnpbodhjmappaaPLD
import Derived.Test.YtgnpbodhjmappaaPLE
import Derived.Test.YtgnpbodhjmappaaPC7I8a
import Derived.Test.YtgnpbodhjmappaaPC7I8b
import Derived.Test.YtgnpbodhjmappaaPLF
import Derived.Test.YtgnpbodhjmappaaPND
set_option linter.unusedVariables false
set_option linter.unusedSimpArgs false
namespace Go.Proofs.Ytgnpbodhjmappaa
open Go.RowKit Cd
theorem instr_any (i : Ins) (r : FnR) (hr0 : 0 ≤ r.f.regs) (hr1 : r.f.regs ≤ 4096) (hlen : r.f.code.length ≤ 1000000) (z cb co : Nat) (R : Bool) (w : World) (hz : w.heap[z]? = some (bxB R)) (hi : ∀ (j : Nat) (u : Value), (inCells i)[j]? = some u → w.cell? ⟨cb, co + j, none⟩ = some u) (hcb : cb < w.heap.size) (hne : z ≠ cb) :
    Calls Try.prog 57 #[fnV r, .pointer (some ⟨cb, co, none⟩), needV z] w (InPost z (R && rightI i r.f.regs r.f.frame r.f.code.length) w) := by
  obtain ⟨k, op, dst, a, b, n, text, x0, x1, x2, x3, x4, x5, dest, els⟩ := i
  by_cases hk : k < 1 ∨ 13 < k
  · exact instr_low k op dst a b n text x0 x1 x2 x3 x4 x5 dest els hk r z cb co R w hz hi hcb hne
  · rcases (by omega : k = 1 ∨ k = 2 ∨ k = 3 ∨ k = 4 ∨ k = 5 ∨ k = 6 ∨ k = 7 ∨ k = 8 ∨ k = 9 ∨ k = 10 ∨ k = 11 ∨ k = 12 ∨ k = 13) with rfl | rfl | rfl | rfl | rfl | rfl | rfl | rfl | rfl | rfl | rfl | rfl | rfl
    · exact instr_1 op dst a b n text x0 x1 x2 x3 x4 x5 dest els r hr0 hr1 hlen z cb co R w hz hi hcb hne
    · exact instr_2 op dst a b n text x0 x1 x2 x3 x4 x5 dest els r hr0 hr1 hlen z cb co R w hz hi hcb hne
    · exact instr_3 op dst a b n text x0 x1 x2 x3 x4 x5 dest els r hr0 hr1 hlen z cb co R w hz hi hcb hne
    · exact instr_4 op dst a b n text x0 x1 x2 x3 x4 x5 dest els r hr0 hr1 hlen z cb co R w hz hi hcb hne
    · exact instr_5 op dst a b n text x0 x1 x2 x3 x4 x5 dest els r hr0 hr1 hlen z cb co R w hz hi hcb hne
    · exact instr_6 op dst a b n text x0 x1 x2 x3 x4 x5 dest els r hr0 hr1 hlen z cb co R w hz hi hcb hne
    · exact instr_7 op dst a b n text x0 x1 x2 x3 x4 x5 dest els r hr0 hr1 hlen z cb co R w hz hi hcb hne
    · by_cases hd : dst = -1
      · subst hd
        exact instr_8a op a b n text x0 x1 x2 x3 x4 x5 dest els r hr0 hr1 z cb co R w hz hi hcb hne
      · exact instr_8b op dst a b n text x0 x1 x2 x3 x4 x5 dest els r hr0 hr1 hd z cb co R w hz hi hcb hne
    · exact instr_9 op dst a b n text x0 x1 x2 x3 x4 x5 dest els r hr0 hr1 hlen z cb co R w hz hi hcb hne
    · exact instr_10 op dst a b n text x0 x1 x2 x3 x4 x5 dest els r hr0 hr1 hlen z cb co R w hz hi hcb hne
    · exact instr_11 op dst a b n text x0 x1 x2 x3 x4 x5 dest els r hr0 hr1 hlen z cb co R w hz hi hcb hne
    · exact instr_12 op dst a b n text x0 x1 x2 x3 x4 x5 dest els r hr0 hr1 hlen z cb co R w hz hi hcb hne
    · exact instr_13 op dst a b n text x0 x1 x2 x3 x4 x5 dest els r hr0 hr1 hlen z cb co R w hz hi hcb hne
end Go.Proofs.Ytgnpbodhjmappaa
namespace Go.Proofs.Ytgnpbodhjmappaa
set_option maxRecDepth 100000
open Go.RowKit Cd
open List renaming getElem_toArray → zA, getElem_cons_succ → zB, getElem_cons_zero → zC, setIfInBounds_toArray → zD, set_cons_succ → zE, set_cons_zero → zF
structure RfSt (w0 w : World) (r : FnR) (R : Bool) : Prop where
  below : Below w0.heap.size w0 w
  hf : w.heap[w0.heap.size]? = some (fnO r)
  hz : w.heap[w0.heap.size + 1]? = some (bxB R)
variable {w0 w w' : World} {r : FnR} {R R' : Bool}
theorem RfSt.need (h : RfSt w0 w r R) (hd : Nd (w0.heap.size + 1) R' w w') : RfSt w0 w' r R' :=
  ⟨h.below.trans (hd.below.mono (by omega)), (hd.kept _ (lt_heap h.hf) (by omega)).trans h.hf, hd.cell⟩
theorem RfSt.drew (h : RfSt w0 w r R) : RfSt w0 w.drew r R := ⟨h.below.drew, h.hf, h.hz⟩
theorem rfSt_first (w : World) (r : FnR) : RfSt w ((w.alloc (fnO r)).alloc (bxB true)) r true := by
  have e := heap_alloc_new (w.alloc (fnO r)) (bxB true)
  rw [World.size_alloc] at e
  exact ⟨((Below.refl _ w).alloc (Nat.le_refl _) _).alloc (by simp) _, (Below.heap_alloc _ _ _ (by simp)).trans (heap_alloc_new w _), e⟩
theorem RfSt.cells (h : RfSt w0 w r R) : w.cell? ⟨w0.heap.size, 0, none⟩ = some (.string (sb r.f.name)) ∧ w.cell? ⟨w0.heap.size, 1, none⟩ = some (.int .i64 r.f.params) ∧ w.cell? ⟨w0.heap.size, 2, none⟩ = some (.int .i64 r.f.regs) ∧ w.cell? ⟨w0.heap.size, 3, none⟩ = some (.int .i64 r.f.frame) ∧ w.cell? ⟨w0.heap.size, 4, none⟩ = some (.slice r.ca r.f.code.length r.cc) := nv5 h.hf
theorem code_item {w : World} {B : Nat} {r : FnR} (h : CodeAt w B r) {k : Nat} {i : Ins} (hk : r.f.code[k]? = some i) :
    ∃ b off, r.ca = some ⟨b, off, none⟩ ∧ b < B ∧ B ≤ w.heap.size ∧ ∀ (j : Nat) (u : Value), (inCells i)[j]? = some u → w.cell? ⟨b, off + k * 15 + j, none⟩ = some u := by
  obtain ⟨b, off, ha, hb, hB, hc⟩ := RowAt.item inCells_len h hk (by omega)
  exact ⟨b, off, ha, hb, hB, fun j u hu => by have := hc j u hu; rwa [← Nat.add_assoc] at this⟩
theorem right_all {f : Fnc} (h : headOk f = true) : (inB (lastKind f.code) 11 13 && f.code.all (fun i => rightI i f.regs f.frame f.code.length)) = rightF f := by
  unfold rightF
  rw [h]
  by_cases ha : f.code.all (fun i => rightI i f.regs f.frame f.code.length) = true
  · have hne : 0 < f.code.length := by unfold headOk at h; simp at h; omega
    have hl : lastKind f.code ≤ 13 := by
      unfold lastKind
      rw [List.getLast?_eq_getElem?]
      obtain ⟨i, hi⟩ : ∃ i, f.code[f.code.length - 1]? = some i := ⟨_, List.getElem?_eq_getElem (by omega)⟩
      rw [hi]
      show i.kind ≤ 13
      have := all_at ha hi
      unfold rightI at this
      simp at this
      omega
    rw [ha]
    unfold inB
    simp [hl]
  · rw [bfalse ha]; simp
set_option maxHeartbeats 8000000 in
set_option maxRecDepth 100000 in
theorem rightFunc_c (r : FnR) (B : Nat) (w : World) (hc : CodeAt w B r) (hB : B ≤ w.heap.size) (hl : r.f.code.length ≤ maxLen) :
    Calls Try.prog 34 #[fnV r] w (RPost (.bool (rightF r.f)) w) := by
  unfold maxLen at hl
  have hmix : Try.prog.follows .mixedOrders = true := by kernel_rfl
  obtain ⟨b0, hb0⟩ : ∃ b, r.f.name.isEmpty = b := ⟨_, rfl⟩
  obtain ⟨b1, hb1⟩ : ∃ b, inB r.f.params 0 6 = b := ⟨_, rfl⟩
  obtain ⟨b2, hb2⟩ : ∃ b, inB r.f.regs r.f.params 4096 = b := ⟨_, rfl⟩
  obtain ⟨b3, hb3⟩ : ∃ b, inB r.f.frame 0 4096 = b := ⟨_, rfl⟩
  obtain ⟨b4, hb4⟩ : ∃ b, inB (r.f.code.length : Int) 1 8192 = b := ⟨_, rfl⟩
  have hh : ((((true && !b0) && b1) && b2) && b3 && b4) = headOk r.f := by
    rw [← hb0, ← hb1, ← hb2, ← hb3, ← hb4]
    unfold headOk inB
    cases hn : r.f.name <;> simp <;> grind
  have HS0 := Lib.hid (rfSt_first w r)
  have HC := Lib.hid hc; clear hc
  have HB4 := Lib.hid hb4
  cases hho : headOk r.f with
  | false =>
    have HRF : Hid (rightF r.f = false) := Lib.hid (by unfold rightF; rw [hho]; rfl)
    rw [hho] at hh
    have HH := Lib.hid hh; clear hh hho
    go_enter Try.func34, Try.ntmps34
    have HS := HS0; clear HS0
    go_wp2_with (first | ((with_reducible refine (within_v _ _ _ _ hb1 _).mono ?_); rintro e u ⟨rfl, rfl⟩) | ((with_reducible refine (within_v _ _ _ _ hb2 _).mono ?_); rintro e u ⟨rfl, rfl⟩) | ((with_reducible refine (within_v _ _ _ _ hb3 _).mono ?_); rintro e u ⟨rfl, rfl⟩) | ((with_reducible refine (within_v _ _ _ _ hb4 _).mono ?_); rintro e u ⟨rfl, rfl⟩) | ((with_reducible refine (need1_any (w.heap.size + 1) _ b4 _ HS.out.hz).mono ?_); rintro e v ⟨rfl, hd⟩; rw [HH.out] at hd; have HS := Lib.hid (HS.out.need hd); clear hd; obtain ⟨c0, c1, c2, c3, c4⟩ := HS.out.cells; have z0 := (boxB_cell HS.out.hz).1) | ((with_reducible refine (need1_any (w.heap.size + 1) _ _ _ HS.out.hz).mono ?_); rintro e v ⟨rfl, hd⟩; have HS := Lib.hid (HS.out.need hd); clear hd; obtain ⟨c0, c1, c2, c3, c4⟩ := HS.out.cells; have z0 := (boxB_cell HS.out.hz).1))
    go_ret
    exact ⟨by rw [HRF.out]; rfl, HS.out.below⟩
  | true =>
    have HRF := Lib.hid (right_all hho)
    have hhd := hho
    unfold headOk at hhd
    simp only [Bool.and_eq_true, decide_eq_true_eq] at hhd
    obtain ⟨⟨⟨⟨⟨⟨⟨⟨h1, h2⟩, h3⟩, h4⟩, h5⟩, h6⟩, h7⟩, h8⟩, h9⟩ := hhd
    have hr0 : 0 ≤ r.f.regs := by omega
    rw [hho] at hh
    have HH := Lib.hid hh; clear hh hho
    obtain ⟨il, hil⟩ : ∃ i, r.f.code[r.f.code.length - 1]? = some i := ⟨_, List.getElem?_eq_getElem (by omega)⟩
    have HLK : Hid (lastKind r.f.code = il.kind) := Lib.hid (by unfold lastKind; rw [List.getLast?_eq_getElem?, hil])
    obtain ⟨b, off, hca, hbB, hBw, hcl⟩ := code_item HC.out hil
    have kc : w.cell? ⟨b, off + (r.f.code.length - 1) * 15, none⟩ = some (.int .i64 il.kind) := hcl 0 _ rfl
    have HCA := Lib.hid hca
    have HKC := Lib.hid kc
    have hnat : ((r.f.code.length : Int) - 1).toNat = r.f.code.length - 1 := by omega
    have hw : IntKind.i64.wrap ((r.f.code.length : Int) - 1) = (r.f.code.length : Int) - 1 := by rw [IntKind.wrap_i64]; omega
    have p0 : (0 : Int) ≤ (r.f.code.length : Int) - 1 := by omega
    have p1 : (r.f.code.length : Int) - 1 < (r.f.code.length : Int) := by omega
    obtain ⟨bl, hbl⟩ : ∃ bl, inB il.kind 11 13 = bl := ⟨_, rfl⟩
    have HBL := Lib.hid hbl
    clear hcl kc hil h1 h2 h3 h4 h6 h7 hca
    go_enter Try.func34, Try.ntmps34
    have HS := HS0; clear HS0
    go_wp2_with (first | ((with_reducible refine (within_v _ _ _ _ hbl _).mono ?_); rintro e u ⟨rfl, rfl⟩) | ((with_reducible refine (need1_any (w.heap.size + 1) _ bl _ HS.out.hz).mono ?_); rintro e v ⟨rfl, hd⟩; have HS := Lib.hid (HS.out.need hd); clear hd; obtain ⟨c0, c1, c2, c3, c4⟩ := HS.out.cells; have z0 := (boxB_cell HS.out.hz).1) | ((with_reducible refine (within_v _ _ _ _ hb1 _).mono ?_); rintro e u ⟨rfl, rfl⟩) | ((with_reducible refine (within_v _ _ _ _ hb2 _).mono ?_); rintro e u ⟨rfl, rfl⟩) | ((with_reducible refine (within_v _ _ _ _ hb3 _).mono ?_); rintro e u ⟨rfl, rfl⟩) | ((with_reducible refine (within_v _ _ _ _ hb4 _).mono ?_); rintro e u ⟨rfl, rfl⟩) | ((with_reducible refine (need1_any (w.heap.size + 1) _ b4 _ HS.out.hz).mono ?_); rintro e v ⟨rfl, hd⟩; rw [HH.out] at hd; have HS := Lib.hid (HS.out.need hd); clear hd; obtain ⟨c0, c1, c2, c3, c4⟩ := HS.out.cells; have z0 := (boxB_cell HS.out.hz).1; rw [HCA.out] at c4; have kc := (HS.out.below.cell (p := ⟨b, off + (r.f.code.length - 1) * 15, none⟩) (by show b < w.heap.size; omega)).trans HKC.out) | ((with_reducible refine (need1_any (w.heap.size + 1) _ _ _ HS.out.hz).mono ?_); rintro e v ⟨rfl, hd⟩; have HS := Lib.hid (HS.out.need hd); clear hd; obtain ⟨c0, c1, c2, c3, c4⟩ := HS.out.cells; have z0 := (boxB_cell HS.out.hz).1))
    have HSL := Lib.hid (show RfSt w v r bl from HS.out)
    clear HS c0 c1 c2 c3 c4 z0 kc
    go_loopw [52] (fun s52 wr => ∃ k : Nat, k ≤ r.f.code.length ∧ s52 = .int .i64 k ∧ Hid (RfSt w wr r (bl && (r.f.code.take k).all (fun i => rightI i r.f.regs r.f.frame r.f.code.length)))) (fun i wr => r.f.code.length - (intOf i).toNat)
    case atStart => exact ⟨0, by omega, rfl, Lib.hid (by simpa using HSL.out)⟩
    case round =>
      clear HSL
      obtain ⟨k, hk, rfl, HA⟩ := hrel
      have HS := HA; clear HA
      have q0 : (0 : Int) ≤ (k : Int) := Int.natCast_nonneg _
      by_cases hlt : k < r.f.code.length
      · obtain ⟨i, hi⟩ : ∃ i, r.f.code[k]? = some i := ⟨_, List.getElem?_eq_getElem hlt⟩
        have HTK : Hid ((r.f.code.take (k + 1)).all (fun i => rightI i r.f.regs r.f.frame r.f.code.length) = ((r.f.code.take k).all (fun i => rightI i r.f.regs r.f.frame r.f.code.length) && rightI i r.f.regs r.f.frame r.f.code.length)) := Lib.hid (by rw [List.take_add_one, hi, List.all_append]; simp)
        have hcd := code_item (HC.out.below ((HS.out.below.drew).mono hB)) hi
        rw [HCA.out] at hcd
        obtain ⟨b', off', he, _, _, hcl⟩ := hcd
        injection he with he
        injection he with e1 e2 _
        subst e1 e2
        have HCL := Lib.hid hcl
        have q1 : (k : Int) < (r.f.code.length : Int) := by omega
        have t1 : decide ((k : Int) < (r.f.code.length : Int)) = true := by simpa using q1
        obtain ⟨c0, c1, c2, c3, c4⟩ := HS.out.cells
        rw [HCA.out] at c4
        clear hcl hi
        go_wp2
        refine region_last (fun W => ∃ R, RfSt w W r R) 1000000 hmix ?_
        have HD := Lib.hid HS.out.drew
        have hS : (fun W => ∃ R, RfSt w W r R) _ := ⟨_, HD.out⟩
        refine anyL_takeH (i := 0) (v := ?_) rfl (by decide) (by kernel_rfl) (by kernel_rfl) (by kernel_rfl) (fun _ _ _ h => h) (Or.inl ⟨by rfl, ?_⟩) hS ?_
        rotate_left
        · (intro w' hSw; obtain ⟨_, hSw⟩ := hSw; obtain ⟨d0, d1, d2, d3, d4⟩ := hSw.cells; rw [HCA.out] at d4; go_simp; first | done | with_reducible rfl)
        simp only [Act.put, zA, zB, zC, zD, zE, zF]
        refine anyL_takeH (i := 1) (v := ?_) rfl (by decide) (by kernel_rfl) (by kernel_rfl) (by kernel_rfl) (fun _ _ _ h => h) (Or.inl ⟨by rfl, ?_⟩) hS ?_
        rotate_left
        · (intro w' hSw; obtain ⟨_, hSw⟩ := hSw; obtain ⟨d0, d1, d2, d3, d4⟩ := hSw.cells; rw [HCA.out] at d4; go_simp; first | done | with_reducible rfl)
        simp only [Act.put, zA, zB, zC, zD, zE, zF]
        refine anyL_takeH (i := 2) (v := ?_) rfl (by decide) (by kernel_rfl) (by kernel_rfl) (by kernel_rfl) (fun _ _ _ h => h) (Or.inl ⟨by rfl, ?_⟩) hS ?_
        rotate_left
        · (intro w' hSw; obtain ⟨_, hSw⟩ := hSw; obtain ⟨d0, d1, d2, d3, d4⟩ := hSw.cells; rw [HCA.out] at d4; go_simp; first | done | with_reducible rfl)
        simp only [Act.put, zA, zB, zC, zD, zE, zF]
        refine anyL_takeH (i := 3) (v := ?_) rfl (by decide) (by kernel_rfl) (by kernel_rfl) (by kernel_rfl) (fun _ _ _ h => h) (Or.inl ⟨by rfl, ?_⟩) hS ?_
        rotate_left
        · (intro w' hSw; obtain ⟨_, hSw⟩ := hSw; obtain ⟨d0, d1, d2, d3, d4⟩ := hSw.cells; rw [HCA.out] at d4; go_simp; first | done | with_reducible rfl)
        simp only [Act.put, zA, zB, zC, zD, zE, zF]
        refine anyL_takeH (i := 4) (v := ?_) rfl (by decide) (by kernel_rfl) (by kernel_rfl) (by kernel_rfl) (fun _ _ _ h => h) (Or.inl ⟨by rfl, ?_⟩) hS ?_
        rotate_left
        · (intro w' hSw; obtain ⟨_, hSw⟩ := hSw; obtain ⟨d0, d1, d2, d3, d4⟩ := hSw.cells; rw [HCA.out] at d4; go_simp; first | done | with_reducible rfl)
        simp only [Act.put, zA, zB, zC, zD, zE, zF]
        refine anyL_takeH (i := 5) (v := ?_) rfl (by decide) (by kernel_rfl) (by kernel_rfl) (by kernel_rfl) (fun _ _ _ h => h) (Or.inl ⟨by rfl, ?_⟩) hS ?_
        rotate_left
        · (intro w' hSw; obtain ⟨_, hSw⟩ := hSw; obtain ⟨d0, d1, d2, d3, d4⟩ := hSw.cells; rw [HCA.out] at d4; go_simp; first | done | with_reducible rfl)
        simp only [Act.put, zA, zB, zC, zD, zE, zF]
        refine anyL_one (i := 6) (by kernel_rfl) rfl (fun K1 hK1 => ?_)
        go_simp
        have hI := instr_any i r hr0 h5 (by omega) (w.heap.size + 1) b (off + k * 15) _ wr.drew HD.out.hz HCL.out (by have := HS.out.below.size; show b < wr.heap.size; omega) (by omega)
        simp only [fnV, HCA.out] at hI
        refine hI.mono ?_
        clear hI
        rintro e v2 ⟨rfl, hd⟩
        have HS2 := Lib.hid (HD.out.need hd)
        clear hd
        refine hK1.out _ _ (fun _ => ⟨_, HS2.out⟩) ?_
        clear hK1 K1 hS
        refine anyL_done (by kernel_rfl) ?_ _
        go_wp2
        go_roundw
        case rel => exact ⟨k + 1, by omega, by go_num, Lib.hid (by rw [HTK.out, ← Bool.and_assoc]; exact HS2.out)⟩
        case measure => simp [intOf]; omega
      · obtain rfl : k = r.f.code.length := by omega
        have t1 : decide ((r.f.code.length : Int) < (r.f.code.length : Int)) = false := by simp
        have HE : Hid ((bl && (r.f.code.take r.f.code.length).all (fun i => rightI i r.f.regs r.f.frame r.f.code.length)) = rightF r.f) := Lib.hid (by rw [List.take_length, ← HRF.out, HLK.out, HBL.out])
        rw [HE.out] at HS
        obtain ⟨z0, _⟩ := boxB_cell HS.out.hz
        go_wp2
        go_ret
        exact ⟨rfl, HS.out.below⟩
end Go.Proofs.Ytgnpbodhjmappaa
