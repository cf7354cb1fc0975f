/-
  Layer 11: contract of Ahead.
-/
import Derived.Test.YtpajndeongcjbaaQLJ
import Derived.Test.YtpajndeongcjbaaQC7RightF
namespace Go.Proofs.Ytpajndeongcjbaa
set_option maxRecDepth 100000
open Go.RowKit Cd
set_option linter.unusedVariables false
set_option linter.unusedSimpArgs false

/-- What Ahead tells: rows of values, in memory from lo on. -/
def TabAt (w : World) (lo : Nat) (a : Option Addr) (S : List (List Val)) : Prop :=
  ∃ vs : List Value, vs.length = S.length ∧ LiesIn w lo a vs ∧ ∀ (j : Nat) (v : List Val), S[j]? = some v → ∃ b c, vs[j]? = some (.slice b v.length c) ∧ LiesIn w lo b (v.flatMap vlCells)
theorem TabAt.keep {w w' : World} {lo : Nat} {a : Option Addr} {S : List (List Val)} (h : TabAt w lo a S) (hs : w.heap.size ≤ w'.heap.size) (hb : ∀ g, lo ≤ g → g < w.heap.size → w'.heap[g]? = w.heap[g]?) : TabAt w' lo a S := by
  obtain ⟨vs, h1, h2, h3⟩ := h
  refine ⟨vs, h1, h2.keep hs hb, fun j v hv => ?_⟩
  obtain ⟨b, c, h4, h5⟩ := h3 j v hv
  exact ⟨b, c, h4, h5.keep hs hb⟩
theorem TabAt.below {w w' : World} {lo : Nat} {a : Option Addr} {S : List (List Val)} (h : TabAt w lo a S) (hb : Below w.heap.size w w') : TabAt w' lo a S := h.keep hb.size (fun g _ hg => hb.block g hg)
theorem TabAt.at {w : World} {lo : Nat} {a : Option Addr} {S : List (List Val)} (h : TabAt w lo a S) {j : Nat} {v : List Val} (hv : S[j]? = some v) : ∃ b off p c, a = some ⟨b, off, none⟩ ∧ b < w.heap.size ∧ w.cell? ⟨b, off + j, none⟩ = some (.slice p v.length c) ∧ ValsAt w w.heap.size p v := by
  obtain ⟨vs, h1, h2, h3⟩ := h
  obtain ⟨p, c, h4, h5⟩ := h3 j v hv
  have hlt := (List.getElem?_eq_some_iff.1 hv).1
  obtain ⟨b, off, ha, _, hb, hc⟩ := h2 (by omega)
  exact ⟨b, off, p, c, ha, hb, hc j _ h4, h5.row⟩
def AhPost (S : List (List Val)) (w : World) (e : Ending) (w' : World) : Prop := ∃ a c, e = .returned (.slice a S.length c) ∧ TabAt w' w.heap.size a S ∧ Below w.heap.size w w'
theorem AhPost.nil {w w' : World} (hb : Below w.heap.size w w') : AhPost [] w (.returned (.slice none 0 0)) w' := ⟨none, 0, rfl, ⟨[], rfl, fun h => absurd h (by simp), fun j v h => by simp at h⟩, hb⟩
theorem AhSt.post {w0 w : World} {r : FnR} {A : Nat} {S : List (List Val)} (h : AhSt w0 w r A S) (n : Nat) (hn : n = S.length) : AhPost S w0 (.returned (.slice (some ⟨A, 0, none⟩) n n)) w := by
  subst hn
  have hA := h.hA
  refine ⟨some ⟨A, 0, none⟩, S.length, rfl, ⟨mkA A r.f.regs.toNat S.length S.length, mkA_len _ _ _ _, fun _ => ⟨A, 0, rfl, by omega, lt_heap h.ah, fun j u hu => by rw [Nat.zero_add, cell_of_row w A _ _ _ _ h.ah]; simpa using hu⟩, fun j v hv => ?_⟩, h.hb⟩
  have hj := (List.getElem?_eq_some_iff.1 hv).1
  obtain ⟨h1, h2⟩ := h.rows j v hv
  refine ⟨some ⟨A + 1 + j, 0, none⟩, r.f.regs.toNat, ?_, fun _ => ⟨A + 1 + j, 0, rfl, by omega, h1.lt, fun q u hu => by rw [Nat.zero_add, cell_of_row w _ _ _ _ _ h1]; simpa using hu⟩⟩
  rw [mkA_at hj, if_pos hj, h2]; rfl
theorem box_below (w : World) (r : FnR) : Below w.heap.size w (w.alloc (fnO r)) := (Below.refl w.heap.size w).alloc (Nat.le_refl _) _
set_option maxHeartbeats 4000000 in
theorem ahead_no (r : FnR) (w : World) (hC : CodeAt w w.heap.size r) (hL : r.f.code.length ≤ maxLen) (hr : rightF r.f = false) : Calls Try.prog 41 #[fnV r] w (AhPost [] w) := by
  have HB0 := Lib.hid (box_below w r)
  have HX0 := Lib.hid (heap_alloc_new w (fnO r))
  have HR : Hid (Calls Try.prog 56 #[fnV r] (w.alloc (fnO r)) (RPost (.bool false) (w.alloc (fnO r)))) := Lib.hid (hr ▸ rightFunc_c r w.heap.size _ (hC.below HB0.out) HB0.out.size hL)
  obtain ⟨x0, x1, x2, x3, x4⟩ := nv5 HX0.out
  clear hC hL hr
  go_enter Try.func41, Try.ntmps41
  go_wp2_with ((with_reducible refine (HR.out).mono ?_); rintro e w1 ⟨rfl, hb1⟩; have HB1 := Lib.hid (HB0.out.trans (hb1.mono HB0.out.size)); clear hb1)
  go_ret
  exact AhPost.nil HB1.out
set_option maxHeartbeats 8000000 in
theorem ahead_yes (r : FnR) (w : World) (hC : CodeAt w w.heap.size r) (hL : r.f.code.length ≤ maxLen) (hr : RightF r.f) (hsz : r.f.code.length * (r.f.regs.toNat + 1) ≤ 65536) : Calls Try.prog 41 #[fnV r] w (fun e w' => ∃ S, Sol r.f S ∧ AhPost S w e w') := by
  have hmix : Try.prog.follows .mixedOrders = true := by kernel_rfl
  have HB0 := Lib.hid (box_below w r)
  have HX0 := Lib.hid (heap_alloc_new w (fnO r))
  have HR : Hid (Calls Try.prog 56 #[fnV r] (w.alloc (fnO r)) (RPost (.bool true) (w.alloc (fnO r)))) := Lib.hid ((rightF_iff.2 hr) ▸ rightFunc_c r w.heap.size _ (hC.below HB0.out) HB0.out.size hL)
  have HC0 := Lib.hid (hC.below HB0.out)
  have hrr : r.f.regs = (r.f.regs.toNat : Int) := by have := hr.params; have := hr.regs; omega
  have hn1 := hr.code; have hR1 := hr.regs; have hp1 := hr.params
  obtain ⟨M, hM⟩ : ∃ M : Int, (r.f.code.length : Int) * (r.f.regs + 1) = M := ⟨_, rfl⟩
  have hMe : M = ((r.f.code.length * (r.f.regs.toNat + 1) : Nat) : Int) := by rw [← hM, Int.natCast_mul, Int.natCast_add, ← hrr]; rfl
  have hMb : M ≤ 65536 := by omega
  have hM0 : 0 ≤ M := by omega
  have hmk1 := make_slices r.f.code.length (by omega)
  have hmk2 : ∀ W, (Instr.makeSlice 67 (.int .i64 r.f.regs) (.int .i64 r.f.regs)).run Try.prog W = .ok (.slice (some ⟨W.heap.size, 0, none⟩) r.f.regs.toNat r.f.regs.toNat) (W.alloc (vObj (List.replicate r.f.regs.toNat ⟨0, 0⟩))) := fun W => by
    have := make_vals r.f.regs.toNat (by omega) W
    rwa [← hrr] at this
  obtain ⟨x0, x1, x2, x3, x4⟩ := nv5 HX0.out
  have HRF := Lib.hid hr
  have HRR := Lib.hid hrr
  have n0 : (0 : Int) ≤ (r.f.code.length : Int) := Int.natCast_nonneg _
  clear hC hL hr hrr hMe
  go_enter Try.func41, Try.ntmps41
  go_wp2_with ((with_reducible refine (HR.out).mono ?_); rintro e w1 ⟨rfl, hb1⟩; have HB1 := Lib.hid (HB0.out.trans (hb1.mono HB0.out.size)); have HX1 := Lib.hid ((hb1.block w.heap.size (by simp)).trans HX0.out); have HBC := Lib.hid (hb1.mono HB0.out.size); clear hb1 x0 x1 x2 x3 x4; obtain ⟨x0, x1, x2, x3, x4⟩ := nv5 HX1.out)
  have HC1 : Hid (CodeAt w1 w.heap.size r) := Lib.hid (HC0.out.below HBC.out)
  go_loopw [30] (fun s30 wr => ∃ k : Nat, k ≤ r.f.code.length ∧ s30 = .int .i64 (k : Int) ∧ Hid (L1St w1 wr w1.heap.size r.f.regs.toNat r.f.code.length k)) (fun s30 wr => r.f.code.length - (intOf s30).toNat)
  case atStart => exact ⟨0, by omega, rfl, Lib.hid (L1St.first _ _ _)⟩
  case round =>
    obtain ⟨k, hk, rfl, HL1⟩ := hrel
    have k0 : (0 : Int) ≤ (k : Int) := Int.natCast_nonneg _
    have hs1 := HL1.out.hs
    have hz1 := lt_heap HX1.out
    have hx := (HL1.out.hb.block w.heap.size hz1).trans HX1.out
    by_cases hlt : k < r.f.code.length
    · have k1 : (k : Int) < (r.f.code.length : Int) := by omega
      have hcl := HL1.out.cell hlt
      have hfr : wr.frozen? ⟨w1.heap.size, k, none⟩ = false := by simp [World.frozen?, HL1.out.ah]
      have HNX := Lib.hid (HL1.out.next hlt)
      have HLT := Lib.hid hlt
      clear x0 x1 x2 x3 x4
      obtain ⟨x0, x1, x2, x3, x4⟩ := nv5 hx
      have hne : ¬ w1.heap.size = wr.heap.size := by omega
      have hA2 : (wr.alloc (vObj (List.replicate r.f.regs.toNat ⟨0, 0⟩))).heap[w1.heap.size]? = _ := (Below.heap_alloc _ _ _ (by omega)).trans HL1.out.ah
      have hcl2 : (wr.alloc (vObj (List.replicate r.f.regs.toNat ⟨0, 0⟩))).cell? ⟨w1.heap.size, k, none⟩ = some (.slice none 0 0) := (World.cell?_alloc_lt _ _ _ (by simp; omega)).trans hcl
      have hfr2 : (wr.alloc (vObj (List.replicate r.f.regs.toNat ⟨0, 0⟩))).frozen? ⟨w1.heap.size, k, none⟩ = false := by simp [World.frozen?, hA2]
      clear hA2
      clear hx hlt
      rw [hs1] at HNX
      go_wp2
      go_roundw
      case rel => exact ⟨k + 1, HLT.out, by go_num, HNX⟩
      case measure => have := HLT.out; simp [intOf]; omega
    · obtain rfl : k = r.f.code.length := by omega
      have HST := Lib.hid (HL1.out.all rfl HB1.out HX1.out HC1.out)
      clear x0 x1 x2 x3 x4 hx hk hlt k0
      obtain ⟨x0, x1, x2, x3, x4⟩ := nv5 HST.out.fb
      go_upto_region 9 with fail
      go_cut [] from 40 to 46 (fun wc => Hid (AhSt w wc r w1.heap.size ((zerosV r.f).set 0 (firstL r.f))))
      case first =>
        have HSD : Hid (AhSt w wr.drew r w1.heap.size (zerosV r.f)) := Lib.hid ⟨HST.out.fb, HST.out.code, HST.out.ah, HST.out.rows, HST.out.hA, HST.out.big, drW HST.out.hb⟩
        clear x0 x1 x2 x3 x4
        refine wp_region_any hmix ?_
        refine any_inv (J := (fun lst act W => ∃ l0 l1 l2 l3 l4 l5 l6 : Bool, ∃ b : Nat, ∃ jb : Bool, lst = #[l0, l1, l2, l3, l4, l5, l6] ∧ act = ⟨#[fnV r, .pointer (some ⟨w.heap.size, 0, none⟩), .slice none 0 0, .slice (some ⟨w1.heap.size, 0, none⟩) r.f.code.length r.f.code.length, u4, undef, undef, undef, undef, undef, undef, fnV r, .bool true, .bool false, .bool false, .pointer (some ⟨w.heap.size, 4, none⟩), .slice r.ca r.f.code.length r.cc, .int .i64 (r.f.code.length : Int), .pointer (some ⟨w.heap.size, 2, none⟩), .int .i64 r.f.regs, .int .i64 (r.f.regs + 1), .int .i64 M, .bool (decide (65536 < M)), .bool (decide (65536 < M)), .pointer (some ⟨w.heap.size, 4, none⟩), .slice r.ca r.f.code.length r.cc, .int .i64 (r.f.code.length : Int), .slice (some ⟨w1.heap.size, 0, none⟩) r.f.code.length r.f.code.length, .slice (some ⟨w1.heap.size, 0, none⟩) r.f.code.length r.f.code.length, .int .i64 (r.f.code.length : Int), .int .i64 (r.f.code.length : Int), .bool false, u32, u33, u34, u35, u36, u37, u38, u39, slotw l0 (.slice (some ⟨w1.heap.size, 0, none⟩) r.f.code.length r.f.code.length) (undef), slotw l1 (.pointer (some ⟨w1.heap.size, 0, none⟩)) (undef), slotw l2 (.slice (some ⟨w1.heap.size + 1, 0, none⟩) r.f.regs.toNat r.f.regs.toNat) (undef), slotw l3 (.pointer (some ⟨w.heap.size, 1, none⟩)) (undef), slotw l4 (.int .i64 r.f.params) (undef), slotw l5 (fsV b) (undef), slotw l6 (.bool jb) (undef), undef, undef, undef, undef, undef, undef, undef, undef, undef, undef, undef, undef, undef, undef, undef, undef, undef, undef, undef, undef, undef, undef, undef, undef, undef, undef, undef, undef, undef, undef, undef, undef, undef, undef, undef, undef, undef, undef, undef, undef, undef, undef, undef, undef, undef, undef, undef, undef, undef, undef, undef, undef], []⟩ ∧ (l1 = true → l0 = true) ∧ (l2 = true → l1 = true) ∧ (l4 = true → l3 = true) ∧ (l5 = true → l4 = true) ∧ (l6 = true → l2 = true ∧ l5 = true) ∧ FD w W r w1.heap.size l5 l6 b)) ?_ ?_ _ _ _ _ ?_ ?_
        · intro lst act W iop oop hJ hi ho K' hK
          obtain ⟨l0, l1, l2, l3, l4, l5, l6, b, jb, rfl, rfl, hI1, hI2, hI4, hI5, hI6, hS⟩ := hJ
          obtain ⟨hun, o2, ho2, hall⟩ := mem_ready.1 hi
          have hlt := (Array.getElem?_eq_some_iff.1 ho).1
          simp only [List.size_toArray, List.length_cons, List.length_nil] at hlt
          rcases (by omega : iop = 0 ∨ iop = 1 ∨ iop = 2 ∨ iop = 3 ∨ iop = 4 ∨ iop = 5 ∨ iop = 6) with rfl | rfl | rfl | rfl | rfl | rfl | rfl
          · obtain rfl := Option.some.inj ho
            obtain rfl := Option.some.inj ho2
            have e0 : l0 = false := hun
            subst e0
            have e1 : l1 = false := by
              rcases l1 with _ | _
              · rfl
              · exact absurd (hI1 rfl) (by simp)
            subst e1
            clear hi ho ho2 hall hun
            simp only [slotw, if_true, Bool.false_eq_true, if_false]
            go_simp
            refine hK _ _ ⟨true, false, l2, l3, l4, l5, l6, b, jb, rfl, rfl, (fun h => by cases h), hI2, hI4, hI5, hI6, hS⟩
          · obtain rfl := Option.some.inj ho
            obtain rfl := Option.some.inj ho2
            have e1 : l1 = false := hun
            subst e1
            have e0 : l0 = true := hall ⟨0, .data⟩ (by simp) rfl
            subst e0
            have e2 : l2 = false := by
              rcases l2 with _ | _
              · rfl
              · exact absurd (hI2 rfl) (by simp)
            subst e2
            clear hi ho ho2 hall hun
            simp only [slotw, if_true, Bool.false_eq_true, if_false]
            go_simp
            refine hK _ _ ⟨true, true, false, l3, l4, l5, l6, b, jb, rfl, rfl, (fun _ => rfl), (fun h => by cases h), hI4, hI5, hI6, hS⟩
          · obtain rfl := Option.some.inj ho
            obtain rfl := Option.some.inj ho2
            have e2 : l2 = false := hun
            subst e2
            have e1 : l1 = true := hall ⟨1, .data⟩ (by simp) rfl
            subst e1
            have e0 : l0 = true := (hI1 rfl)
            subst e0
            have e6 : l6 = false := by
              rcases l6 with _ | _
              · rfl
              · exact absurd (hI6 rfl) (by simp)
            subst e6
            clear hi ho ho2 hall hun
            have hcl0 := hS.st.cell (j := 0) (by split <;> simp [zerosV] <;> omega)
            have hclA : W.cell? ⟨w1.heap.size, 0, none⟩ = some (.slice (some ⟨w1.heap.size + 1, 0, none⟩) r.f.regs.toNat r.f.regs.toNat) := hcl0
            clear hcl0
            simp only [slotw, if_true, Bool.false_eq_true, if_false]
            go_simp
            refine hK _ _ ⟨true, true, true, l3, l4, l5, false, b, jb, rfl, rfl, hI1, (fun _ => rfl), hI4, hI5, (fun h => by cases h), hS⟩
          · obtain rfl := Option.some.inj ho
            obtain rfl := Option.some.inj ho2
            have e3 : l3 = false := hun
            subst e3
            have e4 : l4 = false := by
              rcases l4 with _ | _
              · rfl
              · exact absurd (hI4 rfl) (by simp)
            subst e4
            clear hi ho ho2 hall hun
            simp only [slotw, if_true, Bool.false_eq_true, if_false]
            go_simp
            refine hK _ _ ⟨l0, l1, l2, true, false, l5, l6, b, jb, rfl, rfl, hI1, hI2, (fun h => by cases h), hI5, hI6, hS⟩
          · obtain rfl := Option.some.inj ho
            obtain rfl := Option.some.inj ho2
            have e4 : l4 = false := hun
            subst e4
            have e3 : l3 = true := hall ⟨3, .data⟩ (by simp) rfl
            subst e3
            have e5 : l5 = false := by
              rcases l5 with _ | _
              · rfl
              · exact absurd (hI5 rfl) (by simp)
            subst e5
            clear hi ho ho2 hall hun
            obtain ⟨x0, x1, x2, x3, x4⟩ := nv5 hS.st.fb
            simp only [slotw, if_true, Bool.false_eq_true, if_false]
            go_simp
            refine hK _ _ ⟨l0, l1, l2, true, true, false, l6, b, jb, rfl, rfl, hI1, hI2, (fun _ => rfl), (fun h => by cases h), hI6, hS⟩
          · obtain rfl := Option.some.inj ho
            obtain rfl := Option.some.inj ho2
            have e5 : l5 = false := hun
            subst e5
            have e4 : l4 = true := hall ⟨4, .data⟩ (by simp) rfl
            subst e4
            have e3 : l3 = true := (hI4 rfl)
            subst e3
            have e6 : l6 = false := by
              rcases l6 with _ | _
              · rfl
              · exact absurd (hI6 rfl) (by simp)
            subst e6
            clear hi ho ho2 hall hun
            simp only [slotw, if_true, Bool.false_eq_true, if_false]
            go_simp
            refine (first_c r.f.params W).mono ?_
            rintro e W2 ⟨rfl, rfl⟩
            refine hK _ _ ⟨l0, l1, l2, true, true, true, false, W.heap.size, jb, rfl, rfl, hI1, hI2, hI4, (fun _ => rfl), (fun h => by cases h), hS.made⟩
          · obtain rfl := Option.some.inj ho
            obtain rfl := Option.some.inj ho2
            have e6 : l6 = false := hun
            subst e6
            have e2 : l2 = true := hall ⟨2, .data⟩ (by simp) rfl
            subst e2
            have e5 : l5 = true := hall ⟨5, .data⟩ (by simp) rfl
            subst e5
            have e1 : l1 = true := (hI2 rfl)
            subst e1
            have e4 : l4 = true := (hI5 rfl)
            subst e4
            have e0 : l0 = true := (hI1 rfl)
            subst e0
            have e3 : l3 = true := (hI4 rfl)
            subst e3
            clear hi ho ho2 hall hun
            simp only [slotw, if_true, Bool.false_eq_true, if_false]
            go_simp
            refine (join0 HRF.out hS.st (hS.bx rfl rfl).2 (hS.bx rfl rfl).1).mono ?_
            rintro e W2 ⟨⟨q, rfl⟩, hs2⟩
            refine hK _ _ ⟨true, true, true, true, true, true, true, b, q, rfl, rfl, hI1, hI2, hI4, hI5, (fun _ => ⟨rfl, rfl⟩), ⟨hs2, fun _ h => (by cases h)⟩⟩
        · intro lst act W hJ hr
          obtain ⟨l0, l1, l2, l3, l4, l5, l6, b, jb, rfl, rfl, hI1, hI2, hI4, hI5, hI6, hS⟩ := hJ
          have e0 : l0 = true := by
            rcases l0 with _ | _
            · exact (not_ready hr 0 _ rfl rfl (fun e he _ => absurd he (by simp))).elim
            · rfl
          subst e0
          have e1 : l1 = true := by
            rcases l1 with _ | _
            · exact (not_ready hr 1 _ rfl rfl (fun e he hb => by change e ∈ #[_] at he; simp only [List.mem_toArray, List.mem_cons, List.not_mem_nil, or_false] at he; rcases he with rfl <;> first | rfl | exact absurd hb (by decide))).elim
            · rfl
          subst e1
          have e2 : l2 = true := by
            rcases l2 with _ | _
            · exact (not_ready hr 2 _ rfl rfl (fun e he hb => by change e ∈ #[_] at he; simp only [List.mem_toArray, List.mem_cons, List.not_mem_nil, or_false] at he; rcases he with rfl <;> first | rfl | exact absurd hb (by decide))).elim
            · rfl
          subst e2
          have e3 : l3 = true := by
            rcases l3 with _ | _
            · exact (not_ready hr 3 _ rfl rfl (fun e he _ => absurd he (by simp))).elim
            · rfl
          subst e3
          have e4 : l4 = true := by
            rcases l4 with _ | _
            · exact (not_ready hr 4 _ rfl rfl (fun e he hb => by change e ∈ #[_] at he; simp only [List.mem_toArray, List.mem_cons, List.not_mem_nil, or_false] at he; rcases he with rfl <;> first | rfl | exact absurd hb (by decide))).elim
            · rfl
          subst e4
          have e5 : l5 = true := by
            rcases l5 with _ | _
            · exact (not_ready hr 5 _ rfl rfl (fun e he hb => by change e ∈ #[_] at he; simp only [List.mem_toArray, List.mem_cons, List.not_mem_nil, or_false] at he; rcases he with rfl <;> first | rfl | exact absurd hb (by decide))).elim
            · rfl
          subst e5
          have e6 : l6 = true := by
            rcases l6 with _ | _
            · exact (not_ready hr 6 _ rfl rfl (fun e he hb => by change e ∈ #[_, _, _] at he; simp only [List.mem_toArray, List.mem_cons, List.not_mem_nil, or_false] at he; rcases he with rfl | rfl | rfl <;> first | rfl | exact absurd hb (by decide))).elim
            · rfl
          subst e6
          simp only [slotw, if_true]
          clear hI1 hI2 hI4 hI5 hI6 hr
          go_wp2
          go_meet
          case rel => exact Lib.hid hS.st
        · exact (by decide : lacks (Array.replicate 7 false).toList ≤ 7)
        · exact ⟨false, false, false, false, false, false, false, 0, false, rfl, rfl, (fun h => by cases h), (fun h => by cases h), (fun h => by cases h), (fun h => by cases h), (fun h => by cases h), FD.first HSD.out⟩
      case rest =>
        have HS0 := Lib.hid hcut.out
        clear hcut HST x0 x1 x2 x3 x4
        have HI0 := Lib.hid (InvV.begin HRF.out)
        obtain ⟨i0, hi0, hz0, hz1', hz2'⟩ := info_parts infoInt
        have hS0l : ((zerosV r.f).set 0 (firstL r.f)).length = r.f.code.length := by rw [List.length_set, zerosV_len]
        have hcb := HS0.out.big
        rw [hS0l] at hcb
        have hcA := HS0.out.hA
        have HLK : Hid (lackS ((zerosV r.f).set 0 (firstL r.f)) ≤ 131072) := Lib.hid (by
          have h1 := lackS_le ((zerosV r.f).set 0 (firstL r.f)) r.f.regs.toNat (fun v hv => by obtain ⟨j, hj⟩ := List.mem_iff_getElem?.1 hv; exact (HS0.out.rows j v hj).2)
          rw [hS0l] at h1
          have h2 : r.f.code.length * r.f.regs.toNat ≤ r.f.code.length * (r.f.regs.toNat + 1) := Nat.mul_le_mul_left _ (by omega)
          omega)
        go_wp2
        go_loopg [5] 200000 (fun g s5 wr => ∃ (S : List (List Val)) (op : List Int), lackS S + op.length ≤ g ∧ g ≤ 200000 ∧ Hid (AhSt w wr r w1.heap.size S) ∧ Hid (InvV r.f S op (fun _ => False)) ∧ Hid (wr.ownsRow (w1.heap.size + 1 + r.f.code.length) 3 1 s5 op.length (ints op)))
        case atStart =>
          refine ⟨_, [0], by have := HLK.out; simp; omega, Nat.le_refl _, Lib.hid (HS0.out.below ((Below.refl _ _).alloc (Nat.le_refl _) _)), HI0, Lib.hid ?_⟩
          exact ⟨rfl, .inr ⟨_, 1, #[.int .i64 0], rfl, hcb, heap_alloc_new wc _, Nat.le_refl _, by unfold maxLen; omega, rfl, rfl⟩⟩
        case round =>
          obtain ⟨S, op, hg, hgl, HS, HI, HOW⟩ := hrel
          have HSL : Hid (S.length = r.f.code.length) := Lib.hid HI.out.len
          have hsl := HSL.out
          obtain ⟨x0, x1, x2, x3, x4⟩ := nv5 HS.out.fb
          have hbig := HS.out.big
          rw [hsl] at hbig
          obtain ⟨a5, c5, rfl⟩ := row_slice HOW.out
          rcases List.eq_nil_or_concat op with rfl | ⟨o, x, rfl⟩
          · have HSO := Lib.hid HI.out.sol
            go_wp2
            go_ret
            exact ⟨S, HSO.out, HS.out.post _ hsl.symm⟩
          · rw [List.concat_eq_append] at *
            have hopl : (o ++ [x]).length = o.length + 1 := by simp
            have HO1 := Lib.hid HOW.out
            rw [hopl] at HO1 hg
            obtain ⟨k, v, rfl, hv, hf⟩ := HI.out.opn x (by simp)
            have hkS := (List.getElem?_eq_some_iff.1 hv).1
            have hkn : k < r.f.code.length := by omega
            obtain ⟨i, hi⟩ : ∃ i, r.f.code[k]? = some i := ⟨_, List.getElem?_eq_getElem hkn⟩
            have hI := HRF.out.all i (List.mem_of_getElem? hi)
            have hlv := HI.out.rowAt hv
            have hlvN := (HS.out.rows k v hv).2
            have hrowk := (HS.out.rows k v hv).1
            obtain ⟨xq, hxq⟩ : ∃ x, (behV i v).getD ⟨2, 0⟩ = x := ⟨_, rfl⟩
            obtain ⟨ws, hws⟩ : ∃ ws, waysV i v (k : Int) = ws := ⟨_, rfl⟩
            have hwl : ws.length ≤ 2 := hws ▸ ways_len i v k
            have HBC : Hid (∀ V, LsAt V V.heap.size wr.heap.size v → Calls Try.prog 78 #[inV i, lsV wr.heap.size] V (BhPost i wr.heap.size xq V)) := Lib.hid (fun V hV => behind_c i wr.heap.size v V hV (regIn_of hI hlv) (oneOk_of hI) xq hxq)
            have HWC : Hid (∀ V, LsAt V V.heap.size wr.heap.size v → Calls Try.prog 79 #[inV i, .int .i64 (k : Int), lsV wr.heap.size] V (ListPost ws V)) := Lib.hid (fun V hV => ways_c i k wr.heap.size v V ⟨by omega, by omega⟩ hV (regIn_of hI hlv) (oneOk_of hI) ws hws)
            obtain ⟨g5, rfl, hg5, hg5l, c5'⟩ := own_int (k := o.length) (x := (k : Int)) HO1.out (by simp)
            obtain ⟨hr1, hr2, hr3⟩ := own_room HO1.out
            have hsh := slice_short (n := o.length + 1) (k := o.length) hr3 (by omega) hr2
            have HOS : Hid (wr.ownsRow (w1.heap.size + 1 + r.f.code.length) 3 1 (.slice (some ⟨g5, 0, none⟩) o.length c5) o.length (ints o)) := Lib.hid (by
              have := own_short HO1.out (k := o.length) (by omega)
              simpa using this)
            have hclk : wr.cell? ⟨w1.heap.size, k, none⟩ = some (.slice (some ⟨w1.heap.size + 1 + k, 0, none⟩) r.f.regs.toNat r.f.regs.toNat) := HS.out.cell hkS
            have k0 : (0 : Int) ≤ (k : Int) := Int.natCast_nonneg _
            have k1 : (k : Int) < (r.f.code.length : Int) := by omega
            have o0 : (0 : Int) ≤ (o.length : Int) := Int.natCast_nonneg _
            have hol : o.length ≤ 200000 := by omega
            have HIP := Lib.hid HI.out.pop
            have HVK := Lib.hid hv; have HFU := Lib.hid hf; have HIK := Lib.hid hi; have HII := Lib.hid hI; have HXQ := Lib.hid hxq; have HWS := Lib.hid hws; have HLV := Lib.hid hlvN
            have HVA : Hid (ValsAt wr wr.heap.size (some ⟨w1.heap.size + 1 + k, 0, none⟩) v) := Lib.hid (hrowk.vals hrowk.lt (Nat.le_refl _))
            obtain ⟨cb, coff, hca, hcb1, hcb2, q0, q1, q2, q3, q4, q5, q6, q7, q8, q9, q10, q11, q12, q13, q14⟩ := HS.out.code.cells hi
            have hcaE := Lib.hid hca
            clear hv hf hi hI hxq hws hlv hlvN hrowk hca HI HO1 hr1 hr2 hr3 q0 q1 q2 q3 q4 q5 q6 q7 q8 q9 q10 q11 q12 q13 q14
            go_upto_region 14 with fail
            have HLI : Hid (∀ V, V = wr.alloc (.cells #[.slice (some ⟨w1.heap.size + 1 + k, 0, none⟩) r.f.regs.toNat r.f.regs.toNat] 67) → Below wr.heap.size wr V ∧ V.heap[wr.heap.size]? = some (.cells #[.slice (some ⟨w1.heap.size + 1 + k, 0, none⟩) r.f.regs.toNat r.f.regs.toNat] 67) ∧ AhSt w V r w1.heap.size S ∧ LsAt V V.heap.size wr.heap.size v) := Lib.hid (fun V hV => by
              have hb : Below wr.heap.size wr V := hV ▸ (Below.refl _ _).alloc (Nat.le_refl _) _
              have hx : V.heap[wr.heap.size]? = _ := hV ▸ heap_alloc_new wr _
              exact ⟨hb, hx, HS.out.below hb, lt_heap hx, Nat.le_refl _, _, _, by rw [HLV.out]; exact hx, (HVA.out.below hb).mono hb.size (Nat.le_refl _)⟩)
            go_upto_region 17 with (first | ((with_reducible refine (listed_c _ _ _ _).mono ?_); rintro e w2 ⟨rfl, hw2⟩; obtain ⟨hb2, hx2, hs2, hl2⟩ := HLI.out w2 hw2; have HB2 := Lib.hid hb2; have HX2 := Lib.hid hx2; have HS2 := Lib.hid hs2; have HL2 := Lib.hid hl2; clear hb2 hx2 hs2 hl2 hw2 x0 x1 x2 x3 x4; obtain ⟨x0, x1, x2, x3, x4⟩ := nv5 HS2.out.fb; rw [hcaE.out] at x4; obtain ⟨q0, q1, q2, q3, q4, q5, q6, q7, q8, q9, q10, q11, q12, q13, q14⟩ := code_cells HS2.out.code HIK.out hcaE.out) | ((with_reducible refine (HBC.out _ HL2.out).mono ?_); rintro e w3 ⟨b1, b2, rfl, g1, g2, e1, e2, e3, hb3⟩; have HE1 := Lib.hid e1; have HE2 := Lib.hid e2; have HE3 := Lib.hid e3; have HG1 := Lib.hid g1; have HG2 := Lib.hid g2; have HB3 := Lib.hid hb3; have HS3 := Lib.hid (HS2.out.below hb3); have HL3 := Lib.hid ((HL2.out.below hb3).mono hb3.size (Nat.le_refl _)); have HX3 := Lib.hid ((hb3.block _ (lt_heap HX2.out)).trans HX2.out); clear e1 e2 e3 g1 g2 hb3 x0 x1 x2 x3 x4 q0 q1 q2 q3 q4 q5 q6 q7 q8 q9 q10 q11 q12 q13 q14; obtain ⟨x0, x1, x2, x3, x4⟩ := nv5 HS3.out.fb; rw [hcaE.out] at x4; obtain ⟨q0, q1, q2, q3, q4, q5, q6, q7, q8, q9, q10, q11, q12, q13, q14⟩ := code_cells HS3.out.code HIK.out hcaE.out) | ((with_reducible refine (HWC.out _ HL3.out).mono ?_); rintro e w4 ⟨v4, rfl, ho4, hb4⟩; obtain ⟨wa, wcap, rfl⟩ := row_slice ho4; have HO4 := Lib.hid ho4; have HB4 := Lib.hid hb4; have HS4 := Lib.hid (HS3.out.below hb4); clear ho4 hb4 x0 x1 x2 x3 x4 q0 q1 q2 q3 q4 q5 q6 q7 q8 q9 q10 q11 q12 q13 q14))
            obtain ⟨qz, hqz⟩ : ∃ z, wr.heap.size = z := ⟨_, rfl⟩
            have hs23 := HB3.out.size
            have hs34 := HB4.out.size
            have hs12 : wr.heap.size < w2.heap.size := lt_heap HX2.out
            have HRD : Hid (RdSt w4 w1.heap.size qz w4.heap.size r.f.code.length k b1 b2 (w2.heap.size + 1) r.f.regs.toNat i v xq ws wa) := Lib.hid (by
              have h1 := HG1.out
              have h2 := HG2.out
              have h7 := lt_heap HE1.out
              have h8 := lt_heap HE2.out
              have h9 := lt_heap HE3.out
              refine ⟨?_, (HB4.out.block _ (lt_heap HE1.out)).trans HE1.out, (HB4.out.block _ (lt_heap HE2.out)).trans HE2.out, ?_, by omega, by omega, by omega, by omega, ?_, by omega⟩
              · rw [HLV.out, ← hqz]
                exact (HB4.out.block _ (by omega)).trans HX3.out
              · have := (HB4.out.block _ (lt_heap HE3.out)).trans HE3.out
                rwa [hqz] at this
              · intro h0
                have h5 := LiesIn.of_own HO4.out (by rw [List.length_map]; exact h0)
                obtain ⟨b, off, e1, e2, e3, e4⟩ := h5
                exact ⟨b, off, e1, by omega, e3, fun j y hy => e4 j _ (by rw [List.getElem?_map, hy]; rfl)⟩)
            have HKP0 : Hid (∀ g, g < qz → w4.heap[g]? = wr.heap[g]?) := Lib.hid (fun g hg => (HB4.out.block g (by omega)).trans ((HB3.out.block g (by omega)).trans (HB2.out.block g (by omega))))
            have HOX : Hid (w4.ownsRow (w1.heap.size + 1 + r.f.code.length) 3 1 (.slice (some ⟨g5, 0, none⟩) o.length c5) o.length (ints o)) := Lib.hid (own_keep HOS.out (fun g hg => HKP0.out g (by have := (HOS.out.lt g hg).2; omega)))
            have HAW : Hid (Away (.slice (some ⟨g5, 0, none⟩) o.length c5) qz w4.heap.size) := Lib.hid (fun q hq => .inl (by have := (HOS.out.lt q hq).2; omega))
            have hqz4 : qz < w4.heap.size := by omega
            clear HX2 HX3 HE1 HE2 HE3 HG1 HG2 HB2 HB3 HB4 HL2 HL3 HS2 HS3 HLI HKP0 HOS HBC HWC HVA hs12 hs23 hs34 hclk c5' hg5l hbig hsh HOW HO4
            rw [hqz]
            go_loopw [5, 83] (fun s5 s83 wr => ∃ (j : Nat) (S' : List (List Val)) (op' : List Int), j ≤ ws.length ∧ s83 = .int .i64 (j : Int) ∧ lackS S' + op'.length ≤ lackS S + o.length ∧ w4.heap.size ≤ wr.heap.size ∧ Hid (AhSt w wr r w1.heap.size S') ∧ Hid (InvV r.f S' op' (fun q => q = k)) ∧ Hid (S'[k]? = some v) ∧ Hid (∀ q ∈ ws.take j, ∀ u, S'[q.toNat]? = some u → withinL (setV i v xq) u) ∧ Hid (wr.ownsRow (w1.heap.size + 1 + r.f.code.length) 3 1 s5 op'.length (ints op')) ∧ Hid (Away s5 qz w4.heap.size) ∧ Hid (RdSt wr w1.heap.size qz w4.heap.size r.f.code.length k b1 b2 (w2.heap.size + 1) r.f.regs.toNat i v xq ws wa)) (fun s5 s83 wr => ws.length - (intOf s83).toNat)
            case atStart => exact ⟨0, S, o, by omega, rfl, Nat.le_refl _, Nat.le_refl _, HS4, HIP, HVK, Lib.hid (fun q hq => by simp at hq), HOX, HAW, HRD⟩
            case round =>
              obtain ⟨j, S', op', hj, rfl, hlk, hz4, HSJ, HIJ, HVJ, HWJ, HOJ, HAJ, HRJ⟩ := hrel
              obtain ⟨aj, cj, rfl⟩ := row_slice HOJ.out
              have j0 : (0 : Int) ≤ (j : Int) := Int.natCast_nonneg _
              by_cases hjl : j < ws.length
              · have j1 : (j : Int) < (ws.length : Int) := by omega
                obtain ⟨q, hq⟩ : ∃ q, ws[j]? = some q := ⟨_, List.getElem?_eq_getElem hjl⟩
                have hqw : q ∈ waysV i v (k : Int) := by rw [HWS.out]; exact List.mem_of_getElem? hq
                obtain ⟨hbs, hgo⟩ := ways_some hqw
                rw [HXQ.out] at hbs
                have hins := closed_of HRF.out (k : Int) ⟨k0, k1⟩ q (by rw [nexts_at (by rw [Int.toNat_natCast]; exact HIK.out)]; exact goesV_next hgo)
                obtain ⟨p, rfl⟩ : ∃ p : Nat, q = (p : Int) := ⟨q.toNat, by have := hins.1; omega⟩
                have hpn : p < r.f.code.length := by have := hins.2; omega
                have hpS : p < S'.length := by have := HIJ.out.len; omega
                obtain ⟨old, hold⟩ : ∃ u, S'[p]? = some u := ⟨_, List.getElem?_eq_getElem hpS⟩
                have HST := Lib.hid (edge_step HRF.out HIJ.out HIK.out HVJ.out HFU.out hbs hgo hold HWJ.out hq)
                obtain ⟨gb, goff, rfl, hgb2, hgb, hgall⟩ := HRJ.out.ws (by omega)
                have hgc := hgall j _ hq
                clear hgall
                have hxo : OkV xq := beh_ok HII.out (HIJ.out.rowAt HVJ.out) (HIJ.out.ok v (List.mem_of_getElem? HVJ.out)) hbs
                have hjb := joinB (p := p) HRF.out HSJ.out HVJ.out hold HRJ.out.e1 HRJ.out.e2 HRJ.out.e3 HRJ.out.e0 (by have := HRJ.out.big; have := HRJ.out.g1; have := HIJ.out.len; omega) (by have := HRJ.out.big; have := HRJ.out.g2; have := HIJ.out.len; omega) (by have := HRJ.out.big; have := HRJ.out.g3; have := HIJ.out.len; omega) (by have := HRJ.out.big; have := HIJ.out.len; omega) (sets_lt HII.out (by omega)) HIJ.out.ok hxo
                have HJB := Lib.hid hjb
                have hclp : wr.cell? ⟨w1.heap.size, p, none⟩ = some (.slice (some ⟨w1.heap.size + 1 + p, 0, none⟩) r.f.regs.toNat r.f.regs.toNat) := HSJ.out.cell hpS
                have p0 : (0 : Int) ≤ (p : Int) := Int.natCast_nonneg _
                have p1 : (p : Int) < (r.f.code.length : Int) := by omega
                have HKQ : Hid (∀ W, Mvd (w1.heap.size + 1 + p) w.heap.size wr W → W.ownsRow (w1.heap.size + 1 + r.f.code.length) 3 1 (.slice aj op'.length cj) op'.length (ints op') ∧ RdSt W w1.heap.size qz w4.heap.size r.f.code.length k b1 b2 (w2.heap.size + 1) r.f.regs.toNat i v xq ws (some ⟨gb, goff, none⟩) ∧ wr.heap.size ≤ W.heap.size) := Lib.hid (fun W hm => ⟨own_keep HOJ.out (fun g hg => hm.kept g (HOJ.out.lt g hg).2 (by have := (HOJ.out.lt g hg).1; omega)), HRJ.out.keep (fun g hg hl => hm.kept g (by omega) (by have := HRJ.out.big; omega)), hm.size⟩)
                have HSN : Hid (S'.length = r.f.code.length) := Lib.hid HIJ.out.len
                have HJL := Lib.hid hjl
                clear hq hqw hbs hgo hins hold hxo hjb hjl
                obtain ⟨nw, hnw⟩ : ∃ nw, joinL old (setV i v xq) = nw := ⟨_, rfl⟩
                rw [hnw] at HST HJB
                clear hnw
                by_cases he : nw = old
                · have td : decide (nw ≠ old) = false := by simp [he]
                  rw [td] at HJB
                  simp only [he, if_true] at HST
                  clear td
                  go_wp2_with ((with_reducible refine (HJB.out).mono ?_); rintro e w5 ⟨rfl, hs5, hm5⟩; have HS5 := Lib.hid hs5; have HM5 := Lib.hid (HKQ.out _ hm5); clear hs5 hm5)
                  rw [he] at HS5
                  go_roundw
                  case rel => exact ⟨j + 1, S'.set p old, op', HJL.out, by go_num, by have := HST.out.2.2.2; omega, by have := HM5.out.2.2; omega, HS5, Lib.hid HST.out.1, Lib.hid HST.out.2.1, Lib.hid HST.out.2.2.1, Lib.hid HM5.out.1, HAJ, Lib.hid HM5.out.2.1⟩
                  case measure => have := HJL.out; simp [intOf]; omega
                · have td : decide (nw ≠ old) = true := by simp [he]
                  rw [td] at HJB
                  simp only [he, if_false] at HST
                  clear td he
                  have hopb : op'.length ≤ 200000 := by omega
                  go_wp2_with (first | ((with_reducible refine (HJB.out).mono ?_); rintro e w5 ⟨rfl, hs5, hm5⟩; have HS5 := Lib.hid hs5; have HM5 := Lib.hid (HKQ.out _ hm5); clear hs5 hm5) | (at_builtin; go_loud (refine wpList_append_lies _ rfl (.tmp 93) (.tmp 95) 29 rfl (w1.heap.size + 1 + r.f.code.length) 3 i0 (.int .i64 0) 1 8 Try.underlying29 hi0 hz0 hz1' hz2' rfl (by decide) (.slice aj op'.length cj) op'.length (ints op') rfl (HM5.out.1.alloc _) _ 1 1 [.int .i64 (p : Int)] rfl rfl (cell_new1 _ _ _ _ (by simp)) (by simp [Value.oneCell']) (by omega) (by unfold maxLen; omega) (by omega) (by have := HS5.out.big; rw [List.length_set, HSN.out] at this; simp <;> omega) (w5.heap.size + 1) (by simp) ?_; intro g9 cap9 w6 hown hgrow hat hlt9; have HO6 := Lib.hid hown; have HG6 : Hid (∀ g, g < w5.heap.size → (Value.slice aj op'.length cj).ownBlock ≠ some g → w6.heap[g]? = w5.heap[g]?) := Lib.hid (fun g hg hne => (hgrow.block g (by rw [World.size_alloc]; omega) (fun e => hne e.symm)).trans (Below.heap_alloc _ _ _ hg)); have HZ6 : Hid (w5.heap.size ≤ w6.heap.size) := Lib.hid (by have h9 := hgrow.size; rw [World.size_alloc] at h9; omega); have HAT := Lib.hid hat; have HBE : Hid (Below w.heap.size w5 w6) := Lib.hid (((Below.refl w.heap.size w5).alloc (by have := HS5.out.hb.size; omega) _).grown hgrow (by rw [World.size_alloc]; have := HS5.out.hb.size; omega) (fun q e => by have := (HM5.out.1.lt q e).1; have := HS5.out.hA; omega)); clear hown hgrow hat hlt9)))
                  have hz5 := HM5.out.2.2
                  have hz6 := HZ6.out
                  go_roundw
                  case rel =>
                    refine ⟨j + 1, S'.set p nw, op' ++ [(p : Int)], HJL.out, by go_num, by have := HST.out.2.2.2; simp; omega, by omega, Lib.hid (HS5.out.keep (fun g hg => HG6.out g (by have := HS5.out.big; omega) (fun e => by have := (HM5.out.1.lt g e).1; rw [List.length_set, HSN.out] at hg; omega)) HZ6.out HBE.out), Lib.hid HST.out.1, Lib.hid HST.out.2.1, Lib.hid HST.out.2.2.1, Lib.hid (by simpa using HO6.out), Lib.hid ?_, Lib.hid (HM5.out.2.1.keep (fun g hg hl => HG6.out g (by omega) (fun e => by have := HAJ.out g e; omega)))⟩
                    intro y hy
                    simp [Value.ownBlock] at hy
                    subst hy
                    rcases HAT.out with h | h
                    · exact HAJ.out _ h
                    · right; omega
                  case measure => have := HJL.out; simp [intOf]; omega
              · obtain rfl : j = ws.length := by omega
                have HWA := Lib.hid HWJ.out
                rw [List.take_length] at HWA
                have HID : Hid (InvV r.f S' op' (fun _ => False)) := Lib.hid (HIJ.out.done HIK.out HVJ.out (fun x hx p hp u hu => by
                  obtain ⟨h1, h2⟩ := ways_done hx hp
                  rw [HWS.out] at h1
                  rw [h2, HXQ.out]
                  exact HWA.out p h1 u hu))
                go_wp2
                go_roundg (lackS S' + op'.length)
                case measure => omega
                case rel => exact ⟨S', op', Nat.le_refl _, by omega, HSJ, HID, HOJ⟩
end Go.Proofs.Ytpajndeongcjbaa
