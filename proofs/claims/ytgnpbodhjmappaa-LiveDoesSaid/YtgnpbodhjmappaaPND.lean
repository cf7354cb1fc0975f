/-
  Contract of doppelref07's right, at whatever instruction.
-/
import Derived.Test.YtgnpbodhjmappaaPR7RightB
import Derived.Test.YtgnpbodhjmappaaPNK
import Derived.Test.YtgnpbodhjmappaaPR7RightD
import Derived.Test.YtgnpbodhjmappaaPPH
import Derived.Lib.QuietBelow
set_option linter.unusedVariables false
set_option linter.unusedSimpArgs false
namespace Go.Proofs.Ytgnpbodhjmappaa
open Go.RowKit Cd
theorem right_any (i : Ins) (r : FnR) (hreg : 0 ≤ r.f.regs) (w : World) :
    Calls Try.prog 39 #[inV i, fnV r] w (RPost (.bool (rightI i r.f.regs r.f.frame r.f.code.length)) w) := by
  by_cases h : i.kind < 1 ∨ 13 < i.kind
  · exact right_low i r w h
  · obtain ⟨kind, op, dst, a, b, n, text, x0, x1, x2, x3, x4, x5, dest, els⟩ := i
    simp only at h
    rcases (by omega : kind = 1 ∨ kind = 2 ∨ kind = 3 ∨ kind = 4 ∨ kind = 5 ∨ kind = 6 ∨ kind = 7 ∨ kind = 8 ∨ kind = 9 ∨ kind = 10 ∨ kind = 11 ∨ kind = 12 ∨ kind = 13) with rfl | rfl | rfl | rfl | rfl | rfl | rfl | rfl | rfl | rfl | rfl | rfl | rfl
    · exact right_1 _ _ _ _ _ _ _ _ _ _ _ _ _ _ r hreg w
    · exact right_2 _ _ _ _ _ _ _ _ _ _ _ _ _ _ r hreg w
    · exact right_3 _ _ _ _ _ _ _ _ _ _ _ _ _ _ r hreg w
    · exact right_4 _ _ _ _ _ _ _ _ _ _ _ _ _ _ r hreg w
    · exact right_5 _ _ _ _ _ _ _ _ _ _ _ _ _ _ r hreg w
    · exact right_6 _ _ _ _ _ _ _ _ _ _ _ _ _ _ r hreg w
    · exact right_7 _ _ _ _ _ _ _ _ _ _ _ _ _ _ r hreg w
    · by_cases z0 : dst = -1
      · subst z0; exact right_8a _ _ _ _ _ _ _ _ _ _ _ _ _ r hreg w
      · by_cases z1 : 0 ≤ dst ∧ dst < r.f.regs
        · exact right_8b _ _ _ _ _ _ _ _ _ _ _ _ _ _ r hreg z1.1 z1.2 w
        · exact right_8c _ _ _ _ _ _ _ _ _ _ _ _ _ _ r hreg z0 z1 w
    · exact right_9 _ _ _ _ _ _ _ _ _ _ _ _ _ _ r hreg w
    · exact right_10 _ _ _ _ _ _ _ _ _ _ _ _ _ _ r hreg w
    · exact right_11 _ _ _ _ _ _ _ _ _ _ _ _ _ _ r hreg w
    · exact right_12 _ _ _ _ _ _ _ _ _ _ _ _ _ _ r hreg w
    · exact right_13 _ _ _ _ _ _ _ _ _ _ _ _ _ _ r hreg w
end Go.Proofs.Ytgnpbodhjmappaa
namespace Go.Proofs.Ytgnpbodhjmappaa
set_option maxRecDepth 100000
open Go.RowKit Go.Sort Cd
theorem CodeAt.cells {w : World} {B : Nat} {r : FnR} (h : CodeAt w B r) {k : Nat} {x : Ins} (hk : r.f.code[k]? = some x) :
    ∃ b off, r.ca = some ⟨b, off, none⟩ ∧ b < B ∧ B ≤ w.heap.size ∧ w.cell? ⟨b, off + k * 15, none⟩ = some (Value.int .i64 x.kind) ∧ w.cell? ⟨b, off + k * 15 + 1, none⟩ = some (Value.int .i64 x.op) ∧ w.cell? ⟨b, off + k * 15 + 2, none⟩ = some (Value.int .i64 x.dst) ∧ w.cell? ⟨b, off + k * 15 + 3, none⟩ = some (Value.int .i64 x.a) ∧ w.cell? ⟨b, off + k * 15 + 4, none⟩ = some (Value.int .i64 x.b) ∧ w.cell? ⟨b, off + k * 15 + 5, none⟩ = some (Value.int .i64 x.n) ∧ w.cell? ⟨b, off + k * 15 + 6, none⟩ = some (Value.string (sb x.text)) ∧ w.cell? ⟨b, off + k * 15 + 7, none⟩ = some (Value.int .i64 x.x0) ∧ w.cell? ⟨b, off + k * 15 + 8, none⟩ = some (Value.int .i64 x.x1) ∧ w.cell? ⟨b, off + k * 15 + 9, none⟩ = some (Value.int .i64 x.x2) ∧ w.cell? ⟨b, off + k * 15 + 10, none⟩ = some (Value.int .i64 x.x3) ∧ w.cell? ⟨b, off + k * 15 + 11, none⟩ = some (Value.int .i64 x.x4) ∧ w.cell? ⟨b, off + k * 15 + 12, none⟩ = some (Value.int .i64 x.x5) ∧ w.cell? ⟨b, off + k * 15 + 13, none⟩ = some (Value.int .i64 x.dest) ∧ w.cell? ⟨b, off + k * 15 + 14, none⟩ = some (Value.int .i64 x.els) := by
  obtain ⟨b, off, ha, hb, hB, hc⟩ := RowAt.item inCells_len h hk (by omega)
  refine ⟨b, off, ha, hb, hB, ?_, ?_, ?_, ?_, ?_, ?_, ?_, ?_, ?_, ?_, ?_, ?_, ?_, ?_, ?_⟩
  · exact hc 0 _ rfl
  · exact hc 1 _ rfl
  · exact hc 2 _ rfl
  · exact hc 3 _ rfl
  · exact hc 4 _ rfl
  · exact hc 5 _ rfl
  · exact hc 6 _ rfl
  · exact hc 7 _ rfl
  · exact hc 8 _ rfl
  · exact hc 9 _ rfl
  · exact hc 10 _ rfl
  · exact hc 11 _ rfl
  · exact hc 12 _ rfl
  · exact hc 13 _ rfl
  · exact hc 14 _ rfl
theorem rightF_no {f : Fnc} (h : ¬ RightF f) : rightF f = false := by rw [Bool.eq_false_iff, ne_eq, rightF_iff]; exact h
theorem rightF_yes {f : Fnc} {b : Bool} (h : headOk f = true) (ha : f.code.all (fun i => rightI i f.regs f.frame f.code.length) = true) (hl : decide (11 ≤ lastKind f.code) = b) : rightF f = b := by
  unfold rightF; rw [h, ha, hl]; rfl
theorem all_yesI {p : Ins → Bool} {l : List Ins} {k : Nat} {x : Ins} (ha : (l.take k).all p = true) (h : l[k]? = some x) (hp : p x = true) : (l.take (k + 1)).all p = true := by
  obtain ⟨hk, hx⟩ := List.getElem?_eq_some_iff.1 h
  rw [List.take_succ_eq_append_getElem hk, hx, List.all_append, ha]; simp [hp]
set_option maxHeartbeats 4000000 in
set_option maxRecDepth 100000 in
theorem rightFunc_v (name : List UInt8) (params regs frame : Int) (code : List Ins) (ca : Option Addr) (cc : Nat) (B : Nat) (w : World) (hc : CodeAt w B ⟨⟨name, params, regs, frame, code⟩, ca, cc⟩) (hm : code.length ≤ maxLen) :
    Calls Try.prog 14 #[fnV ⟨⟨name, params, regs, frame, code⟩, ca, cc⟩] w (RPost (.bool (rightF ⟨name, params, regs, frame, code⟩)) w) := by
  unfold maxLen at hm
  by_cases y0 : 0 < name.length
  rotate_left
  · have e := rightF_no (f := ⟨name, params, regs, frame, code⟩) (fun h => by exact h.name (List.eq_nil_of_length_eq_zero (Nat.eq_zero_of_not_pos y0)))
    rw [e]; clear e hc
    have t0 : name = [] := List.eq_nil_of_length_eq_zero (by omega)
    go_enter Try.func14, Try.ntmps14
    go_wp2
    go_ret
    exact ⟨rfl, (Below.refl _ _).alloc (Nat.le_refl _) _⟩
  have t0 : ((name.length : Int) == (0 : Int)) = false := by simp <;> (intro e; rw [e] at y0; simp at y0)
  have t0' : ¬ name = [] := by intro e; rw [e] at y0; simp at y0
  by_cases y1 : 0 ≤ params
  rotate_left
  · have e := rightF_no (f := ⟨name, params, regs, frame, code⟩) (fun h => by have := h.params; simp only at this; omega)
    rw [e]; clear e hc
    have t1 : decide (params < (0 : Int)) = true := by simp <;> omega
    go_enter Try.func14, Try.ntmps14
    go_wp2
    go_ret
    exact ⟨rfl, (Below.refl _ _).alloc (Nat.le_refl _) _⟩
  have t1 : decide (params < (0 : Int)) = false := by simp <;> omega
  by_cases y2 : params ≤ 6
  rotate_left
  · have e := rightF_no (f := ⟨name, params, regs, frame, code⟩) (fun h => by have := h.params; simp only at this; omega)
    rw [e]; clear e hc
    have t2 : decide (params > (6 : Int)) = true := by simp <;> omega
    go_enter Try.func14, Try.ntmps14
    go_wp2
    go_ret
    exact ⟨rfl, (Below.refl _ _).alloc (Nat.le_refl _) _⟩
  have t2 : decide (params > (6 : Int)) = false := by simp <;> omega
  by_cases y3 : params ≤ regs
  rotate_left
  · have e := rightF_no (f := ⟨name, params, regs, frame, code⟩) (fun h => by have := h.regs; simp only at this; omega)
    rw [e]; clear e hc
    have t3 : decide (regs < params) = true := by simp <;> omega
    go_enter Try.func14, Try.ntmps14
    go_wp2
    go_ret
    exact ⟨rfl, (Below.refl _ _).alloc (Nat.le_refl _) _⟩
  have t3 : decide (regs < params) = false := by simp <;> omega
  by_cases y4 : regs ≤ 4096
  rotate_left
  · have e := rightF_no (f := ⟨name, params, regs, frame, code⟩) (fun h => by have := h.regs; simp only at this; omega)
    rw [e]; clear e hc
    have t4 : decide (regs > (4096 : Int)) = true := by simp <;> omega
    go_enter Try.func14, Try.ntmps14
    go_wp2
    go_ret
    exact ⟨rfl, (Below.refl _ _).alloc (Nat.le_refl _) _⟩
  have t4 : decide (regs > (4096 : Int)) = false := by simp <;> omega
  by_cases y5 : 0 ≤ frame
  rotate_left
  · have e := rightF_no (f := ⟨name, params, regs, frame, code⟩) (fun h => by have := h.frame; simp only at this; omega)
    rw [e]; clear e hc
    have t5 : decide (frame < (0 : Int)) = true := by simp <;> omega
    go_enter Try.func14, Try.ntmps14
    go_wp2
    go_ret
    exact ⟨rfl, (Below.refl _ _).alloc (Nat.le_refl _) _⟩
  have t5 : decide (frame < (0 : Int)) = false := by simp <;> omega
  by_cases y6 : frame ≤ 4096
  rotate_left
  · have e := rightF_no (f := ⟨name, params, regs, frame, code⟩) (fun h => by have := h.frame; simp only at this; omega)
    rw [e]; clear e hc
    have t6 : decide (frame > (4096 : Int)) = true := by simp <;> omega
    go_enter Try.func14, Try.ntmps14
    go_wp2
    go_ret
    exact ⟨rfl, (Below.refl _ _).alloc (Nat.le_refl _) _⟩
  have t6 : decide (frame > (4096 : Int)) = false := by simp <;> omega
  by_cases y7 : 0 < code.length
  rotate_left
  · have e := rightF_no (f := ⟨name, params, regs, frame, code⟩) (fun h => by have := h.code; simp only at this; omega)
    rw [e]; clear e hc
    have t7 : code = [] := List.eq_nil_of_length_eq_zero (by omega)
    have t7' : code.length = 0 := by omega
    go_enter Try.func14, Try.ntmps14
    go_wp2
    go_ret
    exact ⟨rfl, (Below.refl _ _).alloc (Nat.le_refl _) _⟩
  have t7 : ((code.length : Int) == (0 : Int)) = false := by simp <;> (intro e; rw [e] at y7; simp at y7)
  have t7' : ¬ code = [] := by intro e; rw [e] at y7; simp at y7
  by_cases y8 : code.length ≤ 8192
  rotate_left
  · have e := rightF_no (f := ⟨name, params, regs, frame, code⟩) (fun h => by have := h.code; simp only at this; omega)
    rw [e]; clear e hc
    have t8 : decide ((code.length : Int) > (8192 : Int)) = true := by simp <;> omega
    go_enter Try.func14, Try.ntmps14
    go_wp2
    go_ret
    exact ⟨rfl, (Below.refl _ _).alloc (Nat.le_refl _) _⟩
  have t8 : decide ((code.length : Int) > (8192 : Int)) = false := by simp <;> omega
  have HC := Lib.hid hc; clear hc
  have HH : Hid (headOk ⟨name, params, regs, frame, code⟩ = true) := Lib.hid (by unfold headOk; simp only [Bool.and_eq_true, decide_eq_true_eq]; exact ⟨⟨⟨⟨⟨⟨⟨⟨t0', by omega⟩, by omega⟩, by omega⟩, by omega⟩, by omega⟩, by omega⟩, by omega⟩, by omega⟩)
  obtain ⟨x00, hx00⟩ : ∃ x, code[0]? = some x := ⟨_, List.getElem?_eq_getElem y7⟩
  obtain ⟨b, off, hca, hbB, hBw, _⟩ := HC.out.cells hx00
  clear hx00
  simp only at hca
  subst hca
  go_enter Try.func14, Try.ntmps14
  go_wp2
  go_loopw [3] (fun s3 wr => ∃ k : Nat, k ≤ code.length ∧ s3 = .int .i64 k ∧ Hid (Below w.heap.size w wr) ∧ Hid (wr.heap[w.heap.size]? = some (fnO ⟨⟨name, params, regs, frame, code⟩, some ⟨b, off, none⟩, cc⟩)) ∧ Hid ((code.take k).all (fun i => rightI i regs frame code.length) = true)) (fun i wr => code.length - (intOf i).toNat)
  case atStart => exact ⟨0, by omega, rfl, Lib.hid ((Below.refl _ _).alloc (Nat.le_refl _) _), Lib.hid (heap_alloc_new w _), Lib.hid (by simp)⟩
  case round =>
    obtain ⟨k, hk, rfl, HB, HW, HA⟩ := hrel
    obtain ⟨d0, d1, d2, d3, d4⟩ := nv5 HW.out
    have hz := lt_heap HW.out
    have HC2 := Lib.hid (HC.out.below (HB.out.mono hBw))
    by_cases hlt : k < code.length
    · obtain ⟨x, hx⟩ : ∃ x, code[k]? = some x := ⟨_, List.getElem?_eq_getElem hlt⟩
      obtain ⟨b', off', hca, _, hBw2, q0, q1, q2, q3, q4, q5, q6, q7, q8, q9, q10, q11, q12, q13, q14⟩ := HC2.out.cells hx
      simp only [Option.some.injEq, Addr.mk.injEq, and_true] at hca
      obtain ⟨rfl, rfl⟩ := hca
      have HX := Lib.hid hx; clear hx
      have p0 : (0 : Int) ≤ (k : Int) := Int.natCast_nonneg _
      have p1 : (k : Int) < (code.length : Int) := by omega
      have HR := Lib.hid (fun W => right_any x ⟨⟨name, params, regs, frame, code⟩, some ⟨b, off, none⟩, cc⟩ (by simp only; omega) W)
      by_cases hr : rightI x regs frame code.length = true
      · have hr2 := hr
        have HR2 : Hid (∀ W, Calls Try.prog 39 #[inV x, fnV ⟨⟨name, params, regs, frame, code⟩, some ⟨b, off, none⟩, cc⟩] W fun e w' => e = .returned (.bool true) ∧ Below W.heap.size W w') := Lib.hid (fun W => by have := HR.out W; unfold RPost at this; simp only [hr2] at this; exact this)
        have HRR := Lib.hid hr2; clear hr hr2 HR
        go_wp2
        obtain ⟨wo, rfl⟩ : ∃ wo : World, wo = wr := ⟨_, rfl⟩
        have d0' : ∀ dd os, (grow (redrawn wo dd) os).cell? ⟨w.heap.size, 0, none⟩ = _ := fun dd os => cell_regrown d0 dd os
        have d1' : ∀ dd os, (grow (redrawn wo dd) os).cell? ⟨w.heap.size, 1, none⟩ = _ := fun dd os => cell_regrown d1 dd os
        have d2' : ∀ dd os, (grow (redrawn wo dd) os).cell? ⟨w.heap.size, 2, none⟩ = _ := fun dd os => cell_regrown d2 dd os
        have d3' : ∀ dd os, (grow (redrawn wo dd) os).cell? ⟨w.heap.size, 3, none⟩ = _ := fun dd os => cell_regrown d3 dd os
        have d4' : ∀ dd os, (grow (redrawn wo dd) os).cell? ⟨w.heap.size, 4, none⟩ = _ := fun dd os => cell_regrown d4 dd os
        have q0' : ∀ dd os, (grow (redrawn wo dd) os).cell? ⟨b, off + k * 15, none⟩ = _ := fun dd os => cell_regrown q0 dd os
        have q1' : ∀ dd os, (grow (redrawn wo dd) os).cell? ⟨b, off + k * 15 + 1, none⟩ = _ := fun dd os => cell_regrown q1 dd os
        have q2' : ∀ dd os, (grow (redrawn wo dd) os).cell? ⟨b, off + k * 15 + 2, none⟩ = _ := fun dd os => cell_regrown q2 dd os
        have q3' : ∀ dd os, (grow (redrawn wo dd) os).cell? ⟨b, off + k * 15 + 3, none⟩ = _ := fun dd os => cell_regrown q3 dd os
        have q4' : ∀ dd os, (grow (redrawn wo dd) os).cell? ⟨b, off + k * 15 + 4, none⟩ = _ := fun dd os => cell_regrown q4 dd os
        have q5' : ∀ dd os, (grow (redrawn wo dd) os).cell? ⟨b, off + k * 15 + 5, none⟩ = _ := fun dd os => cell_regrown q5 dd os
        have q6' : ∀ dd os, (grow (redrawn wo dd) os).cell? ⟨b, off + k * 15 + 6, none⟩ = _ := fun dd os => cell_regrown q6 dd os
        have q7' : ∀ dd os, (grow (redrawn wo dd) os).cell? ⟨b, off + k * 15 + 7, none⟩ = _ := fun dd os => cell_regrown q7 dd os
        have q8' : ∀ dd os, (grow (redrawn wo dd) os).cell? ⟨b, off + k * 15 + 8, none⟩ = _ := fun dd os => cell_regrown q8 dd os
        have q9' : ∀ dd os, (grow (redrawn wo dd) os).cell? ⟨b, off + k * 15 + 9, none⟩ = _ := fun dd os => cell_regrown q9 dd os
        have q10' : ∀ dd os, (grow (redrawn wo dd) os).cell? ⟨b, off + k * 15 + 10, none⟩ = _ := fun dd os => cell_regrown q10 dd os
        have q11' : ∀ dd os, (grow (redrawn wo dd) os).cell? ⟨b, off + k * 15 + 11, none⟩ = _ := fun dd os => cell_regrown q11 dd os
        have q12' : ∀ dd os, (grow (redrawn wo dd) os).cell? ⟨b, off + k * 15 + 12, none⟩ = _ := fun dd os => cell_regrown q12 dd os
        have q13' : ∀ dd os, (grow (redrawn wo dd) os).cell? ⟨b, off + k * 15 + 13, none⟩ = _ := fun dd os => cell_regrown q13 dd os
        have q14' : ∀ dd os, (grow (redrawn wo dd) os).cell? ⟨b, off + k * 15 + 14, none⟩ = _ := fun dd os => cell_regrown q14 dd os
        clear d0 d1 d2 d3 d4 q0 q1 q2 q3 q4 q5 q6 q7 q8 q9 q10 q11 q12 q13 q14
        refine wp_region_quiet_below (by kernel_rfl) (by kernel_rfl) ?_
        repeat (any_goals (first | go_big_quiet_step ((go_at_call 39; exact Calls.regrown_of (HR2.out _))) | quiet_step ((go_at_call 39; exact Calls.regrown_of (HR2.out _)))))
        refine wpQuiet_nil ?_
        intro _ hw'
        obtain ⟨⟨dq, osq⟩, hw''⟩ := hw'
        subst hw''
        have HB9 := Lib.hid (HB.out.trans ((below_regrown wo dq osq).mono HB.out.size))
        have HW9 := Lib.hid (((below_regrown wo dq osq).block _ hz).trans HW.out)
        have HA9 := Lib.hid (all_yesI HA.out HX.out HRR.out)
        go_wp2
        go_roundw
        case rel => exact ⟨k + 1, by omega, by go_num, HB9, HW9, HA9⟩
        case measure => simp [intOf]; omega
      · have hr2 := bfalse hr
        have HR2 : Hid (∀ W, Calls Try.prog 39 #[inV x, fnV ⟨⟨name, params, regs, frame, code⟩, some ⟨b, off, none⟩, cc⟩] W fun e w' => e = .returned (.bool false) ∧ Below W.heap.size W w') := Lib.hid (fun W => by have := HR.out W; unfold RPost at this; simp only [hr2] at this; exact this)
        have HRR := Lib.hid hr2; clear hr hr2 HR
        go_wp2
        obtain ⟨wo, rfl⟩ : ∃ wo : World, wo = wr := ⟨_, rfl⟩
        have d0' : ∀ dd os, (grow (redrawn wo dd) os).cell? ⟨w.heap.size, 0, none⟩ = _ := fun dd os => cell_regrown d0 dd os
        have d1' : ∀ dd os, (grow (redrawn wo dd) os).cell? ⟨w.heap.size, 1, none⟩ = _ := fun dd os => cell_regrown d1 dd os
        have d2' : ∀ dd os, (grow (redrawn wo dd) os).cell? ⟨w.heap.size, 2, none⟩ = _ := fun dd os => cell_regrown d2 dd os
        have d3' : ∀ dd os, (grow (redrawn wo dd) os).cell? ⟨w.heap.size, 3, none⟩ = _ := fun dd os => cell_regrown d3 dd os
        have d4' : ∀ dd os, (grow (redrawn wo dd) os).cell? ⟨w.heap.size, 4, none⟩ = _ := fun dd os => cell_regrown d4 dd os
        have q0' : ∀ dd os, (grow (redrawn wo dd) os).cell? ⟨b, off + k * 15, none⟩ = _ := fun dd os => cell_regrown q0 dd os
        have q1' : ∀ dd os, (grow (redrawn wo dd) os).cell? ⟨b, off + k * 15 + 1, none⟩ = _ := fun dd os => cell_regrown q1 dd os
        have q2' : ∀ dd os, (grow (redrawn wo dd) os).cell? ⟨b, off + k * 15 + 2, none⟩ = _ := fun dd os => cell_regrown q2 dd os
        have q3' : ∀ dd os, (grow (redrawn wo dd) os).cell? ⟨b, off + k * 15 + 3, none⟩ = _ := fun dd os => cell_regrown q3 dd os
        have q4' : ∀ dd os, (grow (redrawn wo dd) os).cell? ⟨b, off + k * 15 + 4, none⟩ = _ := fun dd os => cell_regrown q4 dd os
        have q5' : ∀ dd os, (grow (redrawn wo dd) os).cell? ⟨b, off + k * 15 + 5, none⟩ = _ := fun dd os => cell_regrown q5 dd os
        have q6' : ∀ dd os, (grow (redrawn wo dd) os).cell? ⟨b, off + k * 15 + 6, none⟩ = _ := fun dd os => cell_regrown q6 dd os
        have q7' : ∀ dd os, (grow (redrawn wo dd) os).cell? ⟨b, off + k * 15 + 7, none⟩ = _ := fun dd os => cell_regrown q7 dd os
        have q8' : ∀ dd os, (grow (redrawn wo dd) os).cell? ⟨b, off + k * 15 + 8, none⟩ = _ := fun dd os => cell_regrown q8 dd os
        have q9' : ∀ dd os, (grow (redrawn wo dd) os).cell? ⟨b, off + k * 15 + 9, none⟩ = _ := fun dd os => cell_regrown q9 dd os
        have q10' : ∀ dd os, (grow (redrawn wo dd) os).cell? ⟨b, off + k * 15 + 10, none⟩ = _ := fun dd os => cell_regrown q10 dd os
        have q11' : ∀ dd os, (grow (redrawn wo dd) os).cell? ⟨b, off + k * 15 + 11, none⟩ = _ := fun dd os => cell_regrown q11 dd os
        have q12' : ∀ dd os, (grow (redrawn wo dd) os).cell? ⟨b, off + k * 15 + 12, none⟩ = _ := fun dd os => cell_regrown q12 dd os
        have q13' : ∀ dd os, (grow (redrawn wo dd) os).cell? ⟨b, off + k * 15 + 13, none⟩ = _ := fun dd os => cell_regrown q13 dd os
        have q14' : ∀ dd os, (grow (redrawn wo dd) os).cell? ⟨b, off + k * 15 + 14, none⟩ = _ := fun dd os => cell_regrown q14 dd os
        clear d0 d1 d2 d3 d4 q0 q1 q2 q3 q4 q5 q6 q7 q8 q9 q10 q11 q12 q13 q14
        refine wp_region_quiet_below (by kernel_rfl) (by kernel_rfl) ?_
        repeat (any_goals (first | go_big_quiet_step ((go_at_call 39; exact Calls.regrown_of (HR2.out _))) | quiet_step ((go_at_call 39; exact Calls.regrown_of (HR2.out _)))))
        refine wpQuiet_nil ?_
        intro _ hw'
        obtain ⟨⟨dq, osq⟩, hw''⟩ := hw'
        subst hw''
        have HB9 := Lib.hid (HB.out.trans ((below_regrown wo dq osq).mono HB.out.size))
        have HNO := Lib.hid (rightF_no (f := ⟨name, params, regs, frame, code⟩) (fun h => by have h1 := h.all x (List.mem_of_getElem? HX.out); rw [← rightI_iff] at h1; simp only at h1; rw [HRR.out] at h1; cases h1))
        go_wp2
        go_ret
        refine ⟨by rw [HNO.out]; rfl, HB9.out⟩
    · obtain rfl : k = code.length := by omega
      obtain ⟨m, hm1⟩ : ∃ m, code.length = m + 1 := ⟨code.length - 1, by omega⟩
      obtain ⟨x, hx⟩ : ∃ x, code[m]? = some x := ⟨_, List.getElem?_eq_getElem (by omega)⟩
      obtain ⟨b', off', hca, _, hBw2, q0, _, _, _, _, _, _, _, _, _, _, _, _, _, _⟩ := HC2.out.cells hx
      simp only [Option.some.injEq, Addr.mk.injEq, and_true] at hca
      obtain ⟨rfl, rfl⟩ := hca
      have p0 : (code.length : Int) - 1 = (m : Int) := by omega
      have p1 : (m : Int) < (code.length : Int) := by omega
      have p2 : (0 : Int) ≤ (m : Int) := Int.natCast_nonneg _
      have HL : Hid (decide (11 ≤ lastKind code) = decide (11 ≤ x.kind)) := Lib.hid (by unfold lastKind; rw [List.getLast?_eq_getElem?, show code.length - 1 = m by omega, hx])
      have HA2 := Lib.hid (show code.all (fun i => rightI i regs frame code.length) = true by have := HA.out; rwa [List.take_length] at this)
      clear hx hm1 HA
      go_wp2
      go_ret
      refine ⟨congrArg (fun b => Ending.returned (.bool b)) ?_, HB.out⟩
      rw [rightF_yes (f := ⟨name, params, regs, frame, code⟩) HH.out HA2.out HL.out]
theorem rightFunc_any (r : FnR) (B : Nat) (w : World) (hc : CodeAt w B r) (hm : r.f.code.length ≤ maxLen) :
    Calls Try.prog 14 #[fnV r] w (RPost (.bool (rightF r.f)) w) := rightFunc_v r.f.name r.f.params r.f.regs r.f.frame r.f.code r.ca r.cc B w hc hm
end Go.Proofs.Ytgnpbodhjmappaa
