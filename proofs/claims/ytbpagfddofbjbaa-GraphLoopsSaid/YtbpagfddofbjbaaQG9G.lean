/-
  doppellaw09's awake: a loop of two instructions.
  Contracts of doppellaw07's Small, Few and Result.
  doppellaw09's few and same.
-/
import Derived.Test.YtbpagfddofbjbaaQG9F
import Derived.Test.YtbpagfddofbjbaaC7Small
import Derived.Deep.Cut
import Derived.Test.YtbpagfddofbjbaaR7RightF
namespace Go.Proofs.Ytbpagfddofbjbaa
set_option maxRecDepth 100000
open Go.RowKit Cd Go.Maps
set_option linter.unusedVariables false
set_option linter.unusedSimpArgs false

abbrev agB : Ins := ⟨(plainI 12).kind, (plainI 12).op, (plainI 12).dst, (plainI 12).a, (plainI 12).b, (plainI 12).n, (plainI 12).text, (plainI 12).x0, (plainI 12).x1, (plainI 12).x2, (plainI 12).x3, (plainI 12).x4, (plainI 12).x5, 1, 2⟩
abbrev agJ : Ins := plainI 11
abbrev agR : Ins := plainI 13
def agF (n : Nat) : FnR := ⟨⟨[102], 0, 1, 0, [agB, agJ, agR]⟩, some ⟨n + 1 + 1 + 1, 0, none⟩, 3⟩
abbrev agC : Obj := .cells #[.int .i64 agB.kind, .int .i64 agB.op, .int .i64 agB.dst, .int .i64 agB.a, .int .i64 agB.b, .int .i64 agB.n, .string (sb agB.text), .int .i64 agB.x0, .int .i64 agB.x1, .int .i64 agB.x2, .int .i64 agB.x3, .int .i64 agB.x4, .int .i64 agB.x5, .int .i64 agB.dest, .int .i64 agB.els, .int .i64 agJ.kind, .int .i64 agJ.op, .int .i64 agJ.dst, .int .i64 agJ.a, .int .i64 agJ.b, .int .i64 agJ.n, .string (sb agJ.text), .int .i64 agJ.x0, .int .i64 agJ.x1, .int .i64 agJ.x2, .int .i64 agJ.x3, .int .i64 agJ.x4, .int .i64 agJ.x5, .int .i64 agJ.dest, .int .i64 agJ.els, .int .i64 agR.kind, .int .i64 agR.op, .int .i64 agR.dst, .int .i64 agR.a, .int .i64 agR.b, .int .i64 agR.n, .string (sb agR.text), .int .i64 agR.x0, .int .i64 agR.x1, .int .i64 agR.x2, .int .i64 agR.x3, .int .i64 agR.x4, .int .i64 agR.x5, .int .i64 agR.dest, .int .i64 agR.els] 44
abbrev agO (n : Nat) : Obj := .cells #[.string ⟨#[102]⟩, .int .i64 0, .int .i64 1, .int .i64 0, .slice (some ⟨n + 1 + 1 + 1, 0, none⟩) 3 3] 24
abbrev agV (n : Nat) : Value := .agg #[.string ⟨#[102]⟩, .int .i64 0, .int .i64 1, .int .i64 0, .slice (some ⟨n + 1 + 1 + 1, 0, none⟩) 3 3]
abbrev ag5 (w : World) : World := ((((w.alloc (inO agB)).alloc (inO agJ)).alloc (inO agR)).alloc agC).alloc (agO w.heap.size)
theorem ag5_at (w : World) : (ag5 w).heap.size = w.heap.size + 5 ∧ (ag5 w).heap[w.heap.size + 3]? = some agC ∧ (ag5 w).heap[w.heap.size + 4]? = some (agO w.heap.size) ∧ Below w.heap.size w (ag5 w) := by
  have h3 := heap_alloc_new (((w.alloc (inO agB)).alloc (inO agJ)).alloc (inO agR)) agC
  have h4 := heap_alloc_new ((((w.alloc (inO agB)).alloc (inO agJ)).alloc (inO agR)).alloc agC) (agO w.heap.size)
  have s3 : (((w.alloc (inO agB)).alloc (inO agJ)).alloc (inO agR)).heap.size = w.heap.size + 3 := by simp
  have s4 : ((((w.alloc (inO agB)).alloc (inO agJ)).alloc (inO agR)).alloc agC).heap.size = w.heap.size + 4 := by simp
  rw [s3] at h3
  rw [s4] at h4
  refine ⟨by simp, (Below.heap_alloc _ _ _ (by rw [s4]; omega)).trans h3, h4, ?_⟩
  exact (((((Below.refl _ w).alloc (Nat.le_refl _) _).alloc (by simp) _).alloc (by simp <;> omega) _).alloc (by rw [s3]; omega) _).alloc (by rw [s4]; omega) _
theorem ag_ok {w W : World} (hb : Below (w.heap.size + 5) (ag5 w) W) : FnOk W (agF w.heap.size) := by
  obtain ⟨s, a3, _, _⟩ := ag5_at w
  have hs := hb.size
  rw [s] at hs
  refine ⟨fun _ => ⟨w.heap.size + 3, 0, rfl, by omega, Nat.le_refl _, fun j u hu => ?_⟩, by unfold maxLen; simp [agF]⟩
  rw [Nat.zero_add, cell_of_row W _ j _ _ _ ((hb.block _ (by omega)).trans a3)]
  have hu' : ([agB, agJ, agR].flatMap inCells)[j]? = some u := hu
  simpa [inCells] using hu'
def agG : List (List Int) := [[1, 2], [0], []]
theorem ag_right (n : Nat) : rightF (agF n).f = true := by
  show rightF ⟨[102], 0, 1, 0, [agB, agJ, agR]⟩ = true
  decide +kernel
theorem ag_follow (n : Nat) : followG (agF n).f = agG := by
  unfold followG
  rw [if_pos (ag_right n)]
  show nextG [agB, agJ, agR] = agG
  decide +kernel
theorem ag_closed : Closed [agB, agJ, agR] := closed_of (f := ⟨[102], 0, 1, 0, [agB, agJ, agR]⟩) (rightF_iff.1 (ag_right 0))
theorem ag_next : nextG [agB, agJ, agR] = agG := by decide +kernel
/-- The search's end, here. -/
def agS : Dfs := ⟨[0, 1, 2], [-1, 0, 0], [1, 2, 0], [2, 1, 0], []⟩
theorem ag_steps : DSteps agG (Dfs.first agG.length) agS :=
  .ahead (DStep.new (e := [0]) (p := [-1]) (l := []) (t := [0, 0, 0]) (q := []) (a := 0) (y := 1) (k := 0) (by decide) (by decide) (by decide))
  (.ahead (DStep.old (e := [0, 1]) (p := [-1, 0]) (l := []) (t := [1, 0, 0]) (q := [0]) (a := 1) (y := 0) (k := 0) (by decide) (by decide) (by decide))
  (.ahead (DStep.out (e := [0, 1]) (p := [-1, 0]) (l := []) (t := [1, 1, 0]) (q := [0]) (a := 1) (k := 1) (by decide) (by decide))
  (.ahead (DStep.new (e := [0, 1]) (p := [-1, 0]) (l := [1]) (t := [1, 1, 0]) (q := []) (a := 0) (y := 2) (k := 1) (by decide) (by decide) (by decide))
  (.ahead (DStep.out (e := [0, 1, 2]) (p := [-1, 0, 0]) (l := [1]) (t := [2, 1, 0]) (q := [0]) (a := 2) (k := 0) (by decide) (by decide))
  (.ahead (DStep.out (e := [0, 1, 2]) (p := [-1, 0, 0]) (l := [1, 2]) (t := [2, 1, 0]) (q := []) (a := 0) (k := 2) (by decide) (by decide)) (.refl _))))))
theorem ag_end {s : Dfs} (h : Ended agG s) : s = agS := by
  obtain ⟨⟨h1, _⟩ | ⟨_, h1⟩, h2⟩ := h
  · cases h1
  · exact h1.end ag_steps h2 rfl
theorem ag_heads : headsOf agG agS = [0] := by decide +kernel
theorem loop_ag (w : World) : Calls Try.prog 30 #[agV w.heap.size, .int .i64 0] (ag5 w) (ListPost [0, 1] (ag5 w)) := by
  have h := loop_g (agF w.heap.size) 0 (ag5 w) (ag_ok (Below.refl _ _)) agG (ag_follow _)
  have e : (if 0 ≤ (0 : Int) ∧ (0 : Int) < (agG.length : Int) then loopR agG 0 else []) = [0, 1] := by
    rw [if_pos (by decide), ← ag_next]
    have h0 := loopR_loopN (c := [agB, agJ, agR]) ag_closed (by decide) (h := 0) (by decide)
    rw [show ((0 : Nat) : Int) = 0 from rfl] at h0
    rw [h0]
    decide +kernel
  rw [e] at h
  exact h
theorem heads_ag (w W : World) (hb : Below (w.heap.size + 5) (ag5 w) W) : Calls Try.prog 29 #[agV w.heap.size] W (ListPost [0] W) := by
  refine Calls.mono (heads_g (agF w.heap.size) W (ag_ok hb) agG (ag_follow _)) ?_
  rintro e w' ⟨s, hs, hp⟩
  rw [ag_end hs, ag_heads] at hp
  exact hp
theorem dom_ag (w W : World) (hb : Below (w.heap.size + 5) (ag5 w) W) : Calls Try.prog 26 #[agV w.heap.size, .int .i64 0, .int .i64 2] W (RPost (.bool true) W) :=
  dominates_g (agF w.heap.size) 0 2 W (ag_ok hb) agG (ag_follow _) true (by rw [← ag_next, domR_domB ag_closed (by decide)]; decide +kernel)
set_option maxRecDepth 100000 in
set_option maxHeartbeats 8000000 in
theorem awake9_any (w : World) : Calls Try.prog 16 #[] w (RPost (.bool true) w) := by
  go_enter Try.func16, Try.ntmps16
  go_wp2_with (first | ((with_reducible refine (cplain_any 12 _).mono ?_); rintro e w1 ⟨rfl, hb1⟩; have HB1 := Lib.hid hb1; clear hb1) | ((with_reducible refine (cplain_any 11 _).mono ?_); rintro e w2 ⟨rfl, hb2⟩; have HB2 := Lib.hid (HB1.out.trans (hb2.mono HB1.out.size)); clear hb2) | ((with_reducible refine (cplain_any 13 _).mono ?_); rintro e w3 ⟨rfl, hb3⟩; have HB3 := Lib.hid (HB2.out.trans (hb3.mono HB2.out.size)); clear hb3))
  with_reducible refine (loop_ag w3).mono ?_
  rintro e w4 ⟨v, rfl, hown, hb4⟩
  obtain ⟨s5, _, a4, hb5⟩ := ag5_at w3
  obtain ⟨la, lc, rfl⟩ := row_slice hown
  obtain ⟨lg, rfl, hlg, hlgl, cl⟩ := own_int (k := 1) (x := 1) (xs := [0, 1]) hown rfl
  rw [s5] at hb4 hlg
  have HB4 := Lib.hid hb4
  have HBA := Lib.hid (HB3.out.trans ((hb5.trans (hb4.mono (by omega))).mono HB3.out.size))
  have HU := Lib.hid ((hb4.block _ (by omega)).trans a4)
  obtain ⟨d0, d1, d2, d3, d4⟩ := nv5 HU.out
  have hlt : w3.heap.size + 5 ≤ w4.heap.size := by have := hb4.size; omega
  have hq4 : w3.heap.size + 4 < w4.heap.size := by omega
  have CL := Lib.hid cl
  clear hown hb4 s5 a4 hb5
  simp only [List.length_cons, List.length_nil, Nat.zero_add, Nat.reduceAdd]
  go_wp2_with (first | ((with_reducible refine (heads_ag w3 _ HB4.out).mono ?_); rintro e w5 ⟨v5, rfl, ho5, hb5⟩; obtain ⟨a5, c5, rfl⟩ := row_slice ho5; have HB5 := Lib.hid (HB4.out.trans (hb5.mono hlt)); have HBB := Lib.hid (HBA.out.trans (hb5.mono HBA.out.size)); have HU5 := Lib.hid ((hb5.block _ hq4).trans HU.out); clear d0 d1 d2 d3 d4 cl; obtain ⟨d0, d1, d2, d3, d4⟩ := nv5 HU5.out; have cl := (hb5.cell (p := ⟨lg, 1, none⟩) hlgl).trans CL.out; simp only [List.length_cons, List.length_nil, Nat.zero_add, Nat.reduceAdd]; clear ho5 hb5) | ((with_reducible refine (dom_ag w3 _ HB5.out).mono ?_); rintro e w6 ⟨rfl, hb6⟩; have HB6 := Lib.hid (HBB.out.trans (hb6.mono HBB.out.size)); clear hb6))
  go_ret
  exact ⟨rfl, HB6.out⟩
end Go.Proofs.Ytbpagfddofbjbaa
namespace Go.Proofs.Ytbpagfddofbjbaa
set_option maxRecDepth 100000
open Go.RowKit Cd
set_option linter.unusedVariables false
set_option linter.unusedSimpArgs false

/-- May a function be gone through? -/
def Cd.smallB (f : Fnc) : Bool := decide (f.name.length ≤ 50) && decide (f.code.length ≤ 60) && !(decide (40 < f.regs) && decide (f.regs ≤ 4096)) && f.code.all (fun i => decide (i.text.length ≤ 50))
def Cd.fewB (u : Uni) : Bool := decide (u.funcs.length ≤ 6) && decide (u.globals.length ≤ 10) && u.funcs.all smallB && u.globals.all (fun g => decide (g.name.length ≤ 50))
theorem all_noT {α : Type} {p : α → Bool} {l : List α} {k : Nat} {x : α} (h : l[k]? = some x) (hp : p x = false) : l.all p = false := by
  rw [List.all_eq_false]; exact ⟨x, List.mem_of_getElem? h, by simp [hp]⟩
theorem all_yesT {α : Type} {p : α → Bool} {l : List α} {k : Nat} {x : α} (ha : (l.take k).all p = true) (h : l[k]? = some x) (hp : p x = true) : (l.take (k + 1)).all p = true := by
  obtain ⟨hk, hx⟩ := List.getElem?_eq_some_iff.1 h
  rw [List.take_succ_eq_append_getElem hk, hx, List.all_append, ha]; simp [hp]
set_option maxHeartbeats 4000000 in
theorem small_w (name : List UInt8) (params regs frame : Int) (code : List Ins) (ca : Option Addr) (cc : Nat) (m : Bool) (B : Nat) (w : World) (hc : CodeAt w B ⟨⟨name, params, regs, frame, code⟩, ca, cc⟩) (hml : code.length ≤ 2 ^ 63 - 1) (hBw : B ≤ w.heap.size) (hm : smallB ⟨name, params, regs, frame, code⟩ = m) (y0 : name.length ≤ 50) (y1 : code.length ≤ 60) (y2 : ¬ 40 < regs ∨ ¬ regs ≤ 4096) :
    Calls Try.prog 53 #[fnV ⟨⟨name, params, regs, frame, code⟩, ca, cc⟩] w (RPost (.bool m) w) := by
  have HC := Lib.hid hc; clear hc
  have HM := Lib.hid (show code.all (fun i => decide (i.text.length ≤ 50)) = m by rw [← hm]; unfold smallB; rw [decide_eq_true (show (Fnc.name ⟨name, params, regs, frame, code⟩).length ≤ 50 from y0), decide_eq_true (show (Fnc.code ⟨name, params, regs, frame, code⟩).length ≤ 60 from y1)]; rcases y2 with y2 | y2; rw [decide_eq_false (show ¬ 40 < (Fnc.regs ⟨name, params, regs, frame, code⟩) from y2)]; simp; rw [decide_eq_false (show ¬ (Fnc.regs ⟨name, params, regs, frame, code⟩) ≤ 4096 from y2)]; simp)
  clear hm
  have t0 : decide ((name.length : Int) > (50 : Int)) = false := by simp <;> omega
  have t0' : decide ((50 : Int) < (name.length : Int)) = false := by simp <;> omega
  have t1 : decide ((code.length : Int) > (60 : Int)) = false := by simp <;> omega
  have t1' : decide ((60 : Int) < (code.length : Int)) = false := by simp <;> omega
  by_cases y3 : 40 < regs
  rotate_left
  · have t2 : decide (regs > (40 : Int)) = false := by simp <;> omega
    have t2' : decide ((40 : Int) < regs) = false := by simp <;> omega
    go_enter Try.func53, Try.ntmps53
    go_wp2
    go_loopw [28] (fun s28 wr => ∃ k : Nat, k ≤ code.length ∧ s28 = .int .i64 k ∧ Hid (Below w.heap.size w wr) ∧ Hid ((code.take k).all (fun i => decide (i.text.length ≤ 50)) = true)) (fun i wr => code.length - (intOf i).toNat)
    case atStart => exact ⟨0, by omega, rfl, Lib.hid ((Below.refl _ _).alloc (Nat.le_refl _) _), Lib.hid (by simp)⟩
    case round =>
      obtain ⟨k, hk, rfl, HB, HA⟩ := hrel
      by_cases hlt : k < code.length
      · obtain ⟨x, hx⟩ : ∃ x, code[k]? = some x := ⟨_, List.getElem?_eq_getElem hlt⟩
        have HC2 := Lib.hid (HC.out.below (HB.out.mono hBw))
        obtain ⟨b, off, hca, hb, hBw2, q0, q1, q2, q3, q4, q5, q6, q7, q8, q9, q10, q11, q12, q13, q14⟩ := HC2.out.cells hx
        simp only at hca
        subst hca
        have HX := Lib.hid hx; clear hx
        have p0 : (0 : Int) ≤ (k : Int) := Int.natCast_nonneg _
        have p1 : (k : Int) < (code.length : Int) := by omega
        have HB2 := Lib.hid (HB.out.alloc HB.out.size (inO x))
        by_cases z0 : x.text.length ≤ 50
        · have u0 : decide ((x.text.length : Int) > (50 : Int)) = false := by simp <;> omega
          have u1 : decide ((50 : Int) < (x.text.length : Int)) = false := by simp <;> omega
          have HA2 := Lib.hid (all_yesT HA.out HX.out (by simpa using z0))
          go_wp2
          go_roundw
          case rel => exact ⟨k + 1, by omega, by go_num, HB2, HA2⟩
          case measure => simp [intOf]; omega
        · have u0 : decide ((x.text.length : Int) > (50 : Int)) = true := by simp <;> omega
          have u1 : decide ((50 : Int) < (x.text.length : Int)) = true := by simp <;> omega
          have E := Lib.hid (show m = false by rw [← HM.out]; exact all_noT HX.out (by simpa using z0))
          go_wp2
          go_ret
          exact ⟨by rw [E.out]; rfl, HB2.out⟩
      · obtain rfl : k = code.length := by omega
        have E := Lib.hid (show m = true by rw [← HM.out]; have := HA.out; rwa [List.take_length] at this)
        go_wp2
        go_ret
        exact ⟨by rw [E.out]; rfl, HB.out⟩
  · have t2 : decide (regs > (40 : Int)) = true := by simp <;> omega
    have t2' : decide ((40 : Int) < regs) = true := by simp <;> omega
    have t3 : decide (regs ≤ (4096 : Int)) = false := by simp <;> omega
    go_enter Try.func53, Try.ntmps53
    go_wp2
    go_loopw [28] (fun s28 wr => ∃ k : Nat, k ≤ code.length ∧ s28 = .int .i64 k ∧ Hid (Below w.heap.size w wr) ∧ Hid ((code.take k).all (fun i => decide (i.text.length ≤ 50)) = true)) (fun i wr => code.length - (intOf i).toNat)
    case atStart => exact ⟨0, by omega, rfl, Lib.hid ((Below.refl _ _).alloc (Nat.le_refl _) _), Lib.hid (by simp)⟩
    case round =>
      obtain ⟨k, hk, rfl, HB, HA⟩ := hrel
      by_cases hlt : k < code.length
      · obtain ⟨x, hx⟩ : ∃ x, code[k]? = some x := ⟨_, List.getElem?_eq_getElem hlt⟩
        have HC2 := Lib.hid (HC.out.below (HB.out.mono hBw))
        obtain ⟨b, off, hca, hb, hBw2, q0, q1, q2, q3, q4, q5, q6, q7, q8, q9, q10, q11, q12, q13, q14⟩ := HC2.out.cells hx
        simp only at hca
        subst hca
        have HX := Lib.hid hx; clear hx
        have p0 : (0 : Int) ≤ (k : Int) := Int.natCast_nonneg _
        have p1 : (k : Int) < (code.length : Int) := by omega
        have HB2 := Lib.hid (HB.out.alloc HB.out.size (inO x))
        by_cases z0 : x.text.length ≤ 50
        · have u0 : decide ((x.text.length : Int) > (50 : Int)) = false := by simp <;> omega
          have u1 : decide ((50 : Int) < (x.text.length : Int)) = false := by simp <;> omega
          have HA2 := Lib.hid (all_yesT HA.out HX.out (by simpa using z0))
          go_wp2
          go_roundw
          case rel => exact ⟨k + 1, by omega, by go_num, HB2, HA2⟩
          case measure => simp [intOf]; omega
        · have u0 : decide ((x.text.length : Int) > (50 : Int)) = true := by simp <;> omega
          have u1 : decide ((50 : Int) < (x.text.length : Int)) = true := by simp <;> omega
          have E := Lib.hid (show m = false by rw [← HM.out]; exact all_noT HX.out (by simpa using z0))
          go_wp2
          go_ret
          exact ⟨by rw [E.out]; rfl, HB2.out⟩
      · obtain rfl : k = code.length := by omega
        have E := Lib.hid (show m = true by rw [← HM.out]; have := HA.out; rwa [List.take_length] at this)
        go_wp2
        go_ret
        exact ⟨by rw [E.out]; rfl, HB.out⟩
set_option maxHeartbeats 4000000 in
theorem small_v (name : List UInt8) (params regs frame : Int) (code : List Ins) (ca : Option Addr) (cc : Nat) (m : Bool) (B : Nat) (w : World) (hc : CodeAt w B ⟨⟨name, params, regs, frame, code⟩, ca, cc⟩) (hml : code.length ≤ maxLen) (hBw : B ≤ w.heap.size) (hm : smallB ⟨name, params, regs, frame, code⟩ = m) :
    Calls Try.prog 53 #[fnV ⟨⟨name, params, regs, frame, code⟩, ca, cc⟩] w (RPost (.bool m) w) := by
  unfold maxLen at hml
  have HC := Lib.hid hc; clear hc
  have HM := Lib.hid hm; clear hm
  by_cases y0 : name.length ≤ 50
  rotate_left
  · have t0 : decide ((name.length : Int) > (50 : Int)) = true := by simp <;> omega
    have t0' : decide ((50 : Int) < (name.length : Int)) = true := by simp <;> omega
    have E := Lib.hid (show m = false by rw [← HM.out]; unfold smallB; rw [decide_eq_false y0]; rfl)
    go_enter Try.func53, Try.ntmps53
    go_wp2
    go_ret
    exact ⟨by rw [E.out]; rfl, (Below.refl _ _).alloc (Nat.le_refl _) _⟩
  have t0 : decide ((name.length : Int) > (50 : Int)) = false := by simp <;> omega
  have t0' : decide ((50 : Int) < (name.length : Int)) = false := by simp <;> omega
  by_cases y1 : code.length ≤ 60
  rotate_left
  · have t1 : decide ((code.length : Int) > (60 : Int)) = true := by simp <;> omega
    have t1' : decide ((60 : Int) < (code.length : Int)) = true := by simp <;> omega
    have E := Lib.hid (show m = false by rw [← HM.out]; unfold smallB; rw [decide_eq_false y1]; simp)
    go_enter Try.func53, Try.ntmps53
    go_wp2
    go_ret
    exact ⟨by rw [E.out]; rfl, (Below.refl _ _).alloc (Nat.le_refl _) _⟩
  have t1 : decide ((code.length : Int) > (60 : Int)) = false := by simp <;> omega
  have t1' : decide ((60 : Int) < (code.length : Int)) = false := by simp <;> omega
  by_cases y2 : 40 < regs
  · have t2 : decide (regs > (40 : Int)) = true := by simp <;> omega
    have t2' : decide ((40 : Int) < regs) = true := by simp <;> omega
    by_cases y3 : regs ≤ 4096
    · have t3 : decide (regs ≤ (4096 : Int)) = true := by simp <;> omega
      have E := Lib.hid (show m = false by rw [← HM.out]; unfold smallB; rw [decide_eq_true (show 40 < (Fnc.regs ⟨name, params, regs, frame, code⟩) from y2), decide_eq_true (show (Fnc.regs ⟨name, params, regs, frame, code⟩) ≤ 4096 from y3)]; simp)
      go_enter Try.func53, Try.ntmps53
      go_wp2
      go_ret
      exact ⟨by rw [E.out]; rfl, (Below.refl _ _).alloc (Nat.le_refl _) _⟩
    · have t3 : decide (regs ≤ (4096 : Int)) = false := by simp <;> omega
      exact small_w name params regs frame code ca cc m B w HC.out hml hBw HM.out y0 y1 (.inr y3)
  · exact small_w name params regs frame code ca cc m B w HC.out hml hBw HM.out y0 y1 (.inl y2)
theorem small_any (r : FnR) (m : Bool) (B : Nat) (w : World) (hc : CodeAt w B r) (hml : r.f.code.length ≤ maxLen) (hBw : B ≤ w.heap.size) (hm : smallB r.f = m) :
    Calls Try.prog 53 #[fnV r] w (RPost (.bool m) w) := small_v r.f.name r.f.params r.f.regs r.f.frame r.f.code r.ca r.cc m B w hc hml hBw hm
end Go.Proofs.Ytbpagfddofbjbaa
namespace Go.Proofs.Ytbpagfddofbjbaa
set_option maxRecDepth 100000
open Go.RowKit Cd Go.Maps
set_option linter.unusedVariables false
set_option linter.unusedSimpArgs false

def Cd.few9 (f : Fnc) : Bool := smallB f && decide (f.code.length ≤ 25)
set_option maxHeartbeats 2000000 in
theorem few_c (r : FnR) (w : World) (h : FnOk w r) (m : Bool) (hm : few9 r.f = m) : Calls Try.prog 15 #[fnV r] w (RPost (.bool m) w) := by
  have hs1 := (h.below (bx1_below w r)).code
  have HS := Lib.hid hs1
  have hml := h.len
  have HX := Lib.hid (heap_alloc_new w (fnO r))
  obtain ⟨x0, x1, x2, x3, x4⟩ := nv5 HX.out
  obtain ⟨s, hs⟩ : ∃ s, smallB r.f = s := ⟨_, rfl⟩
  have HSS := Lib.hid hs
  unfold few9 at hm
  rw [hs] at hm
  clear hs1 hs h
  cases s with
  | false =>
    have HM : Hid (m = false) := Lib.hid (by rw [← hm]; rfl)
    clear hm
    go_enter Try.func15, Try.ntmps15
    go_wp2_with ((with_reducible refine (small_any r false (bx1 w r).heap.size _ HS.out hml (Nat.le_refl _) HSS.out).mono ?_); rintro e w1 ⟨rfl, hb1⟩; have HB1 := Lib.hid ((bx1_below w r).trans (hb1.mono (by simp))); clear hb1)
    go_ret
    exact ⟨by rw [HM.out]; rfl, HB1.out⟩
  | true =>
    obtain ⟨d, hd⟩ : ∃ d, decide (r.f.code.length ≤ 25) = d := ⟨_, rfl⟩
    have HM : Hid (m = d) := Lib.hid (by rw [← hm, hd]; rfl)
    have t0 : decide ((r.f.code.length : Int) ≤ 25) = d := by rw [← hd]; apply Bool.eq_iff_iff.2; simp; omega
    clear hm hd
    go_enter Try.func15, Try.ntmps15
    go_wp2_with ((with_reducible refine (small_any r true (bx1 w r).heap.size _ HS.out hml (Nat.le_refl _) HSS.out).mono ?_); rintro e w1 ⟨rfl, hb1⟩; clear x0 x1 x2 x3 x4; obtain ⟨x0, x1, x2, x3, x4⟩ := nv5 ((hb1.block w.heap.size (by simp)).trans HX.out); have HB1 := Lib.hid ((bx1_below w r).trans (hb1.mono (by simp))); clear hb1)
    go_ret
    exact ⟨by rw [HM.out]; rfl, HB1.out⟩
end Go.Proofs.Ytbpagfddofbjbaa
