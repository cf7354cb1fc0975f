/-
  Contracts of doppellaw07's Small, Few and Result.
  doppellaw10's few; a function to be read.
  doppellaw10's awake.
-/
import Derived.Test.YtgnpbodhjmappaaQND
import Derived.Test.YtgnpbodhjmappaaQMI
import Derived.Test.YtgnpbodhjmappaaQMJ
import Derived.Test.YtgnpbodhjmappaaQLQ
import Derived.Test.YtgnpbodhjmappaaQLG
import Derived.BigQuiet
namespace Go.Proofs.Ytgnpbodhjmappaa
set_option maxRecDepth 100000
open Go.RowKit Cd
set_option linter.unusedVariables false
set_option linter.unusedSimpArgs false

/-- May a function be gone through? -/
def Cd.smallB (f : Fnc) : Bool := decide (f.name.length ≤ 50) && decide (f.code.length ≤ 60) && !(decide (40 < f.regs) && decide (f.regs ≤ 4096)) && f.code.all (fun i => decide (i.text.length ≤ 50))
def Cd.fewB (u : Uni) : Bool := decide (u.funcs.length ≤ 6) && decide (u.globals.length ≤ 10) && u.funcs.all smallB && u.globals.all (fun g => decide (g.name.length ≤ 50))
theorem all_noT {α : Type} {p : α → Bool} {l : List α} {k : Nat} {x : α} (h : l[k]? = some x) (hp : p x = false) : l.all p = false := by
  rw [List.all_eq_false]; exact ⟨x, List.mem_of_getElem? h, by simp [hp]⟩
theorem all_yesT {α : Type} {p : α → Bool} {l : List α} {k : Nat} {x : α} (ha : (l.take k).all p = true) (h : l[k]? = some x) (hp : p x = true) : (l.take (k + 1)).all p = true := by
  obtain ⟨hk, hx⟩ := List.getElem?_eq_some_iff.1 h
  rw [List.take_succ_eq_append_getElem hk, hx, List.all_append, ha]; simp [hp]
set_option maxHeartbeats 4000000 in
theorem small_w (name : List UInt8) (params regs frame : Int) (code : List Ins) (ca : Option Addr) (cc : Nat) (m : Bool) (B : Nat) (w : World) (hc : CodeAt w B ⟨⟨name, params, regs, frame, code⟩, ca, cc⟩) (hml : code.length ≤ 2 ^ 63 - 1) (hBw : B ≤ w.heap.size) (hm : smallB ⟨name, params, regs, frame, code⟩ = m) (y0 : name.length ≤ 50) (y1 : code.length ≤ 60) (y2 : ¬ 40 < regs ∨ ¬ regs ≤ 4096) :
    Calls Try.prog 24 #[fnV ⟨⟨name, params, regs, frame, code⟩, ca, cc⟩] w (RPost (.bool m) w) := by
  have HC := Lib.hid hc; clear hc
  have HM := Lib.hid (show code.all (fun i => decide (i.text.length ≤ 50)) = m by rw [← hm]; unfold smallB; rw [decide_eq_true (show (Fnc.name ⟨name, params, regs, frame, code⟩).length ≤ 50 from y0), decide_eq_true (show (Fnc.code ⟨name, params, regs, frame, code⟩).length ≤ 60 from y1)]; rcases y2 with y2 | y2; rw [decide_eq_false (show ¬ 40 < (Fnc.regs ⟨name, params, regs, frame, code⟩) from y2)]; simp; rw [decide_eq_false (show ¬ (Fnc.regs ⟨name, params, regs, frame, code⟩) ≤ 4096 from y2)]; simp)
  clear hm
  have t0 : decide ((name.length : Int) > (50 : Int)) = false := by simp <;> omega
  have t0' : decide ((50 : Int) < (name.length : Int)) = false := by simp <;> omega
  have t1 : decide ((code.length : Int) > (60 : Int)) = false := by simp <;> omega
  have t1' : decide ((60 : Int) < (code.length : Int)) = false := by simp <;> omega
  by_cases y3 : 40 < regs
  rotate_left
  · have t2 : decide (regs > (40 : Int)) = false := by simp <;> omega
    have t2' : decide ((40 : Int) < regs) = false := by simp <;> omega
    go_enter Try.func24, Try.ntmps24
    go_wp2
    go_loopw [28] (fun s28 wr => ∃ k : Nat, k ≤ code.length ∧ s28 = .int .i64 k ∧ Hid (Below w.heap.size w wr) ∧ Hid ((code.take k).all (fun i => decide (i.text.length ≤ 50)) = true)) (fun i wr => code.length - (intOf i).toNat)
    case atStart => exact ⟨0, by omega, rfl, Lib.hid ((Below.refl _ _).alloc (Nat.le_refl _) _), Lib.hid (by simp)⟩
    case round =>
      obtain ⟨k, hk, rfl, HB, HA⟩ := hrel
      by_cases hlt : k < code.length
      · obtain ⟨x, hx⟩ : ∃ x, code[k]? = some x := ⟨_, List.getElem?_eq_getElem hlt⟩
        have HC2 := Lib.hid (HC.out.below (HB.out.mono hBw))
        obtain ⟨b, off, hca, hb, hBw2, q0, q1, q2, q3, q4, q5, q6, q7, q8, q9, q10, q11, q12, q13, q14⟩ := HC2.out.cells hx
        simp only at hca
        subst hca
        have HX := Lib.hid hx; clear hx
        have p0 : (0 : Int) ≤ (k : Int) := Int.natCast_nonneg _
        have p1 : (k : Int) < (code.length : Int) := by omega
        have HB2 := Lib.hid (HB.out.alloc HB.out.size (inO x))
        by_cases z0 : x.text.length ≤ 50
        · have u0 : decide ((x.text.length : Int) > (50 : Int)) = false := by simp <;> omega
          have u1 : decide ((50 : Int) < (x.text.length : Int)) = false := by simp <;> omega
          have HA2 := Lib.hid (all_yesT HA.out HX.out (by simpa using z0))
          go_wp2
          go_roundw
          case rel => exact ⟨k + 1, by omega, by go_num, HB2, HA2⟩
          case measure => simp [intOf]; omega
        · have u0 : decide ((x.text.length : Int) > (50 : Int)) = true := by simp <;> omega
          have u1 : decide ((50 : Int) < (x.text.length : Int)) = true := by simp <;> omega
          have E := Lib.hid (show m = false by rw [← HM.out]; exact all_noT HX.out (by simpa using z0))
          go_wp2
          go_ret
          exact ⟨by rw [E.out]; rfl, HB2.out⟩
      · obtain rfl : k = code.length := by omega
        have E := Lib.hid (show m = true by rw [← HM.out]; have := HA.out; rwa [List.take_length] at this)
        go_wp2
        go_ret
        exact ⟨by rw [E.out]; rfl, HB.out⟩
  · have t2 : decide (regs > (40 : Int)) = true := by simp <;> omega
    have t2' : decide ((40 : Int) < regs) = true := by simp <;> omega
    have t3 : decide (regs ≤ (4096 : Int)) = false := by simp <;> omega
    go_enter Try.func24, Try.ntmps24
    go_wp2
    go_loopw [28] (fun s28 wr => ∃ k : Nat, k ≤ code.length ∧ s28 = .int .i64 k ∧ Hid (Below w.heap.size w wr) ∧ Hid ((code.take k).all (fun i => decide (i.text.length ≤ 50)) = true)) (fun i wr => code.length - (intOf i).toNat)
    case atStart => exact ⟨0, by omega, rfl, Lib.hid ((Below.refl _ _).alloc (Nat.le_refl _) _), Lib.hid (by simp)⟩
    case round =>
      obtain ⟨k, hk, rfl, HB, HA⟩ := hrel
      by_cases hlt : k < code.length
      · obtain ⟨x, hx⟩ : ∃ x, code[k]? = some x := ⟨_, List.getElem?_eq_getElem hlt⟩
        have HC2 := Lib.hid (HC.out.below (HB.out.mono hBw))
        obtain ⟨b, off, hca, hb, hBw2, q0, q1, q2, q3, q4, q5, q6, q7, q8, q9, q10, q11, q12, q13, q14⟩ := HC2.out.cells hx
        simp only at hca
        subst hca
        have HX := Lib.hid hx; clear hx
        have p0 : (0 : Int) ≤ (k : Int) := Int.natCast_nonneg _
        have p1 : (k : Int) < (code.length : Int) := by omega
        have HB2 := Lib.hid (HB.out.alloc HB.out.size (inO x))
        by_cases z0 : x.text.length ≤ 50
        · have u0 : decide ((x.text.length : Int) > (50 : Int)) = false := by simp <;> omega
          have u1 : decide ((50 : Int) < (x.text.length : Int)) = false := by simp <;> omega
          have HA2 := Lib.hid (all_yesT HA.out HX.out (by simpa using z0))
          go_wp2
          go_roundw
          case rel => exact ⟨k + 1, by omega, by go_num, HB2, HA2⟩
          case measure => simp [intOf]; omega
        · have u0 : decide ((x.text.length : Int) > (50 : Int)) = true := by simp <;> omega
          have u1 : decide ((50 : Int) < (x.text.length : Int)) = true := by simp <;> omega
          have E := Lib.hid (show m = false by rw [← HM.out]; exact all_noT HX.out (by simpa using z0))
          go_wp2
          go_ret
          exact ⟨by rw [E.out]; rfl, HB2.out⟩
      · obtain rfl : k = code.length := by omega
        have E := Lib.hid (show m = true by rw [← HM.out]; have := HA.out; rwa [List.take_length] at this)
        go_wp2
        go_ret
        exact ⟨by rw [E.out]; rfl, HB.out⟩
set_option maxHeartbeats 4000000 in
theorem small_v (name : List UInt8) (params regs frame : Int) (code : List Ins) (ca : Option Addr) (cc : Nat) (m : Bool) (B : Nat) (w : World) (hc : CodeAt w B ⟨⟨name, params, regs, frame, code⟩, ca, cc⟩) (hml : code.length ≤ maxLen) (hBw : B ≤ w.heap.size) (hm : smallB ⟨name, params, regs, frame, code⟩ = m) :
    Calls Try.prog 24 #[fnV ⟨⟨name, params, regs, frame, code⟩, ca, cc⟩] w (RPost (.bool m) w) := by
  unfold maxLen at hml
  have HC := Lib.hid hc; clear hc
  have HM := Lib.hid hm; clear hm
  by_cases y0 : name.length ≤ 50
  rotate_left
  · have t0 : decide ((name.length : Int) > (50 : Int)) = true := by simp <;> omega
    have t0' : decide ((50 : Int) < (name.length : Int)) = true := by simp <;> omega
    have E := Lib.hid (show m = false by rw [← HM.out]; unfold smallB; rw [decide_eq_false y0]; rfl)
    go_enter Try.func24, Try.ntmps24
    go_wp2
    go_ret
    exact ⟨by rw [E.out]; rfl, (Below.refl _ _).alloc (Nat.le_refl _) _⟩
  have t0 : decide ((name.length : Int) > (50 : Int)) = false := by simp <;> omega
  have t0' : decide ((50 : Int) < (name.length : Int)) = false := by simp <;> omega
  by_cases y1 : code.length ≤ 60
  rotate_left
  · have t1 : decide ((code.length : Int) > (60 : Int)) = true := by simp <;> omega
    have t1' : decide ((60 : Int) < (code.length : Int)) = true := by simp <;> omega
    have E := Lib.hid (show m = false by rw [← HM.out]; unfold smallB; rw [decide_eq_false y1]; simp)
    go_enter Try.func24, Try.ntmps24
    go_wp2
    go_ret
    exact ⟨by rw [E.out]; rfl, (Below.refl _ _).alloc (Nat.le_refl _) _⟩
  have t1 : decide ((code.length : Int) > (60 : Int)) = false := by simp <;> omega
  have t1' : decide ((60 : Int) < (code.length : Int)) = false := by simp <;> omega
  by_cases y2 : 40 < regs
  · have t2 : decide (regs > (40 : Int)) = true := by simp <;> omega
    have t2' : decide ((40 : Int) < regs) = true := by simp <;> omega
    by_cases y3 : regs ≤ 4096
    · have t3 : decide (regs ≤ (4096 : Int)) = true := by simp <;> omega
      have E := Lib.hid (show m = false by rw [← HM.out]; unfold smallB; rw [decide_eq_true (show 40 < (Fnc.regs ⟨name, params, regs, frame, code⟩) from y2), decide_eq_true (show (Fnc.regs ⟨name, params, regs, frame, code⟩) ≤ 4096 from y3)]; simp)
      go_enter Try.func24, Try.ntmps24
      go_wp2
      go_ret
      exact ⟨by rw [E.out]; rfl, (Below.refl _ _).alloc (Nat.le_refl _) _⟩
    · have t3 : decide (regs ≤ (4096 : Int)) = false := by simp <;> omega
      exact small_w name params regs frame code ca cc m B w HC.out hml hBw HM.out y0 y1 (.inr y3)
  · exact small_w name params regs frame code ca cc m B w HC.out hml hBw HM.out y0 y1 (.inl y2)
theorem small_any (r : FnR) (m : Bool) (B : Nat) (w : World) (hc : CodeAt w B r) (hml : r.f.code.length ≤ maxLen) (hBw : B ≤ w.heap.size) (hm : smallB r.f = m) :
    Calls Try.prog 24 #[fnV r] w (RPost (.bool m) w) := small_v r.f.name r.f.params r.f.regs r.f.frame r.f.code r.ca r.cc m B w hc hml hBw hm
end Go.Proofs.Ytgnpbodhjmappaa
namespace Go.Proofs.Ytgnpbodhjmappaa
set_option maxRecDepth 100000
open Go.RowKit Cd
set_option linter.unusedVariables false
set_option linter.unusedSimpArgs false

theorem box_lv (w : World) (r : FnR) : Below w.heap.size w (w.alloc (fnO r)) := (Below.refl w.heap.size w).alloc (Nat.le_refl _) _
/-- A function, to be read. -/
structure LvK (w : World) (r : FnR) : Prop where
  code : CodeAt w w.heap.size r
  len : r.f.code.length ≤ maxLen
theorem LvK.below {w w' : World} {r : FnR} (h : LvK w r) (hb : Below w.heap.size w w') : LvK w' r := ⟨code_up (h.code.below hb) hb.size, h.len⟩
def Cd.few10 (f : Fnc) : Bool := smallB f && decide (f.code.length ≤ 25)
set_option maxHeartbeats 2000000 in
theorem few10_c (r : FnR) (w : World) (h : LvK w r) (m : Bool) (hm : few10 r.f = m) : Calls Try.prog 11 #[fnV r] w (RPost (.bool m) w) := by
  have hs1 := (h.below (box_lv w r)).code
  have HS := Lib.hid hs1
  have hml := h.len
  have HX := Lib.hid (heap_alloc_new w (fnO r))
  obtain ⟨x0, x1, x2, x3, x4⟩ := nv5 HX.out
  obtain ⟨s, hs⟩ : ∃ s, smallB r.f = s := ⟨_, rfl⟩
  have HSS := Lib.hid hs
  unfold few10 at hm
  rw [hs] at hm
  clear hs1 hs h
  cases s with
  | false =>
    have HM : Hid (m = false) := Lib.hid (by rw [← hm]; rfl)
    clear hm
    go_enter Try.func11, Try.ntmps11
    go_wp2_with ((with_reducible refine (small_any r false (w.alloc (fnO r)).heap.size _ HS.out hml (Nat.le_refl _) HSS.out).mono ?_); rintro e w1 ⟨rfl, hb1⟩; have HB1 := Lib.hid ((box_lv w r).trans (hb1.mono (by simp))); clear hb1)
    go_ret
    exact ⟨by rw [HM.out]; rfl, HB1.out⟩
  | true =>
    obtain ⟨d, hd⟩ : ∃ d, decide (r.f.code.length ≤ 25) = d := ⟨_, rfl⟩
    have HM : Hid (m = d) := Lib.hid (by rw [← hm, hd]; rfl)
    have t0 : decide ((r.f.code.length : Int) ≤ 25) = d := by rw [← hd]; apply Bool.eq_iff_iff.2; simp; omega
    clear hm hd
    go_enter Try.func11, Try.ntmps11
    go_wp2_with ((with_reducible refine (small_any r true (w.alloc (fnO r)).heap.size _ HS.out hml (Nat.le_refl _) HSS.out).mono ?_); rintro e w1 ⟨rfl, hb1⟩; clear x0 x1 x2 x3 x4; obtain ⟨x0, x1, x2, x3, x4⟩ := nv5 ((hb1.block w.heap.size (by simp)).trans HX.out); have HB1 := Lib.hid ((box_lv w r).trans (hb1.mono (by simp))); clear hb1)
    go_ret
    exact ⟨by rw [HM.out]; rfl, HB1.out⟩

end Go.Proofs.Ytgnpbodhjmappaa
namespace Go.Proofs.Ytgnpbodhjmappaa
set_option maxRecDepth 100000
open Go.RowKit Cd
set_option linter.unusedVariables false
set_option linter.unusedSimpArgs false

abbrev Cd.lwC : List Ins := [⟨1, 0, 0, 0, 0, 0, [], 0, 0, 0, 0, 0, 0, 0, -1⟩, ⟨1, 0, 1, 0, 0, 0, [], 0, 0, 0, 0, 0, 0, 0, -1⟩, ⟨13, 0, -1, 1, 0, 0, [], 0, 0, 0, 0, 0, 0, 0, -1⟩]
abbrev Cd.lwF : Fnc := ⟨[102], 0, 2, 0, lwC⟩
theorem lw_right : RightF lwF := rightF_iff.1 (by decide +kernel)
theorem lw_dead : deadF lwC = [0] := by decide +kernel
theorem lw_call (W : World) (g : Nat) (h : W.heap[g]? = some (.cells (lwC.flatMap inCells).toArray 46)) : Calls Try.prog 16 #[.agg #[.string ⟨#[102]⟩, .int .i64 0, .int .i64 2, .int .i64 0, .slice (some ⟨g, 0, none⟩) 3 3]] W
    (fun e w' => ∃ dg dc, e = .returned (.slice (some ⟨dg, 0, none⟩) 1 dc) ∧ w'.cell? ⟨dg, 0, none⟩ = some (.int .i64 0) ∧ W.heap.size ≤ dg ∧ dg < w'.heap.size ∧ Below W.heap.size W w') := by
  have hd := dead_yes ⟨lwF, some ⟨g, 0, none⟩, 3⟩ W (fun _ => ⟨g, 0, rfl, lt_heap h, Nat.le_refl _, fun j u hu => by rw [Nat.zero_add, cell_of_row W g _ _ _ _ h]; simpa using hu⟩) (by show 3 ≤ maxLen; unfold maxLen; omega) lw_right
  refine Calls.mono hd ?_
  rintro e w' ⟨v, rfl, ho, hb⟩
  have hl : deadF lwF.code = [0] := lw_dead
  rw [hl] at ho
  rcases ho.2 with ⟨_, h5⟩ | ⟨dg, cap, cur, rfl, h6, h7, h8, h9, h10, h11⟩
  · cases h5
  · refine ⟨dg, cap, rfl, ?_, h6, lt_heap h7, hb⟩
    rw [cell_of_row w' dg _ _ _ _ h7]
    have h12 : cur.toList.take 1 = [.int .i64 0] := h11
    have h13 : cur.toList[0]? = some (.int .i64 0) := by
      have := congrArg (fun l => l[0]?) h12
      simpa using this
    simpa using h13
theorem lw_new (X : World) (n : Nat) (hn : n = X.heap.size) (o : Obj) (ho : o = .cells (lwC.flatMap inCells).toArray 46) : (X.alloc o).heap[n]? = some (.cells (lwC.flatMap inCells).toArray 46) := by
  subst hn ho; exact heap_alloc_new X _
set_option maxHeartbeats 8000000 in
theorem awake10_any (w : World) : Calls Try.prog 12 #[] w (RPost (.bool true) w) := by
  go_enter Try.func12, Try.ntmps12
  go_wp2_with (first | ((with_reducible refine (cplain_any 13 _).mono ?_); rintro e w3 ⟨rfl, hb3⟩; have HB3 := Lib.hid (HB2.out.trans (hb3.mono HB2.out.size)); clear hb3) | ((with_reducible refine (cplain_any 1 w).mono ?_); rintro e w1 ⟨rfl, hb1⟩; have HB1 := Lib.hid hb1; clear hb1) | ((with_reducible refine (cplain_any 1 _).mono ?_); rintro e w2 ⟨rfl, hb2⟩; have HB2 := Lib.hid (HB1.out.trans (hb2.mono HB1.out.size)); clear hb2))
  have h3 : w.heap.size ≤ w3.heap.size := HB3.out.size
  have HPC : Hid (∀ w, Calls Try.prog 33 #[inV ⟨1, 0, 0, 0, 0, 0, [], 0, 0, 0, 0, 0, 0, 0, -1⟩] w (RPost (.bool true) w)) := Lib.hid (fun w => (show pureI ⟨1, 0, 0, 0, 0, 0, [], 0, 0, 0, 0, 0, 0, 0, -1⟩ = true by decide) ▸ lpure_any ⟨1, 0, 0, 0, 0, 0, [], 0, 0, 0, 0, 0, 0, 0, -1⟩ w)
  refine (lw_call _ _ (lw_new _ _ (by simp) _ rfl)).mono ?_
  rintro e w5 ⟨dg, dc, rfl, hc, hdg, hdl, hb5⟩
  have hba : w5.heap[w3.heap.size]? = some (inO ⟨1, 0, 0, 0, 0, 0, [], 0, 0, 0, 0, 0, 0, 0, -1⟩) := (hb5.block _ (by simp <;> omega)).trans ((Below.heap_alloc _ _ _ (by simp <;> omega)).trans ((Below.heap_alloc _ _ _ (by simp <;> omega)).trans ((Below.heap_alloc _ _ _ (by simp)).trans (heap_alloc_new w3 _))))
  have HB5 : Hid (Below w.heap.size w w5) := Lib.hid (HB3.out.trans ((((((Below.refl w3.heap.size w3).alloc (Nat.le_refl _) _).alloc (by simp) _).alloc (by simp <;> omega) _).alloc (by simp <;> omega) _).trans (hb5.mono (by simp <;> omega)) |>.mono h3))
  obtain ⟨d0, d1, d2, d3, d4, d5, d6, d7, d8, d9, d10, d11, d12, d13, d14⟩ := nv15 hba
  have hbl := lt_heap hba
  clear hb5 hba
  go_wp2_with ((with_reducible refine (HPC.out _).mono ?_); rintro e w6 ⟨rfl, hb6⟩; have HB6 := Lib.hid (HB5.out.trans (hb6.mono HB5.out.size)); clear hb6)
  go_ret
  exact ⟨rfl, HB6.out⟩
end Go.Proofs.Ytgnpbodhjmappaa
