/-
  doppelref07's Run: what is not run.
-/
import Derived.Test.YtgnpbodhjmappaaPNF
import Derived.Test.YtgnpbodhjmappaaPLA
import Derived.Deep.RegionHeld3
import Derived.Deep.LoopGhost
import Derived.Maps.AppendAt
import Derived.ChangeKeysEq
import Derived.Laws.Slices
set_option linter.unusedVariables false
set_option linter.unusedSimpArgs false
namespace Go.Proofs.Ytgnpbodhjmappaa
set_option maxRecDepth 100000
open Go.RowKit Cd
theorem findI_neg {fs : List Fnc} {s : List UInt8} (h : findN fs s = none) : findI fs s = -1 := by unfold findI; rw [h]
theorem findI_at {fs : List Fnc} {s : List UInt8} {k : Nat} (h : findN fs s = some k) : findI fs s = k := by unfold findI; rw [h]
theorem right_b (U : UnR) (B : Nat) (b : Bool) (w : World) (hU : UnAt w B U) (hBw : B ≤ w.heap.size) (h : rightU U.un = b) :
    Calls Try.prog 19 #[unV U] w (RPost (.bool b) w) := by
  obtain ⟨fs, fa, fc, gs, ga, gc, top⟩ := U
  exact h ▸ right_v fs fa fc gs ga gc top B w hU hBw
abbrev resO : Obj := .cells #[.int .i64 0, .int .i64 0, .slice none 0 0] 74
theorem frozen3 {w : World} {b : Nat} {cs : Array Value} {t : TypeId} (h : w.heap[b]? = some (.cells cs t (0, 0))) : w.frozen? ⟨b, 0, none⟩ = false ∧ w.frozen? ⟨b, 1, none⟩ = false ∧ w.frozen? ⟨b, 2, none⟩ = false := by
  refine ⟨?_, ?_, ?_⟩ <;> simp [World.frozen?, h]
theorem find_main (U : UnR) (B : Nat) (m : Int) (w : World) (hU : UnAt w B U) (h : findI U.un.funcs wMain = m) :
    Calls Try.prog 29 #[unV U, .string ⟨#[109, 97, 105, 110]⟩] w (RPost (.int .i64 m) w) := find_v U wMain B m w hU h
set_option maxHeartbeats 4000000 in
set_option maxRecDepth 100000 in
theorem run_wrong (U : UnR) (ia : Option Addr) (il ic : Nat) (fuel : Int) (B : Nat) (w : World) (hU : UnAt w B U) (hBw : B ≤ w.heap.size) (m : Int) (hm : findI U.un.funcs wMain = m) (hr : rightU U.un = false) :
    Calls Try.prog 46 #[unV U, .slice ia il ic, .int .i64 fuel] w (RPost (.agg #[.int .i64 4, .int .i64 0, .slice none 0 0]) w) := by
  have HU := Lib.hid hU; clear hU
  have HM := Lib.hid hm; clear hm
  have HR := Lib.hid hr; clear hr
  have HA := Lib.hid (((Below.refl B w).alloc hBw (unO U)).alloc (by simp <;> omega) resO)
  have HA2 := Lib.hid (((Below.refl w.heap.size w).alloc (Nat.le_refl _) (unO U)).alloc (by simp) resO)
  have HQ2 := Lib.hid (show ((w.alloc (unO U)).alloc resO).heap[w.heap.size + 1]? = some resO by have := heap_alloc_new (w.alloc (unO U)) resO; simpa using this)
  have HQ := Lib.hid ((Below.heap_alloc (w.alloc (unO U)) resO w.heap.size (by simp)).trans (heap_alloc_new w (unO U)))
  go_enter Try.func46, Try.ntmps46
  go_wp2_with (first | ((with_reducible refine (find_main U B m _ (HU.out.below HA.out) HM.out).mono ?_); rintro e v3 ⟨rfl, hb3⟩; have G0 : Hid (v3.heap[w.heap.size]? = some (unO U)) := Lib.hid ((hb3.block w.heap.size (by simp <;> omega)).trans HQ.out); have GR3 : Hid (v3.heap[w.heap.size + 1]? = some resO) := Lib.hid ((hb3.block _ (lt_heap HQ2.out)).trans HQ2.out); obtain ⟨d0, d1, d2⟩ := nv3 G0.out; have HB3 : Hid (Below w.heap.size w v3) := Lib.hid (HA2.out.trans (hb3.mono HA2.out.size))) | ((with_reducible refine (right_b U B false v3 (HU.out.below (HB3.out.mono hBw)) (Nat.le_trans hBw HB3.out.size) HR.out).mono ?_); rintro e v4 ⟨rfl, hb4⟩; have G1 : Hid (v4.heap[w.heap.size]? = some (unO U)) := Lib.hid ((hb4.block _ (lt_heap G0.out)).trans G0.out); have GR : Hid (v4.heap[w.heap.size + 1]? = some resO) := Lib.hid ((hb4.block _ (lt_heap GR3.out)).trans GR3.out); obtain ⟨r0, r1, r2⟩ := nv3 GR.out; obtain ⟨z0, z1, z2⟩ := frozen3 GR.out; have HB4 : Hid (Below w.heap.size w v4) := Lib.hid (HB3.out.trans (hb4.mono HB3.out.size)); clear d0 d1 d2; obtain ⟨d0, d1, d2⟩ := nv3 G1.out))
  exact bodyPost_ret (v := .agg #[.int .i64 4, .int .i64 0, .slice none 0 0]) (by simp [results, Try.results46, go_sem, r0, r1, r2] <;> rfl) rfl ⟨rfl, ((HB4.out.setCell (by simp) _).setCell (by simp) _).setCell (by simp) _⟩
set_option maxHeartbeats 4000000 in
set_option maxRecDepth 100000 in
theorem run_nomain (U : UnR) (ia : Option Addr) (il ic : Nat) (fuel : Int) (B : Nat) (w : World) (hU : UnAt w B U) (hBw : B ≤ w.heap.size) (m : Int) (hm : findI U.un.funcs wMain = m) (hneg : m < 0) (hr : rightU U.un = true) :
    Calls Try.prog 46 #[unV U, .slice ia il ic, .int .i64 fuel] w (RPost (.agg #[.int .i64 4, .int .i64 0, .slice none 0 0]) w) := by
  have HU := Lib.hid hU; clear hU
  have HM := Lib.hid hm; clear hm
  have HR := Lib.hid hr; clear hr
  have t0 : decide (m < (0 : Int)) = true := by simp <;> omega
  have HA := Lib.hid (((Below.refl B w).alloc hBw (unO U)).alloc (by simp <;> omega) resO)
  have HA2 := Lib.hid (((Below.refl w.heap.size w).alloc (Nat.le_refl _) (unO U)).alloc (by simp) resO)
  have HQ2 := Lib.hid (show ((w.alloc (unO U)).alloc resO).heap[w.heap.size + 1]? = some resO by have := heap_alloc_new (w.alloc (unO U)) resO; simpa using this)
  have HQ := Lib.hid ((Below.heap_alloc (w.alloc (unO U)) resO w.heap.size (by simp)).trans (heap_alloc_new w (unO U)))
  go_enter Try.func46, Try.ntmps46
  go_wp2_with (first | ((with_reducible refine (find_main U B m _ (HU.out.below HA.out) HM.out).mono ?_); rintro e v3 ⟨rfl, hb3⟩; have G0 : Hid (v3.heap[w.heap.size]? = some (unO U)) := Lib.hid ((hb3.block w.heap.size (by simp <;> omega)).trans HQ.out); have GR3 : Hid (v3.heap[w.heap.size + 1]? = some resO) := Lib.hid ((hb3.block _ (lt_heap HQ2.out)).trans HQ2.out); obtain ⟨d0, d1, d2⟩ := nv3 G0.out; have HB3 : Hid (Below w.heap.size w v3) := Lib.hid (HA2.out.trans (hb3.mono HA2.out.size))) | ((with_reducible refine (right_b U B true v3 (HU.out.below (HB3.out.mono hBw)) (Nat.le_trans hBw HB3.out.size) HR.out).mono ?_); rintro e v4 ⟨rfl, hb4⟩; have G1 : Hid (v4.heap[w.heap.size]? = some (unO U)) := Lib.hid ((hb4.block _ (lt_heap G0.out)).trans G0.out); have GR : Hid (v4.heap[w.heap.size + 1]? = some resO) := Lib.hid ((hb4.block _ (lt_heap GR3.out)).trans GR3.out); obtain ⟨r0, r1, r2⟩ := nv3 GR.out; obtain ⟨z0, z1, z2⟩ := frozen3 GR.out; have HB4 : Hid (Below w.heap.size w v4) := Lib.hid (HB3.out.trans (hb4.mono HB3.out.size)); clear d0 d1 d2; obtain ⟨d0, d1, d2⟩ := nv3 G1.out))
  exact bodyPost_ret (v := .agg #[.int .i64 4, .int .i64 0, .slice none 0 0]) (by simp [results, Try.results46, go_sem, r0, r1, r2] <;> rfl) rfl ⟨rfl, ((HB4.out.setCell (by simp) _).setCell (by simp) _).setCell (by simp) _⟩
set_option maxHeartbeats 4000000 in
set_option maxRecDepth 100000 in
theorem run_params (U : UnR) (ia : Option Addr) (il ic : Nat) (fuel : Int) (B : Nat) (w : World) (hU : UnAt w B U) (hBw : B ≤ w.heap.size) (m : Nat) (hm : findI U.un.funcs wMain = m) (r : FnR) (hfn : U.fs[m]? = some r) (hpar : r.f.params > 0) (hr : rightU U.un = true) :
    Calls Try.prog 46 #[unV U, .slice ia il ic, .int .i64 fuel] w (RPost (.agg #[.int .i64 4, .int .i64 0, .slice none 0 0]) w) := by
  have HU := Lib.hid hU; clear hU
  have HM := Lib.hid hm; clear hm
  have HR := Lib.hid hr; clear hr
  have t0 : decide ((m : Int) < (0 : Int)) = false := by simp <;> omega
  have t1 : decide (r.f.params > (0 : Int)) = true := by simp <;> omega
  have t1' : decide ((0 : Int) < r.f.params) = true := by simp <;> omega
  have p0 : (0 : Int) ≤ (m : Int) := Int.natCast_nonneg _
  have p1 : (m : Int) < (U.fs.length : Int) := by have := (List.getElem?_eq_some_iff.1 hfn).1; omega
  have HFN := Lib.hid hfn; clear hfn
  have HA := Lib.hid (((Below.refl B w).alloc hBw (unO U)).alloc (by simp <;> omega) resO)
  have HA2 := Lib.hid (((Below.refl w.heap.size w).alloc (Nat.le_refl _) (unO U)).alloc (by simp) resO)
  have HQ2 := Lib.hid (show ((w.alloc (unO U)).alloc resO).heap[w.heap.size + 1]? = some resO by have := heap_alloc_new (w.alloc (unO U)) resO; simpa using this)
  have HQ := Lib.hid ((Below.heap_alloc (w.alloc (unO U)) resO w.heap.size (by simp)).trans (heap_alloc_new w (unO U)))
  go_enter Try.func46, Try.ntmps46
  go_wp2_with (first | ((with_reducible refine (find_main U B (m : Int) _ (HU.out.below HA.out) HM.out).mono ?_); rintro e v3 ⟨rfl, hb3⟩; have G0 : Hid (v3.heap[w.heap.size]? = some (unO U)) := Lib.hid ((hb3.block w.heap.size (by simp <;> omega)).trans HQ.out); have GR3 : Hid (v3.heap[w.heap.size + 1]? = some resO) := Lib.hid ((hb3.block _ (lt_heap HQ2.out)).trans HQ2.out); obtain ⟨d0, d1, d2⟩ := nv3 G0.out; have HB3 : Hid (Below w.heap.size w v3) := Lib.hid (HA2.out.trans (hb3.mono HA2.out.size))) | ((with_reducible refine (right_b U B true v3 (HU.out.below (HB3.out.mono hBw)) (Nat.le_trans hBw HB3.out.size) HR.out).mono ?_); rintro e v4 ⟨rfl, hb4⟩; have G1 : Hid (v4.heap[w.heap.size]? = some (unO U)) := Lib.hid ((hb4.block _ (lt_heap G0.out)).trans G0.out); have GR : Hid (v4.heap[w.heap.size + 1]? = some resO) := Lib.hid ((hb4.block _ (lt_heap GR3.out)).trans GR3.out); obtain ⟨b, off, hfa, hb, hbw, c0, c1, c2, c3, c4⟩ := (HU.out.below (HB3.out.mono hBw)).fn HFN.out; clear c0 c2 c3 c4; replace c1 := (hb4.cell (p := ⟨b, off + m * 5 + 1, none⟩) (by show b < v3.heap.size; omega)).trans c1; obtain ⟨r0, r1, r2⟩ := nv3 GR.out; obtain ⟨z0, z1, z2⟩ := frozen3 GR.out; have HB4 : Hid (Below w.heap.size w v4) := Lib.hid (HB3.out.trans (hb4.mono HB3.out.size)); clear d0 d1 d2; obtain ⟨d0, d1, d2⟩ := nv3 G1.out))
  exact bodyPost_ret (v := .agg #[.int .i64 4, .int .i64 0, .slice none 0 0]) (by simp [results, Try.results46, go_sem, r0, r1, r2] <;> rfl) rfl ⟨rfl, ((HB4.out.setCell (by simp) _).setCell (by simp) _).setCell (by simp) _⟩
end Go.Proofs.Ytgnpbodhjmappaa
namespace Go.Proofs.Ytgnpbodhjmappaa
set_option maxRecDepth 100000
open Go.RowKit Cd
def memO (mem : List Int) : Obj := .cells (mem.map (Value.int .i64)).toArray 3
theorem made_zero (n : Nat) : madeCells #[Value.int .i64 0] n = ((List.replicate n (0 : Int)).map (Value.int .i64)).toArray := by
  apply Array.ext
  · simp [madeCells]
  · intro i h1 h2
    simp [madeCells, Nat.mod_one]
theorem make_mem (w : World) : (Instr.makeSlice 30 (.int .i64 4096) (.int .i64 4096)).run Try.prog w = .ok (.slice (some ⟨w.heap.size, 0, none⟩) 4096 4096) (w.alloc (memO (List.replicate 4096 0))) := by
  have hi : ∃ i, Try.prog.info? 3 = some i ∧ i.zero = some (.int .i64 0) ∧ i.size = 1 ∧ i.bytes = 8 := by
    have h := infoInt
    cases hx : Try.prog.info? 3 with
    | none => rw [hx] at h; cases h
    | some i =>
      rw [hx] at h
      simp only [Option.map_some, Option.some.injEq, Prod.mk.injEq] at h
      exact ⟨i, rfl, h.1, h.2.1, h.2.2⟩
  obtain ⟨i, h1, h2, h3, h4⟩ := hi
  have := run_make (P := Try.prog) w 30 3 i (.int .i64 0) (by kernel_rfl) h1 h2 .i64 .i64 4096 4096 (by omega) (by omega) (by rw [h4]; omega) (by omega)
  rw [this, h3]
  unfold memO
  rw [← made_zero 4096]
  rfl
theorem memOf_app : ∀ (a b : List Glo) (m : List Int), memOf (a ++ b) m = memOf b (memOf a m)
  | [], b, m => rfl
  | g :: a, b, m => by
    show memOf (a ++ b) _ = memOf b (memOf a _)
    rw [memOf_app a b]
theorem memOf_len : ∀ (gs : List Glo) (m : List Int), (memOf gs m).length = m.length
  | [], m => rfl
  | g :: gs, m => by unfold memOf; rw [memOf_len gs]; split <;> simp
theorem memOf_yes {gs : List Glo} {k : Nat} {g : Glo} (m : List Int) (h : gs[k]? = some g) (hg : g.pos < 4096) : memOf (gs.take (k + 1)) m = (memOf (gs.take k) m).set g.pos.toNat g.init := by
  obtain ⟨hk, hx⟩ := List.getElem?_eq_some_iff.1 h
  rw [List.take_succ_eq_append_getElem hk, hx, memOf_app]
  show memOf [] _ = _
  rw [if_pos hg]; rfl
theorem memOf_no {gs : List Glo} {k : Nat} {g : Glo} (m : List Int) (h : gs[k]? = some g) (hg : ¬ g.pos < 4096) : memOf (gs.take (k + 1)) m = memOf (gs.take k) m := by
  obtain ⟨hk, hx⟩ := List.getElem?_eq_some_iff.1 h
  rw [List.take_succ_eq_append_getElem hk, hx, memOf_app]
  show memOf [] _ = _
  rw [if_neg hg]; rfl
theorem memO_cell {w : World} {b j : Nat} {m : List Int} (h : w.heap[b]? = some (memO m)) (hj : j < m.length) : (∃ x, w.cell? ⟨b, j, none⟩ = some (.int .i64 x)) ∧ w.frozen? ⟨b, j, none⟩ = false := by
  unfold memO at h
  refine ⟨⟨m[j], ?_⟩, by simp [World.frozen?, h]⟩
  rw [cell_of_row w b _ _ _ _ h]
  simp [hj]
theorem memO_set {w : World} {b : Nat} {m : List Int} (h : w.heap[b]? = some (memO m)) (j : Nat) (x : Int) : (w.setCell ⟨b, j, none⟩ (.int .i64 x)).heap[b]? = some (memO (m.set j x)) := by
  unfold memO at h ⊢
  rw [cells_set h]
  simp [List.map_set]
set_option maxHeartbeats 8000000 in
set_option maxRecDepth 100000 in
theorem run_big (U : UnR) (ia : Option Addr) (il ic : Nat) (fuel : Int) (B : Nat) (w : World) (hU : UnAt w B U) (hBw : B ≤ w.heap.size) (m : Nat) (hm : findI U.un.funcs wMain = m) (r : FnR) (hfn : U.fs[m]? = some r) (hpar : ¬ r.f.params > 0) (hbig : U.top + r.f.frame > 4096) (hr : rightU U.un = true) :
    Calls Try.prog 46 #[unV U, .slice ia il ic, .int .i64 fuel] w (RPost (.agg #[.int .i64 3, .int .i64 0, .slice none 0 0]) w) := by
  have hlg := hU.lg
  unfold maxLen at hlg
  have HU := Lib.hid hU; clear hU
  have HM := Lib.hid hm; clear hm
  have HR := Lib.hid hr; clear hr
  have t0 : decide ((m : Int) < (0 : Int)) = false := by simp <;> omega
  have t1 : decide (r.f.params > (0 : Int)) = false := by simp <;> omega
  have t1' : decide ((0 : Int) < r.f.params) = false := by simp <;> omega
  have p0 : (0 : Int) ≤ (m : Int) := Int.natCast_nonneg _
  have p1 : (m : Int) < (U.fs.length : Int) := by have := (List.getElem?_eq_some_iff.1 hfn).1; omega
  have HFN := Lib.hid hfn; clear hfn
  have hmk := make_mem
  have HA := Lib.hid (((Below.refl B w).alloc hBw (unO U)).alloc (by simp <;> omega) resO)
  have HA2 := Lib.hid (((Below.refl w.heap.size w).alloc (Nat.le_refl _) (unO U)).alloc (by simp) resO)
  have HQ2 := Lib.hid (show ((w.alloc (unO U)).alloc resO).heap[w.heap.size + 1]? = some resO by have := heap_alloc_new (w.alloc (unO U)) resO; simpa using this)
  have HQ := Lib.hid ((Below.heap_alloc (w.alloc (unO U)) resO w.heap.size (by simp)).trans (heap_alloc_new w (unO U)))
  go_enter Try.func46, Try.ntmps46
  go_wp2_with (first | ((with_reducible refine (find_main U B (m : Int) _ (HU.out.below HA.out) HM.out).mono ?_); rintro e v3 ⟨rfl, hb3⟩; have G0 : Hid (v3.heap[w.heap.size]? = some (unO U)) := Lib.hid ((hb3.block w.heap.size (by simp <;> omega)).trans HQ.out); have GR3 : Hid (v3.heap[w.heap.size + 1]? = some resO) := Lib.hid ((hb3.block _ (lt_heap HQ2.out)).trans HQ2.out); obtain ⟨d0, d1, d2⟩ := nv3 G0.out; have HB3 : Hid (Below w.heap.size w v3) := Lib.hid (HA2.out.trans (hb3.mono HA2.out.size))) | ((with_reducible refine (right_b U B true v3 (HU.out.below (HB3.out.mono hBw)) (Nat.le_trans hBw HB3.out.size) HR.out).mono ?_); rintro e v4 ⟨rfl, hb4⟩; have G1 : Hid (v4.heap[w.heap.size]? = some (unO U)) := Lib.hid ((hb4.block _ (lt_heap G0.out)).trans G0.out); have GR : Hid (v4.heap[w.heap.size + 1]? = some resO) := Lib.hid ((hb4.block _ (lt_heap GR3.out)).trans GR3.out); obtain ⟨b, off, hfa, hb, hbw, c0, c1, c2, c3, c4⟩ := (HU.out.below (HB3.out.mono hBw)).fn HFN.out; clear c0 c2 c4; replace c3 := (hb4.cell (p := ⟨b, off + m * 5 + 3, none⟩) (by show b < v3.heap.size; omega)).trans c3; replace c1 := (hb4.cell (p := ⟨b, off + m * 5 + 1, none⟩) (by show b < v3.heap.size; omega)).trans c1; obtain ⟨r0, r1, r2⟩ := nv3 GR.out; obtain ⟨z0, z1, z2⟩ := frozen3 GR.out; have HB4 : Hid (Below w.heap.size w v4) := Lib.hid (HB3.out.trans (hb4.mono HB3.out.size)); clear d0 d1 d2; obtain ⟨d0, d1, d2⟩ := nv3 G1.out))
  have HU4 := Lib.hid (HU.out.below (HB4.out.mono hBw))
  have hq : w.heap.size < v4.heap.size ∧ w.heap.size + 1 < v4.heap.size := ⟨lt_heap G1.out, lt_heap GR.out⟩
  clear d0 d1 d2 r0 r1 r2 z0 z1 z2 c1 c3 hb3 hb4
  go_loopw [9] (fun s9 wr => ∃ k : Nat, k ≤ U.gs.length ∧ s9 = .int .i64 k ∧ Hid (Below w.heap.size w wr) ∧ Hid (wr.heap[w.heap.size]? = some (unO U)) ∧ Hid (wr.heap[w.heap.size + 1]? = some resO) ∧ Hid (wr.heap[v4.heap.size]? = some (memO (memOf (U.gs.take k) (List.replicate 4096 0))))) (fun i wr => U.gs.length - (intOf i).toNat)
  case atStart => exact ⟨0, by omega, rfl, Lib.hid (HB4.out.alloc (by omega) _), Lib.hid ((Below.heap_alloc v4 _ w.heap.size hq.1).trans G1.out), Lib.hid ((Below.heap_alloc v4 _ (w.heap.size + 1) hq.2).trans GR.out), Lib.hid (heap_alloc_new v4 _)⟩
  case round =>
    obtain ⟨k, hk, rfl, HB, HW, HR5, HME⟩ := hrel
    obtain ⟨d0, d1, d2⟩ := nv3 HW.out
    have HU5 := Lib.hid (HU.out.below (HB.out.mono hBw))
    by_cases hlt : k < U.gs.length
    · obtain ⟨g, hg⟩ : ∃ g, U.gs[k]? = some g := ⟨_, List.getElem?_eq_getElem hlt⟩
      obtain ⟨b2, off2, hga, hb2, hBw2, q0, q1, q2, q3⟩ := HU5.out.gl hg
      have HG := Lib.hid hg; clear hg
      rw [hga] at d1; clear hga
      have k0 : (0 : Int) ≤ (k : Int) := Int.natCast_nonneg _
      have k1 : (k : Int) < (U.gs.length : Int) := by omega
      have HGO := Lib.hid (show 1 ≤ g.pos by have := (rightU_iff.1 HR.out).globals g (List.mem_of_getElem? HG.out); unfold globOk at this; simp at this; omega)
      by_cases z0 : g.pos < 4096
      · have u0 : decide (g.pos < (4096 : Int)) = true := by simp <;> omega
        have g0 : (0 : Int) ≤ g.pos := by have := HGO.out; omega
        have g1 : g.pos < (4096 : Int) := z0
        obtain ⟨⟨x0, m0⟩, m1⟩ := memO_cell (j := g.pos.toNat) HME.out (by rw [memOf_len, List.length_replicate]; omega)
        have HST : Hid (Below w.heap.size w (wr.setCell ⟨v4.heap.size, g.pos.toNat, none⟩ (.int .i64 g.init))) := Lib.hid (HB.out.setCell (show w.heap.size ≤ v4.heap.size by omega) _)
        have n1 : ¬ w.heap.size = v4.heap.size := by omega
        have n2 : ¬ b2 = v4.heap.size := by omega
        have n3 : ¬ v4.heap.size = w.heap.size := by omega
        have n4 : ¬ v4.heap.size = b2 := by omega
        go_wp2
        go_region_held3 (fun w' => w'.cell? ⟨w.heap.size, 1, none⟩ = some (.slice (some ⟨b2, off2, none⟩) U.gs.length U.gc) ∧ w'.cell? ⟨b2, off2 + k * 4 + 1, none⟩ = some (.int .i64 g.pos) ∧ w'.cell? ⟨b2, off2 + k * 4 + 3, none⟩ = some (.int .i64 g.init)) (go_keep) (fail)
        all_goals go_wp2
        go_roundw
        case rel => exact ⟨k + 1, by omega, by go_num, Lib.hid (drW HST.out), Lib.hid ((heap_other (by omega)).trans HW.out), Lib.hid ((heap_other (by omega)).trans HR5.out), by rw [memOf_yes _ HG.out z0]; exact Lib.hid (memO_set HME.out _ _)⟩
        case measure => simp [intOf]; omega
      · have u0 : decide (g.pos < (4096 : Int)) = false := by simp <;> omega
        go_wp2
        go_roundw
        case rel => exact ⟨k + 1, by omega, by go_num, HB, HW, HR5, by rw [memOf_no _ HG.out z0]; exact HME⟩
        case measure => simp [intOf]; omega
    · obtain rfl : k = U.gs.length := by omega
      obtain ⟨b', off', hfa', _, _, _, _, _, c3', _⟩ := HU5.out.fn HFN.out
      rw [hfa] at hfa'
      injection hfa' with hfa'
      injection hfa' with e1 e2
      subst e1 e2
      obtain ⟨r0, r1, r2⟩ := nv3 HR5.out
      obtain ⟨z0, z1, z2⟩ := frozen3 HR5.out
      have htp := (rightU_iff.1 HR.out).top
      have hfo := (rightU_iff.1 HR.out).funcs m r.f (by show U.fns[m]? = _; unfold UnR.fns; rw [List.getElem?_map, HFN.out]; rfl)
      unfold funcOk at hfo
      rw [Bool.and_eq_true, Bool.and_eq_true, rightF_iff] at hfo
      have hfr := hfo.1.1.frame
      clear hfo
      obtain ⟨tp0, tp1⟩ := htp
      obtain ⟨fr0, fr1⟩ := hfr
      change 1 ≤ U.top at tp0
      change U.top ≤ 4096 at tp1
      have t3 : decide (U.top + r.f.frame > (4096 : Int)) = true := by simp <;> omega
      have hwr : IntKind.i64.wrap (U.top + r.f.frame) = U.top + r.f.frame := by rw [IntKind.wrap_i64]; omega
      have t3' : decide ((4096 : Int) < U.top + r.f.frame) = true := by simp <;> omega
      go_wp2
      go_region_held3 (fun w' => w'.cell? ⟨w.heap.size, 2, none⟩ = some (.int .i64 U.top) ∧ w'.cell? ⟨w.heap.size, 0, none⟩ = some (.slice (some ⟨b, off, none⟩) U.fs.length U.fc) ∧ w'.cell? ⟨b, off + m * 5 + 3, none⟩ = some (.int .i64 r.f.frame)) (go_keep) (fail)
      all_goals go_wp2
      all_goals first | (exfalso; omega) | skip
      exact bodyPost_ret (v := .agg #[.int .i64 3, .int .i64 0, .slice none 0 0]) (by simp [results, Try.results46, go_sem, r0, r1, r2] <;> rfl) rfl ⟨rfl, drW ((((HB.out.setCell (show w.heap.size ≤ w.heap.size + 1 by omega) _).setCell (show w.heap.size ≤ w.heap.size + 1 by omega) _).setCell (show w.heap.size ≤ w.heap.size + 1 by omega) _))⟩
end Go.Proofs.Ytgnpbodhjmappaa
namespace Go.Proofs.Ytgnpbodhjmappaa
set_option maxRecDepth 100000
open Go.RowKit Cd
theorem make_row (n : Int) (h0 : 0 ≤ n) (h1 : n ≤ 4096) (w : World) : (Instr.makeSlice 30 (.int .i64 n) (.int .i64 n)).run Try.prog w = .ok (.slice (some ⟨w.heap.size, 0, none⟩) n.toNat n.toNat) (w.alloc (memO (List.replicate n.toNat 0))) := by
  have hi : ∃ i, Try.prog.info? 3 = some i ∧ i.zero = some (.int .i64 0) ∧ i.size = 1 ∧ i.bytes = 8 := by
    have h := infoInt
    cases hx : Try.prog.info? 3 with
    | none => rw [hx] at h; cases h
    | some i =>
      rw [hx] at h
      simp only [Option.map_some, Option.some.injEq, Prod.mk.injEq] at h
      exact ⟨i, rfl, h.1, h.2.1, h.2.2⟩
  obtain ⟨i, h1', h2, h3, h4⟩ := hi
  have := run_make (P := Try.prog) w 30 3 i (.int .i64 0) (by kernel_rfl) h1' h2 .i64 .i64 n n h0 (Int.le_refl _) (by rw [h4]; omega) (by omega)
  rw [this, h3]
  unfold memO
  rw [← made_zero n.toNat, Nat.mul_one]
  rfl
set_option maxHeartbeats 8000000 in
set_option maxRecDepth 100000 in
theorem run_spent (U : UnR) (ia : Option Addr) (il ic : Nat) (fuel : Int) (B : Nat) (w : World) (hU : UnAt w B U) (hBw : B ≤ w.heap.size) (m : Nat) (hm : findI U.un.funcs wMain = m) (r : FnR) (hfn : U.fs[m]? = some r) (hpar : ¬ r.f.params > 0) (hbig : ¬ U.top + r.f.frame > 4096) (hfu : fuel ≤ 0) (hr : rightU U.un = true) :
    Calls Try.prog 46 #[unV U, .slice ia il ic, .int .i64 fuel] w (RPost (.agg #[.int .i64 4, .int .i64 0, .slice none 0 0]) w) := by
  have hlg := hU.lg
  unfold maxLen at hlg
  have HU := Lib.hid hU; clear hU
  have HM := Lib.hid hm; clear hm
  have HR := Lib.hid hr; clear hr
  have t0 : decide ((m : Int) < (0 : Int)) = false := by simp <;> omega
  have t1 : decide (r.f.params > (0 : Int)) = false := by simp <;> omega
  have t1' : decide ((0 : Int) < r.f.params) = false := by simp <;> omega
  have p0 : (0 : Int) ≤ (m : Int) := Int.natCast_nonneg _
  have p1 : (m : Int) < (U.fs.length : Int) := by have := (List.getElem?_eq_some_iff.1 hfn).1; omega
  have HFN := Lib.hid hfn; clear hfn
  have hmk := make_mem
  have u5 : decide (fuel > (1000000 : Int)) = false := by simp <;> omega
  have u5' : decide ((1000000 : Int) < fuel) = false := by simp <;> omega
  have u6 : decide (fuel > (0 : Int)) = false := by simp <;> omega
  have u6' : decide ((0 : Int) < fuel) = false := by simp <;> omega
  have HA := Lib.hid (((Below.refl B w).alloc hBw (unO U)).alloc (by simp <;> omega) resO)
  have HA2 := Lib.hid (((Below.refl w.heap.size w).alloc (Nat.le_refl _) (unO U)).alloc (by simp) resO)
  have HQ2 := Lib.hid (show ((w.alloc (unO U)).alloc resO).heap[w.heap.size + 1]? = some resO by have := heap_alloc_new (w.alloc (unO U)) resO; simpa using this)
  have HQ := Lib.hid ((Below.heap_alloc (w.alloc (unO U)) resO w.heap.size (by simp)).trans (heap_alloc_new w (unO U)))
  go_enter Try.func46, Try.ntmps46
  go_wp2_with (first | ((with_reducible refine (find_main U B (m : Int) _ (HU.out.below HA.out) HM.out).mono ?_); rintro e v3 ⟨rfl, hb3⟩; have G0 : Hid (v3.heap[w.heap.size]? = some (unO U)) := Lib.hid ((hb3.block w.heap.size (by simp <;> omega)).trans HQ.out); have GR3 : Hid (v3.heap[w.heap.size + 1]? = some resO) := Lib.hid ((hb3.block _ (lt_heap HQ2.out)).trans HQ2.out); obtain ⟨d0, d1, d2⟩ := nv3 G0.out; have HB3 : Hid (Below w.heap.size w v3) := Lib.hid (HA2.out.trans (hb3.mono HA2.out.size))) | ((with_reducible refine (right_b U B true v3 (HU.out.below (HB3.out.mono hBw)) (Nat.le_trans hBw HB3.out.size) HR.out).mono ?_); rintro e v4 ⟨rfl, hb4⟩; have G1 : Hid (v4.heap[w.heap.size]? = some (unO U)) := Lib.hid ((hb4.block _ (lt_heap G0.out)).trans G0.out); have GR : Hid (v4.heap[w.heap.size + 1]? = some resO) := Lib.hid ((hb4.block _ (lt_heap GR3.out)).trans GR3.out); obtain ⟨b, off, hfa, hb, hbw, c0, c1, c2, c3, c4⟩ := (HU.out.below (HB3.out.mono hBw)).fn HFN.out; clear c0 c2 c4; replace c3 := (hb4.cell (p := ⟨b, off + m * 5 + 3, none⟩) (by show b < v3.heap.size; omega)).trans c3; replace c1 := (hb4.cell (p := ⟨b, off + m * 5 + 1, none⟩) (by show b < v3.heap.size; omega)).trans c1; obtain ⟨r0, r1, r2⟩ := nv3 GR.out; obtain ⟨z0, z1, z2⟩ := frozen3 GR.out; have HB4 : Hid (Below w.heap.size w v4) := Lib.hid (HB3.out.trans (hb4.mono HB3.out.size)); clear d0 d1 d2; obtain ⟨d0, d1, d2⟩ := nv3 G1.out))
  have HU4 := Lib.hid (HU.out.below (HB4.out.mono hBw))
  have hq : w.heap.size < v4.heap.size ∧ w.heap.size + 1 < v4.heap.size := ⟨lt_heap G1.out, lt_heap GR.out⟩
  clear d0 d1 d2 r0 r1 r2 z0 z1 z2 c1 c3 hb3 hb4
  go_loopw [9] (fun s9 wr => ∃ k : Nat, k ≤ U.gs.length ∧ s9 = .int .i64 k ∧ Hid (Below w.heap.size w wr) ∧ Hid (wr.heap[w.heap.size]? = some (unO U)) ∧ Hid (wr.heap[w.heap.size + 1]? = some resO) ∧ Hid (wr.heap[v4.heap.size]? = some (memO (memOf (U.gs.take k) (List.replicate 4096 0))))) (fun i wr => U.gs.length - (intOf i).toNat)
  case atStart => exact ⟨0, by omega, rfl, Lib.hid (HB4.out.alloc (by omega) _), Lib.hid ((Below.heap_alloc v4 _ w.heap.size hq.1).trans G1.out), Lib.hid ((Below.heap_alloc v4 _ (w.heap.size + 1) hq.2).trans GR.out), Lib.hid (heap_alloc_new v4 _)⟩
  case round =>
    obtain ⟨k, hk, rfl, HB, HW, HR5, HME⟩ := hrel
    obtain ⟨d0, d1, d2⟩ := nv3 HW.out
    have HU5 := Lib.hid (HU.out.below (HB.out.mono hBw))
    by_cases hlt : k < U.gs.length
    · obtain ⟨g, hg⟩ : ∃ g, U.gs[k]? = some g := ⟨_, List.getElem?_eq_getElem hlt⟩
      obtain ⟨b2, off2, hga, hb2, hBw2, q0, q1, q2, q3⟩ := HU5.out.gl hg
      have HG := Lib.hid hg; clear hg
      rw [hga] at d1; clear hga
      have k0 : (0 : Int) ≤ (k : Int) := Int.natCast_nonneg _
      have k1 : (k : Int) < (U.gs.length : Int) := by omega
      have HGO := Lib.hid (show 1 ≤ g.pos by have := (rightU_iff.1 HR.out).globals g (List.mem_of_getElem? HG.out); unfold globOk at this; simp at this; omega)
      by_cases z0 : g.pos < 4096
      · have u0 : decide (g.pos < (4096 : Int)) = true := by simp <;> omega
        have g0 : (0 : Int) ≤ g.pos := by have := HGO.out; omega
        have g1 : g.pos < (4096 : Int) := z0
        obtain ⟨⟨x0, m0⟩, m1⟩ := memO_cell (j := g.pos.toNat) HME.out (by rw [memOf_len, List.length_replicate]; omega)
        have HST : Hid (Below w.heap.size w (wr.setCell ⟨v4.heap.size, g.pos.toNat, none⟩ (.int .i64 g.init))) := Lib.hid (HB.out.setCell (show w.heap.size ≤ v4.heap.size by omega) _)
        have n1 : ¬ w.heap.size = v4.heap.size := by omega
        have n2 : ¬ b2 = v4.heap.size := by omega
        have n3 : ¬ v4.heap.size = w.heap.size := by omega
        have n4 : ¬ v4.heap.size = b2 := by omega
        go_wp2
        go_region_held3 (fun w' => w'.cell? ⟨w.heap.size, 1, none⟩ = some (.slice (some ⟨b2, off2, none⟩) U.gs.length U.gc) ∧ w'.cell? ⟨b2, off2 + k * 4 + 1, none⟩ = some (.int .i64 g.pos) ∧ w'.cell? ⟨b2, off2 + k * 4 + 3, none⟩ = some (.int .i64 g.init)) (go_keep) (fail)
        all_goals go_wp2
        go_roundw
        case rel => exact ⟨k + 1, by omega, by go_num, Lib.hid (drW HST.out), Lib.hid ((heap_other (by omega)).trans HW.out), Lib.hid ((heap_other (by omega)).trans HR5.out), by rw [memOf_yes _ HG.out z0]; exact Lib.hid (memO_set HME.out _ _)⟩
        case measure => simp [intOf]; omega
      · have u0 : decide (g.pos < (4096 : Int)) = false := by simp <;> omega
        go_wp2
        go_roundw
        case rel => exact ⟨k + 1, by omega, by go_num, HB, HW, HR5, by rw [memOf_no _ HG.out z0]; exact HME⟩
        case measure => simp [intOf]; omega
    · obtain rfl : k = U.gs.length := by omega
      obtain ⟨b', off', hfa', hb', hbw', _, _, c2', c3', _⟩ := HU5.out.fn HFN.out
      rw [hfa] at hfa'
      injection hfa' with hfa'
      injection hfa' with e1 e2
      subst e1 e2
      obtain ⟨r0, r1, r2⟩ := nv3 HR5.out
      obtain ⟨z0, z1, z2⟩ := frozen3 HR5.out
      have htp := (rightU_iff.1 HR.out).top
      have hfo := (rightU_iff.1 HR.out).funcs m r.f (by show U.fns[m]? = _; unfold UnR.fns; rw [List.getElem?_map, HFN.out]; rfl)
      unfold funcOk at hfo
      rw [Bool.and_eq_true, Bool.and_eq_true, rightF_iff] at hfo
      have hfr := hfo.1.1.frame
      have rg0 : 0 ≤ r.f.regs := by have := hfo.1.1.regs; have := hfo.1.1.params; omega
      have rg1 := hfo.1.1.regs.2
      clear hfo
      obtain ⟨tp0, tp1⟩ := htp
      obtain ⟨fr0, fr1⟩ := hfr
      change 1 ≤ U.top at tp0
      change U.top ≤ 4096 at tp1
      have t3 : decide (U.top + r.f.frame > (4096 : Int)) = false := by simp <;> omega
      have hwr : IntKind.i64.wrap (U.top + r.f.frame) = U.top + r.f.frame := by rw [IntKind.wrap_i64]; omega
      have t3' : decide ((4096 : Int) < U.top + r.f.frame) = false := by simp <;> omega
      go_wp2
      go_region_held3 (fun w' => w'.cell? ⟨w.heap.size, 2, none⟩ = some (.int .i64 U.top) ∧ w'.cell? ⟨w.heap.size, 0, none⟩ = some (.slice (some ⟨b, off, none⟩) U.fs.length U.fc) ∧ w'.cell? ⟨b, off + m * 5 + 3, none⟩ = some (.int .i64 r.f.frame)) (go_keep) (fail)
      all_goals go_wp2
      all_goals first | (exfalso; omega) | skip
      have hmr := make_row r.f.regs rg0 rg1
      have hz1 := lt_heap HW.out
      have n1 : ¬ w.heap.size = wr.heap.size := by omega
      have n2 : ¬ b = wr.heap.size := by omega
      have n3 : ¬ w.heap.size = wr.heap.size + 1 := by omega
      have n4 : ¬ b = wr.heap.size + 1 := by omega
      go_region_held3 (fun w' => w'.cell? ⟨w.heap.size, 2, none⟩ = some (.int .i64 U.top) ∧ w'.cell? ⟨w.heap.size, 0, none⟩ = some (.slice (some ⟨b, off, none⟩) U.fs.length U.fc) ∧ w'.cell? ⟨b, off + m * 5 + 2, none⟩ = some (.int .i64 r.f.regs)) (go_keep) (fail)
      all_goals go_wp2
      go_loopw [2, 10] (fun s2 s10 wl => s2 = .int .i64 fuel ∧ s10 = .slice none 0 0 ∧ Hid (Below w.heap.size w wl) ∧ Hid (wl.heap[w.heap.size + 1]? = some resO)) (fun i j wl => 0)
      case atStart =>
        have hz2 := lt_heap HR5.out
        exact ⟨rfl, rfl, Lib.hid (drW (drW ((HB.out.alloc HB.out.size _).alloc (by simp <;> omega) _))), Lib.hid ((Below.heap_alloc (wr.alloc (memO (List.replicate r.f.regs.toNat 0))) _ (w.heap.size + 1) (by simp <;> omega)).trans ((Below.heap_alloc wr _ (w.heap.size + 1) hz2).trans HR5.out))⟩
      case round =>
        obtain ⟨rfl, rfl, HBl, HRl⟩ := hrel
        obtain ⟨r0, r1, r2⟩ := nv3 HRl.out
        obtain ⟨z0, z1, z2⟩ := frozen3 HRl.out
        go_wp2
        exact bodyPost_ret (v := .agg #[.int .i64 4, .int .i64 0, .slice none 0 0]) (by simp [results, Try.results46, go_sem, r0, r1, r2] <;> rfl) rfl ⟨rfl, (((HBl.out.setCell (show w.heap.size ≤ w.heap.size + 1 by omega) _).setCell (show w.heap.size ≤ w.heap.size + 1 by omega) _).setCell (show w.heap.size ≤ w.heap.size + 1 by omega) _)⟩
end Go.Proofs.Ytgnpbodhjmappaa
namespace Go.Proofs.Ytgnpbodhjmappaa
set_option maxRecDepth 100000
open Go.RowKit Cd
def loopsOf : Code → List Code
  | .loop c => [c]
  | .seq a b => loopsOf a ++ loopsOf b
  | .block _ c => loopsOf c
  | .scope c => loopsOf c
  | .cond _ a b => loopsOf a ++ loopsOf b
  | _ => []
def cL : Code → Code
  | .seq a _ => a
  | c => c
def cR : Code → Code
  | .seq _ b => b
  | c => c
def cB : Code → Code
  | .block _ c => c
  | c => c
noncomputable def runBody : Code := ((((Try.f46.body.map loopsOf).getD [])[1]?).getD .skip)
noncomputable def codeF : Code := cL runBody
noncomputable def codeX : Code := cB (cL (cR runBody))
noncomputable def codeD : Code := cR (cR (cR (cR codeX)))
noncomputable def codeE : Code := cL codeD
noncomputable def codeT : Code := cR codeD
noncomputable def codeM : Code := cR (cR runBody)
theorem body_eq : runBody = .seq codeF (.seq (.block 3 (.seq (cL codeX) (.seq (cL (cR codeX)) (.seq (cL (cR (cR codeX))) (.seq (cL (cR (cR (cR codeX)))) (.seq codeE codeT)))))) codeM) := by kernel_rfl
set_option maxRecDepth 1000000 in
def frM (Us : Nat → Value) (ub qb mb : Nat) (vi v2 vo vs s12 s13 s14 s15 : Value) : Act := ⟨#[Us 0, vi, v2, .pointer (some ⟨ub, 0, none⟩), Us 4, Us 5, .pointer (some ⟨qb, 0, none⟩), Us 7, .slice (some ⟨mb, 0, none⟩) 4096 4096, Us 9, vo, vs, s12, s13, s14, s15, Us 16, Us 17, Us 18, Us 19, Us 20, Us 21, Us 22, Us 23, Us 24, Us 25, Us 26, Us 27, Us 28, Us 29, Us 30, Us 31, Us 32, Us 33, Us 34, Us 35, Us 36, Us 37, Us 38, Us 39, Us 40, Us 41, Us 42, Us 43, Us 44, Us 45, Us 46, Us 47, Us 48, Us 49, Us 50, Us 51, Us 52, Us 53, Us 54, Us 55, Us 56, Us 57, Us 58, Us 59, Us 60, Us 61, Us 62, Us 63, Us 64, Us 65, Us 66, Us 67, Us 68, Us 69, Us 70, Us 71, Us 72, Us 73, Us 74, Us 75, Us 76, Us 77, Us 78, Us 79, Us 80, Us 81, Us 82, Us 83, Us 84, Us 85, Us 86, Us 87, Us 88, Us 89, Us 90, Us 91, Us 92, Us 93, Us 94, Us 95, Us 96, Us 97, Us 98, Us 99, Us 100, Us 101, Us 102, Us 103, Us 104, Us 105, Us 106, Us 107, Us 108, Us 109, Us 110, Us 111, Us 112, Us 113, Us 114, Us 115, Us 116, Us 117, Us 118, Us 119, Us 120, Us 121, Us 122, Us 123, Us 124, Us 125, Us 126, Us 127, Us 128, Us 129, Us 130, Us 131, Us 132, Us 133, Us 134, Us 135, Us 136, Us 137, Us 138, Us 139, Us 140, Us 141, Us 142, Us 143, Us 144, Us 145, Us 146, Us 147, Us 148, Us 149, Us 150, Us 151, Us 152, Us 153, Us 154, Us 155, Us 156, Us 157, Us 158, Us 159, Us 160, Us 161, Us 162, Us 163, Us 164, Us 165, Us 166, Us 167, Us 168, Us 169, Us 170, Us 171, Us 172, Us 173, Us 174, Us 175, Us 176, Us 177, Us 178, Us 179, Us 180, Us 181, Us 182, Us 183, Us 184, Us 185, Us 186, Us 187, Us 188, Us 189, Us 190, Us 191, Us 192, Us 193, Us 194, Us 195, Us 196, Us 197, Us 198, Us 199, Us 200, Us 201, Us 202, Us 203, Us 204, Us 205, Us 206, Us 207, Us 208, Us 209, Us 210, Us 211, Us 212, Us 213, Us 214, Us 215, Us 216, Us 217, Us 218, Us 219, Us 220, Us 221, Us 222, Us 223, Us 224, Us 225, Us 226, Us 227, Us 228, Us 229, Us 230, Us 231, Us 232, Us 233, Us 234, Us 235, Us 236, Us 237, Us 238, Us 239, Us 240, Us 241, Us 242, Us 243, Us 244, Us 245, Us 246, Us 247, Us 248, Us 249, Us 250, Us 251, Us 252, Us 253, Us 254, Us 255, Us 256, Us 257, Us 258, Us 259, Us 260, Us 261, Us 262, Us 263, Us 264, Us 265, Us 266, Us 267, Us 268, Us 269, Us 270, Us 271, Us 272, Us 273, Us 274, Us 275, Us 276, Us 277, Us 278, Us 279, Us 280, Us 281, Us 282, Us 283, Us 284, Us 285, Us 286, Us 287, Us 288, Us 289, Us 290, Us 291, Us 292, Us 293, Us 294, Us 295, Us 296, Us 297, Us 298, Us 299, Us 300, Us 301, Us 302, Us 303, Us 304, Us 305, Us 306, Us 307, Us 308, Us 309, Us 310, Us 311, Us 312, Us 313, Us 314, Us 315, Us 316, Us 317, Us 318, Us 319, Us 320, Us 321, Us 322, Us 323, Us 324, Us 325, Us 326, Us 327, Us 328, Us 329, Us 330, Us 331, Us 332, Us 333, Us 334, Us 335, Us 336, Us 337, Us 338, Us 339, Us 340, Us 341, Us 342, Us 343, Us 344, Us 345, Us 346, Us 347, Us 348, Us 349, Us 350, Us 351, Us 352, Us 353, Us 354, Us 355, Us 356, Us 357, Us 358, Us 359, Us 360, Us 361, Us 362, Us 363, Us 364, Us 365, Us 366, Us 367, Us 368, Us 369, Us 370, Us 371, Us 372, Us 373, Us 374, Us 375, Us 376, Us 377], []⟩
def IsFr (a : Act) (ub qb mb : Nat) (vi v2 vo vs s12 s13 s14 s15 : Value) : Prop := ∃ Us, a = frM Us ub qb mb vi v2 vo vs s12 s13 s14 s15
def InAt (w : World) (v : Value) (l : List UInt8) : Prop := ∃ a c, v = .slice a l.length c ∧ l.length ≤ c ∧ c ≤ maxLen ∧ RowAt w w.heap.size a (u8s l)
theorem InAt.cons {w : World} {v : Value} {c : UInt8} {cs : List UInt8} (h : InAt w v (c :: cs)) : ∃ b off ic, v = .slice (some ⟨b, off, none⟩) (cs.length + 1) ic ∧ cs.length + 1 ≤ maxLen ∧ w.cell? ⟨b, off, none⟩ = some (.int .u8 c.toNat) ∧ InAt w (sliced (some ⟨b, off, none⟩) 1 (cs.length + 1) ic 1) cs := by
  obtain ⟨a, ic, rfl, hl, hm, hr⟩ := h
  obtain ⟨b, off, rfl, hb, hB, hc⟩ := hr (by simp [u8s])
  refine ⟨b, off, ic, rfl, by simp at hl; omega, by have := hc 0 (.int .u8 c.toNat) (by simp [u8s]); simpa using this, ?_⟩
  unfold sliced
  refine ⟨_, _, rfl, by simp at hl; omega, by omega, fun h0 => ?_⟩
  by_cases he : ic = 1
  · exfalso
    simp [u8s] at h0 hl
    omega
  · rw [if_neg he]
    refine ⟨b, off + 1, by simp [Addr.add], hb, hB, fun j u hu => ?_⟩
    have := hc (j + 1) u (by simpa [u8s] using hu)
    rw [show off + 1 + j = off + (j + 1) by omega]
    exact this
theorem RunAt.cap {w0 w : World} {U : UnR} {N ub qb mb : Nat} {mem : List Int} {out : List UInt8} {vo : Value} {stk : List FrR} {g n cap : Nat} (h : RunAt w0 w U N ub qb mb mem out vo (.slice (some ⟨g, 0, none⟩) n cap) stk) : stk.length ≤ cap := by
  obtain ⟨_, ⟨h0, _⟩ | ⟨g', cap', cur, hv, _, _, h1, _⟩⟩ := h.stkh
  · cases h0
  · injection hv with _ _ hc
    omega
theorem infoByte : (Try.prog.info? 5).map (fun i => (i.zero, i.size, i.bytes)) = some (some (.int .u8 0), 1, 1) := by kernel_rfl
theorem Cd.byteOf_rem (n : Int) : n % 4294967296 % 256 = ((Cd.byteOf n).toNat : Int) := by
  unfold Cd.byteOf
  rw [UInt8.toNat_ofNat']
  omega
theorem RunAt.word {w0 w : World} {U : UnR} {N ub qb mb : Nat} {mem : List Int} {out : List UInt8} {vo vs : Value} {stk : List FrR} (h : RunAt w0 w U N ub qb mb mem out vo vs stk) {q : Int} (h0 : 0 ≤ q) (h1 : q < 4096) : w.cell? ⟨mb, q.toNat, none⟩ = some (.int .i64 (mem.getD q.toNat 0)) := by
  have hl := h.memlen
  have hlt : q.toNat < mem.length := by omega
  rw [cell_of_row w mb _ _ _ _ h.memh]
  simp only [List.getElem?_toArray, List.getElem?_map]
  rw [List.getElem?_eq_getElem hlt, List.getD_eq_getElem?_getD, List.getElem?_eq_getElem hlt]
  rfl
theorem IsFr.of {xs : List Value} {ub qb mb : Nat} {vi v2 vo vs s12 s13 s14 s15 : Value} (h : (⟨xs.toArray, []⟩ : Act) = frM (fun i => xs.getD i undef) ub qb mb vi v2 vo vs s12 s13 s14 s15) : IsFr ⟨xs.toArray, []⟩ ub qb mb vi v2 vo vs s12 s13 s14 s15 := ⟨_, h⟩
structure RunRel (w0 : World) (U : UnR) (N ub qb mb n : Nat) (r : Rsu) (vi vo vs : Value) (stk : List FrR) (s : Sta) (w : World) : Prop where
  un : UnAt w0 w0.heap.size U
  right : RightU U.un
  mem : RunAt w0 w U N ub qb mb s.mem s.out vo vs stk
  stack : s.stack = (stk.map (·.fr)).reverse
  some : s.stack ≠ []
  ok : StkOk U.un s.stack
  inp : InAt w0 vi s.inp
  run : runS U.un n s = r
  base : N ≤ w.heap.size
  outb : s.out.length + n ≤ 1000000
  stkb : stk.length + n ≤ 1000001
structure Mid (w0 : World) (U : UnR) (N ub qb mb fb ib : Nat) (mem : List Int) (out inp : List UInt8) (vi vo vs : Value) (ini : List FrR) (f : FrR) (i : Ins) (w : World) : Prop where
  un : UnAt w0 w0.heap.size U
  right : RightU U.un
  mem : RunAt w0 w U N ub qb mb mem out vo vs (ini ++ [f])
  inp : InAt w0 vi inp
  fbox : w.heap[fb]? = some (frO f)
  ibox : w.heap[ib]? = some (inO i)
  far : N ≤ fb ∧ N ≤ ib ∧ fb ≠ ib
  apf : vo.ownBlock ≠ some fb ∧ vs.ownBlock ≠ some fb ∧ ∀ x ∈ ini ++ [f], x.rb ≠ fb
  api : vo.ownBlock ≠ some ib ∧ vs.ownBlock ≠ some ib ∧ ∀ x ∈ ini ++ [f], x.rb ≠ ib
def MidA (w0 : World) (U : UnR) (N ub qb mb fb ib n : Nat) (mem : List Int) (out inp : List UInt8) (ini : List FrR) (f : FrR) (i : Ins) (p v : Int) (a : Act) (w : World) : Prop :=
  ∃ vi vo vs, Mid w0 U N ub qb mb fb ib mem out inp vi vo vs ini f i w ∧ IsFr a ub qb mb vi (.int .i64 ((n : Int) + 1)) vo vs (.pointer (some ⟨fb, 0, none⟩)) (.pointer (some ⟨ib, 0, none⟩)) (.int .i64 p) (.int .i64 v)
def RunI (w0 : World) (U : UnR) (N ub qb mb : Nat) (r : Rsu) (n : Nat) (a : Act) (w : World) : Prop :=
  ∃ (vi vo vs s12 s13 s14 s15 : Value) (stk : List FrR) (s : Sta), RunRel w0 U N ub qb mb n r vi vo vs stk s w ∧ IsFr a ub qb mb vi (.int .i64 n) vo vs s12 s13 s14 s15
def RunJ (w0 : World) (U : UnR) (N ub qb mb : Nat) (r : Rsu) (n : Nat) (a : Act) (w : World) : Prop :=
  ∃ (vi vo vs s12 s13 s14 s15 : Value) (stk : List FrR) (s : Sta), RunRel w0 U N ub qb mb n r vi vo vs stk s w ∧ IsFr a ub qb mb vi (.int .i64 ((n : Int) + 1)) vo vs s12 s13 s14 s15
def RunE (w0 : World) (qb : Nat) (r : Rsu) (w : World) : Prop :=
  ∃ a n c, w.heap[qb]? = some (.cells #[.int .i64 r.fin, .int .i64 r.code, .slice a n c] 74) ∧ w.ownsRow w0.heap.size 5 1 (.slice a n c) r.out.length (u8s r.out) ∧ Below w0.heap.size w0 w
def RunZ (w0 : World) (qb : Nat) (r : Rsu) (a : Act) (w : World) : Prop := RunE w0 qb r w ∧ ∃ (ub mb : Nat) (vi v2 vo vs s12 s13 s14 s15 : Value), IsFr a ub qb mb vi v2 vo vs s12 s13 s14 s15
variable {w0 w w' : World} {U : UnR} {N ub qb mb fb ib : Nat} {mem : List Int} {out inp : List UInt8} {vi vo vs : Value} {ini : List FrR} {f : FrR} {i : Ins}
theorem Mid.keep (h : Mid w0 U N ub qb mb fb ib mem out inp vi vo vs ini f i w) (hb : Below w.heap.size w w') : Mid w0 U N ub qb mb fb ib mem out inp vi vo vs ini f i w' :=
  ⟨h.un, h.right, h.mem.keep hb, h.inp, (hb.block _ (lt_heap h.fbox)).trans h.fbox, (hb.block _ (lt_heap h.ibox)).trans h.ibox, h.far, h.apf, h.api⟩
theorem Mid.inp' (h : Mid w0 U N ub qb mb fb ib mem out inp vi vo vs ini f i w) {vi' : Value} {inp' : List UInt8} (hi : InAt w0 vi' inp') : Mid w0 U N ub qb mb fb ib mem out inp' vi' vo vs ini f i w :=
  ⟨h.un, h.right, h.mem, hi, h.fbox, h.ibox, h.far, h.apf, h.api⟩
theorem Mid.setMem (h : Mid w0 U N ub qb mb fb ib mem out inp vi vo vs ini f i w) (a : Nat) (x : Int) : Mid w0 U N ub qb mb fb ib (mem.set a x) out inp vi vo vs ini f i (w.setCell ⟨mb, a, none⟩ (.int .i64 x)) := by
  have hm := h.mem.lmb
  have hf := h.far
  exact ⟨h.un, h.right, h.mem.setMem a x, h.inp, (heap_other (by omega)).trans h.fbox, (heap_other (by omega)).trans h.ibox, h.far, h.apf, h.api⟩
theorem Mid.grown {vo' : Value} {b : UInt8} (h : Mid w0 U N ub qb mb fb ib mem out inp vi vo vs ini f i w) (ho : w'.ownsRow N 5 1 vo' (out ++ [b]).length (u8s (out ++ [b]))) (hg : w.grownBy w' vo.ownBlock) (hat : ∀ g, vo'.ownBlock = some g → vo.ownBlock = some g ∨ w.heap.size ≤ g) :
    Mid w0 U N ub qb mb fb ib mem (out ++ [b]) inp vi vo' vs ini f i w' := by
  have hf := h.far
  have hfl := lt_heap h.fbox
  have hil := lt_heap h.ibox
  refine ⟨h.un, h.right, h.mem.grown (by omega) ho hg hat, h.inp, (hg.block _ hfl (fun e => h.apf.1 e.symm)).trans h.fbox, (hg.block _ hil (fun e => h.api.1 e.symm)).trans h.ibox, h.far, ⟨fun e => ?_, h.apf.2⟩, ⟨fun e => ?_, h.api.2⟩⟩
  · rcases hat _ e with h1 | h1
    · exact h.apf.1 h1
    · omega
  · rcases hat _ e with h1 | h1
    · exact h.api.1 h1
    · omega
theorem RunE.keep {w0 w w' : World} {qb : Nat} {r : Rsu} (h : RunE w0 qb r w) (hb : Below w.heap.size w w') : RunE w0 qb r w' := by
  obtain ⟨a, n, c, h1, h2, h3⟩ := h
  exact ⟨a, n, c, (hb.block _ (lt_heap h1)).trans h1, own_keep h2 fun g hg => hb.block g (h2.lt g hg).2, h3.trans (hb.mono h3.size)⟩
theorem Mid.ended (h : Mid w0 U N ub qb mb fb ib mem out inp vi vo vs ini f i w) (x y : Int) : RunE w0 qb ⟨x, y, out⟩ (((w.setCell ⟨qb, 0, none⟩ (.int .i64 x)).setCell ⟨qb, 1, none⟩ (.int .i64 y)).setCell ⟨qb, 2, none⟩ vo) := by
  obtain ⟨a, c, hv⟩ := row_slice h.mem.outh
  have hq := h.mem.lqb
  have hne : ∀ g, vo.ownBlock = some g → g ≠ qb := fun g hg => by have := (h.mem.outh.lt g hg).1; omega
  refine ⟨a, out.length, c, ?_, ?_, ?_⟩
  · rw [hv]
    exact cells_set (cells_set (cells_set h.mem.res 0 _) 1 _) 2 _
  · rw [← hv]
    refine ownsRow_le (own_keep h.mem.outh fun g hg => ?_) (show w0.heap.size ≤ N by omega)
    exact (heap_other (hne g hg)).trans ((heap_other (hne g hg)).trans (heap_other (hne g hg)))
  · exact ((h.mem.below.setCell (show w0.heap.size ≤ qb by omega) _).setCell (show w0.heap.size ≤ qb by omega) _).setCell (show w0.heap.size ≤ qb by omega) _
set_option maxHeartbeats 8000000 in
set_option maxRecDepth 1000000 in
theorem piece_fuel (w0 : World) (U : UnR) (N ub qb mb n : Nat) (r : Rsu) (w : World) (K : Act → World → Prop) (Q : Exit → Act → World → Prop) (a : Act) (h : RunJ w0 U N ub qb mb r n a w) (hK : ∀ a w', RunI w0 U N ub qb mb r n a w' → K a w') :
    Code.wp Try.prog codeM (Exit.then K Q) a w := by
  obtain ⟨vi, vo, vs, s12, s13, s14, s15, stk, s, hrel, Us, rfl⟩ := h
  have hn : n ≤ 1000000 := by have := hrel.outb; omega
  have HK := Lib.hid hK; clear hK
  have HREL := Lib.hid hrel; clear hrel
  have hs : IntKind.i64.wrap ((n : Int) + 1 - 1) = (n : Int) := by rw [IntKind.wrap_i64]; omega
  unfold frM
  conv => arg 2; whnf
  go_wp2
  exact HK.out _ _ ⟨vi, vo, vs, s12, s13, s14, s15, stk, s, HREL.out, IsFr.of (by kernel_rfl)⟩
end Go.Proofs.Ytgnpbodhjmappaa
