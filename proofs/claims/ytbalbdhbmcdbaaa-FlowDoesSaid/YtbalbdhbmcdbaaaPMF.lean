/-
  doppelref07's Run: what is not run.
-/
import Derived.Test.YtbalbdhbmcdbaaaPNF
import Derived.Test.YtbalbdhbmcdbaaaPLA
import Derived.Deep.RegionHeld3
set_option linter.unusedVariables false
set_option linter.unusedSimpArgs false
namespace Go.Proofs.Ytbalbdhbmcdbaaa
set_option maxRecDepth 100000
open Go.RowKit Cd
theorem findI_neg {fs : List Fnc} {s : List UInt8} (h : findN fs s = none) : findI fs s = -1 := by unfold findI; rw [h]
theorem findI_at {fs : List Fnc} {s : List UInt8} {k : Nat} (h : findN fs s = some k) : findI fs s = k := by unfold findI; rw [h]
theorem right_b (U : UnR) (B : Nat) (b : Bool) (w : World) (hU : UnAt w B U) (hBw : B ≤ w.heap.size) (h : rightU U.un = b) :
    Calls Try.prog 37 #[unV U] w (RPost (.bool b) w) := by
  obtain ⟨fs, fa, fc, gs, ga, gc, top⟩ := U
  exact h ▸ right_v fs fa fc gs ga gc top B w hU hBw
abbrev resO : Obj := .cells #[.int .i64 0, .int .i64 0, .slice none 0 0] 69
theorem frozen3 {w : World} {b : Nat} {cs : Array Value} {t : TypeId} (h : w.heap[b]? = some (.cells cs t (0, 0))) : w.frozen? ⟨b, 0, none⟩ = false ∧ w.frozen? ⟨b, 1, none⟩ = false ∧ w.frozen? ⟨b, 2, none⟩ = false := by
  refine ⟨?_, ?_, ?_⟩ <;> simp [World.frozen?, h]
theorem find_main (U : UnR) (B : Nat) (m : Int) (w : World) (hU : UnAt w B U) (h : findI U.un.funcs wMain = m) :
    Calls Try.prog 81 #[unV U, .string ⟨#[109, 97, 105, 110]⟩] w (RPost (.int .i64 m) w) := find_v U wMain B m w hU h
set_option maxHeartbeats 4000000 in
set_option maxRecDepth 100000 in
theorem run_wrong (U : UnR) (ia : Option Addr) (il ic : Nat) (fuel : Int) (B : Nat) (w : World) (hU : UnAt w B U) (hBw : B ≤ w.heap.size) (m : Int) (hm : findI U.un.funcs wMain = m) (hr : rightU U.un = false) :
    Calls Try.prog 54 #[unV U, .slice ia il ic, .int .i64 fuel] w (RPost (.agg #[.int .i64 4, .int .i64 0, .slice none 0 0]) w) := by
  have HU := Lib.hid hU; clear hU
  have HM := Lib.hid hm; clear hm
  have HR := Lib.hid hr; clear hr
  have HA := Lib.hid (((Below.refl B w).alloc hBw (unO U)).alloc (by simp <;> omega) resO)
  have HA2 := Lib.hid (((Below.refl w.heap.size w).alloc (Nat.le_refl _) (unO U)).alloc (by simp) resO)
  have HQ2 := Lib.hid (show ((w.alloc (unO U)).alloc resO).heap[w.heap.size + 1]? = some resO by have := heap_alloc_new (w.alloc (unO U)) resO; simpa using this)
  have HQ := Lib.hid ((Below.heap_alloc (w.alloc (unO U)) resO w.heap.size (by simp)).trans (heap_alloc_new w (unO U)))
  go_enter Try.func54, Try.ntmps54
  go_wp2_with (first | ((with_reducible refine (find_main U B m _ (HU.out.below HA.out) HM.out).mono ?_); rintro e v3 ⟨rfl, hb3⟩; have G0 : Hid (v3.heap[w.heap.size]? = some (unO U)) := Lib.hid ((hb3.block w.heap.size (by simp <;> omega)).trans HQ.out); have GR3 : Hid (v3.heap[w.heap.size + 1]? = some resO) := Lib.hid ((hb3.block _ (lt_heap HQ2.out)).trans HQ2.out); obtain ⟨d0, d1, d2⟩ := nv3 G0.out; have HB3 : Hid (Below w.heap.size w v3) := Lib.hid (HA2.out.trans (hb3.mono HA2.out.size))) | ((with_reducible refine (right_b U B false v3 (HU.out.below (HB3.out.mono hBw)) (Nat.le_trans hBw HB3.out.size) HR.out).mono ?_); rintro e v4 ⟨rfl, hb4⟩; have G1 : Hid (v4.heap[w.heap.size]? = some (unO U)) := Lib.hid ((hb4.block _ (lt_heap G0.out)).trans G0.out); have GR : Hid (v4.heap[w.heap.size + 1]? = some resO) := Lib.hid ((hb4.block _ (lt_heap GR3.out)).trans GR3.out); obtain ⟨r0, r1, r2⟩ := nv3 GR.out; obtain ⟨z0, z1, z2⟩ := frozen3 GR.out; have HB4 : Hid (Below w.heap.size w v4) := Lib.hid (HB3.out.trans (hb4.mono HB3.out.size)); clear d0 d1 d2; obtain ⟨d0, d1, d2⟩ := nv3 G1.out))
  exact bodyPost_ret (v := .agg #[.int .i64 4, .int .i64 0, .slice none 0 0]) (by simp [results, Try.results54, go_sem, r0, r1, r2] <;> rfl) rfl ⟨rfl, ((HB4.out.setCell (by simp) _).setCell (by simp) _).setCell (by simp) _⟩
set_option maxHeartbeats 4000000 in
set_option maxRecDepth 100000 in
theorem run_nomain (U : UnR) (ia : Option Addr) (il ic : Nat) (fuel : Int) (B : Nat) (w : World) (hU : UnAt w B U) (hBw : B ≤ w.heap.size) (m : Int) (hm : findI U.un.funcs wMain = m) (hneg : m < 0) (hr : rightU U.un = true) :
    Calls Try.prog 54 #[unV U, .slice ia il ic, .int .i64 fuel] w (RPost (.agg #[.int .i64 4, .int .i64 0, .slice none 0 0]) w) := by
  have HU := Lib.hid hU; clear hU
  have HM := Lib.hid hm; clear hm
  have HR := Lib.hid hr; clear hr
  have t0 : decide (m < (0 : Int)) = true := by simp <;> omega
  have HA := Lib.hid (((Below.refl B w).alloc hBw (unO U)).alloc (by simp <;> omega) resO)
  have HA2 := Lib.hid (((Below.refl w.heap.size w).alloc (Nat.le_refl _) (unO U)).alloc (by simp) resO)
  have HQ2 := Lib.hid (show ((w.alloc (unO U)).alloc resO).heap[w.heap.size + 1]? = some resO by have := heap_alloc_new (w.alloc (unO U)) resO; simpa using this)
  have HQ := Lib.hid ((Below.heap_alloc (w.alloc (unO U)) resO w.heap.size (by simp)).trans (heap_alloc_new w (unO U)))
  go_enter Try.func54, Try.ntmps54
  go_wp2_with (first | ((with_reducible refine (find_main U B m _ (HU.out.below HA.out) HM.out).mono ?_); rintro e v3 ⟨rfl, hb3⟩; have G0 : Hid (v3.heap[w.heap.size]? = some (unO U)) := Lib.hid ((hb3.block w.heap.size (by simp <;> omega)).trans HQ.out); have GR3 : Hid (v3.heap[w.heap.size + 1]? = some resO) := Lib.hid ((hb3.block _ (lt_heap HQ2.out)).trans HQ2.out); obtain ⟨d0, d1, d2⟩ := nv3 G0.out; have HB3 : Hid (Below w.heap.size w v3) := Lib.hid (HA2.out.trans (hb3.mono HA2.out.size))) | ((with_reducible refine (right_b U B true v3 (HU.out.below (HB3.out.mono hBw)) (Nat.le_trans hBw HB3.out.size) HR.out).mono ?_); rintro e v4 ⟨rfl, hb4⟩; have G1 : Hid (v4.heap[w.heap.size]? = some (unO U)) := Lib.hid ((hb4.block _ (lt_heap G0.out)).trans G0.out); have GR : Hid (v4.heap[w.heap.size + 1]? = some resO) := Lib.hid ((hb4.block _ (lt_heap GR3.out)).trans GR3.out); obtain ⟨r0, r1, r2⟩ := nv3 GR.out; obtain ⟨z0, z1, z2⟩ := frozen3 GR.out; have HB4 : Hid (Below w.heap.size w v4) := Lib.hid (HB3.out.trans (hb4.mono HB3.out.size)); clear d0 d1 d2; obtain ⟨d0, d1, d2⟩ := nv3 G1.out))
  exact bodyPost_ret (v := .agg #[.int .i64 4, .int .i64 0, .slice none 0 0]) (by simp [results, Try.results54, go_sem, r0, r1, r2] <;> rfl) rfl ⟨rfl, ((HB4.out.setCell (by simp) _).setCell (by simp) _).setCell (by simp) _⟩
set_option maxHeartbeats 4000000 in
set_option maxRecDepth 100000 in
theorem run_params (U : UnR) (ia : Option Addr) (il ic : Nat) (fuel : Int) (B : Nat) (w : World) (hU : UnAt w B U) (hBw : B ≤ w.heap.size) (m : Nat) (hm : findI U.un.funcs wMain = m) (r : FnR) (hfn : U.fs[m]? = some r) (hpar : r.f.params > 0) (hr : rightU U.un = true) :
    Calls Try.prog 54 #[unV U, .slice ia il ic, .int .i64 fuel] w (RPost (.agg #[.int .i64 4, .int .i64 0, .slice none 0 0]) w) := by
  have HU := Lib.hid hU; clear hU
  have HM := Lib.hid hm; clear hm
  have HR := Lib.hid hr; clear hr
  have t0 : decide ((m : Int) < (0 : Int)) = false := by simp <;> omega
  have t1 : decide (r.f.params > (0 : Int)) = true := by simp <;> omega
  have t1' : decide ((0 : Int) < r.f.params) = true := by simp <;> omega
  have p0 : (0 : Int) ≤ (m : Int) := Int.natCast_nonneg _
  have p1 : (m : Int) < (U.fs.length : Int) := by have := (List.getElem?_eq_some_iff.1 hfn).1; omega
  have HFN := Lib.hid hfn; clear hfn
  have HA := Lib.hid (((Below.refl B w).alloc hBw (unO U)).alloc (by simp <;> omega) resO)
  have HA2 := Lib.hid (((Below.refl w.heap.size w).alloc (Nat.le_refl _) (unO U)).alloc (by simp) resO)
  have HQ2 := Lib.hid (show ((w.alloc (unO U)).alloc resO).heap[w.heap.size + 1]? = some resO by have := heap_alloc_new (w.alloc (unO U)) resO; simpa using this)
  have HQ := Lib.hid ((Below.heap_alloc (w.alloc (unO U)) resO w.heap.size (by simp)).trans (heap_alloc_new w (unO U)))
  go_enter Try.func54, Try.ntmps54
  go_wp2_with (first | ((with_reducible refine (find_main U B (m : Int) _ (HU.out.below HA.out) HM.out).mono ?_); rintro e v3 ⟨rfl, hb3⟩; have G0 : Hid (v3.heap[w.heap.size]? = some (unO U)) := Lib.hid ((hb3.block w.heap.size (by simp <;> omega)).trans HQ.out); have GR3 : Hid (v3.heap[w.heap.size + 1]? = some resO) := Lib.hid ((hb3.block _ (lt_heap HQ2.out)).trans HQ2.out); obtain ⟨d0, d1, d2⟩ := nv3 G0.out; have HB3 : Hid (Below w.heap.size w v3) := Lib.hid (HA2.out.trans (hb3.mono HA2.out.size))) | ((with_reducible refine (right_b U B true v3 (HU.out.below (HB3.out.mono hBw)) (Nat.le_trans hBw HB3.out.size) HR.out).mono ?_); rintro e v4 ⟨rfl, hb4⟩; have G1 : Hid (v4.heap[w.heap.size]? = some (unO U)) := Lib.hid ((hb4.block _ (lt_heap G0.out)).trans G0.out); have GR : Hid (v4.heap[w.heap.size + 1]? = some resO) := Lib.hid ((hb4.block _ (lt_heap GR3.out)).trans GR3.out); obtain ⟨b, off, hfa, hb, hbw, c0, c1, c2, c3, c4⟩ := (HU.out.below (HB3.out.mono hBw)).fn HFN.out; clear c0 c2 c3 c4; replace c1 := (hb4.cell (p := ⟨b, off + m * 5 + 1, none⟩) (by show b < v3.heap.size; omega)).trans c1; obtain ⟨r0, r1, r2⟩ := nv3 GR.out; obtain ⟨z0, z1, z2⟩ := frozen3 GR.out; have HB4 : Hid (Below w.heap.size w v4) := Lib.hid (HB3.out.trans (hb4.mono HB3.out.size)); clear d0 d1 d2; obtain ⟨d0, d1, d2⟩ := nv3 G1.out))
  exact bodyPost_ret (v := .agg #[.int .i64 4, .int .i64 0, .slice none 0 0]) (by simp [results, Try.results54, go_sem, r0, r1, r2] <;> rfl) rfl ⟨rfl, ((HB4.out.setCell (by simp) _).setCell (by simp) _).setCell (by simp) _⟩
end Go.Proofs.Ytbalbdhbmcdbaaa
namespace Go.Proofs.Ytbalbdhbmcdbaaa
set_option maxRecDepth 100000
open Go.RowKit Cd
def memO (mem : List Int) : Obj := .cells (mem.map (Value.int .i64)).toArray 3
theorem made_zero (n : Nat) : madeCells #[Value.int .i64 0] n = ((List.replicate n (0 : Int)).map (Value.int .i64)).toArray := by
  apply Array.ext
  · simp [madeCells]
  · intro i h1 h2
    simp [madeCells, Nat.mod_one]
theorem make_mem (w : World) : (Instr.makeSlice 29 (.int .i64 4096) (.int .i64 4096)).run Try.prog w = .ok (.slice (some ⟨w.heap.size, 0, none⟩) 4096 4096) (w.alloc (memO (List.replicate 4096 0))) := by
  have hi : ∃ i, Try.prog.info? 3 = some i ∧ i.zero = some (.int .i64 0) ∧ i.size = 1 ∧ i.bytes = 8 := by
    have h := infoInt
    cases hx : Try.prog.info? 3 with
    | none => rw [hx] at h; cases h
    | some i =>
      rw [hx] at h
      simp only [Option.map_some, Option.some.injEq, Prod.mk.injEq] at h
      exact ⟨i, rfl, h.1, h.2.1, h.2.2⟩
  obtain ⟨i, h1, h2, h3, h4⟩ := hi
  have := run_make (P := Try.prog) w 29 3 i (.int .i64 0) (by kernel_rfl) h1 h2 .i64 .i64 4096 4096 (by omega) (by omega) (by rw [h4]; omega) (by omega)
  rw [this, h3]
  unfold memO
  rw [← made_zero 4096]
  rfl
theorem memOf_app : ∀ (a b : List Glo) (m : List Int), memOf (a ++ b) m = memOf b (memOf a m)
  | [], b, m => rfl
  | g :: a, b, m => by
    show memOf (a ++ b) _ = memOf b (memOf a _)
    rw [memOf_app a b]
theorem memOf_len : ∀ (gs : List Glo) (m : List Int), (memOf gs m).length = m.length
  | [], m => rfl
  | g :: gs, m => by unfold memOf; rw [memOf_len gs]; split <;> simp
theorem memOf_yes {gs : List Glo} {k : Nat} {g : Glo} (m : List Int) (h : gs[k]? = some g) (hg : g.pos < 4096) : memOf (gs.take (k + 1)) m = (memOf (gs.take k) m).set g.pos.toNat g.init := by
  obtain ⟨hk, hx⟩ := List.getElem?_eq_some_iff.1 h
  rw [List.take_succ_eq_append_getElem hk, hx, memOf_app]
  show memOf [] _ = _
  rw [if_pos hg]; rfl
theorem memOf_no {gs : List Glo} {k : Nat} {g : Glo} (m : List Int) (h : gs[k]? = some g) (hg : ¬ g.pos < 4096) : memOf (gs.take (k + 1)) m = memOf (gs.take k) m := by
  obtain ⟨hk, hx⟩ := List.getElem?_eq_some_iff.1 h
  rw [List.take_succ_eq_append_getElem hk, hx, memOf_app]
  show memOf [] _ = _
  rw [if_neg hg]; rfl
theorem memO_cell {w : World} {b j : Nat} {m : List Int} (h : w.heap[b]? = some (memO m)) (hj : j < m.length) : (∃ x, w.cell? ⟨b, j, none⟩ = some (.int .i64 x)) ∧ w.frozen? ⟨b, j, none⟩ = false := by
  unfold memO at h
  refine ⟨⟨m[j], ?_⟩, by simp [World.frozen?, h]⟩
  rw [cell_of_row w b _ _ _ _ h]
  simp [hj]
theorem memO_set {w : World} {b : Nat} {m : List Int} (h : w.heap[b]? = some (memO m)) (j : Nat) (x : Int) : (w.setCell ⟨b, j, none⟩ (.int .i64 x)).heap[b]? = some (memO (m.set j x)) := by
  unfold memO at h ⊢
  rw [cells_set h]
  simp [List.map_set]
set_option maxHeartbeats 8000000 in
set_option maxRecDepth 100000 in
theorem run_big (U : UnR) (ia : Option Addr) (il ic : Nat) (fuel : Int) (B : Nat) (w : World) (hU : UnAt w B U) (hBw : B ≤ w.heap.size) (m : Nat) (hm : findI U.un.funcs wMain = m) (r : FnR) (hfn : U.fs[m]? = some r) (hpar : ¬ r.f.params > 0) (hbig : U.top + r.f.frame > 4096) (hr : rightU U.un = true) :
    Calls Try.prog 54 #[unV U, .slice ia il ic, .int .i64 fuel] w (RPost (.agg #[.int .i64 3, .int .i64 0, .slice none 0 0]) w) := by
  have hlg := hU.lg
  unfold maxLen at hlg
  have HU := Lib.hid hU; clear hU
  have HM := Lib.hid hm; clear hm
  have HR := Lib.hid hr; clear hr
  have t0 : decide ((m : Int) < (0 : Int)) = false := by simp <;> omega
  have t1 : decide (r.f.params > (0 : Int)) = false := by simp <;> omega
  have t1' : decide ((0 : Int) < r.f.params) = false := by simp <;> omega
  have p0 : (0 : Int) ≤ (m : Int) := Int.natCast_nonneg _
  have p1 : (m : Int) < (U.fs.length : Int) := by have := (List.getElem?_eq_some_iff.1 hfn).1; omega
  have HFN := Lib.hid hfn; clear hfn
  have hmk := make_mem
  have HA := Lib.hid (((Below.refl B w).alloc hBw (unO U)).alloc (by simp <;> omega) resO)
  have HA2 := Lib.hid (((Below.refl w.heap.size w).alloc (Nat.le_refl _) (unO U)).alloc (by simp) resO)
  have HQ2 := Lib.hid (show ((w.alloc (unO U)).alloc resO).heap[w.heap.size + 1]? = some resO by have := heap_alloc_new (w.alloc (unO U)) resO; simpa using this)
  have HQ := Lib.hid ((Below.heap_alloc (w.alloc (unO U)) resO w.heap.size (by simp)).trans (heap_alloc_new w (unO U)))
  go_enter Try.func54, Try.ntmps54
  go_wp2_with (first | ((with_reducible refine (find_main U B (m : Int) _ (HU.out.below HA.out) HM.out).mono ?_); rintro e v3 ⟨rfl, hb3⟩; have G0 : Hid (v3.heap[w.heap.size]? = some (unO U)) := Lib.hid ((hb3.block w.heap.size (by simp <;> omega)).trans HQ.out); have GR3 : Hid (v3.heap[w.heap.size + 1]? = some resO) := Lib.hid ((hb3.block _ (lt_heap HQ2.out)).trans HQ2.out); obtain ⟨d0, d1, d2⟩ := nv3 G0.out; have HB3 : Hid (Below w.heap.size w v3) := Lib.hid (HA2.out.trans (hb3.mono HA2.out.size))) | ((with_reducible refine (right_b U B true v3 (HU.out.below (HB3.out.mono hBw)) (Nat.le_trans hBw HB3.out.size) HR.out).mono ?_); rintro e v4 ⟨rfl, hb4⟩; have G1 : Hid (v4.heap[w.heap.size]? = some (unO U)) := Lib.hid ((hb4.block _ (lt_heap G0.out)).trans G0.out); have GR : Hid (v4.heap[w.heap.size + 1]? = some resO) := Lib.hid ((hb4.block _ (lt_heap GR3.out)).trans GR3.out); obtain ⟨b, off, hfa, hb, hbw, c0, c1, c2, c3, c4⟩ := (HU.out.below (HB3.out.mono hBw)).fn HFN.out; clear c0 c2 c4; replace c3 := (hb4.cell (p := ⟨b, off + m * 5 + 3, none⟩) (by show b < v3.heap.size; omega)).trans c3; replace c1 := (hb4.cell (p := ⟨b, off + m * 5 + 1, none⟩) (by show b < v3.heap.size; omega)).trans c1; obtain ⟨r0, r1, r2⟩ := nv3 GR.out; obtain ⟨z0, z1, z2⟩ := frozen3 GR.out; have HB4 : Hid (Below w.heap.size w v4) := Lib.hid (HB3.out.trans (hb4.mono HB3.out.size)); clear d0 d1 d2; obtain ⟨d0, d1, d2⟩ := nv3 G1.out))
  have HU4 := Lib.hid (HU.out.below (HB4.out.mono hBw))
  have hq : w.heap.size < v4.heap.size ∧ w.heap.size + 1 < v4.heap.size := ⟨lt_heap G1.out, lt_heap GR.out⟩
  clear d0 d1 d2 r0 r1 r2 z0 z1 z2 c1 c3 hb3 hb4
  go_loopw [9] (fun s9 wr => ∃ k : Nat, k ≤ U.gs.length ∧ s9 = .int .i64 k ∧ Hid (Below w.heap.size w wr) ∧ Hid (wr.heap[w.heap.size]? = some (unO U)) ∧ Hid (wr.heap[w.heap.size + 1]? = some resO) ∧ Hid (wr.heap[v4.heap.size]? = some (memO (memOf (U.gs.take k) (List.replicate 4096 0))))) (fun i wr => U.gs.length - (intOf i).toNat)
  case atStart => exact ⟨0, by omega, rfl, Lib.hid (HB4.out.alloc (by omega) _), Lib.hid ((Below.heap_alloc v4 _ w.heap.size hq.1).trans G1.out), Lib.hid ((Below.heap_alloc v4 _ (w.heap.size + 1) hq.2).trans GR.out), Lib.hid (heap_alloc_new v4 _)⟩
  case round =>
    obtain ⟨k, hk, rfl, HB, HW, HR5, HME⟩ := hrel
    obtain ⟨d0, d1, d2⟩ := nv3 HW.out
    have HU5 := Lib.hid (HU.out.below (HB.out.mono hBw))
    by_cases hlt : k < U.gs.length
    · obtain ⟨g, hg⟩ : ∃ g, U.gs[k]? = some g := ⟨_, List.getElem?_eq_getElem hlt⟩
      obtain ⟨b2, off2, hga, hb2, hBw2, q0, q1, q2, q3⟩ := HU5.out.gl hg
      have HG := Lib.hid hg; clear hg
      rw [hga] at d1; clear hga
      have k0 : (0 : Int) ≤ (k : Int) := Int.natCast_nonneg _
      have k1 : (k : Int) < (U.gs.length : Int) := by omega
      have HGO := Lib.hid (show 1 ≤ g.pos by have := (rightU_iff.1 HR.out).globals g (List.mem_of_getElem? HG.out); unfold globOk at this; simp at this; omega)
      by_cases z0 : g.pos < 4096
      · have u0 : decide (g.pos < (4096 : Int)) = true := by simp <;> omega
        have g0 : (0 : Int) ≤ g.pos := by have := HGO.out; omega
        have g1 : g.pos < (4096 : Int) := z0
        obtain ⟨⟨x0, m0⟩, m1⟩ := memO_cell (j := g.pos.toNat) HME.out (by rw [memOf_len, List.length_replicate]; omega)
        have HST : Hid (Below w.heap.size w (wr.setCell ⟨v4.heap.size, g.pos.toNat, none⟩ (.int .i64 g.init))) := Lib.hid (HB.out.setCell (show w.heap.size ≤ v4.heap.size by omega) _)
        have n1 : ¬ w.heap.size = v4.heap.size := by omega
        have n2 : ¬ b2 = v4.heap.size := by omega
        have n3 : ¬ v4.heap.size = w.heap.size := by omega
        have n4 : ¬ v4.heap.size = b2 := by omega
        go_wp2
        go_region_held3 (fun w' => w'.cell? ⟨w.heap.size, 1, none⟩ = some (.slice (some ⟨b2, off2, none⟩) U.gs.length U.gc) ∧ w'.cell? ⟨b2, off2 + k * 4 + 1, none⟩ = some (.int .i64 g.pos) ∧ w'.cell? ⟨b2, off2 + k * 4 + 3, none⟩ = some (.int .i64 g.init)) (go_keep) (fail)
        all_goals go_wp2
        go_roundw
        case rel => exact ⟨k + 1, by omega, by go_num, Lib.hid (drW HST.out), Lib.hid ((heap_other (by omega)).trans HW.out), Lib.hid ((heap_other (by omega)).trans HR5.out), by rw [memOf_yes _ HG.out z0]; exact Lib.hid (memO_set HME.out _ _)⟩
        case measure => simp [intOf]; omega
      · have u0 : decide (g.pos < (4096 : Int)) = false := by simp <;> omega
        go_wp2
        go_roundw
        case rel => exact ⟨k + 1, by omega, by go_num, HB, HW, HR5, by rw [memOf_no _ HG.out z0]; exact HME⟩
        case measure => simp [intOf]; omega
    · obtain rfl : k = U.gs.length := by omega
      obtain ⟨b', off', hfa', _, _, _, _, _, c3', _⟩ := HU5.out.fn HFN.out
      rw [hfa] at hfa'
      injection hfa' with hfa'
      injection hfa' with e1 e2
      subst e1 e2
      obtain ⟨r0, r1, r2⟩ := nv3 HR5.out
      obtain ⟨z0, z1, z2⟩ := frozen3 HR5.out
      have htp := (rightU_iff.1 HR.out).top
      have hfo := (rightU_iff.1 HR.out).funcs m r.f (by show U.fns[m]? = _; unfold UnR.fns; rw [List.getElem?_map, HFN.out]; rfl)
      unfold funcOk at hfo
      rw [Bool.and_eq_true, Bool.and_eq_true, rightF_iff] at hfo
      have hfr := hfo.1.1.frame
      clear hfo
      obtain ⟨tp0, tp1⟩ := htp
      obtain ⟨fr0, fr1⟩ := hfr
      change 1 ≤ U.top at tp0
      change U.top ≤ 4096 at tp1
      have t3 : decide (U.top + r.f.frame > (4096 : Int)) = true := by simp <;> omega
      have hwr : IntKind.i64.wrap (U.top + r.f.frame) = U.top + r.f.frame := by rw [IntKind.wrap_i64]; omega
      have t3' : decide ((4096 : Int) < U.top + r.f.frame) = true := by simp <;> omega
      go_wp2
      go_region_held3 (fun w' => w'.cell? ⟨w.heap.size, 2, none⟩ = some (.int .i64 U.top) ∧ w'.cell? ⟨w.heap.size, 0, none⟩ = some (.slice (some ⟨b, off, none⟩) U.fs.length U.fc) ∧ w'.cell? ⟨b, off + m * 5 + 3, none⟩ = some (.int .i64 r.f.frame)) (go_keep) (fail)
      all_goals go_wp2
      all_goals first | (exfalso; omega) | skip
      exact bodyPost_ret (v := .agg #[.int .i64 3, .int .i64 0, .slice none 0 0]) (by simp [results, Try.results54, go_sem, r0, r1, r2] <;> rfl) rfl ⟨rfl, drW ((((HB.out.setCell (show w.heap.size ≤ w.heap.size + 1 by omega) _).setCell (show w.heap.size ≤ w.heap.size + 1 by omega) _).setCell (show w.heap.size ≤ w.heap.size + 1 by omega) _))⟩
end Go.Proofs.Ytbalbdhbmcdbaaa
namespace Go.Proofs.Ytbalbdhbmcdbaaa
set_option maxRecDepth 100000
open Go.RowKit Cd
theorem make_row (n : Int) (h0 : 0 ≤ n) (h1 : n ≤ 4096) (w : World) : (Instr.makeSlice 29 (.int .i64 n) (.int .i64 n)).run Try.prog w = .ok (.slice (some ⟨w.heap.size, 0, none⟩) n.toNat n.toNat) (w.alloc (memO (List.replicate n.toNat 0))) := by
  have hi : ∃ i, Try.prog.info? 3 = some i ∧ i.zero = some (.int .i64 0) ∧ i.size = 1 ∧ i.bytes = 8 := by
    have h := infoInt
    cases hx : Try.prog.info? 3 with
    | none => rw [hx] at h; cases h
    | some i =>
      rw [hx] at h
      simp only [Option.map_some, Option.some.injEq, Prod.mk.injEq] at h
      exact ⟨i, rfl, h.1, h.2.1, h.2.2⟩
  obtain ⟨i, h1', h2, h3, h4⟩ := hi
  have := run_make (P := Try.prog) w 29 3 i (.int .i64 0) (by kernel_rfl) h1' h2 .i64 .i64 n n h0 (Int.le_refl _) (by rw [h4]; omega) (by omega)
  rw [this, h3]
  unfold memO
  rw [← made_zero n.toNat, Nat.mul_one]
  rfl
set_option maxHeartbeats 8000000 in
set_option maxRecDepth 100000 in
theorem run_spent (U : UnR) (ia : Option Addr) (il ic : Nat) (fuel : Int) (B : Nat) (w : World) (hU : UnAt w B U) (hBw : B ≤ w.heap.size) (m : Nat) (hm : findI U.un.funcs wMain = m) (r : FnR) (hfn : U.fs[m]? = some r) (hpar : ¬ r.f.params > 0) (hbig : ¬ U.top + r.f.frame > 4096) (hfu : fuel ≤ 0) (hr : rightU U.un = true) :
    Calls Try.prog 54 #[unV U, .slice ia il ic, .int .i64 fuel] w (RPost (.agg #[.int .i64 4, .int .i64 0, .slice none 0 0]) w) := by
  have hlg := hU.lg
  unfold maxLen at hlg
  have HU := Lib.hid hU; clear hU
  have HM := Lib.hid hm; clear hm
  have HR := Lib.hid hr; clear hr
  have t0 : decide ((m : Int) < (0 : Int)) = false := by simp <;> omega
  have t1 : decide (r.f.params > (0 : Int)) = false := by simp <;> omega
  have t1' : decide ((0 : Int) < r.f.params) = false := by simp <;> omega
  have p0 : (0 : Int) ≤ (m : Int) := Int.natCast_nonneg _
  have p1 : (m : Int) < (U.fs.length : Int) := by have := (List.getElem?_eq_some_iff.1 hfn).1; omega
  have HFN := Lib.hid hfn; clear hfn
  have hmk := make_mem
  have u5 : decide (fuel > (1000000 : Int)) = false := by simp <;> omega
  have u5' : decide ((1000000 : Int) < fuel) = false := by simp <;> omega
  have u6 : decide (fuel > (0 : Int)) = false := by simp <;> omega
  have u6' : decide ((0 : Int) < fuel) = false := by simp <;> omega
  have HA := Lib.hid (((Below.refl B w).alloc hBw (unO U)).alloc (by simp <;> omega) resO)
  have HA2 := Lib.hid (((Below.refl w.heap.size w).alloc (Nat.le_refl _) (unO U)).alloc (by simp) resO)
  have HQ2 := Lib.hid (show ((w.alloc (unO U)).alloc resO).heap[w.heap.size + 1]? = some resO by have := heap_alloc_new (w.alloc (unO U)) resO; simpa using this)
  have HQ := Lib.hid ((Below.heap_alloc (w.alloc (unO U)) resO w.heap.size (by simp)).trans (heap_alloc_new w (unO U)))
  go_enter Try.func54, Try.ntmps54
  go_wp2_with (first | ((with_reducible refine (find_main U B (m : Int) _ (HU.out.below HA.out) HM.out).mono ?_); rintro e v3 ⟨rfl, hb3⟩; have G0 : Hid (v3.heap[w.heap.size]? = some (unO U)) := Lib.hid ((hb3.block w.heap.size (by simp <;> omega)).trans HQ.out); have GR3 : Hid (v3.heap[w.heap.size + 1]? = some resO) := Lib.hid ((hb3.block _ (lt_heap HQ2.out)).trans HQ2.out); obtain ⟨d0, d1, d2⟩ := nv3 G0.out; have HB3 : Hid (Below w.heap.size w v3) := Lib.hid (HA2.out.trans (hb3.mono HA2.out.size))) | ((with_reducible refine (right_b U B true v3 (HU.out.below (HB3.out.mono hBw)) (Nat.le_trans hBw HB3.out.size) HR.out).mono ?_); rintro e v4 ⟨rfl, hb4⟩; have G1 : Hid (v4.heap[w.heap.size]? = some (unO U)) := Lib.hid ((hb4.block _ (lt_heap G0.out)).trans G0.out); have GR : Hid (v4.heap[w.heap.size + 1]? = some resO) := Lib.hid ((hb4.block _ (lt_heap GR3.out)).trans GR3.out); obtain ⟨b, off, hfa, hb, hbw, c0, c1, c2, c3, c4⟩ := (HU.out.below (HB3.out.mono hBw)).fn HFN.out; clear c0 c2 c4; replace c3 := (hb4.cell (p := ⟨b, off + m * 5 + 3, none⟩) (by show b < v3.heap.size; omega)).trans c3; replace c1 := (hb4.cell (p := ⟨b, off + m * 5 + 1, none⟩) (by show b < v3.heap.size; omega)).trans c1; obtain ⟨r0, r1, r2⟩ := nv3 GR.out; obtain ⟨z0, z1, z2⟩ := frozen3 GR.out; have HB4 : Hid (Below w.heap.size w v4) := Lib.hid (HB3.out.trans (hb4.mono HB3.out.size)); clear d0 d1 d2; obtain ⟨d0, d1, d2⟩ := nv3 G1.out))
  have HU4 := Lib.hid (HU.out.below (HB4.out.mono hBw))
  have hq : w.heap.size < v4.heap.size ∧ w.heap.size + 1 < v4.heap.size := ⟨lt_heap G1.out, lt_heap GR.out⟩
  clear d0 d1 d2 r0 r1 r2 z0 z1 z2 c1 c3 hb3 hb4
  go_loopw [9] (fun s9 wr => ∃ k : Nat, k ≤ U.gs.length ∧ s9 = .int .i64 k ∧ Hid (Below w.heap.size w wr) ∧ Hid (wr.heap[w.heap.size]? = some (unO U)) ∧ Hid (wr.heap[w.heap.size + 1]? = some resO) ∧ Hid (wr.heap[v4.heap.size]? = some (memO (memOf (U.gs.take k) (List.replicate 4096 0))))) (fun i wr => U.gs.length - (intOf i).toNat)
  case atStart => exact ⟨0, by omega, rfl, Lib.hid (HB4.out.alloc (by omega) _), Lib.hid ((Below.heap_alloc v4 _ w.heap.size hq.1).trans G1.out), Lib.hid ((Below.heap_alloc v4 _ (w.heap.size + 1) hq.2).trans GR.out), Lib.hid (heap_alloc_new v4 _)⟩
  case round =>
    obtain ⟨k, hk, rfl, HB, HW, HR5, HME⟩ := hrel
    obtain ⟨d0, d1, d2⟩ := nv3 HW.out
    have HU5 := Lib.hid (HU.out.below (HB.out.mono hBw))
    by_cases hlt : k < U.gs.length
    · obtain ⟨g, hg⟩ : ∃ g, U.gs[k]? = some g := ⟨_, List.getElem?_eq_getElem hlt⟩
      obtain ⟨b2, off2, hga, hb2, hBw2, q0, q1, q2, q3⟩ := HU5.out.gl hg
      have HG := Lib.hid hg; clear hg
      rw [hga] at d1; clear hga
      have k0 : (0 : Int) ≤ (k : Int) := Int.natCast_nonneg _
      have k1 : (k : Int) < (U.gs.length : Int) := by omega
      have HGO := Lib.hid (show 1 ≤ g.pos by have := (rightU_iff.1 HR.out).globals g (List.mem_of_getElem? HG.out); unfold globOk at this; simp at this; omega)
      by_cases z0 : g.pos < 4096
      · have u0 : decide (g.pos < (4096 : Int)) = true := by simp <;> omega
        have g0 : (0 : Int) ≤ g.pos := by have := HGO.out; omega
        have g1 : g.pos < (4096 : Int) := z0
        obtain ⟨⟨x0, m0⟩, m1⟩ := memO_cell (j := g.pos.toNat) HME.out (by rw [memOf_len, List.length_replicate]; omega)
        have HST : Hid (Below w.heap.size w (wr.setCell ⟨v4.heap.size, g.pos.toNat, none⟩ (.int .i64 g.init))) := Lib.hid (HB.out.setCell (show w.heap.size ≤ v4.heap.size by omega) _)
        have n1 : ¬ w.heap.size = v4.heap.size := by omega
        have n2 : ¬ b2 = v4.heap.size := by omega
        have n3 : ¬ v4.heap.size = w.heap.size := by omega
        have n4 : ¬ v4.heap.size = b2 := by omega
        go_wp2
        go_region_held3 (fun w' => w'.cell? ⟨w.heap.size, 1, none⟩ = some (.slice (some ⟨b2, off2, none⟩) U.gs.length U.gc) ∧ w'.cell? ⟨b2, off2 + k * 4 + 1, none⟩ = some (.int .i64 g.pos) ∧ w'.cell? ⟨b2, off2 + k * 4 + 3, none⟩ = some (.int .i64 g.init)) (go_keep) (fail)
        all_goals go_wp2
        go_roundw
        case rel => exact ⟨k + 1, by omega, by go_num, Lib.hid (drW HST.out), Lib.hid ((heap_other (by omega)).trans HW.out), Lib.hid ((heap_other (by omega)).trans HR5.out), by rw [memOf_yes _ HG.out z0]; exact Lib.hid (memO_set HME.out _ _)⟩
        case measure => simp [intOf]; omega
      · have u0 : decide (g.pos < (4096 : Int)) = false := by simp <;> omega
        go_wp2
        go_roundw
        case rel => exact ⟨k + 1, by omega, by go_num, HB, HW, HR5, by rw [memOf_no _ HG.out z0]; exact HME⟩
        case measure => simp [intOf]; omega
    · obtain rfl : k = U.gs.length := by omega
      obtain ⟨b', off', hfa', hb', hbw', _, _, c2', c3', _⟩ := HU5.out.fn HFN.out
      rw [hfa] at hfa'
      injection hfa' with hfa'
      injection hfa' with e1 e2
      subst e1 e2
      obtain ⟨r0, r1, r2⟩ := nv3 HR5.out
      obtain ⟨z0, z1, z2⟩ := frozen3 HR5.out
      have htp := (rightU_iff.1 HR.out).top
      have hfo := (rightU_iff.1 HR.out).funcs m r.f (by show U.fns[m]? = _; unfold UnR.fns; rw [List.getElem?_map, HFN.out]; rfl)
      unfold funcOk at hfo
      rw [Bool.and_eq_true, Bool.and_eq_true, rightF_iff] at hfo
      have hfr := hfo.1.1.frame
      have rg0 : 0 ≤ r.f.regs := by have := hfo.1.1.regs; have := hfo.1.1.params; omega
      have rg1 := hfo.1.1.regs.2
      clear hfo
      obtain ⟨tp0, tp1⟩ := htp
      obtain ⟨fr0, fr1⟩ := hfr
      change 1 ≤ U.top at tp0
      change U.top ≤ 4096 at tp1
      have t3 : decide (U.top + r.f.frame > (4096 : Int)) = false := by simp <;> omega
      have hwr : IntKind.i64.wrap (U.top + r.f.frame) = U.top + r.f.frame := by rw [IntKind.wrap_i64]; omega
      have t3' : decide ((4096 : Int) < U.top + r.f.frame) = false := by simp <;> omega
      go_wp2
      go_region_held3 (fun w' => w'.cell? ⟨w.heap.size, 2, none⟩ = some (.int .i64 U.top) ∧ w'.cell? ⟨w.heap.size, 0, none⟩ = some (.slice (some ⟨b, off, none⟩) U.fs.length U.fc) ∧ w'.cell? ⟨b, off + m * 5 + 3, none⟩ = some (.int .i64 r.f.frame)) (go_keep) (fail)
      all_goals go_wp2
      all_goals first | (exfalso; omega) | skip
      have hmr := make_row r.f.regs rg0 rg1
      have hz1 := lt_heap HW.out
      have n1 : ¬ w.heap.size = wr.heap.size := by omega
      have n2 : ¬ b = wr.heap.size := by omega
      have n3 : ¬ w.heap.size = wr.heap.size + 1 := by omega
      have n4 : ¬ b = wr.heap.size + 1 := by omega
      go_region_held3 (fun w' => w'.cell? ⟨w.heap.size, 2, none⟩ = some (.int .i64 U.top) ∧ w'.cell? ⟨w.heap.size, 0, none⟩ = some (.slice (some ⟨b, off, none⟩) U.fs.length U.fc) ∧ w'.cell? ⟨b, off + m * 5 + 2, none⟩ = some (.int .i64 r.f.regs)) (go_keep) (fail)
      all_goals go_wp2
      go_loopw [2, 10] (fun s2 s10 wl => s2 = .int .i64 fuel ∧ s10 = .slice none 0 0 ∧ Hid (Below w.heap.size w wl) ∧ Hid (wl.heap[w.heap.size + 1]? = some resO)) (fun i j wl => 0)
      case atStart =>
        have hz2 := lt_heap HR5.out
        exact ⟨rfl, rfl, Lib.hid (drW (drW ((HB.out.alloc HB.out.size _).alloc (by simp <;> omega) _))), Lib.hid ((Below.heap_alloc (wr.alloc (memO (List.replicate r.f.regs.toNat 0))) _ (w.heap.size + 1) (by simp <;> omega)).trans ((Below.heap_alloc wr _ (w.heap.size + 1) hz2).trans HR5.out))⟩
      case round =>
        obtain ⟨rfl, rfl, HBl, HRl⟩ := hrel
        obtain ⟨r0, r1, r2⟩ := nv3 HRl.out
        obtain ⟨z0, z1, z2⟩ := frozen3 HRl.out
        go_wp2
        exact bodyPost_ret (v := .agg #[.int .i64 4, .int .i64 0, .slice none 0 0]) (by simp [results, Try.results54, go_sem, r0, r1, r2] <;> rfl) rfl ⟨rfl, (((HBl.out.setCell (show w.heap.size ≤ w.heap.size + 1 by omega) _).setCell (show w.heap.size ≤ w.heap.size + 1 by omega) _).setCell (show w.heap.size ≤ w.heap.size + 1 by omega) _)⟩
end Go.Proofs.Ytbalbdhbmcdbaaa
