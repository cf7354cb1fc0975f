/-
  The contract of the reference's Field.
-/
import Derived.Test.YtemnlkgjgalipaaDoorRefText
namespace Go.Proofs.YtemnlkgjgalipaaDoor
open Go.RowKit Go.Maps Tp Go.Sort
set_option linter.unusedVariables false

def fidx : List Fl → List UInt8 → Option Nat
  | [], _ => none
  | f :: l, nm => if f.1 = nm then some 0 else (fidx l nm).map (· + 1)
theorem fidx_append : ∀ (A D : List Fl) (x : List UInt8), fidx (A ++ D) x = match fidx A x with | some i => some i | none => (fidx D x).map (· + A.length)
  | [], D, x => by simp [fidx]
  | e :: A, D, x => by
    simp only [List.cons_append, fidx]
    by_cases h : e.1 = x
    · simp [h]
    · simp only [h, if_false]
      rw [fidx_append A D x]
      cases fidx A x with
      | some i => rfl
      | none =>
        cases fidx D x with
        | none => rfl
        | some j => simp; omega
theorem fidx_next {l : List Fl} {x : List UInt8} {k : Nat} {f : Fl} (h : fidx (l.take k) x = none) (hf : l[k]? = some f) (hne : f.1 ≠ x) : fidx (l.take (k + 1)) x = none := by
  rw [List.take_add_one, hf, fidx_append, h]
  simp [fidx, hne]
theorem fidx_here {l : List Fl} {x : List UInt8} {k : Nat} {f : Fl} (h : fidx (l.take k) x = none) (hf : l[k]? = some f) (hx : f.1 = x) : fidx l x = some k := by
  have hk : k < l.length := (List.getElem?_eq_some_iff.1 hf).1
  have e1 : l = l.take (k + 1) ++ l.drop (k + 1) := (List.take_append_drop _ _).symm
  rw [e1, fidx_append, List.take_add_one, hf, fidx_append, h]
  simp [fidx, hx]
  omega
def rpick (l : List Fl) (ks : Nat → Int) (nm : List UInt8) : Int × Int × Bool := match fidx l nm with | some j => (sm ks j, (l.getD j ([], 0)).2, true) | none => (0, 0, false)
def FieldPost (r : Int × Int × Bool) (w : World) (e : Ending) (w' : World) : Prop := e = .returned (.tuple #[.int .i64 r.1, .int .i64 r.2.1, .bool r.2.2]) ∧ Below w.heap.size w w'
theorem rf_out {w : World} {T : Tab} {D : Dl} {la : Option Addr} {lc : Nat} {da : Option Addr} {dn dc : Nat} (h : SzIn w T D la lc da dn dc) (n : Int) (hn : ent T n = none) (nm : List UInt8) :
    Calls Tryd.prog 29 #[.agg #[.slice la T.length lc, .slice da dn dc], .int .i64 n, .string (bs nm)] w (FieldPost (0, 0, false) w) := by
  have H := Lib.hid h; clear h
  have HN := Lib.hid hn; clear hn
  go_enter Tryd.func29, Tryd.ntmps29
  go_wp2_with fail
  refine ((H.out.below ((Below.refl _ _).alloc (Nat.le_refl _) _)).is n).mono ?_
  rw [HN.out]
  rintro x w1 ⟨rfl, hb⟩
  have HB : Hid (Below w.heap.size w w1) := Lib.hid (((Below.refl _ _).alloc (Nat.le_refl _) _).trans (hb.mono (by simp)))
  clear hb
  go_wp2
  go_ret3
  exact ⟨rfl, HB.out⟩
theorem rf_flat {w : World} {T : Tab} {D : Dl} {la : Option Addr} {lc : Nat} {da : Option Addr} {dn dc : Nat} (h : SzIn w T D la lc da dn dc) (i : Nat) (e : En) (hi : T[i]? = some e) (hk : e.self.kind ≠ 6) (nm : List UInt8) :
    Calls Tryd.prog 29 #[.agg #[.slice la T.length lc, .slice da dn dc], .int .i64 i, .string (bs nm)] w (FieldPost (0, 0, false) w) := by
  have hil : i < T.length := (List.getElem?_eq_some_iff.1 hi).1
  have H := Lib.hid h
  obtain ⟨g, rfl, hgl, c0, c1, c2, c3⟩ := h.cells hi
  have HN : Hid (ent T i = some e) := Lib.hid (by rw [ent_nat]; exact hi)
  clear h hi c1 c2 c3
  have i0 : (0 : Int) ≤ (i : Int) := Int.natCast_nonneg _
  have i1 : (i : Int) < (T.length : Int) := by omega
  have hT := H.out.few
  have b6 : ((e.self.kind : Int) != 6) = true := by simpa using hk
  clear hk
  go_enter Tryd.func29, Tryd.ntmps29
  go_wp2_with fail
  refine ((H.out.below ((Below.refl _ _).alloc (Nat.le_refl _) _)).is i).mono ?_
  rw [HN.out]
  rintro x w1 ⟨rfl, hb⟩
  have HB : Hid (Below w.heap.size w w1) := Lib.hid (((Below.refl _ _).alloc (Nat.le_refl _) _).trans (hb.mono (by simp)))
  obtain ⟨d, _, dz⟩ := kept_new hb
  have d0 := d 0
  have e0 := (HB.out.cell (p := ⟨g, i * 4, none⟩) hgl).trans c0
  clear hb d c0
  go_wp2
  go_ret3
  exact ⟨rfl, HB.out⟩
set_option maxHeartbeats 2000000 in
set_option maxRecDepth 100000 in
theorem rf_str {w : World} {T : Tab} {D : Dl} {la : Option Addr} {lc : Nat} {da : Option Addr} {dn dc : Nat} (h : SzIn w T D la lc da dn dc) (i : Nat) (e : En) (ks : Nat → Int) (l : List Fl) (hi : T[i]? = some e) (hk : e.self.kind = 6)
    (hd : match dfind D e.self.name with | none => l = [] | some d => l = d.2) (hks : ∀ j, j < l.length → 0 < ks j ∧ ks j ≤ 4096) (hl : l.length ≤ 1000) (nm : List UInt8)
    (ih : ∀ (j : Nat) (f : Fl), l[j]? = some f → RS T D f.2 (ks j)) :
    Calls Tryd.prog 29 #[.agg #[.slice la T.length lc, .slice da dn dc], .int .i64 i, .string (bs nm)] w (FieldPost (rpick l ks nm) w) := by
  have hil : i < T.length := (List.getElem?_eq_some_iff.1 hi).1
  have H := Lib.hid h
  have IH := Lib.hid ih
  have HKS := Lib.hid hks
  obtain ⟨g, rfl, hgl, c0, c1, c2, c3⟩ := h.cells hi
  have HN : Hid (ent T i = some e) := Lib.hid (by rw [ent_nat]; exact hi)
  have hfv : ∃ a n c b, n = l.length ∧ ∀ w', Below w.heap.size w w' → (Calls Tryd.prog 39 #[.agg #[.slice (some ⟨g, 0, none⟩) T.length lc, .slice da dn dc], .string (bs e.self.name)] w' fun x w'' => x = .returned (.tuple #[.slice a n c, .bool b]) ∧ Below w'.heap.size w' w'') ∧ w'.ownsRow 0 64 2 (.slice a n c) l.length (flCells l) := by
    obtain ⟨F, Y, h1, rfl, rfl⟩ := h.ref
    rw [yfind_map] at hd
    cases hy : yfind Y e.self.name with
    | none =>
      rw [hy] at hd
      have hd : l = [] := hd
      subst hd
      exact ⟨none, 0, 0, false, rfl, fun w' hb => ⟨by have := r_fields (h1.below hb) h.few2 e.self.name; rw [hy] at this; exact this, World.ownsRow_nil _ _ _ _⟩⟩
    | some y =>
      rw [hy] at hd
      have hd : l = y.1.2 := hd
      subst hd
      have hrow := (h1.each y (List.mem_of_find?_eq_some hy)).1
      obtain ⟨a, c, hv⟩ := row_len hrow
      refine ⟨a, _, c, true, rfl, fun w' hb => ⟨?_, ?_⟩⟩
      · have := r_fields (h1.below hb) h.few2 e.self.name
        rw [hy] at this
        refine this.mono ?_
        rintro x w'' ⟨rfl, hb'⟩
        exact ⟨by rw [← hv]; rfl, hb'⟩
      · rw [← hv]
        exact ((h1.below hb).each y (List.mem_of_find?_eq_some hy)).1
  obtain ⟨fa, fn, fc, fb, rfl, hfv⟩ := hfv
  have HFV := Lib.hid hfv
  clear h hi ih c1 c2 hd hks hfv
  have i0 : (0 : Int) ≤ (i : Int) := Int.natCast_nonneg _
  have i1 : (i : Int) < (T.length : Int) := by omega
  have hT := H.out.few
  have b6 : ((e.self.kind : Int) != 6) = false := by simp [hk]
  clear hk
  go_enter Tryd.func29, Tryd.ntmps29
  go_wp2_with fail
  refine ((H.out.below ((Below.refl _ _).alloc (Nat.le_refl _) _)).is i).mono ?_
  rw [HN.out]
  rintro x w1 ⟨rfl, hb⟩
  have HB : Hid (Below w.heap.size w w1) := Lib.hid (((Below.refl _ _).alloc (Nat.le_refl _) _).trans (hb.mono (by simp)))
  obtain ⟨d, _, dz⟩ := kept_new hb
  have d0 := d 0
  have d1 := d 1
  have e0 := (HB.out.cell (p := ⟨g, i * 4, none⟩) hgl).trans c0
  have hc3 := regrown_cells HB.out hgl c3
  have hd0 : ∀ dd os, (grow (redrawn w1 dd) os).cell? ⟨w.heap.size, 0, none⟩ = some (.slice (some ⟨g, 0, none⟩) T.length lc) := fun dd os => cell_regrown d0 dd os
  have hd1 : ∀ dd os, (grow (redrawn w1 dd) os).cell? ⟨w.heap.size, 1, none⟩ = some (.slice da dn dc) := fun dd os => cell_regrown d1 dd os
  have HC : Hid (∀ dd os, Calls Tryd.prog 39 #[.agg #[.slice (some ⟨g, 0, none⟩) T.length lc, .slice da dn dc], .string (bs e.self.name)] (grow (redrawn w1 dd) os) fun x w' => x = .returned (.tuple #[.slice fa l.length fc, .bool fb]) ∧ Below (grow (redrawn w1 dd) os).heap.size (grow (redrawn w1 dd) os) w') :=
    Lib.hid (fun dd os => (HFV.out _ (HB.out.trans ((below_regrown w1 dd os).mono HB.out.size))).1)
  clear hb d c0 c3
  go_wp2
  refine wp_region_quiet_below (by kernel_rfl) (by kernel_rfl) ?_
  repeat (any_goals (first | go_big_quiet_step ((go_at_call 39; exact Calls.regrown_of (HC.out _ _))) | quiet_step ((go_at_call 39; exact Calls.regrown_of (HC.out _ _)))))
  refine wpQuiet_nil ?_
  intro _ hw'
  obtain ⟨⟨dq, osq⟩, hw''⟩ := hw'
  subst hw''
  have HB2 : Hid (Below w1.heap.size w1 (grow (redrawn w1 dq) osq)) := Lib.hid (below_regrown w1 dq osq)
  clear hc3 hd0 hd1 e0
  go_wp2
  go_loopw [12, 11] (fun s12 s11 wr => ∃ (j : Nat) (z : Int), j ≤ l.length ∧ s12 = .int .i64 j ∧ s11 = .int .i64 z ∧ 0 ≤ z ∧ z ≤ 4096 * j ∧ Hid (sm ks j = z) ∧ Hid (fidx (l.take j) nm = none) ∧ Hid (Below w1.heap.size w1 wr)) (fun i _ wr => l.length - (intOf i).toNat)
  case atStart => exact ⟨0, 0, Nat.zero_le _, rfl, rfl, by omega, by omega, Lib.hid rfl, Lib.hid rfl, HB2⟩
  case round =>
    obtain ⟨j, z, hj, rfl, rfl, hz0, hz1, HZ, HF, HBR⟩ := hrel
    by_cases hlt : j < l.length
    · obtain ⟨f, hf⟩ : ∃ f, l[j]? = some f := ⟨_, List.getElem?_eq_getElem hlt⟩
      have HFJ := Lib.hid hf
      have hB3 := HB.out.trans (HBR.out.mono HB.out.size)
      have hrow := (HFV.out _ hB3).2
      obtain ⟨gg, cap2, hg, _, hgl2⟩ := hrow.form (by omega)
      simp only [Value.slice.injEq] at hg
      obtain ⟨rfl, _, rfl⟩ := hg
      have hc := hrow.cells (g := gg) rfl
      have q0 : wr.cell? ⟨gg, j * 2, none⟩ = some (.string (bs f.1)) := by
        have := hc (j * 2 + 0) (.string (bs f.1)) (by rw [flCells_at l j 0 f hf (by omega)]; rfl)
        rwa [add_off] at this
      have q1 : wr.cell? ⟨gg, j * 2 + 1, none⟩ = some (.int .i64 f.2) := by
        have := hc (j * 2 + 1) (.int .i64 f.2) (by rw [flCells_at l j 1 f hf (by omega)]; rfl)
        rwa [add_off] at this
      by_cases hx : f.1 = nm
      · have HP : Hid (rpick l ks nm = (z, f.2, true)) := Lib.hid (by unfold rpick; rw [fidx_here HF.out hf hx]; simp only; rw [HZ.out, List.getD_eq_getElem?_getD, hf]; rfl)
        subst hx
        clear hf hB3 hrow hc
        go_wp2
        go_quiet (fail)
        go_wp2
        go_ret3
        exact ⟨by rw [HP.out]; rfl, HB.out.trans ((HBR.out.trans (below_drewN _ _ _)).mono HB.out.size)⟩
      · have HNX := Lib.hid (fidx_next HF.out hf hx)
        have hbx : (f.1 == nm) = false := by simpa using hx
        have q1' : ∀ dd os, (grow (redrawn wr dd) os).cell? ⟨gg, j * 2 + 1, none⟩ = some (.int .i64 f.2) := fun dd os => cell_regrown q1 dd os
        have r0 : wr.cell? ⟨w.heap.size, 0, none⟩ = some (.slice (some ⟨g, 0, none⟩) T.length lc) := (HBR.out.cell (p := ⟨w.heap.size, 0, none⟩) dz).trans d0
        have r1 : wr.cell? ⟨w.heap.size, 1, none⟩ = some (.slice da dn dc) := (HBR.out.cell (p := ⟨w.heap.size, 1, none⟩) dz).trans d1
        have r0' : ∀ dd os, (grow (redrawn wr dd) os).cell? ⟨w.heap.size, 0, none⟩ = some (.slice (some ⟨g, 0, none⟩) T.length lc) := fun dd os => cell_regrown r0 dd os
        have r1' : ∀ dd os, (grow (redrawn wr dd) os).cell? ⟨w.heap.size, 1, none⟩ = some (.slice da dn dc) := fun dd os => cell_regrown r1 dd os
        have HB3 := Lib.hid hB3
        obtain ⟨c, hcq⟩ : ∃ c, ks j = c := ⟨_, rfl⟩
        have hkj := HKS.out j hlt
        have HCQ := Lib.hid hcq
        rw [hcq] at hkj
        obtain ⟨hk0, hk1⟩ := hkj
        have HCS : Hid (∀ dd os, Calls Tryd.prog 30 #[.agg #[.slice (some ⟨g, 0, none⟩) T.length lc, .slice da dn dc], .int .i64 f.2] (grow (redrawn wr dd) os) fun x w' => x = .returned (.int .i64 c) ∧ Below (grow (redrawn wr dd) os).heap.size (grow (redrawn wr dd) os) w') :=
          Lib.hid (fun dd os => by have := r_size (IH.out j f hf) _ ((H.out.below HB3.out).below (below_regrown wr dd os)); rw [HCQ.out] at this; exact this)
        clear hf hB3 hrow hc hcq r0 r1 hx
        go_wp2
        refine wp_region_quiet_below (by kernel_rfl) (by kernel_rfl) ?_
        repeat (any_goals (first | go_big_quiet_step ((go_at_call 30; exact Calls.regrown_of (HCS.out _ _))) | quiet_step ((go_at_call 30; exact Calls.regrown_of (HCS.out _ _)))))
        refine wpQuiet_nil ?_
        intro _ hw'
        obtain ⟨⟨dq2, osq2⟩, hw''⟩ := hw'
        subst hw''
        go_wp2
        go_roundw
        case rel => exact ⟨j + 1, z + c, by omega, by go_num, by go_num, by omega, by omega, Lib.hid (by simp only [sm]; rw [HZ.out, HCQ.out]), HNX, Lib.hid (HBR.out.trans ((below_regrown wr dq2 osq2).mono HBR.out.size))⟩
        case measure => simp [intOf]; omega
    · have hn : fidx l nm = none := by have := HF.out; rwa [List.take_of_length_le (by omega)] at this
      have HP : Hid (rpick l ks nm = (0, 0, false)) := Lib.hid (by unfold rpick; rw [hn])
      clear hn
      go_wp2
      go_ret3
      exact ⟨by rw [HP.out]; rfl, HB.out.trans (HBR.out.mono HB.out.size)⟩
end Go.Proofs.YtemnlkgjgalipaaDoor
