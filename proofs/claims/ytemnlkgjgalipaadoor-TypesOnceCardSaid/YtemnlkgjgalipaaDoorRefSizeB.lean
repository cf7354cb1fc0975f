/-
  The contract of the reference's Size.
-/
import Derived.Test.YtemnlkgjgalipaaDoorRefSize
namespace Go.Proofs.YtemnlkgjgalipaaDoor
open Go.RowKit Go.Maps Tp Go.Sort
set_option linter.unusedVariables false

theorem regrown_cells {w w1 : World} (hb : Below w.heap.size w w1) {g o : Nat} {v : Value} (hg : g < w.heap.size) (h : w.cell? ⟨g, o, none⟩ = some v) : ∀ d os, (grow (redrawn w1 d) os).cell? ⟨g, o, none⟩ = some v := fun d os =>
  cell_regrown ((hb.cell (p := ⟨g, o, none⟩) hg).trans h) d os
set_option maxHeartbeats 1000000 in
set_option maxRecDepth 100000 in
theorem sz_arr {w : World} {T : Tab} {D : Dl} {la : Option Addr} {lc : Nat} {da : Option Addr} {dn dc : Nat} (h : SzIn w T D la lc da dn dc) (i : Nat) (e : En) (k : Int) (hi : T[i]? = some e) (hk : e.self.kind = 5) (k0 : 0 < k) (k1 : k ≤ 4096) (n0 : 0 ≤ e.self.n) (n1 : e.self.n ≤ 1024)
    (ih : ∀ w', SzIn w' T D la lc da dn dc → Calls Tryd.prog 30 #[.agg #[.slice la T.length lc, .slice da dn dc], .int .i64 e.self.elem] w' (SizePost k w')) :
    Calls Tryd.prog 30 #[.agg #[.slice la T.length lc, .slice da dn dc], .int .i64 i] w (SizePost (k * e.self.n) w) := by
  have hil : i < T.length := (List.getElem?_eq_some_iff.1 hi).1
  have H := Lib.hid h
  have IH := Lib.hid ih
  obtain ⟨g, rfl, hgl, c0, c1, c2, c3⟩ := h.cells hi
  have HN : Hid (ent T i = some e) := Lib.hid (by rw [ent_nat]; exact hi)
  clear h hi ih c3
  have i0 : (0 : Int) ≤ (i : Int) := Int.natCast_nonneg _
  have i1 : (i : Int) < (T.length : Int) := by omega
  have hT := H.out.few
  have b0 : ((e.self.kind : Int) == 0) = false := by simp; omega
  have b5 : ((e.self.kind : Int) == 5) = true := by simp [hk]
  have p0 : 0 ≤ k * e.self.n := Int.mul_nonneg (by omega) n0
  have p1 : k * e.self.n ≤ 4096 * 1024 := Int.mul_le_mul k1 n1 n0 (by omega)
  have hw : IntKind.i64.wrap (k * e.self.n) = k * e.self.n := IntWalk.i64_in _ (by omega)
  clear hk
  go_enter Tryd.func30, Tryd.ntmps30
  go_wp2_with fail
  refine ((H.out.below ((Below.refl _ _).alloc (Nat.le_refl _) _)).is i).mono ?_
  rw [HN.out]
  rintro x w1 ⟨rfl, hb⟩
  have HB : Hid (Below w.heap.size w w1) := Lib.hid (((Below.refl _ _).alloc (Nat.le_refl _) _).trans (hb.mono (by simp)))
  obtain ⟨d, _, dz⟩ := kept_new hb
  have d0 := d 0
  have d1 := d 1
  have e0 := (HB.out.cell (p := ⟨g, i * 4, none⟩) hgl).trans c0
  have hc1 := regrown_cells HB.out hgl c1
  have hc2 := regrown_cells HB.out hgl c2
  have hd0 : ∀ dd os, (grow (redrawn w1 dd) os).cell? ⟨w.heap.size, 0, none⟩ = some (.slice (some ⟨g, 0, none⟩) T.length lc) := fun dd os => cell_regrown d0 dd os
  have hd1 : ∀ dd os, (grow (redrawn w1 dd) os).cell? ⟨w.heap.size, 1, none⟩ = some (.slice da dn dc) := fun dd os => cell_regrown d1 dd os
  have HC : Hid (∀ dd os, Calls Tryd.prog 30 #[.agg #[.slice (some ⟨g, 0, none⟩) T.length lc, .slice da dn dc], .int .i64 e.self.elem] (grow (redrawn w1 dd) os) fun x w' => x = .returned (.int .i64 k) ∧ Below (grow (redrawn w1 dd) os).heap.size (grow (redrawn w1 dd) os) w') :=
    Lib.hid (fun dd os => IH.out _ ((H.out.below HB.out).below (below_regrown w1 dd os)))
  clear hb d c0 c1 c2
  go_wp2
  refine wp_region_quiet_below (by kernel_rfl) (by kernel_rfl) ?_
  repeat (any_goals (first | go_big_quiet_step ((go_at_call 30; exact Calls.regrown_of (HC.out _ _))) | quiet_step ((go_at_call 30; exact Calls.regrown_of (HC.out _ _)))))
  refine wpQuiet_nil ?_
  intro _ hw'
  obtain ⟨⟨dq, osq⟩, hw''⟩ := hw'
  subst hw''
  go_wp2
  go_ret
  exact ⟨rfl, HB.out.trans ((below_regrown w1 dq osq).mono HB.out.size)⟩
/-- The walk of a struct's size, up to its fields. -/
def fvOf (o : Option (List UInt8 × List Fl)) (fv : Value) (w : World) : Prop := match o with | none => fv = .slice none 0 0 | some d => w.ownsRow 0 64 2 fv d.2.length (flCells d.2)
set_option maxHeartbeats 2000000 in
set_option maxRecDepth 100000 in
theorem sz_str {w : World} {T : Tab} {D : Dl} {la : Option Addr} {lc : Nat} {da : Option Addr} {dn dc : Nat} (h : SzIn w T D la lc da dn dc) (i : Nat) (e : En) (ks : Nat → Int) (l : List Fl) (hi : T[i]? = some e) (hk : e.self.kind = 6)
    (hd : match dfind D e.self.name with | none => l = [] | some d => l = d.2) (hks : ∀ j, j < l.length → 0 < ks j ∧ ks j ≤ 4096) (hl : l.length ≤ 1000)
    (ih : ∀ (j : Nat) (f : Fl), l[j]? = some f → ∀ w', SzIn w' T D la lc da dn dc → Calls Tryd.prog 30 #[.agg #[.slice la T.length lc, .slice da dn dc], .int .i64 f.2] w' (SizePost (ks j) w')) :
    Calls Tryd.prog 30 #[.agg #[.slice la T.length lc, .slice da dn dc], .int .i64 i] w (SizePost (sm ks l.length) w) := by
  have hil : i < T.length := (List.getElem?_eq_some_iff.1 hi).1
  have H := Lib.hid h
  have IH := Lib.hid ih
  have HKS := Lib.hid hks
  have HSM := Lib.hid (sm_le ks l.length hks)
  obtain ⟨g, rfl, hgl, c0, c1, c2, c3⟩ := h.cells hi
  have HN : Hid (ent T i = some e) := Lib.hid (by rw [ent_nat]; exact hi)
  -- what Fields tells, in whatever world behind this one
  have hfv : ∃ a n c b, n = l.length ∧ ∀ w', Below w.heap.size w w' → (Calls Tryd.prog 39 #[.agg #[.slice (some ⟨g, 0, none⟩) T.length lc, .slice da dn dc], .string (bs e.self.name)] w' fun x w'' => x = .returned (.tuple #[.slice a n c, .bool b]) ∧ Below w'.heap.size w' w'') ∧ w'.ownsRow 0 64 2 (.slice a n c) l.length (flCells l) := by
    obtain ⟨F, Y, h1, rfl, rfl⟩ := h.ref
    rw [yfind_map] at hd
    cases hy : yfind Y e.self.name with
    | none =>
      rw [hy] at hd
      have hd : l = [] := hd
      subst hd
      exact ⟨none, 0, 0, false, rfl, fun w' hb => ⟨by have := r_fields (h1.below hb) h.few2 e.self.name; rw [hy] at this; exact this, World.ownsRow_nil _ _ _ _⟩⟩
    | some y =>
      rw [hy] at hd
      have hd : l = y.1.2 := hd
      subst hd
      have hrow := (h1.each y (List.mem_of_find?_eq_some hy)).1
      obtain ⟨a, c, hv⟩ := row_len hrow
      refine ⟨a, _, c, true, rfl, fun w' hb => ⟨?_, ?_⟩⟩
      · have := r_fields (h1.below hb) h.few2 e.self.name
        rw [hy] at this
        refine this.mono ?_
        rintro x w'' ⟨rfl, hb'⟩
        exact ⟨by rw [← hv]; rfl, hb'⟩
      · rw [← hv]
        exact ((h1.below hb).each y (List.mem_of_find?_eq_some hy)).1
  obtain ⟨fa, fn, fc, fb, rfl, hfv⟩ := hfv
  have HFV := Lib.hid hfv
  clear h hi ih c1 c2 hd hks hfv
  have i0 : (0 : Int) ≤ (i : Int) := Int.natCast_nonneg _
  have i1 : (i : Int) < (T.length : Int) := by omega
  have hT := H.out.few
  have b0 : ((e.self.kind : Int) == 0) = false := by simp; omega
  have b5 : ((e.self.kind : Int) == 5) = false := by simp; omega
  have b6 : ((e.self.kind : Int) == 6) = true := by simp [hk]
  clear hk
  go_enter Tryd.func30, Tryd.ntmps30
  go_wp2_with fail
  refine ((H.out.below ((Below.refl _ _).alloc (Nat.le_refl _) _)).is i).mono ?_
  rw [HN.out]
  rintro x w1 ⟨rfl, hb⟩
  have HB : Hid (Below w.heap.size w w1) := Lib.hid (((Below.refl _ _).alloc (Nat.le_refl _) _).trans (hb.mono (by simp)))
  obtain ⟨d, _, dz⟩ := kept_new hb
  have d0 := d 0
  have d1 := d 1
  have e0 := (HB.out.cell (p := ⟨g, i * 4, none⟩) hgl).trans c0
  have hc3 := regrown_cells HB.out hgl c3
  have hd0 : ∀ dd os, (grow (redrawn w1 dd) os).cell? ⟨w.heap.size, 0, none⟩ = some (.slice (some ⟨g, 0, none⟩) T.length lc) := fun dd os => cell_regrown d0 dd os
  have hd1 : ∀ dd os, (grow (redrawn w1 dd) os).cell? ⟨w.heap.size, 1, none⟩ = some (.slice da dn dc) := fun dd os => cell_regrown d1 dd os
  have HC : Hid (∀ dd os, Calls Tryd.prog 39 #[.agg #[.slice (some ⟨g, 0, none⟩) T.length lc, .slice da dn dc], .string (bs e.self.name)] (grow (redrawn w1 dd) os) fun x w' => x = .returned (.tuple #[.slice fa l.length fc, .bool fb]) ∧ Below (grow (redrawn w1 dd) os).heap.size (grow (redrawn w1 dd) os) w') :=
    Lib.hid (fun dd os => (HFV.out _ (HB.out.trans ((below_regrown w1 dd os).mono HB.out.size))).1)
  clear hb d c0 c3
  go_wp2
  refine wp_region_quiet_below (by kernel_rfl) (by kernel_rfl) ?_
  repeat (any_goals (first | go_big_quiet_step ((go_at_call 39; exact Calls.regrown_of (HC.out _ _))) | quiet_step ((go_at_call 39; exact Calls.regrown_of (HC.out _ _)))))
  refine wpQuiet_nil ?_
  intro _ hw'
  obtain ⟨⟨dq, osq⟩, hw''⟩ := hw'
  subst hw''
  have HB2 : Hid (Below w1.heap.size w1 (grow (redrawn w1 dq) osq)) := Lib.hid (below_regrown w1 dq osq)
  clear hc3 hd0 hd1 e0
  go_wp2
  go_loopw [8, 7] (fun s8 s7 wr => ∃ (j : Nat) (z : Int), j ≤ l.length ∧ s8 = .int .i64 j ∧ s7 = .int .i64 z ∧ 0 ≤ z ∧ z ≤ 4096 * j ∧ Hid (sm ks j = z) ∧ Hid (Below w1.heap.size w1 wr)) (fun i _ wr => l.length - (intOf i).toNat)
  case atStart => exact ⟨0, 0, Nat.zero_le _, rfl, rfl, by omega, by omega, Lib.hid rfl, HB2⟩
  case round =>
    obtain ⟨j, z, hj, rfl, rfl, hz0, hz1, HZ, HBR⟩ := hrel
    by_cases hlt : j < l.length
    · obtain ⟨f, hf⟩ : ∃ f, l[j]? = some f := ⟨_, List.getElem?_eq_getElem hlt⟩
      have hB3 := HB.out.trans (HBR.out.mono HB.out.size)
      have hrow := (HFV.out _ hB3).2
      obtain ⟨gg, cap2, hg, _, hgl2⟩ := hrow.form (by omega)
      simp only [Value.slice.injEq] at hg
      obtain ⟨rfl, _, rfl⟩ := hg
      have hc := hrow.cells (g := gg) rfl
      have q1 : wr.cell? ⟨gg, j * 2 + 1, none⟩ = some (.int .i64 f.2) := by
        have := hc (j * 2 + 1) (.int .i64 f.2) (by rw [flCells_at l j 1 f hf (by omega)]; rfl)
        rwa [add_off] at this
      have q1' : ∀ dd os, (grow (redrawn wr dd) os).cell? ⟨gg, j * 2 + 1, none⟩ = some (.int .i64 f.2) := fun dd os => cell_regrown q1 dd os
      have r0 : wr.cell? ⟨w.heap.size, 0, none⟩ = some (.slice (some ⟨g, 0, none⟩) T.length lc) := (HBR.out.cell (p := ⟨w.heap.size, 0, none⟩) dz).trans d0
      have r1 : wr.cell? ⟨w.heap.size, 1, none⟩ = some (.slice da dn dc) := (HBR.out.cell (p := ⟨w.heap.size, 1, none⟩) dz).trans d1
      have r0' : ∀ dd os, (grow (redrawn wr dd) os).cell? ⟨w.heap.size, 0, none⟩ = some (.slice (some ⟨g, 0, none⟩) T.length lc) := fun dd os => cell_regrown r0 dd os
      have r1' : ∀ dd os, (grow (redrawn wr dd) os).cell? ⟨w.heap.size, 1, none⟩ = some (.slice da dn dc) := fun dd os => cell_regrown r1 dd os
      have HB3 := Lib.hid hB3
      obtain ⟨c, hcq⟩ : ∃ c, ks j = c := ⟨_, rfl⟩
      have hkj := HKS.out j hlt
      have HCQ := Lib.hid hcq
      rw [hcq] at hkj
      obtain ⟨hk0, hk1⟩ := hkj
      have HCS : Hid (∀ dd os, Calls Tryd.prog 30 #[.agg #[.slice (some ⟨g, 0, none⟩) T.length lc, .slice da dn dc], .int .i64 f.2] (grow (redrawn wr dd) os) fun x w' => x = .returned (.int .i64 c) ∧ Below (grow (redrawn wr dd) os).heap.size (grow (redrawn wr dd) os) w') :=
        Lib.hid (fun dd os => by have := IH.out j f hf _ ((H.out.below HB3.out).below (below_regrown wr dd os)); rw [HCQ.out] at this; exact this)
      clear hf hB3 hrow hc hcq q1 r0 r1
      go_wp2
      refine wp_region_quiet_below (by kernel_rfl) (by kernel_rfl) ?_
      repeat (any_goals (first | go_big_quiet_step ((go_at_call 30; exact Calls.regrown_of (HCS.out _ _))) | quiet_step ((go_at_call 30; exact Calls.regrown_of (HCS.out _ _)))))
      refine wpQuiet_nil ?_
      intro _ hw'
      obtain ⟨⟨dq2, osq2⟩, hw''⟩ := hw'
      subst hw''
      go_wp2
      go_roundw
      case rel => exact ⟨j + 1, z + c, by omega, by go_num, by go_num, by omega, by omega, Lib.hid (by simp only [sm]; rw [HZ.out, HCQ.out]), Lib.hid (HBR.out.trans ((below_regrown wr dq2 osq2).mono HBR.out.size))⟩
      case measure => simp [intOf]; omega
    · obtain rfl : j = l.length := by omega
      go_wp2
      go_ret
      exact ⟨by rw [HZ.out]; rfl, HB.out.trans (HBR.out.mono HB.out.size)⟩
/-- The reference's Size, of whatever number of which something is told. -/
theorem r_size {T : Tab} {D : Dl} {la : Option Addr} {lc : Nat} {da : Option Addr} {dn dc : Nat} {n k : Int} (hS : RS T D n k) : ∀ w, SzIn w T D la lc da dn dc →
    Calls Tryd.prog 30 #[.agg #[.slice la T.length lc, .slice da dn dc], .int .i64 n] w (SizePost k w) := by
  induction hS with
  | out n h => exact fun w hw => sz_out hw n h
  | void i e h hk => exact fun w hw => by have := sz_flat hw i e h (.inl hk); rwa [if_pos hk] at this
  | arr i e k h hk hr h0 h1 h2 h3 ih => exact fun w hw => sz_arr hw i e k h hk h0 h1 h2 h3 ih
  | undef i e h hk hd => exact fun w hw => sz_str hw i e (fun _ => 1) [] h hk (by rw [hd]) (fun j hj => by simp at hj) (by simp) (fun j f hf => by simp at hf)
  | str i e ks d h hk hd hr h0 hl ih => exact fun w hw => sz_str hw i e ks d.2 h hk (by rw [hd]) h0 hl ih
  | one i e h hk => exact fun w hw => by have := sz_flat hw i e h (.inr hk); rwa [if_neg (by omega)] at this
end Go.Proofs.YtemnlkgjgalipaaDoor
