/-
  Layer 9: contract of Above.
-/
import Derived.Test.YtbpagfddofbjbaaQG9F
import Derived.Test.YtbpagfddofbjbaaQG9I
import Derived.Deep.DeepCutAuto
namespace Go.Proofs.Ytbpagfddofbjbaa
set_option maxRecDepth 100000
open Go.RowKit Cd Go.Maps
set_option linter.unusedVariables false
set_option linter.unusedSimpArgs false

theorem one_row {w : World} {b : Nat} (h : w.heap[b]? = some (.cells #[.int .i64 (-1)] 3)) : IRow w b [-1] := h
theorem repeat_e (m xb : Nat) (hm : m ≤ 10000) (w : World) (hx : IRow w xb [-1]) : Calls Try.prog 63 #[.slice (some ⟨xb, 0, none⟩) 1 1, .int .i64 (m : Int)] w fun e w' => ∃ b, e = .returned (.slice (some ⟨b, 0, none⟩) m m) ∧ w.heap.size ≤ b ∧ IRow w' b (List.replicate m (-1)) ∧ Below w.heap.size w w' :=
  (repeat_c m xb hm w hx).mono fun e w' ⟨h1, h2, h3⟩ => ⟨_, h1, Nat.le_refl _, h2, h3⟩
set_option maxHeartbeats 8000000 in
theorem above_g (r : FnR) (w : World) (h : FnOk w r) (G : List (List Int)) (hG : followG r.f = G) : Calls Try.prog 25 #[fnV r] w (fun e w' => ∃ s, Ended G s ∧ ∃ b, e = .returned (.slice (some ⟨b, 0, none⟩) G.length G.length) ∧ IRow w' b (upS s.ent (abOf G s) G.length s.ent.length) ∧ Below w.heap.size w w') := by
  have hmix : Try.prog.follows .mixedOrders = true := by kernel_rfl
  have hok := followG_ok r.f
  rw [hG] at hok
  have H := Lib.hid (h.below (bx1_below w r)); have HOK := Lib.hid hok; have HG := Lib.hid hG
  have hgl : G.length ≤ 10000 := by have := hok.2.1; omega
  have htl := turned_len G
  have HTV := Lib.hid (turned_vals hok.1 hgl)
  clear h hok hG
  obtain ⟨i0, hi0, hz0, hz1, hz2⟩ := info_parts infoInt
  obtain ⟨x0, x1, x2, x3, x4⟩ := nv5 (heap_alloc_new w (fnO r))
  go_enter Try.func25, Try.ntmps25
  go_wp2_with (first | ((with_reducible refine (follows_v H.out G HG.out).mono ?_); rintro e w1 ⟨ga, gc, rfl, hg, hb1⟩; have HG1 := Lib.hid hg; have HB1 := Lib.hid ((bx1_below w r).trans (hb1.mono (by simp))); clear hg hb1) | ((with_reducible refine (depth_any G ga gc _ HG1.out HOK.out.1 hgl (fun l hl => by have := HOK.out.2.2 l hl; omega)).mono ?_); rintro e w3 ⟨s, hs, hsp, a1, c1, a2, c2, a3, c3, mb, rfl, hl1, hl2, hl3, hl4, hl5, hb3⟩; have HS : Hid (Ended G s) := Lib.hid (And.intro hs hsp); have HWK := Lib.hid (wk_of (a3 := a3) (l := s.lft) hl1 hl2 hl5); have HB3 := Lib.hid (HB1.out.trans (hb3.mono HB1.out.size)); have HG3 := Lib.hid (RowsAt.mono (HG1.out.below hb3) hb3.size (Nat.le_refl _)); have hsl := (dfs_lens HOK.out.1 hs); have HSL := Lib.hid hsl; have hsm : s.ent.length ≤ 10000 := (by omega); clear hs hsp hl1 hl2 hl3 hl4 hl5 hb3 hsl; have HX3 := Lib.hid (heap_alloc_new w3 (wkO (.slice a1 s.ent.length c1) (.slice a2 s.par.length c2) (.slice a3 s.lft.length c3) (.map (some mb)))); have HBX := Lib.hid ((Below.refl w3.heap.size w3).alloc (Nat.le_refl _) (wkO (.slice a1 s.ent.length c1) (.slice a2 s.par.length c2) (.slice a3 s.lft.length c3) (.map (some mb))))) | ((with_reducible refine (repeat_e G.length (w3.heap.size + 1) hgl _ (one_row (by have q := heap_alloc_new (w3.alloc (wkO (.slice a1 s.ent.length c1) (.slice a2 s.par.length c2) (.slice a3 s.lft.length c3) (.map (some mb)))) (.cells #[.int .i64 (-1)] 3); rw [World.size_alloc] at q; exact q))).mono ?_); rintro e w4 ⟨b, rfl, hbs, hrp, hb4⟩; have HRP := Lib.hid hrp; have HB4 := Lib.hid ((HBX.out.alloc HBX.out.size _).trans (hb4.mono (by simp <;> omega))); have HX4 := Lib.hid ((hb4.block w3.heap.size (by simp <;> omega)).trans ((Below.heap_alloc _ _ _ (by simp)).trans HX3.out)); have hbs1 : w3.heap.size + 2 ≤ b := (by simpa using hbs); clear hrp hb4 hbs))
  have hx4 : w3.heap.size < w4.heap.size := by have := HB4.out.size; have := HRP.out.lt; omega
  obtain ⟨y0, y1, y2, y3⟩ := nv4 HX4.out
  go_cut [19, 20, 21] from 16 to 21 (fun s19 s20 s21 wx => ∃ ab, s19 = .slice (some ⟨ab, 0, none⟩) s.ent.length s.ent.length ∧ s20 = .int .i64 (s.ent.length : Int) ∧ s21 = .int .i64 0 ∧ w4.heap.size ≤ ab ∧ Hid (IRow wx ab (abOf G s)) ∧ Hid (Below w4.heap.size w4 wx))
  case first =>
    go_region_with (first | ((with_reducible refine (turned_c G ga gc _ (RowsAt.mono (HG3.out.below (drW HB4.out)) (drW HB4.out).size (Nat.le_refl _)) HOK.out.1 hgl (fun l hl => by have := HOK.out.2.2 l hl; omega)).mono ?_); rintro e w5 ⟨ta, tc, rfl, ht, hb5⟩; have HT5 := Lib.hid ht; have HC5 : Hid (Below w4.heap.size w4 w5) := Lib.hid ((drW (Below.refl w4.heap.size w4)).trans hb5); have HX5 := Lib.hid ((HC5.out.block _ hx4).trans HX4.out); obtain ⟨z0, z1, z2, z3⟩ := nv4 HX5.out; clear ht hb5) | ((with_reducible refine (htl ▸ dominators_c (turned G) ta tc s.ent s.par a1 a2 c1 c2 mb (.slice a3 s.lft.length c3) _ HT5.out (HWK.out.below (HB4.out.trans (HC5.out.mono HB4.out.size))) (by rw [htl]; exact HSL.out.2.2.2) (HS.out.par HOK.out.1) hsm HTV.out.1 HTV.out.2.1 HTV.out.2.2).mono ?_); rintro e w6 ⟨ab, rfl, hab, hrow, hb6⟩; have HAB := Lib.hid hrow; have HC6 : Hid (Below w4.heap.size w4 w6) := Lib.hid (HC5.out.trans (hb6.mono HC5.out.size)); have hab1 : w4.heap.size ≤ ab := (by have := HC5.out.size; omega); clear hrow hb6 hab))
    all_goals (go_wp2; go_meet; case rel => exact ⟨ab, rfl, rfl, rfl, hab1, HAB, HC6⟩)
  case rest =>
    obtain ⟨ab, rfl, rfl, rfl, hab1, HAB, HC6⟩ := hcut
    obtain ⟨hABl, hABo⟩ := HS.out.ab HOK.out.1
    obtain ⟨AB, hABe⟩ : ∃ AB, abOf G s = AB := ⟨_, rfl⟩
    rw [hABe] at HAB hABl hABo
    have HABE := Lib.hid hABe
    have HABO := Lib.hid hABo
    have hmx : ∀ y ∈ s.ent, 0 ≤ y ∧ y < (G.length : Int) := HSL.out.2.2.2
    have HMX := Lib.hid hmx
    have HRP6 : Hid (IRow wc b (upS s.ent AB G.length 0)) := Lib.hid (VRow.below HRP.out HC6.out HRP.out.lt)
    have hb4 := HRP.out.lt
    have HC64 : Hid (∀ g, g < w3.heap.size → wc.heap[g]? = w3.heap[g]?) := Lib.hid (fun g hg => (HC6.out.block g (by have := HB4.out.size; omega)).trans (HB4.out.block g hg))
    have hs4 := HB4.out.size
    clear hmx hABo hABe y0 y1 y2 y3 x0 x1 x2 x3 x4
    go_wp2
    go_loopw [21] (fun s21 wr => ∃ k : Nat, k ≤ s.ent.length ∧ s21 = .int .i64 (k : Int) ∧ Hid (IRow wr b (upS s.ent AB G.length k)) ∧ Hid (∀ g, g ≠ b → g < wc.heap.size → wr.heap[g]? = wc.heap[g]?) ∧ Hid (Below w3.heap.size w3 wr) ∧ wc.heap.size ≤ wr.heap.size) (fun s21 wr => s.ent.length - (intOf s21).toNat)
    case atStart => exact ⟨0, by omega, rfl, HRP6, Lib.hid (fun _ _ _ => rfl), Lib.hid (HB4.out.trans (HC6.out.mono hs4)), Nat.le_refl _⟩
    case round =>
      obtain ⟨k, hk, rfl, HA, HKP, HBR, hsz⟩ := hrel
      have k0 : (0 : Int) ≤ (k : Int) := Int.natCast_nonneg _
      have hsx : w4.heap.size ≤ wc.heap.size := HC6.out.size
      have habl := HAB.out.lt
      by_cases hlt : k < s.ent.length
      · have k1 : (k : Int) < (s.ent.length : Int) := by omega
        have habk := HABO.out k hlt
        have ck := gt_cell HAB.out hABl hlt
        obtain ⟨dv, hdv⟩ : ∃ dv, Cd.gt AB (k : Int) = dv := ⟨_, rfl⟩
        have hne : ab ≠ b := by omega
        have ck2 : wr.cell? ⟨ab, k, none⟩ = some (.int .i64 dv) := by rw [← hdv]; exact (World.cell?_of_block (HKP.out ab hne habl)).trans ck
        by_cases hd1 : dv = -1
        · have t0 : (dv == -1) = true := by simpa using hd1
          have HU : Hid (upS s.ent AB G.length (k + 1) = upS s.ent AB G.length k) := Lib.hid (by rw [upS, if_pos (hdv.trans hd1)])
          subst hd1
          clear hdv ck t0
          go_wp2
          go_roundw
          case rel => exact ⟨k + 1, by omega, by go_num, by rw [HU.out]; exact HA, HKP, HBR, hsz⟩
          case measure => simp [intOf]; omega
        · have t0 : (dv == -1) = false := by simpa using hd1
          rw [hdv] at habk
          obtain ⟨d, rfl⟩ : ∃ d : Nat, dv = (d : Int) := ⟨dv.toNat, by omega⟩
          have hek := gt_nat (l := s.ent) rfl hlt
          have hed := gt_nat (l := s.ent) rfl (n := d) (by omega)
          obtain ⟨pe, hpe⟩ : ∃ pe, Cd.gt s.ent (k : Int) = pe := ⟨_, rfl⟩
          obtain ⟨v, hv⟩ : ∃ v, Cd.gt s.ent (d : Int) = v := ⟨_, rfl⟩
          have HU : Hid (upS s.ent AB G.length (k + 1) = (upS s.ent AB G.length k).set pe.toNat v) := Lib.hid (by rw [upS, if_neg (by rw [hdv]; exact hd1), hdv, hpe, hv])
          rw [hpe] at hek
          rw [hv] at hed
          have hpin := HMX.out pe (List.mem_of_getElem? hek)
          obtain ⟨p, rfl⟩ : ∃ p : Nat, pe = (p : Int) := ⟨pe.toNat, by omega⟩
          obtain ⟨pb, poff, hpa, hpb, _, hpc⟩ := IntsAt.cellsB HWK.out.ent hek
          obtain ⟨pb2, poff2, hpa2, _, _, hpc2⟩ := IntsAt.cellsB HWK.out.ent hed
          rw [hpa] at hpa2
          injection hpa2 with hpa2
          injection hpa2 with e1 e2 _
          subst e1 e2
          subst hpa
          have hpbk : ∀ {q : Nat} {u : Value}, w3.cell? ⟨pb, poff + q, none⟩ = some u → wr.cell? ⟨pb, poff + q, none⟩ = some u := fun {q u} hq => (World.cell?_of_block ((HKP.out pb (by omega) (by omega)).trans (HC64.out pb hpb))).trans hq
          have ce := hpbk hpc
          have cd := hpbk hpc2
          have HX6 := Lib.hid (((HKP.out w3.heap.size (by omega) (by omega)).trans (HC6.out.block _ (by omega))).trans HX4.out)
          obtain ⟨x0, x1, x2, x3⟩ := nv4 HX6.out
          have p0 : (0 : Int) ≤ (p : Int) := Int.natCast_nonneg _
          have p1 : (p : Int) < (G.length : Int) := hpin.2
          have d0 : (0 : Int) ≤ (d : Int) := Int.natCast_nonneg _
          have d1 : (d : Int) < (s.ent.length : Int) := by omega
          have hul := upS_len s.ent AB G.length k
          have ca : wr.drew.cell? ⟨b, p, none⟩ = some (.int .i64 (Cd.gt (upS s.ent AB G.length k) (p : Int))) := gt_cell (w := wr.drew) HA.out hul (by omega)
          have fa : wr.drew.frozen? ⟨b, p, none⟩ = false := VRow.frozen (w := wr.drew) HA.out p
          clear hek hed hpe hv hpc hpc2 hpbk ck habk hdv hd1 x1 x2 x3 hpin
          go_wp2
          refine region_last (fun W : World => W.cell? ⟨w3.heap.size, 0, none⟩ = some (.slice (some ⟨pb, poff, none⟩) s.ent.length c1) ∧ W.cell? ⟨pb, poff + k, none⟩ = some (.int .i64 (p : Int)) ∧ W.cell? ⟨pb, poff + d, none⟩ = some (.int .i64 v)) 1000000 hmix ?_
          have hS : (fun W : World => W.cell? ⟨w3.heap.size, 0, none⟩ = some (.slice (some ⟨pb, poff, none⟩) s.ent.length c1) ∧ W.cell? ⟨pb, poff + k, none⟩ = some (.int .i64 (p : Int)) ∧ W.cell? ⟨pb, poff + d, none⟩ = some (.int .i64 v)) _ := ⟨x0, ce, cd⟩
          refine anyL_takeH (i := 0) (v := ?_) rfl (by decide) (by kernel_rfl) (by kernel_rfl) (by kernel_rfl) (fun _ _ _ h => h) (Or.inl ⟨by rfl, ?_⟩) hS ?_
          rotate_left
          · (intro w' hSw; obtain ⟨s1, s2, s3⟩ := hSw; go_simp; first | done | with_reducible rfl)
          simp only [Act.put, List.getElem_toArray, List.getElem_cons_succ, List.getElem_cons_zero, List.setIfInBounds_toArray, List.set_cons_succ, List.set_cons_zero]
          refine anyL_takeH (i := 1) (v := ?_) rfl (by decide) (by kernel_rfl) (by kernel_rfl) (by kernel_rfl) (fun _ _ _ h => h) (Or.inl ⟨by rfl, ?_⟩) hS ?_
          rotate_left
          · (intro w' hSw; obtain ⟨s1, s2, s3⟩ := hSw; go_simp; first | done | with_reducible rfl)
          simp only [Act.put, List.getElem_toArray, List.getElem_cons_succ, List.getElem_cons_zero, List.setIfInBounds_toArray, List.set_cons_succ, List.set_cons_zero]
          refine anyL_takeH (i := 2) (v := ?_) rfl (by decide) (by kernel_rfl) (by kernel_rfl) (by kernel_rfl) (fun _ _ _ h => h) (Or.inl ⟨by rfl, ?_⟩) hS ?_
          rotate_left
          · (intro w' hSw; obtain ⟨s1, s2, s3⟩ := hSw; go_simp; first | done | with_reducible rfl)
          simp only [Act.put, List.getElem_toArray, List.getElem_cons_succ, List.getElem_cons_zero, List.setIfInBounds_toArray, List.set_cons_succ, List.set_cons_zero]
          refine anyL_takeH (i := 3) (v := ?_) rfl (by decide) (by kernel_rfl) (by kernel_rfl) (by kernel_rfl) (fun _ _ _ h => h) (Or.inl ⟨by rfl, ?_⟩) hS ?_
          rotate_left
          · (intro w' hSw; obtain ⟨s1, s2, s3⟩ := hSw; go_simp; first | done | with_reducible rfl)
          simp only [Act.put, List.getElem_toArray, List.getElem_cons_succ, List.getElem_cons_zero, List.setIfInBounds_toArray, List.set_cons_succ, List.set_cons_zero]
          refine anyL_takeH (i := 4) (v := ?_) rfl (by decide) (by kernel_rfl) (by kernel_rfl) (by kernel_rfl) (fun _ _ _ h => h) (Or.inl ⟨by rfl, ?_⟩) hS ?_
          rotate_left
          · (intro w' hSw; obtain ⟨s1, s2, s3⟩ := hSw; go_simp; first | done | with_reducible rfl)
          simp only [Act.put, List.getElem_toArray, List.getElem_cons_succ, List.getElem_cons_zero, List.setIfInBounds_toArray, List.set_cons_succ, List.set_cons_zero]
          refine anyL_takeH (i := 5) (v := ?_) rfl (by decide) (by kernel_rfl) (by kernel_rfl) (by kernel_rfl) (fun _ _ _ h => h) (Or.inl ⟨by rfl, ?_⟩) hS ?_
          rotate_left
          · (intro w' hSw; obtain ⟨s1, s2, s3⟩ := hSw; go_simp; first | done | with_reducible rfl)
          simp only [Act.put, List.getElem_toArray, List.getElem_cons_succ, List.getElem_cons_zero, List.setIfInBounds_toArray, List.set_cons_succ, List.set_cons_zero]
          refine anyL_takeH (i := 6) (v := ?_) rfl (by decide) (by kernel_rfl) (by kernel_rfl) (by kernel_rfl) (fun _ _ _ h => h) (Or.inl ⟨by rfl, ?_⟩) hS ?_
          rotate_left
          · (intro w' hSw; obtain ⟨s1, s2, s3⟩ := hSw; go_simp; first | done | with_reducible rfl)
          simp only [Act.put, List.getElem_toArray, List.getElem_cons_succ, List.getElem_cons_zero, List.setIfInBounds_toArray, List.set_cons_succ, List.set_cons_zero]
          refine anyL_takeH (i := 7) (v := ?_) rfl (by decide) (by kernel_rfl) (by kernel_rfl) (by kernel_rfl) (fun _ _ _ h => h) (Or.inl ⟨by rfl, ?_⟩) hS ?_
          rotate_left
          · (intro w' hSw; obtain ⟨s1, s2, s3⟩ := hSw; go_simp; first | done | with_reducible rfl)
          simp only [Act.put, List.getElem_toArray, List.getElem_cons_succ, List.getElem_cons_zero, List.setIfInBounds_toArray, List.set_cons_succ, List.set_cons_zero]
          refine anyL_takeH (i := 8) (v := ?_) rfl (by decide) (by kernel_rfl) (by kernel_rfl) (by kernel_rfl) (fun _ _ _ h => h) (Or.inl ⟨by rfl, ?_⟩) hS ?_
          rotate_left
          · (intro w' hSw; obtain ⟨s1, s2, s3⟩ := hSw; go_simp; first | done | with_reducible rfl)
          simp only [Act.put, List.getElem_toArray, List.getElem_cons_succ, List.getElem_cons_zero, List.setIfInBounds_toArray, List.set_cons_succ, List.set_cons_zero]
          refine anyL_takeH (i := 9) (v := ?_) rfl (by decide) (by kernel_rfl) (by kernel_rfl) (by kernel_rfl) (fun _ _ _ h => h) (Or.inl ⟨by rfl, ?_⟩) hS ?_
          rotate_left
          · (intro w' hSw; obtain ⟨s1, s2, s3⟩ := hSw; go_simp; first | done | with_reducible rfl)
          simp only [Act.put, List.getElem_toArray, List.getElem_cons_succ, List.getElem_cons_zero, List.setIfInBounds_toArray, List.set_cons_succ, List.set_cons_zero]
          refine anyL_takeH (i := 10) (v := ?_) rfl (by decide) (by kernel_rfl) (by kernel_rfl) (by kernel_rfl) (fun _ _ _ h => h) (Or.inl ⟨by rfl, ?_⟩) hS ?_
          rotate_left
          · (intro w' hSw; obtain ⟨s1, s2, s3⟩ := hSw; go_simp; first | done | with_reducible rfl)
          simp only [Act.put, List.getElem_toArray, List.getElem_cons_succ, List.getElem_cons_zero, List.setIfInBounds_toArray, List.set_cons_succ, List.set_cons_zero]
          refine anyL_takeH (i := 11) (v := ?_) rfl (by decide) (by kernel_rfl) (by kernel_rfl) (by kernel_rfl) (fun _ _ _ h => h) (Or.inl ⟨by rfl, ?_⟩) hS ?_
          rotate_left
          · (intro w' hSw; obtain ⟨s1, s2, s3⟩ := hSw; go_simp; first | done | with_reducible rfl)
          simp only [Act.put, List.getElem_toArray, List.getElem_cons_succ, List.getElem_cons_zero, List.setIfInBounds_toArray, List.set_cons_succ, List.set_cons_zero]
          obtain ⟨s1, s2, s3⟩ := hS
          refine anyL_one (i := 12) (by kernel_rfl) rfl (fun K1 hK1 => ?_)
          go_simp
          have hS1 : (fun W : World => W.cell? ⟨w3.heap.size, 0, none⟩ = some (.slice (some ⟨pb, poff, none⟩) s.ent.length c1) ∧ W.cell? ⟨pb, poff + k, none⟩ = some (.int .i64 (p : Int)) ∧ W.cell? ⟨pb, poff + d, none⟩ = some (.int .i64 v)) (wr.drew.setCell ⟨b, p, none⟩ (.int .i64 v)) := ⟨(World.cell?_of_block (Below.heap_setCell _ _ _ _ (by simp; omega))).trans s1, (World.cell?_of_block (Below.heap_setCell _ _ _ _ (by simp; omega))).trans s2, (World.cell?_of_block (Below.heap_setCell _ _ _ _ (by simp; omega))).trans s3⟩
          refine hK1.out _ _ (fun _ => hS1) ?_
          clear hK1 K1
          refine anyL_done (by kernel_rfl) ?_ _
          go_wp2
          go_roundw
          case rel =>
            refine ⟨k + 1, by omega, by go_num, Lib.hid ?_, Lib.hid (fun g h1 h2 => (Below.heap_setCell _ _ _ _ (by simpa using h1)).trans (HKP.out g h1 h2)), Lib.hid ((drW HBR.out).setCell (show w3.heap.size ≤ b by omega) _), by simpa using hsz⟩
            rw [HU.out]
            exact IRow.set (w := wr.drew) HA.out p v
          case measure => simp [intOf]; omega
      · obtain rfl : k = s.ent.length := by omega
        go_wp2
        go_ret
        exact ⟨s, HS.out, b, rfl, by rw [HABE.out]; exact HA.out, HB3.out.trans (HBR.out.mono HB3.out.size)⟩
end Go.Proofs.Ytbpagfddofbjbaa
