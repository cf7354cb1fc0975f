/-
  The contract of the reference's Define.
-/
import Derived.Test.YtemnlkgjgalipaaDoorRefBox
namespace Go.Proofs.YtemnlkgjgalipaaDoor
open Go.RowKit Go.Maps Tp Go.Sort
set_option linter.unusedVariables false

set_option maxHeartbeats 4000000 in
set_option maxRecDepth 100000 in
theorem r_define {w : World} {F : Nat → Prop} {T : Tab} {Y : List ((List UInt8 × List Fl) × Value)} {la da : Option Addr} {lc dc : Nat} (h : RefX w F T Y la lc da dc) (hG : Tp.Good T) (hT0 : 0 < T.length) (hY : Y.length ≤ 900) (hda : Y = [] → da = none) (n : List UInt8) (hn : n.length ≤ 100) (l : List Fl) (lva : Option Addr) (lvc : Nat)
    (hlv : FArg w lva l) (hl : l.length ≤ 1000)
    (hD : (strct T n).2.1 = 0 → isDef (strct T n).2.2 (strct T n).1 = (dfind (Y.map (·.1)) n).isSome)
    (hS : ∀ (j : Nat) (f : Fl), l[j]? = some f → RS (strct T n).2.2 (Y.map (·.1)) f.2 (Tp.sizeOf (strct T n).2.2 f.2)) :
    Calls Tryd.prog 28 #[.agg #[.slice la T.length lc, .slice da Y.length dc], .string (bs n), .slice lva l.length lvc] w (DefRPost F Y n l (define T n l) w) := by
  have H := Lib.hid h; clear h
  have HLV := Lib.hid hlv; clear hlv
  have HDA := Lib.hid hda; clear hda
  have hG1 := good_strct hG hn
  have hat := @strct_at T n
  obtain ⟨i, er, T1, hst⟩ : ∃ i er T1, strct T n = (i, er, T1) := ⟨_, _, _, rfl⟩
  rw [hst] at hG1 hat hD hS
  simp only at hG1 hat hD hS
  have HST := Lib.hid hst; clear hst
  have HS := Lib.hid hS; clear hS
  have HD := Lib.hid hD; clear hD
  have HG1 := Lib.hid hG1
  go_enter Tryd.func28, Tryd.ntmps28
  go_wp2_with fail
  refine (r_struct (H.out.old.below (two _ _ _)) hG.few hT0 n (by omega)).mono ?_
  rw [HST.out]
  rintro x w1 ⟨la1, lc1, rfl, hr1, hb1⟩
  have HB1 := Lib.hid ((Box.new w (.slice la T.length lc) (.slice da Y.length dc) (.slice none 0 0) (.slice none 0 0)).next hb1)
  have HR1 : Hid (RefX w1 (Gb F w) T1 Y la1 lc1 da dc) := Lib.hid (hr1.far (fun g _ hg => by
    rcases hg with ⟨h1, h2⟩ | h
    · exact .inl ⟨h1, h2⟩
    · right; simpa using h))
  clear hr1 hb1
  have HBS := Lib.hid (HB1.out.store (.slice la1 T1.length lc1) (.slice da Y.length dc))
  have HRS := Lib.hid ((HR1.out.set ⟨w.heap.size, 0, none⟩ (.slice la1 T1.length lc1) (gb0 F w)).set ⟨w.heap.size, 1, none⟩ (.slice da Y.length dc) (gb0 F w))
  obtain ⟨c0, c1, f0, f1⟩ := HB1.out.cells
  by_cases he : er = 0
  · obtain ⟨k, rfl, e, hk, hself, hlt⟩ := hat he
    have HE := Lib.hid he
    have hbe : ((er : Int) != 0) = false := by rw [he]; rfl
    have HK := Lib.hid hk
    have HDK := Lib.hid (HD.out he)
    clear hat he hself hk
    go_wp2_with fail
    refine (r_fields HRS.out (by omega) n).mono ?_
    rintro x w2 ⟨rfl, hb2⟩
    have HB2 := Lib.hid (HBS.out.next hb2)
    have HR2 := Lib.hid (HRS.out.below hb2)
    clear hb2 c0 c1 f0 f1
    have HZ : Hid (∀ wr, Below w2.heap.size w2 wr → SzIn wr T1 (Y.map (·.1)) la1 lc1 da Y.length dc) := Lib.hid (fun wr hb => ⟨⟨Gb F w, Y, HR2.out.below hb, rfl, rfl⟩, HG1.out.few, by omega⟩)
    have HERR : Hid (∀ (W : World) (x : Int), x ≠ 0 → Tp.define T n l = (x, T1) → Below w2.heap.size w2 W → DefRPost F Y n l (Tp.define T n l) w (.returned (.tuple #[.agg #[.slice la1 T1.length lc1, .slice da Y.length dc], .int .i64 x])) ((W.setCell ⟨w.heap.size + 1, 0, none⟩ (.slice la1 T1.length lc1)).setCell ⟨w.heap.size + 1, 1, none⟩ (.slice da Y.length dc))) :=
      Lib.hid (fun W x hx hd hb => def_err (HR2.out.below hb) hd hx HDA.out (HB2.out.next hb).below _ _)
    obtain ⟨c0, c1, f0, f1⟩ := HB2.out.cells
    cases hy : yfind Y n with
    | some y =>
      have hdef : isDef T1 k = true := by rw [HDK.out, yfind_map, hy]; rfl
      have HDF : Hid (Tp.define T n l = (7, T1)) := Lib.hid (by unfold Tp.define; rw [HST.out]; simp only; rw [if_neg (by rw [HE.out]; simp), if_pos (.inl hdef)])
      clear hy hdef
      rw [show yval (some y) = .tuple #[y.2, .bool true] from rfl]
      go_wp2
      refine bodyPost_ret (v := .tuple #[.agg #[.slice la1 T1.length lc1, .slice da Y.length dc], .int .i64 7]) (by simp [results, Tryd.results28, go_sem, c1]) rfl ?_
      exact HERR.out _ 7 (by decide) HDF.out (Below.refl _ _)
    | none =>
      have hdef : isDef T1 k = false := by rw [HDK.out, yfind_map, hy]; rfl
      have HND := Lib.hid hdef
      have HDN : Hid (named l = false → Tp.define T n l = (7, T1)) := Lib.hid (fun h => by unfold Tp.define; rw [HST.out]; simp only; rw [if_neg (by rw [HE.out]; simp), if_pos (.inr h)])
      clear hy hdef
      have HROW : Hid (∀ wr, Below w2.heap.size w2 wr → FArg wr lva l) := Lib.hid (fun wr hb => HLV.out.below (HB2.out.next hb).below)
      rw [show yval none = .tuple #[.slice none 0 0, .bool false] from rfl]
      go_wp2
      go_loopw [13] (fun s13 wr => ∃ j : Nat, j ≤ l.length ∧ s13 = .int .i64 j ∧ Hid (named (l.take j) = true) ∧ Hid (Below w2.heap.size w2 wr)) (fun i wr => l.length - (intOf i).toNat)
      case atStart => exact ⟨0, Nat.zero_le _, rfl, Lib.hid rfl, Lib.hid (Below.refl _ _)⟩
      case round =>
        obtain ⟨j, hj, rfl, HNT, HB⟩ := hrel
        obtain ⟨c0, c1, f0, f1⟩ := (HB2.out.next HB.out).cells
        by_cases hlt2 : j < l.length
        · obtain ⟨fn, ft, hf⟩ : ∃ fn ft, l[j]? = some (fn, ft) := ⟨_, _, List.getElem?_eq_getElem hlt2⟩
          have HFJ := Lib.hid hf
          obtain ⟨gg, off, rfl, hgl, hc0⟩ := HROW.out _ HB.out (by omega)
          have HC := Lib.hid hc0
          clear hf hc0
          obtain ⟨wo, rfl⟩ : ∃ wo : World, wo = wr := ⟨_, rfl⟩
          go_wp2
          go_loopw [14] (fun s14 wr => ∃ m : Nat, m ≤ j ∧ s14 = .int .i64 m ∧ Hid (∀ m', m' < m → ∀ g, l[m']? = some g → g.1 ≠ fn) ∧ Hid (Below wo.heap.size wo wr)) (fun i wr => j - (intOf i).toNat)
          case atStart => exact ⟨0, Nat.zero_le _, rfl, Lib.hid (fun m' h => by omega), Lib.hid (Below.refl _ _)⟩
          case round =>
            obtain ⟨m, hm, rfl, HNE, HBI⟩ := hrel
            have HBW := Lib.hid (HB.out.trans (HBI.out.mono HB.out.size))
            obtain ⟨c0, c1, f0, f1⟩ := (HB2.out.next HBW.out).cells
            have q0 : wr.cell? ⟨gg, off + j * 2, none⟩ = some (.string (bs fn)) := (HBI.out.cell (p := ⟨gg, off + j * 2, none⟩) hgl).trans (HC.out (j * 2 + 0) (.string (bs fn)) (by rw [flCells_at l j 0 _ HFJ.out (by omega)]; rfl))
            by_cases hm2 : m < j
            · obtain ⟨gn, gt, hgf⟩ : ∃ gn gt, l[m]? = some (gn, gt) := ⟨_, _, List.getElem?_eq_getElem (by omega)⟩
              have HFM := Lib.hid hgf
              have q1 : wr.cell? ⟨gg, off + m * 2, none⟩ = some (.string (bs gn)) := (HBI.out.cell (p := ⟨gg, off + m * 2, none⟩) hgl).trans (HC.out (m * 2 + 0) (.string (bs gn)) (by rw [flCells_at l m 0 _ hgf (by omega)]; rfl))
              clear hgf
              by_cases hx : gn = fn
              · subst hx
                have HDF := Lib.hid (HDN.out (named_dup HFM.out HFJ.out hm2 rfl))
                go_wp2
                go_quiet (fail)
                go_wp2
                refine bodyPost_ret (v := .tuple #[.agg #[.slice la1 T1.length lc1, .slice da Y.length dc], .int .i64 7]) (by simp [results, Tryd.results28, go_sem, c1]) rfl ?_
                exact HERR.out _ 7 (by decide) HDF.out (HBW.out.trans (below_drewN _ _ _))
              · have hbx : (gn == fn) = false := by simpa using hx
                have HNE2 : Hid (∀ m', m' < m + 1 → ∀ g, l[m']? = some g → g.1 ≠ fn) := Lib.hid (fun m' hm' g hg => by
                  rcases Nat.lt_succ_iff_lt_or_eq.1 hm' with h | rfl
                  · exact HNE.out m' h g hg
                  · rw [HFM.out] at hg; injection hg with hg; subst hg; exact hx)
                go_wp2
                go_quiet (fail)
                go_wp2
                go_roundw
                case rel => exact ⟨m + 1, by omega, by go_num, HNE2, Lib.hid (HBI.out.trans (below_drewN _ _ _))⟩
                case measure => simp [intOf]; omega
            · obtain rfl : m = j := by omega
              by_cases hz : fn = []
              · subst hz
                have HDF := Lib.hid (HDN.out (named_empty HFJ.out rfl))
                go_wp2
                refine bodyPost_ret (v := .tuple #[.agg #[.slice la1 T1.length lc1, .slice da Y.length dc], .int .i64 7]) (by simp [results, Tryd.results28, go_sem, c1]) rfl ?_
                exact HERR.out _ 7 (by decide) HDF.out HBW.out
              · have HNX := Lib.hid (named_take HNT.out HFJ.out hz (fun m' hm' g hg => HNE.out m' hm' g hg))
                have hbz : ((fn.length : Int) == 0) = false := by
                  have := List.length_pos_iff.2 hz
                  simp; omega
                clear hz
                go_wp2
                go_roundw
                case rel => exact ⟨m + 1, by omega, by go_num, HNX, HBW⟩
                case measure => simp [intOf]; omega
        · have hjl : j = l.length := by omega
          have HNM : Hid (named l = true) := Lib.hid (by have := HNT.out; rwa [hjl, List.take_of_length_le (Nat.le_refl _)] at this)
          have HDY : Hid (∀ x, Tp.lay T1 l = .error x → Tp.define T n l = (x, T1)) := Lib.hid (fun x h => by unfold Tp.define; rw [HST.out]; simp only; rw [if_neg (by rw [HE.out]; simp), if_neg (by rw [HND.out, HNM.out]; simp), h])
          have HDO : Hid (∀ r, Tp.lay T1 l = .ok r → Tp.define T n l = (0, Tp.setF T1 k r)) := Lib.hid (fun r h => by unfold Tp.define; rw [HST.out]; simp only; rw [if_neg (by rw [HE.out]; simp), if_neg (by rw [HND.out, HNM.out]; simp), h]; simp)
          clear HNT
          obtain ⟨wo, rfl⟩ : ∃ wo : World, wo = wr := ⟨_, rfl⟩
          go_wp2
          go_loopw [15, 12] (fun s15 s12 wr => ∃ (m : Nat) (z : Int), m ≤ l.length ∧ s15 = .int .i64 m ∧ s12 = .int .i64 z ∧ 0 ≤ z ∧ z ≤ 4096 * m ∧ Hid (∃ ps, layF T1 (l.take m) 0 = some (ps, z)) ∧ Hid (Below wo.heap.size wo wr)) (fun i _ wr => l.length - (intOf i).toNat)
          case atStart => exact ⟨0, 0, Nat.zero_le _, rfl, rfl, by omega, by omega, Lib.hid ⟨[], rfl⟩, Lib.hid (Below.refl _ _)⟩
          case round =>
            obtain ⟨m, z, hm, rfl, rfl, hz0, hz1, HLY, HBI⟩ := hrel
            have HBW := Lib.hid (HB.out.trans (HBI.out.mono HB.out.size))
            have HBX := Lib.hid (HB2.out.next HBW.out)
            obtain ⟨c0, c1, f0, f1⟩ := HBX.out.cells
            by_cases hm2 : m < l.length
            · obtain ⟨fn, ft, hf⟩ : ∃ fn ft, l[m]? = some (fn, ft) := ⟨_, _, List.getElem?_eq_getElem hm2⟩
              have HFM := Lib.hid hf
              obtain ⟨gg, off, rfl, hgl, hc0⟩ := HROW.out _ HBW.out (by omega)
              have q1 : wr.cell? ⟨gg, off + m * 2 + 1, none⟩ = some (.int .i64 ft) := hc0 (m * 2 + 1) (.int .i64 ft) (by rw [flCells_at l m 1 _ hf (by omega)]; rfl)
              have HC := Lib.hid hc0
              obtain ⟨c, hcq⟩ : ∃ c, Tp.sizeOf T1 ft = c := ⟨_, rfl⟩
              have hcs : 0 ≤ c ∧ c ≤ 4096 := by
                rw [← hcq]
                unfold Tp.sizeOf
                cases hen : ent T1 ft with
                | none => exact ⟨by decide, by decide⟩
                | some e2 =>
                  obtain ⟨i2, _, _, h2⟩ := ent_some hen
                  exact HG1.out.size i2 e2 h2
              have HCQ := Lib.hid hcq
              obtain ⟨hcs0, hcs1⟩ := hcs
              have HCS : Hid (∀ (W : World) dd os, Below w2.heap.size w2 W → Calls Tryd.prog 30 #[.agg #[.slice la1 T1.length lc1, .slice da Y.length dc], .int .i64 ft] (grow (redrawn W dd) os) fun x w' => x = .returned (.int .i64 c) ∧ Below (grow (redrawn W dd) os).heap.size (grow (redrawn W dd) os) w') :=
                Lib.hid (fun W dd os hW => by have := r_size (HS.out m _ HFM.out) _ ((HZ.out _ hW).below (below_regrown W dd os)); rw [show ((fn, ft) : Fl).2 = ft from rfl, HCQ.out] at this; exact this)
              have d0 := c0 0
              have d1 := c0 1
              have r0' : ∀ dd os, (grow (redrawn wr dd) os).cell? ⟨w.heap.size, 0, none⟩ = some (.slice la1 T1.length lc1) := fun dd os => cell_regrown d0 dd os
              have r1' : ∀ dd os, (grow (redrawn wr dd) os).cell? ⟨w.heap.size, 1, none⟩ = some (.slice da Y.length dc) := fun dd os => cell_regrown d1 dd os
              have q1' : ∀ dd os, (grow (redrawn wr dd) os).cell? ⟨gg, off + m * 2 + 1, none⟩ = some (.int .i64 ft) := fun dd os => cell_regrown q1 dd os
              clear hf hc0 hcq d0 d1
              go_wp2
              refine wp_region_quiet_below (by kernel_rfl) (by kernel_rfl) ?_
              repeat (any_goals (first | go_big_quiet_step ((go_at_call 30; exact Calls.regrown_of (HCS.out _ _ _ HBW.out))) | quiet_step ((go_at_call 30; exact Calls.regrown_of (HCS.out _ _ _ HBW.out)))))
              refine wpQuiet_nil ?_
              intro _ hw'
              obtain ⟨⟨dq, osq⟩, hw''⟩ := hw'
              subst hw''
              have HB3 := Lib.hid (HBW.out.trans ((below_regrown wr dq osq).mono HBW.out.size))
              clear r0' r1' q1'
              obtain ⟨wq, hwq⟩ : ∃ wq, grow (redrawn wr dq) osq = wq := ⟨_, rfl⟩
              rw [hwq] at HB3 ⊢
              have HBI3 : Hid (Below wo.heap.size wo wq) := Lib.hid (by rw [← hwq]; exact HBI.out.trans ((below_regrown wr dq osq).mono HBI.out.size))
              have hbq : Below wr.heap.size wr wq := by rw [← hwq]; exact below_regrown wr dq osq
              clear hwq c0 c1 f0 f1 q1 HBX
              obtain ⟨c0, c1, f0, f1⟩ := (HB2.out.next HB3.out).cells
              by_cases hc0 : c = 0
              · have HDF : Hid (Tp.define T n l = (8, T1)) := Lib.hid (HDY.out 8 (by
                  obtain ⟨ps, hps⟩ := HLY.out
                  have hne : l ≠ [] := fun e => by rw [e] at hm2; simp at hm2
                  unfold Tp.lay
                  rw [if_neg hne, layF_bad hps HFM.out (by rw [show ((fn, ft) : Fl).2 = ft from rfl, HCQ.out]; omega)]))
                subst hc0
                go_wp2
                refine bodyPost_ret (v := .tuple #[.agg #[.slice la1 T1.length lc1, .slice da Y.length dc], .int .i64 8]) (by simp [results, Tryd.results28, go_sem, c1]) rfl ?_
                exact HERR.out _ 8 (by decide) HDF.out HB3.out
              · have hbc : ((c : Int) == 0) = false := by simpa using hc0
                have HLN : Hid (∃ ps, layF T1 (l.take (m + 1)) 0 = some (ps, z + c)) := Lib.hid (by
                  obtain ⟨ps, hps⟩ := HLY.out
                  have := layF_step hps HFM.out (by rw [show ((fn, ft) : Fl).2 = ft from rfl, HCQ.out]; omega)
                  rw [show ((fn, ft) : Fl).2 = ft from rfl, HCQ.out] at this
                  exact ⟨_, this⟩)
                have q1 : wq.cell? ⟨gg, off + m * 2 + 1, none⟩ = some (.int .i64 ft) := (hbq.cell (p := ⟨gg, off + m * 2 + 1, none⟩) hgl).trans (HC.out (m * 2 + 1) (.int .i64 ft) (by rw [flCells_at l m 1 _ HFM.out (by omega)]; rfl))
                have d0 := c0 0
                have d1 := c0 1
                have r0' : ∀ dd os, (grow (redrawn wq dd) os).cell? ⟨w.heap.size, 0, none⟩ = some (.slice la1 T1.length lc1) := fun dd os => cell_regrown d0 dd os
                have r1' : ∀ dd os, (grow (redrawn wq dd) os).cell? ⟨w.heap.size, 1, none⟩ = some (.slice da Y.length dc) := fun dd os => cell_regrown d1 dd os
                have q1' : ∀ dd os, (grow (redrawn wq dd) os).cell? ⟨gg, off + m * 2 + 1, none⟩ = some (.int .i64 ft) := fun dd os => cell_regrown q1 dd os
                clear d0 d1 hbq
                go_wp2
                refine wp_region_quiet_below (by kernel_rfl) (by kernel_rfl) ?_
                repeat (any_goals (first | go_big_quiet_step ((go_at_call 30; exact Calls.regrown_of (HCS.out _ _ _ HB3.out))) | quiet_step ((go_at_call 30; exact Calls.regrown_of (HCS.out _ _ _ HB3.out)))))
                refine wpQuiet_nil ?_
                intro _ hw'
                obtain ⟨⟨dq2, osq2⟩, hw''⟩ := hw'
                subst hw''
                go_wp2
                go_roundw
                case rel => exact ⟨m + 1, z + c, by omega, by go_num, by go_num, by omega, by omega, HLN, Lib.hid (HBI3.out.trans ((below_regrown wq dq2 osq2).mono HBI3.out.size))⟩
                case measure => simp [intOf]; omega
            · have HLL : Hid (∃ ps, layF T1 l 0 = some (ps, z)) := Lib.hid (by have := HLY.out; rwa [List.take_of_length_le (by omega)] at this)
              by_cases hl0 : l.length = 0
              · have HDF : Hid (Tp.define T n l = (8, T1)) := Lib.hid (HDY.out 8 (by unfold Tp.lay; rw [if_pos (List.length_eq_zero_iff.1 hl0)]))
                have hbl : ((l.length : Int) == 0) = true := by simp [hl0]
                clear hl0
                go_wp2
                refine bodyPost_ret (v := .tuple #[.agg #[.slice la1 T1.length lc1, .slice da Y.length dc], .int .i64 8]) (by simp [results, Tryd.results28, go_sem, c1]) rfl ?_
                exact HERR.out _ 8 (by decide) HDF.out HBW.out
              · have hbl : ((l.length : Int) == 0) = false := by simpa using hl0
                by_cases hbig : 4096 < z
                · have HDF : Hid (Tp.define T n l = (4, T1)) := Lib.hid (HDY.out 4 (by
                    obtain ⟨ps, hps⟩ := HLL.out
                    unfold Tp.lay
                    rw [if_neg (fun e => hl0 (by rw [e]; rfl)), hps]
                    simp only
                    rw [if_pos hbig]))
                  have hbb : decide ((4096 : Int) < z) = true := by simpa using hbig
                  go_wp2
                  refine bodyPost_ret (v := .tuple #[.agg #[.slice la1 T1.length lc1, .slice da Y.length dc], .int .i64 4]) (by simp [results, Tryd.results28, go_sem, c1]) rfl ?_
                  exact HERR.out _ 4 (by decide) HDF.out HBW.out
                · have HDF : Hid (∃ ps, Tp.define T n l = (0, Tp.setF T1 k (ps, z))) := Lib.hid (by
                    obtain ⟨ps, hps⟩ := HLL.out
                    refine ⟨ps, HDO.out _ ?_⟩
                    unfold Tp.lay
                    rw [if_neg (fun e => hl0 (by rw [e]; rfl)), hps]
                    simp only
                    rw [if_neg hbig])
                  have hbb : decide ((4096 : Int) < z) = false := by simpa using hbig
                  have d0 : wr.cell? ⟨w.heap.size, 0, none⟩ = some (.slice la1 T1.length lc1) := c0 0
                  have d1 : wr.cell? ⟨w.heap.size, 1, none⟩ = some (.slice da Y.length dc) := c0 1
                  have dz := HBX.out.z
                  have dz0 : w.heap.size < wr.heap.size := by omega
                  clear c0 c1 f0 f1
                  obtain ⟨iD, hD0, hDz, hDs, hDb⟩ := info_parts infoDef
                  obtain ⟨iF, hF0, hFz, hFs, hFb⟩ := info_parts infoRFld
                  have HR3 := Lib.hid (HR2.out.below HBW.out)
                  have hlp : 0 < l.length := by omega
                  obtain ⟨gg, off, rfl, hgl, hc0⟩ := HROW.out _ HBW.out hlp
                  have HSC : Hid (∀ W, Below wr.heap.size wr W → ∀ j u, (flCells l)[j]? = some u → W.cell? ((⟨gg, off, none⟩ : Addr).add j) = some u) := Lib.hid (fun W hW j u hu => by rw [add_offs]; exact (hW.cell (p := ⟨gg, off + j, none⟩) hgl).trans (hc0 j u hu))
                  clear hc0
                  have HONE : Hid (∀ u ∈ defCells Y, u.oneCell' = true) := Lib.hid (def_one Y (fun y hy => row_one (HR3.out.each y hy).1))
                  have HOA : Hid ((wr.alloc (.cells #[] 92)).ownsRow 0 92 2 (.slice (some ⟨wr.heap.size, 0, none⟩) 0 0) 0 []) := Lib.hid (own_built (w := wr) rfl rfl (by omega))
                  have HSA : Hid ((wr.alloc (.cells #[] 92)).ownsRow 0 92 2 (.slice da Y.length dc) Y.length (defCells Y)) := Lib.hid (HR3.out.rowD.alloc _)
                  have HYN : Hid (Y.length = 0 → da = none) := Lib.hid (fun e => HDA.out (List.length_eq_zero_iff.1 e))
                  have hBa : wr.heap.size ≤ (wr.alloc (.cells #[] 92)).heap.size := by simp
                  go_wp2_with (first
                    | (at_builtin; go_loud (refine wpList_append_copy (B := wr.heap.size) (H0 := wr.heap.size) rfl _ _ 28 rfl 92 iD _ 2 40 Tryd.underlying28 hD0 hDz hDs hDb rfl (by omega) rfl HOA.out da Y.length dc (defCells Y) rfl HSA.out HONE.out HYN.out (by unfold maxLen; omega) (by omega) hBa (Nat.le_refl _) ?_); intro g1 cap1 w3 hown3 hb3 hg3 hlt3; have HO3 := Lib.hid hown3; have HB3 : Hid (Below wr.heap.size wr w3) := Lib.hid (((Below.refl _ _).alloc (Nat.le_refl _) _).trans hb3); have HOB : Hid ((w3.alloc (.cells #[] 64)).ownsRow 0 64 2 (.slice (some ⟨w3.heap.size, 0, none⟩) 0 0) 0 []) := Lib.hid (own_built (w := w3) rfl rfl (by omega)); clear hown3 hb3)
                    | (at_builtin; go_loud (refine wpList_append_lies _ rfl _ _ 32 rfl 0 64 iF _ 2 24 Tryd.underlying32 hF0 hFz hFs hFb rfl (by omega) _ 0 [] rfl HOB.out ⟨gg, off, none⟩ l.length lvc (flCells l) rfl (flCells_len l) (HSC.out _ ((HB3.out.alloc HB3.out.size _))) (fl_one l) hlp (by unfold maxLen; omega) (by omega) (Nat.zero_le _) (w3.heap.size + 1) (by simp) ?_); intro g2 cap2 w4 hown4 hgrow4 hat4 hlt4; obtain ⟨hown4, hb4, hg4⟩ := fld_end hown4 hgrow4 hat4;  have HB4 : Hid (Below w3.heap.size w3 w4) := Lib.hid hb4; have HO4 := Lib.hid hown4; have HO34 := Lib.hid ((own_below HO3.out HB4.out).alloc (.cells #[.string (bs n), .slice (some ⟨g2, 0, none⟩) l.length cap2] 92)); clear hown4 hb4 hgrow4 hat4)
                    | (at_builtin; go_loud (refine wpList_append_lies _ rfl _ _ 28 rfl 0 92 iD _ 2 40 Tryd.underlying28 hD0 hDz hDs hDb rfl (by omega) _ Y.length (defCells Y) rfl HO34.out ⟨w4.heap.size, 0, none⟩ 1 1 [.string (bs n), .slice (some ⟨g2, 0, none⟩) l.length cap2] (by rfl) (by rfl) (by exact World.news_of_block (cs := #[.string (bs n), .slice (some ⟨g2, 0, none⟩) l.length cap2]) (heap_alloc_new w4 _)) (by simp [Value.oneCell']) (by omega) (by unfold maxLen; omega) (by omega) (Nat.zero_le _) (w4.heap.size + 1) (by simp) ?_); intro gF capF w5 hown5 hgrow5 hat5 hlt5; obtain ⟨hb5, hrf⟩ := def_end HR3.out dz HB3.out hg3 hlt3 HB4.out hg4 HO4.out hown5 hgrow5 hat5; have HB5 := Lib.hid hb5; have HRF := Lib.hid hrf; obtain ⟨e0, e1, f0, f1⟩ := (HBX.out.next HB5.out).cells; clear hown5 hgrow5 hat5 hb5 hrf))
                  refine bodyPost_ret (v := .tuple #[.agg #[.slice la1 T1.length lc1, .slice (some ⟨gF, 0, none⟩) (Y.length + 1) capF], .int .i64 0]) (by simp [results, Tryd.results28, go_sem, e1]) rfl ?_
                  obtain ⟨ps, hps⟩ := HDF.out
                  exact def_ok HRF.out hps ((HBX.out.next HB5.out).below) _ _ _
  · have hbe : ((er : Int) != 0) = true := by simpa using he
    have HE := Lib.hid he
    clear hat he
    go_wp2
    refine bodyPost_ret (v := .tuple #[.agg #[.slice la1 T1.length lc1, .slice da Y.length dc], .int .i64 er]) (by simp [results, Tryd.results28, go_sem, c1]) rfl ?_
    exact def_err HRS.out (by unfold define; rw [HST.out]; simp only; rw [if_pos HE.out]) HE.out HDA.out HBS.out.below _ _
end Go.Proofs.YtemnlkgjgalipaaDoor
