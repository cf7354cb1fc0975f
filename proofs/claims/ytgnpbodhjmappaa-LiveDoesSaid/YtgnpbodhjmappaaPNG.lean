/-
  Layer 10: a unit whose functions are swept may be, and does what it did; swept again a function stays.
-/
import Derived.Test.YtgnpbodhjmappaaPMQ
import Derived.Test.YtgnpbodhjmappaaPMR
import Derived.Test.YtgnpbodhjmappaaPMP
import Derived.Test.YtgnpbodhjmappaaPMK
import Derived.Test.YtgnpbodhjmappaaPR10DoesW
import Derived.Test.YtgnpbodhjmappaaPR7RightU
import Derived.Test.YtgnpbodhjmappaaPNM
set_option linter.unusedVariables false
set_option linter.unusedSimpArgs false
namespace Go.Proofs.Ytgnpbodhjmappaa.Cd
set_option maxRecDepth 100000
theorem count_set : ∀ (K : List Bool) (p : Nat), K[p]? = some true → ((K.set p false).filter id).length + 1 = (K.filter id).length
  | [], p, h => by simp at h
  | b :: K, 0, h => by
    simp at h
    subst h
    simp
  | b :: K, p + 1, h => by
    have ih := count_set K p (by simpa using h)
    rw [List.set_cons_succ]
    cases b <;> simp at ih ⊢ <;> omega
theorem exists_done {c : List Ins} : ∀ (n : Nat) (K : List Bool), GoneK c K → (K.filter id).length ≤ n → ∃ K', GoneK c K' ∧ DoneK c K' := by
  intro n
  induction n with
  | zero =>
    intro K h hn
    refine ⟨K, h, fun p i hp hi hpi => ?_⟩
    have := count_set K p hp
    omega
  | succ n ih =>
    intro K h hn
    by_cases hd : DoneK c K
    · exact ⟨K, h, hd⟩
    · have : ∃ (p : Nat) (i : Ins), K[p]? = some true ∧ c[p]? = some i ∧ pureI i = true ∧ ¬ BehN c (goneOf K) i.dst (p : Int) := by
        apply Classical.byContradiction
        intro hno
        exact hd (fun p i hp hi hpi => Classical.byContradiction fun hb => hno ⟨p, i, hp, hi, hpi, hb⟩)
      obtain ⟨p, i, h1, h2, h3, h4⟩ := this
      exact ih _ (.out h h1 h2 h3 h4) (by have := count_set K p h1; omega)
theorem sweepK_spec {f : Fnc} (h : RightF f) : GoneK f.code (sweepK f.code) ∧ DoneK f.code (sweepK f.code) := by
  obtain ⟨K, h1, h2⟩ := exists_done _ _ (gone_start (closed_of h) h.code.1) (Nat.le_refl _)
  rw [sweepK_eq h1 h2]
  exact ⟨h1, h2⟩
theorem sweepF_yes {f : Fnc} (h : RightF f) : sweepF f = keepF (sweepK f.code) f := sweepF_eq h (sweepK_spec h).1 (sweepK_spec h).2
theorem sweepF_right {f : Fnc} (h : RightF f) : RightF (sweepF f) := by
  rw [sweepF_yes h]
  obtain ⟨a, b⟩ := (sweepK_spec h).1.leave h
  exact keepF_right a b
theorem sweepF_heads (f : Fnc) : (sweepF f).name = f.name ∧ (sweepF f).params = f.params ∧ (sweepF f).regs = f.regs ∧ (sweepF f).frame = f.frame := by
  unfold sweepF
  split <;> exact ⟨rfl, rfl, rfl, rfl⟩
theorem sweepF_len (f : Fnc) : (sweepF f).code.length ≤ f.code.length := by
  unfold sweepF
  split
  · rename_i h
    have hR := rightF_iff.1 h
    show (leftC _ _ f.code).length ≤ _
    rw [leftC_len _ _ _ (sweepK_spec hR).1.len]
    exact Nat.le_trans (List.length_filter_le _ _) (by rw [(sweepK_spec hR).1.len]; exact Nat.le_refl _)
  · exact Nat.le_refl _
theorem less_along {x y : Rsu} (h : (x.fin ≠ 4 → y = x) ∧ x.out <+: y.out) : Along x y :=
  ⟨fun a _ => .inl (h.1 a).symm, fun a => by rw [h.1 a]; exact List.prefix_refl _, fun _ => .inl h.2, .inl h.2⟩
theorem sweep_unit {u : Uni} (hr : rightU u = true) : rightU { u with funcs := u.funcs.map sweepF } = true ∧ ∀ (inp : List UInt8) (fuel : Int), Along (runU u inp fuel) (runU { u with funcs := u.funcs.map sweepF } inp fuel) := by
  have hU := UniOk.of hr
  have hz : List.zipWith keepF (u.funcs.map (fun g => sweepK g.code)) u.funcs = u.funcs.map sweepF := by
    apply List.ext_getElem?
    intro k
    rw [List.getElem?_zipWith, List.getElem?_map, List.getElem?_map]
    cases hg : u.funcs[k]? with
    | none => rfl
    | some g => simp only [Option.map_some]; rw [sweepF_yes (hU.right k g hg)]
  have hst : Stands u (u.funcs.map sweepF) := by
    refine ⟨by simp, fun k g h hg hh => ?_, fun k g h j hg hh hj h8 => ?_⟩
    · rw [List.getElem?_map, hg] at hh
      injection hh with hh
      subst hh
      obtain ⟨a, b, _, _⟩ := sweepF_heads g
      exact ⟨a, b, sweepF_right (hU.right k g hg)⟩
    · rw [List.getElem?_map, hg] at hh
      injection hh with hh
      subst hh
      rw [sweepF_yes (hU.right k g hg)] at hj
      obtain ⟨p, i, _, hi, rfl⟩ := leftC_mem _ _ _ j hj
      exact ⟨i, k, g, hg, List.mem_of_getElem? hi, h8, rfl, rfl⟩
  have hr' := rightU_stands hst hr
  refine ⟨hr', fun inp fuel => ?_⟩
  have hA : AllR u (u.funcs.map (fun g => sweepK g.code)) (fun k => match u.funcs[k]? with | some g => Reach g.code (-1) 0 | none => fun _ => False) (fun k => match u.funcs[k]? with | some g => (fun p r => 0 ≤ r ∧ LiveN g.code (goneOf (sweepK g.code)) r p) | none => fun _ _ => False) := by
    refine ⟨by simp, fun k g K hg hK => ?_, hU.calls⟩
    rw [List.getElem?_map, hg] at hK
    injection hK with hK
    subst hK
    simp only [hg]
    exact ((sweepK_spec (hU.right k g hg)).1.leave (hU.right k g hg)).1
  have hk : keepU (u.funcs.map (fun g => sweepK g.code)) u = { u with funcs := u.funcs.map sweepF } := by
    unfold keepU
    rw [hz]
  have := runU_keep hA (by rw [hk]; exact hr') hr inp fuel
  rw [hk] at this
  exact less_along this
end Go.Proofs.Ytgnpbodhjmappaa.Cd
namespace Go.Proofs.Ytgnpbodhjmappaa
set_option maxRecDepth 100000
open Go.RowKit Cd Go.Maps
set_option maxHeartbeats 8000000 in
theorem swapped_v (hh : Fnc → Fnc) (fs : List FnR) (fa : Option Addr) (fc : Nat) (gs : List Glo) (ga : Option Addr) (gc : Nat) (top : Int) (w : World) (hU : UnAt w w.heap.size ⟨fs, fa, fc, gs, ga, gc, top⟩) (hl : fs.length ≤ 1000)
    (HF : ∀ r ∈ fs, ∀ V, CodeAt V V.heap.size r → Calls Try.prog 21 #[fnV r] V (SwF (hh r.f) V)) (hlen : ∀ x ∈ fs, (hh x.f).code.length ≤ maxLen) :
    Calls Try.prog 20 #[unV ⟨fs, fa, fc, gs, ga, gc, top⟩, .func (.func 21) #[] #[]] w (SwPost hh ⟨fs, fa, fc, gs, ga, gc, top⟩ w) := by
  have HU := Lib.hid hU
  have HFF := Lib.hid HF
  have HLN := Lib.hid hlen
  obtain ⟨i0, hi0, hz0, hz1, hz2⟩ := info_parts' infoFnS
  have HS0 : Hid (SwSt w (((w.alloc (unO ⟨fs, fa, fc, gs, ga, gc, top⟩)).alloc unZ).alloc (unB ⟨fs, fa, fc, gs, ga, gc, top⟩ (.slice none 0 0))) ⟨fs, fa, fc, gs, ga, gc, top⟩ hh 0 [] (.slice none 0 0)) := Lib.hid (by
    obtain ⟨h1, h2, h3, h4, _⟩ := three_new w (unO ⟨fs, fa, fc, gs, ga, gc, top⟩) unZ (unB ⟨fs, fa, fc, gs, ga, gc, top⟩ (.slice none 0 0))
    exact ⟨h1, ⟨_, _, _, h2⟩, h3, ⟨rfl, .inl ⟨rfl, rfl⟩⟩, fun r hr => (by cases hr), rfl, h4⟩)
  clear hU HF hlen
  go_enter Try.func20, Try.ntmps20
  go_wp2
  go_loopw [13] (fun s13 wr => ∃ (k : Nat) (rs : List FnR) (v : Value), k ≤ fs.length ∧ s13 = .int .i64 (k : Int) ∧ Hid (SwSt w wr ⟨fs, fa, fc, gs, ga, gc, top⟩ hh k rs v)) (fun s13 wr => fs.length - (intOf s13).toNat)
  case atStart => exact ⟨0, [], _, by omega, rfl, HS0⟩
  case round =>
    obtain ⟨k, rs, v, hk, rfl, HS⟩ := hrel
    have k0 : (0 : Int) ≤ (k : Int) := Int.natCast_nonneg _
    by_cases hlt : k < fs.length
    · have k1 : (k : Int) < (fs.length : Int) := by omega
      obtain ⟨r, hr⟩ : ∃ r, fs[k]? = some r := ⟨_, List.getElem?_eq_getElem hlt⟩
      obtain ⟨b, off, e9, hb0, hb1, c0, c1, c2, c3, c4⟩ := UnAt.fn (HU.out.below HS.out.hb) hr
      have e9' : fa = some ⟨b, off, none⟩ := e9
      subst e9'
      have HC := Lib.hid (HFF.out r (List.mem_of_getElem? hr))
      have HCA := Lib.hid (HU.out.code r (List.mem_of_getElem? hr))
      have hwl : b < wr.heap.size := by omega
      have HK := Lib.hid hr; have HLT := Lib.hid hlt
      obtain ⟨va, vc, rfl⟩ := row_slice HS.out.own
      clear hr hlt hb0 hb1 e9
      go_upto_region 6 with fail
      have hba : Below wr.heap.size wr (wr.alloc (fnO r)) := (Below.refl _ _).alloc (Nat.le_refl _) _
      have HS5 := Lib.hid (HS.out.below hba)
      have HX5 : Hid ((wr.alloc (fnO r)).heap[wr.heap.size]? = some (fnO r)) := Lib.hid (heap_alloc_new _ _)
      clear hba c0 c1 c2 c3 c4 HS hwl
      generalize wr.alloc (fnO r) = w5 at *
      generalize wr.heap.size = X at *
      have HSD : Hid (SwSt w w5.drew ⟨fs, some ⟨b, off, none⟩, fc, gs, ga, gc, top⟩ hh k rs (.slice va k vc)) := Lib.hid ⟨HS5.out.ub, HS5.out.rb, HS5.out.vb, HS5.out.own, HS5.out.code, HS5.out.fns, drW HS5.out.hb⟩
      have HCD : Hid (CodeAt w5.drew w5.drew.heap.size r) := Lib.hid (RowAt.mono (RowAt.below HCA.out HSD.out.hb) HSD.out.hb.size (Nat.le_refl _))
      obtain ⟨y0, y1, y2⟩ := nv3 HSD.out.vb
      simp only at y1 y2
      obtain ⟨x0, x1, x2, x3, x4⟩ := nv5 (show w5.drew.heap[X]? = some (fnO r) from HX5.out)
      go_region_law (first | (go_simp; go_at_call 21; (with_reducible refine (HC.out _ HCD.out).mono ?_); rintro e w6 ⟨cg, cc, rfl, h1, h2, h3, hb6⟩; have HS6 := Lib.hid (HSD.out.below hb6); have HN6 : Hid (∀ (W : World), Below w6.heap.size w6 W → cg < W.heap.size ∧ ∀ (j : Nat) (u : Value), ((hh r.f).code.flatMap inCells)[j]? = some u → W.cell? ⟨cg, j, none⟩ = some u) := Lib.hid (fun W hW => ⟨Nat.lt_of_lt_of_le h2 hW.size, fun j u hu => (hW.cell (p := ⟨cg, j, none⟩) h2).trans (h3 j u hu)⟩); have HG6 := Lib.hid h1; have HB6 := Lib.hid hb6; have hl6 : w.heap.size + 1 + 1 < w6.heap.size := (by have := HS6.out.lt; omega); clear h1 h2 h3 hb6 y0 y1 y2 x0 x1 x2 x3 x4; obtain ⟨y0, y1, y2⟩ := nv3 HS6.out.vb; simp only at y1 y2) | (refine step_append_lies _ (by rfl) (.tmp 18) (.tmp 22) 33 (by rfl) (w.heap.size + 3) 24 i0 _ 5 64 Try.underlying33 hi0 hz0 hz1 hz2 rfl (by decide) (.slice va k vc) k (rs.flatMap fnCells) (by rfl) (by exact HS6.out.own.alloc _) ⟨w6.heap.size, 0, none⟩ 1 1 (fnCells ⟨hh r.f, some ⟨cg, 0, none⟩, cc⟩) (by rfl) (by rfl) (by exact World.news_of_block (cs := (fnCells ⟨hh r.f, some ⟨cg, 0, none⟩, cc⟩).toArray) (heap_alloc_new w6 _)) (by simp [fnCells, Value.oneCell']) (by omega) (by unfold maxLen; omega) (by omega) (by have := HS6.out.lt; simp <;> omega) (w6.heap.size + 1) (by simp) ?_; intro g3 cap3 w3 hown3 hgrow hat hlt3; have hbn := (Below.refl w6.heap.size w6).alloc (Nat.le_refl _) (.cells (fnCells ⟨hh r.f, some ⟨cg, 0, none⟩, cc⟩).toArray 24); have HNS := Lib.hid (SwSt.next (r' := ⟨hh r.f, some ⟨cg, 0, none⟩, cc⟩) HSD.out HK.out rfl (HB6.out.trans (hbn.mono HB6.out.size)) ⟨cg, rfl, HG6.out, (HN6.out _ hbn).1, (HN6.out _ hbn).2⟩ hown3 hgrow (hat.imp id (fun e => by rw [e]; simp))); have hv3 := SwSt.vb3 (HS6.out.below hbn) hgrow; obtain ⟨t0, t1, t2⟩ := nv3 hv3; have hfr3 : w3.frozen? ⟨w.heap.size + 1 + 1, 0, none⟩ = false := (by simp only [World.frozen?, hv3]; simp); clear hown3 hgrow hat hbn hv3))
      all_goals
        (go_wp2
         go_roundw
         case rel => exact ⟨k + 1, _, _, HLT.out, by go_num, HNS⟩
         case measure => have := HLT.out; simp [intOf]; omega)
    · obtain rfl : k = fs.length := by omega
      obtain ⟨va, vc, rfl⟩ := row_slice HS.out.own
      obtain ⟨V, hV, hun, hat⟩ := (HS.out.res (.slice va fs.length vc) (.slice ga gs.length gc) (.int .i64 top)).post HU.out rfl HLN.out
      obtain ⟨r0, r1, r2, hrb⟩ := HS.out.rb
      obtain ⟨y0, y1, y2⟩ := nv3 HS.out.vb
      simp only at y1 y2
      obtain ⟨z0, z1, z2⟩ := nv3 hrb
      have hfr : ∀ j, wr.frozen? ⟨w.heap.size + 1, j, none⟩ = false := fun j => by simp [World.frozen?, hrb]
      have HV := Lib.hid hV
      go_wp2
      have hz := set3 hrb (.slice va fs.length vc) (.slice ga gs.length gc) (.int .i64 top)
      obtain ⟨u0, u1, u2⟩ := nv3 hz
      have hbz : Below w.heap.size wr (((wr.setCell ⟨w.heap.size + 1, 0, none⟩ (.slice va fs.length vc)).setCell ⟨w.heap.size + 1, 1, none⟩ (.slice ga gs.length gc)).setCell ⟨w.heap.size + 1, 2, none⟩ (.int .i64 top)) := (((Below.refl _ _).setCell (by simp <;> omega) _).setCell (by simp <;> omega) _).setCell (by simp <;> omega) _
      refine bodyPost_ret (v := unV V) (by simp [results, Try.results20, go_sem, u0, u1, u2, hV] <;> rfl) rfl ⟨V, rfl, hun, hat, HS.out.hb.trans hbz⟩
theorem swapped_c (hh : Fnc → Fnc) (U : UnR) (w : World) (hU : UnAt w w.heap.size U) (hl : U.fs.length ≤ 1000) (HF : ∀ r ∈ U.fs, ∀ V, CodeAt V V.heap.size r → Calls Try.prog 21 #[fnV r] V (SwF (hh r.f) V)) (hlen : ∀ x ∈ U.fs, (hh x.f).code.length ≤ maxLen) :
    Calls Try.prog 20 #[unV U, .func (.func 21) #[] #[]] w (SwPost hh U w) := swapped_v hh U.fs U.fa U.fc U.gs U.ga U.gc U.top w hU hl HF hlen
end Go.Proofs.Ytgnpbodhjmappaa
namespace Go.Proofs.Ytgnpbodhjmappaa
set_option maxRecDepth 100000
open Go.RowKit Cd
theorem sw_post {w0 wr : World} (g : Fnc) (cg cc : Nat) (hz : wr.heap[w0.heap.size + 1]? = some zeroFnO) (hb : Below w0.heap.size w0 wr) (hg : w0.heap.size + 2 ≤ cg) (hgl : cg < wr.heap.size) (hc : ∀ (j : Nat) (u : Value), (g.code.flatMap inCells)[j]? = some u → wr.cell? ⟨cg, j, none⟩ = some u) :
    SwF g w0 (.returned (fnV ⟨g, some ⟨cg, 0, none⟩, cc⟩)) (stW wr (w0.heap.size + 1) g.name g.params g.regs g.frame (.slice (some ⟨cg, 0, none⟩) g.code.length cc)) := by
  obtain ⟨_, p2, p3⟩ := st_end hz g.name g.params g.regs g.frame (.slice (some ⟨cg, 0, none⟩) g.code.length cc)
  generalize stW wr (w0.heap.size + 1) g.name g.params g.regs g.frame (.slice (some ⟨cg, 0, none⟩) g.code.length cc) = V at *
  have h4 := p2 cg (by omega)
  exact ⟨cg, cc, rfl, by omega, Nat.lt_of_lt_of_le hgl p3.size, fun j u hu => (World.cell?_of_block (w := wr) h4).trans (hc j u hu), hb.trans (p3.mono (by omega))⟩
set_option maxHeartbeats 8000000 in
theorem sweep_clo (name : List UInt8) (params regs frame : Int) (code : List Ins) (ca : Option Addr) (cc : Nat) (g' : Fnc) (hg' : sweepF ⟨name, params, regs, frame, code⟩ = g') (w : World) (hC : CodeAt w w.heap.size ⟨⟨name, params, regs, frame, code⟩, ca, cc⟩) (hl : code.length ≤ 10000) : Calls Try.prog 21 #[fnV ⟨⟨name, params, regs, frame, code⟩, ca, cc⟩] w (SwF g' w) := by
  obtain ⟨h1, h2, h3, hs⟩ := two_new w (fnO ⟨⟨name, params, regs, frame, code⟩, ca, cc⟩) zeroFnO
  have H2 := Lib.hid h2; have H3 := Lib.hid h3
  have HSW : Hid (Calls Try.prog 13 #[fnV ⟨⟨name, params, regs, frame, code⟩, ca, cc⟩] ((w.alloc (fnO ⟨⟨name, params, regs, frame, code⟩, ca, cc⟩)).alloc zeroFnO) (SwpPost ⟨name, params, regs, frame, code⟩ g' ((w.alloc (fnO ⟨⟨name, params, regs, frame, code⟩, ca, cc⟩)).alloc zeroFnO))) := Lib.hid (hg' ▸ sweep_c ⟨name, params, regs, frame, code⟩ ca cc _ (RowAt.mono (RowAt.below hC h3) h3.size (Nat.le_refl _)) hl)
  obtain ⟨x0, x1, x2, x3, x4⟩ := nv5 h1
  have hs2 : w.heap.size + 2 = ((w.alloc (fnO ⟨⟨name, params, regs, frame, code⟩, ca, cc⟩)).alloc zeroFnO).heap.size := hs.symm
  clear h1 h2 h3 hC hs
  go_enter Try.func21, Try.ntmps21
  go_upto_region 2 with ((with_reducible refine HSW.out.mono ?_); rintro e w9 ⟨cg, cc9, rfl, q1, q2, q3, q4⟩; have HC9 := Lib.hid q3; have HB9 := Lib.hid q4; have hcg2 : w.heap.size + 2 ≤ cg := (by rw [hs2]; exact q1); have hw9 : w.heap.size + 2 ≤ w9.heap.size := (by rw [hs2]; exact q4.size); clear q3 q4 q1 x0 x1 x2 x3 x4)
  have hba := (Below.refl w9.heap.size w9).alloc (Nat.le_refl _) (fnO ⟨g', some ⟨cg, 0, none⟩, cc9⟩)
  have HZX : Hid ((w9.alloc (fnO ⟨g', some ⟨cg, 0, none⟩, cc9⟩)).heap[w.heap.size + 1]? = some zeroFnO) := Lib.hid ((hba.block _ (by omega)).trans ((HB9.out.block _ (by omega)).trans H2.out))
  have HGX := Lib.hid (heap_alloc_new w9 (fnO ⟨g', some ⟨cg, 0, none⟩, cc9⟩))
  have HBX : Hid (Below w.heap.size w (w9.alloc (fnO ⟨g', some ⟨cg, 0, none⟩, cc9⟩))) := Lib.hid ((H3.out.trans (HB9.out.mono H3.out.size)).trans (hba.mono (by omega)))
  have HCX : Hid (∀ (j : Nat) (u : Value), (g'.code.flatMap inCells)[j]? = some u → (w9.alloc (fnO ⟨g', some ⟨cg, 0, none⟩, cc9⟩)).cell? ⟨cg, j, none⟩ = some u) := Lib.hid (fun j u hu => (World.cell?_of_block (w := w9) (a := ⟨cg, j, none⟩) (hba.block cg q2)).trans (HC9.out j u hu))
  have hcgx : cg < (w9.alloc (fnO ⟨g', some ⟨cg, 0, none⟩, cc9⟩)).heap.size := by simp; omega
  clear hba HC9 HB9 HSW hs2 H2 H3
  generalize w9.alloc (fnO ⟨g', some ⟨cg, 0, none⟩, cc9⟩) = wx at *
  generalize w9.heap.size = Z at *
  obtain ⟨y0, y1, y2, y3, y4⟩ := nv5 HGX.out
  have fz : ∀ j, wx.frozen? ⟨w.heap.size + 1, j, none⟩ = false := fun j => by simp [World.frozen?, HZX.out]
  obtain ⟨z0, z1, z2, z3, z4⟩ := nv5 HZX.out
  go_wp2
  obtain ⟨p1, _, _⟩ := st_end HZX.out g'.name g'.params g'.regs g'.frame (.slice (some ⟨cg, 0, none⟩) g'.code.length cc9)
  obtain ⟨u0, u1, u2, u3, u4⟩ := nv5 p1
  refine bodyPost_ret (v := fnV ⟨g', some ⟨cg, 0, none⟩, cc9⟩) (by simp [results, Try.results21, go_sem, u0, u1, u2, u3, u4] <;> rfl) rfl ?_
  exact sw_post g' cg cc9 HZX.out HBX.out hcg2 hcgx HCX.out
theorem inAt_belowL {w w' : World} {v : Value} {l : List UInt8} (h : InAt w v l) (hb : Below w.heap.size w w') : InAt w' v l := by
  obtain ⟨a, c, h1, h2, h3, h4⟩ := h
  exact ⟨a, c, h1, h2, h3, RowAt.mono (h4.below hb) hb.size (Nat.le_refl _)⟩
theorem unAt_upL {w w' : World} {U : UnR} (h : UnAt w w.heap.size U) (hb : Below w.heap.size w w') : UnAt w' w'.heap.size U :=
  ⟨RowAt.mono (h.fs.below hb) hb.size (Nat.le_refl _), RowAt.mono (h.gs.below hb) hb.size (Nat.le_refl _), fun r hr => RowAt.mono (RowAt.below (h.code r hr) hb) hb.size (Nat.le_refl _), h.lf, h.lg, h.lc⟩
structure DoSt (W w : World) (U V : UnR) (q : Nat) (iv : Value) (inp : List UInt8) : Prop where
  ub : w.heap[W.heap.size]? = some (unO U)
  vb : w.heap[q]? = some (unO V)
  uu : UnAt w w.heap.size U
  vv : UnAt w w.heap.size V
  ii : InAt w iv inp
  hb : Below W.heap.size W w
theorem DoSt.below {W w w' : World} {U V : UnR} {q : Nat} {iv : Value} {inp : List UInt8} (h : DoSt W w U V q iv inp) (hb : Below w.heap.size w w') : DoSt W w' U V q iv inp :=
  ⟨(hb.block _ (lt_heap h.ub)).trans h.ub, (hb.block _ (lt_heap h.vb)).trans h.vb, unAt_upL h.uu hb, unAt_upL h.vv hb, inAt_belowL h.ii hb, h.hb.trans (hb.mono (Nat.le_of_lt (lt_heap h.ub)))⟩
theorem few_partsL {u : Uni} (h : fewB u = true) : u.funcs.length ≤ 6 ∧ ∀ f ∈ u.funcs, smallB f = true := by
  unfold fewB at h
  simp only [Bool.and_eq_true, decide_eq_true_eq, List.all_eq_true] at h
  exact ⟨h.1.1.1, h.1.2⟩
set_option maxHeartbeats 8000000 in
theorem ldoes_few (U : UnR) (ia : Option Addr) (inp : List UInt8) (ic : Nat) (fuel : Int) (W : World) (hU : UnAt W W.heap.size U) (hf : fewB U.un = false) : Calls Try.prog 4 #[unV U, .slice ia inp.length ic, .int .i64 fuel] W (RPost (.bool true) W) := by
  have HU := Lib.hid hU; have HF := Lib.hid hf
  have HW0 := Lib.hid ((Below.refl _ W).alloc (Nat.le_refl _) (unO U))
  clear hU hf
  go_enter Try.func4, Try.ntmps4
  go_wp2_with (first | ((with_reducible refine (few_any U false W.heap.size _ (HU.out.below HW0.out) (by simp) HF.out).mono ?_); rintro e w1 ⟨rfl, hb1⟩; have HB1 := Lib.hid (HW0.out.trans (hb1.mono (by simp))); have G1 := Lib.hid ((hb1.block W.heap.size (by simp)).trans (heap_alloc_new W (unO U))); obtain ⟨d0, d1, d2⟩ := nv3 G1.out; clear hb1) | ((with_reducible refine (awake10_any _).mono ?_); rintro e wv ⟨rfl, hbv⟩; have HBV := Lib.hid hbv; clear hbv))
  go_ret
  exact ⟨rfl, HB1.out.trans (HBV.out.mono HB1.out.size)⟩
set_option maxHeartbeats 8000000 in
theorem ldoes_long (U : UnR) (ia : Option Addr) (inp : List UInt8) (ic : Nat) (fuel : Int) (W : World) (hU : UnAt W W.heap.size U) (hf : fewB U.un = true) (h1 : 200 < inp.length) : Calls Try.prog 4 #[unV U, .slice ia inp.length ic, .int .i64 fuel] W (RPost (.bool true) W) := by
  have HU := Lib.hid hU; have HF := Lib.hid hf
  have HW0 := Lib.hid ((Below.refl _ W).alloc (Nat.le_refl _) (unO U))
  have t2 : decide ((inp.length : Int) > 200) = true := by rw [decide_eq_true_eq]; omega
  have t3 : decide ((200 : Int) < (inp.length : Int)) = true := t2
  clear hU hf h1
  go_enter Try.func4, Try.ntmps4
  go_wp2_with (first | ((with_reducible refine (few_any U true W.heap.size _ (HU.out.below HW0.out) (by simp) HF.out).mono ?_); rintro e w1 ⟨rfl, hb1⟩; have HB1 := Lib.hid (HW0.out.trans (hb1.mono (by simp))); have G1 := Lib.hid ((hb1.block W.heap.size (by simp)).trans (heap_alloc_new W (unO U))); obtain ⟨d0, d1, d2⟩ := nv3 G1.out; clear hb1) | ((with_reducible refine (awake10_any _).mono ?_); rintro e wv ⟨rfl, hbv⟩; have HBV := Lib.hid hbv; clear hbv))
  go_ret
  exact ⟨rfl, HB1.out.trans (HBV.out.mono HB1.out.size)⟩
set_option maxHeartbeats 8000000 in
theorem ldoes_much (U : UnR) (ia : Option Addr) (inp : List UInt8) (ic : Nat) (fuel : Int) (W : World) (hU : UnAt W W.heap.size U) (hf : fewB U.un = true) (h1 : inp.length ≤ 200) (h2 : 5000 < fuel) : Calls Try.prog 4 #[unV U, .slice ia inp.length ic, .int .i64 fuel] W (RPost (.bool true) W) := by
  have HU := Lib.hid hU; have HF := Lib.hid hf
  have HW0 := Lib.hid ((Below.refl _ W).alloc (Nat.le_refl _) (unO U))
  have t2 : decide ((inp.length : Int) > 200) = false := by rw [decide_eq_false_iff_not]; omega
  have t3 : decide ((200 : Int) < (inp.length : Int)) = false := t2
  have t5 : decide (fuel > (5000 : Int)) = true := by rw [decide_eq_true_eq]; omega
  have t6 : decide ((5000 : Int) < fuel) = true := t5
  clear hU hf h1 h2
  go_enter Try.func4, Try.ntmps4
  go_wp2_with (first | ((with_reducible refine (few_any U true W.heap.size _ (HU.out.below HW0.out) (by simp) HF.out).mono ?_); rintro e w1 ⟨rfl, hb1⟩; have HB1 := Lib.hid (HW0.out.trans (hb1.mono (by simp))); have G1 := Lib.hid ((hb1.block W.heap.size (by simp)).trans (heap_alloc_new W (unO U))); obtain ⟨d0, d1, d2⟩ := nv3 G1.out; clear hb1) | ((with_reducible refine (awake10_any _).mono ?_); rintro e wv ⟨rfl, hbv⟩; have HBV := Lib.hid hbv; clear hbv))
  go_ret
  exact ⟨rfl, HB1.out.trans (HBV.out.mono HB1.out.size)⟩
set_option maxHeartbeats 8000000 in
theorem ldoes_wrong (U : UnR) (ia : Option Addr) (inp : List UInt8) (ic : Nat) (fuel : Int) (W : World) (hU : UnAt W W.heap.size U) (hf : fewB U.un = true) (h1 : inp.length ≤ 200) (h2 : fuel ≤ 5000) (hr : rightU U.un = false) : Calls Try.prog 4 #[unV U, .slice ia inp.length ic, .int .i64 fuel] W (RPost (.bool true) W) := by
  have HU := Lib.hid hU; have HF := Lib.hid hf
  have HW0 := Lib.hid ((Below.refl _ W).alloc (Nat.le_refl _) (unO U))
  have t2 : decide ((inp.length : Int) > 200) = false := by rw [decide_eq_false_iff_not]; omega
  have t3 : decide ((200 : Int) < (inp.length : Int)) = false := t2
  have t5 : decide (fuel > (5000 : Int)) = false := by rw [decide_eq_false_iff_not]; omega
  have t6 : decide ((5000 : Int) < fuel) = false := t5
  have HRU : Hid (∀ w, W.heap.size ≤ w.heap.size → UnAt w W.heap.size U → Calls Try.prog 19 #[unV U] w (RPost (.bool false) w)) := Lib.hid (fun w hs h => hr ▸ rightU_any U W.heap.size w h hs)
  clear hU hf h1 h2 hr
  go_enter Try.func4, Try.ntmps4
  go_wp2_with (first | ((with_reducible refine (few_any U true W.heap.size _ (HU.out.below HW0.out) (by simp) HF.out).mono ?_); rintro e w1 ⟨rfl, hb1⟩; have HB1 := Lib.hid (HW0.out.trans (hb1.mono (by simp))); have G1 := Lib.hid ((hb1.block W.heap.size (by simp)).trans (heap_alloc_new W (unO U))); obtain ⟨d0, d1, d2⟩ := nv3 G1.out; clear hb1) | ((with_reducible refine (HRU.out _ HB1.out.size (HU.out.below HB1.out)).mono ?_); rintro e w2 ⟨rfl, hb2⟩; have HB2 := Lib.hid (HB1.out.trans (hb2.mono HB1.out.size)); clear hb2) | ((with_reducible refine (awake10_any _).mono ?_); rintro e wv ⟨rfl, hbv⟩; have HBV := Lib.hid hbv; clear hbv))
  go_ret
  exact ⟨rfl, HB2.out.trans (HBV.out.mono HB2.out.size)⟩
set_option maxHeartbeats 16000000 in
theorem ldoes_yes (U : UnR) (ia : Option Addr) (inp : List UInt8) (ic : Nat) (fuel : Int) (W : World) (hU : UnAt W W.heap.size U) (hin : InAt W (.slice ia inp.length ic) inp) (hf : fewB U.un = true) (h1 : inp.length ≤ 200) (h2 : fuel ≤ 5000) (hr : rightU U.un = true) : Calls Try.prog 4 #[unV U, .slice ia inp.length ic, .int .i64 fuel] W (RPost (.bool true) W) := by
  have HU := Lib.hid hU; have HF := Lib.hid hf; have HIN := Lib.hid hin
  have HW0 := Lib.hid ((Below.refl _ W).alloc (Nat.le_refl _) (unO U))
  have t2 : decide ((inp.length : Int) > 200) = false := by rw [decide_eq_false_iff_not]; omega
  have t3 : decide ((200 : Int) < (inp.length : Int)) = false := t2
  have t5 : decide (fuel > (5000 : Int)) = false := by rw [decide_eq_false_iff_not]; omega
  have t6 : decide ((5000 : Int) < fuel) = false := t5
  have HRU : Hid (∀ w, W.heap.size ≤ w.heap.size → UnAt w W.heap.size U → Calls Try.prog 19 #[unV U] w (RPost (.bool true) w)) := Lib.hid (fun w hs h => hr ▸ rightU_any U W.heap.size w h hs)
  obtain ⟨hh2, hh3⟩ := sweep_unit hr
  have hl6 := (few_partsL hf).1
  have hRF : ∀ r ∈ U.fs, RightF r.f := fun r hr2 => by
    obtain ⟨k, hk⟩ := List.mem_iff_getElem?.1 (List.mem_map_of_mem (f := (·.f)) hr2)
    exact (UniOk.of hr).right k r.f hk
  have HSW : Hid (∀ V, UnAt V V.heap.size U → Calls Try.prog 20 #[unV U, .func (.func 21) #[] #[]] V (SwPost sweepF U V)) := Lib.hid (fun V hV => swapped_c sweepF U V hV (by have : U.fns.length ≤ 6 := hl6; unfold UnR.fns at this; rw [List.length_map] at this; omega) (fun r hr2 V' hC => sweep_clo r.f.name r.f.params r.f.regs r.f.frame r.f.code r.ca r.cc _ rfl V' hC (by have := (hRF r hr2).code.2; omega)) (fun r hr2 => Nat.le_trans (sweepF_len r.f) (hU.lc r hr2)))
  have HVV : Hid (∀ V : UnR, V.un = ⟨U.fns.map sweepF, U.gs, U.top⟩ → (∀ w, UnAt w w.heap.size V → Calls Try.prog 19 #[unV V] w (RPost (.bool true) w)) ∧ ∀ w, UnAt w w.heap.size U → UnAt w w.heap.size V → InAt w (.slice ia inp.length ic) inp → Calls Try.prog 22 #[unV U, unV V, .slice ia inp.length ic, .int .i64 fuel] w (RPost (.bool true) w)) := Lib.hid (fun V hV => by
    have e1 : rightU V.un = true := by rw [hV]; exact hh2
    exact ⟨fun w h => e1 ▸ rightU_any V w.heap.size w h (Nat.le_refl _), fun w h hv hi => does_along U V ia inp ic fuel w h hv hi (by rw [hV]; exact hh3 inp fuel)⟩)
  clear hU hf h1 h2 hr hin hh2 hh3 hl6 hRF
  go_enter Try.func4, Try.ntmps4
  go_upto_region 4 with (first | ((with_reducible refine (few_any U true W.heap.size _ (HU.out.below HW0.out) (by simp) HF.out).mono ?_); rintro e w1 ⟨rfl, hb1⟩; have HB1 := Lib.hid (HW0.out.trans (hb1.mono (by simp))); have G1 := Lib.hid ((hb1.block W.heap.size (by simp)).trans (heap_alloc_new W (unO U))); obtain ⟨d0, d1, d2⟩ := nv3 G1.out; clear hb1) | ((with_reducible refine (HRU.out _ HB1.out.size (HU.out.below HB1.out)).mono ?_); rintro e w2 ⟨rfl, hb2⟩; have HB2 := Lib.hid (HB1.out.trans (hb2.mono HB1.out.size)); have G2 := Lib.hid ((hb2.block _ (lt_heap G1.out)).trans G1.out); have HU2 := Lib.hid (unAt_upL HU.out HB2.out); clear hb2 d0 d1 d2; obtain ⟨d0, d1, d2⟩ := nv3 G2.out) | ((with_reducible refine (HSW.out _ HU2.out).mono ?_); rintro e w3 ⟨V, rfl, hun, hat, hb3⟩; have HVR := Lib.hid (HVV.out V hun); have HAT := Lib.hid hat; have HB3 := Lib.hid (HB2.out.trans (hb3.mono HB2.out.size)); have G3 := Lib.hid ((hb3.block _ (lt_heap G2.out)).trans G2.out); clear hb3 hun hat d0 d1 d2))
  have hba : Below w3.heap.size w3 (w3.alloc (unO V)) := (Below.refl _ _).alloc (Nat.le_refl _) _
  have HD0 : Hid (DoSt W (w3.alloc (unO V)) U V w3.heap.size (.slice ia inp.length ic) inp) := Lib.hid ⟨(hba.block _ (lt_heap G3.out)).trans G3.out, heap_alloc_new _ _, unAt_upL (unAt_upL HU.out HB3.out) hba, unAt_upL HAT.out hba, inAt_belowL (inAt_belowL HIN.out HB3.out) hba, HB3.out.trans (hba.mono HB3.out.size)⟩
  clear hba
  generalize w3.alloc (unO V) = w4 at *
  generalize w3.heap.size = q at *
  obtain ⟨x0, x1, x2⟩ := nv3 HD0.out.ub
  obtain ⟨y0, y1, y2⟩ := nv3 HD0.out.vb
  go_wp2_with (first | ((with_reducible refine (HVR.out.1 _ HD0.out.vv).mono ?_); rintro e w5 ⟨rfl, hb5⟩; have HD1 := Lib.hid (HD0.out.below hb5); clear hb5; clear x0 x1 x2 y0 y1 y2; obtain ⟨x0, x1, x2⟩ := nv3 HD1.out.ub; obtain ⟨y0, y1, y2⟩ := nv3 HD1.out.vb) | ((with_reducible refine (HVR.out.2 _ HD1.out.uu HD1.out.vv HD1.out.ii).mono ?_); rintro e w6 ⟨rfl, hb6⟩; have HD2 := Lib.hid (HD1.out.below hb6); clear hb6 x0 x1 x2 y0 y1 y2) | ((with_reducible refine (awake10_any _).mono ?_); rintro e w8 ⟨rfl, hb8⟩; have HB8 := Lib.hid (HD2.out.hb.trans (hb8.mono HD2.out.hb.size)); clear hb8))
  go_ret
  exact ⟨rfl, HB8.out⟩
theorem ldoes_any (U : UnR) (ia : Option Addr) (inp : List UInt8) (ic : Nat) (fuel : Int) (W : World) (hU : UnAt W W.heap.size U) (hin : InAt W (.slice ia inp.length ic) inp) : Calls Try.prog 4 #[unV U, .slice ia inp.length ic, .int .i64 fuel] W (RPost (.bool true) W) := by
  by_cases hf : fewB U.un = true
  · by_cases h1 : inp.length ≤ 200
    · by_cases h2 : fuel ≤ 5000
      · by_cases hr : rightU U.un = true
        · exact ldoes_yes U ia inp ic fuel W hU hin hf h1 h2 hr
        · exact ldoes_wrong U ia inp ic fuel W hU hf h1 h2 (by simpa using hr)
      · exact ldoes_much U ia inp ic fuel W hU hf h1 (by omega)
    · exact ldoes_long U ia inp ic fuel W hU hf (by omega)
  · exact ldoes_few U ia inp ic fuel W hU (by simpa using hf)
end Go.Proofs.Ytgnpbodhjmappaa
