/-
  doppelref07's Run: what an instruction does, by its kind, put together.
-/
import Derived.Test.YtgnpbodhjmappaaPPB
import Derived.Test.YtgnpbodhjmappaaPPC
import Derived.Test.YtgnpbodhjmappaaPPD
set_option linter.unusedVariables false
set_option linter.unusedSimpArgs false
namespace Go.Proofs.Ytgnpbodhjmappaa
open Go.RowKit Cd
def outS (u : Uni) (n : Nat) : Rsu ⊕ Sta → Rsu
  | .inl r => r
  | .inr s => runS u n s
theorem runS_succ (u : Uni) (n : Nat) (s : Sta) : runS u (n + 1) s = outS u n (Cd.step u s) := by
  show (match Cd.step u s with | .inl r => r | .inr s' => runS u n s') = _
  unfold outS
  cases Cd.step u s <;> rfl
variable {w0 w : World} {U : UnR} {N ub qb mb fb ib n : Nat} {mem : List Int} {out inp : List UInt8} {ini : List FrR} {f : FrR} {i : Ins}
theorem tail_wp {p v : Int} {r : Rsu} {Q : Exit → Act → World → Prop} {a : Act} (h : MidA w0 U N ub qb mb fb ib n mem out inp ini f i p v a w) (hrun : runS U.un n ⟨mem, out, inp, went f.fr i v p :: (ini.map (·.fr)).reverse⟩ = r) (hok : StkOk U.un (went f.fr i v p :: (ini.map (·.fr)).reverse)) (hob : out.length + n ≤ 1000000) (hst : ini.length + 1 + n ≤ 1000001)
    (hd : sets i = -1 ∨ (sets i = i.dst ∧ 0 ≤ i.dst ∧ i.dst < f.fr.regs.length)) (hgo : ∀ a w', RunJ w0 U N ub qb mb r n a w' → Q .normal a w') : Code.wp Try.prog codeT Q a w := by
  obtain ⟨vi, vo, vs, hm, Us, rfl⟩ := h
  rcases hd with hd | ⟨hd, h0, h1⟩
  · exact piece_T0 w0 U N ub qb mb fb ib n mem out inp vi vo vs ini f i w Us p v r Q hm hrun hok hob hst hd hgo
  · exact piece_T1 w0 U N ub qb mb fb ib n mem out inp vi vo vs ini f i w Us p v r Q hm hrun hok hob hst hd h0 h1 hgo
theorem dst_at {g : Fnc} {k : Int} {i : Ins} (hR : RightI i g.regs g.frame k) (h9 : i.kind ≤ 9) (h7 : i.kind ≠ 7) (h8 : i.kind ≠ 8) : 0 ≤ i.dst ∧ i.dst < g.regs := by
  have h := hR.dst
  unfold dstOk regOk at h
  rw [if_neg h8, if_pos ⟨h9, h7⟩] at h
  simpa using h
theorem useA {g : Fnc} {k : Int} {i : Ins} (hR : RightI i g.regs g.frame k) (h : readsA i.kind = true) : 0 ≤ i.a ∧ i.a < g.regs := hR.uses _ (by unfold uses; rw [h]; simp)
theorem useB {g : Fnc} {k : Int} {i : Ins} (hR : RightI i g.regs g.frame k) (h : readsB i.kind = true) : 0 ≤ i.b ∧ i.b < g.regs := hR.uses _ (by unfold uses; rw [h]; simp)
theorem UnR.at_fn {U : UnR} {k : Nat} {g : Fnc} (h : U.un.funcs[k]? = some g) : ∃ r, U.fs[k]? = some r ∧ r.f = g := by
  have h' : U.fns[k]? = some g := h
  unfold UnR.fns at h'
  rw [List.getElem?_map] at h'
  cases hx : U.fs[k]? with
  | none => rw [hx] at h'; cases h'
  | some r => rw [hx] at h'; exact ⟨r, rfl, by simpa using h'⟩
theorem step_wp (vi vo vs : Value) (r : Rsu) (Us : Nat → Value) (Q : Exit → Act → World → Prop) (h : Mid w0 U N ub qb mb fb ib mem out inp vi vo vs ini f i w) (gg : FnR) (hg : U.fs[f.fr.k]? = some gg) (hgood : FrGood U.un f.fr gg.f) (hi : gg.f.code[f.fr.pos.toNat]? = some i) (hok : StkOk U.un (f.fr :: (ini.map (·.fr)).reverse))
    (hrun : outS U.un n (stepI U.un gg.f i f.fr (ini.map (·.fr)).reverse ⟨mem, out, inp, f.fr :: (ini.map (·.fr)).reverse⟩) = r) (hob : out.length + (n + 1) ≤ 1000000) (hst : ini.length + 1 + (n + 1) ≤ 1000001)
    (hJ : ∀ a w', RunJ w0 U N ub qb mb r n a w' → Q .normal a w') (hX : ∀ a w', RunJ w0 U N ub qb mb r n a w' → Q (.exit 3) a w') (hR : ∀ a w', RunZ w0 qb r a w' → Q .ret a w') :
    Code.wp Try.prog (.seq codeE codeT) Q (frM Us ub qb mb vi (.int .i64 ((n : Int) + 1)) vo vs (.pointer (some ⟨fb, 0, none⟩)) (.pointer (some ⟨ib, 0, none⟩)) (.int .i64 (f.fr.pos + 1)) (.int .i64 0)) w := by
  have hRt := hgood.right h.right
  have hk := hRt.1.all i (List.mem_of_getElem? hi)
  have hlo := hk.low
  have hhi := hk.high
  have hregs := hgood.regs
  have hkeep := stepI_keeps (s := ⟨mem, out, inp, f.fr :: (ini.map (·.fr)).reverse⟩) h.right hok hgood hi
  have ha : readsA i.kind = true → 0 ≤ i.a ∧ i.a < f.fr.regs.length := fun hh => by rw [hregs]; exact useA hk hh
  have hb : readsB i.kind = true → 0 ≤ i.b ∧ i.b < f.fr.regs.length := fun hh => by rw [hregs]; exact useB hk hh
  have hd1 : i.kind ≤ 9 → i.kind ≠ 7 → i.kind ≠ 8 → sets i = -1 ∨ (sets i = i.dst ∧ 0 ≤ i.dst ∧ i.dst < f.fr.regs.length) := fun h9 h7 h8 => by
    right
    rw [hregs]
    exact ⟨by unfold sets; rw [if_pos (by omega)], dst_at hk h9 h7 h8⟩
  have hd2 : (i.kind = 7 ∨ 10 ≤ i.kind) → sets i = -1 ∨ (sets i = i.dst ∧ 0 ≤ i.dst ∧ i.dst < f.fr.regs.length) := fun hh => .inl (by unfold sets; rw [if_neg (by omega)])
  have hob' : out.length + n ≤ 1000000 := by omega
  have hst' : ini.length + 1 + n ≤ 1000001 := by omega
  refine wp_seq ?_
  have hcases : i.kind = 1 ∨ i.kind = 2 ∨ i.kind = 3 ∨ i.kind = 4 ∨ i.kind = 5 ∨ i.kind = 6 ∨ i.kind = 7 ∨ i.kind = 8 ∨ i.kind = 9 ∨ i.kind = 10 ∨ i.kind = 11 ∨ i.kind = 12 ∨ i.kind = 13 := by omega
  unfold stepI at hrun hkeep
  rcases hcases with h1 | h1 | h1 | h1 | h1 | h1 | h1 | h1 | h1 | h1 | h1 | h1 | h1
  · simp only [h1, if_true] at hrun hkeep
    refine piece_1 w0 U N ub qb mb fb ib n mem out inp vi vo vs ini f i w Us _ _ h h1 fun a w' hm => ?_
    exact tail_wp hm hrun hkeep.1 hob' hst' (hd1 (by omega) (by omega) (by omega)) hJ
  · have hv : valB f.fr i = 0 := by unfold valB; rw [if_neg (by omega)]
    rw [if_neg (by omega), if_pos (by omega), hv] at hrun hkeep
    cases hdb : doB i.op 0 with
    | true =>
      rw [if_pos hdb] at hrun hkeep
      refine piece_2y w0 U N ub qb mb fb ib n mem out inp vi vo vs ini f i w Us _ _ h h1 (ha (by rw [h1]; rfl)) _ rfl hdb fun a w' hm => ?_
      exact tail_wp hm hrun hkeep.1 hob' hst' (hd1 (by omega) (by omega) (by omega)) hJ
    | false =>
      rw [if_neg (by rw [hdb]; simp)] at hrun
      subst hrun
      exact piece_2n w0 U N ub qb mb fb ib n mem out inp vi vo vs ini f i w Us _ _ h h1 (ha (by rw [h1]; rfl)) _ rfl hdb hR
  · have hv : valB f.fr i = reg f.fr i.b := by unfold valB; rw [if_pos h1]
    rw [if_neg (by omega), if_pos (by omega), hv] at hrun hkeep
    cases hdb : doB i.op (reg f.fr i.b) with
    | true =>
      rw [if_pos hdb] at hrun hkeep
      refine piece_3y w0 U N ub qb mb fb ib n mem out inp vi vo vs ini f i w Us _ _ h h1 (ha (by rw [h1]; rfl)) (hb (by rw [h1]; rfl)) _ rfl hdb fun a w' hm => ?_
      exact tail_wp hm hrun hkeep.1 hob' hst' (hd1 (by omega) (by omega) (by omega)) hJ
    | false =>
      rw [if_neg (by rw [hdb]; simp)] at hrun
      subst hrun
      exact piece_3n w0 U N ub qb mb fb ib n mem out inp vi vo vs ini f i w Us _ _ h h1 (ha (by rw [h1]; rfl)) (hb (by rw [h1]; rfl)) _ rfl hdb hR
  · rw [if_neg (by omega), if_neg (by omega), if_pos h1] at hrun hkeep
    refine piece_4 w0 U N ub qb mb fb ib n mem out inp vi vo vs ini f i w Us _ _ h h1 (ha (by rw [h1]; rfl)) fun a w' hm => ?_
    exact tail_wp hm hrun hkeep.1 hob' hst' (hd1 (by omega) (by omega) (by omega)) hJ
  · rw [if_neg (by omega), if_neg (by omega), if_neg (by omega), if_pos h1] at hrun hkeep
    have hn := hk.n
    have hfr := hRt.1.frame
    have hbs := hgood.base
    unfold nOk at hn
    rw [if_neg (by omega), if_pos h1] at hn
    simp only [Bool.and_eq_true, decide_eq_true_eq] at hn
    refine piece_5 w0 U N ub qb mb fb ib n mem out inp vi vo vs ini f i w Us _ _ h h1 (by omega) (by omega) (by omega) (by omega) fun a w' hm => ?_
    exact tail_wp hm hrun hkeep.1 hob' hst' (hd1 (by omega) (by omega) (by omega)) hJ
  · rw [if_neg (by omega), if_neg (by omega), if_neg (by omega), if_neg (by omega), if_pos (by omega)] at hrun hkeep
    by_cases hq : 1 ≤ addr f.fr i ∧ addr f.fr i < 4096
    · rw [if_pos hq, if_pos h1] at hrun hkeep
      refine piece_6 w0 U N ub qb mb fb ib n mem out inp vi vo vs ini f i w Us _ _ h h1 (ha (by rw [h1]; rfl)) (addr f.fr i) rfl hq.1 hq.2 fun a w' hm => ?_
      exact tail_wp hm hrun hkeep.1 hob' hst' (hd1 (by omega) (by omega) (by omega)) hJ
    · rw [if_neg hq] at hrun
      subst hrun
      exact piece_6b w0 U N ub qb mb fb ib n mem out inp vi vo vs ini f i w Us _ _ h h1 (ha (by rw [h1]; rfl)) (addr f.fr i) rfl (by omega) hR
  · rw [if_neg (by omega), if_neg (by omega), if_neg (by omega), if_neg (by omega), if_pos (by omega)] at hrun hkeep
    by_cases hq : 1 ≤ addr f.fr i ∧ addr f.fr i < 4096
    · rw [if_pos hq, if_neg (by omega)] at hrun hkeep
      refine piece_7 w0 U N ub qb mb fb ib n mem out inp vi vo vs ini f i w Us _ _ h h1 (ha (by rw [h1]; rfl)) (hb (by rw [h1]; rfl)) (addr f.fr i) rfl hq.1 hq.2 fun a w' hm => ?_
      exact tail_wp hm hrun hkeep.1 hob' hst' (hd2 (by omega)) hJ
    · rw [if_neg hq] at hrun
      subst hrun
      exact piece_7b w0 U N ub qb mb fb ib n mem out inp vi vo vs ini f i w Us _ _ h h1 (ha (by rw [h1]; rfl)) (addr f.fr i) rfl (by omega) hR
  · rw [if_neg (by omega), if_neg (by omega), if_neg (by omega), if_neg (by omega), if_neg (by omega), if_pos h1] at hrun hkeep
    have hc := all_at hRt.2 hi
    unfold callOk at hc
    rw [if_pos h1] at hc
    cases hfn : findN U.un.funcs i.text with
    | none => rw [hfn] at hc; simp at hc
    | some k' =>
      obtain ⟨hF', hh, _⟩ := findN_some _ _ _ hfn
      obtain ⟨hF, hhF, rfl⟩ := UnR.at_fn hh
      simp only [hfn, hh] at hrun hkeep
      obtain ⟨hp, hn0, hn6, hdst0, hdst1, hlen⟩ := call_of hRt hi h1 hfn hh
      have hRF := (rightF_iff.1 (by have := h.right.funcs _ _ hh; unfold funcOk at this; rw [Bool.and_eq_true, Bool.and_eq_true] at this; exact this.1.1))
      have hf1 := hRt.1.frame
      have hf2 := hRF.frame
      have hbs := hgood.base
      have hrg := hRF.regs
      have hpr := hRF.params
      have hu : uses i = i.args.take i.n.toNat := by unfold uses; simp [h1, readsA, readsB]
      by_cases hbig : f.fr.base + gg.f.frame + hF.f.frame > 4096
      · rw [if_pos hbig] at hrun
        subst hrun
        exact piece_8f w0 U N ub qb mb fb ib n mem out inp vi vo vs ini f i w Us _ _ h h1 k' hF gg (findI_at hfn) hhF hg hbs.1 hbs.2 hf1.1 hf2.1 hf2.2 hbig hR
      · rw [if_neg hbig] at hrun hkeep
        have e : (uses i).map (reg f.fr) ++ List.replicate (hF.f.regs.toNat - (uses i).length) 0 = regsN f.fr i hF.f.regs i.n.toNat := by
          unfold regsN; rw [hlen, hu]
        rw [e] at hrun hkeep
        refine piece_8 w0 U N ub qb mb fb ib n mem out inp vi vo vs ini r f i w Us _ _ h h1 k' hF gg (findI_at hfn) hhF hg hbs.1 hbs.2 hf1.1 hf2.1 hf2.2 hbig (by omega) hrg.2 hn0 hn6 (by omega) (fun k hkn => ?_) hrun hkeep.1 hob' (by omega) hX
        rw [hregs]
        refine hk.uses _ ?_
        rw [hu]
        have hal := i.args_length
        rw [List.getD_eq_getElem?_getD, List.getElem?_eq_getElem (by omega)]
        exact List.mem_take_iff_getElem.2 ⟨k, by omega, rfl⟩
  · rw [if_neg (by omega), if_neg (by omega), if_neg (by omega), if_neg (by omega), if_neg (by omega), if_neg (by omega), if_pos h1] at hrun hkeep
    cases hin : inp with
    | nil =>
      rw [hin] at hrun hkeep h
      refine piece_9a w0 U N ub qb mb fb ib n mem out [] vi vo vs ini f i w Us _ _ h h1 rfl fun a w' hm => ?_
      exact tail_wp hm hrun hkeep.1 hob' hst' (hd1 (by omega) (by omega) (by omega)) hJ
    | cons c cs =>
      rw [hin] at hrun hkeep h
      refine piece_9b w0 U N ub qb mb fb ib n mem out (c :: cs) vi vo vs ini f i w Us _ _ h h1 c cs rfl fun a w' hm => ?_
      exact tail_wp hm hrun hkeep.1 hob' hst' (hd1 (by omega) (by omega) (by omega)) hJ
  · rw [if_neg (by omega), if_neg (by omega), if_neg (by omega), if_neg (by omega), if_neg (by omega), if_neg (by omega), if_neg (by omega), if_pos h1] at hrun hkeep
    refine piece_10 w0 U N ub qb mb fb ib n mem out inp vi vo vs ini f i w Us _ _ h h1 (ha (by rw [h1]; rfl)) (by omega) fun a w' hm => ?_
    exact tail_wp hm hrun hkeep.1 (by simp; omega) hst' (hd2 (by omega)) hJ
  · rw [if_neg (by omega), if_neg (by omega), if_neg (by omega), if_neg (by omega), if_neg (by omega), if_neg (by omega), if_neg (by omega), if_neg (by omega), if_pos h1] at hrun hkeep
    refine piece_11 w0 U N ub qb mb fb ib n mem out inp vi vo vs ini f i w Us _ _ h h1 fun a w' hm => ?_
    exact tail_wp hm hrun hkeep.1 hob' hst' (hd2 (by omega)) hJ
  · rw [if_neg (by omega), if_neg (by omega), if_neg (by omega), if_neg (by omega), if_neg (by omega), if_neg (by omega), if_neg (by omega), if_neg (by omega), if_neg (by omega), if_pos h1] at hrun hkeep
    refine piece_12 w0 U N ub qb mb fb ib n mem out inp vi vo vs ini f i w Us _ _ h h1 (ha (by rw [h1]; rfl)) fun a w' hm => ?_
    exact tail_wp hm hrun hkeep.1 hob' hst' (hd2 (by omega)) hJ
  · rw [if_neg (by omega), if_neg (by omega), if_neg (by omega), if_neg (by omega), if_neg (by omega), if_neg (by omega), if_neg (by omega), if_neg (by omega), if_neg (by omega), if_neg (by omega)] at hrun hkeep
    rcases List.eq_nil_or_concat ini with rfl | ⟨ini', q, rfl⟩
    · simp only [List.map_nil, List.reverse_nil] at hrun
      subst hrun
      exact piece_13e w0 U N ub qb mb fb ib n mem out inp vi vo vs f i w Us _ _ h h1 (ha (by rw [h1]; rfl)) hR
    · have er : ((ini'.concat q).map (·.fr)).reverse = q.fr :: (ini'.map (·.fr)).reverse := by simp
      rw [er] at hrun hkeep hok
      simp only [List.concat_eq_append] at h
      have hl : (ini'.concat q).length = ini'.length + 1 := by simp
      simp only at hrun hkeep
      by_cases hd : 0 ≤ f.fr.dst
      · rw [if_pos hd] at hrun hkeep
        exact piece_13q w0 U N ub qb mb fb ib n mem out inp vi vo vs ini' q r f i w Us _ _ h h1 (ha (by rw [h1]; rfl)) hd (hok.2.1 _ rfl) hrun hkeep.1 hob' (by omega) hX
      · rw [if_neg hd] at hrun hkeep
        exact piece_13p w0 U N ub qb mb fb ib n mem out inp vi vo vs ini' q r f i w Us _ _ h h1 (ha (by rw [h1]; rfl)) (by omega) hrun hkeep.1 hob' (by omega) hX
end Go.Proofs.Ytgnpbodhjmappaa
namespace Go.Proofs.Ytgnpbodhjmappaa
set_option maxRecDepth 100000
open Go.RowKit Cd
set_option maxHeartbeats 8000000 in
set_option maxRecDepth 1000000 in
theorem piece_F1 (ub qb mb n : Nat) (vi vo vs s12 s13 s14 s15 : Value) (w : World) (Us : Nat → Value) (Q : Exit → Act → World → Prop) (hgo : ∀ Us', Q .normal (frM Us' ub qb mb vi (.int .i64 ((n : Int) + 1)) vo vs s12 s13 s14 s15) w) :
    Code.wp Try.prog codeF Q (frM Us ub qb mb vi (.int .i64 ((n : Int) + 1)) vo vs s12 s13 s14 s15) w := by
  have HGO := Lib.hid hgo; clear hgo
  have t0 : decide (((n : Int) + 1) > 0) = true := by simp <;> omega
  have t0' : decide ((0 : Int) < ((n : Int) + 1)) = true := by simp <;> omega
  unfold frM
  conv => arg 2; whnf
  go_wp2
  obtain ⟨Us', e⟩ := IsFr.of (ub := ub) (qb := qb) (mb := mb) (vi := vi) (v2 := .int .i64 ((n : Int) + 1)) (vo := vo) (vs := vs) (s12 := s12) (s13 := s13) (s14 := s14) (s15 := s15) (by kernel_rfl)
  rw [e]
  exact HGO.out Us'
set_option maxHeartbeats 8000000 in
set_option maxRecDepth 1000000 in
theorem piece_F0 (ub qb mb : Nat) (vi vo vs s12 s13 s14 s15 : Value) (w : World) (Us : Nat → Value) (Q : Exit → Act → World → Prop) (hgo : ∀ Us', Q (.exit 2) (frM Us' ub qb mb vi (.int .i64 0) vo vs s12 s13 s14 s15) w) :
    Code.wp Try.prog codeF Q (frM Us ub qb mb vi (.int .i64 0) vo vs s12 s13 s14 s15) w := by
  have HGO := Lib.hid hgo; clear hgo
  unfold frM
  conv => arg 2; whnf
  go_wp2
  obtain ⟨Us', e⟩ := IsFr.of (ub := ub) (qb := qb) (mb := mb) (vi := vi) (v2 := .int .i64 0) (vo := vo) (vs := vs) (s12 := s12) (s13 := s13) (s14 := s14) (s15 := s15) (by kernel_rfl)
  rw [e]
  exact HGO.out Us'
theorem inBlock_here {id : Nat} {Q : Exit → Act → World → Prop} {a : Act} {w : World} (h : Q .normal a w) : Exit.inBlock id Q (.exit id) a w := by
  show (if id = id then Q .normal a w else Q (.exit id) a w)
  rw [if_pos rfl]
  exact h
theorem round_wp {w0 : World} {U : UnR} {N ub qb mb n : Nat} {r : Rsu} {a : Act} {w : World} (h : RunI w0 U N ub qb mb r (n + 1) a w) (K : Act → World → Prop) (Q : Exit → Act → World → Prop) (hK : ∀ a w', RunI w0 U N ub qb mb r n a w' → K a w') (hR : ∀ a w', RunZ w0 qb r a w' → Q .ret a w') :
    Code.wp Try.prog runBody (Exit.then K Q) a w := by
  obtain ⟨vi, vo, vs, s12, s13, s14, s15, stk, s, hrel, Us, rfl⟩ := h
  obtain ⟨mem, out, inp, sk⟩ := s
  rcases List.eq_nil_or_concat stk with rfl | ⟨ini, f, rfl⟩
  · exact absurd hrel.stack (by have := hrel.some; simpa using this)
  have hst : sk = f.fr :: (ini.map (·.fr)).reverse := by have := hrel.stack; simpa using this
  subst hst
  simp only [List.concat_eq_append] at hrel
  have hok := hrel.ok
  simp only at hok
  obtain ⟨g, hgood⟩ := hok.1
  obtain ⟨gg, hg, rfl⟩ := UnR.at_fn hgood.fn
  obtain ⟨i, hi⟩ := hgood.at
  have hrun := hrel.run
  rw [runS_succ, step_at rfl hgood hi] at hrun
  have hob := hrel.outb
  have hsb := hrel.stkb
  simp only [List.length_append, List.length_singleton] at hob hsb
  have hNw := hrel.base
  have hcode := (hgood.right hrel.right).1.code
  have hpos := hgood.pos
  have hm0 := hrel.mem
  have ev : (((n + 1 : Nat)) : Int) = (n : Int) + 1 := by omega
  rw [ev, body_eq]
  refine wp_seq (piece_F1 ub qb mb n vi vo vs s12 s13 s14 s15 w Us _ fun Us1 => ?_)
  refine wp_seq (wp_block (wp_seq (piece_18 w0 U N ub qb mb n mem out vi vo vs s12 s13 s14 s15 ini f w Us1 _ hm0 (by omega) fun Us2 => ?_)))
  have hb2 : Below w.heap.size w (w.alloc (frO f)) := (Below.refl _ _).alloc (Nat.le_refl _) _
  have hm2 := hm0.keep hb2
  have hz2 : (w.alloc (frO f)).heap.size = w.heap.size + 1 := World.size_alloc _ _
  refine wp_seq (piece_19 w0 U N ub qb mb n mem out vi vo vs s12 s13 s14 s15 ini f (w.alloc (frO f)) Us2 _ hm2 (hrel.un.below hm2.below) w.heap.size (heap_alloc_new w _) (by omega) gg hg hgood i hi fun Us3 w3 ib hb3 hib hibx => ?_)
  have hm3 := hm2.keep hb3
  have hfb3 : w3.heap[w.heap.size]? = some (frO f) := (hb3.block _ (by omega)).trans (heap_alloc_new w _)
  refine wp_seq (piece_20 w0 U N ub qb mb n mem out vi vo vs _ s14 s15 ini f w3 Us3 _ hm3 w.heap.size hfb3 hpos.1 (by omega) fun Us4 => ?_)
  refine wp_seq (piece_21 ub qb mb vi _ vo vs _ _ _ s15 w3 Us4 _ fun Us5 => ?_)
  have hlt : ∀ x ∈ ini ++ [f], x.rb < w.heap.size := fun x hx => lt_heap (hm0.regs x hx)
  have hmid : Mid w0 U N ub qb mb w.heap.size ib mem out inp vi vo vs ini f i w3 :=
    ⟨hrel.un, hrel.right, hm3, hrel.inp, hfb3, hibx, ⟨hNw, by omega, by omega⟩,
      ⟨fun e => by have := (hm0.outh.lt _ e).2; omega, fun e => by have := (hm0.stkh.lt _ e).2; omega, fun x hx e => by have := hlt x hx; omega⟩,
      ⟨fun e => by have := (hm0.outh.lt _ e).2; omega, fun e => by have := (hm0.stkh.lt _ e).2; omega, fun x hx e => by have := hlt x hx; omega⟩⟩
  refine step_wp vi vo vs r Us5 _ hmid gg hg hgood hi hok hrun hob (by omega) ?_ ?_ ?_
  · intro a w' hj
    exact piece_fuel w0 U N ub qb mb n r w' K Q a hj hK
  · intro a w' hj
    exact inBlock_here (piece_fuel w0 U N ub qb mb n r w' K Q a hj hK)
  · intro a w' hz
    exact hR a w' hz
theorem loop_wp {w0 : World} {U : UnR} {N ub qb mb n : Nat} {r : Rsu} {a : Act} {w : World} (h : RunI w0 U N ub qb mb r n a w) (Q : Exit → Act → World → Prop) (hE : ∀ a w', RunI w0 U N ub qb mb r 0 a w' → Q (.exit 2) a w') (hR : ∀ a w', RunZ w0 qb r a w' → Q .ret a w') :
    Code.wp Try.prog (.loop runBody) Q a w := by
  refine wp_loop_ghost (fun n a w => RunI w0 U N ub qb mb r n a w) n h ?_
  intro n a w hI
  cases n with
  | zero =>
    obtain ⟨vi, vo, vs, s12, s13, s14, s15, stk, s, hrel, Us, rfl⟩ := hI
    rw [body_eq]
    exact wp_seq (piece_F0 ub qb mb vi vo vs s12 s13 s14 s15 w Us _ fun Us1 => hE _ _ ⟨vi, vo, vs, s12, s13, s14, s15, stk, s, hrel, Us1, rfl⟩)
  | succ n => exact round_wp hI _ Q (fun a w' h => ⟨n, Nat.lt_succ_self n, h⟩) hR
end Go.Proofs.Ytgnpbodhjmappaa
namespace Go.Proofs.Ytgnpbodhjmappaa
set_option maxRecDepth 100000
open Go.RowKit Cd
def RunPost (r : Rsu) (w : World) (e : Ending) (w' : World) : Prop := ∃ a c, e = .returned (.agg #[.int .i64 r.fin, .int .i64 r.code, .slice a r.out.length c]) ∧ w'.ownsRow w.heap.size 5 1 (.slice a r.out.length c) r.out.length (u8s r.out) ∧ Below w.heap.size w w'
theorem wp_loop_eq {P : Program} {Q : Exit → Act → World → Prop} {a : Act} {w : World} {c d : Code} (h : c = d) (h2 : Code.wp P (.loop d) Q a w) : Code.wp P (.loop c) Q a w := h ▸ h2
theorem RunAt.ended {w0 w : World} {U : UnR} {N ub qb mb : Nat} {mem : List Int} {out : List UInt8} {vo vs : Value} {stk : List FrR} (h : RunAt w0 w U N ub qb mb mem out vo vs stk) (x y : Int) : RunE w0 qb ⟨x, y, out⟩ (((w.setCell ⟨qb, 0, none⟩ (.int .i64 x)).setCell ⟨qb, 1, none⟩ (.int .i64 y)).setCell ⟨qb, 2, none⟩ vo) := by
  obtain ⟨a, c, hv⟩ := row_slice h.outh
  have hq := h.lqb
  have hne : ∀ g, vo.ownBlock = some g → g ≠ qb := fun g hg => by have := (h.outh.lt g hg).1; omega
  refine ⟨a, out.length, c, ?_, ?_, ?_⟩
  · rw [hv]
    exact cells_set (cells_set (cells_set h.res 0 _) 1 _) 2 _
  · rw [← hv]
    refine ownsRow_le (own_keep h.outh fun g hg => ?_) (show w0.heap.size ≤ N by omega)
    exact (heap_other (hne g hg)).trans ((heap_other (hne g hg)).trans (heap_other (hne g hg)))
  · exact ((h.below.setCell (show w0.heap.size ≤ qb by omega) _).setCell (show w0.heap.size ≤ qb by omega) _).setCell (show w0.heap.size ≤ qb by omega) _
set_option maxHeartbeats 8000000 in
set_option maxRecDepth 1000000 in
theorem run_ret {w0 w : World} {r : Rsu} {ub qb mb : Nat} {vi v2 vo vs s12 s13 s14 s15 : Value} {Us : Nat → Value} (h : RunE w0 qb r w) : bodyPost Try.prog Try.f46 (RunPost r w0) .ret (frM Us ub qb mb vi v2 vo vs s12 s13 s14 s15) w := by
  obtain ⟨a, n, c, h1, h2, h3⟩ := h
  obtain ⟨a', c', e⟩ := row_slice h2
  injection e with e1 e2 e3
  subst e2
  obtain ⟨r0, r1, r2⟩ := nv3 h1
  unfold frM
  exact bodyPost_ret (v := .agg #[.int .i64 r.fin, .int .i64 r.code, .slice a r.out.length c]) (by simp [results, Try.results46, go_sem, r0, r1, r2] <;> rfl) rfl ⟨a, c, rfl, h2, h3⟩
theorem first_run {w wr : World} {U : UnR} {m mb : Nat} {r : FnR} (hb : Below w.heap.size w wr) (hu : wr.heap[w.heap.size]? = some (unO U)) (hr : wr.heap[w.heap.size + 1]? = some resO) (hm : wr.heap[mb]? = some (memO (memOf U.gs (List.replicate 4096 0)))) (h1 : w.heap.size + 1 < wr.heap.size) (h2 : mb < wr.heap.size) (h3 : w.heap.size + 1 < mb) (h4 : w.heap.size < mb) :
    RunAt w ((wr.alloc (memO (List.replicate r.f.regs.toNat 0))).alloc (frO ⟨⟨m, U.top, 0, -1, List.replicate r.f.regs.toNat 0⟩, wr.heap.size⟩)).drew.drew U wr.heap.size w.heap.size (w.heap.size + 1) mb (mem0 U.un) [] (.slice none 0 0) (.slice (some ⟨wr.heap.size + 1, 0, none⟩) 1 1) [⟨⟨m, U.top, 0, -1, List.replicate r.f.regs.toNat 0⟩, wr.heap.size⟩] := by
  have e1 : ∀ k, k < wr.heap.size → ((wr.alloc (memO (List.replicate r.f.regs.toNat 0))).alloc (frO ⟨⟨m, U.top, 0, -1, List.replicate r.f.regs.toNat 0⟩, wr.heap.size⟩)).heap[k]? = wr.heap[k]? := fun k hk => (Below.heap_alloc _ _ k (by rw [World.size_alloc]; omega)).trans (Below.heap_alloc wr _ k hk)
  have hz : (wr.alloc (memO (List.replicate r.f.regs.toNat 0))).heap.size = wr.heap.size + 1 := World.size_alloc _ _
  have e2 : ((wr.alloc (memO (List.replicate r.f.regs.toNat 0))).alloc (frO ⟨⟨m, U.top, 0, -1, List.replicate r.f.regs.toNat 0⟩, wr.heap.size⟩)).heap[wr.heap.size]? = some (memO (List.replicate r.f.regs.toNat 0)) := (Below.heap_alloc _ _ _ (by rw [hz]; omega)).trans (heap_alloc_new wr _)
  have e3 : ((wr.alloc (memO (List.replicate r.f.regs.toNat 0))).alloc (frO ⟨⟨m, U.top, 0, -1, List.replicate r.f.regs.toNat 0⟩, wr.heap.size⟩)).heap[wr.heap.size + 1]? = some (frO ⟨⟨m, U.top, 0, -1, List.replicate r.f.regs.toNat 0⟩, wr.heap.size⟩) := by have := heap_alloc_new (wr.alloc (memO (List.replicate r.f.regs.toNat 0))) (frO ⟨⟨m, U.top, 0, -1, List.replicate r.f.regs.toNat 0⟩, wr.heap.size⟩); rw [hz] at this; exact this
  refine RunAt.drew (RunAt.drew ?_)
  refine ⟨(hb.alloc hb.size _).alloc (by rw [hz]; have := hb.size; omega) _, ⟨Nat.le_refl _, by omega⟩, ⟨by omega, by omega⟩, ⟨by omega, by omega⟩, ⟨by omega, by omega, by omega⟩, (e1 _ (by omega)).trans hu, (e1 _ h1).trans hr, (e1 _ h2).trans hm, mem0_len _, World.ownsRow_nil _ _ _ _, ?_, ?_, by simp, ?_, ?_⟩
  · exact ⟨rfl, .inr ⟨wr.heap.size + 1, 1, _, rfl, by omega, e3, Nat.le_refl _, by unfold maxLen; omega, rfl, rfl⟩⟩
  · intro f hf
    rw [List.mem_singleton] at hf
    subst hf
    exact e2
  · intro f hf
    rw [List.mem_singleton] at hf
    subst hf
    exact ⟨Nat.le_refl _, by simp [Value.ownBlock], by simp [Value.ownBlock]⟩
  · intro g hg
    simp [Value.ownBlock] at hg
set_option maxHeartbeats 8000000 in
set_option maxRecDepth 100000 in
theorem run_go1 (U : UnR) (ia : Option Addr) (inp : List UInt8) (ic : Nat) (fuel : Int) (n : Nat) (B : Nat) (w : World) (hU : UnAt w B U) (hBw : B ≤ w.heap.size) (m : Nat) (hm : findI U.un.funcs wMain = m) (r : FnR) (hfn : U.fs[m]? = some r) (hpar : ¬ r.f.params > 0) (hbig : ¬ U.top + r.f.frame > 4096) (hin : InAt w (.slice ia inp.length ic) inp) (hfb : fuel = (n : Int)) (hnn : n ≤ 1000000) (hr : rightU U.un = true) :
    Calls Try.prog 46 #[unV U, .slice ia inp.length ic, .int .i64 fuel] w (RunPost (runS U.un n ⟨mem0 U.un, [], inp, [⟨m, U.top, 0, -1, List.replicate r.f.regs.toNat 0⟩]⟩) w) := by
  have hlg := hU.lg
  unfold maxLen at hlg
  have HU := Lib.hid hU; clear hU
  have HIN := Lib.hid hin; clear hin
  have HNN := Lib.hid hnn; clear hnn
  subst hfb
  have HM := Lib.hid hm; clear hm
  have HR := Lib.hid hr; clear hr
  have t0 : decide ((m : Int) < (0 : Int)) = false := by simp <;> omega
  have t1 : decide (r.f.params > (0 : Int)) = false := by simp <;> omega
  have t1' : decide ((0 : Int) < r.f.params) = false := by simp <;> omega
  have p0 : (0 : Int) ≤ (m : Int) := Int.natCast_nonneg _
  have p1 : (m : Int) < (U.fs.length : Int) := by have := (List.getElem?_eq_some_iff.1 hfn).1; omega
  have HFN := Lib.hid hfn; clear hfn
  have hmk := make_mem
  have u5 : decide (((n : Nat) : Int) > (1000000 : Int)) = false := by have := HNN.out; simp <;> omega
  have u5' : decide ((1000000 : Int) < ((n : Nat) : Int)) = false := by have := HNN.out; simp <;> omega
  have HA := Lib.hid (((Below.refl B w).alloc hBw (unO U)).alloc (by simp <;> omega) resO)
  have HA2 := Lib.hid (((Below.refl w.heap.size w).alloc (Nat.le_refl _) (unO U)).alloc (by simp) resO)
  have HQ2 := Lib.hid (show ((w.alloc (unO U)).alloc resO).heap[w.heap.size + 1]? = some resO by have := heap_alloc_new (w.alloc (unO U)) resO; simpa using this)
  have HQ := Lib.hid ((Below.heap_alloc (w.alloc (unO U)) resO w.heap.size (by simp)).trans (heap_alloc_new w (unO U)))
  go_enter Try.func46, Try.ntmps46
  go_wp2_with (first | ((with_reducible refine (find_main U B (m : Int) _ (HU.out.below HA.out) HM.out).mono ?_); rintro e v3 ⟨rfl, hb3⟩; have G0 : Hid (v3.heap[w.heap.size]? = some (unO U)) := Lib.hid ((hb3.block w.heap.size (by simp <;> omega)).trans HQ.out); have GR3 : Hid (v3.heap[w.heap.size + 1]? = some resO) := Lib.hid ((hb3.block _ (lt_heap HQ2.out)).trans HQ2.out); obtain ⟨d0, d1, d2⟩ := nv3 G0.out; have HB3 : Hid (Below w.heap.size w v3) := Lib.hid (HA2.out.trans (hb3.mono HA2.out.size))) | ((with_reducible refine (right_b U B true v3 (HU.out.below (HB3.out.mono hBw)) (Nat.le_trans hBw HB3.out.size) HR.out).mono ?_); rintro e v4 ⟨rfl, hb4⟩; have G1 : Hid (v4.heap[w.heap.size]? = some (unO U)) := Lib.hid ((hb4.block _ (lt_heap G0.out)).trans G0.out); have GR : Hid (v4.heap[w.heap.size + 1]? = some resO) := Lib.hid ((hb4.block _ (lt_heap GR3.out)).trans GR3.out); obtain ⟨b, off, hfa, hb, hbw, c0, c1, c2, c3, c4⟩ := (HU.out.below (HB3.out.mono hBw)).fn HFN.out; clear c0 c2 c4; replace c3 := (hb4.cell (p := ⟨b, off + m * 5 + 3, none⟩) (by show b < v3.heap.size; omega)).trans c3; replace c1 := (hb4.cell (p := ⟨b, off + m * 5 + 1, none⟩) (by show b < v3.heap.size; omega)).trans c1; obtain ⟨r0, r1, r2⟩ := nv3 GR.out; obtain ⟨z0, z1, z2⟩ := frozen3 GR.out; have HB4 : Hid (Below w.heap.size w v4) := Lib.hid (HB3.out.trans (hb4.mono HB3.out.size)); clear d0 d1 d2; obtain ⟨d0, d1, d2⟩ := nv3 G1.out))
  have HU4 := Lib.hid (HU.out.below (HB4.out.mono hBw))
  have hq : w.heap.size < v4.heap.size ∧ w.heap.size + 1 < v4.heap.size := ⟨lt_heap G1.out, lt_heap GR.out⟩
  clear d0 d1 d2 r0 r1 r2 z0 z1 z2 c1 c3 hb3 hb4
  go_loopw [9] (fun s9 wr => ∃ k : Nat, k ≤ U.gs.length ∧ s9 = .int .i64 k ∧ Hid (Below w.heap.size w wr) ∧ Hid (wr.heap[w.heap.size]? = some (unO U)) ∧ Hid (wr.heap[w.heap.size + 1]? = some resO) ∧ Hid (wr.heap[v4.heap.size]? = some (memO (memOf (U.gs.take k) (List.replicate 4096 0))))) (fun i wr => U.gs.length - (intOf i).toNat)
  case atStart => exact ⟨0, by omega, rfl, Lib.hid (HB4.out.alloc (by omega) _), Lib.hid ((Below.heap_alloc v4 _ w.heap.size hq.1).trans G1.out), Lib.hid ((Below.heap_alloc v4 _ (w.heap.size + 1) hq.2).trans GR.out), Lib.hid (heap_alloc_new v4 _)⟩
  case round =>
    obtain ⟨k, hk, rfl, HB, HW, HR5, HME⟩ := hrel
    obtain ⟨d0, d1, d2⟩ := nv3 HW.out
    have HU5 := Lib.hid (HU.out.below (HB.out.mono hBw))
    by_cases hlt : k < U.gs.length
    · obtain ⟨g, hg⟩ : ∃ g, U.gs[k]? = some g := ⟨_, List.getElem?_eq_getElem hlt⟩
      obtain ⟨b2, off2, hga, hb2, hBw2, q0, q1, q2, q3⟩ := HU5.out.gl hg
      have HG := Lib.hid hg; clear hg
      rw [hga] at d1; clear hga
      have k0 : (0 : Int) ≤ (k : Int) := Int.natCast_nonneg _
      have k1 : (k : Int) < (U.gs.length : Int) := by omega
      have HGO := Lib.hid (show 1 ≤ g.pos by have := (rightU_iff.1 HR.out).globals g (List.mem_of_getElem? HG.out); unfold globOk at this; simp at this; omega)
      by_cases z0 : g.pos < 4096
      · have u0 : decide (g.pos < (4096 : Int)) = true := by simp <;> omega
        have g0 : (0 : Int) ≤ g.pos := by have := HGO.out; omega
        have g1 : g.pos < (4096 : Int) := z0
        obtain ⟨⟨x0, m0⟩, m1⟩ := memO_cell (j := g.pos.toNat) HME.out (by rw [memOf_len, List.length_replicate]; omega)
        have HST : Hid (Below w.heap.size w (wr.setCell ⟨v4.heap.size, g.pos.toNat, none⟩ (.int .i64 g.init))) := Lib.hid (HB.out.setCell (show w.heap.size ≤ v4.heap.size by omega) _)
        have n1 : ¬ w.heap.size = v4.heap.size := by omega
        have n2 : ¬ b2 = v4.heap.size := by omega
        have n3 : ¬ v4.heap.size = w.heap.size := by omega
        have n4 : ¬ v4.heap.size = b2 := by omega
        go_wp2
        go_region_held3 (fun w' => w'.cell? ⟨w.heap.size, 1, none⟩ = some (.slice (some ⟨b2, off2, none⟩) U.gs.length U.gc) ∧ w'.cell? ⟨b2, off2 + k * 4 + 1, none⟩ = some (.int .i64 g.pos) ∧ w'.cell? ⟨b2, off2 + k * 4 + 3, none⟩ = some (.int .i64 g.init)) (go_keep) (fail)
        all_goals go_wp2
        go_roundw
        case rel => exact ⟨k + 1, by omega, by go_num, Lib.hid (drW HST.out), Lib.hid ((heap_other (by omega)).trans HW.out), Lib.hid ((heap_other (by omega)).trans HR5.out), by rw [memOf_yes _ HG.out z0]; exact Lib.hid (memO_set HME.out _ _)⟩
        case measure => simp [intOf]; omega
      · have u0 : decide (g.pos < (4096 : Int)) = false := by simp <;> omega
        go_wp2
        go_roundw
        case rel => exact ⟨k + 1, by omega, by go_num, HB, HW, HR5, by rw [memOf_no _ HG.out z0]; exact HME⟩
        case measure => simp [intOf]; omega
    · obtain rfl : k = U.gs.length := by omega
      obtain ⟨b', off', hfa', hb', hbw', _, _, c2', c3', _⟩ := HU5.out.fn HFN.out
      rw [hfa] at hfa'
      injection hfa' with hfa'
      injection hfa' with e1 e2
      subst e1 e2
      obtain ⟨r0, r1, r2⟩ := nv3 HR5.out
      obtain ⟨z0, z1, z2⟩ := frozen3 HR5.out
      have htp := (rightU_iff.1 HR.out).top
      have hfo := (rightU_iff.1 HR.out).funcs m r.f (by show U.fns[m]? = _; unfold UnR.fns; rw [List.getElem?_map, HFN.out]; rfl)
      unfold funcOk at hfo
      rw [Bool.and_eq_true, Bool.and_eq_true, rightF_iff] at hfo
      have hfr := hfo.1.1.frame
      have rg0 : 0 ≤ r.f.regs := by have := hfo.1.1.regs; have := hfo.1.1.params; omega
      have rg1 := hfo.1.1.regs.2
      clear hfo
      obtain ⟨tp0, tp1⟩ := htp
      obtain ⟨fr0, fr1⟩ := hfr
      change 1 ≤ U.top at tp0
      change U.top ≤ 4096 at tp1
      have t3 : decide (U.top + r.f.frame > (4096 : Int)) = false := by simp <;> omega
      have hwr : IntKind.i64.wrap (U.top + r.f.frame) = U.top + r.f.frame := by rw [IntKind.wrap_i64]; omega
      have t3' : decide ((4096 : Int) < U.top + r.f.frame) = false := by simp <;> omega
      go_wp2
      go_region_held3 (fun w' => w'.cell? ⟨w.heap.size, 2, none⟩ = some (.int .i64 U.top) ∧ w'.cell? ⟨w.heap.size, 0, none⟩ = some (.slice (some ⟨b, off, none⟩) U.fs.length U.fc) ∧ w'.cell? ⟨b, off + m * 5 + 3, none⟩ = some (.int .i64 r.f.frame)) (go_keep) (fail)
      all_goals go_wp2
      all_goals first | (exfalso; omega) | skip
      have hmr := make_row r.f.regs rg0 rg1
      have hz1 := lt_heap HW.out
      have n1 : ¬ w.heap.size = wr.heap.size := by omega
      have n2 : ¬ b = wr.heap.size := by omega
      have n3 : ¬ w.heap.size = wr.heap.size + 1 := by omega
      have n4 : ¬ b = wr.heap.size + 1 := by omega
      go_region_held3 (fun w' => w'.cell? ⟨w.heap.size, 2, none⟩ = some (.int .i64 U.top) ∧ w'.cell? ⟨w.heap.size, 0, none⟩ = some (.slice (some ⟨b, off, none⟩) U.fs.length U.fc) ∧ w'.cell? ⟨b, off + m * 5 + 2, none⟩ = some (.int .i64 r.f.regs)) (go_keep) (fail)
      all_goals go_wp2
      have hq9 := lt_heap HME.out
      have HS : Hid (RunAt w ((wr.alloc (memO (List.replicate r.f.regs.toNat 0))).alloc (frO ⟨⟨m, U.top, 0, -1, List.replicate r.f.regs.toNat 0⟩, wr.heap.size⟩)).drew.drew U wr.heap.size w.heap.size (w.heap.size + 1) v4.heap.size (mem0 U.un) [] (.slice none 0 0) (.slice (some ⟨wr.heap.size + 1, 0, none⟩) 1 1) [⟨⟨m, U.top, 0, -1, List.replicate r.f.regs.toNat 0⟩, wr.heap.size⟩]) := Lib.hid (first_run HB.out HW.out HR5.out (by have h9 := HME.out; rw [List.take_of_length_le (Nat.le_refl _)] at h9; exact h9) (by omega) hq9 (by omega) (by omega))
      have HRL : Hid (RunRel w U wr.heap.size w.heap.size (w.heap.size + 1) v4.heap.size n (runS U.un n ⟨mem0 U.un, [], inp, [⟨m, U.top, 0, -1, List.replicate r.f.regs.toNat 0⟩]⟩) (.slice ia inp.length ic) (.slice none 0 0) (.slice (some ⟨wr.heap.size + 1, 0, none⟩) 1 1) [⟨⟨m, U.top, 0, -1, List.replicate r.f.regs.toNat 0⟩, wr.heap.size⟩] ⟨mem0 U.un, [], inp, [⟨m, U.top, 0, -1, List.replicate r.f.regs.toNat 0⟩]⟩ ((wr.alloc (memO (List.replicate r.f.regs.toNat 0))).alloc (frO ⟨⟨m, U.top, 0, -1, List.replicate r.f.regs.toNat 0⟩, wr.heap.size⟩)).drew.drew) :=
        Lib.hid ⟨⟨HU.out.fs.mono hBw (Nat.le_refl _), HU.out.gs.mono hBw (Nat.le_refl _), fun q hq => RowAt.mono (HU.out.code q hq) hBw (Nat.le_refl _), HU.out.lf, HU.out.lg, HU.out.lc⟩, rightU_iff.1 HR.out, HS.out, rfl, by simp, StkOk.first (rightU_iff.1 HR.out) (by show U.fns[m]? = _; unfold UnR.fns; rw [List.getElem?_map, HFN.out]; rfl) (by show ¬ U.top + r.f.frame > 4096; omega), HIN.out, rfl, by simp <;> omega, by have := HNN.out; simp; omega, by have := HNN.out; simp; omega⟩
      have hLR : (List.replicate r.f.regs.toNat (0 : Int)).length = r.f.regs.toNat := List.length_replicate
      refine wp_loop_eq (d := runBody) (by kernel_rfl) ?_
      refine loop_wp (w0 := w) (U := U) (N := wr.heap.size) (ub := w.heap.size) (qb := w.heap.size + 1) (mb := v4.heap.size) (n := n) (r := runS U.un n ⟨mem0 U.un, [], inp, [⟨m, U.top, 0, -1, List.replicate r.f.regs.toNat 0⟩]⟩) ?_ _ ?_ ?_
      · have h8 := HRL.out
        unfold frO at h8
        simp only [hLR] at h8
        exact ⟨.slice ia inp.length ic, .slice none 0 0, .slice (some ⟨wr.heap.size + 1, 0, none⟩) 1 1, undef, undef, undef, undef, _, _, h8, IsFr.of (by kernel_rfl)⟩
      · rintro _ wz ⟨vi, vo, vs, s12, s13, s14, s15, stk, s, hrel, Us, rfl⟩
        have hrun := hrel.run
        have hm := hrel.mem
        obtain ⟨oa, oc, rfl⟩ := row_slice hm.outh
        have HM2 := Lib.hid hm; clear hm hrel
        obtain ⟨r0, r1, r2⟩ := nv3 HM2.out.res
        obtain ⟨z0, z1, z2⟩ := frozen3 HM2.out.res
        unfold frM
        go_step
        go_wp2
        rw [← hrun]
        obtain ⟨Us', e⟩ := IsFr.of (ub := w.heap.size) (qb := w.heap.size + 1) (mb := v4.heap.size) (vi := vi) (v2 := .int .i64 ((0 : Nat) : Int)) (vo := .slice oa s.out.length oc) (vs := vs) (s12 := s12) (s13 := s13) (s14 := s14) (s15 := s15) (by kernel_rfl)
        rw [e]
        exact run_ret (HM2.out.ended 4 0)
      · rintro _ wz ⟨hz, ub', mb', vi, v2, vo, vs, s12, s13, s14, s15, Us, rfl⟩
        exact run_ret hz
set_option maxHeartbeats 8000000 in
set_option maxRecDepth 100000 in
theorem run_go2 (U : UnR) (ia : Option Addr) (inp : List UInt8) (ic : Nat) (fuel : Int) (n : Nat) (B : Nat) (w : World) (hU : UnAt w B U) (hBw : B ≤ w.heap.size) (m : Nat) (hm : findI U.un.funcs wMain = m) (r : FnR) (hfn : U.fs[m]? = some r) (hpar : ¬ r.f.params > 0) (hbig : ¬ U.top + r.f.frame > 4096) (hin : InAt w (.slice ia inp.length ic) inp) (hfb : 1000000 < fuel) (hnn : n = 1000000) (hr : rightU U.un = true) :
    Calls Try.prog 46 #[unV U, .slice ia inp.length ic, .int .i64 fuel] w (RunPost (runS U.un n ⟨mem0 U.un, [], inp, [⟨m, U.top, 0, -1, List.replicate r.f.regs.toNat 0⟩]⟩) w) := by
  have hlg := hU.lg
  unfold maxLen at hlg
  have HU := Lib.hid hU; clear hU
  have HIN := Lib.hid hin; clear hin
  have HNN := Lib.hid hnn; clear hnn
  have HF := Lib.hid hfb
  have HM := Lib.hid hm; clear hm
  have HR := Lib.hid hr; clear hr
  have t0 : decide ((m : Int) < (0 : Int)) = false := by simp <;> omega
  have t1 : decide (r.f.params > (0 : Int)) = false := by simp <;> omega
  have t1' : decide ((0 : Int) < r.f.params) = false := by simp <;> omega
  have p0 : (0 : Int) ≤ (m : Int) := Int.natCast_nonneg _
  have p1 : (m : Int) < (U.fs.length : Int) := by have := (List.getElem?_eq_some_iff.1 hfn).1; omega
  have HFN := Lib.hid hfn; clear hfn
  have hmk := make_mem
  have u5 : decide (fuel > (1000000 : Int)) = true := by simp <;> omega
  have u5' : decide ((1000000 : Int) < fuel) = true := by simp <;> omega
  have HA := Lib.hid (((Below.refl B w).alloc hBw (unO U)).alloc (by simp <;> omega) resO)
  have HA2 := Lib.hid (((Below.refl w.heap.size w).alloc (Nat.le_refl _) (unO U)).alloc (by simp) resO)
  have HQ2 := Lib.hid (show ((w.alloc (unO U)).alloc resO).heap[w.heap.size + 1]? = some resO by have := heap_alloc_new (w.alloc (unO U)) resO; simpa using this)
  have HQ := Lib.hid ((Below.heap_alloc (w.alloc (unO U)) resO w.heap.size (by simp)).trans (heap_alloc_new w (unO U)))
  go_enter Try.func46, Try.ntmps46
  go_wp2_with (first | ((with_reducible refine (find_main U B (m : Int) _ (HU.out.below HA.out) HM.out).mono ?_); rintro e v3 ⟨rfl, hb3⟩; have G0 : Hid (v3.heap[w.heap.size]? = some (unO U)) := Lib.hid ((hb3.block w.heap.size (by simp <;> omega)).trans HQ.out); have GR3 : Hid (v3.heap[w.heap.size + 1]? = some resO) := Lib.hid ((hb3.block _ (lt_heap HQ2.out)).trans HQ2.out); obtain ⟨d0, d1, d2⟩ := nv3 G0.out; have HB3 : Hid (Below w.heap.size w v3) := Lib.hid (HA2.out.trans (hb3.mono HA2.out.size))) | ((with_reducible refine (right_b U B true v3 (HU.out.below (HB3.out.mono hBw)) (Nat.le_trans hBw HB3.out.size) HR.out).mono ?_); rintro e v4 ⟨rfl, hb4⟩; have G1 : Hid (v4.heap[w.heap.size]? = some (unO U)) := Lib.hid ((hb4.block _ (lt_heap G0.out)).trans G0.out); have GR : Hid (v4.heap[w.heap.size + 1]? = some resO) := Lib.hid ((hb4.block _ (lt_heap GR3.out)).trans GR3.out); obtain ⟨b, off, hfa, hb, hbw, c0, c1, c2, c3, c4⟩ := (HU.out.below (HB3.out.mono hBw)).fn HFN.out; clear c0 c2 c4; replace c3 := (hb4.cell (p := ⟨b, off + m * 5 + 3, none⟩) (by show b < v3.heap.size; omega)).trans c3; replace c1 := (hb4.cell (p := ⟨b, off + m * 5 + 1, none⟩) (by show b < v3.heap.size; omega)).trans c1; obtain ⟨r0, r1, r2⟩ := nv3 GR.out; obtain ⟨z0, z1, z2⟩ := frozen3 GR.out; have HB4 : Hid (Below w.heap.size w v4) := Lib.hid (HB3.out.trans (hb4.mono HB3.out.size)); clear d0 d1 d2; obtain ⟨d0, d1, d2⟩ := nv3 G1.out))
  have HU4 := Lib.hid (HU.out.below (HB4.out.mono hBw))
  have hq : w.heap.size < v4.heap.size ∧ w.heap.size + 1 < v4.heap.size := ⟨lt_heap G1.out, lt_heap GR.out⟩
  clear d0 d1 d2 r0 r1 r2 z0 z1 z2 c1 c3 hb3 hb4
  go_loopw [9] (fun s9 wr => ∃ k : Nat, k ≤ U.gs.length ∧ s9 = .int .i64 k ∧ Hid (Below w.heap.size w wr) ∧ Hid (wr.heap[w.heap.size]? = some (unO U)) ∧ Hid (wr.heap[w.heap.size + 1]? = some resO) ∧ Hid (wr.heap[v4.heap.size]? = some (memO (memOf (U.gs.take k) (List.replicate 4096 0))))) (fun i wr => U.gs.length - (intOf i).toNat)
  case atStart => exact ⟨0, by omega, rfl, Lib.hid (HB4.out.alloc (by omega) _), Lib.hid ((Below.heap_alloc v4 _ w.heap.size hq.1).trans G1.out), Lib.hid ((Below.heap_alloc v4 _ (w.heap.size + 1) hq.2).trans GR.out), Lib.hid (heap_alloc_new v4 _)⟩
  case round =>
    obtain ⟨k, hk, rfl, HB, HW, HR5, HME⟩ := hrel
    obtain ⟨d0, d1, d2⟩ := nv3 HW.out
    have HU5 := Lib.hid (HU.out.below (HB.out.mono hBw))
    by_cases hlt : k < U.gs.length
    · obtain ⟨g, hg⟩ : ∃ g, U.gs[k]? = some g := ⟨_, List.getElem?_eq_getElem hlt⟩
      obtain ⟨b2, off2, hga, hb2, hBw2, q0, q1, q2, q3⟩ := HU5.out.gl hg
      have HG := Lib.hid hg; clear hg
      rw [hga] at d1; clear hga
      have k0 : (0 : Int) ≤ (k : Int) := Int.natCast_nonneg _
      have k1 : (k : Int) < (U.gs.length : Int) := by omega
      have HGO := Lib.hid (show 1 ≤ g.pos by have := (rightU_iff.1 HR.out).globals g (List.mem_of_getElem? HG.out); unfold globOk at this; simp at this; omega)
      by_cases z0 : g.pos < 4096
      · have u0 : decide (g.pos < (4096 : Int)) = true := by simp <;> omega
        have g0 : (0 : Int) ≤ g.pos := by have := HGO.out; omega
        have g1 : g.pos < (4096 : Int) := z0
        obtain ⟨⟨x0, m0⟩, m1⟩ := memO_cell (j := g.pos.toNat) HME.out (by rw [memOf_len, List.length_replicate]; omega)
        have HST : Hid (Below w.heap.size w (wr.setCell ⟨v4.heap.size, g.pos.toNat, none⟩ (.int .i64 g.init))) := Lib.hid (HB.out.setCell (show w.heap.size ≤ v4.heap.size by omega) _)
        have n1 : ¬ w.heap.size = v4.heap.size := by omega
        have n2 : ¬ b2 = v4.heap.size := by omega
        have n3 : ¬ v4.heap.size = w.heap.size := by omega
        have n4 : ¬ v4.heap.size = b2 := by omega
        go_wp2
        go_region_held3 (fun w' => w'.cell? ⟨w.heap.size, 1, none⟩ = some (.slice (some ⟨b2, off2, none⟩) U.gs.length U.gc) ∧ w'.cell? ⟨b2, off2 + k * 4 + 1, none⟩ = some (.int .i64 g.pos) ∧ w'.cell? ⟨b2, off2 + k * 4 + 3, none⟩ = some (.int .i64 g.init)) (go_keep) (fail)
        all_goals go_wp2
        go_roundw
        case rel => exact ⟨k + 1, by omega, by go_num, Lib.hid (drW HST.out), Lib.hid ((heap_other (by omega)).trans HW.out), Lib.hid ((heap_other (by omega)).trans HR5.out), by rw [memOf_yes _ HG.out z0]; exact Lib.hid (memO_set HME.out _ _)⟩
        case measure => simp [intOf]; omega
      · have u0 : decide (g.pos < (4096 : Int)) = false := by simp <;> omega
        go_wp2
        go_roundw
        case rel => exact ⟨k + 1, by omega, by go_num, HB, HW, HR5, by rw [memOf_no _ HG.out z0]; exact HME⟩
        case measure => simp [intOf]; omega
    · obtain rfl : k = U.gs.length := by omega
      obtain ⟨b', off', hfa', hb', hbw', _, _, c2', c3', _⟩ := HU5.out.fn HFN.out
      rw [hfa] at hfa'
      injection hfa' with hfa'
      injection hfa' with e1 e2
      subst e1 e2
      obtain ⟨r0, r1, r2⟩ := nv3 HR5.out
      obtain ⟨z0, z1, z2⟩ := frozen3 HR5.out
      have htp := (rightU_iff.1 HR.out).top
      have hfo := (rightU_iff.1 HR.out).funcs m r.f (by show U.fns[m]? = _; unfold UnR.fns; rw [List.getElem?_map, HFN.out]; rfl)
      unfold funcOk at hfo
      rw [Bool.and_eq_true, Bool.and_eq_true, rightF_iff] at hfo
      have hfr := hfo.1.1.frame
      have rg0 : 0 ≤ r.f.regs := by have := hfo.1.1.regs; have := hfo.1.1.params; omega
      have rg1 := hfo.1.1.regs.2
      clear hfo
      obtain ⟨tp0, tp1⟩ := htp
      obtain ⟨fr0, fr1⟩ := hfr
      change 1 ≤ U.top at tp0
      change U.top ≤ 4096 at tp1
      have t3 : decide (U.top + r.f.frame > (4096 : Int)) = false := by simp <;> omega
      have hwr : IntKind.i64.wrap (U.top + r.f.frame) = U.top + r.f.frame := by rw [IntKind.wrap_i64]; omega
      have t3' : decide ((4096 : Int) < U.top + r.f.frame) = false := by simp <;> omega
      go_wp2
      go_region_held3 (fun w' => w'.cell? ⟨w.heap.size, 2, none⟩ = some (.int .i64 U.top) ∧ w'.cell? ⟨w.heap.size, 0, none⟩ = some (.slice (some ⟨b, off, none⟩) U.fs.length U.fc) ∧ w'.cell? ⟨b, off + m * 5 + 3, none⟩ = some (.int .i64 r.f.frame)) (go_keep) (fail)
      all_goals go_wp2
      all_goals first | (exfalso; omega) | skip
      have hmr := make_row r.f.regs rg0 rg1
      have hz1 := lt_heap HW.out
      have n1 : ¬ w.heap.size = wr.heap.size := by omega
      have n2 : ¬ b = wr.heap.size := by omega
      have n3 : ¬ w.heap.size = wr.heap.size + 1 := by omega
      have n4 : ¬ b = wr.heap.size + 1 := by omega
      go_region_held3 (fun w' => w'.cell? ⟨w.heap.size, 2, none⟩ = some (.int .i64 U.top) ∧ w'.cell? ⟨w.heap.size, 0, none⟩ = some (.slice (some ⟨b, off, none⟩) U.fs.length U.fc) ∧ w'.cell? ⟨b, off + m * 5 + 2, none⟩ = some (.int .i64 r.f.regs)) (go_keep) (fail)
      all_goals go_wp2
      have hq9 := lt_heap HME.out
      have HS : Hid (RunAt w ((wr.alloc (memO (List.replicate r.f.regs.toNat 0))).alloc (frO ⟨⟨m, U.top, 0, -1, List.replicate r.f.regs.toNat 0⟩, wr.heap.size⟩)).drew.drew U wr.heap.size w.heap.size (w.heap.size + 1) v4.heap.size (mem0 U.un) [] (.slice none 0 0) (.slice (some ⟨wr.heap.size + 1, 0, none⟩) 1 1) [⟨⟨m, U.top, 0, -1, List.replicate r.f.regs.toNat 0⟩, wr.heap.size⟩]) := Lib.hid (first_run HB.out HW.out HR5.out (by have h9 := HME.out; rw [List.take_of_length_le (Nat.le_refl _)] at h9; exact h9) (by omega) hq9 (by omega) (by omega))
      have HRL : Hid (RunRel w U wr.heap.size w.heap.size (w.heap.size + 1) v4.heap.size n (runS U.un n ⟨mem0 U.un, [], inp, [⟨m, U.top, 0, -1, List.replicate r.f.regs.toNat 0⟩]⟩) (.slice ia inp.length ic) (.slice none 0 0) (.slice (some ⟨wr.heap.size + 1, 0, none⟩) 1 1) [⟨⟨m, U.top, 0, -1, List.replicate r.f.regs.toNat 0⟩, wr.heap.size⟩] ⟨mem0 U.un, [], inp, [⟨m, U.top, 0, -1, List.replicate r.f.regs.toNat 0⟩]⟩ ((wr.alloc (memO (List.replicate r.f.regs.toNat 0))).alloc (frO ⟨⟨m, U.top, 0, -1, List.replicate r.f.regs.toNat 0⟩, wr.heap.size⟩)).drew.drew) :=
        Lib.hid ⟨⟨HU.out.fs.mono hBw (Nat.le_refl _), HU.out.gs.mono hBw (Nat.le_refl _), fun q hq => RowAt.mono (HU.out.code q hq) hBw (Nat.le_refl _), HU.out.lf, HU.out.lg, HU.out.lc⟩, rightU_iff.1 HR.out, HS.out, rfl, by simp, StkOk.first (rightU_iff.1 HR.out) (by show U.fns[m]? = _; unfold UnR.fns; rw [List.getElem?_map, HFN.out]; rfl) (by show ¬ U.top + r.f.frame > 4096; omega), HIN.out, rfl, by simp <;> omega, by have := HNN.out; simp; omega, by have := HNN.out; simp; omega⟩
      have hLR : (List.replicate r.f.regs.toNat (0 : Int)).length = r.f.regs.toNat := List.length_replicate
      refine wp_loop_eq (d := runBody) (by kernel_rfl) ?_
      refine loop_wp (w0 := w) (U := U) (N := wr.heap.size) (ub := w.heap.size) (qb := w.heap.size + 1) (mb := v4.heap.size) (n := n) (r := runS U.un n ⟨mem0 U.un, [], inp, [⟨m, U.top, 0, -1, List.replicate r.f.regs.toNat 0⟩]⟩) ?_ _ ?_ ?_
      · have h8 := HRL.out
        unfold frO at h8
        simp only [hLR] at h8
        have e9 := HNN.out
        subst e9
        exact ⟨.slice ia inp.length ic, .slice none 0 0, .slice (some ⟨wr.heap.size + 1, 0, none⟩) 1 1, undef, undef, undef, undef, _, _, h8, IsFr.of (by kernel_rfl)⟩
      · rintro _ wz ⟨vi, vo, vs, s12, s13, s14, s15, stk, s, hrel, Us, rfl⟩
        have hrun := hrel.run
        have hm := hrel.mem
        obtain ⟨oa, oc, rfl⟩ := row_slice hm.outh
        have HM2 := Lib.hid hm; clear hm hrel
        obtain ⟨r0, r1, r2⟩ := nv3 HM2.out.res
        obtain ⟨z0, z1, z2⟩ := frozen3 HM2.out.res
        unfold frM
        go_step
        go_wp2
        rw [← hrun]
        obtain ⟨Us', e⟩ := IsFr.of (ub := w.heap.size) (qb := w.heap.size + 1) (mb := v4.heap.size) (vi := vi) (v2 := .int .i64 ((0 : Nat) : Int)) (vo := .slice oa s.out.length oc) (vs := vs) (s12 := s12) (s13 := s13) (s14 := s14) (s15 := s15) (by kernel_rfl)
        rw [e]
        exact run_ret (HM2.out.ended 4 0)
      · rintro _ wz ⟨hz, ub', mb', vi, v2, vo, vs, s12, s13, s14, s15, Us, rfl⟩
        exact run_ret hz
end Go.Proofs.Ytgnpbodhjmappaa
namespace Go.Proofs.Ytgnpbodhjmappaa
open Go.RowKit Cd
theorem RunPost.of_nil {v : Value} {x : Int} {w : World} {e : Ending} {w' : World} {r : Rsu} (hv : v = .agg #[.int .i64 x, .int .i64 0, .slice none 0 0]) (hr : r = ⟨x, 0, []⟩) (h : RPost v w e w') : RunPost r w e w' := by
  obtain ⟨he, hb⟩ := h
  subst hv hr
  exact ⟨none, 0, he, World.ownsRow_nil _ _ _ _, hb⟩
theorem run_any (U : UnR) (ia : Option Addr) (inp : List UInt8) (ic : Nat) (fuel : Int) (B : Nat) (w : World) (hU : UnAt w B U) (hBw : B ≤ w.heap.size) (hin : InAt w (.slice ia inp.length ic) inp) :
    Calls Try.prog 46 #[unV U, .slice ia inp.length ic, .int .i64 fuel] w (RunPost (runU U.un inp fuel) w) := by
  cases hm : findN U.un.funcs wMain with
  | none =>
    have e : runU U.un inp fuel = ⟨4, 0, []⟩ := by unfold runU; rw [hm]
    cases hr : rightU U.un with
    | false => exact (run_wrong U ia inp.length ic fuel B w hU hBw _ rfl hr).mono fun _ _ h => RunPost.of_nil rfl e h
    | true => exact (run_nomain U ia inp.length ic fuel B w hU hBw (-1) (findI_neg hm) (by omega) hr).mono fun _ _ h => RunPost.of_nil rfl e h
  | some m =>
    obtain ⟨g, hg, _⟩ := findN_some _ _ _ hm
    obtain ⟨r, hfn, rfl⟩ := UnR.at_fn hg
    have hmI := findI_at hm
    cases hr : rightU U.un with
    | false =>
      have e : runU U.un inp fuel = ⟨4, 0, []⟩ := by unfold runU; rw [hm]; simp only [hg, hr]; rw [if_pos (.inl trivial)]
      exact (run_wrong U ia inp.length ic fuel B w hU hBw _ rfl hr).mono fun _ _ h => RunPost.of_nil rfl e h
    | true =>
      by_cases hpar : r.f.params > 0
      · have e : runU U.un inp fuel = ⟨4, 0, []⟩ := by unfold runU; rw [hm]; simp only [hg, hr]; rw [if_pos (.inr hpar)]
        exact (run_params U ia inp.length ic fuel B w hU hBw m hmI r hfn hpar hr).mono fun _ _ h => RunPost.of_nil rfl e h
      have e0 : runU U.un inp fuel = if U.top + r.f.frame > 4096 then ⟨3, 0, []⟩ else runS U.un (fuelOf fuel) ⟨mem0 U.un, [], inp, [⟨m, U.top, 0, -1, List.replicate r.f.regs.toNat 0⟩]⟩ := by
        unfold runU; rw [hm]; simp only [hg, hr]
        rw [if_neg (by rintro (h | h); cases h; exact hpar h)]
        rfl
      by_cases hbig : U.top + r.f.frame > 4096
      · rw [if_pos hbig] at e0
        exact (run_big U ia inp.length ic fuel B w hU hBw m hmI r hfn hpar hbig hr).mono fun _ _ h => RunPost.of_nil rfl e0 h
      rw [if_neg hbig] at e0
      rw [e0]
      by_cases hf : fuel ≤ 0
      · have e1 : fuelOf fuel = 0 := by unfold fuelOf; rw [if_neg (by omega)]; omega
        rw [e1]
        exact (run_spent U ia inp.length ic fuel B w hU hBw m hmI r hfn hpar hbig hf hr).mono fun _ _ h => RunPost.of_nil rfl rfl h
      by_cases hf2 : fuel ≤ 1000000
      · have e1 : fuelOf fuel = fuel.toNat := by unfold fuelOf; rw [if_neg (by omega)]
        rw [e1]
        exact run_go1 U ia inp ic fuel fuel.toNat B w hU hBw m hmI r hfn hpar hbig hin (by omega) (by omega) hr
      · have e1 : fuelOf fuel = 1000000 := by unfold fuelOf; rw [if_pos (by omega)]
        rw [e1]
        exact run_go2 U ia inp ic fuel 1000000 B w hU hBw m hmI r hfn hpar hbig hin (by omega) rfl hr
end Go.Proofs.Ytgnpbodhjmappaa
