/-
  Layer 7: code.Run: what is not run.
  Layer 7: code.Run tells what runU does.
  Layer 7: code.Run tells what runU does, of any unit.
  doppellaw07's awake: a small unit is run.
-/
import Derived.Test.YtmcpfjhdeplgmaaQC7Right
import Derived.Test.YtmcpfjhdeplgmaaQMem
import Derived.Test.YtmcpfjhdeplgmaaQLoop
import Derived.Deep.LoopGhost
import Derived.Deep.Cut
namespace Go.Proofs.Ytmcpfjhdeplgmaa
open Go.RowKit Cd Go.Maps
set_option linter.unusedVariables false
set_option linter.unusedSimpArgs false

theorem findI_none7 {fs : List Fnc} {s : List UInt8} (h : findN fs s = none) : findI fs s = -1 := by unfold findI; rw [h]
theorem findI_some7 {fs : List Fnc} {s : List UInt8} {k : Nat} (h : findN fs s = some k) : findI fs s = k := by unfold findI; rw [h]
theorem right_cb (U : UnR) (B : Nat) (b : Bool) (w : World) (hU : UnAt w B U) (hB : B ≤ w.heap.size) (hn : Names U) (hW : ∀ g ∈ U.gs, Wd g.pos) (h : rightU U.un = b) :
    Calls Try.prog 11 #[unV U] w (RPost (.bool b) w) := h ▸ right_c U B w hU hB hn hW
theorem find_cm (U : UnR) (B : Nat) (m : Int) (w : World) (hU : UnAt w B U) (hB : B ≤ w.heap.size) (hn : Names U) (hlen : U.fs.length ≤ 1000) (h : findI U.un.funcs wMain = m) :
    Calls Try.prog 13 #[unV U, .string ⟨#[109, 97, 105, 110]⟩] w (RPost (.int .i64 m) w) := h ▸ find_c U wMain B w hU hB hn hlen (by decide)
abbrev resO7 : Obj := .cells #[.int .i64 0, .int .i64 0, .slice none 0 0] 36
theorem frozen7 {w : World} {b : Nat} {cs : Array Value} {t : TypeId} (h : w.heap[b]? = some (.cells cs t (0, 0))) : w.frozen? ⟨b, 0, none⟩ = false ∧ w.frozen? ⟨b, 1, none⟩ = false ∧ w.frozen? ⟨b, 2, none⟩ = false := by
  refine ⟨?_, ?_, ?_⟩ <;> simp [World.frozen?, h]
set_option maxHeartbeats 4000000 in
set_option maxRecDepth 100000 in
theorem crun_nomain (U : UnR) (ia : Option Addr) (il ic : Nat) (fuel : Int) (w : World) (hU : UnAt w w.heap.size U) (hn : Names U) (hW : ∀ g ∈ U.gs, Wd g.pos) (hlen : U.fs.length ≤ 1000) (hm : findI U.un.funcs wMain = -1) :
    Calls Try.prog 15 #[unV U, .slice ia il ic, .int .i64 fuel] w (RPost (.agg #[.int .i64 4, .int .i64 0, .slice none 0 0]) w) := by
  have HU := Lib.hid hU; clear hU
  have HM := Lib.hid hm; clear hm
  have HN := Lib.hid hn; have HW := Lib.hid hW; have HL := Lib.hid hlen; clear hn hW hlen
  have HA := Lib.hid (((Below.refl w.heap.size w).alloc (Nat.le_refl _) (unO U)).alloc (by simp <;> omega) resO7)
  have HQ2 := Lib.hid (show ((w.alloc (unO U)).alloc resO7).heap[w.heap.size + 1]? = some resO7 by have := heap_alloc_new (w.alloc (unO U)) resO7; simpa using this)
  have HQ := Lib.hid ((Below.heap_alloc (w.alloc (unO U)) resO7 w.heap.size (by simp)).trans (heap_alloc_new w (unO U)))
  go_enter Try.func15, Try.ntmps15
  go_wp2_with ((with_reducible refine (find_cm U w.heap.size (-1) _ (HU.out.below HA.out) HA.out.size HN.out HL.out HM.out).mono ?_); rintro e v3 ⟨rfl, hb3⟩; have G0 : Hid (v3.heap[w.heap.size]? = some (unO U)) := Lib.hid ((hb3.block w.heap.size (by simp <;> omega)).trans HQ.out); have GR3 : Hid (v3.heap[w.heap.size + 1]? = some resO7) := Lib.hid ((hb3.block _ (lt_heap HQ2.out)).trans HQ2.out); obtain ⟨d0, d1, d2⟩ := nv3 G0.out; obtain ⟨r0, r1, r2⟩ := nv3 GR3.out; obtain ⟨z0, z1, z2⟩ := frozen7 GR3.out; have HB3 : Hid (Below w.heap.size w v3) := Lib.hid (HA.out.trans (hb3.mono HA.out.size)))
  exact bodyPost_ret (v := .agg #[.int .i64 4, .int .i64 0, .slice none 0 0]) (by simp [results, Try.results15, go_sem, r0, r1, r2] <;> rfl) rfl ⟨rfl, ((HB3.out.setCell (by simp) _).setCell (by simp) _).setCell (by simp) _⟩
set_option maxHeartbeats 4000000 in
set_option maxRecDepth 100000 in
theorem crun_params (U : UnR) (ia : Option Addr) (il ic : Nat) (fuel : Int) (w : World) (hU : UnAt w w.heap.size U) (hn : Names U) (hW : ∀ g ∈ U.gs, Wd g.pos) (hlen : U.fs.length ≤ 1000) (m : Nat) (hm : findI U.un.funcs wMain = m) (r : FnR) (hfn : U.fs[m]? = some r) (hpar : r.f.params ≠ 0) :
    Calls Try.prog 15 #[unV U, .slice ia il ic, .int .i64 fuel] w (RPost (.agg #[.int .i64 4, .int .i64 0, .slice none 0 0]) w) := by
  have HU := Lib.hid hU; clear hU
  have HM := Lib.hid hm; clear hm
  have HN := Lib.hid hn; have HW := Lib.hid hW; have HL := Lib.hid hlen; clear hn hW hlen
  have tk : ((m : Int) == -1) = false := by simp <;> omega
  have p0 : (0 : Int) ≤ (m : Int) := Int.natCast_nonneg _
  have p1 : (m : Int) < (U.fs.length : Int) := by have := (List.getElem?_eq_some_iff.1 hfn).1; omega
  obtain ⟨fb, off, hfa, hfb, _, _, c1w, _⟩ := HU.out.fn hfn
  have hix : ∀ W, (Instr.indexAt 22 (.slice U.fa U.fs.length U.fc) (.int .i64 m)).run Try.prog W = .ok (.pointer (some ⟨fb, off + m * 5, none⟩)) W := fun W => by
    rw [hfa]
    go_simp
  have C1W := Lib.hid c1w
  have HFA := Lib.hid hfa
  have HFN := Lib.hid hfn; clear hfn c1w hfa
  have tp : (r.f.params != 0) = true := by simpa using hpar
  have HA := Lib.hid (((Below.refl w.heap.size w).alloc (Nat.le_refl _) (unO U)).alloc (by simp <;> omega) resO7)
  have HQ2 := Lib.hid (show ((w.alloc (unO U)).alloc resO7).heap[w.heap.size + 1]? = some resO7 by have := heap_alloc_new (w.alloc (unO U)) resO7; simpa using this)
  have HQ := Lib.hid ((Below.heap_alloc (w.alloc (unO U)) resO7 w.heap.size (by simp)).trans (heap_alloc_new w (unO U)))
  go_enter Try.func15, Try.ntmps15
  go_wp2_with ((with_reducible refine (find_cm U w.heap.size (m : Int) _ (HU.out.below HA.out) HA.out.size HN.out HL.out HM.out).mono ?_); rintro e v3 ⟨rfl, hb3⟩; have G0 : Hid (v3.heap[w.heap.size]? = some (unO U)) := Lib.hid ((hb3.block w.heap.size (by simp <;> omega)).trans HQ.out); have GR3 : Hid (v3.heap[w.heap.size + 1]? = some resO7) := Lib.hid ((hb3.block _ (lt_heap HQ2.out)).trans HQ2.out); obtain ⟨d0, d1, d2⟩ := nv3 G0.out; obtain ⟨r0, r1, r2⟩ := nv3 GR3.out; obtain ⟨z0, z1, z2⟩ := frozen7 GR3.out; have HB3 : Hid (Below w.heap.size w v3) := Lib.hid (HA.out.trans (hb3.mono HA.out.size)); have c1 : v3.cell? ⟨fb, off + m * 5 + 1, none⟩ = some (.int .i64 r.f.params) := (HB3.out.cell (p := ⟨fb, off + m * 5 + 1, none⟩) hfb).trans C1W.out)
  exact bodyPost_ret (v := .agg #[.int .i64 4, .int .i64 0, .slice none 0 0]) (by simp [results, Try.results15, go_sem, r0, r1, r2] <;> rfl) rfl ⟨rfl, ((HB3.out.setCell (by simp) _).setCell (by simp) _).setCell (by simp) _⟩
set_option maxHeartbeats 4000000 in
set_option maxRecDepth 100000 in
theorem crun_wrong (U : UnR) (ia : Option Addr) (il ic : Nat) (fuel : Int) (w : World) (hU : UnAt w w.heap.size U) (hn : Names U) (hW : ∀ g ∈ U.gs, Wd g.pos) (hlen : U.fs.length ≤ 1000) (m : Nat) (hm : findI U.un.funcs wMain = m) (r : FnR) (hfn : U.fs[m]? = some r) (hpar : r.f.params = 0) (hr : rightU U.un = false) :
    Calls Try.prog 15 #[unV U, .slice ia il ic, .int .i64 fuel] w (RPost (.agg #[.int .i64 4, .int .i64 0, .slice none 0 0]) w) := by
  have HU := Lib.hid hU; clear hU
  have HM := Lib.hid hm; clear hm
  have HN := Lib.hid hn; have HW := Lib.hid hW; have HL := Lib.hid hlen; clear hn hW hlen
  have tk : ((m : Int) == -1) = false := by simp <;> omega
  have p0 : (0 : Int) ≤ (m : Int) := Int.natCast_nonneg _
  have p1 : (m : Int) < (U.fs.length : Int) := by have := (List.getElem?_eq_some_iff.1 hfn).1; omega
  obtain ⟨fb, off, hfa, hfb, _, _, c1w, _⟩ := HU.out.fn hfn
  have hix : ∀ W, (Instr.indexAt 22 (.slice U.fa U.fs.length U.fc) (.int .i64 m)).run Try.prog W = .ok (.pointer (some ⟨fb, off + m * 5, none⟩)) W := fun W => by
    rw [hfa]
    go_simp
  have C1W := Lib.hid c1w
  have HFA := Lib.hid hfa
  have HFN := Lib.hid hfn; clear hfn c1w hfa
  have HR := Lib.hid hr; clear hr
  have tp : (r.f.params != 0) = false := by simpa using hpar
  have HA := Lib.hid (((Below.refl w.heap.size w).alloc (Nat.le_refl _) (unO U)).alloc (by simp <;> omega) resO7)
  have HQ2 := Lib.hid (show ((w.alloc (unO U)).alloc resO7).heap[w.heap.size + 1]? = some resO7 by have := heap_alloc_new (w.alloc (unO U)) resO7; simpa using this)
  have HQ := Lib.hid ((Below.heap_alloc (w.alloc (unO U)) resO7 w.heap.size (by simp)).trans (heap_alloc_new w (unO U)))
  go_enter Try.func15, Try.ntmps15
  go_wp2_with (first | ((with_reducible refine (find_cm U w.heap.size (m : Int) _ (HU.out.below HA.out) HA.out.size HN.out HL.out HM.out).mono ?_); rintro e v3 ⟨rfl, hb3⟩; have G0 : Hid (v3.heap[w.heap.size]? = some (unO U)) := Lib.hid ((hb3.block w.heap.size (by simp <;> omega)).trans HQ.out); have GR3 : Hid (v3.heap[w.heap.size + 1]? = some resO7) := Lib.hid ((hb3.block _ (lt_heap HQ2.out)).trans HQ2.out); obtain ⟨d0, d1, d2⟩ := nv3 G0.out; obtain ⟨r0, r1, r2⟩ := nv3 GR3.out; obtain ⟨z0, z1, z2⟩ := frozen7 GR3.out; have HB3 : Hid (Below w.heap.size w v3) := Lib.hid (HA.out.trans (hb3.mono HA.out.size)); have c1 : v3.cell? ⟨fb, off + m * 5 + 1, none⟩ = some (.int .i64 r.f.params) := (HB3.out.cell (p := ⟨fb, off + m * 5 + 1, none⟩) hfb).trans C1W.out) | ((with_reducible refine (right_cb U w.heap.size false v3 (HU.out.below HB3.out) HB3.out.size HN.out HW.out HR.out).mono ?_); rintro e v4 ⟨rfl, hb4⟩; have G1 : Hid (v4.heap[w.heap.size]? = some (unO U)) := Lib.hid ((hb4.block _ (lt_heap G0.out)).trans G0.out); have GR : Hid (v4.heap[w.heap.size + 1]? = some resO7) := Lib.hid ((hb4.block _ (lt_heap GR3.out)).trans GR3.out); clear r0 r1 r2 z0 z1 z2; obtain ⟨r0, r1, r2⟩ := nv3 GR.out; obtain ⟨z0, z1, z2⟩ := frozen7 GR.out; have HB4 : Hid (Below w.heap.size w v4) := Lib.hid (HB3.out.trans (hb4.mono HB3.out.size)); clear d0 d1 d2; obtain ⟨d0, d1, d2⟩ := nv3 G1.out))
  exact bodyPost_ret (v := .agg #[.int .i64 4, .int .i64 0, .slice none 0 0]) (by simp [results, Try.results15, go_sem, r0, r1, r2] <;> rfl) rfl ⟨rfl, ((HB4.out.setCell (by simp) _).setCell (by simp) _).setCell (by simp) _⟩
end Go.Proofs.Ytmcpfjhdeplgmaa
namespace Go.Proofs.Ytmcpfjhdeplgmaa
open Go.RowKit Cd Go.Maps
set_option linter.unusedVariables false
set_option linter.unusedSimpArgs false

/-- What a run hands back: its end, its code, its output in memory of its own. -/
def RunPost (r : Rsu) (w : World) (e : Ending) (w' : World) : Prop := ∃ a c, e = .returned (.agg #[.int .i64 r.fin, .int .i64 r.code, .slice a r.out.length c]) ∧ w'.ownsRow w.heap.size 5 1 (.slice a r.out.length c) r.out.length (u8s r.out) ∧ Below w.heap.size w w'
theorem begin_main {w0 w : World} {U : UnR} {N : Nat} {b : Blk} {M : Mac} {V : MV} (h : MacAt w0 w U N b M V) (hU : UnAt w0 w0.heap.size U) (k : Nat) (r : FnR) (hr : U.fs[k]? = some r) (hs : M.sets.length = M.regs.length) (hf : 0 ≤ M.free ∧ M.free ≤ 4096) (hfr : 0 ≤ r.f.frame ∧ r.f.frame ≤ 4096) (hcl : M.calls.length ≤ 1000000) (hal : M.aside.length ≤ 9000000) :
    Calls Try.prog 32 #[mP b, .int .i64 k, .int .i64 (-1), .slice none 0 0] w (MPost w0 U N b w V (beginM U M k r (-1) []) (.tuple #[])) :=
  begin_any h hU k r hr (-1) none 0 [] (fun h0 => absurd h0 (by simp)) (Nat.zero_le _) (Nat.zero_le _) hs hf hfr hcl hal
theorem own_mono7 {w : World} {B B' : Nat} {e : TypeId} {size : Nat} {v : Value} {n : Nat} {xs : List Value} (h : w.ownsRow B e size v n xs) (hb : B' ≤ B) : w.ownsRow B' e size v n xs := by
  obtain ⟨hl, h | ⟨g, cap, cur, a, b, c⟩⟩ := h
  · exact ⟨hl, .inl h⟩
  · exact ⟨hl, .inr ⟨g, cap, cur, a, Nat.le_trans hb b, c⟩⟩
theorem exec_build {P : Program} {f : Operand → Value} {o : Oper} {t : TypeId} {parts : Array (Nat × Operand)} (ho : o.op = .build t parts) {vs : Array (Nat × Value)} (hp : (parts.map fun (i, x) => (i, f x)) = vs) {v : Value} {w : World} (h : (Instr.build t vs).run P w = .ok v w) : (execOp f o).run P w = .ok (.value v) w := by
  unfold execOp
  simp only [ho, hp]
  simp [h]
/-- The answer is put into its box. -/
theorem run_end {w W1 wr : World} {U : UnR} {N : Nat} {b : Blk} {M : Mac} {V : MV} {R : Rsu} {oa : Option Addr} {oc : Nat} (h : MacAt W1 wr U N b M V) (hb : Below w.heap.size w W1) (hq : w.heap.size + 1 < W1.heap.size) (hv : V.vo = .slice oa M.out.length oc) (h1 : M.fin = R.fin) (h2 : M.code = R.code) (h3 : M.out = R.out) :
    RunPost R w (.returned (.agg #[.int .i64 M.fin, .int .i64 M.code, .slice oa M.out.length oc])) (((wr.setCell ⟨w.heap.size + 1, 0, none⟩ (.int .i64 M.fin)).setCell ⟨w.heap.size + 1, 1, none⟩ (.int .i64 M.code)).setCell ⟨w.heap.size + 1, 2, none⟩ (.slice oa M.out.length oc)) := by
  have hlo := h.lo.1
  have hhi := h.hi.1
  have ho := h.out
  rw [hv] at ho
  refine ⟨oa, oc, by rw [← h1, ← h2, ← h3], ?_, (((hb.trans (h.below.mono hb.size)).setCell (show w.heap.size ≤ w.heap.size + 1 by omega) _).setCell (show w.heap.size ≤ w.heap.size + 1 by omega) _).setCell (show w.heap.size ≤ w.heap.size + 1 by omega) _⟩
  rw [← h3]
  refine own_mono7 (own_keep ho (fun g hg => ?_)) (by have := hb.size; omega)
  have hg1 := (ho.lt g hg).1
  have hne : g ≠ w.heap.size + 1 := by omega
  exact (heap_other7 hne).trans ((heap_other7 hne).trans (heap_other7 hne))
set_option maxHeartbeats 16000000 in
set_option maxRecDepth 100000 in
theorem crun_main (U : UnR) (ia : Option Addr) (inp : List UInt8) (ic : Nat) (fuel : Int) (w : World) (hU : UnAt w w.heap.size U) (hn : Names U) (hW : ∀ g ∈ U.gs, Wd g.pos) (hlen : U.fs.length ≤ 1000) (hin : CIn w (.slice ia inp.length ic) inp) (m : Nat) (hm : findI U.un.funcs wMain = m) (r : FnR) (hfn : U.fs[m]? = some r) (hpar : r.f.params = 0) (hr : rightU U.un = true) (R : Rsu) (hR : runU U.un inp fuel = R) :
    Calls Try.prog 15 #[unV U, .slice ia inp.length ic, .int .i64 fuel] w (RunPost R w) := by
  have hRU := rightU_iff.1 hr
  have hmx := mostR_ge U.fns 0
  have hrg : ∀ f ∈ U.fns, 0 ≤ f.regs ∧ f.regs ≤ 4096 := fun f hf => by
    obtain ⟨k, hk⟩ := List.mem_iff_getElem?.1 hf
    have hF := hRU.funcs k f hk
    unfold funcOk at hF
    rw [Bool.and_eq_true, Bool.and_eq_true, rightF_iff] at hF
    have h1 := hF.1.1.params
    have h2 := hF.1.1.regs
    omega
  have hgp : ∀ g ∈ U.gs, 1 ≤ g.pos := fun g hg => by
    have := hRU.globals g hg
    unfold globOk at this
    simp only [Bool.and_eq_true, decide_eq_true_eq] at this
    exact this.1.1.1.1.1
  have htx : ∀ f ∈ U.un.funcs, ∀ i ∈ f.code, i.text.length ≤ 1000000 := fun f hf i hi => by
    obtain ⟨x, hx, rfl⟩ := List.mem_map.1 (show f ∈ U.fs.map (·.f) from hf)
    exact (hn x hx).2 i hi
  have hfnU : U.un.funcs[m]? = some r.f := by unfold UnR.un UnR.fns; rw [List.getElem?_map, hfn]; rfl
  have hfrm : 0 ≤ r.f.frame ∧ r.f.frame ≤ 4096 := by
    have hF := hRU.funcs m r.f hfnU
    unfold funcOk at hF
    rw [Bool.and_eq_true, Bool.and_eq_true, rightF_iff] at hF
    exact hF.1.1.frame
  have htop : 1 ≤ U.top ∧ U.top ≤ 4096 := hRU.top
  obtain ⟨fu, hfuE⟩ : ∃ fu, fuelOf fuel = fu := ⟨_, rfl⟩
  have hfu : fu ≤ 1000000 := by rw [← hfuE]; unfold fuelOf; split <;> omega
  obtain ⟨most, hmost⟩ : ∃ n, (mostR U.fns 0).toNat = n := ⟨_, rfl⟩
  have hLI : LoopI U.un R (fu + 1) (beginM U { macS U.top fu most inp with mem := memOf U.gs (macS U.top fu most inp).mem } m r (-1) []) := by
    have hfindN : findN U.un.funcs wMain = some m := by
      unfold findI at hm
      cases hx : findN U.un.funcs wMain with
      | none => rw [hx] at hm; exact absurd hm (by show ¬ ((-1 : Int) = (m : Int)); omega)
      | some k => rw [hx] at hm; simp only at hm; rw [show k = m by omega]
    have e0 : R = if U.top + r.f.frame > 4096 then ⟨3, 0, []⟩ else runS U.un fu ⟨mem0 U.un, [], inp, [⟨m, U.top, 0, -1, List.replicate r.f.regs.toNat 0⟩]⟩ := by
      rw [← hR, ← hfuE]
      unfold runU
      rw [hfindN]
      simp only [hfnU, hr]
      rw [if_neg (by rintro (h | h); cases h; omega)]
      rfl
    have hmm : memOf U.gs (macS U.top fu most inp).mem = mem0 U.un := rfl
    rw [hmm]
    by_cases hbig : U.top + r.f.frame > 4096
    · rw [if_pos hbig] at e0
      unfold beginM
      rw [if_pos (by show r.f.frame > 4096 - U.top; omega), e0]
      exact .inl ⟨by show (3 : Int) ≠ 0; decide, rfl, rfl, rfl⟩
    · rw [if_neg hbig] at e0
      obtain ⟨b1, b2⟩ := loop_first (u := U.un) hRU rfl hfn hbig hfu (most := most) (fun f hf => by have := hmx.2 f hf; omega) (inp := inp)
      rw [b1, e0]
      exact b2
  obtain ⟨M6, hM6⟩ : ∃ M6 : Mac, ({ macS U.top fu most inp with mem := memOf U.gs (macS U.top fu most inp).mem } : Mac) = M6 := ⟨_, rfl⟩
  rw [hM6] at hLI
  have HS6 : Hid (M6.sets.length = M6.regs.length) := Lib.hid (by rw [← hM6]; rfl)
  have HF6 : Hid (0 ≤ M6.free ∧ M6.free ≤ 4096) := Lib.hid (by rw [← hM6]; exact ⟨by show 0 ≤ U.top; omega, htop.2⟩)
  have HC6 : Hid (M6.calls.length ≤ 1000000) := Lib.hid (by rw [← hM6]; exact Nat.zero_le _)
  have HA6 : Hid (M6.aside.length ≤ 9000000) := Lib.hid (by rw [← hM6]; exact Nat.zero_le _)
  have HM6E := Lib.hid hM6
  have HLI := Lib.hid hLI
  have HRU := Lib.hid hRU; have HRG := Lib.hid hrg; have HGP := Lib.hid hgp; have HTX := Lib.hid htx; have HFR := Lib.hid hfrm; have HTP := Lib.hid htop; have HCI := Lib.hid hin; have HMO := Lib.hid hmost
  have hmax : ∀ ts t W, (Builtin.max_ ts t #[.int .i64 fuel, .int .i64 0]).run Try.prog W = .ok (.int .i64 (if 0 > fuel then 0 else fuel)) W := fun ts t W => by rw [run_max_int2]
  obtain ⟨x, hx⟩ : ∃ x, (if 0 > fuel then 0 else fuel) = x := ⟨_, rfl⟩
  have hmin : ∀ ts t W, (Builtin.min_ ts t #[.int .i64 x, .int .i64 1000000]).run Try.prog W = .ok (.int .i64 fu) W := fun ts t W => by
    rw [run_min_int2]
    have e : (if 1000000 < x then 1000000 else x) = (fu : Int) := by
      rw [← hfuE, ← hx]
      unfold fuelOf
      by_cases h0 : 0 > fuel
      · rw [if_pos h0, if_neg (by omega), if_neg (by omega)]; omega
      · rw [if_neg h0]
        by_cases h1 : fuel > 1000000
        · rw [if_pos (by omega), if_pos h1]; rfl
        · rw [if_neg (by omega), if_neg h1]; omega
    rw [e]
  rw [hx] at hmax
  clear hM6 hLI hRU hrg hgp htx hfrm htop hmost hmx hfuE hx hR hfnU hin
  have HU := Lib.hid hU; clear hU
  have HM := Lib.hid hm; clear hm
  have HN := Lib.hid hn; have HW := Lib.hid hW; have HL := Lib.hid hlen; clear hn hW hlen
  have tk : ((m : Int) == -1) = false := by simp <;> omega
  have p0 : (0 : Int) ≤ (m : Int) := Int.natCast_nonneg _
  have p1 : (m : Int) < (U.fs.length : Int) := by have := (List.getElem?_eq_some_iff.1 hfn).1; omega
  obtain ⟨fb, off, hfa, hfb, _, _, c1w, _⟩ := HU.out.fn hfn
  have hix : ∀ W, (Instr.indexAt 22 (.slice U.fa U.fs.length U.fc) (.int .i64 m)).run Try.prog W = .ok (.pointer (some ⟨fb, off + m * 5, none⟩)) W := fun W => by
    rw [hfa]
    go_simp
  have C1W := Lib.hid c1w
  have HFA := Lib.hid hfa
  have HFN := Lib.hid hfn; clear hfn c1w hfa
  have HR := Lib.hid hr; clear hr
  have tp : (r.f.params != 0) = false := by simpa using hpar
  have HA := Lib.hid (((Below.refl w.heap.size w).alloc (Nat.le_refl _) (unO U)).alloc (by simp <;> omega) resO7)
  have HQ2 := Lib.hid (show ((w.alloc (unO U)).alloc resO7).heap[w.heap.size + 1]? = some resO7 by have := heap_alloc_new (w.alloc (unO U)) resO7; simpa using this)
  have HQ := Lib.hid ((Below.heap_alloc (w.alloc (unO U)) resO7 w.heap.size (by simp)).trans (heap_alloc_new w (unO U)))
  obtain ⟨W1, hW1⟩ : ∃ W1 : World, (w.alloc (unO U)).alloc resO7 = W1 := ⟨_, rfl⟩
  rw [hW1] at HA HQ HQ2
  have hw1s : w.heap.size + 2 = W1.heap.size := by rw [← hW1]; simp
  have HU1 := Lib.hid (UnAt.up (HU.out.below HA.out) HA.out.size (Nat.le_refl _))
  have HC1 := Lib.hid (HCI.out.up HA.out)
  have HW1 := Lib.hid hW1
  have C1V := Lib.hid ((HA.out.cell (p := ⟨fb, off + m * 5 + 1, none⟩) hfb).trans C1W.out)
  have hfb1 : fb < W1.heap.size := by omega
  clear hW1 HCI HU C1W hfb
  go_enter Try.func15, Try.ntmps15
  go_wp2_with (first | ((with_reducible refine (find_cm U W1.heap.size (m : Int) _ (by rw [HW1.out]; exact HU1.out) (by rw [HW1.out]; exact Nat.le_refl _) HN.out HL.out HM.out).mono ?_); rintro e v3 ⟨rfl, hb3⟩; rw [HW1.out] at hb3; have G0 : Hid (v3.heap[w.heap.size]? = some (unO U)) := Lib.hid ((hb3.block w.heap.size (by omega)).trans HQ.out); obtain ⟨d0, d1, d2⟩ := nv3 G0.out; have HB3 := Lib.hid hb3; have c1 : v3.cell? ⟨fb, off + m * 5 + 1, none⟩ = some (.int .i64 r.f.params) := (HB3.out.cell (p := ⟨fb, off + m * 5 + 1, none⟩) hfb1).trans C1V.out; clear hb3) | ((with_reducible refine (right_cb U W1.heap.size true v3 (HU1.out.below HB3.out) HB3.out.size HN.out HW.out HR.out).mono ?_); rintro e v4 ⟨rfl, hb4⟩; have G1 : Hid (v4.heap[w.heap.size]? = some (unO U)) := Lib.hid ((hb4.block _ (lt_heap G0.out)).trans G0.out); have HB4 : Hid (Below W1.heap.size W1 v4) := Lib.hid (HB3.out.trans (hb4.mono HB3.out.size)); clear d0 d1 d2 c1 hb4))
  have hmix : Try.prog.follows .mixedOrders = true := by kernel_rfl
  refine region_last (fun W : World => W.heap[w.heap.size]? = some (unO U)) 1000000 hmix ?_
  have hS : (fun W : World => W.heap[w.heap.size]? = some (unO U)) v4.drew := G1.out
  refine anyL_takeH (i := 0) (v := ?_) rfl (by decide) (by kernel_rfl) (by kernel_rfl) (by kernel_rfl) (fun _ _ _ h => h) (Or.inl ⟨by rfl, ?_⟩) hS ?_
  rotate_left
  · (intro w' hSw; obtain ⟨d0, d1, d2⟩ := nv3 hSw; go_simp; first | done | with_reducible rfl)
  simp only [Act.put, List.getElem_toArray, List.getElem_cons_succ, List.getElem_cons_zero, List.setIfInBounds_toArray, List.set_cons_succ, List.set_cons_zero]
  refine anyL_takeH (i := 1) (v := ?_) rfl (by decide) (by kernel_rfl) (by kernel_rfl) (by kernel_rfl) (fun _ _ _ h => h) (Or.inl ⟨by rfl, ?_⟩) hS ?_
  rotate_left
  · (intro w' hSw; obtain ⟨d0, d1, d2⟩ := nv3 hSw; go_simp; first | done | with_reducible rfl)
  simp only [Act.put, List.getElem_toArray, List.getElem_cons_succ, List.getElem_cons_zero, List.setIfInBounds_toArray, List.set_cons_succ, List.set_cons_zero]
  refine anyL_takeH (i := 3) (v := ?_) rfl (by decide) (by kernel_rfl) (by kernel_rfl) (by kernel_rfl) (fun _ _ _ h => h) (Or.inl ⟨by rfl, ?_⟩) hS ?_
  rotate_left
  · (intro w' hSw; obtain ⟨d0, d1, d2⟩ := nv3 hSw; go_simp; first | done | with_reducible rfl)
  simp only [Act.put, List.getElem_toArray, List.getElem_cons_succ, List.getElem_cons_zero, List.setIfInBounds_toArray, List.set_cons_succ, List.set_cons_zero]
  refine anyL_takeH (i := 4) (v := ?_) rfl (by decide) (by kernel_rfl) (by kernel_rfl) (by kernel_rfl) (fun _ _ _ h => h) (Or.inl ⟨by rfl, ?_⟩) hS ?_
  rotate_left
  · (intro w' hSw; obtain ⟨d0, d1, d2⟩ := nv3 hSw; go_simp; first | done | with_reducible rfl)
  simp only [Act.put, List.getElem_toArray, List.getElem_cons_succ, List.getElem_cons_zero, List.setIfInBounds_toArray, List.set_cons_succ, List.set_cons_zero]
  refine anyL_takeH (i := 5) (v := ?_) rfl (by decide) (by kernel_rfl) (by kernel_rfl) (by kernel_rfl) (fun _ _ _ h => h) (Or.inl ⟨by rfl, ?_⟩) hS ?_
  rotate_left
  · (intro w' hSw; obtain ⟨d0, d1, d2⟩ := nv3 hSw; go_simp; first | done | with_reducible rfl)
  simp only [Act.put, List.getElem_toArray, List.getElem_cons_succ, List.getElem_cons_zero, List.setIfInBounds_toArray, List.set_cons_succ, List.set_cons_zero]
  refine anyL_takeH (i := 6) (v := ?_) rfl (by decide) (by kernel_rfl) (by kernel_rfl) (by kernel_rfl) (fun _ _ _ h => h) (Or.inl ⟨by rfl, ?_⟩) hS ?_
  rotate_left
  · (intro w' hSw; obtain ⟨d0, d1, d2⟩ := nv3 hSw; go_simp; first | done | with_reducible rfl)
  simp only [Act.put, List.getElem_toArray, List.getElem_cons_succ, List.getElem_cons_zero, List.setIfInBounds_toArray, List.set_cons_succ, List.set_cons_zero]
  refine anyL_takeH (i := 7) (v := ?_) rfl (by decide) (by kernel_rfl) (by kernel_rfl) (by kernel_rfl) (fun _ _ _ h => h) (Or.inl ⟨by rfl, ?_⟩) hS ?_
  rotate_left
  · (intro w' hSw; obtain ⟨d0, d1, d2⟩ := nv3 hSw; go_simp; first | done | with_reducible rfl)
  simp only [Act.put, List.getElem_toArray, List.getElem_cons_succ, List.getElem_cons_zero, List.setIfInBounds_toArray, List.set_cons_succ, List.set_cons_zero]
  refine anyL_takeH (i := 8) (v := ?_) rfl (by decide) (by kernel_rfl) (by kernel_rfl) (by kernel_rfl) (fun _ _ _ h => h) (Or.inl ⟨by rfl, ?_⟩) hS ?_
  rotate_left
  · (intro w' hSw; obtain ⟨d0, d1, d2⟩ := nv3 hSw; go_simp; first | done | with_reducible rfl)
  simp only [Act.put, List.getElem_toArray, List.getElem_cons_succ, List.getElem_cons_zero, List.setIfInBounds_toArray, List.set_cons_succ, List.set_cons_zero]
  refine anyL_one (i := 2) (by kernel_rfl) rfl (fun K1 hK1 => ?_)
  go_simp
  refine (places_any U W1.heap.size v4.drew (HU1.out.below HB4.out.drew) HB4.out.drew.size HN.out HL.out).mono ?_
  rintro e u ⟨pb, rfl, hp1, hp2, hp3⟩
  have hS2 : (fun W : World => W.heap[w.heap.size]? = some (unO U)) u := (hp2.block _ (lt_heap (show v4.drew.heap[w.heap.size]? = some (unO U) from hS))).trans hS
  have HP1 : Hid (v4.heap.size ≤ pb) := Lib.hid hp1; have HP2 : Hid (Below W1.heap.size W1 u) := Lib.hid (HB4.out.drew.trans (hp2.mono HB4.out.drew.size)); have HP3 := Lib.hid hp3
  clear hp1 hp2 hp3
  refine hK1.out _ _ (fun _ => hS2) ?_
  clear hK1 K1 hS
  obtain ⟨PL, hPL⟩ : ∃ PL, preL U pb (List.replicate 4096 0) U.top fu (.slice ia inp.length ic) = PL := ⟨_, rfl⟩
  have hbuild : ∀ W, (Instr.build 67 #[(0, unV U), (1, .map (some pb)), (3, .int .i64 U.top), (8, .slice ia inp.length ic), (9, .int .i64 fu)]).run Try.prog W = .ok (.agg PL.toArray) W := fun W => by rw [build_mac, hPL]
  have HPL := Lib.hid hPL
  clear hPL
  refine anyL_takeH (i := 9) (v := .agg PL.toArray) rfl (by decide) (by kernel_rfl) (by kernel_rfl) (by kernel_rfl) (fun _ _ _ h => h) (Or.inl ⟨by rfl, ?_⟩) hS2 ?_
  · intro w' hSw
    exact exec_build rfl (by simp [go_sem]) (hbuild w')
  simp only [Act.put, List.getElem_toArray, List.getElem_cons_succ, List.getElem_cons_zero, List.setIfInBounds_toArray, List.set_cons_succ, List.set_cons_zero]
  refine anyL_one (i := 10) (by kernel_rfl) rfl (fun K1 hK1 => ?_)
  go_simp
  have hS3 : (fun W : World => W.heap[w.heap.size]? = some (unO U)) (u.alloc (.cells PL.toArray 67)) := (Below.heap_alloc u _ _ (lt_heap hS2)).trans hS2
  refine hK1.out _ _ (fun _ => hS3) ?_
  clear hK1 K1
  refine anyL_one (i := 11) (by kernel_rfl) rfl (fun K1 hK1 => ?_)
  go_simp
  refine hK1.out _ _ (fun _ => hS3) ?_
  clear hK1 K1 hS2 hS3 hbuild hmax hmin
  refine anyL_done (by kernel_rfl) ?_ _
  have HBX : Hid ((u.alloc (.cells PL.toArray 67)).heap[u.heap.size]? = some (mcO (preL U pb (List.replicate 4096 0) U.top fu (.slice ia inp.length ic)))) := Lib.hid (by rw [HPL.out]; exact heap_alloc_new u _)
  have HBU : Hid (Below W1.heap.size W1 (u.alloc (.cells PL.toArray 67))) := Lib.hid (HP2.out.alloc HP2.out.size _)
  have HPU : Hid (PlacesAt (u.alloc (.cells PL.toArray 67)) pb U.fns) := Lib.hid (HP3.out.keep (Below.heap_alloc u _ _ HP3.out.lt))
  obtain ⟨UW, hUW⟩ : ∃ UW : World, u.alloc (.cells PL.toArray 67) = UW := ⟨_, rfl⟩
  have hus : u.heap.size < UW.heap.size := by rw [← hUW]; simp
  rw [hUW] at HBX HBU HPU ⊢
  clear hUW
  go_wp2_with (first | ((with_reducible refine (room_any HBX.out List.length_replicate (HU1.out.below HBU.out) HBU.out.size HP2.out.size HRG.out).mono ?_); rintro e v5 ⟨rfl, hrp⟩; obtain ⟨b, N, hbm, hmac⟩ := hrp.mac (inp := inp) HBU.out HP2.out.size hus HPU.out (Nat.le_trans HB4.out.size HP1.out) (by have := HP3.out.lt; omega) HC1.out; rw [HMO.out] at hmac; have HM5 := Lib.hid hmac; rw [← hbm]; clear hrp hmac hbm) | ((with_reducible refine (fill_any HM5.out HU1.out HGP.out).mono ?_); rintro e v6 ⟨rfl, V6, hm6, hv6⟩; rw [HM6E.out] at hm6; have HM6 := Lib.hid hm6; clear hm6 hv6) | ((with_reducible refine (begin_main HM6.out HU1.out m r HFN.out HS6.out HF6.out HFR.out HC6.out HA6.out).mono ?_); rintro e v7 ⟨rfl, V7, hm7, hv7⟩; have HM7 := Lib.hid hm7; clear hm7 hv7))
  go_loopg [] (fu + 1) (fun gk wr => ∃ (M : Mac) (V : MV), Hid (MacAt W1 wr U N b M V) ∧ Hid (LoopI U.un R gk M))
  case atStart => exact ⟨_, V7, HM7, HLI⟩
  case round =>
    obtain ⟨M, V, HM, HL2⟩ := hrel
    obtain ⟨_, _, _, _, _, _, _, _, _, _, _, k1, k2, k3⟩ := HM.out.cells
    by_cases hf : M.fin = 0
    · obtain ⟨M', k', hk, hcall, hI⟩ := LoopI.round HRU.out rfl HTX.out HL2.out hf HM.out HU1.out
      have HC := Lib.hid hcall; have HI := Lib.hid hI; have HK := Lib.hid hk
      rw [hf] at k1
      clear hcall hI hk hf k2 k3
      go_wp2_with ((with_reducible refine HC.out.mono ?_); rintro e v8 ⟨rfl, V8, hm8, hv8⟩; have HM8 := Lib.hid hm8; clear hm8 hv8)
      go_roundg k'
      case measure => exact HK.out
      case rel => exact ⟨M', V8, HM8, HI⟩
    · have tz : (M.fin == 0) = false := by simpa using hf
      have hres : M.fin = R.fin ∧ M.code = R.code ∧ M.out = R.out := by
        rcases HL2.out with ⟨_, h⟩ | ⟨h, _⟩
        · exact h
        · exact absurd h hf
      have HRS := Lib.hid hres
      obtain ⟨oa, oc, hvo⟩ := row_slice HM.out.out
      have HVO := Lib.hid hvo
      rw [hvo] at k3
      have GQ := Lib.hid ((HM.out.below.block _ (by omega)).trans HQ2.out)
      obtain ⟨r0, r1, r2⟩ := nv3 GQ.out
      obtain ⟨z0, z1, z2⟩ := frozen7 GQ.out
      clear hf hres hvo
      go_wp2
      exact bodyPost_ret (v := .agg #[.int .i64 M.fin, .int .i64 M.code, .slice oa M.out.length oc]) (by simp [results, Try.results15, go_sem, r0, r1, r2] <;> rfl) rfl (run_end HM.out HA.out (by omega) HVO.out HRS.out.1 HRS.out.2.1 HRS.out.2.2)
end Go.Proofs.Ytmcpfjhdeplgmaa
namespace Go.Proofs.Ytmcpfjhdeplgmaa
open Go.RowKit Cd Go.Maps
set_option linter.unusedVariables false
set_option linter.unusedSimpArgs false

theorem RunPost.of_nil {x : Int} {w : World} {e : Ending} {w' : World} {r : Rsu} (hr : r = ⟨x, 0, []⟩) (h : RPost (.agg #[.int .i64 x, .int .i64 0, .slice none 0 0]) w e w') : RunPost r w e w' := by
  obtain ⟨he, hb⟩ := h
  subst hr
  exact ⟨none, 0, he, World.ownsRow_nil _ _ _ _, hb⟩
theorem UnR.at7 {U : UnR} {k : Nat} {g : Fnc} (h : U.un.funcs[k]? = some g) : ∃ r, U.fs[k]? = some r ∧ r.f = g := by
  unfold UnR.un UnR.fns at h
  simp only [List.getElem?_map, Option.map_eq_some_iff] at h
  exact h
theorem crun_any (U : UnR) (ia : Option Addr) (inp : List UInt8) (ic : Nat) (fuel : Int) (B : Nat) (w : World) (hUB : UnAt w B U) (hBw : B ≤ w.heap.size) (hn : Names U) (hW : ∀ g ∈ U.gs, Wd g.pos) (hlen : U.fs.length ≤ 1000) (hin : CIn w (.slice ia inp.length ic) inp) :
    Calls Try.prog 15 #[unV U, .slice ia inp.length ic, .int .i64 fuel] w (RunPost (runU U.un inp fuel) w) := by
  have hU := hUB.up hBw (Nat.le_refl _)
  cases hm : findN U.un.funcs wMain with
  | none =>
    have e : runU U.un inp fuel = ⟨4, 0, []⟩ := by unfold runU; rw [hm]
    exact (crun_nomain U ia inp.length ic fuel w hU hn hW hlen (findI_none7 hm)).mono fun _ _ h => RunPost.of_nil e h
  | some m =>
    obtain ⟨g, hg, _⟩ := findN_some _ _ _ hm
    obtain ⟨r, hfn, rfl⟩ := UnR.at7 hg
    have hmI := findI_some7 hm
    by_cases hpar : r.f.params = 0
    · cases hr : rightU U.un with
      | false =>
        have e : runU U.un inp fuel = ⟨4, 0, []⟩ := by unfold runU; rw [hm]; simp only [hg, hr]; rw [if_pos (.inl trivial)]
        exact (crun_wrong U ia inp.length ic fuel w hU hn hW hlen m hmI r hfn hpar hr).mono fun _ _ h => RunPost.of_nil e h
      | true => exact crun_main U ia inp ic fuel w hU hn hW hlen hin m hmI r hfn hpar hr _ rfl
    · have e : runU U.un inp fuel = ⟨4, 0, []⟩ := by
        unfold runU
        rw [hm]
        simp only [hg]
        by_cases hr : rightU U.un = false
        · rw [if_pos (.inl hr)]
        · have hr' : rightU U.un = true := by simpa using hr
          have hF := (rightU_iff.1 hr').funcs m r.f hg
          unfold funcOk at hF
          rw [Bool.and_eq_true, Bool.and_eq_true, rightF_iff] at hF
          have := hF.1.1.params
          rw [if_pos (.inr (by omega))]
      exact (crun_params U ia inp.length ic fuel w hU hn hW hlen m hmI r hfn hpar).mono fun _ _ h => RunPost.of_nil e h
theorem crun_v (U : UnR) (ia : Option Addr) (inp : List UInt8) (n ic : Nat) (fuel : Int) (B : Nat) (w : World) (hUB : UnAt w B U) (hBw : B ≤ w.heap.size) (hn : Names U) (hW : ∀ g ∈ U.gs, Wd g.pos) (hlen : U.fs.length ≤ 1000) (hil : inp.length = n) (hin : CIn w (.slice ia n ic) inp) (R : Rsu) (hR : runU U.un inp fuel = R) :
    Calls Try.prog 15 #[unV U, .slice ia n ic, .int .i64 fuel] w (RunPost R w) := by
  subst hil hR
  exact crun_any U ia inp ic fuel B w hUB hBw hn hW hlen hin
end Go.Proofs.Ytmcpfjhdeplgmaa
namespace Go.Proofs.Ytmcpfjhdeplgmaa
open Go.RowKit Cd Go.Maps
set_option linter.unusedVariables false
set_option linter.unusedSimpArgs false

/-- The two instructions; the unit, whose blocks begin at n. -/
abbrev awI : Ins := ⟨(plainI 1).kind, (plainI 1).op, 0, (plainI 1).a, (plainI 1).b, 7, (plainI 1).text, (plainI 1).x0, (plainI 1).x1, (plainI 1).x2, (plainI 1).x3, (plainI 1).x4, (plainI 1).x5, (plainI 1).dest, (plainI 1).els⟩
abbrev awR : Ins := ⟨(plainI 13).kind, (plainI 13).op, (plainI 13).dst, (plainI 13).a, (plainI 13).b, (plainI 13).n, (plainI 13).text, (plainI 13).x0, (plainI 13).x1, (plainI 13).x2, (plainI 13).x3, (plainI 13).x4, (plainI 13).x5, (plainI 13).dest, (plainI 13).els⟩
def awU (n : Nat) : UnR := ⟨[⟨⟨[109, 97, 105, 110], 0, 1, 0, [awI, awR]⟩, some ⟨n + 1 + 1, 0, none⟩, 2⟩], some ⟨n + 1 + 1 + 1, 0, none⟩, 1, [], none, 0, 1⟩
abbrev aw2 (w : World) : World := (w.alloc (inO awI)).alloc (inO awR)
abbrev awC : Obj := .cells #[.int .i64 awI.kind, .int .i64 awI.op, .int .i64 awI.dst, .int .i64 awI.a, .int .i64 awI.b, .int .i64 awI.n, .string (sb awI.text), .int .i64 awI.x0, .int .i64 awI.x1, .int .i64 awI.x2, .int .i64 awI.x3, .int .i64 awI.x4, .int .i64 awI.x5, .int .i64 awI.dest, .int .i64 awI.els,
  .int .i64 awR.kind, .int .i64 awR.op, .int .i64 awR.dst, .int .i64 awR.a, .int .i64 awR.b, .int .i64 awR.n, .string (sb awR.text), .int .i64 awR.x0, .int .i64 awR.x1, .int .i64 awR.x2, .int .i64 awR.x3, .int .i64 awR.x4, .int .i64 awR.x5, .int .i64 awR.dest, .int .i64 awR.els] 46
abbrev awF (n : Nat) : Obj := .cells #[.string ⟨#[109, 97, 105, 110]⟩, .int .i64 0, .int .i64 1, .int .i64 0, .slice (some ⟨n + 1 + 1, 0, none⟩) 2 2] 30
abbrev awB (n : Nat) : Obj := .cells #[.slice (some ⟨n + 1 + 1 + 1, 0, none⟩) 1 1, .slice none 0 0, .int .i64 1] 25
abbrev awV (n : Nat) : Value := .agg #[.slice (some ⟨n + 1 + 1 + 1, 0, none⟩) 1 1, .slice none 0 0, .int .i64 1]
abbrev aw5 (w : World) : World := (((aw2 w).alloc awC).alloc (awF w.heap.size)).alloc (awB w.heap.size)
theorem aw5_at (w : World) : (aw5 w).heap.size = w.heap.size + 5 ∧ (aw5 w).heap[w.heap.size]? = some (inO awI) ∧ (aw5 w).heap[w.heap.size + 1 + 1]? = some awC ∧ (aw5 w).heap[w.heap.size + 1 + 1 + 1]? = some (awF w.heap.size) ∧ (aw5 w).heap[w.heap.size + 1 + 1 + 1 + 1]? = some (awB w.heap.size) ∧ Below w.heap.size w (aw5 w) := by
  have h0 := heap_alloc_new w (inO awI)
  have h2 := heap_alloc_new (aw2 w) awC
  have h3 := heap_alloc_new ((aw2 w).alloc awC) (awF w.heap.size)
  have h4 := heap_alloc_new (((aw2 w).alloc awC).alloc (awF w.heap.size)) (awB w.heap.size)
  have s2 : (aw2 w).heap.size = w.heap.size + 1 + 1 := by simp
  have s3 : ((aw2 w).alloc awC).heap.size = w.heap.size + 1 + 1 + 1 := by simp
  have s4 : (((aw2 w).alloc awC).alloc (awF w.heap.size)).heap.size = w.heap.size + 1 + 1 + 1 + 1 := by simp
  rw [s2] at h2
  rw [s3] at h3
  rw [s4] at h4
  refine ⟨by simp, ?_, ?_, ?_, h4, ?_⟩
  · exact (Below.heap_alloc _ _ _ (by rw [s4]; omega)).trans ((Below.heap_alloc _ _ _ (by rw [s3]; omega)).trans ((Below.heap_alloc _ _ _ (by rw [s2]; omega)).trans ((Below.heap_alloc _ _ _ (by simp)).trans h0)))
  · exact (Below.heap_alloc _ _ _ (by rw [s4]; omega)).trans ((Below.heap_alloc _ _ _ (by rw [s3]; omega)).trans h2)
  · exact (Below.heap_alloc _ _ _ (by rw [s4]; omega)).trans h3
  · exact (((((Below.refl _ w).alloc (Nat.le_refl _) _).alloc (by simp) _).alloc (by rw [s2]; omega) _).alloc (by rw [s3]; omega) _).alloc (by rw [s4]; omega) _
theorem row_block {w : World} {b B : Nat} {l : List Value} {t : TypeId} (h : w.heap[b]? = some (.cells l.toArray t)) (hb : b < B) (hB : B ≤ w.heap.size) : RowAt w B (some ⟨b, 0, none⟩) l := fun _ => by
  refine ⟨b, 0, rfl, hb, hB, fun j u hu => ?_⟩
  rw [Nat.zero_add, cell_of_row w b j _ _ _ h]
  simpa using hu
theorem aw_un {w W : World} (hb : Below (w.heap.size + 5) (aw5 w) W) : UnAt W (w.heap.size + 5) (awU w.heap.size) := by
  obtain ⟨s, a0, a2, a3, a4, _⟩ := aw5_at w
  have hs := hb.size
  rw [s] at hs
  refine ⟨row_block (t := 30) ((hb.block _ (by omega)).trans a3) (by omega) hs, fun h => (by simp [awU] at h), fun r hr => ?_, by unfold maxLen awU; simp, by unfold maxLen awU; simp, fun r hr => ?_⟩
  · obtain rfl : r = _ := by simpa [awU] using hr
    exact row_block (t := 46) ((hb.block _ (by omega)).trans a2) (by omega) hs
  · obtain rfl : r = _ := by simpa [awU] using hr
    simp [maxLen]
theorem aw_names (n : Nat) : Names (awU n) := fun r hr => by
  obtain rfl : r = _ := by simpa [awU] using hr
  refine ⟨by simp, fun i hi => ?_⟩
  simp only [List.mem_cons, List.not_mem_nil, or_false] at hi
  rcases hi with rfl | rfl <;> simp [plainI]
theorem aw_run (n : Nat) : runU (awU n).un [] 9 = ⟨1, 7, []⟩ := by
  show runU ⟨[⟨[109, 97, 105, 110], 0, 1, 0, [awI, awR]⟩], [], 1⟩ [] 9 = ⟨1, 7, []⟩
  kernel_rfl
theorem aw_right (n : Nat) : rightU (awU n).un = true := by
  show rightU ⟨[⟨[109, 97, 105, 110], 0, 1, 0, [awI, awR]⟩], [], 1⟩ = true
  decide +kernel
theorem run_awake (w : World) : Calls Try.prog 15 #[awV w.heap.size, .slice none 0 0, .int .i64 9] (aw5 w) (RunPost ⟨1, 7, []⟩ (aw5 w)) := by
  obtain ⟨s, _⟩ := aw5_at w
  exact crun_v (awU w.heap.size) none [] 0 0 9 (w.heap.size + 5) (aw5 w) (aw_un (Below.refl _ _)) (by omega) (aw_names _) (fun g hg => by simp [awU] at hg) (by simp [awU]) rfl ⟨none, 0, rfl, Nat.le_refl _, by unfold maxLen; omega, fun h => by simp [u8s] at h⟩ _ (aw_run _)
theorem right_awake (w W : World) (hb : Below (w.heap.size + 5) (aw5 w) W) : Calls Try.prog 11 #[awV w.heap.size] W (RPost (.bool true) W) := by
  obtain ⟨s, _⟩ := aw5_at w
  have := hb.size
  exact right_cb (awU w.heap.size) (w.heap.size + 5) true W (aw_un hb) (by omega) (aw_names _) (fun g hg => by simp [awU] at hg) (aw_right _)
theorem sets_awake (w : World) : Calls Try.prog 19 #[inV awI] w (RPost (.int .i64 0) w) := cSets_any awI w
set_option maxRecDepth 100000 in
set_option maxHeartbeats 8000000 in
theorem awake7_any (w : World) : Calls Try.prog 8 #[] w (RPost (.bool true) w) := by
  go_enter Try.func8, Try.ntmps8
  go_wp2_with (first | ((with_reducible refine (cplain_any 1 _).mono ?_); rintro e w1 ⟨rfl, hb1⟩; have HB1 := Lib.hid hb1; clear hb1) | ((with_reducible refine (cplain_any 13 _).mono ?_); rintro e w2 ⟨rfl, hb2⟩; have HB2 := Lib.hid (HB1.out.trans (hb2.mono HB1.out.size)); clear hb2))
  with_reducible refine (run_awake w2).mono ?_
  rintro e w3 ⟨ra, rc, rfl, ho3, hb3⟩
  obtain ⟨s5, a0, _, _, a4, hb5⟩ := aw5_at w2
  have HB3 := Lib.hid (show Below (w2.heap.size + 5) (aw5 w2) w3 by rw [← s5]; exact hb3)
  have HBA := Lib.hid (HB2.out.trans (hb5.mono HB2.out.size))
  have HU := Lib.hid ((HB3.out.block _ (by omega)).trans a4)
  have HI := Lib.hid ((HB3.out.block _ (by omega)).trans a0)
  obtain ⟨d0, d1, d2⟩ := nv3 HU.out
  obtain ⟨i0, i1, i2, i3, i4, i5, i6, i7, i8, i9, i10, i11, i12, i13, i14⟩ := nv15 HI.out
  have hlt : w2.heap.size + 5 ≤ w3.heap.size := by rw [← s5]; exact hb3.size
  have hq4 : w2.heap.size + 1 + 1 + 1 + 1 < w3.heap.size := by omega
  have hq0 : w2.heap.size < w3.heap.size := by omega
  have hq2 : w.heap.size ≤ w2.heap.size := HB2.out.size
  clear ho3 s5 a0 a4 hb5 hb3
  go_wp2_with (first | ((with_reducible refine (right_awake w2 _ (HB3.out.alloc hlt _)).mono ?_); rintro e w4 ⟨rfl, hb4⟩; have HB4 := Lib.hid hb4; obtain ⟨e0, e1, e2⟩ := nv3 ((hb4.block w3.heap.size (by simp)).trans (heap_alloc_new w3 _)); clear i0 i1 i2 i3 i4 i5 i6 i7 i8 i9 i10 i11 i12 i13 i14; obtain ⟨i0, i1, i2, i3, i4, i5, i6, i7, i8, i9, i10, i11, i12, i13, i14⟩ := nv15 ((hb4.block w2.heap.size (by simp <;> omega)).trans ((Below.heap_alloc w3 _ _ hq0).trans HI.out)); clear d0 d1 d2 hb4) | ((with_reducible refine (sets_awake _).mono ?_); rintro e w6 ⟨rfl, hb6⟩; have HB6 := Lib.hid hb6; clear hb6))
  go_ret
  exact ⟨rfl, ((((HBA.out.trans (HB3.out.mono (by omega))).alloc (by omega) _).trans (HB4.out.mono (by simp; omega))).trans (HB6.out.mono (by have := HB4.out.size; simp at this; omega)))⟩
end Go.Proofs.Ytmcpfjhdeplgmaa
