/-
  Layer 7: the machine goes along with a run.
  Layer 7: a step of the machine is a step of the run.
  Layer 7: the machine's struct is built: 4110 cells.
  Layer 7: room makes as many registers as some function needs.
  Layer 7: fill puts the values of the globals into memory.
  Layer 7: the machine's loop: what is so ahead of each round; the machine as it is after room.
-/
import Derived.Test.YtmcpfjhdeplgmaaQLeave
import Derived.Test.YtmcpfjhdeplgmaaQC7StepC
import Derived.Test.YtmcpfjhdeplgmaaQStepD
import Derived.Test.YtmcpfjhdeplgmaaQMem
import Derived.Laws.Tables
import Derived.Test.YtmcpfjhdeplgmaaQBase
import Derived.Test.YtmcpfjhdeplgmaaQRightA
namespace Go.Proofs.Ytmcpfjhdeplgmaa
open Cd
set_option linter.unusedVariables false
set_option linter.unusedSimpArgs false

/-- The machine is where a run is. -/
structure RelD (u : Uni) (s : Sta) (M : Mac) : Prop where
  mem : M.mem = s.mem
  out : M.out = s.out
  inp : M.inp = s.inp
  fin : M.fin = 0
  stk : StkR u s.stack M.calls.reverse M.regs M.sets M.aside
  sl : M.sets.length = M.regs.length
  asd : ∀ v ∈ M.aside, 0 ≤ v.reg ∧ v.reg < M.regs.length
  rgs : ∀ f ∈ s.stack, f.regs.length ≤ M.regs.length
  free : ∀ f rest, s.stack = f :: rest → ∃ g, u.funcs[f.k]? = some g ∧ M.free = f.base + g.frame
  dst : ∀ f ∈ s.stack, f.dst = -1 ∨ (0 ≤ f.dst ∧ f.dst < M.regs.length)
theorem RelD.last {u : Uni} {s : Sta} {M : Mac} {f : Frm} {rest : List Frm} (h : RelD u s M) (hs : s.stack = f :: rest) : ∃ ini c, M.calls = ini ++ [c] ∧ M.calls.length = ini.length + 1 ∧ ini.length = rest.length ∧ c.k = f.k ∧ c.pos = f.pos ∧ c.frame = f.base ∧ c.dst = f.dst ∧ StkR u (f :: rest) (c :: ini.reverse) M.regs M.sets M.aside := by
  have h1 := h.stk
  rw [hs] at h1
  cases hr : M.calls.reverse with
  | nil => rw [hr] at h1; exact h1.elim
  | cons c cs =>
    rw [hr] at h1
    have e : M.calls = cs.reverse ++ [c] := by rw [← List.reverse_reverse M.calls, hr, List.reverse_cons]
    have hl := h1.len
    obtain ⟨⟨a, b, d, e2⟩, _⟩ := id h1
    refine ⟨cs.reverse, c, e, by rw [e]; simp, by simp at hl ⊢; omega, a, b, d, e2, by rw [List.reverse_reverse]; exact h1⟩
theorem RelD.on {u : Uni} {s : Sta} {M : Mac} {f : Frm} {rest : List Frm} (h : RelD u s M) (hs : s.stack = f :: rest) {ini : List Cal} {c : Cal} (hc : M.calls = ini ++ [c]) (p : Int) (fu : Int) :
    RelD u { s with stack := { f with pos := p } :: rest } { M with calls := ini ++ [{ c with pos := p }], fuel := fu } := by
  have h1 := h.stk
  rw [hs, hc, List.reverse_append, List.reverse_singleton] at h1
  have h2 := StkR.pos h1 p
  refine ⟨h.mem, h.out, h.inp, h.fin, by simpa using h2, h.sl, h.asd, fun g hg => ?_, fun g r e => ?_, fun g hg => ?_⟩
  · rcases List.mem_cons.1 hg with rfl | hg
    · exact h.rgs f (by rw [hs]; simp)
    · exact h.rgs g (by rw [hs]; simp [hg])
  · injection e with e1 e2
    subst e1
    exact h.free f rest hs
  · rcases List.mem_cons.1 hg with rfl | hg
    · exact h.dst f (by rw [hs]; simp)
    · exact h.dst g (by rw [hs]; simp [hg])
theorem RelD.get {u : Uni} {s : Sta} {M : Mac} {f : Frm} {rest : List Frm} (h : RelD u s M) (hs : s.stack = f :: rest) {r : Int} (hr : r.toNat < f.regs.length) : mget M r = reg f r := by
  obtain ⟨ini, c, hc, hl, _, _, _, _, _, h1⟩ := h.last hs
  have := h1.get hr
  unfold mget
  rw [hl]
  simpa using this
theorem RelD.set {u : Uni} {s : Sta} {M : Mac} {f : Frm} {rest : List Frm} (h : RelD u s M) (hs : s.stack = f :: rest) {r : Int} (hr0 : 0 ≤ r) (hr : r < M.regs.length) (n : Int) : RelD u { s with stack := { f with regs := f.regs.set r.toNat n } :: rest } (mset M r n) := by
  obtain ⟨ini, c, hc, hl, _, _, _, _, _, h1⟩ := h.last hs
  obtain ⟨k1, k2⟩ := h1.set r n (by omega) h.sl
  have e : (((ini.reverse.length + 1 : Nat) : Int)) = (M.calls.length : Int) := by rw [hl]; simp
  rw [e] at k1 k2
  have hcr : M.calls.reverse = c :: ini.reverse := by rw [hc]; simp
  have hreg : ∀ (M' : Mac), M'.regs.length = M.regs.length → ∀ g ∈ ({ f with regs := f.regs.set r.toNat n } :: rest : List Frm), g.regs.length ≤ M'.regs.length := fun M' hM' g hg => by
    rw [hM']
    rcases List.mem_cons.1 hg with rfl | hg
    · simp only [List.length_set]; exact h.rgs f (by rw [hs]; simp)
    · exact h.rgs g (by rw [hs]; simp [hg])
  have hdst : ∀ (M' : Mac), M'.regs.length = M.regs.length → ∀ g ∈ ({ f with regs := f.regs.set r.toNat n } :: rest : List Frm), g.dst = -1 ∨ (0 ≤ g.dst ∧ g.dst < M'.regs.length) := fun M' hM' g hg => by
    rw [hM']
    rcases List.mem_cons.1 hg with rfl | hg
    · exact h.dst f (by rw [hs]; simp)
    · exact h.dst g (by rw [hs]; simp [hg])
  unfold mset
  by_cases hd : gR M.sets r.toNat = (M.calls.length : Int)
  · rw [if_pos hd]
    exact ⟨h.mem, h.out, h.inp, h.fin, by simp only [hcr]; exact k1 hd, by simpa using h.sl, by simpa using h.asd, hreg _ (by simp), fun g r e => by injection e with e1 e2; subst e1; exact h.free f rest hs, hdst _ (by simp)⟩
  · rw [if_neg hd]
    refine ⟨h.mem, h.out, h.inp, h.fin, by simp only [hcr]; exact k2 hd, by simpa using h.sl, fun v hv => ?_, hreg _ (by simp), fun g r e => by injection e with e1 e2; subst e1; exact h.free f rest hs, hdst _ (by simp)⟩
    simp only [List.length_set]
    rcases List.mem_append.1 hv with hv | hv
    · exact h.asd v hv
    · have : v = ⟨r, gR M.regs r.toNat, gR M.sets r.toNat⟩ := by simpa using hv
      subst this
      exact ⟨hr0, hr⟩
theorem RelD.went {u : Uni} {s : Sta} {M : Mac} {f : Frm} {rest : List Frm} (h : RelD u s M) (hs : s.stack = f :: rest) {i : Ins} (hd : sets i = i.dst) (hr0 : 0 ≤ i.dst) (hr : i.dst < M.regs.length) {ini : List Cal} {c : Cal} (hc : M.calls = ini ++ [c]) (p : Int) (fu : Int) (n : Int) :
    RelD u { s with stack := went f i n p :: rest } (mset { M with calls := ini ++ [{ c with pos := p }], fuel := fu } i.dst n) := by
  have h1 := (h.on hs hc p fu).set rfl hr0 hr n
  unfold Cd.went
  rw [hd, if_pos hr0]
  exact h1
theorem RelD.back {u : Uni} {s : Sta} {M : Mac} {f : Frm} {rest : List Frm} (h : RelD u s M) (hs : s.stack = f :: rest) {ini : List Cal} {c : Cal} (hc : M.calls = ini ++ [c]) : c.aside ≤ M.aside.length ∧ RelD u { s with stack := rest } (backM M ini c) := by
  obtain ⟨ini', c', hc', hl, _, hk, hp, hf, hd, h1⟩ := h.last hs
  rw [hc'] at hc
  obtain ⟨rfl, e2⟩ := List.append_inj' hc rfl
  injection e2 with e2
  subst e2
  obtain ⟨p1, p2⟩ := h1.pop
  refine ⟨p1, h.mem, h.out, h.inp, h.fin, p2, ?_, fun v hv => ?_, fun g hg => ?_, fun p ps e => ?_, fun g hg => ?_⟩
  · unfold backM; simp only; rw [undoR_len, undoS_len]; exact h.sl
  · unfold backM at hv ⊢; simp only at hv ⊢; rw [undoR_len]; exact h.asd v (List.mem_of_mem_take hv)
  · unfold backM; simp only; rw [undoR_len]; exact h.rgs g (by rw [hs]; simp [hg])
  · have e' : rest = p :: ps := e
    subst e'
    obtain ⟨_, hb, _⟩ := h1
    obtain ⟨g, hg1, hg2⟩ := hb
    exact ⟨g, hg1, by unfold backM; simp only; rw [hf]; exact hg2⟩
  · unfold backM; simp only; rw [undoR_len]; exact h.dst g (by rw [hs]; simp [hg])
/-- Registers that are set one by one. -/
theorem RelD.args {u : Uni} {s : Sta} {f : Frm} {rest : List Frm} {l : List Int} : ∀ (k : Nat) {M : Mac}, RelD u s M → s.stack = f :: rest → k ≤ l.length → l.length ≤ M.regs.length →
    RelD u { s with stack := { f with regs := (l.take k) ++ f.regs.drop k } :: rest } (argsK M l k) ∨ f.regs.length < l.length
  | 0, M, h, hs, _, _ => .inl (by simpa [argsK, ← hs] using h)
  | k + 1, M, h, hs, hk, hl => by
    by_cases hfl : f.regs.length < l.length
    · exact .inr hfl
    rcases RelD.args (l := l) k h hs (by omega) hl with h1 | h1
    · left
      have hlen := (argsK_same M l k).1
      have h2 := h1.set rfl (r := (k : Int)) (by omega) (by rw [hlen]; omega) (l.getD k 0)
      unfold argsK
      have e : ((l.take k ++ f.regs.drop k).set k (l.getD k 0)) = l.take (k + 1) ++ f.regs.drop (k + 1) := by
        have hk' : (l.take k).length = k := by rw [List.length_take]; omega
        rw [List.set_append_right _ _ (by omega), hk', Nat.sub_self, List.take_add_one, List.getElem?_eq_getElem (by omega : k < l.length), List.drop_eq_getElem_cons (by omega : k < f.regs.length), List.set_cons_zero]
        have e3 : l.getD k 0 = l[k]'(by omega) := by rw [List.getD_eq_getElem?_getD, List.getElem?_eq_getElem (by omega : k < l.length)]; rfl
        rw [e3]
        simp only [Option.toList_some, List.append_assoc, List.singleton_append]
      simp only [Int.toNat_natCast] at h2
      rw [e] at h2
      exact h2
    · exact .inr h1
end Go.Proofs.Ytmcpfjhdeplgmaa
namespace Go.Proofs.Ytmcpfjhdeplgmaa
open Go.RowKit Cd Go.Maps
set_option linter.unusedVariables false
set_option linter.unusedSimpArgs false
variable {w0 w w' : World} {U : UnR} {N : Nat} {b : Blk} {M : Mac} {V : MV} {u : Uni} {s : Sta} {f : Frm} {rest : List Frm} {g : Fnc} {i : Ins} {ini : List Cal} {c : Cal}

theorem Cd.RightI.plainB {i : Ins} {a b c : Int} (h : RightI i a b c) (hb : readsB i.kind = false) : i.b = 0 := by
  have e := congrArg Ins.b h.plain
  rw [e]
  show ifI _ _ _ = _
  unfold ifI
  rw [if_neg (by rw [hb]; simp)]
theorem Cd.RightI.plainA {i : Ins} {a b c : Int} (h : RightI i a b c) (hb : readsA i.kind = false) : i.a = 0 := by
  have e := congrArg Ins.a h.plain
  rw [e]
  show ifI _ _ _ = _
  unfold ifI
  rw [if_neg (by rw [hb]; simp)]
theorem Cd.RightI.inA {i : Ins} {a b c : Int} (h : RightI i a b c) (hb : readsA i.kind = true) : 0 ≤ i.a ∧ i.a < a := h.uses _ (by unfold Cd.uses; rw [if_pos hb]; simp)
theorem Cd.RightI.inB {i : Ins} {a b c : Int} (h : RightI i a b c) (hb : readsB i.kind = true) : 0 ≤ i.b ∧ i.b < a := h.uses _ (by unfold Cd.uses; rw [if_pos hb]; simp)
theorem Cd.RightI.inD {i : Ins} {a b c : Int} (h : RightI i a b c) (hb : i.kind ≤ 9) (h7 : i.kind ≠ 7) (h8 : i.kind ≠ 8) : 0 ≤ i.dst ∧ i.dst < a := by
  have := h.dst
  unfold dstOk regOk at this
  rw [if_neg h8, if_pos ⟨hb, h7⟩] at this
  simpa using this
theorem Cd.RightI.stIn {a b c : Int} (h : RightI i a b c) (ha : a ≤ M.regs.length) (hb : i.kind ≤ 9) (h7 : i.kind ≠ 7) (h8 : i.kind ≠ 8) (hs : M.sets.length = M.regs.length) (hc : M.calls.length ≤ 1000001) (hl : M.aside.length ≤ 10000000) : StIn M i := by
  have hd := h.inD hb h7 h8
  refine ⟨?_, ?_, by omega, hs, hc, hl⟩
  · cases hr : readsA i.kind with
    | false => rw [h.plainA hr]; omega
    | true => have := h.inA hr; omega
  · cases hr : readsB i.kind with
    | false => rw [h.plainB hr]; omega
    | true => have := h.inB hr; omega
theorem Cd.RightI.stA {a b c : Int} (h : RightI i a b c) (ha : a ≤ M.regs.length) (hr : readsA i.kind = true) (hs : M.sets.length = M.regs.length) (hc : M.calls.length ≤ 1000001) (hl : M.aside.length ≤ 10000000) : StA M i := by
  have hd := h.inA hr
  refine ⟨by omega, ?_, hs, hc, hl⟩
  cases hr : readsB i.kind with
  | false => rw [h.plainB hr]; omega
  | true => have := h.inB hr; omega
/-- What a step of the run makes of the machine. -/
def OnwardE (u : Uni) (M M' : Mac) : Rsu ⊕ Sta → Prop
  | .inl r => M'.fin = r.fin ∧ M'.code = r.code ∧ M'.out = r.out ∧ r.fin ≠ 0
  | .inr s' => RelD u s' M' ∧ M'.fuel = M.fuel - 1 ∧ M'.aside.length ≤ M.aside.length + 7 ∧ M'.calls.length ≤ M.calls.length + 1 ∧ M'.regs.length = M.regs.length ∧ M'.out.length ≤ M.out.length + 1
theorem went_no (f : Frm) (i : Ins) (v p : Int) (h : Cd.sets i = -1) : Cd.went f i v p = { f with pos := p } := by
  unfold Cd.went
  rw [if_neg (by rw [h]; decide)]
theorem onM_eq (hp : c.pos = f.pos) : onM M ini c = { M with calls := ini ++ [{ c with pos := f.pos + 1 }], fuel := M.fuel - 1 } := by unfold onM posM; rw [hp]
theorem RelD.mgetOn (R : RelD u s M) (hs : s.stack = f :: rest) (hc : M.calls = ini ++ [c]) (hp : c.pos = f.pos) {r : Int} (hr : 0 ≤ r ∧ r < f.regs.length) : mget (onM M ini c) r = reg f r := by
  rw [onM_eq hp]
  exact (R.on hs hc (f.pos + 1) (M.fuel - 1)).get (r := r) rfl (by show r.toNat < f.regs.length; omega)
/-- A register is set. -/
theorem onward_set (R : RelD u s M) (hs : s.stack = f :: rest) (hc : M.calls = ini ++ [c]) (hp : c.pos = f.pos) (hd : Cd.sets i = i.dst) (h0 : 0 ≤ i.dst) (h1 : i.dst < M.regs.length) (v : Int) : OnwardE u M (mset (onM M ini c) i.dst v) (.inr { s with stack := Cd.went f i v (f.pos + 1) :: rest }) := by
  have e := mset_same (onM M ini c) i.dst v
  have hcl : (onM M ini c).calls.length = M.calls.length := by rw [onM_eq hp, hc]; simp
  refine ⟨?_, by rw [e.2.2.2.2.2.1]; rfl, ?_, by rw [e.2.2.1, hcl]; omega, by rw [e.1]; rfl, ?_⟩
  · rw [onM_eq hp]; exact R.went hs hd h0 h1 hc _ _ v
  · have := e.2.2.2.1
    have e2 : (onM M ini c).aside = M.aside := rfl
    rw [e2] at this
    omega
  · have := e.2.2.2.2.2.2.2.2.2.1
    rw [this]
    show M.out.length ≤ M.out.length + 1
    omega
theorem sets_in {i : Ins} (h : (1 ≤ i.kind ∧ i.kind ≤ 6) ∨ i.kind = 8 ∨ i.kind = 9) : Cd.sets i = i.dst := by unfold Cd.sets; rw [if_pos h]
theorem sets_no {i : Ins} (h : i.kind = 7 ∨ 10 ≤ i.kind) : Cd.sets i = -1 := by unfold Cd.sets; rw [if_neg (by omega)]
theorem doB_one {op : Int} (h : 20 ≤ op ∧ op ≤ 23) (b d : Int) : doB op b = doB op d := by
  unfold doB
  congr 1
  exact propext ⟨fun _ => ⟨by omega, by omega⟩, fun _ => ⟨by omega, by omega⟩⟩
theorem doV_one {op : Int} (h : 20 ≤ op ∧ op ≤ 23) (a b d : Int) : doV op a b = doV op a d := by
  unfold doV
  rw [doB_one h b d]
  by_cases hb : doB op d = false
  · rw [if_pos hb, if_pos hb]
  · rw [if_neg hb, if_neg hb, if_neg (by omega), if_neg (by omega), if_neg (by omega), if_neg (by omega)]
theorem nextM_nil {M : Mac} (h : M.inp = []) : nextM M = (-1, M) := by unfold nextM; rw [h]
theorem nextM_cons {M : Mac} {c : UInt8} {cs : List UInt8} (h : M.inp = c :: cs) : nextM M = ((c.toNat : Int), { M with inp := cs }) := by unfold nextM; rw [h]
section
variable (hU : RightU u) (hu : u = U.un) (R : RelD u s M) (hs : s.stack = f :: rest) (hg : FrGood u f g) (hi : g.code[f.pos.toNat]? = some i)
  (hM : MacAt w0 w U N b M V) (hUn : UnAt w0 w0.heap.size U) (hfu : 0 < M.fuel ∧ M.fuel ≤ 1000000) (hcl : M.calls.length ≤ 1000000) (hal : M.aside.length ≤ 8000000) (hol : M.out.length ≤ 1000000)
  (hbig : ∀ f ∈ u.funcs, f.regs ≤ M.regs.length) (htx : ∀ f ∈ u.funcs, ∀ i ∈ f.code, i.text.length ≤ 1000000)
include hU hu R hs hg hi hM hUn hfu hcl hal hol hbig htx
theorem step_run : ∃ M', Calls Try.prog 33 #[mP b] w (MPost w0 U N b w V M' (.tuple #[])) ∧ OnwardE u M M' (stepI u g i f rest s) := by
  obtain ⟨ini, c, hc, hl, hlr, hk, hp, hf, hd, hst⟩ := R.last hs
  have hR := hg.right hU
  have hkI := hR.1.all i (List.mem_of_getElem? hi)
  have hlo := hkI.low
  have hhi := hkI.high
  obtain ⟨rr, hrr, hrf⟩ : ∃ rr, U.fs[c.k]? = some rr ∧ rr.f = g := by
    have h1 := hg.fn
    rw [hu] at h1
    unfold UnR.un UnR.fns at h1
    simp only [List.getElem?_map, Option.map_eq_some_iff] at h1
    rw [hk]
    exact h1
  have hpos := hg.pos
  have hcode := hR.1.code
  obtain ⟨p, hpn⟩ : ∃ p : Nat, f.pos = p := ⟨f.pos.toNat, by omega⟩
  have hpc : c.pos = p := hp.trans hpn
  have hip : rr.f.code[p]? = some i := by rw [hrf, ← hi, hpn]; rfl
  have hpl : p ≤ 1000000 := by omega
  have hfr : (f.regs.length : Int) = g.regs := hg.regs
  have hgr : g.regs ≤ M.regs.length := by have := R.rgs f (by rw [hs]; simp); omega
  have hsl := R.sl
  have hfin := R.fin
  have stI := fun a b d => hkI.stIn (M := M) hgr a b d hsl (by omega) (by omega)
  have stA := fun a => hkI.stA (M := M) hgr a hsl (by omega) (by omega)
  have gA : readsA i.kind = true → mget (onM M ini c) i.a = reg f i.a := fun h => R.mgetOn hs hc hp (by have := hkI.inA h; omega)
  have gB : readsB i.kind = true → mget (onM M ini c) i.b = reg f i.b := fun h => R.mgetOn hs hc hp (by have := hkI.inB h; omega)
  unfold stepI
  by_cases h1 : i.kind = 1
  · have hst := stI (by omega) (by omega) (by omega)
    rw [if_pos h1]
    exact ⟨_, step_1 hM hUn hfu ini c hc rr hrr p hpc i hip hpl h1 hst, onward_set R hs hc hp (sets_in (by omega)) hst.d.1 hst.d.2 _⟩
  rw [if_neg h1]
  by_cases h2 : i.kind = 2 ∨ i.kind = 3
  · rw [if_pos h2]
    have hst := stI (by omega) (by omega) (by omega)
    have hop := hkI.op
    have hra : readsA i.kind = true := by unfold readsA; rcases h2 with e | e <;> rw [e] <;> rfl
    have hval : doB i.op (mget (onM M ini c) i.b) = doB i.op (valB f i) ∧ doV i.op (mget (onM M ini c) i.a) (mget (onM M ini c) i.b) = doV i.op (reg f i.a) (valB f i) := by
      rw [gA hra]
      unfold valB
      rcases h2 with e | e
      · rw [if_neg (by omega)]
        unfold opOk at hop
        rw [if_pos e] at hop
        have hop' : 20 ≤ i.op ∧ i.op ≤ 23 := by simpa using hop
        exact ⟨doB_one hop' _ _, doV_one hop' _ _ _⟩
      · rw [if_pos e, gB (by unfold readsB; rw [e]; rfl)]
        exact ⟨rfl, rfl⟩
    have hE : OnwardE u M (operateM (onM M ini c) i) (if doB i.op (valB f i) = true then .inr { s with stack := Cd.went f i (doV i.op (reg f i.a) (valB f i)) (f.pos + 1) :: rest } else .inl ⟨2, 2, s.out⟩) := by
      unfold operateM
      rw [hval.1, hval.2]
      by_cases hb : doB i.op (valB f i) = true
      · rw [if_pos hb, if_pos hb]
        exact onward_set R hs hc hp (sets_in (by omega)) hst.d.1 hst.d.2 _
      · rw [if_neg hb, if_neg hb]
        exact ⟨rfl, rfl, R.out, by show (2 : Int) ≠ 0; decide⟩
    rcases h2 with e | e
    · exact ⟨_, step_2 hM hUn hfu ini c hc rr hrr p hpc i hip hpl e hst, hE⟩
    · exact ⟨_, step_3 hM hUn hfu ini c hc rr hrr p hpc i hip hpl e hst, hE⟩
  rw [if_neg h2]
  by_cases h4 : i.kind = 4
  · rw [if_pos h4]
    have hst := stI (by omega) (by omega) (by omega)
    rw [← gA (by unfold readsA; rw [h4]; rfl)]
    exact ⟨_, step_4 hM hUn hfu ini c hc rr hrr p hpc i hip hpl h4 hst, onward_set R hs hc hp (sets_in (by omega)) hst.d.1 hst.d.2 _⟩
  rw [if_neg h4]
  by_cases h5 : i.kind = 5
  · rw [if_pos h5]
    have hst := stI (by omega) (by omega) (by omega)
    have hn := hkI.n
    unfold nOk at hn
    rw [if_neg (by omega), if_pos h5] at hn
    have hn' : 0 ≤ i.n ∧ i.n ≤ g.frame := by simpa using hn
    have hb := hg.base
    rw [← hf]
    exact ⟨_, step_5 hM hUn hfu ini c hc rr hrr p hpc i hip hpl h5 hst (by omega), onward_set R hs hc hp (sets_in (by omega)) hst.d.1 hst.d.2 _⟩
  rw [if_neg h5]
  by_cases h6 : i.kind = 6 ∨ i.kind = 7
  · rw [if_pos h6]
    have hra : readsA i.kind = true := by unfold readsA; rcases h6 with e | e <;> rw [e] <;> rfl
    have hE : OnwardE u M (accessM (onM M ini c) i) (if 1 ≤ addr f i ∧ addr f i < 4096 then (if i.kind = 6 then .inr { s with stack := Cd.went f i (s.mem.getD (addr f i).toNat 0) (f.pos + 1) :: rest } else .inr { s with mem := s.mem.set (addr f i).toNat (reg f i.b), stack := Cd.went f i 0 (f.pos + 1) :: rest }) else .inl ⟨2, 1, s.out⟩) := by
      unfold accessM
      rw [gA hra]
      show OnwardE u M (if 1 ≤ addr f i ∧ addr f i < 4096 then _ else _) _
      by_cases ha : 1 ≤ addr f i ∧ addr f i < 4096
      · rw [if_pos ha, if_pos ha]
        by_cases e : i.kind = 6
        · rw [if_pos e, if_pos e]
          have hst := stI (by omega) (by omega) (by omega)
          have hm : (onM M ini c).mem = s.mem := R.mem
          rw [hm]
          exact onward_set R hs hc hp (sets_in (by omega)) hst.d.1 hst.d.2 _
        · rw [if_neg e, if_neg e]
          have e7 : i.kind = 7 := by omega
          rw [gB (by unfold readsB; rw [e7]; rfl), went_no _ _ _ _ (sets_no (by omega))]
          have h1 := R.on hs hc (f.pos + 1) (M.fuel - 1)
          rw [← onM_eq hp] at h1
          refine ⟨⟨?_, h1.out, h1.inp, h1.fin, h1.stk, h1.sl, h1.asd, h1.rgs, h1.free, h1.dst⟩, rfl, by show M.aside.length ≤ _; omega, by show (ini ++ [_]).length ≤ _; rw [hl, List.length_append, List.length_singleton]; omega, rfl, by show M.out.length ≤ _; omega⟩
          show (onM M ini c).mem.set _ _ = s.mem.set _ _
          rw [show (onM M ini c).mem = s.mem from R.mem]
          rfl
      · rw [if_neg ha, if_neg ha]
        exact ⟨rfl, rfl, R.out, by show (2 : Int) ≠ 0; decide⟩
    rcases h6 with e | e
    · exact ⟨_, step_6 hM hUn hfu ini c hc rr hrr p hpc i hip hpl e (stI (by omega) (by omega) (by omega)), hE⟩
    · exact ⟨_, step_7 hM hUn hfu ini c hc rr hrr p hpc i hip hpl e (stA hra), hE⟩
  rw [if_neg h6]
  by_cases h8 : i.kind = 8
  · rw [if_pos h8]
    have hcall := all_at hR.2 hi
    unfold callOk at hcall
    rw [if_pos h8] at hcall
    cases hfk : findN u.funcs i.text with
    | none => rw [hfk] at hcall; cases hcall
    | some k =>
      rw [hfk] at hcall
      simp only at hcall ⊢
      cases hh : u.funcs[k]? with
      | none => rw [hh] at hcall; cases hcall
      | some h =>
        obtain ⟨hpar, hn0, hn6, hd0, hd1, hul⟩ := call_of hR hi h8 hfk hh
        have hH := hU.funcs _ _ hh
        unfold funcOk at hH
        rw [Bool.and_eq_true, Bool.and_eq_true, rightF_iff] at hH
        have hF := hH.1.1
        have hFp := hF.params
        have hFr := hF.regs
        have hFf := hF.frame
        have hGf := hR.1.frame
        have hbigH := hbig h (List.mem_of_getElem? hh)
        obtain ⟨rf, hrfk, hrff⟩ : ∃ rf, U.fs[k]? = some rf ∧ rf.f = h := by
          have h1 := hh
          rw [hu] at h1
          unfold UnR.un UnR.fns at h1
          simp only [List.getElem?_map, Option.map_eq_some_iff] at h1
          exact h1
        have huse : Cd.uses i = i.args.take i.n.toNat := by
          unfold Cd.uses readsA readsB
          simp [h8]
        have hb := hg.base
        obtain ⟨g', hg1, hg2⟩ := R.free f rest hs
        obtain rfl : g' = g := by have := hg.fn; rw [hg1] at this; injection this
        have hrange : ∀ r ∈ i.args.take i.n.toNat, 0 ≤ r ∧ r < M.regs.length := fun r hr => by
          have := hkI.uses r (by rw [huse]; exact hr)
          omega
        refine ⟨callM U (onM M ini c) k rf i, step_8 hM hUn hfu ini c hc rr hrr p hpc i hip hpl h8 (by omega) ⟨hn0, hn6⟩ (htx _ (List.mem_of_getElem? hg.fn) _ (List.mem_of_getElem? hi)) k rf (by rw [← hfk, hu]; rfl) hrfk hrange (by omega) hsl (by omega) (by rw [hrff]; omega) hcl (by omega), ?_⟩
        simp only
        unfold callM beginM
        have hmap : (i.args.take i.n.toNat).map (mget (onM M ini c)) = (Cd.uses i).map (reg f) := by
          rw [huse]
          exact List.map_congr_left fun r hr => R.mgetOn hs hc hp (by have := hkI.uses r (by rw [huse]; exact hr); omega)
        rw [hmap]
        have hfree : (onM M ini c).free = f.base + g'.frame := hg2
        rw [hfree, hrff]
        by_cases hbg : f.base + g'.frame + h.frame > 4096
        · rw [if_pos hbg, if_pos (by omega)]
          exact ⟨rfl, rfl, R.out, by show (3 : Int) ≠ 0; decide⟩
        · rw [if_neg hbg, if_neg (by omega)]
          obtain ⟨l, hl'⟩ : ∃ l, (Cd.uses i).map (reg f) = l := ⟨_, rfl⟩
          have hll : l.length = (Cd.uses i).length := by rw [← hl', List.length_map]
          rw [← hll, hl']
          have h1 := R.on hs hc (f.pos + 1) (M.fuel - 1)
          rw [← onM_eq hp] at h1
          have h2 : RelD u { s with stack := ⟨k, f.base + g'.frame, 0, i.dst, List.replicate h.regs.toNat 0⟩ :: { f with pos := f.pos + 1 } :: rest } { onM M ini c with calls := (onM M ini c).calls ++ [⟨k, 0, f.base + g'.frame, i.dst, (onM M ini c).aside.length⟩], free := f.base + g'.frame + h.frame } := by
            refine ⟨h1.mem, h1.out, h1.inp, h1.fin, ?_, h1.sl, h1.asd, fun x hx => ?_, fun x r e => ?_, fun x hx => ?_⟩
            · simp only [List.reverse_append, List.reverse_singleton, List.singleton_append]
              exact h1.stk.push k (f.base + g'.frame) i.dst h.regs.toNat ⟨g', hg.fn, rfl⟩
            · rcases List.mem_cons.1 hx with rfl | hx
              · simp only [List.length_replicate]
                show h.regs.toNat ≤ M.regs.length
                omega
              · exact h1.rgs x hx
            · injection e with e1 e2
              subst e1
              exact ⟨h, hh, rfl⟩
            · rcases List.mem_cons.1 hx with rfl | hx
              · show i.dst = -1 ∨ (0 ≤ i.dst ∧ i.dst < (M.regs.length : Int))
                omega
              · exact h1.dst x hx
          have hlr6 : l.length ≤ M.regs.length := by omega
          rcases RelD.args (l := l) l.length h2 rfl (Nat.le_refl _) hlr6 with h3 | h3
          · obtain ⟨a1, a2, a3, a4, a5, a6, a7, a8, a9, a10, a11⟩ := argsK_same { onM M ini c with calls := (onM M ini c).calls ++ [⟨k, 0, f.base + g'.frame, i.dst, (onM M ini c).aside.length⟩], free := f.base + g'.frame + h.frame } l l.length
            refine ⟨?_, by rw [a6]; rfl, ?_, ?_, by rw [a1]; rfl, by rw [a10]; show M.out.length ≤ _; omega⟩
            · simpa using h3
            · refine Nat.le_trans a4 ?_
              show M.aside.length + l.length ≤ _
              omega
            · rw [a3]
              simp only [List.length_append, List.length_singleton, onM_calls]
              omega
          · exfalso
            simp only [List.length_replicate] at h3
            omega
  rw [if_neg h8]
  by_cases h9 : i.kind = 9
  · rw [if_pos h9]
    have hst := stI (by omega) (by omega) (by omega)
    refine ⟨_, step_9 hM hUn hfu ini c hc rr hrr p hpc i hip hpl h9 hst, ?_⟩
    have hin : (onM M ini c).inp = s.inp := R.inp
    cases hinp : s.inp with
    | nil =>
      rw [nextM_nil (hin.trans hinp)]
      have hh := onward_set R hs hc hp (sets_in (by omega)) hst.d.1 hst.d.2 (-1)
      rw [hinp] at hh
      exact hh
    | cons ch cs =>
      rw [nextM_cons (hin.trans hinp)]
      have R2 : RelD u { s with inp := cs } { M with inp := cs } := ⟨R.mem, R.out, rfl, R.fin, R.stk, R.sl, R.asd, R.rgs, R.free, R.dst⟩
      exact onward_set (M := { M with inp := cs }) R2 hs hc hp (sets_in (by omega)) hst.d.1 hst.d.2 _
  rw [if_neg h9]
  by_cases h10 : i.kind = 10
  · rw [if_pos h10]
    have hra : readsA i.kind = true := by unfold readsA; rw [h10]; rfl
    refine ⟨_, step_10 hM hUn hfu ini c hc rr hrr p hpc i hip hpl h10 (stA hra) hol, ?_⟩
    rw [gA hra, went_no _ _ _ _ (sets_no (by omega))]
    have h1 := R.on hs hc (f.pos + 1) (M.fuel - 1)
    rw [← onM_eq hp] at h1
    refine ⟨⟨h1.mem, ?_, h1.inp, h1.fin, h1.stk, h1.sl, h1.asd, h1.rgs, h1.free, h1.dst⟩, rfl, by show M.aside.length ≤ _; omega, by show (ini ++ [_]).length ≤ _; rw [hl, List.length_append, List.length_singleton]; omega, rfl, by show (M.out ++ [_]).length ≤ _; simp⟩
    show M.out ++ _ = s.out ++ _
    rw [R.out]
  rw [if_neg h10]
  by_cases h11 : i.kind = 11
  · rw [if_pos h11]
    refine ⟨_, step_11 hM hUn hfu ini c hc rr hrr p hpc i hip hpl h11 ⟨by omega⟩, ?_⟩
    rw [went_no _ _ _ _ (sets_no (by omega))]
    exact ⟨R.on hs hc i.dest (M.fuel - 1), rfl, by show M.aside.length ≤ _; omega, by show (ini ++ [_]).length ≤ _; rw [hl, List.length_append, List.length_singleton]; omega, rfl, by show M.out.length ≤ _; omega⟩
  rw [if_neg h11]
  by_cases h12 : i.kind = 12
  · rw [if_pos h12]
    have hra : readsA i.kind = true := by unfold readsA; rw [h12]; rfl
    refine ⟨_, step_12 hM hUn hfu ini c hc rr hrr p hpc i hip hpl h12 (stA hra) _ rfl, ?_⟩
    rw [gA hra, went_no _ _ _ _ (sets_no (by omega))]
    exact ⟨R.on hs hc _ (M.fuel - 1), rfl, by show M.aside.length ≤ _; omega, by show (ini ++ [_]).length ≤ _; rw [hl, List.length_append, List.length_singleton]; omega, rfl, by show M.out.length ≤ _; omega⟩
  rw [if_neg h12]
  have h13 : i.kind = 13 := by omega
  have hra : readsA i.kind = true := by unfold readsA; rw [h13]; rfl
  have h1 := R.on hs hc (f.pos + 1) (M.fuel - 1)
  rw [← onM_eq hp] at h1
  obtain ⟨hb1, hb2⟩ := h1.back rfl (onM_calls M ini c)
  have hdst : c.dst = -1 ∨ (0 ≤ c.dst ∧ c.dst < M.regs.length) := by rw [hd]; exact R.dst f (by rw [hs]; simp)
  refine ⟨_, step_13 hM hUn hfu ini c hc rr hrr p hpc i hip hpl h13 (stA hra) hb1 R.asd (by omega) hdst, ?_⟩
  rw [gA hra]
  unfold leaveM
  cases rest with
  | nil =>
    rw [if_pos (by simpa using hlr)]
    exact ⟨rfl, rfl, R.out, by show (1 : Int) ≠ 0; decide⟩
  | cons q qs =>
    rw [if_neg (by simp at hlr; omega)]
    dsimp only
    have hbc : (backM (onM M ini c) ini { c with pos := c.pos + 1 }).aside.length ≤ M.aside.length := by
      show (M.aside.take _).length ≤ _
      rw [List.length_take]
      omega
    have hbl : (backM (onM M ini c) ini { c with pos := c.pos + 1 }).regs.length = M.regs.length := by
      show (undoR _ _).length = _
      rw [undoR_len]
      rfl
    by_cases e : c.dst = -1
    · rw [if_neg (fun h => h e), if_neg (by rw [← hd, e]; decide)]
      exact ⟨hb2, rfl, by omega, by show ini.length ≤ _; omega, hbl, by show M.out.length ≤ _; omega⟩
    · have hdd : 0 ≤ f.dst ∧ f.dst < M.regs.length := by rw [← hd]; rcases hdst with h | h; exact absurd h e; exact h
      rw [if_pos e, if_pos hdd.1]
      obtain ⟨a1, a2, a3, a4, a5, a6, a7, a8, a9, a10, a11⟩ := mset_same (backM (onM M ini c) ini { c with pos := c.pos + 1 }) c.dst (reg f i.a)
      refine ⟨?_, by rw [a6]; rfl, by omega, by rw [a3]; show ini.length ≤ _; omega, by rw [a1]; exact hbl, by rw [a10]; show M.out.length ≤ _; omega⟩
      have := hb2.set (f := q) (rest := qs) rfl hdd.1 (by rw [hbl]; exact hdd.2) (reg f i.a)
      rw [← hd] at this ⊢
      exact this
end
end Go.Proofs.Ytmcpfjhdeplgmaa
namespace Go.Proofs.Ytmcpfjhdeplgmaa
open Go.RowKit Cd Go.Maps
set_option linter.unusedVariables false
set_option linter.unusedSimpArgs false

/-- So many zeros, and what is behind them. -/
def dropZ : Nat → List Value → Option (List Value)
  | 0, l => some l
  | n + 1, .int .i64 (.ofNat 0) :: l => dropZ n l
  | _, _ => none
theorem dropZ_eq : ∀ (n : Nat) (l r : List Value), dropZ n l = some r → l = List.replicate n (.int .i64 0) ++ r
  | 0, l, r, h => by
    cases h
    rfl
  | n + 1, l, r, h => by
    unfold dropZ at h
    split at h
    · cases ‹n + 1 = 0›
    · rename_i m l' e
      injection e with e
      subst e
      rw [dropZ_eq n l' r h, List.replicate_succ, List.cons_append]
      rfl
    · cases h
/-- The zero of the machine. -/
noncomputable def zMac : List Value := match (Try.prog.info? 67).bind (·.zero) with | some (.agg a) => a.toList | _ => []
abbrev zTl : List Value := [.int .i64 0, .slice none 0 0, .slice none 0 0, .slice none 0 0, .slice none 0 0, .slice none 0 0, .int .i64 0, .int .i64 0, .int .i64 0, .slice none 0 0]
abbrev zHd : List Value := [.slice none 0 0, .slice none 0 0, .int .i64 0, .map none]
theorem zMac_eq : zMac = zHd ++ (List.replicate 4096 (.int .i64 0) ++ zTl) := by
  have h1 : zMac.take 4 = zHd := by kernel_rfl
  have h2 : dropZ 4096 (zMac.drop 4) = some zTl := by kernel_rfl
  rw [← dropZ_eq _ _ _ h2, ← h1, List.take_append_drop]
abbrev macPlaces : Array (Nat × Nat) := #[(0, 3), (3, 1), (4, 4096), (4100, 1), (4101, 1), (4102, 1), (4103, 1), (4104, 1), (4105, 1), (4106, 1), (4107, 3)]
/-- The machine as it is built. -/
def preL (U : UnR) (pb : Nat) (mem : List Int) (free fu : Int) (vi : Value) : List Value := [.slice U.fa U.fs.length U.fc, .slice U.ga U.gs.length U.gc, .int .i64 U.top, .map (some pb)] ++ (mem.map (Value.int .i64) ++ [.int .i64 free, .slice none 0 0, .slice none 0 0, .slice none 0 0, .slice none 0 0, vi, .int .i64 fu, .int .i64 0, .int .i64 0, .slice none 0 0])
theorem built_mac (U : UnR) (pb : Nat) (free fu : Int) (ia : Option Addr) (n ic : Nat) :
    Try.prog.built 67 [(0, unV U), (1, .map (some pb)), (3, .int .i64 free), (8, .slice ia n ic), (9, .int .i64 fu)] = some (preL U pb (List.replicate 4096 0) free fu (.slice ia n ic)).toArray := by
  have e : Try.prog.built 67 [(0, unV U), (1, .map (some pb)), (3, .int .i64 free), (8, .slice ia n ic), (9, .int .i64 fu)] = Instr.fill (macPlaces[·]?) zMac.toArray [(0, unV U), (1, .map (some pb)), (3, .int .i64 free), (8, .slice ia n ic), (9, .int .i64 fu)] := by kernel_rfl
  rw [e, zMac_eq]
  unfold preL
  rw [List.map_replicate]
  obtain ⟨Z, hZ⟩ : ∃ Z : List Value, List.replicate 4096 (.int .i64 0) = Z := ⟨_, rfl⟩
  have hz : Z.length = 4096 := by rw [← hZ, List.length_replicate]
  rw [hZ]
  clear hZ e
  simp [Instr.fill, Value.cells, hz]
theorem build_mac (U : UnR) (pb : Nat) (free fu : Int) (ia : Option Addr) (n ic : Nat) (w : World) :
    (Instr.build 67 #[(0, unV U), (1, .map (some pb)), (3, .int .i64 free), (8, .slice ia n ic), (9, .int .i64 fu)]).run Try.prog w = .ok (.agg (preL U pb (List.replicate 4096 0) free fu (.slice ia n ic)).toArray) w :=
  run_build w _ _ _ (built_mac U pb free fu ia n ic)
end Go.Proofs.Ytmcpfjhdeplgmaa
namespace Go.Proofs.Ytmcpfjhdeplgmaa
open Go.RowKit Cd Go.Maps
set_option linter.unusedVariables false
set_option linter.unusedSimpArgs false

theorem made_ints (n : Nat) : madeCells #[Value.int .i64 0] n = ((List.replicate n (0 : Int)).map (Value.int .i64)).toArray := by
  apply Array.ext
  · simp [madeCells]
  · intro i h1 h2
    simp [madeCells, Nat.mod_one]
theorem make_ints (n : Int) (h0 : 0 ≤ n) (h1 : n ≤ 4096) (w : World) : (Instr.makeSlice 63 (.int .i64 n) (.int .i64 n)).run Try.prog w = .ok (.slice (some ⟨w.heap.size, 0, none⟩) n.toNat n.toNat) (w.alloc (intsO (List.replicate n.toNat 0))) := by
  have hi : ∃ i, Try.prog.info? 3 = some i ∧ i.zero = some (.int .i64 0) ∧ i.size = 1 ∧ i.bytes = 8 := by
    have h := infoInt
    cases hx : Try.prog.info? 3 with
    | none => rw [hx] at h; cases h
    | some i =>
      rw [hx] at h
      simp only [Option.map_some, Option.some.injEq, Prod.mk.injEq] at h
      exact ⟨i, rfl, h.1, h.2.1, h.2.2⟩
  obtain ⟨i, h1', h2, h3, h4⟩ := hi
  have := run_make (P := Try.prog) w 63 3 i (.int .i64 0) (by kernel_rfl) h1' h2 .i64 .i64 n n h0 (Int.le_refl _) (by rw [h4]; omega) (by omega)
  rw [this, h3]
  unfold intsO
  rw [← made_ints n.toNat, Nat.mul_one]
  rfl
/-- As many registers as some function has. -/
def mostR : List Fnc → Int → Int
  | [], m => m
  | f :: l, m => mostR l (if f.regs > m then f.regs else m)
theorem mostR_ge : ∀ (l : List Fnc) (m : Int), m ≤ mostR l m ∧ ∀ f ∈ l, f.regs ≤ mostR l m
  | [], m => ⟨Int.le_refl _, fun f hf => by cases hf⟩
  | f :: l, m => by
    obtain ⟨h1, h2⟩ := mostR_ge l (if f.regs > m then f.regs else m)
    unfold mostR
    have h3 : m ≤ (if f.regs > m then f.regs else m) ∧ f.regs ≤ (if f.regs > m then f.regs else m) := by split <;> omega
    refine ⟨Int.le_trans h3.1 h1, fun g hg => ?_⟩
    rcases List.mem_cons.1 hg with rfl | hg
    · exact Int.le_trans h3.2 h1
    · exact h2 g hg
theorem mostR_le : ∀ (l : List Fnc) (m n : Int), m ≤ n → (∀ f ∈ l, f.regs ≤ n) → mostR l m ≤ n
  | [], m, n, h, _ => h
  | f :: l, m, n, h, hl => by
    unfold mostR
    refine mostR_le l _ n ?_ (fun g hg => hl g (by simp [hg]))
    have := hl f (by simp)
    split <;> omega
theorem mostR_snoc : ∀ (l : List Fnc) (f : Fnc) (m : Int), mostR (l ++ [f]) m = if f.regs > mostR l m then f.regs else mostR l m
  | [], f, m => rfl
  | g :: l, f, m => by
    show mostR (l ++ [f]) _ = _
    rw [mostR_snoc l f]
    rfl
theorem mostR_take {l : List Fnc} {k : Nat} {f : Fnc} (h : l[k]? = some f) : mostR (l.take (k + 1)) 0 = if f.regs > mostR (l.take k) 0 then f.regs else mostR (l.take k) 0 := by
  rw [List.take_add_one, h]
  exact mostR_snoc _ _ _
/-- The machine with its registers. -/
def regL (U : UnR) (pb rb sb : Nat) (most : Nat) (mem : List Int) (free fu : Int) (vi : Value) : List Value := [.slice U.fa U.fs.length U.fc, .slice U.ga U.gs.length U.gc, .int .i64 U.top, .map (some pb)] ++ (mem.map (Value.int .i64) ++ [.int .i64 free, .slice (some ⟨rb, 0, none⟩) most most, .slice (some ⟨sb, 0, none⟩) most most, .slice none 0 0, .slice none 0 0, vi, .int .i64 fu, .int .i64 0, .int .i64 0, .slice none 0 0])
theorem preL_set {U : UnR} {pb rb sb most : Nat} {mem : List Int} {free fu : Int} {vi : Value} (hm : mem.length = 4096) :
    ((preL U pb mem free fu vi).set 4101 (.slice (some ⟨rb, 0, none⟩) most most)).set 4102 (.slice (some ⟨sb, 0, none⟩) most most) = regL U pb rb sb most mem free fu vi := by
  unfold preL regL
  rw [List.set_append_right _ _ (by first | (simp; done) | (simp; omega)), List.set_append_right _ _ (by first | (simp; done) | (simp; omega)), List.set_append_right _ _ (by first | (simp; done) | (simp; omega)), List.set_append_right _ _ (by first | (simp; done) | (simp; omega))]
  simp [hm]
/-- What room leaves. -/
def RoomPost (U : UnR) (mb pb : Nat) (mem : List Int) (free fu : Int) (vi : Value) (w w' : World) : Prop :=
  ∃ rb sb, rb ≠ sb ∧ w.heap.size ≤ rb ∧ w.heap.size ≤ sb ∧ rb < w'.heap.size ∧ sb < w'.heap.size ∧ w'.heap[mb]? = some (mcO (regL U pb rb sb (mostR U.fns 0).toNat mem free fu vi)) ∧ w'.heap[rb]? = some (intsO (List.replicate (mostR U.fns 0).toNat 0)) ∧ w'.heap[sb]? = some (intsO (List.replicate (mostR U.fns 0).toNat 0)) ∧
    (∀ B, B ≤ mb → B ≤ w.heap.size → Below B w w') ∧ ∀ j, j < w.heap.size → j ≠ mb → w'.heap[j]? = w.heap[j]?
theorem room_end {U : UnR} {mb pb : Nat} {mem : List Int} {free fu : Int} {vi : Value} {w wr : World} (hbx : wr.heap[mb]? = some (mcO (preL U pb mem free fu vi))) (hm : mem.length = 4096) (hb : Below w.heap.size w wr) {n : Nat} (hn : (mostR U.fns 0).toNat = n) (hmb : mb < w.heap.size) (rb sb : Nat) (h : (rb = wr.heap.size ∧ sb = wr.heap.size + 1) ∨ (rb = wr.heap.size + 1 ∧ sb = wr.heap.size)) :
    RoomPost U mb pb mem free fu vi w (((((wr.setCell ⟨mb, 4101, none⟩ (.slice (some ⟨rb, 0, none⟩) n n)).setCell ⟨mb, 4102, none⟩ (.slice (some ⟨sb, 0, none⟩) n n)).alloc (intsO (List.replicate n 0))).alloc (intsO (List.replicate n 0))).drew) := by
  have hs := hb.size
  have hbox2 := mcO_set hbx 4101 (.slice (some ⟨rb, 0, none⟩) n n)
  have hbox3 := mcO_set hbox2 4102 (.slice (some ⟨sb, 0, none⟩) n n)
  rw [preL_set hm] at hbox3
  have hk : ∀ j, j ≠ mb → ((wr.setCell ⟨mb, 4101, none⟩ (.slice (some ⟨rb, 0, none⟩) n n)).setCell ⟨mb, 4102, none⟩ (.slice (some ⟨sb, 0, none⟩) n n)).heap[j]? = wr.heap[j]? := fun j hj => (heap_other7 hj).trans (heap_other7 hj)
  have hB1 : ∀ B, B ≤ mb → B ≤ w.heap.size → Below B w ((wr.setCell ⟨mb, 4101, none⟩ (.slice (some ⟨rb, 0, none⟩) n n)).setCell ⟨mb, 4102, none⟩ (.slice (some ⟨sb, 0, none⟩) n n)) := fun B h1 h2 => ((hb.mono h2).setCell h1 _).setCell h1 _
  obtain ⟨W, hW⟩ : ∃ W : World, (wr.setCell ⟨mb, 4101, none⟩ (.slice (some ⟨rb, 0, none⟩) n n)).setCell ⟨mb, 4102, none⟩ (.slice (some ⟨sb, 0, none⟩) n n) = W := ⟨_, rfl⟩
  have hz : W.heap.size = wr.heap.size := by rw [← hW]; simp
  rw [hW] at hbox3 hk hB1 ⊢
  have h0 : ((W.alloc (intsO (List.replicate n 0))).alloc (intsO (List.replicate n 0))).heap[wr.heap.size]? = some (intsO (List.replicate n 0)) := by
    rw [← hz]
    exact (Below.heap_alloc _ _ _ (by simp)).trans (heap_alloc_new W _)
  have h1 : ((W.alloc (intsO (List.replicate n 0))).alloc (intsO (List.replicate n 0))).heap[wr.heap.size + 1]? = some (intsO (List.replicate n 0)) := by
    rw [← hz]
    have := heap_alloc_new (W.alloc (intsO (List.replicate n 0))) (intsO (List.replicate n 0))
    simpa using this
  have hx : ∀ j, j < wr.heap.size → ((W.alloc (intsO (List.replicate n 0))).alloc (intsO (List.replicate n 0))).heap[j]? = W.heap[j]? := fun j hj => (Below.heap_alloc _ _ _ (by simp; omega)).trans (Below.heap_alloc _ _ _ (by omega))
  unfold RoomPost
  rw [hn]
  refine ⟨rb, sb, by omega, by omega, by omega, by simp; omega, by simp; omega, (hx mb (by omega)).trans hbox3, ?_, ?_, fun B hb1 hb2 => (((hB1 B hb1 hb2).alloc (by omega) _).alloc (by simp; omega) _).drew, fun j hj hne => (hx j (by omega)).trans ((hk j hne).trans (hb.block j hj))⟩
  · rcases h with ⟨rfl, _⟩ | ⟨rfl, _⟩; exact h0; exact h1
  · rcases h with ⟨_, rfl⟩ | ⟨_, rfl⟩; exact h1; exact h0
theorem preL_cells {w : World} {U : UnR} {mb pb : Nat} {mem : List Int} {free fu : Int} {vi : Value} (h : w.heap[mb]? = some (mcO (preL U pb mem free fu vi))) (hm : mem.length = 4096) : w.cell? ⟨mb, 0, none⟩ = some (.slice U.fa U.fs.length U.fc) ∧ w.cell? ⟨mb, 4101, none⟩ = some (.slice none 0 0) ∧ w.cell? ⟨mb, 4102, none⟩ = some (.slice none 0 0) ∧ ∀ j, w.frozen? ⟨mb, j, none⟩ = false := by
  refine ⟨(mcO_cell h 0).trans rfl, (mcO_cell h 4101).trans ?_, (mcO_cell h 4102).trans ?_, fun j => by simp [World.frozen?, h, mcO]⟩
  · unfold preL; rw [List.getElem?_append_right (by simp), List.getElem?_append_right (by simp [hm])]; simp [hm]
  · unfold preL; rw [List.getElem?_append_right (by simp), List.getElem?_append_right (by simp [hm])]; simp [hm]
set_option maxRecDepth 100000 in
set_option maxHeartbeats 8000000 in
theorem room_any {w : World} {U : UnR} {mb pb B : Nat} {mem : List Int} {free fu : Int} {vi : Value} (hbx : w.heap[mb]? = some (mcO (preL U pb mem free fu vi))) (hm : mem.length = 4096) (hU : UnAt w B U) (hBw : B ≤ w.heap.size) (hBm : B ≤ mb) (hrg : ∀ f ∈ U.fns, 0 ≤ f.regs ∧ f.regs ≤ 4096) :
    Calls Try.prog 30 #[.pointer (some ⟨mb, 0, none⟩)] w fun e w' => e = .returned (.tuple #[]) ∧ RoomPost U mb pb mem free fu vi w w' := by
  have hlf := hU.lf
  unfold maxLen at hlf
  have mbw : mb < w.heap.size := lt_heap hbx
  obtain ⟨c0, _, _, _⟩ := preL_cells hbx hm
  have HBX0 := Lib.hid hbx
  have HU := Lib.hid hU
  have HRG := Lib.hid hrg
  have HML := Lib.hid hm
  clear hbx hU hrg hm
  go_enter Try.func30, Try.ntmps30
  go_wp2
  go_loopw [2, 11] (fun s2 s11 wr => ∃ k : Nat, k ≤ U.fs.length ∧ s11 = .int .i64 k ∧ s2 = .int .i64 (mostR (U.fns.take k) 0) ∧ Hid (Below w.heap.size w wr)) (fun _ i wr => U.fs.length - (intOf i).toNat)
  case atStart => exact ⟨0, by omega, rfl, by simp [mostR], Lib.hid (Below.refl _ w)⟩
  case round =>
    obtain ⟨k, hk, rfl, rfl, HB⟩ := hrel
    by_cases hlt : k < U.fs.length
    · obtain ⟨r, hr⟩ : ∃ r, U.fs[k]? = some r := ⟨_, List.getElem?_eq_getElem hlt⟩
      obtain ⟨fb, off, hfa, hfB, hBw2, q0, q1, q2, q3, q4⟩ := (HU.out.below (HB.out.mono hBw)).fn hr
      have hfn : U.fns[k]? = some r.f := by unfold UnR.fns; rw [List.getElem?_map, hr]; rfl
      have HT := Lib.hid (mostR_take hfn)
      have k0 : (0 : Int) ≤ (k : Int) := Int.natCast_nonneg _
      have k1 : (k : Int) < (U.fs.length : Int) := by omega
      obtain ⟨x, hx⟩ : ∃ x, mostR (U.fns.take k) 0 = x := ⟨_, rfl⟩
      rw [hx] at HT
      rw [hx]
      have hmax : ∀ ts t W, (Builtin.max_ ts t #[.int .i64 x, .int .i64 r.f.regs]).run Try.prog W = .ok (.int .i64 (if r.f.regs > x then r.f.regs else x)) W := fun ts t W => by rw [run_max_int2]
      obtain ⟨y, hy⟩ : ∃ y, (if r.f.regs > x then r.f.regs else x) = y := ⟨_, rfl⟩
      rw [hy] at hmax HT
      have hfw : fb < wr.heap.size := by omega
      rw [hfa]
      clear hr hfn hx hy hfa
      go_wp2
      go_roundw
      case rel => exact ⟨k + 1, by omega, by go_num, by rw [HT.out], Lib.hid (HB.out.alloc HB.out.size _)⟩
      case measure => simp [intOf]; omega
    · obtain rfl : k = U.fs.length := by omega
      have hml := HML.out
      have HBX := Lib.hid ((HB.out.block _ mbw).trans HBX0.out)
      obtain ⟨_, x1, x2, x3⟩ := preL_cells HBX.out HML.out
      have z1 := x3 4101
      have z2 := x3 4102
      have hwb : mb < wr.heap.size := lt_heap HBX.out
      have htk : U.fns.take U.fs.length = U.fns := by rw [List.take_of_length_le]; unfold UnR.fns; simp
      rw [htk]
      have m0 := (mostR_ge U.fns 0).1
      have m1 := mostR_le U.fns 0 4096 (by omega) (fun f hf => (HRG.out f hf).2)
      have HMK := make_ints (mostR U.fns 0) m0 m1
      obtain ⟨most, hmost⟩ : ∃ n : Nat, mostR U.fns 0 = n := ⟨(mostR U.fns 0).toNat, by omega⟩
      have mostR_nn : (mostR U.fns 0).toNat = most := by omega
      rw [hmost] at HMK
      rw [hmost]
      simp only [Int.toNat_natCast] at HMK
      have MNN := Lib.hid mostR_nn
      clear m0 m1 hmost htk mostR_nn x3
      go_wp2
      have hmix : Try.prog.follows .mixedOrders = true := by kernel_rfl
      refine region_last (fun _ : World => True) 1000000 hmix ?_
      have hS : (fun _ : World => True) wr.drew := trivial
      refine anyL_takeH (i := 0) (v := ?_) rfl (by decide) (by kernel_rfl) (by kernel_rfl) (by kernel_rfl) (fun _ _ _ h => h) (Or.inl ⟨by rfl, ?_⟩) hS ?_
      rotate_left
      · (intro w' hSw; go_simp; first | done | with_reducible rfl)
      simp only [Act.put, List.getElem_toArray, List.getElem_cons_succ, List.getElem_cons_zero, List.setIfInBounds_toArray, List.set_cons_succ, List.set_cons_zero]
      refine anyL_takeH (i := 1) (v := ?_) rfl (by decide) (by kernel_rfl) (by kernel_rfl) (by kernel_rfl) (fun _ _ _ h => h) (Or.inl ⟨by rfl, ?_⟩) hS ?_
      rotate_left
      · (intro w' hSw; go_simp; first | done | with_reducible rfl)
      simp only [Act.put, List.getElem_toArray, List.getElem_cons_succ, List.getElem_cons_zero, List.setIfInBounds_toArray, List.set_cons_succ, List.set_cons_zero]
      refine anyL_takeH (i := 2) (v := ?_) rfl (by decide) (by kernel_rfl) (by kernel_rfl) (by kernel_rfl) (fun _ _ _ h => h) (Or.inl ⟨by rfl, ?_⟩) hS ?_
      rotate_left
      · (intro w' hSw; go_simp; first | done | with_reducible rfl)
      simp only [Act.put, List.getElem_toArray, List.getElem_cons_succ, List.getElem_cons_zero, List.setIfInBounds_toArray, List.set_cons_succ, List.set_cons_zero]
      refine anyL_takeH (i := 4) (v := ?_) rfl (by decide) (by kernel_rfl) (by kernel_rfl) (by kernel_rfl) (fun _ _ _ h => h) (Or.inl ⟨by rfl, ?_⟩) hS ?_
      rotate_left
      · (intro w' hSw; go_simp; first | done | with_reducible rfl)
      simp only [Act.put, List.getElem_toArray, List.getElem_cons_succ, List.getElem_cons_zero, List.setIfInBounds_toArray, List.set_cons_succ, List.set_cons_zero]
      refine anyL_two (i := 3) (j := 5) (by kernel_rfl) rfl rfl (fun K1 hK1 => ?_) (fun K1 hK1 => ?_)
      · go_simp
        refine hK1.out _ _ (fun _ => trivial) ?_
        clear hK1 K1
        refine anyL_takeH (i := 6) (v := ?_) rfl (by decide) (by kernel_rfl) (by kernel_rfl) (by kernel_rfl) (fun _ _ _ h => h) (Or.inl ⟨by rfl, ?_⟩) trivial ?_
        rotate_left
        · (intro w' hSw; go_simp; first | done | with_reducible rfl)
        simp only [Act.put, List.getElem_toArray, List.getElem_cons_succ, List.getElem_cons_zero, List.setIfInBounds_toArray, List.set_cons_succ, List.set_cons_zero]
        refine anyL_takeH (i := 7) (v := ?_) rfl (by decide) (by kernel_rfl) (by kernel_rfl) (by kernel_rfl) (fun _ _ _ h => h) (Or.inl ⟨by rfl, ?_⟩) trivial ?_
        rotate_left
        · (intro w' hSw; go_simp; first | done | with_reducible rfl)
        simp only [Act.put, List.getElem_toArray, List.getElem_cons_succ, List.getElem_cons_zero, List.setIfInBounds_toArray, List.set_cons_succ, List.set_cons_zero]
        refine anyL_two (i := 5) (j := 8) (by kernel_rfl) rfl rfl (fun K1 hK1 => ?_) (fun K1 hK1 => ?_)
        · go_simp
          refine hK1.out _ _ (fun _ => trivial) ?_
          clear hK1 K1
          refine anyL_one (i := 8) (by kernel_rfl) rfl (fun K1 hK1 => ?_)
          go_simp
          refine hK1.out _ _ (fun _ => trivial) ?_
          clear hK1 K1
          refine anyL_takeH (i := 9) (v := ?_) rfl (by decide) (by kernel_rfl) (by kernel_rfl) (by kernel_rfl) (fun _ _ _ h => h) (Or.inl ⟨by rfl, ?_⟩) trivial ?_
          rotate_left
          · (intro w' hSw; go_simp; first | done | with_reducible rfl)
          simp only [Act.put, List.getElem_toArray, List.getElem_cons_succ, List.getElem_cons_zero, List.setIfInBounds_toArray, List.set_cons_succ, List.set_cons_zero]
          refine anyL_takeH (i := 10) (v := ?_) rfl (by decide) (by kernel_rfl) (by kernel_rfl) (by kernel_rfl) (fun _ _ _ h => h) (Or.inl ⟨by rfl, ?_⟩) trivial ?_
          rotate_left
          · (intro w' hSw; go_simp; first | done | with_reducible rfl)
          simp only [Act.put, List.getElem_toArray, List.getElem_cons_succ, List.getElem_cons_zero, List.setIfInBounds_toArray, List.set_cons_succ, List.set_cons_zero]
          refine anyL_one (i := 11) (by kernel_rfl) rfl (fun K1 hK1 => ?_)
          go_simp
          refine hK1.out _ _ (fun _ => trivial) ?_
          clear hK1 K1
          refine anyL_done (by kernel_rfl) ?_ _
          go_wp2
          go_end0
          exact ⟨rfl, room_end HBX.out hml HB.out MNN.out mbw wr.heap.size (wr.heap.size + 1) (.inl ⟨rfl, rfl⟩)⟩
        · go_simp
          refine hK1.out _ _ (fun _ => trivial) ?_
          clear hK1 K1
          refine anyL_one (i := 5) (by kernel_rfl) rfl (fun K1 hK1 => ?_)
          go_simp
          refine hK1.out _ _ (fun _ => trivial) ?_
          clear hK1 K1
          refine anyL_takeH (i := 9) (v := ?_) rfl (by decide) (by kernel_rfl) (by kernel_rfl) (by kernel_rfl) (fun _ _ _ h => h) (Or.inl ⟨by rfl, ?_⟩) trivial ?_
          rotate_left
          · (intro w' hSw; go_simp; first | done | with_reducible rfl)
          simp only [Act.put, List.getElem_toArray, List.getElem_cons_succ, List.getElem_cons_zero, List.setIfInBounds_toArray, List.set_cons_succ, List.set_cons_zero]
          refine anyL_takeH (i := 10) (v := ?_) rfl (by decide) (by kernel_rfl) (by kernel_rfl) (by kernel_rfl) (fun _ _ _ h => h) (Or.inl ⟨by rfl, ?_⟩) trivial ?_
          rotate_left
          · (intro w' hSw; go_simp; first | done | with_reducible rfl)
          simp only [Act.put, List.getElem_toArray, List.getElem_cons_succ, List.getElem_cons_zero, List.setIfInBounds_toArray, List.set_cons_succ, List.set_cons_zero]
          refine anyL_one (i := 11) (by kernel_rfl) rfl (fun K1 hK1 => ?_)
          go_simp
          refine hK1.out _ _ (fun _ => trivial) ?_
          clear hK1 K1
          refine anyL_done (by kernel_rfl) ?_ _
          go_wp2
          go_end0
          exact ⟨rfl, room_end HBX.out hml HB.out MNN.out mbw wr.heap.size (wr.heap.size + 1) (.inl ⟨rfl, rfl⟩)⟩
      · go_simp
        refine hK1.out _ _ (fun _ => trivial) ?_
        clear hK1 K1
        refine anyL_one (i := 3) (by kernel_rfl) rfl (fun K1 hK1 => ?_)
        go_simp
        refine hK1.out _ _ (fun _ => trivial) ?_
        clear hK1 K1
        refine anyL_takeH (i := 6) (v := ?_) rfl (by decide) (by kernel_rfl) (by kernel_rfl) (by kernel_rfl) (fun _ _ _ h => h) (Or.inl ⟨by rfl, ?_⟩) trivial ?_
        rotate_left
        · (intro w' hSw; go_simp; first | done | with_reducible rfl)
        simp only [Act.put, List.getElem_toArray, List.getElem_cons_succ, List.getElem_cons_zero, List.setIfInBounds_toArray, List.set_cons_succ, List.set_cons_zero]
        refine anyL_takeH (i := 7) (v := ?_) rfl (by decide) (by kernel_rfl) (by kernel_rfl) (by kernel_rfl) (fun _ _ _ h => h) (Or.inl ⟨by rfl, ?_⟩) trivial ?_
        rotate_left
        · (intro w' hSw; go_simp; first | done | with_reducible rfl)
        simp only [Act.put, List.getElem_toArray, List.getElem_cons_succ, List.getElem_cons_zero, List.setIfInBounds_toArray, List.set_cons_succ, List.set_cons_zero]
        refine anyL_one (i := 8) (by kernel_rfl) rfl (fun K1 hK1 => ?_)
        go_simp
        refine hK1.out _ _ (fun _ => trivial) ?_
        clear hK1 K1
        refine anyL_takeH (i := 9) (v := ?_) rfl (by decide) (by kernel_rfl) (by kernel_rfl) (by kernel_rfl) (fun _ _ _ h => h) (Or.inl ⟨by rfl, ?_⟩) trivial ?_
        rotate_left
        · (intro w' hSw; go_simp; first | done | with_reducible rfl)
        simp only [Act.put, List.getElem_toArray, List.getElem_cons_succ, List.getElem_cons_zero, List.setIfInBounds_toArray, List.set_cons_succ, List.set_cons_zero]
        refine anyL_takeH (i := 10) (v := ?_) rfl (by decide) (by kernel_rfl) (by kernel_rfl) (by kernel_rfl) (fun _ _ _ h => h) (Or.inl ⟨by rfl, ?_⟩) trivial ?_
        rotate_left
        · (intro w' hSw; go_simp; first | done | with_reducible rfl)
        simp only [Act.put, List.getElem_toArray, List.getElem_cons_succ, List.getElem_cons_zero, List.setIfInBounds_toArray, List.set_cons_succ, List.set_cons_zero]
        refine anyL_one (i := 11) (by kernel_rfl) rfl (fun K1 hK1 => ?_)
        go_simp
        refine hK1.out _ _ (fun _ => trivial) ?_
        clear hK1 K1
        refine anyL_done (by kernel_rfl) ?_ _
        go_wp2
        go_end0
        exact ⟨rfl, room_end HBX.out hml HB.out MNN.out mbw (wr.heap.size + 1) wr.heap.size (.inr ⟨rfl, rfl⟩)⟩
end Go.Proofs.Ytmcpfjhdeplgmaa
namespace Go.Proofs.Ytmcpfjhdeplgmaa
open Go.RowKit Cd Go.Maps
set_option linter.unusedVariables false
set_option linter.unusedSimpArgs false
variable {w0 w w' : World} {U : UnR} {N : Nat} {b : Blk} {M : Mac} {V : MV}

theorem memOf7_app : ∀ (a b : List Glo) (m : List Int), memOf (a ++ b) m = memOf b (memOf a m)
  | [], b, m => rfl
  | g :: a, b, m => by
    show memOf (a ++ b) _ = memOf b (memOf a _)
    rw [memOf7_app a b]
theorem memOf7_len : ∀ (gs : List Glo) (m : List Int), (memOf gs m).length = m.length
  | [], m => rfl
  | g :: gs, m => by unfold memOf; rw [memOf7_len gs]; split <;> simp
theorem memOf7_take {gs : List Glo} {k : Nat} {g : Glo} (m : List Int) (h : gs[k]? = some g) : memOf (gs.take (k + 1)) m = if g.pos < 4096 then (memOf (gs.take k) m).set g.pos.toNat g.init else memOf (gs.take k) m := by
  rw [List.take_add_one, h, memOf7_app]
  rfl
theorem cell_new7 (W : World) (n : Nat) (hn : W.heap.size = n) (cs : Array Value) (t : TypeId) (j : Nat) : (W.alloc (.cells cs t)).drew.cell? ⟨n, j, none⟩ = cs[j]? := by
  subst hn
  exact cell_of_row _ _ _ _ _ _ (heap_alloc_new W (.cells cs t))
set_option maxRecDepth 100000 in
set_option maxHeartbeats 8000000 in
theorem fill_any (h : MacAt w0 w U N b M V) (hU : UnAt w0 w0.heap.size U) (hg : ∀ g ∈ U.gs, 1 ≤ g.pos) : Calls Try.prog 31 #[mP b] w (MPost w0 U N b w V { M with mem := memOf U.gs M.mem } (.tuple #[])) := by
  have hmix : Try.prog.follows .mixedOrders = true := by kernel_rfl
  have hlg := hU.lg
  unfold maxLen at hlg
  obtain ⟨_, c1, _⟩ := h.cells
  have H := Lib.hid h
  have HU := Lib.hid hU
  have HG := Lib.hid hg
  clear h hU hg
  go_enter Try.func31, Try.ntmps31
  go_wp2
  go_loopw [10] (fun s10 wr => ∃ k : Nat, k ≤ U.gs.length ∧ s10 = .int .i64 k ∧ Hid (MacAt w0 wr U N b { M with mem := memOf (U.gs.take k) M.mem } V) ∧ Hid (Mov b w V wr V)) (fun i wr => U.gs.length - (intOf i).toNat)
  case atStart => exact ⟨0, by omega, rfl, H, Lib.hid (Mov.refl b w V)⟩
  case round =>
    obtain ⟨k, hk, rfl, HM, HV⟩ := hrel
    by_cases hlt : k < U.gs.length
    · obtain ⟨g, hgk⟩ : ∃ g, U.gs[k]? = some g := ⟨_, List.getElem?_eq_getElem hlt⟩
      obtain ⟨gb, off, hga, hgb, hBw, q0, q1, q2, q3⟩ := (HU.out.below HM.out.below).gl hgk
      have HT := Lib.hid (memOf7_take M.mem hgk)
      have hpos := HG.out g (List.mem_of_getElem? hgk)
      have k0 : (0 : Int) ≤ (k : Int) := Int.natCast_nonneg _
      have k1 : (k : Int) < (U.gs.length : Int) := by omega
      have hbl := lt_heap HM.out.box
      have hgw : gb < wr.heap.size := by omega
      rw [hga]
      clear hgk hga
      by_cases z0 : g.pos < 4096
      · obtain ⟨j, hj⟩ : ∃ j : Nat, g.pos = j := ⟨g.pos.toNat, by omega⟩
        rw [if_pos z0] at HT
        have hj4 : j < 4096 := by omega
        have hml := HM.out.memlen
        obtain ⟨y, hy⟩ : ∃ y, (memOf (U.gs.take k) M.mem)[j]? = some y := ⟨_, List.getElem?_eq_getElem (by rw [show (memOf (U.gs.take k) M.mem).length = 4096 from hml]; exact hj4)⟩
        have x0 := HM.out.word hy
        have x1 := HM.out.fz (4 + j)
        rw [hj] at q1 z0 hpos
        have HT2 : Hid (memOf (U.gs.take (k + 1)) M.mem = (memOf (U.gs.take k) M.mem).set j g.init) := Lib.hid (by rw [HT.out, hj]; rfl)
        have j0 : (0 : Int) ≤ (j : Int) := Int.natCast_nonneg _
        have u0 : decide ((j : Int) < (4096 : Int)) = true := by simp <;> omega
        clear HT hj hml hy
        go_wp2
        refine region_last (fun W : World => W.heap[wr.heap.size]? = some (.cells #[.string (sb g.name), .int .i64 (j : Int), .int .i64 g.size, .int .i64 g.init] 41)) 1000000 hmix ?_
        have hS : (fun W : World => W.heap[wr.heap.size]? = some (.cells #[.string (sb g.name), .int .i64 (j : Int), .int .i64 g.size, .int .i64 g.init] 41)) (wr.alloc (.cells #[.string (sb g.name), .int .i64 (j : Int), .int .i64 g.size, .int .i64 g.init] 41)).drew := heap_alloc_new wr _
        refine anyL_takeH (i := 0) (v := ?_) rfl (by decide) (by kernel_rfl) (by kernel_rfl) (by kernel_rfl) (fun _ _ _ h => h) (Or.inl ⟨by rfl, ?_⟩) hS ?_
        rotate_left
        · (intro w' hSw; obtain ⟨s0, s1, s2, s3⟩ := nv4 hSw; go_simp; first | done | with_reducible rfl)
        simp only [Act.put, List.getElem_toArray, List.getElem_cons_succ, List.getElem_cons_zero, List.setIfInBounds_toArray, List.set_cons_succ, List.set_cons_zero]
        refine anyL_takeH (i := 1) (v := ?_) rfl (by decide) (by kernel_rfl) (by kernel_rfl) (by kernel_rfl) (fun _ _ _ h => h) (Or.inl ⟨by rfl, ?_⟩) hS ?_
        rotate_left
        · (intro w' hSw; obtain ⟨s0, s1, s2, s3⟩ := nv4 hSw; go_simp; first | done | with_reducible rfl)
        simp only [Act.put, List.getElem_toArray, List.getElem_cons_succ, List.getElem_cons_zero, List.setIfInBounds_toArray, List.set_cons_succ, List.set_cons_zero]
        refine anyL_takeH (i := 2) (v := ?_) rfl (by decide) (by kernel_rfl) (by kernel_rfl) (by kernel_rfl) (fun _ _ _ h => h) (Or.inl ⟨by rfl, ?_⟩) hS ?_
        rotate_left
        · (intro w' hSw; obtain ⟨s0, s1, s2, s3⟩ := nv4 hSw; go_simp; first | done | with_reducible rfl)
        simp only [Act.put, List.getElem_toArray, List.getElem_cons_succ, List.getElem_cons_zero, List.setIfInBounds_toArray, List.set_cons_succ, List.set_cons_zero]
        refine anyL_takeH (i := 3) (v := ?_) rfl (by decide) (by kernel_rfl) (by kernel_rfl) (by kernel_rfl) (fun _ _ _ h => h) (Or.inl ⟨by rfl, ?_⟩) hS ?_
        rotate_left
        · (intro w' hSw; obtain ⟨s0, s1, s2, s3⟩ := nv4 hSw; go_simp; first | done | with_reducible rfl)
        simp only [Act.put, List.getElem_toArray, List.getElem_cons_succ, List.getElem_cons_zero, List.setIfInBounds_toArray, List.set_cons_succ, List.set_cons_zero]
        refine anyL_takeH (i := 4) (v := ?_) rfl (by decide) (by kernel_rfl) (by kernel_rfl) (by kernel_rfl) (fun _ _ _ h => h) (Or.inl ⟨by rfl, ?_⟩) hS ?_
        rotate_left
        · (intro w' hSw; obtain ⟨s0, s1, s2, s3⟩ := nv4 hSw; go_simp; first | done | with_reducible rfl)
        simp only [Act.put, List.getElem_toArray, List.getElem_cons_succ, List.getElem_cons_zero, List.setIfInBounds_toArray, List.set_cons_succ, List.set_cons_zero]
        refine anyL_takeH (i := 5) (v := ?_) rfl (by decide) (by kernel_rfl) (by kernel_rfl) (by kernel_rfl) (fun _ _ _ h => h) (Or.inl ⟨by rfl, ?_⟩) hS ?_
        rotate_left
        · (intro w' hSw; obtain ⟨s0, s1, s2, s3⟩ := nv4 hSw; go_simp; first | done | with_reducible rfl)
        simp only [Act.put, List.getElem_toArray, List.getElem_cons_succ, List.getElem_cons_zero, List.setIfInBounds_toArray, List.set_cons_succ, List.set_cons_zero]
        refine anyL_takeH (i := 6) (v := ?_) rfl (by decide) (by kernel_rfl) (by kernel_rfl) (by kernel_rfl) (fun _ _ _ h => h) (Or.inl ⟨by rfl, ?_⟩) hS ?_
        rotate_left
        · (intro w' hSw; obtain ⟨s0, s1, s2, s3⟩ := nv4 hSw; go_simp; first | done | with_reducible rfl)
        simp only [Act.put, List.getElem_toArray, List.getElem_cons_succ, List.getElem_cons_zero, List.setIfInBounds_toArray, List.set_cons_succ, List.set_cons_zero]
        refine anyL_takeH (i := 7) (v := ?_) rfl (by decide) (by kernel_rfl) (by kernel_rfl) (by kernel_rfl) (fun _ _ _ h => h) (Or.inl ⟨by rfl, ?_⟩) hS ?_
        rotate_left
        · (intro w' hSw; obtain ⟨s0, s1, s2, s3⟩ := nv4 hSw; go_simp; first | done | with_reducible rfl)
        simp only [Act.put, List.getElem_toArray, List.getElem_cons_succ, List.getElem_cons_zero, List.setIfInBounds_toArray, List.set_cons_succ, List.set_cons_zero]
        refine anyL_one (i := 8) (by kernel_rfl) rfl (fun K1 hK1 => ?_)
        go_simp
        refine hK1.out _ _ (fun _ => by have h9 := heap_alloc_new (wr.setCell ⟨b.mb, 4 + j, none⟩ (.int .i64 g.init)) (.cells #[.string (sb g.name), .int .i64 (j : Int), .int .i64 g.size, .int .i64 g.init] 41); rw [show (wr.setCell ⟨b.mb, 4 + j, none⟩ (.int .i64 g.init)).heap.size = wr.heap.size by simp] at h9; exact h9) ?_
        clear hK1 K1
        refine anyL_done (by kernel_rfl) ?_ _
        go_wp2
        go_roundw
        case rel =>
          have hw := HM.out.setWord j g.init hj4
          exact ⟨k + 1, by omega, by go_num, Lib.hid (by rw [HT2.out]; exact hw.keep (((Below.refl _ _).alloc (Nat.le_refl _) _).drew)), Lib.hid ((HV.out.trans (Mov.cell b wr V (.inl rfl) (4 + j) (.int .i64 g.init))).trans (Mov.of_below (((Below.refl _ _).alloc (Nat.le_refl _) _).drew)))⟩
        case measure => simp [intOf]; omega
      · have u0 : decide (g.pos < (4096 : Int)) = false := by simp <;> omega
        rw [if_neg z0] at HT
        go_wp2
        go_roundw
        case rel => exact ⟨k + 1, by omega, by go_num, Lib.hid (by rw [HT.out]; exact HM.out.keep ((Below.refl _ wr).alloc (Nat.le_refl _) _)), Lib.hid (HV.out.trans (Mov.of_below ((Below.refl _ wr).alloc (Nat.le_refl _) _)))⟩
        case measure => simp [intOf]; omega
    · obtain rfl : k = U.gs.length := by omega
      rw [List.take_of_length_le (Nat.le_refl _)] at HM
      go_wp2
      go_end0
      exact ⟨rfl, V, HM.out, HV.out⟩
end Go.Proofs.Ytmcpfjhdeplgmaa
namespace Go.Proofs.Ytmcpfjhdeplgmaa
open Go.RowKit Cd Go.Maps
set_option linter.unusedVariables false
set_option linter.unusedSimpArgs false
variable {w0 w w' : World} {U : UnR} {N : Nat} {b : Blk} {M : Mac} {V : MV} {u : Uni} {R : Rsu}

/-- The run is over; or so many rounds at most are to come. -/
def LoopI (u : Uni) (R : Rsu) (k : Nat) (M : Mac) : Prop :=
  (M.fin ≠ 0 ∧ M.fin = R.fin ∧ M.code = R.code ∧ M.out = R.out) ∨
  (M.fin = 0 ∧ ∃ s n, k = n + 1 ∧ RelD u s M ∧ StkOk u s.stack ∧ s.stack ≠ [] ∧ M.fuel = (n : Int) ∧ runS u n s = R ∧ M.aside.length + 7 * n ≤ 7000007 ∧ M.calls.length + n ≤ 1000001 ∧ M.out.length + n ≤ 1000000 ∧ ∀ f ∈ u.funcs, f.regs ≤ M.regs.length)
theorem LoopI.round (hU : RightU u) (hu : u = U.un) (htx : ∀ f ∈ u.funcs, ∀ i ∈ f.code, i.text.length ≤ 1000000) {k : Nat} (h : LoopI u R k M) (hf : M.fin = 0) (hM : MacAt w0 w U N b M V) (hUn : UnAt w0 w0.heap.size U) :
    ∃ M' k', k' < k ∧ Calls Try.prog 33 #[mP b] w (MPost w0 U N b w V M' (.tuple #[])) ∧ LoopI u R k' M' := by
  rcases h with ⟨h0, _⟩ | ⟨_, s, n, rfl, hR, hok, hne, hfu, hrun, ha, hc, ho, hbig⟩
  · exact absurd hf h0
  cases n with
  | zero =>
    refine ⟨_, 0, by omega, step_none hM (by simpa using hfu), .inl ⟨by show (4 : Int) ≠ 0; decide, ?_, ?_, ?_⟩⟩
    · rw [← hrun]; rfl
    · rw [← hrun]; rfl
    · rw [← hrun]; exact hR.out
  | succ n =>
    cases hs : s.stack with
    | nil => exact absurd hs hne
    | cons f rest =>
      rw [hs] at hok
      obtain ⟨g, hg⟩ := hok.1
      obtain ⟨i, hi⟩ := hg.at
      obtain ⟨M', hcall, hon⟩ := step_run hU hu hR hs hg hi hM hUn (by omega) (by omega) (by omega) (by omega) hbig htx
      have hst := step_at (u := u) hs hg hi
      rw [← hst] at hon
      unfold runS at hrun
      cases hstep : Cd.step u s with
      | inl r =>
        rw [hstep] at hon hrun
        simp only at hrun
        subst hrun
        obtain ⟨e1, e2, e3, e4⟩ := hon
        exact ⟨M', 0, by omega, hcall, .inl ⟨by rw [e1]; exact e4, e1, e2, e3⟩⟩
      | inr s' =>
        rw [hstep] at hon hrun
        simp only at hrun
        obtain ⟨e1, e2, e3, e4, e5, e6⟩ := hon
        obtain ⟨k1, k2, _⟩ := step_keeps hU (by rw [hs]; exact hok) hstep
        exact ⟨M', n + 1, by omega, hcall, .inr ⟨e1.fin, s', n, rfl, e1, k1, k2, by rw [e2, hfu]; simp, hrun, by omega, by omega, by omega, fun f hf => by rw [e5]; exact hbig f hf⟩⟩
theorem RowAt.up {w : World} {B B' : Nat} {a : Option Addr} {cs : List Value} (h : RowAt w B a cs) (hB : B ≤ B') (hw : B' ≤ w.heap.size) : RowAt w B' a cs := fun h0 => by
  obtain ⟨b, off, ha, hlt, _, hc⟩ := h h0
  exact ⟨b, off, ha, by omega, hw, hc⟩
theorem UnAt.up {w : World} {B B' : Nat} {U : UnR} (h : UnAt w B U) (hB : B ≤ B') (hw : B' ≤ w.heap.size) : UnAt w B' U :=
  ⟨RowAt.up h.fs hB hw, RowAt.up h.gs hB hw, fun r hr => RowAt.up (h.code r hr) hB hw, h.lf, h.lg, h.lc⟩
theorem CIn.up {w w' : World} {v : Value} {l : List UInt8} (h : CIn w v l) (hb : Below w.heap.size w w') : CIn w' v l := by
  obtain ⟨a, c, hv, h1, h2, h3⟩ := h
  exact ⟨a, c, hv, h1, h2, RowAt.up (RowAt.below h3 hb) hb.size (Nat.le_refl _)⟩
/-- The machine at its start. -/
def macS (top fu : Int) (most : Nat) (inp : List UInt8) : Mac := ⟨List.replicate 4096 0, top, List.replicate most 0, List.replicate most 0, [], [], inp, fu, 0, 0, []⟩
def mvS (vi : Value) : MV := ⟨.slice none 0 0, .slice none 0 0, .slice none 0 0, vi⟩
theorem RoomPost.mac {v v2 : World} {mb pb : Nat} {fu : Int} {vi : Value} {inp : List UInt8} (h : RoomPost U mb pb (List.replicate 4096 0) U.top fu vi v v2) (hb0 : Below w0.heap.size w0 v) (hmb : w0.heap.size ≤ mb) (hmbv : mb < v.heap.size) (hpl : PlacesAt v pb U.fns) (hpb : w0.heap.size ≤ pb) (hne : pb ≠ mb) (hin : CIn w0 vi inp) :
    ∃ b N, b.mb = mb ∧ MacAt w0 v2 U N b (macS U.top fu (mostR U.fns 0).toNat inp) (mvS vi) := by
  obtain ⟨rb, sb, h1, h2, h3, h4, h5, h6, h7, h8, h9, h10⟩ := h
  have hpv := hpl.lt
  have hw := hb0.size
  refine ⟨⟨mb, rb, sb, pb⟩, v2.heap.size, rfl, hb0.trans (h9 _ hmb hw), ⟨hmb, by show w0.heap.size ≤ rb; omega, by show w0.heap.size ≤ sb; omega, hpb⟩, ⟨by show mb < _; omega, h4, h5, by show pb < _; omega⟩, ⟨by show mb ≠ rb; omega, by show mb ≠ sb; omega, fun e => hne e.symm, h1, by show rb ≠ pb; omega, by show sb ≠ pb; omega⟩, ?_, List.length_replicate, h7, h8, hpl.keep (h10 pb hpv hne), World.ownsRow_nil _ _ _ _, World.ownsRow_nil _ _ _ _, World.ownsRow_nil _ _ _ _, hin, fun g hg => by simp [mvS, Value.ownBlock] at hg, fun g hg => by simp [mvS, Value.ownBlock] at hg, fun g hg => by simp [mvS, Value.ownBlock] at hg, Nat.le_refl _⟩
  rw [h6]
  unfold regL mcL hdL tlL macS mvS
  simp only [List.length_replicate]
/-- The first call. -/
theorem loop_first (hU : RightU u) (hu : u = U.un) {m : Nat} {r : FnR} (hm : U.fs[m]? = some r) (ht : ¬ U.top + r.f.frame > 4096) {fu : Nat} (hfu : fu ≤ 1000000) {most : Nat} (hmost : ∀ f ∈ u.funcs, f.regs ≤ most) {inp : List UInt8} :
    beginM U { macS U.top fu most inp with mem := mem0 u } m r (-1) [] = { macS U.top fu most inp with mem := mem0 u, calls := [⟨m, 0, U.top, -1, 0⟩], free := U.top + r.f.frame } ∧
    LoopI u (runS u fu ⟨mem0 u, [], inp, [⟨m, U.top, 0, -1, List.replicate r.f.regs.toNat 0⟩]⟩) (fu + 1) { macS U.top fu most inp with mem := mem0 u, calls := [⟨m, 0, U.top, -1, 0⟩], free := U.top + r.f.frame } := by
  have hfn : u.funcs[m]? = some r.f := by rw [hu]; unfold UnR.un UnR.fns; rw [List.getElem?_map, hm]; rfl
  have htop : u.top = U.top := by rw [hu]; rfl
  constructor
  · unfold beginM
    rw [if_neg (by show ¬ r.f.frame > 4096 - U.top; omega)]
    rfl
  · right
    have hok := StkOk.first hU hfn (by rw [htop]; exact ht)
    rw [htop] at hok
    have h0 : StkR u [] [] (List.replicate most 0) (List.replicate most 0) [] := ⟨fun q => by unfold gR; rw [List.getD_eq_getElem?_getD, List.getElem?_replicate]; split <;> rfl, rfl⟩
    have hbg := hmost r.f (List.mem_of_getElem? hfn)
    refine ⟨rfl, _, fu, rfl, ⟨rfl, rfl, rfl, rfl, h0.push m U.top (-1) r.f.regs.toNat trivial, rfl, fun v hv => (by cases hv), fun f hf => ?_, fun f rest e => ?_, fun f hf => ?_⟩, hok, by simp, rfl, rfl, by show 0 + _ ≤ _; omega, by show 1 + _ ≤ _; omega, by show 0 + _ ≤ _; omega, fun f hf => by unfold macS; simp only [List.length_replicate]; exact hmost f hf⟩
    · obtain rfl : f = _ := by simpa using hf
      simp only [List.length_replicate, macS]
      omega
    · injection e with e1 e2
      subst e1
      exact ⟨r.f, hfn, rfl⟩
    · obtain rfl : f = _ := by simpa using hf
      exact .inl rfl
end Go.Proofs.Ytmcpfjhdeplgmaa
