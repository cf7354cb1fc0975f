/-
  A unit whose functions have other instructions, that do the same where something holds of the registers, does what it did, with any fuel, on lists.
  A unit with other functions of the same names may be, on lists.
  A unit whose functions stand in another order, and whose globals are called otherwise, may be just if the unit may, and does the same. Of no program.
-/
import Derived.Test.YtmcpfjhdeplgmaaQRuns
import Derived.Test.YtmcpfjhdeplgmaaQBase
namespace Go.Proofs.Ytmcpfjhdeplgmaa.Cd
set_option linter.unusedVariables false

/-- What an instruction puts into its register, and where it goes on. -/
structure Tells (i : Ins) (base : Int) (f : Frm) (y q : Int) : Prop where
  const : i.kind = 1 → y = i.n
  op : i.kind = 2 ∨ i.kind = 3 → doB i.op (valB f i) = true ∧ y = doV i.op (reg f i.a) (valB f i)
  copy : i.kind = 4 → y = reg f i.a
  frame : i.kind = 5 → y = base + i.n
  branch : i.kind = 12 → q = if reg f i.a ≠ 0 then i.dest else i.els
  next : q ∈ next i f.pos
/-- What holds of the registers, of each function, ahead of each instruction. -/
structure FactsOk (u : Uni) (F : Nat → Int → Int → List Int → Prop) : Prop where
  first : ∀ (k : Nat) (g : Fnc) (base : Int) (regs : List Int), u.funcs[k]? = some g → (regs.length : Int) = g.regs → F k 0 base regs
  keep : ∀ (f : Frm) (g : Fnc) (i : Ins) (y q : Int), u.funcs[f.k]? = some g → 0 ≤ f.pos → g.code[f.pos.toNat]? = some i → (f.regs.length : Int) = g.regs → F f.k f.pos f.base f.regs → Tells i f.base f y q → F f.k q f.base (if 0 ≤ sets i then f.regs.set i.dst.toNat y else f.regs)
variable {u v : Uni} {F : Nat → Int → Int → List Int → Prop}
structure TopF (u : Uni) (F : Nat → Int → Int → List Int → Prop) (f : Frm) : Prop where
  here : ∃ g, u.funcs[f.k]? = some g ∧ RightF g ∧ 0 ≤ f.pos ∧ f.pos < g.code.length ∧ (f.regs.length : Int) = g.regs
  fact : F f.k f.pos f.base f.regs
def putD (d x : Int) (f : Frm) : Frm := if 0 ≤ d then { f with regs := f.regs.set d.toNat x } else f
def RestF (u : Uni) (F : Nat → Int → Int → List Int → Prop) : Int → List Frm → Prop
  | _, [] => True
  | d, f :: l => (∀ x, TopF u F (putD d x f)) ∧ RestF u F f.dst l
def StkF (u : Uni) (F : Nat → Int → Int → List Int → Prop) : List Frm → Prop
  | [] => True
  | f :: l => TopF u F f ∧ RestF u F f.dst l
def KeepF (u : Uni) (F : Nat → Int → Int → List Int → Prop) : Rsu ⊕ Sta → Prop
  | .inl _ => True
  | .inr s' => StkF u F s'.stack
/-- Each function may be; a call has as many registers as its function takes. -/
structure UniOk (u : Uni) : Prop where
  right : ∀ (k : Nat) (g : Fnc), u.funcs[k]? = some g → RightF g
  calls : ∀ (k : Nat) (g : Fnc) (i : Ins), u.funcs[k]? = some g → i ∈ g.code → i.kind = 8 → ∀ k' h, findN u.funcs i.text = some k' → u.funcs[k']? = some h → ((uses i).length : Int) = h.params
theorem TopF.went (hU : UniOk u) (hF : FactsOk u F) {f : Frm} (h : TopF u F f) {g : Fnc} {i : Ins} (hg : u.funcs[f.k]? = some g) (hi : g.code[f.pos.toNat]? = some i) {y q : Int} (ht : Tells i f.base f y q) : TopF u F (went f i y q) := by
  obtain ⟨g', hg', hR, h0, h1, hl⟩ := h.here
  rw [hg] at hg'
  injection hg' with hg'
  subst hg'
  have hin := closed_of hR f.pos ⟨h0, h1⟩ q (by rw [nexts_at hi]; exact ht.next)
  refine ⟨⟨g, hg, hR, hin.1, hin.2, ?_⟩, hF.keep f g i y q hg h0 hi hl h.fact ht⟩
  show (((if 0 ≤ sets i then f.regs.set i.dst.toNat y else f.regs) : List Int).length : Int) = g.regs
  split
  · rw [List.length_set]; exact hl
  · exact hl
theorem stepI_facts (hU : UniOk u) (hF : FactsOk u F) {f : Frm} (h : TopF u F f) {g : Fnc} {i : Ins} {rest : List Frm} {s : Sta} (hg : u.funcs[f.k]? = some g) (hi : g.code[f.pos.toNat]? = some i) (hrest : RestF u F f.dst rest) : KeepF u F (stepI u g i f rest s) := by
  have hR := (hU.right _ _ hg).all i (List.mem_of_getElem? hi)
  have hlo := hR.low
  have hhi := hR.high
  have hn : i.kind ≠ 11 → i.kind ≠ 12 → i.kind ≠ 13 → f.pos + 1 ∈ next i f.pos := by intro a b c; unfold next; rw [if_neg a, if_neg b, if_neg c]; simp
  have go : ∀ y q, Tells i f.base f y q → StkF u F (went f i y q :: rest) := fun y q ht => ⟨h.went hU hF hg hi ht, hrest⟩
  have any : ∀ y, i.kind ≠ 1 → i.kind ≠ 2 → i.kind ≠ 3 → i.kind ≠ 4 → i.kind ≠ 5 → i.kind ≠ 11 → i.kind ≠ 12 → i.kind ≠ 13 → Tells i f.base f y (f.pos + 1) := fun y a b c d e x z w => ⟨fun h => absurd h a, fun h => by omega, fun h => absurd h d, fun h => absurd h e, fun h => absurd h z, hn x z w⟩
  unfold stepI
  by_cases h1 : i.kind = 1
  · rw [if_pos h1]; exact go _ _ ⟨fun _ => rfl, fun _ => by omega, fun _ => by omega, fun _ => by omega, fun _ => by omega, hn (by omega) (by omega) (by omega)⟩
  rw [if_neg h1]
  by_cases h2 : i.kind = 2 ∨ i.kind = 3
  · rw [if_pos h2]
    by_cases hb : doB i.op (valB f i) = true
    · rw [if_pos hb]; exact go _ _ ⟨fun _ => by omega, fun _ => ⟨hb, rfl⟩, fun _ => by omega, fun _ => by omega, fun _ => by omega, hn (by omega) (by omega) (by omega)⟩
    · rw [if_neg hb]; trivial
  rw [if_neg h2]
  by_cases h4 : i.kind = 4
  · rw [if_pos h4]; exact go _ _ ⟨fun _ => by omega, fun _ => by omega, fun _ => rfl, fun _ => by omega, fun _ => by omega, hn (by omega) (by omega) (by omega)⟩
  rw [if_neg h4]
  by_cases h5 : i.kind = 5
  · rw [if_pos h5]; exact go _ _ ⟨fun _ => by omega, fun _ => by omega, fun _ => by omega, fun _ => rfl, fun _ => by omega, hn (by omega) (by omega) (by omega)⟩
  rw [if_neg h5]
  by_cases h6 : i.kind = 6 ∨ i.kind = 7
  · rw [if_pos h6]
    by_cases ha : 1 ≤ addr f i ∧ addr f i < 4096
    · rw [if_pos ha]
      by_cases hl : i.kind = 6
      · rw [if_pos hl]; exact go _ _ (any _ (by omega) (by omega) (by omega) (by omega) (by omega) (by omega) (by omega) (by omega))
      · rw [if_neg hl]; exact go _ _ (any _ (by omega) (by omega) (by omega) (by omega) (by omega) (by omega) (by omega) (by omega))
    · rw [if_neg ha]; trivial
  rw [if_neg h6]
  by_cases h8 : i.kind = 8
  · rw [if_pos h8]
    cases hk : findN u.funcs i.text with
    | none => trivial
    | some k =>
      simp only
      cases hh : u.funcs[k]? with
      | none => trivial
      | some h' =>
        simp only
        by_cases hb : f.base + g.frame + h'.frame > 4096
        · rw [if_pos hb]; trivial
        · rw [if_neg hb]
          have hc := hU.calls _ _ _ hg (List.mem_of_getElem? hi) h8 _ _ hk hh
          have hR' := hU.right _ _ hh
          have hp := hR'.params
          have hr := hR'.regs
          have hcd := hR'.code.1
          have hlen : ((((uses i).map (reg f) ++ List.replicate (h'.regs.toNat - (uses i).length) 0).length : Nat) : Int) = h'.regs := by
            simp only [List.length_append, List.length_map, List.length_replicate]; omega
          refine ⟨⟨⟨h', hh, hR', Int.le_refl _, by show (0 : Int) < (h'.code.length : Int); omega, hlen⟩, hF.first _ _ _ _ hh hlen⟩, fun x => ?_, hrest⟩
          have ht := h.went hU hF hg hi (any x (by omega) (by omega) (by omega) (by omega) (by omega) (by omega) (by omega) (by omega))
          have hd : sets i = i.dst := by unfold sets; rw [if_pos (by omega)]
          unfold Cd.went at ht
          rw [hd] at ht
          unfold putD
          by_cases hd0 : 0 ≤ i.dst
          · rw [if_pos hd0] at ht ⊢; exact ht
          · rw [if_neg hd0] at ht ⊢; exact ht
  rw [if_neg h8]
  by_cases h9 : i.kind = 9
  · rw [if_pos h9]
    cases s.inp <;> exact go _ _ (any _ (by omega) (by omega) (by omega) (by omega) (by omega) (by omega) (by omega) (by omega))
  rw [if_neg h9]
  by_cases h10 : i.kind = 10
  · rw [if_pos h10]; exact go _ _ (any _ (by omega) (by omega) (by omega) (by omega) (by omega) (by omega) (by omega) (by omega))
  rw [if_neg h10]
  by_cases h11 : i.kind = 11
  · rw [if_pos h11]; exact go _ _ ⟨fun _ => by omega, fun _ => by omega, fun _ => by omega, fun _ => by omega, fun _ => by omega, by unfold next; rw [if_pos h11]; simp⟩
  rw [if_neg h11]
  by_cases h12 : i.kind = 12
  · rw [if_pos h12]
    exact go _ _ ⟨fun _ => by omega, fun _ => by omega, fun _ => by omega, fun _ => by omega, fun _ => rfl, by unfold next; rw [if_neg h11, if_pos h12]; split <;> simp⟩
  rw [if_neg h12]
  cases rest with
  | nil => trivial
  | cons p ps =>
    obtain ⟨hw, hps⟩ := hrest
    have := hw (reg f i.a)
    have e : (putD f.dst (reg f i.a) p).dst = p.dst := by unfold putD; split <;> rfl
    show TopF u F (putD f.dst (reg f i.a) p) ∧ RestF u F (putD f.dst (reg f i.a) p).dst ps
    rw [e]
    exact ⟨this, hps⟩
/-- Two units alike but for instructions, which do the same where the facts hold. -/
structure SameBy (u v : Uni) (F : Nat → Int → Int → List Int → Prop) : Prop where
  top : v.top = u.top
  globals : v.globals = u.globals
  names : v.funcs.map (·.name) = u.funcs.map (·.name)
  shape : ∀ k : Nat, (v.funcs[k]?).map (fun h => (h.params, h.frame, h.regs, h.code.length)) = (u.funcs[k]?).map (fun h => (h.params, h.frame, h.regs, h.code.length))
  code : ∀ (f : Frm) (g h : Fnc) (i j : Ins) (rest : List Frm) (s : Sta), u.funcs[f.k]? = some g → v.funcs[f.k]? = some h → 0 ≤ f.pos → g.code[f.pos.toNat]? = some i → h.code[f.pos.toNat]? = some j → (f.regs.length : Int) = g.regs → F f.k f.pos f.base f.regs → stepI u g j f rest s = stepI u g i f rest s
theorem findN_map : ∀ (fs gs : List Fnc) (s : List UInt8), fs.map (·.name) = gs.map (·.name) → findN fs s = findN gs s
  | [], [], _, _ => rfl
  | [], _ :: _, _, h => by cases h
  | _ :: _, [], _, h => by cases h
  | f :: fs, g :: gs, s, h => by
    simp only [List.map_cons, List.cons.injEq] at h
    unfold findN
    rw [h.1, findN_map fs gs s h.2]
theorem shape_some (h : SameBy u v F) {k : Nat} {g : Fnc} (hg : u.funcs[k]? = some g) : ∃ g', v.funcs[k]? = some g' ∧ g'.params = g.params ∧ g'.frame = g.frame ∧ g'.regs = g.regs ∧ g'.code.length = g.code.length := by
  have := h.shape k
  rw [hg] at this
  cases hv : v.funcs[k]? with
  | none => rw [hv] at this; cases this
  | some g' =>
    rw [hv] at this
    simp only [Option.map_some, Option.some.injEq, Prod.mk.injEq] at this
    exact ⟨g', rfl, this.1, this.2.1, this.2.2.1, this.2.2.2⟩
theorem shape_none (h : SameBy u v F) {k : Nat} (hg : u.funcs[k]? = none) : v.funcs[k]? = none := by
  have := h.shape k
  rw [hg] at this
  cases hv : v.funcs[k]? with
  | none => rfl
  | some g' => rw [hv] at this; cases this
theorem stepI_other (h : SameBy u v F) {g g' : Fnc} {i : Ins} {f : Frm} {rest : List Frm} {s : Sta} (hf : g'.frame = g.frame) : stepI v g' i f rest s = stepI u g i f rest s := by
  unfold stepI
  rw [findN_map _ _ _ h.names, hf]
  cases hk : findN u.funcs i.text with
  | none => rfl
  | some k =>
    cases hu : u.funcs[k]? with
    | none => simp only [hu, shape_none h hu]
    | some b =>
      obtain ⟨a, ha, h1, h2, h3, h4⟩ := shape_some h hu
      simp only [hu, ha, h2, h3]
theorem runS_facts (hU : UniOk u) (hF : FactsOk u F) (h : SameBy u v F) : ∀ (n : Nat) (s : Sta), StkF u F s.stack → runS v n s = runS u n s
  | 0, _, _ => rfl
  | n + 1, s, hs => by
    have key : step v s = step u s ∧ KeepF u F (step u s) := by
      cases hst : s.stack with
      | nil => unfold step; rw [hst]; exact ⟨rfl, trivial⟩
      | cons f rest =>
        rw [hst] at hs
        obtain ⟨ht, hrest⟩ := hs
        obtain ⟨g, hg, hR, h0, h1, hl⟩ := ht.here
        obtain ⟨g', hg', e1, e2, e3, e4⟩ := shape_some h hg
        obtain ⟨i, hi⟩ : ∃ i, g.code[f.pos.toNat]? = some i := ⟨_, List.getElem?_eq_getElem (by omega)⟩
        obtain ⟨j, hj⟩ : ∃ j, g'.code[f.pos.toNat]? = some j := ⟨_, List.getElem?_eq_getElem (by omega)⟩
        have a1 : step u s = stepI u g i f rest s := by unfold step; rw [hst]; simp only [hg, hi]
        have a2 : step v s = stepI v g' j f rest s := by unfold step; rw [hst]; simp only [hg', hj]
        rw [a1, a2]
        exact ⟨(stepI_other h e2).trans (h.code f g g' i j rest s hg hg' h0 hi hj hl ht.fact), stepI_facts hU hF ht hg hi hrest⟩
    unfold runS
    rw [key.1]
    cases hs' : step u s with
    | inl r => rfl
    | inr s' =>
      have := key.2
      rw [hs'] at this
      exact runS_facts hU hF h n s' this
theorem runU_facts (hU : UniOk u) (hF : FactsOk u F) (h : SameBy u v F) (hr : rightU u = true) (hr' : rightU v = true) (inp : List UInt8) (fuel : Int) : runU v inp fuel = runU u inp fuel := by
  unfold runU
  rw [findN_map _ _ _ h.names]
  cases hm : findN u.funcs wMain with
  | none => rfl
  | some m =>
    simp only
    cases hg : u.funcs[m]? with
    | none => rw [shape_none h hg]
    | some g =>
      obtain ⟨g', hg', e1, e2, e3, e4⟩ := shape_some h hg
      have hR := hU.right _ _ hg
      have hp := hR.params
      have hrg := hR.regs
      have hcd := hR.code.1
      have e5 : mem0 v = mem0 u := by unfold mem0; rw [h.globals]
      rw [hg']
      simp only [hr, hr', e1, e2, e3, h.top, e5]
      by_cases hq : true = false ∨ g.params > 0
      · rw [if_pos hq, if_pos hq]
      · rw [if_neg hq, if_neg hq]
        by_cases hb : u.top + g.frame > 4096
        · rw [if_pos hb, if_pos hb]
        · rw [if_neg hb, if_neg hb]
          have hl : ((List.replicate g.regs.toNat (0 : Int)).length : Int) = g.regs := by rw [List.length_replicate]; omega
          refine runS_facts hU hF h _ _ (show TopF u F _ ∧ True from ⟨⟨⟨g, hg, hR, Int.le_refl _, by show (0 : Int) < (g.code.length : Int); omega, hl⟩, hF.first _ _ _ _ hg hl⟩, trivial⟩)
end Go.Proofs.Ytmcpfjhdeplgmaa.Cd
namespace Go.Proofs.Ytmcpfjhdeplgmaa.Cd
set_option linter.unusedVariables false

theorem funcsOk_iff' (fs : List Fnc) : ∀ (l : List Fnc) (j : Nat), funcsOk fs j l = true ↔ ∀ (k : Nat) (g : Fnc), l[k]? = some g → funcOk fs (j + k) g = true
  | [], j => by simp [funcsOk]
  | f :: l, j => by
    unfold funcsOk
    rw [Bool.and_eq_true, funcsOk_iff' fs l (j + 1)]
    constructor
    · rintro ⟨h1, h2⟩ k g hk
      cases k with
      | zero =>
        simp only [List.getElem?_cons_zero, Option.some.injEq] at hk
        subst hk
        exact h1
      | succ k =>
        have := h2 k g (by simpa using hk)
        rw [show j + (k + 1) = j + 1 + k by omega]
        exact this
    · intro h
      refine ⟨h 0 f rfl, fun k g hk => ?_⟩
      have := h (k + 1) g (by simpa using hk)
      rw [show j + 1 + k = j + (k + 1) by omega]
      exact this
/-- Functions that stand for those of a unit: of the same names and parameters, that may be, and call nothing else. -/
structure Stands (u : Uni) (fs : List Fnc) : Prop where
  len : fs.length = u.funcs.length
  heads : ∀ (k : Nat) (g h : Fnc), u.funcs[k]? = some g → fs[k]? = some h → h.name = g.name ∧ h.params = g.params ∧ RightF h
  calls : ∀ (k : Nat) (g h : Fnc) (j : Ins), u.funcs[k]? = some g → fs[k]? = some h → j ∈ h.code → j.kind = 8 → ∃ (i : Ins) (k' : Nat) (g' : Fnc), u.funcs[k']? = some g' ∧ i ∈ g'.code ∧ i.kind = 8 ∧ i.text = j.text ∧ i.n = j.n
theorem Stands.names {u : Uni} {fs : List Fnc} (h : Stands u fs) : fs.map (·.name) = u.funcs.map (·.name) := by
  apply List.ext_getElem?
  intro k
  rw [List.getElem?_map, List.getElem?_map]
  cases hg : u.funcs[k]? with
  | none =>
    have : fs[k]? = none := by rw [List.getElem?_eq_none_iff] at hg ⊢; rw [h.len]; exact hg
    rw [this]
  | some g =>
    obtain ⟨x, hx⟩ : ∃ x, fs[k]? = some x := ⟨_, List.getElem?_eq_getElem (by rw [h.len]; exact (List.getElem?_eq_some_iff.1 hg).1)⟩
    rw [hx]
    simp only [Option.map_some, Option.some.injEq]
    exact (h.heads k g x hg hx).1
theorem callOk_stands {u : Uni} {fs : List Fnc} (h : Stands u fs) {i j : Ins} (hk : i.kind = 8) (hj : j.kind = 8) (ht : i.text = j.text) (hn : i.n = j.n) (hc : callOk u.funcs i = true) : callOk fs j = true := by
  unfold callOk at hc ⊢
  rw [if_pos hk] at hc
  rw [if_pos hj, findN_map _ _ _ h.names, ← ht, ← hn]
  cases hf : findN u.funcs i.text with
  | none => rw [hf] at hc; simp at hc
  | some k =>
    rw [hf] at hc
    simp only at hc ⊢
    cases hg : u.funcs[k]? with
    | none => rw [hg] at hc; simp at hc
    | some g =>
      rw [hg] at hc
      obtain ⟨x, hx⟩ : ∃ x, fs[k]? = some x := ⟨_, List.getElem?_eq_getElem (by rw [h.len]; exact (List.getElem?_eq_some_iff.1 hg).1)⟩
      rw [hx]
      simp only at hc ⊢
      rw [(h.heads k g x hg hx).2.1]
      exact hc
theorem rightU_stands {u : Uni} {fs : List Fnc} (h : Stands u fs) (hr : rightU u = true) : rightU { u with funcs := fs } = true := by
  unfold rightU at hr ⊢
  simp only [Bool.and_eq_true] at hr ⊢
  obtain ⟨⟨⟨⟨h1, h2⟩, h3⟩, h4⟩, h5⟩ := hr
  refine ⟨⟨⟨⟨by rw [h.len]; exact h1, h2⟩, h3⟩, h4⟩, ?_⟩
  rw [funcsOk_iff'] at h5 ⊢
  have hall : ∀ (k' : Nat) (g' : Fnc) (i : Ins), u.funcs[k']? = some g' → i ∈ g'.code → callOk u.funcs i = true := by
    intro k' g' i hg' hi
    have := h5 k' g' hg'
    unfold funcOk at this
    rw [Bool.and_eq_true, Bool.and_eq_true, List.all_eq_true] at this
    exact this.2 i hi
  intro k x hx
  have hkl : k < u.funcs.length := by rw [← h.len]; exact (List.getElem?_eq_some_iff.1 hx).1
  obtain ⟨g, hg⟩ : ∃ g, u.funcs[k]? = some g := ⟨_, List.getElem?_eq_getElem hkl⟩
  have hf := h5 k g hg
  unfold funcOk at hf ⊢
  rw [Bool.and_eq_true, Bool.and_eq_true] at hf ⊢
  obtain ⟨e1, e2, e3⟩ := h.heads k g x hg hx
  refine ⟨⟨rightF_iff.2 e3, ?_⟩, ?_⟩
  · rw [e1, findN_map _ _ _ h.names]; exact hf.1.2
  · rw [List.all_eq_true]
    intro j hj
    by_cases h8 : j.kind = 8
    · obtain ⟨i, k', g', hg', hi, hik, ht, hn⟩ := h.calls k g x j hg hx hj h8
      exact callOk_stands h hik h8 ht hn (hall k' g' i hg' hi)
    · unfold callOk
      rw [if_neg h8]
/-- What may be said of the functions of a unit that may be. -/
theorem UniOk.of {u : Uni} (hr : rightU u = true) : UniOk u := by
  unfold rightU at hr
  simp only [Bool.and_eq_true] at hr
  have h5 := hr.2
  rw [funcsOk_iff'] at h5
  have hall : ∀ (k : Nat) (g : Fnc), u.funcs[k]? = some g → RightF g ∧ g.code.all (callOk u.funcs) = true := fun k g hg => by
    have := h5 k g hg
    unfold funcOk at this
    rw [Bool.and_eq_true, Bool.and_eq_true] at this
    exact ⟨rightF_iff.1 this.1.1, this.2⟩
  refine ⟨fun k g hg => (hall k g hg).1, fun k g i hg hi h8 k' h hf hh => ?_⟩
  obtain ⟨hR, hC⟩ := hall k g hg
  have hri := hR.all i hi
  rw [List.all_eq_true] at hC
  have hc := hC i hi
  unfold callOk at hc
  rw [if_pos h8, hf] at hc
  simp only [hh, decide_eq_true_eq] at hc
  have hn := hri.n
  unfold nOk at hn
  rw [if_neg (by omega), if_neg (by omega), if_pos h8] at hn
  simp only [Bool.and_eq_true, decide_eq_true_eq] at hn
  have : (uses i).length = i.n.toNat := by unfold uses readsA readsB; simp [h8, Ins.args]; omega
  rw [this, hc]
  omega
end Go.Proofs.Ytmcpfjhdeplgmaa.Cd
namespace Go.Proofs.Ytmcpfjhdeplgmaa.Cd
set_option linter.unusedVariables false

/-- The same functions in another order; globals of the same places. -/
structure Turned (u v : Uni) : Prop where
  perm : v.funcs.Perm u.funcs
  glob : v.globals.map (fun g => (g.pos, g.size, g.init)) = u.globals.map (fun g => (g.pos, g.size, g.init))
  top : v.top = u.top
theorem Turned.symm {u v : Uni} (h : Turned u v) : Turned v u := ⟨h.perm.symm, h.glob.symm, h.top.symm⟩
/-- Each function is the first one of its name. -/
def Firsts (fs : List Fnc) : Prop := ∀ (k : Nat) (g : Fnc), fs[k]? = some g → findN fs g.name = some k
theorem findN_get : ∀ (fs : List Fnc) (s : List UInt8) (k : Nat), findN fs s = some k → ∃ g, fs[k]? = some g ∧ g.name = s
  | [], s, k, h => by simp [findN] at h
  | f :: fs, s, k, h => by
    unfold findN at h
    by_cases hf : f.name = s
    · rw [if_pos hf] at h
      injection h with h
      subst h
      exact ⟨f, rfl, hf⟩
    · rw [if_neg hf] at h
      cases hx : findN fs s with
      | none => rw [hx] at h; simp at h
      | some j =>
        rw [hx] at h
        simp only [Option.map_some, Option.some.injEq] at h
        subst h
        obtain ⟨g, h1, h2⟩ := findN_get fs s j hx
        exact ⟨g, by simpa using h1, h2⟩
theorem findN_mem : ∀ (fs : List Fnc) (g : Fnc), g ∈ fs → ∃ k, findN fs g.name = some k
  | f :: fs, g, h => by
    unfold findN
    by_cases hf : f.name = g.name
    · exact ⟨0, by rw [if_pos hf]⟩
    · rw [if_neg hf]
      rcases List.mem_cons.1 h with rfl | h
      · exact absurd rfl hf
      · obtain ⟨k, hk⟩ := findN_mem fs g h
        exact ⟨k + 1, by rw [hk]; rfl⟩
theorem Firsts.uniq {fs : List Fnc} (h : Firsts fs) {g g' : Fnc} (hg : g ∈ fs) (hg' : g' ∈ fs) (hn : g.name = g'.name) : g = g' := by
  obtain ⟨i, hi⟩ := List.mem_iff_getElem?.1 hg
  obtain ⟨j, hj⟩ := List.mem_iff_getElem?.1 hg'
  have h1 := h i g hi
  have h2 := h j g' hj
  rw [hn, h2] at h1
  injection h1 with h1
  subst h1
  rw [hi] at hj
  injection hj
theorem Firsts.inj {fs : List Fnc} (h : Firsts fs) {i j : Nat} {g : Fnc} (hi : fs[i]? = some g) (hj : fs[j]? = some g) : i = j := by
  have h1 := h i g hi
  rw [h j g hj] at h1
  injection h1 with h1
  exact h1.symm
theorem Firsts.nodup {fs : List Fnc} (h : Firsts fs) : fs.Nodup := List.pairwise_iff_getElem.2 fun i j hi hj hij e => by
  have h1 : fs[i]? = some fs[j] := by rw [List.getElem?_eq_getElem hi, e]
  have := h.inj h1 (List.getElem?_eq_getElem hj)
  omega
theorem nodup_at {fs : List Fnc} (h : fs.Nodup) {i j : Nat} {g : Fnc} (hi : fs[i]? = some g) (hj : fs[j]? = some g) : i = j := by
  obtain ⟨li, ei⟩ := List.getElem?_eq_some_iff.1 hi
  obtain ⟨lj, ej⟩ := List.getElem?_eq_some_iff.1 hj
  rcases Nat.lt_trichotomy i j with hlt | heq | hgt
  · exact absurd (ei.trans ej.symm) (List.pairwise_iff_getElem.1 h i j li lj hlt)
  · exact heq
  · exact absurd (ej.trans ei.symm) (List.pairwise_iff_getElem.1 h j i lj li hgt)
/-- What a name finds, in both. -/
theorem Turned.find {u v : Uni} (h : Turned u v) (hf : Firsts u.funcs) (s : List UInt8) : (findN u.funcs s = none ∧ findN v.funcs s = none) ∨ ∃ k k' g, findN u.funcs s = some k ∧ findN v.funcs s = some k' ∧ u.funcs[k]? = some g ∧ v.funcs[k']? = some g := by
  cases hx : findN u.funcs s with
  | none =>
    left
    refine ⟨rfl, ?_⟩
    cases hy : findN v.funcs s with
    | none => rfl
    | some k' =>
      obtain ⟨g, h1, h2⟩ := findN_get _ _ _ hy
      obtain ⟨k, hk⟩ := findN_mem u.funcs g (h.perm.mem_iff.1 (List.mem_of_getElem? h1))
      rw [h2, hx] at hk
      cases hk
  | some k =>
    right
    obtain ⟨g, h1, h2⟩ := findN_get _ _ _ hx
    have hm := h.perm.mem_iff.2 (List.mem_of_getElem? h1)
    obtain ⟨k', hk'⟩ := findN_mem v.funcs g hm
    obtain ⟨g', h3, h4⟩ := findN_get _ _ _ hk'
    have e : g' = g := hf.uniq (h.perm.mem_iff.1 (List.mem_of_getElem? h3)) (List.mem_of_getElem? h1) h4
    subst e
    exact ⟨k, k', g', rfl, by rw [← h2]; exact hk', h1, h3⟩
theorem globs_all {top : Int} : ∀ (a b : List Glo), a.map (fun g => (g.pos, g.size, g.init)) = b.map (fun g => (g.pos, g.size, g.init)) → a.all (globOk top) = b.all (globOk top)
  | [], [], _ => rfl
  | [], _ :: _, h => by simp at h
  | _ :: _, [], h => by simp at h
  | x :: a, y :: b, h => by
    simp only [List.map_cons, List.cons.injEq, Prod.mk.injEq] at h
    rw [List.all_cons, List.all_cons, globs_all a b h.2]
    unfold globOk
    rw [h.1.1, h.1.2.1, h.1.2.2]
theorem globs_mem : ∀ (a b : List Glo) (m : List Int), a.map (fun g => (g.pos, g.size, g.init)) = b.map (fun g => (g.pos, g.size, g.init)) → memOf a m = memOf b m
  | [], [], m, _ => rfl
  | [], _ :: _, m, h => by simp at h
  | _ :: _, [], m, h => by simp at h
  | x :: a, y :: b, m, h => by
    simp only [List.map_cons, List.cons.injEq, Prod.mk.injEq] at h
    unfold memOf
    rw [h.1.1, h.1.2.2, globs_mem a b _ h.2]
theorem firsts_of {u : Uni} (h : rightU u = true) : Firsts u.funcs := by
  unfold rightU at h
  simp only [Bool.and_eq_true] at h
  intro k g hg
  have := (funcsOk_iff' u.funcs u.funcs 0).1 h.2 k g hg
  unfold funcOk at this
  rw [Bool.and_eq_true, Bool.and_eq_true, decide_eq_true_eq] at this
  rw [this.1.2, Nat.zero_add]
theorem Turned.right1 {u v : Uni} (h : Turned u v) (hr : rightU u = true) : rightU v = true := by
  have hF := firsts_of hr
  have hnd : v.funcs.Nodup := h.perm.nodup_iff.2 hF.nodup
  unfold rightU at hr ⊢
  simp only [Bool.and_eq_true] at hr ⊢
  obtain ⟨⟨⟨⟨h1, h2⟩, h3⟩, h4⟩, h5⟩ := hr
  rw [h.top, h.perm.length_eq, globs_all _ _ h.glob]
  refine ⟨⟨⟨⟨h1, h2⟩, h3⟩, h4⟩, ?_⟩
  rw [funcsOk_iff'] at h5 ⊢
  intro k x hx
  obtain ⟨j, hj⟩ := List.mem_iff_getElem?.1 (h.perm.mem_iff.1 (List.mem_of_getElem? hx))
  have hf := h5 j x hj
  unfold funcOk at hf ⊢
  rw [Bool.and_eq_true, Bool.and_eq_true] at hf ⊢
  refine ⟨⟨hf.1.1, ?_⟩, ?_⟩
  · rw [decide_eq_true_eq]
    rcases h.find hF x.name with ⟨e, _⟩ | ⟨a, b, g, ha, hb, hga, hgb⟩
    · rw [hF j x hj] at e; cases e
    · rw [hF j x hj] at ha
      injection ha with ha
      subst ha
      rw [hj] at hga
      injection hga with hga
      subst hga
      rw [hb, nodup_at hnd hgb hx, Nat.zero_add]
  · rw [List.all_eq_true] at hf ⊢
    intro i hi
    have hc := hf.2 i hi
    unfold callOk at hc ⊢
    by_cases h8 : i.kind = 8
    · rw [if_pos h8] at hc ⊢
      rcases h.find hF i.text with ⟨e, _⟩ | ⟨a, b, g, ha, hb, hga, hgb⟩
      · rw [e] at hc; cases hc
      · rw [ha] at hc
        rw [hb]
        simp only [hga] at hc
        simp only [hgb]
        exact hc
    · rw [if_neg h8]
theorem Turned.right {u v : Uni} (h : Turned u v) : rightU u = rightU v := by
  cases hu : rightU u with
  | true => exact (h.right1 hu).symm
  | false =>
    cases hv : rightU v with
    | false => rfl
    | true => rw [h.symm.right1 hv] at hu; cases hu
/-- Calls that are one but for where their functions stand. -/
def FrT (u v : Uni) (f f' : Frm) : Prop := ∃ k', f' = { f with k := k' } ∧ v.funcs[k']? = u.funcs[f.k]?
def StkT (u v : Uni) : List Frm → List Frm → Prop
  | [], [] => True
  | f :: l, f' :: l' => FrT u v f f' ∧ StkT u v l l'
  | _, _ => False
structure StT (u v : Uni) (s t : Sta) : Prop where
  mem : t.mem = s.mem
  out : t.out = s.out
  inp : t.inp = s.inp
  stk : StkT u v s.stack t.stack
def OneT (u v : Uni) : Rsu ⊕ Sta → Rsu ⊕ Sta → Prop
  | .inl r, .inl r' => r = r'
  | .inr s, .inr t => StT u v s t
  | _, _ => False
theorem FrT.went {u v : Uni} {f : Frm} {k' : Nat} (h : v.funcs[k']? = u.funcs[f.k]?) (i : Ins) (x p : Int) : FrT u v (Cd.went f i x p) (Cd.went { f with k := k' } i x p) := ⟨k', rfl, h⟩
theorem stepI_turned {u v : Uni} (h : Turned u v) (hF : Firsts u.funcs) {f : Frm} {k' : Nat} (hk : v.funcs[k']? = u.funcs[f.k]?) (g : Fnc) (i : Ins) {rest rest' : List Frm} (hr : StkT u v rest rest') {s t : Sta} (hst : t.mem = s.mem ∧ t.out = s.out ∧ t.inp = s.inp) :
    OneT u v (stepI u g i f rest s) (stepI v g i { f with k := k' } rest' t) := by
  obtain ⟨hm, ho, hi⟩ := hst
  have one : ∀ (x p : Int), OneT u v (.inr { s with stack := Cd.went f i x p :: rest }) (.inr { t with stack := Cd.went { f with k := k' } i x p :: rest' }) := fun x p => ⟨hm, ho, hi, FrT.went hk i x p, hr⟩
  unfold stepI
  by_cases h1 : i.kind = 1
  · rw [if_pos h1, if_pos h1]; exact one _ _
  rw [if_neg h1, if_neg h1]
  by_cases h2 : i.kind = 2 ∨ i.kind = 3
  · rw [if_pos h2, if_pos h2]
    by_cases hb : doB i.op (valB f i) = true
    · rw [if_pos hb, if_pos (show doB i.op (valB { f with k := k' } i) = true from hb)]; exact one _ _
    · rw [if_neg hb, if_neg (show ¬ doB i.op (valB { f with k := k' } i) = true from hb)]
      show (⟨2, 2, s.out⟩ : Rsu) = ⟨2, 2, t.out⟩
      rw [ho]
  rw [if_neg h2, if_neg h2]
  by_cases h4 : i.kind = 4
  · rw [if_pos h4, if_pos h4]; exact one _ _
  rw [if_neg h4, if_neg h4]
  by_cases h5 : i.kind = 5
  · rw [if_pos h5, if_pos h5]; exact one _ _
  rw [if_neg h5, if_neg h5]
  by_cases h6 : i.kind = 6 ∨ i.kind = 7
  · rw [if_pos h6, if_pos h6]
    by_cases ha : 1 ≤ addr f i ∧ addr f i < 4096
    · rw [if_pos ha, if_pos (show 1 ≤ addr { f with k := k' } i ∧ addr { f with k := k' } i < 4096 from ha)]
      by_cases hl : i.kind = 6
      · rw [if_pos hl, if_pos hl]
        refine ⟨hm, ho, hi, ?_, hr⟩
        show FrT u v (Cd.went f i (s.mem.getD (addr f i).toNat 0) _) (Cd.went { f with k := k' } i (t.mem.getD (addr f i).toNat 0) _)
        rw [hm]
        exact FrT.went hk i _ _
      · rw [if_neg hl, if_neg hl]
        refine ⟨?_, ho, hi, FrT.went hk i 0 _, hr⟩
        show t.mem.set _ _ = s.mem.set _ _
        rw [hm]
        rfl
    · rw [if_neg ha, if_neg (show ¬ (1 ≤ addr { f with k := k' } i ∧ addr { f with k := k' } i < 4096) from ha)]
      show (⟨2, 1, s.out⟩ : Rsu) = ⟨2, 1, t.out⟩
      rw [ho]
  rw [if_neg h6, if_neg h6]
  by_cases h8 : i.kind = 8
  · rw [if_pos h8, if_pos h8]
    rcases h.find hF i.text with ⟨e1, e2⟩ | ⟨a, b, x, ha, hb, hga, hgb⟩
    · rw [e1, e2]
      show (⟨4, 0, s.out⟩ : Rsu) = ⟨4, 0, t.out⟩
      rw [ho]
    · rw [ha, hb]
      simp only [hga, hgb]
      by_cases hbg : f.base + g.frame + x.frame > 4096
      · rw [if_pos hbg, if_pos hbg]
        show (⟨3, 0, s.out⟩ : Rsu) = ⟨3, 0, t.out⟩
        rw [ho]
      · rw [if_neg hbg, if_neg hbg]
        refine ⟨hm, ho, hi, ⟨b, rfl, by rw [hgb]; exact hga.symm⟩, ⟨k', rfl, hk⟩, hr⟩
  rw [if_neg h8, if_neg h8]
  by_cases h9 : i.kind = 9
  · rw [if_pos h9, if_pos h9, hi]
    cases hx : s.inp with
    | nil => exact ⟨hm, ho, rfl, FrT.went hk i _ _, hr⟩
    | cons c cs => exact ⟨hm, ho, rfl, FrT.went hk i _ _, hr⟩
  rw [if_neg h9, if_neg h9]
  by_cases h10 : i.kind = 10
  · rw [if_pos h10, if_pos h10]
    refine ⟨hm, ?_, hi, FrT.went hk i 0 _, hr⟩
    show t.out ++ _ = s.out ++ _
    rw [ho]
    rfl
  rw [if_neg h10, if_neg h10]
  by_cases h11 : i.kind = 11
  · rw [if_pos h11, if_pos h11]; exact one _ _
  rw [if_neg h11, if_neg h11]
  by_cases h12 : i.kind = 12
  · rw [if_pos h12, if_pos h12]; exact one _ _
  rw [if_neg h12, if_neg h12]
  cases rest with
  | nil =>
    cases rest' with
    | nil =>
      show (⟨1, reg f i.a, s.out⟩ : Rsu) = ⟨1, reg f i.a, t.out⟩
      rw [ho]
    | cons _ _ => exact hr.elim
  | cons p ps =>
    cases rest' with
    | nil => exact hr.elim
    | cons p' ps' =>
      obtain ⟨⟨kp, rfl, hkp⟩, hps⟩ := hr
      refine ⟨hm, ho, hi, ?_, hps⟩
      show FrT u v (if 0 ≤ f.dst then _ else _) (if 0 ≤ f.dst then _ else _)
      by_cases hd : 0 ≤ f.dst
      · rw [if_pos hd, if_pos hd]; exact ⟨kp, rfl, hkp⟩
      · rw [if_neg hd, if_neg hd]; exact ⟨kp, rfl, hkp⟩
theorem step_turned {u v : Uni} (h : Turned u v) (hF : Firsts u.funcs) {s t : Sta} (hst : StT u v s t) : OneT u v (step u s) (step v t) := by
  unfold step
  cases hs : s.stack with
  | nil =>
    cases ht : t.stack with
    | nil =>
      show (⟨4, 0, s.out⟩ : Rsu) = ⟨4, 0, t.out⟩
      rw [hst.out]
    | cons _ _ => have := hst.stk; rw [hs, ht] at this; exact this.elim
  | cons f rest =>
    cases ht : t.stack with
    | nil => have := hst.stk; rw [hs, ht] at this; exact this.elim
    | cons f' rest' =>
      have hk := hst.stk
      rw [hs, ht] at hk
      obtain ⟨⟨k', rfl, hk'⟩, hr⟩ := hk
      simp only [hk']
      cases hg : u.funcs[f.k]? with
      | none =>
        show (⟨4, 0, s.out⟩ : Rsu) = ⟨4, 0, t.out⟩
        rw [hst.out]
      | some g =>
        simp only
        cases hi : g.code[f.pos.toNat]? with
        | none =>
          show (⟨4, 0, s.out⟩ : Rsu) = ⟨4, 0, t.out⟩
          rw [hst.out]
        | some i => exact stepI_turned h hF hk' g i hr ⟨hst.mem, hst.out, hst.inp⟩
theorem runS_turned {u v : Uni} (h : Turned u v) (hF : Firsts u.funcs) : ∀ (n : Nat) (s t : Sta), StT u v s t → runS u n s = runS v n t
  | 0, s, t, hst => by
    show (⟨4, 0, s.out⟩ : Rsu) = ⟨4, 0, t.out⟩
    rw [hst.out]
  | n + 1, s, t, hst => by
    have h1 := step_turned h hF hst
    unfold runS
    cases hx : step u s with
    | inl r =>
      cases hy : step v t with
      | inl r' => rw [hx, hy] at h1; exact h1
      | inr _ => rw [hx, hy] at h1; exact h1.elim
    | inr s' =>
      cases hy : step v t with
      | inl _ => rw [hx, hy] at h1; exact h1.elim
      | inr t' => rw [hx, hy] at h1; exact runS_turned h hF n s' t' h1
theorem runU_wrong {u : Uni} (inp : List UInt8) (fuel : Int) (h : rightU u = false) : runU u inp fuel = ⟨4, 0, []⟩ := by
  unfold runU
  cases findN u.funcs wMain with
  | none => rfl
  | some m =>
    simp only
    cases u.funcs[m]? with
    | none => rfl
    | some g => simp only; rw [if_pos (.inl h)]
theorem runU_turned {u v : Uni} (h : Turned u v) (inp : List UInt8) (fuel : Int) : runU u inp fuel = runU v inp fuel := by
  cases hr : rightU u with
  | false => rw [runU_wrong inp fuel hr, runU_wrong inp fuel (by rw [← h.right]; exact hr)]
  | true =>
    have hrv : rightU v = true := h.right1 hr
    have hF := firsts_of hr
    unfold runU
    rcases h.find hF wMain with ⟨e1, e2⟩ | ⟨a, b, g, ha, hb, hga, hgb⟩
    · rw [e1, e2]
    · rw [ha, hb]
      simp only [hga, hgb, hr, hrv, h.top]
      by_cases hp : true = false ∨ g.params > 0
      · rw [if_pos hp, if_pos hp]
      · rw [if_neg hp, if_neg hp]
        by_cases ht : u.top + g.frame > 4096
        · rw [if_pos ht, if_pos ht]
        · rw [if_neg ht, if_neg ht]
          exact runS_turned h hF _ _ _ ⟨globs_mem _ _ _ h.glob, rfl, rfl, ⟨b, rfl, by rw [hgb]; exact hga.symm⟩, trivial⟩
end Go.Proofs.Ytmcpfjhdeplgmaa.Cd
