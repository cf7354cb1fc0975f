/-
  A unit whose functions have other instructions, that do the same where something holds of the registers, does what it did, with any fuel, on lists.
  A unit with other functions of the same names may be, on lists.
  Two machines that go along, each as many steps as it takes: what comes of both, by whatever fuel.
  Layer 10: a unit whose functions are swept may be, and does what it did; swept again a function stays.
-/
import Derived.Test.YtgnpbodhjmappaaQR7Fuel
import Derived.Test.YtgnpbodhjmappaaR9Spec
import Derived.Test.YtgnpbodhjmappaaQMQ
namespace Go.Proofs.Ytgnpbodhjmappaa.Cd
set_option linter.unusedVariables false

/-- What an instruction puts into its register, and where it goes on. -/
structure Tells (i : Ins) (base : Int) (f : Frm) (y q : Int) : Prop where
  const : i.kind = 1 → y = i.n
  op : i.kind = 2 ∨ i.kind = 3 → doB i.op (valB f i) = true ∧ y = doV i.op (reg f i.a) (valB f i)
  copy : i.kind = 4 → y = reg f i.a
  frame : i.kind = 5 → y = base + i.n
  branch : i.kind = 12 → q = if reg f i.a ≠ 0 then i.dest else i.els
  next : q ∈ next i f.pos
/-- What holds of the registers, of each function, ahead of each instruction. -/
structure FactsOk (u : Uni) (F : Nat → Int → Int → List Int → Prop) : Prop where
  first : ∀ (k : Nat) (g : Fnc) (base : Int) (regs : List Int), u.funcs[k]? = some g → (regs.length : Int) = g.regs → F k 0 base regs
  keep : ∀ (f : Frm) (g : Fnc) (i : Ins) (y q : Int), u.funcs[f.k]? = some g → 0 ≤ f.pos → g.code[f.pos.toNat]? = some i → (f.regs.length : Int) = g.regs → F f.k f.pos f.base f.regs → Tells i f.base f y q → F f.k q f.base (if 0 ≤ sets i then f.regs.set i.dst.toNat y else f.regs)
variable {u v : Uni} {F : Nat → Int → Int → List Int → Prop}
structure TopF (u : Uni) (F : Nat → Int → Int → List Int → Prop) (f : Frm) : Prop where
  here : ∃ g, u.funcs[f.k]? = some g ∧ RightF g ∧ 0 ≤ f.pos ∧ f.pos < g.code.length ∧ (f.regs.length : Int) = g.regs
  fact : F f.k f.pos f.base f.regs
def putD (d x : Int) (f : Frm) : Frm := if 0 ≤ d then { f with regs := f.regs.set d.toNat x } else f
def RestF (u : Uni) (F : Nat → Int → Int → List Int → Prop) : Int → List Frm → Prop
  | _, [] => True
  | d, f :: l => (∀ x, TopF u F (putD d x f)) ∧ RestF u F f.dst l
def StkF (u : Uni) (F : Nat → Int → Int → List Int → Prop) : List Frm → Prop
  | [] => True
  | f :: l => TopF u F f ∧ RestF u F f.dst l
def KeepF (u : Uni) (F : Nat → Int → Int → List Int → Prop) : Rsu ⊕ Sta → Prop
  | .inl _ => True
  | .inr s' => StkF u F s'.stack
/-- Each function may be; a call has as many registers as its function takes. -/
structure UniOk (u : Uni) : Prop where
  right : ∀ (k : Nat) (g : Fnc), u.funcs[k]? = some g → RightF g
  calls : ∀ (k : Nat) (g : Fnc) (i : Ins), u.funcs[k]? = some g → i ∈ g.code → i.kind = 8 → ∀ k' h, findN u.funcs i.text = some k' → u.funcs[k']? = some h → ((uses i).length : Int) = h.params
theorem TopF.went (hU : UniOk u) (hF : FactsOk u F) {f : Frm} (h : TopF u F f) {g : Fnc} {i : Ins} (hg : u.funcs[f.k]? = some g) (hi : g.code[f.pos.toNat]? = some i) {y q : Int} (ht : Tells i f.base f y q) : TopF u F (went f i y q) := by
  obtain ⟨g', hg', hR, h0, h1, hl⟩ := h.here
  rw [hg] at hg'
  injection hg' with hg'
  subst hg'
  have hin := closed_of hR f.pos ⟨h0, h1⟩ q (by rw [nexts_at hi]; exact ht.next)
  refine ⟨⟨g, hg, hR, hin.1, hin.2, ?_⟩, hF.keep f g i y q hg h0 hi hl h.fact ht⟩
  show (((if 0 ≤ sets i then f.regs.set i.dst.toNat y else f.regs) : List Int).length : Int) = g.regs
  split
  · rw [List.length_set]; exact hl
  · exact hl
theorem stepI_facts (hU : UniOk u) (hF : FactsOk u F) {f : Frm} (h : TopF u F f) {g : Fnc} {i : Ins} {rest : List Frm} {s : Sta} (hg : u.funcs[f.k]? = some g) (hi : g.code[f.pos.toNat]? = some i) (hrest : RestF u F f.dst rest) : KeepF u F (stepI u g i f rest s) := by
  have hR := (hU.right _ _ hg).all i (List.mem_of_getElem? hi)
  have hlo := hR.low
  have hhi := hR.high
  have hn : i.kind ≠ 11 → i.kind ≠ 12 → i.kind ≠ 13 → f.pos + 1 ∈ next i f.pos := by intro a b c; unfold next; rw [if_neg a, if_neg b, if_neg c]; simp
  have go : ∀ y q, Tells i f.base f y q → StkF u F (went f i y q :: rest) := fun y q ht => ⟨h.went hU hF hg hi ht, hrest⟩
  have any : ∀ y, i.kind ≠ 1 → i.kind ≠ 2 → i.kind ≠ 3 → i.kind ≠ 4 → i.kind ≠ 5 → i.kind ≠ 11 → i.kind ≠ 12 → i.kind ≠ 13 → Tells i f.base f y (f.pos + 1) := fun y a b c d e x z w => ⟨fun h => absurd h a, fun h => by omega, fun h => absurd h d, fun h => absurd h e, fun h => absurd h z, hn x z w⟩
  unfold stepI
  by_cases h1 : i.kind = 1
  · rw [if_pos h1]; exact go _ _ ⟨fun _ => rfl, fun _ => by omega, fun _ => by omega, fun _ => by omega, fun _ => by omega, hn (by omega) (by omega) (by omega)⟩
  rw [if_neg h1]
  by_cases h2 : i.kind = 2 ∨ i.kind = 3
  · rw [if_pos h2]
    by_cases hb : doB i.op (valB f i) = true
    · rw [if_pos hb]; exact go _ _ ⟨fun _ => by omega, fun _ => ⟨hb, rfl⟩, fun _ => by omega, fun _ => by omega, fun _ => by omega, hn (by omega) (by omega) (by omega)⟩
    · rw [if_neg hb]; trivial
  rw [if_neg h2]
  by_cases h4 : i.kind = 4
  · rw [if_pos h4]; exact go _ _ ⟨fun _ => by omega, fun _ => by omega, fun _ => rfl, fun _ => by omega, fun _ => by omega, hn (by omega) (by omega) (by omega)⟩
  rw [if_neg h4]
  by_cases h5 : i.kind = 5
  · rw [if_pos h5]; exact go _ _ ⟨fun _ => by omega, fun _ => by omega, fun _ => by omega, fun _ => rfl, fun _ => by omega, hn (by omega) (by omega) (by omega)⟩
  rw [if_neg h5]
  by_cases h6 : i.kind = 6 ∨ i.kind = 7
  · rw [if_pos h6]
    by_cases ha : 1 ≤ addr f i ∧ addr f i < 4096
    · rw [if_pos ha]
      by_cases hl : i.kind = 6
      · rw [if_pos hl]; exact go _ _ (any _ (by omega) (by omega) (by omega) (by omega) (by omega) (by omega) (by omega) (by omega))
      · rw [if_neg hl]; exact go _ _ (any _ (by omega) (by omega) (by omega) (by omega) (by omega) (by omega) (by omega) (by omega))
    · rw [if_neg ha]; trivial
  rw [if_neg h6]
  by_cases h8 : i.kind = 8
  · rw [if_pos h8]
    cases hk : findN u.funcs i.text with
    | none => trivial
    | some k =>
      simp only
      cases hh : u.funcs[k]? with
      | none => trivial
      | some h' =>
        simp only
        by_cases hb : f.base + g.frame + h'.frame > 4096
        · rw [if_pos hb]; trivial
        · rw [if_neg hb]
          have hc := hU.calls _ _ _ hg (List.mem_of_getElem? hi) h8 _ _ hk hh
          have hR' := hU.right _ _ hh
          have hp := hR'.params
          have hr := hR'.regs
          have hcd := hR'.code.1
          have hlen : ((((uses i).map (reg f) ++ List.replicate (h'.regs.toNat - (uses i).length) 0).length : Nat) : Int) = h'.regs := by
            simp only [List.length_append, List.length_map, List.length_replicate]; omega
          refine ⟨⟨⟨h', hh, hR', Int.le_refl _, by show (0 : Int) < (h'.code.length : Int); omega, hlen⟩, hF.first _ _ _ _ hh hlen⟩, fun x => ?_, hrest⟩
          have ht := h.went hU hF hg hi (any x (by omega) (by omega) (by omega) (by omega) (by omega) (by omega) (by omega) (by omega))
          have hd : sets i = i.dst := by unfold sets; rw [if_pos (by omega)]
          unfold Cd.went at ht
          rw [hd] at ht
          unfold putD
          by_cases hd0 : 0 ≤ i.dst
          · rw [if_pos hd0] at ht ⊢; exact ht
          · rw [if_neg hd0] at ht ⊢; exact ht
  rw [if_neg h8]
  by_cases h9 : i.kind = 9
  · rw [if_pos h9]
    cases s.inp <;> exact go _ _ (any _ (by omega) (by omega) (by omega) (by omega) (by omega) (by omega) (by omega) (by omega))
  rw [if_neg h9]
  by_cases h10 : i.kind = 10
  · rw [if_pos h10]; exact go _ _ (any _ (by omega) (by omega) (by omega) (by omega) (by omega) (by omega) (by omega) (by omega))
  rw [if_neg h10]
  by_cases h11 : i.kind = 11
  · rw [if_pos h11]; exact go _ _ ⟨fun _ => by omega, fun _ => by omega, fun _ => by omega, fun _ => by omega, fun _ => by omega, by unfold next; rw [if_pos h11]; simp⟩
  rw [if_neg h11]
  by_cases h12 : i.kind = 12
  · rw [if_pos h12]
    exact go _ _ ⟨fun _ => by omega, fun _ => by omega, fun _ => by omega, fun _ => by omega, fun _ => rfl, by unfold next; rw [if_neg h11, if_pos h12]; split <;> simp⟩
  rw [if_neg h12]
  cases rest with
  | nil => trivial
  | cons p ps =>
    obtain ⟨hw, hps⟩ := hrest
    have := hw (reg f i.a)
    have e : (putD f.dst (reg f i.a) p).dst = p.dst := by unfold putD; split <;> rfl
    show TopF u F (putD f.dst (reg f i.a) p) ∧ RestF u F (putD f.dst (reg f i.a) p).dst ps
    rw [e]
    exact ⟨this, hps⟩
/-- Two units alike but for instructions, which do the same where the facts hold. -/
structure SameBy (u v : Uni) (F : Nat → Int → Int → List Int → Prop) : Prop where
  top : v.top = u.top
  globals : v.globals = u.globals
  names : v.funcs.map (·.name) = u.funcs.map (·.name)
  shape : ∀ k : Nat, (v.funcs[k]?).map (fun h => (h.params, h.frame, h.regs, h.code.length)) = (u.funcs[k]?).map (fun h => (h.params, h.frame, h.regs, h.code.length))
  code : ∀ (f : Frm) (g h : Fnc) (i j : Ins) (rest : List Frm) (s : Sta), u.funcs[f.k]? = some g → v.funcs[f.k]? = some h → 0 ≤ f.pos → g.code[f.pos.toNat]? = some i → h.code[f.pos.toNat]? = some j → (f.regs.length : Int) = g.regs → F f.k f.pos f.base f.regs → stepI u g j f rest s = stepI u g i f rest s
theorem findN_map : ∀ (fs gs : List Fnc) (s : List UInt8), fs.map (·.name) = gs.map (·.name) → findN fs s = findN gs s
  | [], [], _, _ => rfl
  | [], _ :: _, _, h => by cases h
  | _ :: _, [], _, h => by cases h
  | f :: fs, g :: gs, s, h => by
    simp only [List.map_cons, List.cons.injEq] at h
    unfold findN
    rw [h.1, findN_map fs gs s h.2]
theorem shape_some (h : SameBy u v F) {k : Nat} {g : Fnc} (hg : u.funcs[k]? = some g) : ∃ g', v.funcs[k]? = some g' ∧ g'.params = g.params ∧ g'.frame = g.frame ∧ g'.regs = g.regs ∧ g'.code.length = g.code.length := by
  have := h.shape k
  rw [hg] at this
  cases hv : v.funcs[k]? with
  | none => rw [hv] at this; cases this
  | some g' =>
    rw [hv] at this
    simp only [Option.map_some, Option.some.injEq, Prod.mk.injEq] at this
    exact ⟨g', rfl, this.1, this.2.1, this.2.2.1, this.2.2.2⟩
theorem shape_none (h : SameBy u v F) {k : Nat} (hg : u.funcs[k]? = none) : v.funcs[k]? = none := by
  have := h.shape k
  rw [hg] at this
  cases hv : v.funcs[k]? with
  | none => rfl
  | some g' => rw [hv] at this; cases this
theorem stepI_other (h : SameBy u v F) {g g' : Fnc} {i : Ins} {f : Frm} {rest : List Frm} {s : Sta} (hf : g'.frame = g.frame) : stepI v g' i f rest s = stepI u g i f rest s := by
  unfold stepI
  rw [findN_map _ _ _ h.names, hf]
  cases hk : findN u.funcs i.text with
  | none => rfl
  | some k =>
    cases hu : u.funcs[k]? with
    | none => simp only [hu, shape_none h hu]
    | some b =>
      obtain ⟨a, ha, h1, h2, h3, h4⟩ := shape_some h hu
      simp only [hu, ha, h2, h3]
theorem runS_facts (hU : UniOk u) (hF : FactsOk u F) (h : SameBy u v F) : ∀ (n : Nat) (s : Sta), StkF u F s.stack → runS v n s = runS u n s
  | 0, _, _ => rfl
  | n + 1, s, hs => by
    have key : step v s = step u s ∧ KeepF u F (step u s) := by
      cases hst : s.stack with
      | nil => unfold step; rw [hst]; exact ⟨rfl, trivial⟩
      | cons f rest =>
        rw [hst] at hs
        obtain ⟨ht, hrest⟩ := hs
        obtain ⟨g, hg, hR, h0, h1, hl⟩ := ht.here
        obtain ⟨g', hg', e1, e2, e3, e4⟩ := shape_some h hg
        obtain ⟨i, hi⟩ : ∃ i, g.code[f.pos.toNat]? = some i := ⟨_, List.getElem?_eq_getElem (by omega)⟩
        obtain ⟨j, hj⟩ : ∃ j, g'.code[f.pos.toNat]? = some j := ⟨_, List.getElem?_eq_getElem (by omega)⟩
        have a1 : step u s = stepI u g i f rest s := by unfold step; rw [hst]; simp only [hg, hi]
        have a2 : step v s = stepI v g' j f rest s := by unfold step; rw [hst]; simp only [hg', hj]
        rw [a1, a2]
        exact ⟨(stepI_other h e2).trans (h.code f g g' i j rest s hg hg' h0 hi hj hl ht.fact), stepI_facts hU hF ht hg hi hrest⟩
    unfold runS
    rw [key.1]
    cases hs' : step u s with
    | inl r => rfl
    | inr s' =>
      have := key.2
      rw [hs'] at this
      exact runS_facts hU hF h n s' this
theorem runU_facts (hU : UniOk u) (hF : FactsOk u F) (h : SameBy u v F) (hr : rightU u = true) (hr' : rightU v = true) (inp : List UInt8) (fuel : Int) : runU v inp fuel = runU u inp fuel := by
  unfold runU
  rw [findN_map _ _ _ h.names]
  cases hm : findN u.funcs wMain with
  | none => rfl
  | some m =>
    simp only
    cases hg : u.funcs[m]? with
    | none => rw [shape_none h hg]
    | some g =>
      obtain ⟨g', hg', e1, e2, e3, e4⟩ := shape_some h hg
      have hR := hU.right _ _ hg
      have hp := hR.params
      have hrg := hR.regs
      have hcd := hR.code.1
      have e5 : mem0 v = mem0 u := by unfold mem0; rw [h.globals]
      rw [hg']
      simp only [hr, hr', e1, e2, e3, h.top, e5]
      by_cases hq : true = false ∨ g.params > 0
      · rw [if_pos hq, if_pos hq]
      · rw [if_neg hq, if_neg hq]
        by_cases hb : u.top + g.frame > 4096
        · rw [if_pos hb, if_pos hb]
        · rw [if_neg hb, if_neg hb]
          have hl : ((List.replicate g.regs.toNat (0 : Int)).length : Int) = g.regs := by rw [List.length_replicate]; omega
          refine runS_facts hU hF h _ _ (show TopF u F _ ∧ True from ⟨⟨⟨g, hg, hR, Int.le_refl _, by show (0 : Int) < (g.code.length : Int); omega, hl⟩, hF.first _ _ _ _ hg hl⟩, trivial⟩)
end Go.Proofs.Ytgnpbodhjmappaa.Cd
namespace Go.Proofs.Ytgnpbodhjmappaa.Cd
set_option linter.unusedVariables false

theorem funcsOk_iff' (fs : List Fnc) : ∀ (l : List Fnc) (j : Nat), funcsOk fs j l = true ↔ ∀ (k : Nat) (g : Fnc), l[k]? = some g → funcOk fs (j + k) g = true
  | [], j => by simp [funcsOk]
  | f :: l, j => by
    unfold funcsOk
    rw [Bool.and_eq_true, funcsOk_iff' fs l (j + 1)]
    constructor
    · rintro ⟨h1, h2⟩ k g hk
      cases k with
      | zero =>
        simp only [List.getElem?_cons_zero, Option.some.injEq] at hk
        subst hk
        exact h1
      | succ k =>
        have := h2 k g (by simpa using hk)
        rw [show j + (k + 1) = j + 1 + k by omega]
        exact this
    · intro h
      refine ⟨h 0 f rfl, fun k g hk => ?_⟩
      have := h (k + 1) g (by simpa using hk)
      rw [show j + 1 + k = j + (k + 1) by omega]
      exact this
/-- Functions that stand for those of a unit: of the same names and parameters, that may be, and call nothing else. -/
structure Stands (u : Uni) (fs : List Fnc) : Prop where
  len : fs.length = u.funcs.length
  heads : ∀ (k : Nat) (g h : Fnc), u.funcs[k]? = some g → fs[k]? = some h → h.name = g.name ∧ h.params = g.params ∧ RightF h
  calls : ∀ (k : Nat) (g h : Fnc) (j : Ins), u.funcs[k]? = some g → fs[k]? = some h → j ∈ h.code → j.kind = 8 → ∃ (i : Ins) (k' : Nat) (g' : Fnc), u.funcs[k']? = some g' ∧ i ∈ g'.code ∧ i.kind = 8 ∧ i.text = j.text ∧ i.n = j.n
theorem Stands.names {u : Uni} {fs : List Fnc} (h : Stands u fs) : fs.map (·.name) = u.funcs.map (·.name) := by
  apply List.ext_getElem?
  intro k
  rw [List.getElem?_map, List.getElem?_map]
  cases hg : u.funcs[k]? with
  | none =>
    have : fs[k]? = none := by rw [List.getElem?_eq_none_iff] at hg ⊢; rw [h.len]; exact hg
    rw [this]
  | some g =>
    obtain ⟨x, hx⟩ : ∃ x, fs[k]? = some x := ⟨_, List.getElem?_eq_getElem (by rw [h.len]; exact (List.getElem?_eq_some_iff.1 hg).1)⟩
    rw [hx]
    simp only [Option.map_some, Option.some.injEq]
    exact (h.heads k g x hg hx).1
theorem callOk_stands {u : Uni} {fs : List Fnc} (h : Stands u fs) {i j : Ins} (hk : i.kind = 8) (hj : j.kind = 8) (ht : i.text = j.text) (hn : i.n = j.n) (hc : callOk u.funcs i = true) : callOk fs j = true := by
  unfold callOk at hc ⊢
  rw [if_pos hk] at hc
  rw [if_pos hj, findN_map _ _ _ h.names, ← ht, ← hn]
  cases hf : findN u.funcs i.text with
  | none => rw [hf] at hc; simp at hc
  | some k =>
    rw [hf] at hc
    simp only at hc ⊢
    cases hg : u.funcs[k]? with
    | none => rw [hg] at hc; simp at hc
    | some g =>
      rw [hg] at hc
      obtain ⟨x, hx⟩ : ∃ x, fs[k]? = some x := ⟨_, List.getElem?_eq_getElem (by rw [h.len]; exact (List.getElem?_eq_some_iff.1 hg).1)⟩
      rw [hx]
      simp only at hc ⊢
      rw [(h.heads k g x hg hx).2.1]
      exact hc
theorem rightU_stands {u : Uni} {fs : List Fnc} (h : Stands u fs) (hr : rightU u = true) : rightU { u with funcs := fs } = true := by
  unfold rightU at hr ⊢
  simp only [Bool.and_eq_true] at hr ⊢
  obtain ⟨⟨⟨⟨h1, h2⟩, h3⟩, h4⟩, h5⟩ := hr
  refine ⟨⟨⟨⟨by rw [h.len]; exact h1, h2⟩, h3⟩, h4⟩, ?_⟩
  rw [funcsOk_iff'] at h5 ⊢
  have hall : ∀ (k' : Nat) (g' : Fnc) (i : Ins), u.funcs[k']? = some g' → i ∈ g'.code → callOk u.funcs i = true := by
    intro k' g' i hg' hi
    have := h5 k' g' hg'
    unfold funcOk at this
    rw [Bool.and_eq_true, Bool.and_eq_true, List.all_eq_true] at this
    exact this.2 i hi
  intro k x hx
  have hkl : k < u.funcs.length := by rw [← h.len]; exact (List.getElem?_eq_some_iff.1 hx).1
  obtain ⟨g, hg⟩ : ∃ g, u.funcs[k]? = some g := ⟨_, List.getElem?_eq_getElem hkl⟩
  have hf := h5 k g hg
  unfold funcOk at hf ⊢
  rw [Bool.and_eq_true, Bool.and_eq_true] at hf ⊢
  obtain ⟨e1, e2, e3⟩ := h.heads k g x hg hx
  refine ⟨⟨rightF_iff.2 e3, ?_⟩, ?_⟩
  · rw [e1, findN_map _ _ _ h.names]; exact hf.1.2
  · rw [List.all_eq_true]
    intro j hj
    by_cases h8 : j.kind = 8
    · obtain ⟨i, k', g', hg', hi, hik, ht, hn⟩ := h.calls k g x j hg hx hj h8
      exact callOk_stands h hik h8 ht hn (hall k' g' i hg' hi)
    · unfold callOk
      rw [if_neg h8]
/-- What may be said of the functions of a unit that may be. -/
theorem UniOk.of {u : Uni} (hr : rightU u = true) : UniOk u := by
  unfold rightU at hr
  simp only [Bool.and_eq_true] at hr
  have h5 := hr.2
  rw [funcsOk_iff'] at h5
  have hall : ∀ (k : Nat) (g : Fnc), u.funcs[k]? = some g → RightF g ∧ g.code.all (callOk u.funcs) = true := fun k g hg => by
    have := h5 k g hg
    unfold funcOk at this
    rw [Bool.and_eq_true, Bool.and_eq_true] at this
    exact ⟨rightF_iff.1 this.1.1, this.2⟩
  refine ⟨fun k g hg => (hall k g hg).1, fun k g i hg hi h8 k' h hf hh => ?_⟩
  obtain ⟨hR, hC⟩ := hall k g hg
  have hri := hR.all i hi
  rw [List.all_eq_true] at hC
  have hc := hC i hi
  unfold callOk at hc
  rw [if_pos h8, hf] at hc
  simp only [hh, decide_eq_true_eq] at hc
  have hn := hri.n
  unfold nOk at hn
  rw [if_neg (by omega), if_neg (by omega), if_pos h8] at hn
  simp only [Bool.and_eq_true, decide_eq_true_eq] at hn
  have : (uses i).length = i.n.toNat := by unfold uses readsA readsB; simp [h8, Ins.args]; omega
  rw [this, hc]
  omega
end Go.Proofs.Ytgnpbodhjmappaa.Cd
namespace Go.Proofs.Ytgnpbodhjmappaa.Cd
set_option linter.unusedVariables false

/-- A machine: a step, or an end; what is let out so far. -/
structure Sys where
  St : Type
  step : St → Rsu ⊕ St
  out : St → List UInt8
  on : ∀ s s', step s = .inr s' → out s <+: out s'
  ends : ∀ s r, step s = .inl r → out s <+: r.out
namespace Sys
variable (M : Sys)
def run : Nat → M.St → Rsu
  | 0, s => ⟨4, 0, M.out s⟩
  | n + 1, s => match M.step s with
    | .inl r => r
    | .inr s' => run n s'
/-- So many steps, or the end. -/
def adv : Nat → M.St → Rsu ⊕ M.St
  | 0, s => .inr s
  | n + 1, s => match M.step s with
    | .inl r => .inl r
    | .inr s' => adv n s'
theorem run_succ (n : Nat) (s : M.St) : M.run (n + 1) s = match M.step s with | .inl r => r | .inr s' => M.run n s' := rfl
theorem adv_succ (n : Nat) (s : M.St) : M.adv (n + 1) s = match M.step s with | .inl r => .inl r | .inr s' => M.adv n s' := rfl
def outOf : Rsu ⊕ M.St → List UInt8
  | .inl r => r.out
  | .inr t => M.out t
theorem adv_add : ∀ (k n : Nat) (s : M.St), M.adv (k + n) s = match M.adv k s with | .inl r => .inl r | .inr t => M.adv n t
  | 0, n, s => by rw [Nat.zero_add]; rfl
  | k + 1, n, s => by
    rw [show k + 1 + n = (k + n) + 1 by omega, adv_succ, adv_succ]
    cases h : M.step s with
    | inl r => rfl
    | inr s' => exact adv_add k n s'
theorem run_adv : ∀ (k n : Nat) (s : M.St), M.run (k + n) s = match M.adv k s with | .inl r => r | .inr t => M.run n t
  | 0, n, s => by rw [Nat.zero_add]; rfl
  | k + 1, n, s => by
    rw [show k + 1 + n = (k + n) + 1 by omega, run_succ, adv_succ]
    cases h : M.step s with
    | inl r => rfl
    | inr s' => exact run_adv k n s'
theorem run_out : ∀ (n : Nat) (s : M.St), M.out s <+: (M.run n s).out
  | 0, s => List.prefix_refl _
  | n + 1, s => by
    unfold run
    cases h : M.step s with
    | inl r => exact M.ends s r h
    | inr s' => exact (M.on s s' h).trans (run_out n s')
/-- Fewer steps than k: what is let out is a beginning of what is let out then; the run is spent, or at its end. -/
theorem run_few : ∀ (k n : Nat) (s : M.St), n ≤ k → (M.run n s).out <+: M.outOf (M.adv k s) ∧ ((M.run n s).fin = 4 ∨ M.adv k s = .inl (M.run n s))
  | k, 0, s, _ => by
    refine ⟨?_, .inl rfl⟩
    show M.out s <+: _
    induction k generalizing s with
    | zero => exact List.prefix_refl _
    | succ k ih =>
      unfold adv
      cases h : M.step s with
      | inl r => exact M.ends s r h
      | inr s' => exact (M.on s s' h).trans (ih s' (by omega))
  | 0, n + 1, s, h => by omega
  | k + 1, n + 1, s, h => by
    unfold run adv
    cases hs : M.step s with
    | inl r => exact ⟨List.prefix_refl _, .inr rfl⟩
    | inr s' => exact run_few k n s' (by omega)
end Sys
/-- Where neither is spent both are the same; else one output is a beginning of the other one. If E, the second one may be full: its output is a beginning then. -/
structure AlongE (E : Prop) (x y : Rsu) : Prop where
  both : x.fin ≠ 4 → y.fin ≠ 4 → x = y ∨ (E ∧ y.fin = 3)
  left : x.fin ≠ 4 → y.out <+: x.out
  right : y.fin ≠ 4 → x.out <+: y.out ∨ (E ∧ y.fin = 3)
  any : x.out <+: y.out ∨ y.out <+: x.out
theorem AlongE.refl (E : Prop) (x : Rsu) : AlongE E x x := ⟨fun _ _ => .inl rfl, fun _ => List.prefix_refl _, fun _ => .inl (List.prefix_refl _), .inl (List.prefix_refl _)⟩
abbrev Along (x y : Rsu) : Prop := AlongE False x y
theorem AlongE.symm {x y : Rsu} (h : Along x y) : Along y x := ⟨fun a b => by rcases h.both b a with h | h; exact .inl h.symm; exact h.1.elim, fun a => by rcases h.right a with h | h; exact h; exact h.1.elim, fun a => .inl (h.left a), h.any.symm⟩
/-- How far both are. -/
def BothS {M N : Sys} (E : Prop) (R : M.St → N.St → Prop) : Rsu ⊕ M.St → Rsu ⊕ N.St → Prop
  | .inl r, .inl q => r = q ∨ (E ∧ q.fin = 3 ∧ q.out <+: r.out)
  | .inr s, .inr t => R s t
  | .inr s, .inl q => E ∧ q.fin = 3 ∧ q.out <+: M.out s
  | .inl _, .inr _ => False
theorem BothS.cases {M N : Sys} {E : Prop} {R : M.St → N.St → Prop} {x : Rsu ⊕ M.St} {y : Rsu ⊕ N.St} (h : BothS E R x y) :
    (∃ r, x = .inl r ∧ y = .inl r) ∨ (∃ s t, x = .inr s ∧ y = .inr t ∧ R s t) ∨ (E ∧ ∃ q, y = .inl q ∧ q.fin = 3 ∧ q.out <+: M.outOf x) := by
  cases x with
  | inl r =>
    cases y with
    | inl q =>
      rcases h with h | ⟨h1, h2, h3⟩
      · exact .inl ⟨r, rfl, by rw [h]⟩
      · exact .inr (.inr ⟨h1, q, rfl, h2, h3⟩)
    | inr t => exact h.elim
  | inr s =>
    cases y with
    | inl q => obtain ⟨h1, h2, h3⟩ := h; exact .inr (.inr ⟨h1, q, rfl, h2, h3⟩)
    | inr t => exact .inr (.inl ⟨s, t, rfl, rfl, h⟩)
theorem prefix_both {α : Type} {a b c : List α} (h : a <+: c) (k : b <+: c) : a <+: b ∨ b <+: a := by
  rcases Nat.le_total a.length b.length with h1 | h1
  · exact .inl (List.prefix_of_prefix_length_le h k h1)
  · exact .inr (List.prefix_of_prefix_length_le k h h1)
namespace Sys
/-- A run that comes to its end in k steps. -/
theorem run_ended (M : Sys) {k : Nat} {s : M.St} {r : Rsu} (h : M.adv k s = .inl r) (n : Nat) : (M.run n s).out <+: r.out ∧ ((M.run n s).fin ≠ 4 → M.run n s = r) := by
  by_cases hn : n ≤ k
  · obtain ⟨p1, p2⟩ := M.run_few k n s hn
    rw [h] at p1 p2
    exact ⟨p1, fun a => by have := p2.resolve_left a; injection this with this; exact this.symm⟩
  · have := M.run_adv k (n - k) s
    rw [show k + (n - k) = n by omega, h] at this
    simp only at this
    rw [this]
    exact ⟨List.prefix_refl _, fun _ => rfl⟩
/-- A run that goes on. -/
theorem run_on (M : Sys) {k : Nat} {s t : M.St} (h : M.adv k s = .inr t) (n : Nat) : (n < k ∧ (M.run n s).out <+: M.out t ∧ (M.run n s).fin = 4) ∨ (k ≤ n ∧ M.run n s = M.run (n - k) t) := by
  by_cases hn : n < k
  · obtain ⟨p1, p2⟩ := M.run_few k n s (by omega)
    rw [h] at p1 p2
    refine .inl ⟨hn, p1, ?_⟩
    rcases p2 with p2 | p2
    · exact p2
    · cases p2
  · have := M.run_adv k (n - k) s
    rw [show k + (n - k) = n by omega, h] at this
    exact .inr ⟨by omega, this⟩
theorem run_any (M : Sys) (k n : Nat) (s : M.St) : ((M.run n s).out <+: M.outOf (M.adv k s) ∨ M.outOf (M.adv k s) <+: (M.run n s).out) ∧ ((M.run n s).fin ≠ 4 → M.outOf (M.adv k s) <+: (M.run n s).out) := by
  cases h : M.adv k s with
  | inl r =>
    obtain ⟨h1, h2⟩ := M.run_ended h n
    exact ⟨.inl h1, fun a => by rw [h2 a]; exact List.prefix_refl _⟩
  | inr t =>
    rcases M.run_on h n with ⟨_, h1, h2⟩ | ⟨_, h1⟩
    · exact ⟨.inl h1, fun a => absurd h2 a⟩
    · rw [h1]; exact ⟨.inr (M.run_out _ t), fun _ => M.run_out _ t⟩
end Sys
/-- Machines that go along do the same. -/
theorem along {M N : Sys} {E : Prop} (R : M.St → N.St → Prop) (hout : ∀ s t, R s t → M.out s = N.out t)
    (hstep : ∀ s t, R s t → ∃ k j : Nat, 0 < k ∧ BothS E R (M.adv k s) (N.adv j t)) :
    ∀ (c n m : Nat) (s : M.St) (t : N.St), n + m ≤ c → R s t → AlongE E (M.run n s) (N.run m t) := by
  intro c
  induction c with
  | zero =>
    intro n m s t hc hR
    obtain rfl : n = 0 := by omega
    obtain rfl : m = 0 := by omega
    have e : M.run 0 s = N.run 0 t := by
      show (⟨4, 0, M.out s⟩ : Rsu) = ⟨4, 0, N.out t⟩
      rw [hout s t hR]
    rw [e]
    exact AlongE.refl _ _
  | succ c ih =>
    intro n m s t hc hR
    obtain ⟨k, j, hk, hb⟩ := hstep s t hR
    rcases hb.cases with ⟨r, h1, h2⟩ | ⟨s', t', h1, h2, hR'⟩ | ⟨hE, q, h2, hq, hp⟩
    · obtain ⟨a1, a2⟩ := M.run_ended h1 n
      obtain ⟨b1, b2⟩ := N.run_ended h2 m
      exact ⟨fun a b => .inl (by rw [a2 a, b2 b]), fun a => by rw [a2 a]; exact b1, fun b => .inl (by rw [b2 b]; exact a1), prefix_both a1 b1⟩
    · have ho := hout s' t' hR'
      rcases M.run_on h1 n with ⟨_, a1, a2⟩ | ⟨a0, a1⟩
      · rcases N.run_on h2 m with ⟨_, b1, b2⟩ | ⟨_, b1⟩
        · rw [ho] at a1
          exact ⟨fun a => absurd a2 a, fun a => absurd a2 a, fun b => absurd b2 b, prefix_both a1 b1⟩
        · have : (M.run n s).out <+: (N.run m t).out := by rw [b1]; rw [ho] at a1; exact a1.trans (N.run_out _ t')
          exact ⟨fun a => absurd a2 a, fun a => absurd a2 a, fun _ => .inl this, .inl this⟩
      · rcases N.run_on h2 m with ⟨_, b1, b2⟩ | ⟨b0, b1⟩
        · have : (N.run m t).out <+: (M.run n s).out := by rw [a1]; rw [← ho] at b1; exact b1.trans (M.run_out _ s')
          exact ⟨fun _ b => absurd b2 b, fun _ => this, fun b => absurd b2 b, .inr this⟩
        · rw [a1, b1]
          exact ih _ _ s' t' (by omega) hR'
    · obtain ⟨b1, b2⟩ := N.run_ended h2 m
      obtain ⟨a1, a2⟩ := M.run_any k n s
      have hl : (M.run n s).fin ≠ 4 → (N.run m t).out <+: (M.run n s).out := fun a => b1.trans (hp.trans (a2 a))
      refine ⟨fun _ b => .inr ⟨hE, by rw [b2 b]; exact hq⟩, hl, fun b => .inr ⟨hE, by rw [b2 b]; exact hq⟩, ?_⟩
      rcases a1 with a1 | a1
      · exact prefix_both a1 (b1.trans hp)
      · exact .inr (b1.trans (hp.trans a1))
/-- With C times the steps the second one is not spent either. -/
theorem along_bound {M N : Sys} {E : Prop} (R : M.St → N.St → Prop) (C : Nat) (hstep : ∀ s t, R s t → ∃ j : Nat, j ≤ C ∧ BothS E R (M.adv 1 s) (N.adv j t)) :
    ∀ (n m : Nat) (s : M.St) (t : N.St), R s t → C * n ≤ m → (M.run n s).fin ≠ 4 → (N.run m t).fin ≠ 4
  | 0, m, s, t, hR, hm, hn => absurd rfl hn
  | n + 1, m, s, t, hR, hm, hn => by
    obtain ⟨j, hj, hb⟩ := hstep s t hR
    rw [Nat.mul_succ] at hm
    have hend : ∀ q, N.adv j t = .inl q → N.run m t = q := fun q hq => by
      have := N.run_adv j (m - j) t
      rw [show j + (m - j) = m by omega, hq] at this
      exact this
    have hrun : M.run (n + 1) s = match M.adv 1 s with | .inl r => r | .inr t => M.run n t := by
      rw [show n + 1 = 1 + n by omega]; exact M.run_adv 1 n s
    rcases hb.cases with ⟨r, h1, h2⟩ | ⟨s', t', h1, h2, hR'⟩ | ⟨hE, q, h2, hq, hp⟩
    · rw [h1] at hrun
      rw [hend r h2]
      rw [hrun] at hn
      exact hn
    · rw [h1] at hrun
      rw [hrun] at hn
      have := N.run_adv j (m - j) t
      rw [show j + (m - j) = m by omega, h2] at this
      simp only at this
      rw [this]
      exact along_bound R C hstep n (m - j) s' t' hR' (by omega) hn
    · rw [hend q h2, hq]
      decide
/-- A unit's machine. -/
@[reducible] def sysU (u : Uni) : Sys where
  St := Sta
  step := step u
  out := Sta.out
  on := fun _ _ h => step_out h
  ends := fun _ _ h => by rw [show _ = _ from step_end h]; exact List.prefix_refl _
theorem sysU_run (u : Uni) : ∀ (n : Nat) (s : Sta), (sysU u).run n s = runS u n s
  | 0, s => rfl
  | n + 1, s => by
    refine (Sys.run_succ (sysU u) n s).trans ?_
    unfold runS
    have e : (sysU u).step s = step u s := rfl
    cases h : step u s with
    | inl r => rw [h] at e; rw [e]
    | inr s' => rw [h] at e; rw [e]; exact sysU_run u n s'
end Go.Proofs.Ytgnpbodhjmappaa.Cd
namespace Go.Proofs.Ytgnpbodhjmappaa.Cd
set_option maxRecDepth 100000
set_option linter.unusedVariables false
set_option linter.unusedSimpArgs false

theorem count_set : ∀ (K : List Bool) (p : Nat), K[p]? = some true → ((K.set p false).filter id).length + 1 = (K.filter id).length
  | [], p, h => by simp at h
  | b :: K, 0, h => by
    simp at h
    subst h
    simp
  | b :: K, p + 1, h => by
    have ih := count_set K p (by simpa using h)
    rw [List.set_cons_succ]
    cases b <;> simp at ih ⊢ <;> omega
/-- One comes to an end. -/
theorem exists_done {c : List Ins} : ∀ (n : Nat) (K : List Bool), GoneK c K → (K.filter id).length ≤ n → ∃ K', GoneK c K' ∧ DoneK c K' := by
  intro n
  induction n with
  | zero =>
    intro K h hn
    refine ⟨K, h, fun p i hp hi hpi => ?_⟩
    have := count_set K p hp
    omega
  | succ n ih =>
    intro K h hn
    by_cases hd : DoneK c K
    · exact ⟨K, h, hd⟩
    · have : ∃ (p : Nat) (i : Ins), K[p]? = some true ∧ c[p]? = some i ∧ pureI i = true ∧ ¬ BehN c (goneOf K) i.dst (p : Int) := by
        apply Classical.byContradiction
        intro hno
        exact hd (fun p i hp hi hpi => Classical.byContradiction fun hb => hno ⟨p, i, hp, hi, hpi, hb⟩)
      obtain ⟨p, i, h1, h2, h3, h4⟩ := this
      exact ih _ (.out h h1 h2 h3 h4) (by have := count_set K p h1; omega)
theorem sweepK_spec {f : Fnc} (h : RightF f) : GoneK f.code (sweepK f.code) ∧ DoneK f.code (sweepK f.code) := by
  obtain ⟨K, h1, h2⟩ := exists_done _ _ (gone_start (closed_of h) h.code.1) (Nat.le_refl _)
  rw [sweepK_eq h1 h2]
  exact ⟨h1, h2⟩
theorem sweepF_yes {f : Fnc} (h : RightF f) : sweepF f = keepF (sweepK f.code) f := sweepF_eq h (sweepK_spec h).1 (sweepK_spec h).2
theorem sweepF_right {f : Fnc} (h : RightF f) : RightF (sweepF f) := by
  rw [sweepF_yes h]
  obtain ⟨a, b⟩ := (sweepK_spec h).1.leave h
  exact keepF_right a b
theorem sweepF_heads (f : Fnc) : (sweepF f).name = f.name ∧ (sweepF f).params = f.params ∧ (sweepF f).regs = f.regs ∧ (sweepF f).frame = f.frame := by
  unfold sweepF
  split <;> exact ⟨rfl, rfl, rfl, rfl⟩
theorem leftC_back (K0 : List Bool) : ∀ (K : List Bool) (c : List Ins) (q : Nat) (j : Ins), (leftC K0 K c)[q]? = some j → ∃ (p : Nat) (i : Ins), K[p]? = some true ∧ c[p]? = some i ∧ j = moveI K0 i ∧ q = ((K.take p).filter id).length := by
  intro K
  induction K with
  | nil => intro c q j h; simp [leftC] at h
  | cons b K ih =>
    intro c q j h
    cases c with
    | nil => simp [leftC] at h
    | cons x c =>
      unfold leftC at h
      cases b with
      | true =>
        rw [if_pos rfl] at h
        cases q with
        | zero => exact ⟨0, x, rfl, rfl, by simpa using h.symm, by simp⟩
        | succ q =>
          obtain ⟨p, i, a1, a2, a3, a4⟩ := ih c q j (by simpa using h)
          exact ⟨p + 1, i, by simpa using a1, by simpa using a2, a3, by simp [a4]⟩
      | false =>
        rw [if_neg (by simp)] at h
        obtain ⟨p, i, a1, a2, a3, a4⟩ := ih c q j h
        exact ⟨p + 1, i, by simpa using a1, by simpa using a2, a3, by simp [a4]⟩
/-- All that is left is reached. -/
theorem sweepF_reach {f : Fnc} (h : RightF f) {q : Nat} (hq : q < (sweepF f).code.length) : Reach (sweepF f).code (-1) 0 (q : Int) := by
  obtain ⟨h1, h2⟩ := sweepK_spec h
  rw [sweepF_yes h] at hq ⊢
  obtain ⟨j, hj⟩ : ∃ j, (keepF (sweepK f.code) f).code[q]? = some j := ⟨_, List.getElem?_eq_getElem hq⟩
  obtain ⟨p, i, a1, a2, _, a4⟩ := leftC_back (sweepK f.code) (sweepK f.code) f.code q j hj
  have := left_reached h h1 (h1.kept a1)
  have e : nidx (sweepK f.code) (p : Int) = (q : Int) := by unfold nidx; rw [Int.toNat_natCast, a4]
  rw [e] at this
  exact this
/-- Nothing that is left is dead. -/
theorem sweepF_alive {f : Fnc} (h : RightF f) {q : Nat} {j : Ins} (hj : (sweepF f).code[q]? = some j) (hp : pureI j = true) : BehN (sweepF f).code none0 j.dst (q : Int) := by
  obtain ⟨h1, h2⟩ := sweepK_spec h
  rw [sweepF_yes h] at hj ⊢
  exact left_alive h h1 h2 hj hp
theorem deadF_sweep {f : Fnc} (h : RightF f) : deadF (sweepF f).code = [] := by
  rw [List.eq_nil_iff_forall_not_mem]
  intro y hy
  obtain ⟨p, i, h1, rfl, h2, h3⟩ := deadF_mem.1 hy
  have hb := sweepF_alive h h1 h2
  rw [beh_none (closed_of (sweepF_right h)) (by unfold Inside; have := (List.getElem?_eq_some_iff.1 h1).1; omega), h3] at hb
  cases hb
/-- Of which all is reached, and nothing dead, nothing goes. -/
theorem sweepF_stays {g : Fnc} (hR : RightF g) (hr : ∀ p : Nat, p < g.code.length → Reach g.code (-1) 0 (p : Int)) (hd : ∀ (p : Nat) (i : Ins), g.code[p]? = some i → pureI i = true → BehN g.code none0 i.dst (p : Int)) : sweepF g = g := by
  have hk := (sweepK_spec hR).1.stays hr hd
  rw [sweepF_yes hR, hk]
  have hm : ∀ i ∈ g.code, moveI (List.replicate g.code.length true) i = i := by
    intro i hi
    have hn : ∀ x : Int, 0 ≤ x → x < (g.code.length : Int) → nidx (List.replicate g.code.length true) x = x := by
      intro x h0 h1
      unfold nidx
      rw [List.take_replicate, filter_true, Nat.min_eq_left (by omega)]
      omega
    obtain ⟨p, hp⟩ := List.mem_iff_getElem?.1 hi
    have hin : Inside g.code (p : Int) := by unfold Inside; have := (List.getElem?_eq_some_iff.1 hp).1; omega
    have hnx := closed_of hR (p : Int) hin
    rw [nexts_at (i := i) (by simpa using hp)] at hnx
    unfold moveI
    have e1 : (if i.kind = 11 ∨ i.kind = 12 then nidx (List.replicate g.code.length true) i.dest else i.dest) = i.dest := by
      split
      · rename_i hk
        have := hnx i.dest (by
          unfold next
          rcases hk with hk | hk
          · rw [if_pos hk]; simp
          · rw [if_neg (by omega), if_pos hk]; simp)
        exact hn _ this.1 this.2
      · rfl
    have e2 : (if i.kind = 12 then nidx (List.replicate g.code.length true) i.els else i.els) = i.els := by
      split
      · rename_i hk
        have := hnx i.els (by unfold next; rw [if_neg (by omega), if_pos hk]; simp)
        exact hn _ this.1 this.2
      · rfl
    rw [e1, e2]
  have key : ∀ (K0 : List Bool) (c : List Ins), (∀ i ∈ c, moveI K0 i = i) → leftC K0 (List.replicate c.length true) c = c := by
    intro K0 c
    induction c with
    | nil => intro _; simp [leftC]
    | cons i c ih =>
      intro h
      rw [List.length_cons, List.replicate_succ]
      unfold leftC
      rw [if_pos rfl, ih (fun j hj => h j (List.mem_cons_of_mem _ hj)), h i (List.mem_cons_self ..)]
  unfold keepF
  rw [key _ _ hm]
theorem sweepF_again {f : Fnc} (h : RightF f) : sweepF (sweepF f) = sweepF f := sweepF_stays (sweepF_right h) (fun p hp => sweepF_reach h hp) (fun p i hi hp => sweepF_alive h hi hp)
theorem sweepF_len (f : Fnc) : (sweepF f).code.length ≤ f.code.length := by
  unfold sweepF
  split
  · rename_i h
    have hR := rightF_iff.1 h
    show (leftC _ _ f.code).length ≤ _
    rw [leftC_len _ _ _ (sweepK_spec hR).1.len]
    exact Nat.le_trans (List.length_filter_le _ _) (by rw [(sweepK_spec hR).1.len]; exact Nat.le_refl _)
  · exact Nat.le_refl _
theorem less_along {x y : Rsu} (h : (x.fin ≠ 4 → y = x) ∧ x.out <+: y.out) : Along x y :=
  ⟨fun a _ => .inl (h.1 a).symm, fun a => by rw [h.1 a]; exact List.prefix_refl _, fun _ => .inl h.2, .inl h.2⟩
/-- A unit whose functions are swept. -/
theorem sweep_unit {u : Uni} (hr : rightU u = true) : rightU { u with funcs := u.funcs.map sweepF } = true ∧ ∀ (inp : List UInt8) (fuel : Int), Along (runU u inp fuel) (runU { u with funcs := u.funcs.map sweepF } inp fuel) := by
  have hU := UniOk.of hr
  have hz : List.zipWith keepF (u.funcs.map (fun g => sweepK g.code)) u.funcs = u.funcs.map sweepF := by
    apply List.ext_getElem?
    intro k
    rw [List.getElem?_zipWith, List.getElem?_map, List.getElem?_map]
    cases hg : u.funcs[k]? with
    | none => rfl
    | some g => simp only [Option.map_some]; rw [sweepF_yes (hU.right k g hg)]
  have hst : Stands u (u.funcs.map sweepF) := by
    refine ⟨by simp, fun k g h hg hh => ?_, fun k g h j hg hh hj h8 => ?_⟩
    · rw [List.getElem?_map, hg] at hh
      injection hh with hh
      subst hh
      obtain ⟨a, b, _, _⟩ := sweepF_heads g
      exact ⟨a, b, sweepF_right (hU.right k g hg)⟩
    · rw [List.getElem?_map, hg] at hh
      injection hh with hh
      subst hh
      rw [sweepF_yes (hU.right k g hg)] at hj
      obtain ⟨p, i, _, hi, rfl⟩ := leftC_mem _ _ _ j hj
      exact ⟨i, k, g, hg, List.mem_of_getElem? hi, h8, rfl, rfl⟩
  have hr' := rightU_stands hst hr
  refine ⟨hr', fun inp fuel => ?_⟩
  have hA : AllR u (u.funcs.map (fun g => sweepK g.code)) (fun k => match u.funcs[k]? with | some g => Reach g.code (-1) 0 | none => fun _ => False) (fun k => match u.funcs[k]? with | some g => (fun p r => 0 ≤ r ∧ LiveN g.code (goneOf (sweepK g.code)) r p) | none => fun _ _ => False) := by
    refine ⟨by simp, fun k g K hg hK => ?_, hU.calls⟩
    rw [List.getElem?_map, hg] at hK
    injection hK with hK
    subst hK
    simp only [hg]
    exact ((sweepK_spec (hU.right k g hg)).1.leave (hU.right k g hg)).1
  have hk : keepU (u.funcs.map (fun g => sweepK g.code)) u = { u with funcs := u.funcs.map sweepF } := by
    unfold keepU
    rw [hz]
  have := runU_keep hA (by rw [hk]; exact hr') hr inp fuel
  rw [hk] at this
  exact less_along this
end Go.Proofs.Ytgnpbodhjmappaa.Cd
