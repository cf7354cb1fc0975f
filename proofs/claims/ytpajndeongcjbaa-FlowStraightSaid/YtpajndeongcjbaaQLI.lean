/-
  Runs with more fuel; runs that read nothing of their input.
  A unit whose functions have other instructions, that do the same where something holds of the registers, does what it did, with any fuel, on lists.
  A unit with other functions of the same names may be, on lists.
  Layer 11: functions that are folded, on lists: they may be, and folded again they stay.
-/
import Derived.Test.YtpajndeongcjbaaQLB
import Derived.Test.YtpajndeongcjbaaR9Spec
import Derived.Test.YtpajndeongcjbaaQLR
namespace Go.Proofs.Ytpajndeongcjbaa.Cd

/-- What a step lets out goes on. -/
def OutOk (s : Sta) : Rsu ⊕ Sta → Prop
  | .inl r => r.out = s.out
  | .inr s' => s.out <+: s'.out
theorem stepI_ok (u : Uni) (g : Fnc) (i : Ins) (f : Frm) (rest : List Frm) (s : Sta) : OutOk s (stepI u g i f rest s) := by
  have hp : s.out <+: s.out := List.prefix_refl _
  unfold stepI
  by_cases h1 : i.kind = 1
  · rw [if_pos h1]; exact hp
  rw [if_neg h1]
  by_cases h2 : i.kind = 2 ∨ i.kind = 3
  · rw [if_pos h2]
    by_cases hb : doB i.op (valB f i) = true
    · rw [if_pos hb]; exact hp
    · rw [if_neg hb]; rfl
  rw [if_neg h2]
  by_cases h4 : i.kind = 4
  · rw [if_pos h4]; exact hp
  rw [if_neg h4]
  by_cases h5 : i.kind = 5
  · rw [if_pos h5]; exact hp
  rw [if_neg h5]
  by_cases h6 : i.kind = 6 ∨ i.kind = 7
  · rw [if_pos h6]
    by_cases ha : 1 ≤ addr f i ∧ addr f i < 4096
    · rw [if_pos ha]
      by_cases hl : i.kind = 6
      · rw [if_pos hl]; exact hp
      · rw [if_neg hl]; exact hp
    · rw [if_neg ha]; rfl
  rw [if_neg h6]
  by_cases h8 : i.kind = 8
  · rw [if_pos h8]
    cases findN u.funcs i.text with
    | none => rfl
    | some k =>
      simp only
      cases u.funcs[k]? with
      | none => rfl
      | some h =>
        simp only
        by_cases hb : f.base + g.frame + h.frame > 4096
        · rw [if_pos hb]; rfl
        · rw [if_neg hb]; exact hp
  rw [if_neg h8]
  by_cases h9 : i.kind = 9
  · rw [if_pos h9]
    cases s.inp <;> exact hp
  rw [if_neg h9]
  by_cases h10 : i.kind = 10
  · rw [if_pos h10]; exact List.prefix_append _ _
  rw [if_neg h10]
  by_cases h11 : i.kind = 11
  · rw [if_pos h11]; exact hp
  rw [if_neg h11]
  by_cases h12 : i.kind = 12
  · rw [if_pos h12]; exact hp
  rw [if_neg h12]
  cases rest with
  | nil => rfl
  | cons p ps => exact hp
theorem stepI_out {u : Uni} {g : Fnc} {i : Ins} {f : Frm} {rest : List Frm} {s s' : Sta} (h : stepI u g i f rest s = .inr s') : s.out <+: s'.out := by
  have := stepI_ok u g i f rest s
  rw [h] at this
  exact this
theorem stepI_end {u : Uni} {g : Fnc} {i : Ins} {f : Frm} {rest : List Frm} {s : Sta} {r : Rsu} (h : stepI u g i f rest s = .inl r) : r.out = s.out := by
  have := stepI_ok u g i f rest s
  rw [h] at this
  exact this
theorem step_out {u : Uni} {s s' : Sta} (h : step u s = .inr s') : s.out <+: s'.out := by
  unfold step at h
  repeat' (first | split at h)
  all_goals first | (cases h) | exact stepI_out h | skip
theorem step_end {u : Uni} {s : Sta} {r : Rsu} (h : step u s = .inl r) : r.out = s.out := by
  unfold step at h
  repeat' (first | split at h)
  all_goals first | (cases h; rfl) | exact stepI_end h | skip
theorem runS_out (u : Uni) : ∀ (n : Nat) (s : Sta), s.out <+: (runS u n s).out
  | 0, s => List.prefix_refl _
  | n + 1, s => by
    unfold runS
    cases h : step u s with
    | inl r => rw [show r.out = s.out from step_end h]; exact List.prefix_refl _
    | inr s' => exact (step_out h).trans (runS_out u n s')
/-- With more fuel a run that was not spent is the same. -/
theorem runS_more (u : Uni) : ∀ (n m : Nat) (s : Sta), n ≤ m → (runS u n s).fin ≠ 4 → runS u m s = runS u n s
  | 0, m, s, _, h => absurd rfl h
  | n + 1, 0, s, hm, _ => by omega
  | n + 1, m + 1, s, hm, h => by
    unfold runS at h ⊢
    cases hs : step u s with
    | inl r => rfl
    | inr s' => rw [hs] at h; exact runS_more u n m s' (by omega) h
/-- Whatever fuel: one output is a beginning of the other one. -/
theorem runS_prefix (u : Uni) : ∀ (n m : Nat) (s : Sta), n ≤ m → (runS u n s).out <+: (runS u m s).out
  | 0, m, s, _ => runS_out u m s
  | n + 1, 0, s, hm => by omega
  | n + 1, m + 1, s, hm => by
    unfold runS
    cases hs : step u s with
    | inl r => exact List.prefix_refl _
    | inr s' => exact runS_prefix u n m s' (by omega)
/-- The same run by another input. -/
def withInp (s : Sta) (inp : List UInt8) : Sta := { s with inp := inp }
def liftR (inp : List UInt8) : Rsu ⊕ Sta → Rsu ⊕ Sta
  | .inl r => .inl r
  | .inr s => .inr (withInp s inp)
theorem stepI_inp {u : Uni} {g : Fnc} {i : Ins} {f : Frm} {rest : List Frm} {s : Sta} (inp : List UInt8) (hk : i.kind ≠ 9) : stepI u g i f rest (withInp s inp) = liftR inp (stepI u g i f rest s) := by
  unfold stepI
  by_cases h1 : i.kind = 1
  · rw [if_pos h1, if_pos h1]; rfl
  rw [if_neg h1, if_neg h1]
  by_cases h2 : i.kind = 2 ∨ i.kind = 3
  · rw [if_pos h2, if_pos h2]
    by_cases hb : doB i.op (valB f i) = true
    · rw [if_pos hb, if_pos hb]; rfl
    · rw [if_neg hb, if_neg hb]; rfl
  rw [if_neg h2, if_neg h2]
  by_cases h4 : i.kind = 4
  · rw [if_pos h4, if_pos h4]; rfl
  rw [if_neg h4, if_neg h4]
  by_cases h5 : i.kind = 5
  · rw [if_pos h5, if_pos h5]; rfl
  rw [if_neg h5, if_neg h5]
  by_cases h6 : i.kind = 6 ∨ i.kind = 7
  · rw [if_pos h6, if_pos h6]
    by_cases ha : 1 ≤ addr f i ∧ addr f i < 4096
    · rw [if_pos ha, if_pos ha]
      by_cases hl : i.kind = 6
      · rw [if_pos hl, if_pos hl]; rfl
      · rw [if_neg hl, if_neg hl]; rfl
    · rw [if_neg ha, if_neg ha]; rfl
  rw [if_neg h6, if_neg h6]
  by_cases h8 : i.kind = 8
  · rw [if_pos h8, if_pos h8]
    cases findN u.funcs i.text with
    | none => rfl
    | some k =>
      simp only
      cases u.funcs[k]? with
      | none => rfl
      | some h =>
        simp only
        by_cases hb : f.base + g.frame + h.frame > 4096
        · rw [if_pos hb, if_pos hb]; rfl
        · rw [if_neg hb, if_neg hb]; rfl
  rw [if_neg h8, if_neg h8, if_neg hk, if_neg hk]
  by_cases h10 : i.kind = 10
  · rw [if_pos h10, if_pos h10]; rfl
  rw [if_neg h10, if_neg h10]
  by_cases h11 : i.kind = 11
  · rw [if_pos h11, if_pos h11]; rfl
  rw [if_neg h11, if_neg h11]
  by_cases h12 : i.kind = 12
  · rw [if_pos h12, if_pos h12]; rfl
  rw [if_neg h12, if_neg h12]
  cases rest <;> rfl
/-- No instruction of a unit reads input. -/
def NoGetc (u : Uni) : Prop := ∀ f ∈ u.funcs, ∀ i ∈ f.code, i.kind ≠ 9
theorem step_inp {u : Uni} (hu : NoGetc u) (s : Sta) (inp : List UInt8) : step u (withInp s inp) = liftR inp (step u s) := by
  unfold step
  simp only [withInp]
  cases s.stack with
  | nil => rfl
  | cons f rest =>
    simp only
    cases hf : u.funcs[f.k]? with
    | none => rfl
    | some g =>
      simp only
      cases hi : g.code[f.pos.toNat]? with
      | none => rfl
      | some i => exact stepI_inp inp (hu g (List.mem_of_getElem? hf) i (List.mem_of_getElem? hi))
theorem runS_inp {u : Uni} (hu : NoGetc u) (inp : List UInt8) : ∀ (n : Nat) (s : Sta), runS u n (withInp s inp) = runS u n s
  | 0, s => rfl
  | n + 1, s => by
    unfold runS
    rw [step_inp hu]
    cases step u s with
    | inl r => rfl
    | inr s' => exact runS_inp hu inp n s'
/-- A run is of no use at all, or begins as it begins. -/
theorem runU_form (u : Uni) : (∃ r : Rsu, ∀ inp fuel, runU u inp fuel = r) ∨ ∃ st : Sta, ∀ inp fuel, runU u inp fuel = runS u (fuelOf fuel) (withInp st inp) := by
  unfold runU
  cases findN u.funcs wMain with
  | none => exact .inl ⟨_, fun _ _ => rfl⟩
  | some m =>
    simp only
    cases u.funcs[m]? with
    | none => exact .inl ⟨_, fun _ _ => rfl⟩
    | some g =>
      simp only
      by_cases h1 : rightU u = false ∨ g.params > 0
      · exact .inl ⟨⟨4, 0, []⟩, fun _ _ => if_pos h1⟩
      · by_cases h2 : u.top + g.frame > 4096
        · exact .inl ⟨⟨3, 0, []⟩, fun _ _ => by rw [if_neg h1, if_pos h2]⟩
        · exact .inr ⟨⟨mem0 u, [], [], [⟨m, u.top, 0, -1, List.replicate g.regs.toNat 0⟩]⟩, fun _ _ => by rw [if_neg h1, if_neg h2]; rfl⟩
theorem runU_inp {u : Uni} (hu : NoGetc u) (a b : List UInt8) (fuel : Int) : runU u a fuel = runU u b fuel := by
  rcases runU_form u with ⟨r, h⟩ | ⟨st, h⟩
  · rw [h, h]
  · rw [h, h, runS_inp hu, runS_inp hu]
theorem fuelOf_le {a b : Int} (h : a ≤ b) : fuelOf a ≤ fuelOf b := by unfold fuelOf; split <;> split <;> omega
theorem runU_more (u : Uni) (inp : List UInt8) {a b : Int} (h : a ≤ b) (hf : (runU u inp a).fin ≠ 4) : runU u inp b = runU u inp a := by
  rcases runU_form u with ⟨r, h1⟩ | ⟨st, h1⟩
  · rw [h1, h1]
  · rw [h1] at hf ⊢
    rw [h1]
    exact runS_more u _ _ _ (fuelOf_le h) hf
theorem runU_prefix (u : Uni) (inp : List UInt8) {a b : Int} (h : a ≤ b) : (runU u inp a).out <+: (runU u inp b).out := by
  rcases runU_form u with ⟨r, h1⟩ | ⟨st, h1⟩
  · rw [h1, h1]; exact List.prefix_refl _
  · rw [h1, h1]; exact runS_prefix u _ _ _ (fuelOf_le h)
end Go.Proofs.Ytpajndeongcjbaa.Cd
namespace Go.Proofs.Ytpajndeongcjbaa.Cd
set_option linter.unusedVariables false

/-- What an instruction puts into its register, and where it goes on. -/
structure Tells (i : Ins) (base : Int) (f : Frm) (y q : Int) : Prop where
  const : i.kind = 1 → y = i.n
  op : i.kind = 2 ∨ i.kind = 3 → doB i.op (valB f i) = true ∧ y = doV i.op (reg f i.a) (valB f i)
  copy : i.kind = 4 → y = reg f i.a
  frame : i.kind = 5 → y = base + i.n
  branch : i.kind = 12 → q = if reg f i.a ≠ 0 then i.dest else i.els
  next : q ∈ next i f.pos
/-- What holds of the registers, of each function, ahead of each instruction. -/
structure FactsOk (u : Uni) (F : Nat → Int → Int → List Int → Prop) : Prop where
  first : ∀ (k : Nat) (g : Fnc) (base : Int) (regs : List Int), u.funcs[k]? = some g → (regs.length : Int) = g.regs → F k 0 base regs
  keep : ∀ (f : Frm) (g : Fnc) (i : Ins) (y q : Int), u.funcs[f.k]? = some g → 0 ≤ f.pos → g.code[f.pos.toNat]? = some i → (f.regs.length : Int) = g.regs → F f.k f.pos f.base f.regs → Tells i f.base f y q → F f.k q f.base (if 0 ≤ sets i then f.regs.set i.dst.toNat y else f.regs)
variable {u v : Uni} {F : Nat → Int → Int → List Int → Prop}
structure TopF (u : Uni) (F : Nat → Int → Int → List Int → Prop) (f : Frm) : Prop where
  here : ∃ g, u.funcs[f.k]? = some g ∧ RightF g ∧ 0 ≤ f.pos ∧ f.pos < g.code.length ∧ (f.regs.length : Int) = g.regs
  fact : F f.k f.pos f.base f.regs
def putD (d x : Int) (f : Frm) : Frm := if 0 ≤ d then { f with regs := f.regs.set d.toNat x } else f
def RestF (u : Uni) (F : Nat → Int → Int → List Int → Prop) : Int → List Frm → Prop
  | _, [] => True
  | d, f :: l => (∀ x, TopF u F (putD d x f)) ∧ RestF u F f.dst l
def StkF (u : Uni) (F : Nat → Int → Int → List Int → Prop) : List Frm → Prop
  | [] => True
  | f :: l => TopF u F f ∧ RestF u F f.dst l
def KeepF (u : Uni) (F : Nat → Int → Int → List Int → Prop) : Rsu ⊕ Sta → Prop
  | .inl _ => True
  | .inr s' => StkF u F s'.stack
/-- Each function may be; a call has as many registers as its function takes. -/
structure UniOk (u : Uni) : Prop where
  right : ∀ (k : Nat) (g : Fnc), u.funcs[k]? = some g → RightF g
  calls : ∀ (k : Nat) (g : Fnc) (i : Ins), u.funcs[k]? = some g → i ∈ g.code → i.kind = 8 → ∀ k' h, findN u.funcs i.text = some k' → u.funcs[k']? = some h → ((uses i).length : Int) = h.params
theorem TopF.went (hU : UniOk u) (hF : FactsOk u F) {f : Frm} (h : TopF u F f) {g : Fnc} {i : Ins} (hg : u.funcs[f.k]? = some g) (hi : g.code[f.pos.toNat]? = some i) {y q : Int} (ht : Tells i f.base f y q) : TopF u F (went f i y q) := by
  obtain ⟨g', hg', hR, h0, h1, hl⟩ := h.here
  rw [hg] at hg'
  injection hg' with hg'
  subst hg'
  have hin := closed_of hR f.pos ⟨h0, h1⟩ q (by rw [nexts_at hi]; exact ht.next)
  refine ⟨⟨g, hg, hR, hin.1, hin.2, ?_⟩, hF.keep f g i y q hg h0 hi hl h.fact ht⟩
  show (((if 0 ≤ sets i then f.regs.set i.dst.toNat y else f.regs) : List Int).length : Int) = g.regs
  split
  · rw [List.length_set]; exact hl
  · exact hl
theorem stepI_facts (hU : UniOk u) (hF : FactsOk u F) {f : Frm} (h : TopF u F f) {g : Fnc} {i : Ins} {rest : List Frm} {s : Sta} (hg : u.funcs[f.k]? = some g) (hi : g.code[f.pos.toNat]? = some i) (hrest : RestF u F f.dst rest) : KeepF u F (stepI u g i f rest s) := by
  have hR := (hU.right _ _ hg).all i (List.mem_of_getElem? hi)
  have hlo := hR.low
  have hhi := hR.high
  have hn : i.kind ≠ 11 → i.kind ≠ 12 → i.kind ≠ 13 → f.pos + 1 ∈ next i f.pos := by intro a b c; unfold next; rw [if_neg a, if_neg b, if_neg c]; simp
  have go : ∀ y q, Tells i f.base f y q → StkF u F (went f i y q :: rest) := fun y q ht => ⟨h.went hU hF hg hi ht, hrest⟩
  have any : ∀ y, i.kind ≠ 1 → i.kind ≠ 2 → i.kind ≠ 3 → i.kind ≠ 4 → i.kind ≠ 5 → i.kind ≠ 11 → i.kind ≠ 12 → i.kind ≠ 13 → Tells i f.base f y (f.pos + 1) := fun y a b c d e x z w => ⟨fun h => absurd h a, fun h => by omega, fun h => absurd h d, fun h => absurd h e, fun h => absurd h z, hn x z w⟩
  unfold stepI
  by_cases h1 : i.kind = 1
  · rw [if_pos h1]; exact go _ _ ⟨fun _ => rfl, fun _ => by omega, fun _ => by omega, fun _ => by omega, fun _ => by omega, hn (by omega) (by omega) (by omega)⟩
  rw [if_neg h1]
  by_cases h2 : i.kind = 2 ∨ i.kind = 3
  · rw [if_pos h2]
    by_cases hb : doB i.op (valB f i) = true
    · rw [if_pos hb]; exact go _ _ ⟨fun _ => by omega, fun _ => ⟨hb, rfl⟩, fun _ => by omega, fun _ => by omega, fun _ => by omega, hn (by omega) (by omega) (by omega)⟩
    · rw [if_neg hb]; trivial
  rw [if_neg h2]
  by_cases h4 : i.kind = 4
  · rw [if_pos h4]; exact go _ _ ⟨fun _ => by omega, fun _ => by omega, fun _ => rfl, fun _ => by omega, fun _ => by omega, hn (by omega) (by omega) (by omega)⟩
  rw [if_neg h4]
  by_cases h5 : i.kind = 5
  · rw [if_pos h5]; exact go _ _ ⟨fun _ => by omega, fun _ => by omega, fun _ => by omega, fun _ => rfl, fun _ => by omega, hn (by omega) (by omega) (by omega)⟩
  rw [if_neg h5]
  by_cases h6 : i.kind = 6 ∨ i.kind = 7
  · rw [if_pos h6]
    by_cases ha : 1 ≤ addr f i ∧ addr f i < 4096
    · rw [if_pos ha]
      by_cases hl : i.kind = 6
      · rw [if_pos hl]; exact go _ _ (any _ (by omega) (by omega) (by omega) (by omega) (by omega) (by omega) (by omega) (by omega))
      · rw [if_neg hl]; exact go _ _ (any _ (by omega) (by omega) (by omega) (by omega) (by omega) (by omega) (by omega) (by omega))
    · rw [if_neg ha]; trivial
  rw [if_neg h6]
  by_cases h8 : i.kind = 8
  · rw [if_pos h8]
    cases hk : findN u.funcs i.text with
    | none => trivial
    | some k =>
      simp only
      cases hh : u.funcs[k]? with
      | none => trivial
      | some h' =>
        simp only
        by_cases hb : f.base + g.frame + h'.frame > 4096
        · rw [if_pos hb]; trivial
        · rw [if_neg hb]
          have hc := hU.calls _ _ _ hg (List.mem_of_getElem? hi) h8 _ _ hk hh
          have hR' := hU.right _ _ hh
          have hp := hR'.params
          have hr := hR'.regs
          have hcd := hR'.code.1
          have hlen : ((((uses i).map (reg f) ++ List.replicate (h'.regs.toNat - (uses i).length) 0).length : Nat) : Int) = h'.regs := by
            simp only [List.length_append, List.length_map, List.length_replicate]; omega
          refine ⟨⟨⟨h', hh, hR', Int.le_refl _, by show (0 : Int) < (h'.code.length : Int); omega, hlen⟩, hF.first _ _ _ _ hh hlen⟩, fun x => ?_, hrest⟩
          have ht := h.went hU hF hg hi (any x (by omega) (by omega) (by omega) (by omega) (by omega) (by omega) (by omega) (by omega))
          have hd : sets i = i.dst := by unfold sets; rw [if_pos (by omega)]
          unfold Cd.went at ht
          rw [hd] at ht
          unfold putD
          by_cases hd0 : 0 ≤ i.dst
          · rw [if_pos hd0] at ht ⊢; exact ht
          · rw [if_neg hd0] at ht ⊢; exact ht
  rw [if_neg h8]
  by_cases h9 : i.kind = 9
  · rw [if_pos h9]
    cases s.inp <;> exact go _ _ (any _ (by omega) (by omega) (by omega) (by omega) (by omega) (by omega) (by omega) (by omega))
  rw [if_neg h9]
  by_cases h10 : i.kind = 10
  · rw [if_pos h10]; exact go _ _ (any _ (by omega) (by omega) (by omega) (by omega) (by omega) (by omega) (by omega) (by omega))
  rw [if_neg h10]
  by_cases h11 : i.kind = 11
  · rw [if_pos h11]; exact go _ _ ⟨fun _ => by omega, fun _ => by omega, fun _ => by omega, fun _ => by omega, fun _ => by omega, by unfold next; rw [if_pos h11]; simp⟩
  rw [if_neg h11]
  by_cases h12 : i.kind = 12
  · rw [if_pos h12]
    exact go _ _ ⟨fun _ => by omega, fun _ => by omega, fun _ => by omega, fun _ => by omega, fun _ => rfl, by unfold next; rw [if_neg h11, if_pos h12]; split <;> simp⟩
  rw [if_neg h12]
  cases rest with
  | nil => trivial
  | cons p ps =>
    obtain ⟨hw, hps⟩ := hrest
    have := hw (reg f i.a)
    have e : (putD f.dst (reg f i.a) p).dst = p.dst := by unfold putD; split <;> rfl
    show TopF u F (putD f.dst (reg f i.a) p) ∧ RestF u F (putD f.dst (reg f i.a) p).dst ps
    rw [e]
    exact ⟨this, hps⟩
/-- Two units alike but for instructions, which do the same where the facts hold. -/
structure SameBy (u v : Uni) (F : Nat → Int → Int → List Int → Prop) : Prop where
  top : v.top = u.top
  globals : v.globals = u.globals
  names : v.funcs.map (·.name) = u.funcs.map (·.name)
  shape : ∀ k : Nat, (v.funcs[k]?).map (fun h => (h.params, h.frame, h.regs, h.code.length)) = (u.funcs[k]?).map (fun h => (h.params, h.frame, h.regs, h.code.length))
  code : ∀ (f : Frm) (g h : Fnc) (i j : Ins) (rest : List Frm) (s : Sta), u.funcs[f.k]? = some g → v.funcs[f.k]? = some h → 0 ≤ f.pos → g.code[f.pos.toNat]? = some i → h.code[f.pos.toNat]? = some j → (f.regs.length : Int) = g.regs → F f.k f.pos f.base f.regs → stepI u g j f rest s = stepI u g i f rest s
theorem findN_map : ∀ (fs gs : List Fnc) (s : List UInt8), fs.map (·.name) = gs.map (·.name) → findN fs s = findN gs s
  | [], [], _, _ => rfl
  | [], _ :: _, _, h => by cases h
  | _ :: _, [], _, h => by cases h
  | f :: fs, g :: gs, s, h => by
    simp only [List.map_cons, List.cons.injEq] at h
    unfold findN
    rw [h.1, findN_map fs gs s h.2]
theorem shape_some (h : SameBy u v F) {k : Nat} {g : Fnc} (hg : u.funcs[k]? = some g) : ∃ g', v.funcs[k]? = some g' ∧ g'.params = g.params ∧ g'.frame = g.frame ∧ g'.regs = g.regs ∧ g'.code.length = g.code.length := by
  have := h.shape k
  rw [hg] at this
  cases hv : v.funcs[k]? with
  | none => rw [hv] at this; cases this
  | some g' =>
    rw [hv] at this
    simp only [Option.map_some, Option.some.injEq, Prod.mk.injEq] at this
    exact ⟨g', rfl, this.1, this.2.1, this.2.2.1, this.2.2.2⟩
theorem shape_none (h : SameBy u v F) {k : Nat} (hg : u.funcs[k]? = none) : v.funcs[k]? = none := by
  have := h.shape k
  rw [hg] at this
  cases hv : v.funcs[k]? with
  | none => rfl
  | some g' => rw [hv] at this; cases this
theorem stepI_other (h : SameBy u v F) {g g' : Fnc} {i : Ins} {f : Frm} {rest : List Frm} {s : Sta} (hf : g'.frame = g.frame) : stepI v g' i f rest s = stepI u g i f rest s := by
  unfold stepI
  rw [findN_map _ _ _ h.names, hf]
  cases hk : findN u.funcs i.text with
  | none => rfl
  | some k =>
    cases hu : u.funcs[k]? with
    | none => simp only [hu, shape_none h hu]
    | some b =>
      obtain ⟨a, ha, h1, h2, h3, h4⟩ := shape_some h hu
      simp only [hu, ha, h2, h3]
theorem runS_facts (hU : UniOk u) (hF : FactsOk u F) (h : SameBy u v F) : ∀ (n : Nat) (s : Sta), StkF u F s.stack → runS v n s = runS u n s
  | 0, _, _ => rfl
  | n + 1, s, hs => by
    have key : step v s = step u s ∧ KeepF u F (step u s) := by
      cases hst : s.stack with
      | nil => unfold step; rw [hst]; exact ⟨rfl, trivial⟩
      | cons f rest =>
        rw [hst] at hs
        obtain ⟨ht, hrest⟩ := hs
        obtain ⟨g, hg, hR, h0, h1, hl⟩ := ht.here
        obtain ⟨g', hg', e1, e2, e3, e4⟩ := shape_some h hg
        obtain ⟨i, hi⟩ : ∃ i, g.code[f.pos.toNat]? = some i := ⟨_, List.getElem?_eq_getElem (by omega)⟩
        obtain ⟨j, hj⟩ : ∃ j, g'.code[f.pos.toNat]? = some j := ⟨_, List.getElem?_eq_getElem (by omega)⟩
        have a1 : step u s = stepI u g i f rest s := by unfold step; rw [hst]; simp only [hg, hi]
        have a2 : step v s = stepI v g' j f rest s := by unfold step; rw [hst]; simp only [hg', hj]
        rw [a1, a2]
        exact ⟨(stepI_other h e2).trans (h.code f g g' i j rest s hg hg' h0 hi hj hl ht.fact), stepI_facts hU hF ht hg hi hrest⟩
    unfold runS
    rw [key.1]
    cases hs' : step u s with
    | inl r => rfl
    | inr s' =>
      have := key.2
      rw [hs'] at this
      exact runS_facts hU hF h n s' this
theorem runU_facts (hU : UniOk u) (hF : FactsOk u F) (h : SameBy u v F) (hr : rightU u = true) (hr' : rightU v = true) (inp : List UInt8) (fuel : Int) : runU v inp fuel = runU u inp fuel := by
  unfold runU
  rw [findN_map _ _ _ h.names]
  cases hm : findN u.funcs wMain with
  | none => rfl
  | some m =>
    simp only
    cases hg : u.funcs[m]? with
    | none => rw [shape_none h hg]
    | some g =>
      obtain ⟨g', hg', e1, e2, e3, e4⟩ := shape_some h hg
      have hR := hU.right _ _ hg
      have hp := hR.params
      have hrg := hR.regs
      have hcd := hR.code.1
      have e5 : mem0 v = mem0 u := by unfold mem0; rw [h.globals]
      rw [hg']
      simp only [hr, hr', e1, e2, e3, h.top, e5]
      by_cases hq : true = false ∨ g.params > 0
      · rw [if_pos hq, if_pos hq]
      · rw [if_neg hq, if_neg hq]
        by_cases hb : u.top + g.frame > 4096
        · rw [if_pos hb, if_pos hb]
        · rw [if_neg hb, if_neg hb]
          have hl : ((List.replicate g.regs.toNat (0 : Int)).length : Int) = g.regs := by rw [List.length_replicate]; omega
          refine runS_facts hU hF h _ _ (show TopF u F _ ∧ True from ⟨⟨⟨g, hg, hR, Int.le_refl _, by show (0 : Int) < (g.code.length : Int); omega, hl⟩, hF.first _ _ _ _ hg hl⟩, trivial⟩)
end Go.Proofs.Ytpajndeongcjbaa.Cd
namespace Go.Proofs.Ytpajndeongcjbaa.Cd
set_option linter.unusedVariables false

theorem funcsOk_iff' (fs : List Fnc) : ∀ (l : List Fnc) (j : Nat), funcsOk fs j l = true ↔ ∀ (k : Nat) (g : Fnc), l[k]? = some g → funcOk fs (j + k) g = true
  | [], j => by simp [funcsOk]
  | f :: l, j => by
    unfold funcsOk
    rw [Bool.and_eq_true, funcsOk_iff' fs l (j + 1)]
    constructor
    · rintro ⟨h1, h2⟩ k g hk
      cases k with
      | zero =>
        simp only [List.getElem?_cons_zero, Option.some.injEq] at hk
        subst hk
        exact h1
      | succ k =>
        have := h2 k g (by simpa using hk)
        rw [show j + (k + 1) = j + 1 + k by omega]
        exact this
    · intro h
      refine ⟨h 0 f rfl, fun k g hk => ?_⟩
      have := h (k + 1) g (by simpa using hk)
      rw [show j + 1 + k = j + (k + 1) by omega]
      exact this
/-- Functions that stand for those of a unit: of the same names and parameters, that may be, and call nothing else. -/
structure Stands (u : Uni) (fs : List Fnc) : Prop where
  len : fs.length = u.funcs.length
  heads : ∀ (k : Nat) (g h : Fnc), u.funcs[k]? = some g → fs[k]? = some h → h.name = g.name ∧ h.params = g.params ∧ RightF h
  calls : ∀ (k : Nat) (g h : Fnc) (j : Ins), u.funcs[k]? = some g → fs[k]? = some h → j ∈ h.code → j.kind = 8 → ∃ (i : Ins) (k' : Nat) (g' : Fnc), u.funcs[k']? = some g' ∧ i ∈ g'.code ∧ i.kind = 8 ∧ i.text = j.text ∧ i.n = j.n
theorem Stands.names {u : Uni} {fs : List Fnc} (h : Stands u fs) : fs.map (·.name) = u.funcs.map (·.name) := by
  apply List.ext_getElem?
  intro k
  rw [List.getElem?_map, List.getElem?_map]
  cases hg : u.funcs[k]? with
  | none =>
    have : fs[k]? = none := by rw [List.getElem?_eq_none_iff] at hg ⊢; rw [h.len]; exact hg
    rw [this]
  | some g =>
    obtain ⟨x, hx⟩ : ∃ x, fs[k]? = some x := ⟨_, List.getElem?_eq_getElem (by rw [h.len]; exact (List.getElem?_eq_some_iff.1 hg).1)⟩
    rw [hx]
    simp only [Option.map_some, Option.some.injEq]
    exact (h.heads k g x hg hx).1
theorem callOk_stands {u : Uni} {fs : List Fnc} (h : Stands u fs) {i j : Ins} (hk : i.kind = 8) (hj : j.kind = 8) (ht : i.text = j.text) (hn : i.n = j.n) (hc : callOk u.funcs i = true) : callOk fs j = true := by
  unfold callOk at hc ⊢
  rw [if_pos hk] at hc
  rw [if_pos hj, findN_map _ _ _ h.names, ← ht, ← hn]
  cases hf : findN u.funcs i.text with
  | none => rw [hf] at hc; simp at hc
  | some k =>
    rw [hf] at hc
    simp only at hc ⊢
    cases hg : u.funcs[k]? with
    | none => rw [hg] at hc; simp at hc
    | some g =>
      rw [hg] at hc
      obtain ⟨x, hx⟩ : ∃ x, fs[k]? = some x := ⟨_, List.getElem?_eq_getElem (by rw [h.len]; exact (List.getElem?_eq_some_iff.1 hg).1)⟩
      rw [hx]
      simp only at hc ⊢
      rw [(h.heads k g x hg hx).2.1]
      exact hc
theorem rightU_stands {u : Uni} {fs : List Fnc} (h : Stands u fs) (hr : rightU u = true) : rightU { u with funcs := fs } = true := by
  unfold rightU at hr ⊢
  simp only [Bool.and_eq_true] at hr ⊢
  obtain ⟨⟨⟨⟨h1, h2⟩, h3⟩, h4⟩, h5⟩ := hr
  refine ⟨⟨⟨⟨by rw [h.len]; exact h1, h2⟩, h3⟩, h4⟩, ?_⟩
  rw [funcsOk_iff'] at h5 ⊢
  have hall : ∀ (k' : Nat) (g' : Fnc) (i : Ins), u.funcs[k']? = some g' → i ∈ g'.code → callOk u.funcs i = true := by
    intro k' g' i hg' hi
    have := h5 k' g' hg'
    unfold funcOk at this
    rw [Bool.and_eq_true, Bool.and_eq_true, List.all_eq_true] at this
    exact this.2 i hi
  intro k x hx
  have hkl : k < u.funcs.length := by rw [← h.len]; exact (List.getElem?_eq_some_iff.1 hx).1
  obtain ⟨g, hg⟩ : ∃ g, u.funcs[k]? = some g := ⟨_, List.getElem?_eq_getElem hkl⟩
  have hf := h5 k g hg
  unfold funcOk at hf ⊢
  rw [Bool.and_eq_true, Bool.and_eq_true] at hf ⊢
  obtain ⟨e1, e2, e3⟩ := h.heads k g x hg hx
  refine ⟨⟨rightF_iff.2 e3, ?_⟩, ?_⟩
  · rw [e1, findN_map _ _ _ h.names]; exact hf.1.2
  · rw [List.all_eq_true]
    intro j hj
    by_cases h8 : j.kind = 8
    · obtain ⟨i, k', g', hg', hi, hik, ht, hn⟩ := h.calls k g x j hg hx hj h8
      exact callOk_stands h hik h8 ht hn (hall k' g' i hg' hi)
    · unfold callOk
      rw [if_neg h8]
/-- What may be said of the functions of a unit that may be. -/
theorem UniOk.of {u : Uni} (hr : rightU u = true) : UniOk u := by
  unfold rightU at hr
  simp only [Bool.and_eq_true] at hr
  have h5 := hr.2
  rw [funcsOk_iff'] at h5
  have hall : ∀ (k : Nat) (g : Fnc), u.funcs[k]? = some g → RightF g ∧ g.code.all (callOk u.funcs) = true := fun k g hg => by
    have := h5 k g hg
    unfold funcOk at this
    rw [Bool.and_eq_true, Bool.and_eq_true] at this
    exact ⟨rightF_iff.1 this.1.1, this.2⟩
  refine ⟨fun k g hg => (hall k g hg).1, fun k g i hg hi h8 k' h hf hh => ?_⟩
  obtain ⟨hR, hC⟩ := hall k g hg
  have hri := hR.all i hi
  rw [List.all_eq_true] at hC
  have hc := hC i hi
  unfold callOk at hc
  rw [if_pos h8, hf] at hc
  simp only [hh, decide_eq_true_eq] at hc
  have hn := hri.n
  unfold nOk at hn
  rw [if_neg (by omega), if_neg (by omega), if_pos h8] at hn
  simp only [Bool.and_eq_true, decide_eq_true_eq] at hn
  have : (uses i).length = i.n.toNat := by unfold uses readsA readsB; simp [h8, Ins.args]; omega
  rw [this, hc]
  omega
end Go.Proofs.Ytpajndeongcjbaa.Cd
namespace Go.Proofs.Ytpajndeongcjbaa.Cd
set_option linter.unusedVariables false

/-- Is an instruction folded? -/
def foldIs (i : Ins) (v : List Val) : Bool :=
  if v.any (fun a => a.kind == 0) then false
  else if i.kind = 2 ∨ i.kind = 3 ∨ i.kind = 4 then
    match behV i v with
    | some x => decide (x.kind = 1)
    | none => false
  else decide (i.kind = 12 ∧ (v.getD i.a.toNat ⟨0, 0⟩).kind = 1)
/-- How an instruction is folded: not at all, a Const, a Jump. -/
theorem fold_cases (i : Ins) (v : List Val) :
    (foldIs i v = false ∧ foldI i v = i) ∨
    (foldIs i v = true ∧ fullV v ∧ (i.kind = 2 ∨ i.kind = 3 ∨ i.kind = 4) ∧ ∃ n, behV i v = some ⟨1, n⟩ ∧ foldI i v = constI i.dst n) ∨
    (foldIs i v = true ∧ fullV v ∧ i.kind = 12 ∧ (v.getD i.a.toNat ⟨0, 0⟩).kind = 1 ∧ foldI i v = jumpI (if (v.getD i.a.toNat ⟨0, 0⟩).n ≠ 0 then i.dest else i.els)) := by
  unfold foldIs foldI
  by_cases hf : v.any (fun a => a.kind == 0) = true
  · rw [if_pos hf, if_pos hf]; exact .inl ⟨rfl, rfl⟩
  · have hfull : fullV v := by
      intro a ha e
      refine hf (List.any_eq_true.2 ⟨a, ha, by simp [e]⟩)
    rw [if_neg hf, if_neg hf]
    by_cases h2 : i.kind = 2 ∨ i.kind = 3 ∨ i.kind = 4
    · rw [if_pos h2, if_pos h2]
      cases hb : behV i v with
      | none => exact .inl ⟨rfl, rfl⟩
      | some x =>
        simp only
        by_cases hx : x.kind = 1
        · rw [if_pos hx]
          obtain ⟨k, n⟩ := x
          simp only at hx
          subst hx
          exact .inr (.inl ⟨rfl, hfull, h2, n, rfl, rfl⟩)
        · rw [if_neg hx]
          exact .inl ⟨by simpa using hx, rfl⟩
    · rw [if_neg h2, if_neg h2]
      by_cases h12 : i.kind = 12 ∧ (v.getD i.a.toNat ⟨0, 0⟩).kind = 1
      · rw [if_pos h12]
        exact .inr (.inr ⟨by simpa using h12, hfull, h12.1, h12.2, rfl⟩)
      · rw [if_neg h12]
        exact .inl ⟨by simpa using h12, rfl⟩
theorem fold_is_ne {i : Ins} {v : List Val} : foldIs i v = true ↔ foldI i v ≠ i := by
  rcases fold_cases i v with ⟨h1, h2⟩ | ⟨h1, _, hk, n, _, h2⟩ | ⟨h1, _, hk, _, h2⟩
  · rw [h1, h2]; simp
  · rw [h1, h2]
    refine ⟨fun _ e => ?_, fun _ => rfl⟩
    have : (constI i.dst n).kind = i.kind := by rw [e]
    have h : (1 : Int) = i.kind := this
    omega
  · rw [h1, h2]
    refine ⟨fun _ e => ?_, fun _ => rfl⟩
    have : (jumpI (if (v.getD i.a.toNat ⟨0, 0⟩).n ≠ 0 then i.dest else i.els)).kind = i.kind := by rw [e]
    have h : (11 : Int) = i.kind := this
    omega
/-- Folded again it stays. -/
theorem fold_again (i : Ins) (v : List Val) : foldIs (foldI i v) v = false ∧ foldI (foldI i v) v = foldI i v := by
  have key : foldIs (foldI i v) v = false := by
    rcases fold_cases i v with ⟨h1, h2⟩ | ⟨h1, _, hk, n, _, h2⟩ | ⟨h1, _, hk, _, h2⟩
    · rw [h2, h1]
    · rw [h2]; unfold foldIs; split
      · rfl
      · rw [if_neg (by show ¬ ((1 : Int) = 2 ∨ (1 : Int) = 3 ∨ (1 : Int) = 4); decide)]
        rw [decide_eq_false_iff_not]
        rintro ⟨e, _⟩
        exact absurd e (by show (1 : Int) ≠ 12; decide)
    · rw [h2]; unfold foldIs; split
      · rfl
      · rw [if_neg (by show ¬ ((11 : Int) = 2 ∨ (11 : Int) = 3 ∨ (11 : Int) = 4); decide)]
        rw [decide_eq_false_iff_not]
        rintro ⟨e, _⟩
        exact absurd e (by show (11 : Int) ≠ 12; decide)
  refine ⟨key, ?_⟩
  have := (not_congr (fold_is_ne (i := foldI i v) (v := v))).1 (by rw [key]; simp)
  exact Classical.not_not.1 this
/-- What comes of an instruction whose answer is known, with less known. -/
theorem behV_same {g : Fnc} {i : Ins} {v w : List Val} {n : Int} (hi : RightI i g.regs g.frame g.code.length) (hl : (v.length : Int) = g.regs) (hv : fullV v) (h : withinL v w) (h234 : i.kind = 2 ∨ i.kind = 3 ∨ i.kind = 4) (hx : behV i w = some ⟨1, n⟩) : behV i v = some ⟨1, n⟩ := by
  have hu := hi.uses
  have eqv : ∀ r : Int, 0 ≤ r → r < g.regs → (w.getD r.toNat ⟨0, 0⟩).kind = 1 → v.getD r.toNat ⟨0, 0⟩ = w.getD r.toNat ⟨0, 0⟩ := by
    intro r h0 h1 hk
    have q := h.getD r.toNat
    have f := hv.getD (r := r.toNat) (by omega)
    rw [within_iff] at q
    rcases q with q | q | q
    · exact absurd q f
    · exact q
    · rw [q] at hk; exact absurd hk (by decide)
  unfold behV at hx ⊢
  rw [if_neg (by omega)] at hx ⊢
  by_cases h4 : i.kind = 4
  · rw [if_pos h4] at hx ⊢
    have ha := hu i.a (by unfold uses readsA; simp [h4])
    injection hx with hx
    rw [eqv i.a ha.1 ha.2 (by rw [hx]), hx]
  · rw [if_neg h4] at hx ⊢
    rw [if_pos (by omega)] at hx ⊢
    simp only at hx ⊢
    have ha := hu i.a (by unfold uses readsA; rcases (by omega : i.kind = 2 ∨ i.kind = 3) with h | h <;> simp [h])
    have hb : (if i.kind = 3 then w.getD i.b.toNat ⟨0, 0⟩ else (⟨1, 0⟩ : Val)).kind = 1 → (if i.kind = 3 then v.getD i.b.toNat ⟨0, 0⟩ else (⟨1, 0⟩ : Val)) = (if i.kind = 3 then w.getD i.b.toNat ⟨0, 0⟩ else (⟨1, 0⟩ : Val)) := by
      intro hk
      by_cases h3 : i.kind = 3
      · rw [if_pos h3] at hk
        rw [if_pos h3, if_pos h3]
        have hb := hu i.b (by unfold uses readsA readsB; simp [h3])
        exact eqv i.b hb.1 hb.2 hk
      · rw [if_neg h3, if_neg h3]
    by_cases hn : (w.getD i.a.toNat ⟨0, 0⟩).kind ≠ 1 ∨ (if i.kind = 3 then w.getD i.b.toNat ⟨0, 0⟩ else (⟨1, 0⟩ : Val)).kind ≠ 1
    · rw [if_pos hn] at hx
      injection hx with hx
      have this : (2 : Int) = 1 := congrArg Val.kind hx
      exact absurd this (by decide)
    · have h1 : (w.getD i.a.toNat ⟨0, 0⟩).kind = 1 := Classical.not_not.1 (fun e => hn (.inl e))
      have h2 : (if i.kind = 3 then w.getD i.b.toNat ⟨0, 0⟩ else (⟨1, 0⟩ : Val)).kind = 1 := Classical.not_not.1 (fun e => hn (.inr e))
      rw [eqv i.a ha.1 ha.2 h1, hb h2]
      exact hx
/-- An edge along which something comes. -/
def Edg (i : Ins) (v : List Val) (k p : Int) (c : List Val) : Prop := ∃ x, behV i v = some x ∧ p ∈ goesV i v k ∧ c = setV i v x
theorem Edg.fold {g : Fnc} {i : Ins} {v w : List Val} (hi : RightI i g.regs g.frame g.code.length) (hl : (v.length : Int) = g.regs) (hv : fullV v) (h : withinL v w) (k p : Int) (c : List Val) : Edg (foldI i w) v k p c ↔ Edg i v k p c := by
  rcases fold_cases i w with ⟨_, h2⟩ | ⟨_, _, hk, n, hb, h2⟩ | ⟨_, _, hk, hw, h2⟩
  · rw [h2]
  · rw [h2]
    have e1 : behV (constI i.dst n) v = some ⟨1, n⟩ := by unfold behV; rw [if_pos (show (constI i.dst n).kind = 1 from rfl)]; rfl
    have e2 := behV_same hi hl hv h hk hb
    have e3 : setV (constI i.dst n) v ⟨1, n⟩ = setV i v ⟨1, n⟩ := by
      unfold setV
      have s1 : sets (constI i.dst n) = i.dst := rfl
      have s2 : sets i = i.dst := by unfold sets; rw [if_pos (by omega)]
      rw [s1, s2]
    have e4 : goesV (constI i.dst n) v k = goesV i v k := by
      unfold goesV
      rw [if_neg (by show ¬ ((1 : Int) = 12 ∧ _); rintro ⟨e, _⟩; exact absurd e (by decide)), if_neg (by rintro ⟨e, _⟩; omega)]
      unfold next
      rw [if_neg (by show ¬ (1 : Int) = 11; decide), if_neg (by show ¬ (1 : Int) = 12; decide), if_neg (by show ¬ (1 : Int) = 13; decide), if_neg (by omega), if_neg (by omega), if_neg (by omega)]
    unfold Edg
    rw [e1, e2, e4]
    constructor
    · rintro ⟨x, hx, hp, rfl⟩
      injection hx with hx; subst hx
      exact ⟨_, rfl, hp, e3⟩
    · rintro ⟨x, hx, hp, rfl⟩
      injection hx with hx; subst hx
      exact ⟨_, rfl, hp, e3.symm⟩
  · rw [h2]
    have ha := hi.uses i.a (by unfold uses readsA; simp [hk])
    have q := h.getD i.a.toNat
    have f := hv.getD (r := i.a.toNat) (by omega)
    have ev : v.getD i.a.toNat ⟨0, 0⟩ = w.getD i.a.toNat ⟨0, 0⟩ := by
      rw [within_iff] at q
      rcases q with q | q | q
      · exact absurd q f
      · exact q
      · rw [q] at hw; exact absurd hw (by decide)
    rw [← ev] at hw ⊢
    generalize hd : (if (v.getD i.a.toNat ⟨0, 0⟩).n ≠ 0 then i.dest else i.els) = d
    have e1 : behV (jumpI d) v = some ⟨2, 0⟩ := by
      unfold behV
      rw [if_neg (by show ¬ (11 : Int) = 1; decide), if_neg (by show ¬ (11 : Int) = 4; decide), if_neg (by show ¬ ((11 : Int) = 2 ∨ (11 : Int) = 3); decide)]
    have e2 : behV i v = some ⟨2, 0⟩ := by unfold behV; rw [if_neg (by omega), if_neg (by omega), if_neg (by omega)]
    have e3 : ∀ x, setV (jumpI d) v x = setV i v x := by
      intro x
      unfold setV
      have s1 : sets (jumpI d) = -1 := rfl
      have s2 : sets i = -1 := by unfold sets; rw [if_neg (by omega)]
      rw [s1, s2]
    have e4 : goesV (jumpI d) v k = goesV i v k := by
      unfold goesV
      rw [if_neg (by show ¬ ((11 : Int) = 12 ∧ _); rintro ⟨e, _⟩; exact absurd e (by decide)), if_pos ⟨hk, hw⟩, hd]
      rfl
    unfold Edg
    rw [e1, e2, e4]
    constructor
    · rintro ⟨x, hx, hp, rfl⟩; exact ⟨x, hx, hp, e3 x⟩
    · rintro ⟨x, hx, hp, rfl⟩; exact ⟨x, hx, hp, (e3 x).symm⟩
theorem PreV.edg {g : Fnc} {T : List (List Val)} (h : PreV g T) {k : Nat} {i : Ins} {v c w : List Val} {p : Int} (hi : g.code[k]? = some i) (hv : T[k]? = some v) (hf : fullV v) (he : Edg i v k p c) (hw : T[p.toNat]? = some w) : withinL c w := by
  obtain ⟨x, hx, hp, rfl⟩ := he
  exact h.edge k i v x hi hv hf hx p hp w hw
section
variable {g : Fnc} {S : List (List Val)}
theorem foldF_len (h : S.length = g.code.length) : (foldF S g).code.length = g.code.length := by
  unfold foldF; simp only [List.length_zipWith]; omega
theorem foldF_at {k : Nat} {i : Ins} {v : List Val} (hi : g.code[k]? = some i) (hv : S[k]? = some v) : (foldF S g).code[k]? = some (foldI i v) := by
  unfold foldF; simp only [List.getElem?_zipWith, hi, hv]
theorem foldF_inv (h : S.length = g.code.length) {k : Nat} {j : Ins} (hj : (foldF S g).code[k]? = some j) : ∃ i v, g.code[k]? = some i ∧ S[k]? = some v ∧ j = foldI i v := by
  have hk := (List.getElem?_eq_some_iff.1 hj).1
  rw [foldF_len h] at hk
  have e1 := List.getElem?_eq_getElem hk
  have e2 := List.getElem?_eq_getElem (l := S) (i := k) (by omega)
  rw [foldF_at e1 e2] at hj
  injection hj with hj
  exact ⟨_, _, e1, e2, hj.symm⟩
theorem lastKind_at {l : List Ins} {i : Ins} (h : l[l.length - 1]? = some i) : lastKind l = i.kind := by
  unfold lastKind
  rw [List.getLast?_eq_getElem?, h]
theorem lastKind_some {l : List Ins} (h : 0 < l.length) : ∃ i, l[l.length - 1]? = some i := ⟨_, List.getElem?_eq_getElem (by omega)⟩
/-- What is folded may be. -/
theorem foldF_right (hR : RightF g) (hS : Sol g S) : RightF (foldF S g) := by
  have hlen := foldF_len hS.pre.len
  refine ⟨hR.name, hR.params, hR.regs, hR.frame, by rw [hlen]; exact hR.code, fun j hj => ?_, ?_⟩
  · obtain ⟨k, hk⟩ := List.mem_iff_getElem?.1 hj
    obtain ⟨i, v, hi, hv, rfl⟩ := foldF_inv hS.pre.len hk
    have hI := hR.all i (List.mem_of_getElem? hi)
    have hl := hS.pre.row v (List.mem_of_getElem? hv)
    rw [hlen]
    show RightI (foldI i v) g.regs g.frame g.code.length
    rcases fold_cases i v with ⟨_, h2⟩ | ⟨_, _, h234, n, hb, h2⟩ | ⟨_, _, h12, hw, h2⟩
    · rw [h2]; exact hI
    · rw [h2]
      have ok := beh_ok hI hl (hS.ok v (List.mem_of_getElem? hv)) hb
      have hn : isW n = true := by
        rcases ok with ⟨h, _⟩ | ⟨_, h⟩ | ⟨h, _⟩
        · exact absurd h (by show (1 : Int) ≠ 0; decide)
        · exact h
        · exact absurd h (by show (1 : Int) ≠ 2; decide)
      have hd : regOk g.regs i.dst = true := by
        have := hI.dst
        unfold dstOk at this
        rwa [if_neg (by omega), if_pos (by omega)] at this
      refine ⟨by show (1 : Int) ≤ 1; decide, by show (1 : Int) ≤ 13; decide, fun r hr => ?_, ?_, ?_, ?_, ?_, ?_⟩
      · have : uses (constI i.dst n) = [] := rfl
        rw [this] at hr; cases hr
      · unfold dstOk
        rw [if_neg (by show ¬ (1 : Int) = 8; decide), if_pos (by show (1 : Int) ≤ 9 ∧ (1 : Int) ≠ 7; decide)]
        exact hd
      · unfold nOk
        rw [if_pos (by show (1 : Int) = 1; rfl)]
        exact hn
      · rfl
      · rfl
      · rfl
    · rw [h2]
      generalize hdd : (if (v.getD i.a.toNat ⟨0, 0⟩).n ≠ 0 then i.dest else i.els) = d
      have hd : regOk g.code.length d = true := by
        have := hI.dest
        unfold toOk at this
        rw [if_neg (by omega), if_pos h12, Bool.and_eq_true] at this
        rw [← hdd]
        split
        · exact this.1
        · exact this.2
      refine ⟨by show (1 : Int) ≤ 11; decide, by show (11 : Int) ≤ 13; decide, fun r hr => ?_, rfl, rfl, rfl, ?_, rfl⟩
      · have : uses (jumpI d) = [] := rfl
        rw [this] at hr; cases hr
      · unfold toOk
        rw [if_pos (by show (11 : Int) = 11; rfl)]
        exact hd
  · obtain ⟨i, hi⟩ := lastKind_some hR.code.1
    have hl := hR.last
    rw [lastKind_at hi] at hl
    obtain ⟨v0, e2⟩ : ∃ v0, S[g.code.length - 1]? = some v0 := ⟨_, List.getElem?_eq_getElem (by have := hS.pre.len; have := hR.code; omega)⟩
    have hj := foldF_at hi e2
    have hj2 : (foldF S g).code[(foldF S g).code.length - 1]? = some (foldI i v0) := by
      have e : (foldF S g).code.length - 1 = g.code.length - 1 := by rw [hlen]
      rw [e]; exact hj
    rw [lastKind_at hj2]
    rcases fold_cases i v0 with ⟨_, h2⟩ | ⟨_, _, h234, n, hb, h2⟩ | ⟨_, _, h12, hw, h2⟩
    · rw [h2]; exact hl
    · omega
    · rw [h2]; show (11 : Int) ≤ 11; decide
/-- What is known of a folded function is what was known. -/
theorem Sol.again {T : List (List Val)} (hR : RightF g) (hS : Sol g S) (hT : Sol (foldF S g) T) : T = S := by
  have hlen := foldF_len hS.pre.len
  have pS : PreV (foldF S g) S := by
    refine ⟨by rw [hlen]; exact hS.pre.len, hS.pre.row, hS.pre.first, fun k j v x hj hv hf hx p hp w hw => ?_⟩
    obtain ⟨i, v', hi, hv', rfl⟩ := foldF_inv hS.pre.len hj
    rw [hv] at hv'; injection hv' with hv'; subst hv'
    have hI := hR.all i (List.mem_of_getElem? hi)
    have hl := hS.pre.row v (List.mem_of_getElem? hv)
    exact hS.pre.edg hi hv hf ((Edg.fold hI hl hf (.refl v) k p _).1 ⟨x, hx, hp, rfl⟩) hw
  have le := hT.least S pS
  have pT : PreV g T := by
    refine ⟨by rw [hT.pre.len, hlen], hT.pre.row, hT.pre.first, fun k i v x hi hv hf hx p hp w hw => ?_⟩
    have hkl := (List.getElem?_eq_some_iff.1 hi).1
    have e2 := List.getElem?_eq_getElem (l := S) (i := k) (by have := hS.pre.len; omega)
    have hI := hR.all i (List.mem_of_getElem? hi)
    have hl : (v.length : Int) = g.regs := hT.pre.row v (List.mem_of_getElem? hv)
    exact hT.pre.edg (foldF_at hi e2) hv hf ((Edg.fold hI hl hf (le k v _ hv e2) k p _).2 ⟨x, hx, hp, rfl⟩) hw
  have ge := hS.least T pT
  apply List.ext_getElem?
  intro r
  by_cases hr : r < S.length
  · have e1 := List.getElem?_eq_getElem hr
    have e2 := List.getElem?_eq_getElem (l := T) (i := r) (by have := hS.pre.len; have := hT.pre.len; omega)
    rw [e1, e2]
    exact congrArg some (withinL.anti (hT.ok _ (List.getElem_mem _)) (hS.ok _ (List.getElem_mem hr)) (le r _ _ e2 e1) (ge r _ _ e1 e2))
  · rw [List.getElem?_eq_none (by have := hS.pre.len; have := hT.pre.len; omega), List.getElem?_eq_none (by omega)]
/-- How many are folded. -/
def foldN : List Ins → List (List Val) → Nat
  | i :: is, v :: vs => (if foldIs i v then 1 else 0) + foldN is vs
  | _, _ => 0
theorem foldN_take : ∀ (c : List Ins) (A : List (List Val)) (k : Nat) (i : Ins) (v : List Val), c[k]? = some i → A[k]? = some v → foldN (c.take (k + 1)) (A.take (k + 1)) = foldN (c.take k) (A.take k) + (if foldIs i v then 1 else 0)
  | [], _, _, _, _, h, _ => by simp at h
  | _ :: _, [], _, _, _, _, h => by simp at h
  | j :: c, u :: A, 0, i, v, h1, h2 => by
    simp only [List.getElem?_cons_zero, Option.some.injEq] at h1 h2
    subst h1 h2
    simp [foldN]
  | j :: c, u :: A, k + 1, i, v, h1, h2 => by
    have := foldN_take c A k i v (by simpa using h1) (by simpa using h2)
    simp only [List.take_succ_cons, foldN] at this ⊢
    omega
theorem foldN_le : ∀ (c : List Ins) (A : List (List Val)), foldN c A ≤ c.length
  | [], _ => by simp [foldN]
  | _ :: _, [] => by simp [foldN]
  | i :: c, v :: A => by
    have := foldN_le c A
    simp only [foldN, List.length_cons]
    split <;> omega
theorem foldN_again : ∀ (c : List Ins) (A : List (List Val)), foldN (List.zipWith foldI c A) A = 0 ∧ List.zipWith foldI (List.zipWith foldI c A) A = List.zipWith foldI c A
  | [], _ => by simp [foldN]
  | _ :: _, [] => by simp [foldN]
  | i :: c, v :: A => by
    have := foldN_again c A
    have h := fold_again i v
    simp only [List.zipWith_cons_cons, foldN, h.1, this.1, h.2, this.2]
    simp
end
/-- A unit whose functions are folded may be. -/
theorem foldU_stands {u : Uni} {As : List (List (List Val))} (hr : rightU u = true) (hl : As.length = u.funcs.length) (hA : ∀ (k : Nat) (g : Fnc) (A : List (List Val)), u.funcs[k]? = some g → As[k]? = some A → foldF A g = g ∨ Sol g A) : Stands u (List.zipWith foldF As u.funcs) := by
  have hrf : ∀ (k : Nat) (g : Fnc), u.funcs[k]? = some g → RightF g := (UniOk.of hr).right
  have inv : ∀ (k : Nat) (g h : Fnc), u.funcs[k]? = some g → (List.zipWith foldF As u.funcs)[k]? = some h → ∃ A, As[k]? = some A ∧ h = foldF A g := by
    intro k g h hg hh
    have e2 := List.getElem?_eq_getElem (l := As) (i := k) (by have := (List.getElem?_eq_some_iff.1 hg).1; omega)
    rw [List.getElem?_zipWith, hg, e2] at hh
    injection hh with hh
    exact ⟨_, e2, hh.symm⟩
  refine ⟨by rw [List.length_zipWith]; omega, fun k g h hg hh => ?_, fun k g h j hg hh hj h8 => ?_⟩
  · obtain ⟨A, hA1, rfl⟩ := inv k g h hg hh
    refine ⟨rfl, rfl, ?_⟩
    rcases hA k g A hg hA1 with e | hS
    · rw [e]; exact hrf k g hg
    · exact foldF_right (hrf k g hg) hS
  · obtain ⟨A, hA1, rfl⟩ := inv k g h hg hh
    obtain ⟨q, hq⟩ := List.mem_iff_getElem?.1 hj
    have hjz : (List.zipWith foldI g.code A)[q]? = some j := hq
    rw [List.getElem?_zipWith] at hjz
    cases hc : g.code[q]? with
    | none => rw [hc] at hjz; cases hjz
    | some i =>
      rw [hc] at hjz
      cases hv : A[q]? with
      | none => rw [hv] at hjz; cases hjz
      | some v =>
        rw [hv] at hjz
        injection hjz with hjz
        subst hjz
        rcases fold_cases i v with ⟨_, h2⟩ | ⟨_, _, _, n, _, h2⟩ | ⟨_, _, _, _, h2⟩
        · rw [h2] at h8 ⊢
          exact ⟨i, k, g, hg, List.mem_of_getElem? hc, h8, rfl, rfl⟩
        · rw [h2] at h8; exact absurd h8 (by show ¬ (1 : Int) = 8; decide)
        · rw [h2] at h8; exact absurd h8 (by show ¬ (11 : Int) = 8; decide)
end Go.Proofs.Ytpajndeongcjbaa.Cd
