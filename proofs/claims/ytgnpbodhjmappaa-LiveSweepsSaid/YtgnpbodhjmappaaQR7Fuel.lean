/-
  Runs with more fuel; runs that read nothing of their input.
-/
import Derived.Test.YtgnpbodhjmappaaQLB
namespace Go.Proofs.Ytgnpbodhjmappaa.Cd

/-- What a step lets out goes on. -/
def OutOk (s : Sta) : Rsu ⊕ Sta → Prop
  | .inl r => r.out = s.out
  | .inr s' => s.out <+: s'.out
theorem stepI_ok (u : Uni) (g : Fnc) (i : Ins) (f : Frm) (rest : List Frm) (s : Sta) : OutOk s (stepI u g i f rest s) := by
  have hp : s.out <+: s.out := List.prefix_refl _
  unfold stepI
  by_cases h1 : i.kind = 1
  · rw [if_pos h1]; exact hp
  rw [if_neg h1]
  by_cases h2 : i.kind = 2 ∨ i.kind = 3
  · rw [if_pos h2]
    by_cases hb : doB i.op (valB f i) = true
    · rw [if_pos hb]; exact hp
    · rw [if_neg hb]; rfl
  rw [if_neg h2]
  by_cases h4 : i.kind = 4
  · rw [if_pos h4]; exact hp
  rw [if_neg h4]
  by_cases h5 : i.kind = 5
  · rw [if_pos h5]; exact hp
  rw [if_neg h5]
  by_cases h6 : i.kind = 6 ∨ i.kind = 7
  · rw [if_pos h6]
    by_cases ha : 1 ≤ addr f i ∧ addr f i < 4096
    · rw [if_pos ha]
      by_cases hl : i.kind = 6
      · rw [if_pos hl]; exact hp
      · rw [if_neg hl]; exact hp
    · rw [if_neg ha]; rfl
  rw [if_neg h6]
  by_cases h8 : i.kind = 8
  · rw [if_pos h8]
    cases findN u.funcs i.text with
    | none => rfl
    | some k =>
      simp only
      cases u.funcs[k]? with
      | none => rfl
      | some h =>
        simp only
        by_cases hb : f.base + g.frame + h.frame > 4096
        · rw [if_pos hb]; rfl
        · rw [if_neg hb]; exact hp
  rw [if_neg h8]
  by_cases h9 : i.kind = 9
  · rw [if_pos h9]
    cases s.inp <;> exact hp
  rw [if_neg h9]
  by_cases h10 : i.kind = 10
  · rw [if_pos h10]; exact List.prefix_append _ _
  rw [if_neg h10]
  by_cases h11 : i.kind = 11
  · rw [if_pos h11]; exact hp
  rw [if_neg h11]
  by_cases h12 : i.kind = 12
  · rw [if_pos h12]; exact hp
  rw [if_neg h12]
  cases rest with
  | nil => rfl
  | cons p ps => exact hp
theorem stepI_out {u : Uni} {g : Fnc} {i : Ins} {f : Frm} {rest : List Frm} {s s' : Sta} (h : stepI u g i f rest s = .inr s') : s.out <+: s'.out := by
  have := stepI_ok u g i f rest s
  rw [h] at this
  exact this
theorem stepI_end {u : Uni} {g : Fnc} {i : Ins} {f : Frm} {rest : List Frm} {s : Sta} {r : Rsu} (h : stepI u g i f rest s = .inl r) : r.out = s.out := by
  have := stepI_ok u g i f rest s
  rw [h] at this
  exact this
theorem step_out {u : Uni} {s s' : Sta} (h : step u s = .inr s') : s.out <+: s'.out := by
  unfold step at h
  repeat' (first | split at h)
  all_goals first | (cases h) | exact stepI_out h | skip
theorem step_end {u : Uni} {s : Sta} {r : Rsu} (h : step u s = .inl r) : r.out = s.out := by
  unfold step at h
  repeat' (first | split at h)
  all_goals first | (cases h; rfl) | exact stepI_end h | skip
theorem runS_out (u : Uni) : ∀ (n : Nat) (s : Sta), s.out <+: (runS u n s).out
  | 0, s => List.prefix_refl _
  | n + 1, s => by
    unfold runS
    cases h : step u s with
    | inl r => rw [show r.out = s.out from step_end h]; exact List.prefix_refl _
    | inr s' => exact (step_out h).trans (runS_out u n s')
/-- With more fuel a run that was not spent is the same. -/
theorem runS_more (u : Uni) : ∀ (n m : Nat) (s : Sta), n ≤ m → (runS u n s).fin ≠ 4 → runS u m s = runS u n s
  | 0, m, s, _, h => absurd rfl h
  | n + 1, 0, s, hm, _ => by omega
  | n + 1, m + 1, s, hm, h => by
    unfold runS at h ⊢
    cases hs : step u s with
    | inl r => rfl
    | inr s' => rw [hs] at h; exact runS_more u n m s' (by omega) h
/-- Whatever fuel: one output is a beginning of the other one. -/
theorem runS_prefix (u : Uni) : ∀ (n m : Nat) (s : Sta), n ≤ m → (runS u n s).out <+: (runS u m s).out
  | 0, m, s, _ => runS_out u m s
  | n + 1, 0, s, hm => by omega
  | n + 1, m + 1, s, hm => by
    unfold runS
    cases hs : step u s with
    | inl r => exact List.prefix_refl _
    | inr s' => exact runS_prefix u n m s' (by omega)
/-- The same run by another input. -/
def withInp (s : Sta) (inp : List UInt8) : Sta := { s with inp := inp }
def liftR (inp : List UInt8) : Rsu ⊕ Sta → Rsu ⊕ Sta
  | .inl r => .inl r
  | .inr s => .inr (withInp s inp)
theorem stepI_inp {u : Uni} {g : Fnc} {i : Ins} {f : Frm} {rest : List Frm} {s : Sta} (inp : List UInt8) (hk : i.kind ≠ 9) : stepI u g i f rest (withInp s inp) = liftR inp (stepI u g i f rest s) := by
  unfold stepI
  by_cases h1 : i.kind = 1
  · rw [if_pos h1, if_pos h1]; rfl
  rw [if_neg h1, if_neg h1]
  by_cases h2 : i.kind = 2 ∨ i.kind = 3
  · rw [if_pos h2, if_pos h2]
    by_cases hb : doB i.op (valB f i) = true
    · rw [if_pos hb, if_pos hb]; rfl
    · rw [if_neg hb, if_neg hb]; rfl
  rw [if_neg h2, if_neg h2]
  by_cases h4 : i.kind = 4
  · rw [if_pos h4, if_pos h4]; rfl
  rw [if_neg h4, if_neg h4]
  by_cases h5 : i.kind = 5
  · rw [if_pos h5, if_pos h5]; rfl
  rw [if_neg h5, if_neg h5]
  by_cases h6 : i.kind = 6 ∨ i.kind = 7
  · rw [if_pos h6, if_pos h6]
    by_cases ha : 1 ≤ addr f i ∧ addr f i < 4096
    · rw [if_pos ha, if_pos ha]
      by_cases hl : i.kind = 6
      · rw [if_pos hl, if_pos hl]; rfl
      · rw [if_neg hl, if_neg hl]; rfl
    · rw [if_neg ha, if_neg ha]; rfl
  rw [if_neg h6, if_neg h6]
  by_cases h8 : i.kind = 8
  · rw [if_pos h8, if_pos h8]
    cases findN u.funcs i.text with
    | none => rfl
    | some k =>
      simp only
      cases u.funcs[k]? with
      | none => rfl
      | some h =>
        simp only
        by_cases hb : f.base + g.frame + h.frame > 4096
        · rw [if_pos hb, if_pos hb]; rfl
        · rw [if_neg hb, if_neg hb]; rfl
  rw [if_neg h8, if_neg h8, if_neg hk, if_neg hk]
  by_cases h10 : i.kind = 10
  · rw [if_pos h10, if_pos h10]; rfl
  rw [if_neg h10, if_neg h10]
  by_cases h11 : i.kind = 11
  · rw [if_pos h11, if_pos h11]; rfl
  rw [if_neg h11, if_neg h11]
  by_cases h12 : i.kind = 12
  · rw [if_pos h12, if_pos h12]; rfl
  rw [if_neg h12, if_neg h12]
  cases rest <;> rfl
/-- No instruction of a unit reads input. -/
def NoGetc (u : Uni) : Prop := ∀ f ∈ u.funcs, ∀ i ∈ f.code, i.kind ≠ 9
theorem step_inp {u : Uni} (hu : NoGetc u) (s : Sta) (inp : List UInt8) : step u (withInp s inp) = liftR inp (step u s) := by
  unfold step
  simp only [withInp]
  cases s.stack with
  | nil => rfl
  | cons f rest =>
    simp only
    cases hf : u.funcs[f.k]? with
    | none => rfl
    | some g =>
      simp only
      cases hi : g.code[f.pos.toNat]? with
      | none => rfl
      | some i => exact stepI_inp inp (hu g (List.mem_of_getElem? hf) i (List.mem_of_getElem? hi))
theorem runS_inp {u : Uni} (hu : NoGetc u) (inp : List UInt8) : ∀ (n : Nat) (s : Sta), runS u n (withInp s inp) = runS u n s
  | 0, s => rfl
  | n + 1, s => by
    unfold runS
    rw [step_inp hu]
    cases step u s with
    | inl r => rfl
    | inr s' => exact runS_inp hu inp n s'
/-- A run is of no use at all, or begins as it begins. -/
theorem runU_form (u : Uni) : (∃ r : Rsu, ∀ inp fuel, runU u inp fuel = r) ∨ ∃ st : Sta, ∀ inp fuel, runU u inp fuel = runS u (fuelOf fuel) (withInp st inp) := by
  unfold runU
  cases findN u.funcs wMain with
  | none => exact .inl ⟨_, fun _ _ => rfl⟩
  | some m =>
    simp only
    cases u.funcs[m]? with
    | none => exact .inl ⟨_, fun _ _ => rfl⟩
    | some g =>
      simp only
      by_cases h1 : rightU u = false ∨ g.params > 0
      · exact .inl ⟨⟨4, 0, []⟩, fun _ _ => if_pos h1⟩
      · by_cases h2 : u.top + g.frame > 4096
        · exact .inl ⟨⟨3, 0, []⟩, fun _ _ => by rw [if_neg h1, if_pos h2]⟩
        · exact .inr ⟨⟨mem0 u, [], [], [⟨m, u.top, 0, -1, List.replicate g.regs.toNat 0⟩]⟩, fun _ _ => by rw [if_neg h1, if_neg h2]; rfl⟩
theorem runU_inp {u : Uni} (hu : NoGetc u) (a b : List UInt8) (fuel : Int) : runU u a fuel = runU u b fuel := by
  rcases runU_form u with ⟨r, h⟩ | ⟨st, h⟩
  · rw [h, h]
  · rw [h, h, runS_inp hu, runS_inp hu]
theorem fuelOf_le {a b : Int} (h : a ≤ b) : fuelOf a ≤ fuelOf b := by unfold fuelOf; split <;> split <;> omega
theorem runU_more (u : Uni) (inp : List UInt8) {a b : Int} (h : a ≤ b) (hf : (runU u inp a).fin ≠ 4) : runU u inp b = runU u inp a := by
  rcases runU_form u with ⟨r, h1⟩ | ⟨st, h1⟩
  · rw [h1, h1]
  · rw [h1] at hf ⊢
    rw [h1]
    exact runS_more u _ _ _ (fuelOf_le h) hf
theorem runU_prefix (u : Uni) (inp : List UInt8) {a b : Int} (h : a ≤ b) : (runU u inp a).out <+: (runU u inp b).out := by
  rcases runU_form u with ⟨r, h1⟩ | ⟨st, h1⟩
  · rw [h1, h1]; exact List.prefix_refl _
  · rw [h1, h1]; exact runS_prefix u _ _ _ (fuelOf_le h)
end Go.Proofs.Ytgnpbodhjmappaa.Cd
