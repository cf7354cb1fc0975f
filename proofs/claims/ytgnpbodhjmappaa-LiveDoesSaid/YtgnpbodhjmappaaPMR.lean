/-
  A unit whose functions have other instructions, that do the same where something holds of the registers, does what it did, with any fuel, on lists.
-/
import Derived.Test.YtgnpbodhjmappaaPNL
import Derived.Test.YtgnpbodhjmappaaPNA
set_option linter.unusedVariables false
set_option linter.unusedSimpArgs false
namespace Go.Proofs.Ytgnpbodhjmappaa.Cd
variable {u v : Uni} {F : Nat → Int → Int → List Int → Prop}
structure UniOk (u : Uni) : Prop where
  right : ∀ (k : Nat) (g : Fnc), u.funcs[k]? = some g → RightF g
  calls : ∀ (k : Nat) (g : Fnc) (i : Ins), u.funcs[k]? = some g → i ∈ g.code → i.kind = 8 → ∀ k' h, findN u.funcs i.text = some k' → u.funcs[k']? = some h → ((uses i).length : Int) = h.params
theorem findN_map : ∀ (fs gs : List Fnc) (s : List UInt8), fs.map (·.name) = gs.map (·.name) → findN fs s = findN gs s
  | [], [], _, _ => rfl
  | [], _ :: _, _, h => by cases h
  | _ :: _, [], _, h => by cases h
  | f :: fs, g :: gs, s, h => by
    simp only [List.map_cons, List.cons.injEq] at h
    unfold findN
    rw [h.1, findN_map fs gs s h.2]
end Go.Proofs.Ytgnpbodhjmappaa.Cd
namespace Go.Proofs.Ytgnpbodhjmappaa.Cd
theorem funcsOk_iff' (fs : List Fnc) : ∀ (l : List Fnc) (j : Nat), funcsOk fs j l = true ↔ ∀ (k : Nat) (g : Fnc), l[k]? = some g → funcOk fs (j + k) g = true
  | [], j => by simp [funcsOk]
  | f :: l, j => by
    unfold funcsOk
    rw [Bool.and_eq_true, funcsOk_iff' fs l (j + 1)]
    constructor
    · rintro ⟨h1, h2⟩ k g hk
      cases k with
      | zero =>
        simp only [List.getElem?_cons_zero, Option.some.injEq] at hk
        subst hk
        exact h1
      | succ k =>
        have := h2 k g (by simpa using hk)
        rw [show j + (k + 1) = j + 1 + k by omega]
        exact this
    · intro h
      refine ⟨h 0 f rfl, fun k g hk => ?_⟩
      have := h (k + 1) g (by simpa using hk)
      rw [show j + 1 + k = j + (k + 1) by omega]
      exact this
structure Stands (u : Uni) (fs : List Fnc) : Prop where
  len : fs.length = u.funcs.length
  heads : ∀ (k : Nat) (g h : Fnc), u.funcs[k]? = some g → fs[k]? = some h → h.name = g.name ∧ h.params = g.params ∧ RightF h
  calls : ∀ (k : Nat) (g h : Fnc) (j : Ins), u.funcs[k]? = some g → fs[k]? = some h → j ∈ h.code → j.kind = 8 → ∃ (i : Ins) (k' : Nat) (g' : Fnc), u.funcs[k']? = some g' ∧ i ∈ g'.code ∧ i.kind = 8 ∧ i.text = j.text ∧ i.n = j.n
theorem Stands.names {u : Uni} {fs : List Fnc} (h : Stands u fs) : fs.map (·.name) = u.funcs.map (·.name) := by
  apply List.ext_getElem?
  intro k
  rw [List.getElem?_map, List.getElem?_map]
  cases hg : u.funcs[k]? with
  | none =>
    have : fs[k]? = none := by rw [List.getElem?_eq_none_iff] at hg ⊢; rw [h.len]; exact hg
    rw [this]
  | some g =>
    obtain ⟨x, hx⟩ : ∃ x, fs[k]? = some x := ⟨_, List.getElem?_eq_getElem (by rw [h.len]; exact (List.getElem?_eq_some_iff.1 hg).1)⟩
    rw [hx]
    simp only [Option.map_some, Option.some.injEq]
    exact (h.heads k g x hg hx).1
theorem callOk_stands {u : Uni} {fs : List Fnc} (h : Stands u fs) {i j : Ins} (hk : i.kind = 8) (hj : j.kind = 8) (ht : i.text = j.text) (hn : i.n = j.n) (hc : callOk u.funcs i = true) : callOk fs j = true := by
  unfold callOk at hc ⊢
  rw [if_pos hk] at hc
  rw [if_pos hj, findN_map _ _ _ h.names, ← ht, ← hn]
  cases hf : findN u.funcs i.text with
  | none => rw [hf] at hc; simp at hc
  | some k =>
    rw [hf] at hc
    simp only at hc ⊢
    cases hg : u.funcs[k]? with
    | none => rw [hg] at hc; simp at hc
    | some g =>
      rw [hg] at hc
      obtain ⟨x, hx⟩ : ∃ x, fs[k]? = some x := ⟨_, List.getElem?_eq_getElem (by rw [h.len]; exact (List.getElem?_eq_some_iff.1 hg).1)⟩
      rw [hx]
      simp only at hc ⊢
      rw [(h.heads k g x hg hx).2.1]
      exact hc
theorem rightU_stands {u : Uni} {fs : List Fnc} (h : Stands u fs) (hr : rightU u = true) : rightU { u with funcs := fs } = true := by
  unfold rightU at hr ⊢
  simp only [Bool.and_eq_true] at hr ⊢
  obtain ⟨⟨⟨⟨h1, h2⟩, h3⟩, h4⟩, h5⟩ := hr
  refine ⟨⟨⟨⟨by rw [h.len]; exact h1, h2⟩, h3⟩, h4⟩, ?_⟩
  rw [funcsOk_iff'] at h5 ⊢
  have hall : ∀ (k' : Nat) (g' : Fnc) (i : Ins), u.funcs[k']? = some g' → i ∈ g'.code → callOk u.funcs i = true := by
    intro k' g' i hg' hi
    have := h5 k' g' hg'
    unfold funcOk at this
    rw [Bool.and_eq_true, Bool.and_eq_true, List.all_eq_true] at this
    exact this.2 i hi
  intro k x hx
  have hkl : k < u.funcs.length := by rw [← h.len]; exact (List.getElem?_eq_some_iff.1 hx).1
  obtain ⟨g, hg⟩ : ∃ g, u.funcs[k]? = some g := ⟨_, List.getElem?_eq_getElem hkl⟩
  have hf := h5 k g hg
  unfold funcOk at hf ⊢
  rw [Bool.and_eq_true, Bool.and_eq_true] at hf ⊢
  obtain ⟨e1, e2, e3⟩ := h.heads k g x hg hx
  refine ⟨⟨rightF_iff.2 e3, ?_⟩, ?_⟩
  · rw [e1, findN_map _ _ _ h.names]; exact hf.1.2
  · rw [List.all_eq_true]
    intro j hj
    by_cases h8 : j.kind = 8
    · obtain ⟨i, k', g', hg', hi, hik, ht, hn⟩ := h.calls k g x j hg hx hj h8
      exact callOk_stands h hik h8 ht hn (hall k' g' i hg' hi)
    · unfold callOk
      rw [if_neg h8]
theorem UniOk.of {u : Uni} (hr : rightU u = true) : UniOk u := by
  unfold rightU at hr
  simp only [Bool.and_eq_true] at hr
  have h5 := hr.2
  rw [funcsOk_iff'] at h5
  have hall : ∀ (k : Nat) (g : Fnc), u.funcs[k]? = some g → RightF g ∧ g.code.all (callOk u.funcs) = true := fun k g hg => by
    have := h5 k g hg
    unfold funcOk at this
    rw [Bool.and_eq_true, Bool.and_eq_true] at this
    exact ⟨rightF_iff.1 this.1.1, this.2⟩
  refine ⟨fun k g hg => (hall k g hg).1, fun k g i hg hi h8 k' h hf hh => ?_⟩
  obtain ⟨hR, hC⟩ := hall k g hg
  have hri := hR.all i hi
  rw [List.all_eq_true] at hC
  have hc := hC i hi
  unfold callOk at hc
  rw [if_pos h8, hf] at hc
  simp only [hh, decide_eq_true_eq] at hc
  have hn := hri.n
  unfold nOk at hn
  rw [if_neg (by omega), if_neg (by omega), if_pos h8] at hn
  simp only [Bool.and_eq_true, decide_eq_true_eq] at hn
  have : (uses i).length = i.n.toNat := by unfold uses readsA readsB; simp [h8, Ins.args]; omega
  rw [this, hc]
  omega
end Go.Proofs.Ytgnpbodhjmappaa.Cd
namespace Go.Proofs.Ytgnpbodhjmappaa.Cd
structure Sys where
  St : Type
  step : St → Rsu ⊕ St
  out : St → List UInt8
  on : ∀ s s', step s = .inr s' → out s <+: out s'
  ends : ∀ s r, step s = .inl r → out s <+: r.out
namespace Sys
variable (M : Sys)
def run : Nat → M.St → Rsu
  | 0, s => ⟨4, 0, M.out s⟩
  | n + 1, s => match M.step s with
    | .inl r => r
    | .inr s' => run n s'
def adv : Nat → M.St → Rsu ⊕ M.St
  | 0, s => .inr s
  | n + 1, s => match M.step s with
    | .inl r => .inl r
    | .inr s' => adv n s'
theorem run_succ (n : Nat) (s : M.St) : M.run (n + 1) s = match M.step s with | .inl r => r | .inr s' => M.run n s' := rfl
theorem adv_succ (n : Nat) (s : M.St) : M.adv (n + 1) s = match M.step s with | .inl r => .inl r | .inr s' => M.adv n s' := rfl
def outOf : Rsu ⊕ M.St → List UInt8
  | .inl r => r.out
  | .inr t => M.out t
theorem run_adv : ∀ (k n : Nat) (s : M.St), M.run (k + n) s = match M.adv k s with | .inl r => r | .inr t => M.run n t
  | 0, n, s => by rw [Nat.zero_add]; rfl
  | k + 1, n, s => by
    rw [show k + 1 + n = (k + n) + 1 by omega, run_succ, adv_succ]
    cases h : M.step s with
    | inl r => rfl
    | inr s' => exact run_adv k n s'
theorem run_out : ∀ (n : Nat) (s : M.St), M.out s <+: (M.run n s).out
  | 0, s => List.prefix_refl _
  | n + 1, s => by
    unfold run
    cases h : M.step s with
    | inl r => exact M.ends s r h
    | inr s' => exact (M.on s s' h).trans (run_out n s')
theorem run_few : ∀ (k n : Nat) (s : M.St), n ≤ k → (M.run n s).out <+: M.outOf (M.adv k s) ∧ ((M.run n s).fin = 4 ∨ M.adv k s = .inl (M.run n s))
  | k, 0, s, _ => by
    refine ⟨?_, .inl rfl⟩
    show M.out s <+: _
    induction k generalizing s with
    | zero => exact List.prefix_refl _
    | succ k ih =>
      unfold adv
      cases h : M.step s with
      | inl r => exact M.ends s r h
      | inr s' => exact (M.on s s' h).trans (ih s' (by omega))
  | 0, n + 1, s, h => by omega
  | k + 1, n + 1, s, h => by
    unfold run adv
    cases hs : M.step s with
    | inl r => exact ⟨List.prefix_refl _, .inr rfl⟩
    | inr s' => exact run_few k n s' (by omega)
end Sys
structure AlongE (E : Prop) (x y : Rsu) : Prop where
  both : x.fin ≠ 4 → y.fin ≠ 4 → x = y ∨ (E ∧ y.fin = 3)
  left : x.fin ≠ 4 → y.out <+: x.out
  right : y.fin ≠ 4 → x.out <+: y.out ∨ (E ∧ y.fin = 3)
  any : x.out <+: y.out ∨ y.out <+: x.out
theorem AlongE.refl (E : Prop) (x : Rsu) : AlongE E x x := ⟨fun _ _ => .inl rfl, fun _ => List.prefix_refl _, fun _ => .inl (List.prefix_refl _), .inl (List.prefix_refl _)⟩
abbrev Along (x y : Rsu) : Prop := AlongE False x y
theorem AlongE.symm {x y : Rsu} (h : Along x y) : Along y x := ⟨fun a b => by rcases h.both b a with h | h; exact .inl h.symm; exact h.1.elim, fun a => by rcases h.right a with h | h; exact h; exact h.1.elim, fun a => .inl (h.left a), h.any.symm⟩
namespace Sys
theorem run_ended (M : Sys) {k : Nat} {s : M.St} {r : Rsu} (h : M.adv k s = .inl r) (n : Nat) : (M.run n s).out <+: r.out ∧ ((M.run n s).fin ≠ 4 → M.run n s = r) := by
  by_cases hn : n ≤ k
  · obtain ⟨p1, p2⟩ := M.run_few k n s hn
    rw [h] at p1 p2
    exact ⟨p1, fun a => by have := p2.resolve_left a; injection this with this; exact this.symm⟩
  · have := M.run_adv k (n - k) s
    rw [show k + (n - k) = n by omega, h] at this
    simp only at this
    rw [this]
    exact ⟨List.prefix_refl _, fun _ => rfl⟩
theorem run_on (M : Sys) {k : Nat} {s t : M.St} (h : M.adv k s = .inr t) (n : Nat) : (n < k ∧ (M.run n s).out <+: M.out t ∧ (M.run n s).fin = 4) ∨ (k ≤ n ∧ M.run n s = M.run (n - k) t) := by
  by_cases hn : n < k
  · obtain ⟨p1, p2⟩ := M.run_few k n s (by omega)
    rw [h] at p1 p2
    refine .inl ⟨hn, p1, ?_⟩
    rcases p2 with p2 | p2
    · exact p2
    · cases p2
  · have := M.run_adv k (n - k) s
    rw [show k + (n - k) = n by omega, h] at this
    exact .inr ⟨by omega, this⟩
theorem run_any (M : Sys) (k n : Nat) (s : M.St) : ((M.run n s).out <+: M.outOf (M.adv k s) ∨ M.outOf (M.adv k s) <+: (M.run n s).out) ∧ ((M.run n s).fin ≠ 4 → M.outOf (M.adv k s) <+: (M.run n s).out) := by
  cases h : M.adv k s with
  | inl r =>
    obtain ⟨h1, h2⟩ := M.run_ended h n
    exact ⟨.inl h1, fun a => by rw [h2 a]; exact List.prefix_refl _⟩
  | inr t =>
    rcases M.run_on h n with ⟨_, h1, h2⟩ | ⟨_, h1⟩
    · exact ⟨.inl h1, fun a => absurd h2 a⟩
    · rw [h1]; exact ⟨.inr (M.run_out _ t), fun _ => M.run_out _ t⟩
end Sys
@[reducible] def sysU (u : Uni) : Sys where
  St := Sta
  step := step u
  out := Sta.out
  on := fun _ _ h => step_out h
  ends := fun _ _ h => by rw [show _ = _ from step_end h]; exact List.prefix_refl _
theorem sysU_run (u : Uni) : ∀ (n : Nat) (s : Sta), (sysU u).run n s = runS u n s
  | 0, s => rfl
  | n + 1, s => by
    refine (Sys.run_succ (sysU u) n s).trans ?_
    unfold runS
    have e : (sysU u).step s = step u s := rfl
    cases h : step u s with
    | inl r => rw [h] at e; rw [e]
    | inr s' => rw [h] at e; rw [e]; exact sysU_run u n s'
end Go.Proofs.Ytgnpbodhjmappaa.Cd
