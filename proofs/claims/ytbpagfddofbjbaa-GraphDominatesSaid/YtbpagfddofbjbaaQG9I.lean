/-
  Trees of a search in depth, on numbers: semidominators, and dominators by them.
  The tree of a search in depth: its places are numbered as it came to them.
  What is reckoned of a search is right: semidominators, what is next above, what is above.
  What is told of places is what the document says of instructions.
  What is next above each instruction, as it is stored.
-/
import Init
import Derived.Test.YtbpagfddofbjbaaQG9D
import Derived.Test.YtbpagfddofbjbaaQG9A
namespace Go.Proofs.Ytbpagfddofbjbaa.Cd
set_option linter.unusedVariables false

/-- Above in a tree, or it. -/
inductive Anc (p : Nat → Nat) : Nat → Nat → Prop where
  | refl (x : Nat) : Anc p x x
  | up {x y : Nat} : 0 < y → Anc p x (p y) → Anc p x y
theorem Anc.trans {p : Nat → Nat} {x y z : Nat} (h : Anc p x y) (k : Anc p y z) : Anc p x z := by
  induction k with
  | refl => exact h
  | up h1 _ ih => exact .up h1 ih
/-- Places in a tree whose numbers are those in which a search in depth came to them. -/
structure Tree (m : Nat) (E : Nat → Nat → Prop) (p : Nat → Nat) : Prop where
  inn : ∀ i j, E i j → i < m ∧ j < m
  lt : ∀ i, 0 < i → i < m → p i < i
  edge : ∀ i, 0 < i → i < m → E (p i) i
  later : ∀ i j, i < j → E i j → Anc p i j
  mid : ∀ i j k, Anc p i k → i ≤ j → j ≤ k → k < m → Anc p i j
theorem anc_le {m : Nat} {p : Nat → Nat} (hl : ∀ i, 0 < i → i < m → p i < i) {x y : Nat} (h : Anc p x y) : y < m → x ≤ y := by
  induction h with
  | refl => intro _; exact Nat.le_refl _
  | @up y h1 _ ih => intro hy; have := hl y h1 hy; have := ih (by omega); omega
theorem Tree.anc_lt {m : Nat} {E : Nat → Nat → Prop} {p : Nat → Nat} (T : Tree m E p) {x y : Nat} (h : Anc p x y) (hne : x ≠ y) : 0 < y ∧ Anc p x (p y) := by
  cases h with
  | refl => exact absurd rfl hne
  | up h1 h2 => exact ⟨h1, h2⟩
/-- A way on which all but its first place are b or above. -/
inductive Thru (E : Nat → Nat → Prop) (b : Nat) : Nat → Nat → Prop where
  | refl (x : Nat) : Thru E b x x
  | more {x u v : Nat} : Thru E b x u → E u v → b ≤ v → Thru E b x v
theorem Thru.trans {E : Nat → Nat → Prop} {b x y z : Nat} (h : Thru E b x y) (k : Thru E b y z) : Thru E b x z := by
  induction k with
  | refl => exact h
  | more _ h1 h2 ih => exact .more ih h1 h2
theorem Thru.mono {E : Nat → Nat → Prop} {b c x y : Nat} (h : Thru E b x y) (hc : c ≤ b) : Thru E c x y := by
  induction h with
  | refl => exact .refl _
  | more _ h1 h2 ih => exact .more ih h1 (by omega)
theorem Thru.hi {E : Nat → Nat → Prop} {b x y : Nat} (h : Thru E b x y) : y = x ∨ b ≤ y := by
  cases h with
  | refl => exact .inl rfl
  | more _ _ h2 => exact .inr h2
/-- From x a way leads to w through higher ones alone. -/
def Sd (E : Nat → Nat → Prop) (w x : Nat) : Prop := ∃ v, Thru E (w + 1) x v ∧ E v w
theorem Tree.thru_anc {m : Nat} {E : Nat → Nat → Prop} {p : Nat → Nat} (T : Tree m E p) {x v : Nat} (h : Thru E x x v) : Anc p x v := by
  induction h with
  | refl => exact .refl _
  | @more u v h1 h2 h3 ih =>
    by_cases huv : u < v
    · exact ih.trans (T.later u v huv h2)
    · exact T.mid x v u ih h3 (by omega) (T.inn u v h2).1
theorem Tree.anc_thru {m : Nat} {E : Nat → Nat → Prop} {p : Nat → Nat} (T : Tree m E p) {x v b : Nat} (h : Anc p x v) : v < m → b ≤ x → Thru E b x v := by
  induction h with
  | refl => intro _ _; exact .refl _
  | @up v h1 h2 ih =>
    intro hv hb
    have := T.lt v h1 hv
    have := anc_le T.lt h2 (by omega)
    exact .more (ih (by omega) hb) (T.edge v h1 hv) (by omega)
/-- The least one of a way. -/
theorem Tree.least {m : Nat} {E : Nat → Nat → Prop} {p : Nat → Nat} (T : Tree m E p) {b x v : Nat} (hx : x < b) (h : Thru E b x v) : b ≤ v → ∃ y, b ≤ y ∧ Sd E y x ∧ Thru E y y v := by
  induction h with
  | refl => intro hb; omega
  | @more u v h1 h2 h3 ih =>
    intro _
    rcases h1.hi with rfl | hu
    · exact ⟨v, h3, ⟨u, .refl _, h2⟩, .refl _⟩
    · obtain ⟨y, h4, ⟨z, h5, h6⟩, h7⟩ := ih hu
      by_cases hyv : y ≤ v
      · exact ⟨y, h4, ⟨z, h5, h6⟩, .more h7 h2 hyv⟩
      · refine ⟨v, h3, ⟨u, ?_, h2⟩, .refl _⟩
        exact (Thru.more (h5.mono (by omega)) h6 (by omega)).trans (h7.mono (by omega))
/-! ### Dominators -/
/-- Ways from 0 that leave one out. -/
inductive Rt (E : Nat → Nat → Prop) (a : Nat) : Nat → Prop where
  | zero : 0 ≠ a → Rt E a 0
  | more {u v : Nat} : Rt E a u → E u v → v ≠ a → Rt E a v
def Dm (E : Nat → Nat → Prop) (a b : Nat) : Prop := ¬ Rt E a b
theorem Rt.not {E : Nat → Nat → Prop} {a b : Nat} (h : Rt E a b) : b ≠ a := by cases h <;> assumption
theorem Dm.refl (E : Nat → Nat → Prop) (a : Nat) : Dm E a a := fun h => h.not rfl
theorem Rt.either {E : Nat → Nat → Prop} {a c : Nat} (b : Nat) (h : Rt E a c) : Rt E b c ∨ Rt E a b := by
  induction h with
  | zero h0 =>
    by_cases hb : 0 = b
    · subst hb; exact .inr (.zero h0)
    · exact .inl (.zero hb)
  | @more u v h1 h2 h3 ih =>
    rcases ih with ih | ih
    · by_cases hb : v = b
      · subst hb; exact .inr (.more h1 h2 h3)
      · exact .inl (.more ih h2 hb)
    · exact .inr ih
theorem Dm.trans {E : Nat → Nat → Prop} {a b c : Nat} (h : Dm E a b) (k : Dm E b c) : Dm E a c := fun r => (r.either b).elim k h
theorem Tree.dm_anc {m : Nat} {E : Nat → Nat → Prop} {p : Nat → Nat} (T : Tree m E p) {a : Nat} : ∀ (n b : Nat), b ≤ n → b < m → Dm E a b → Anc p a b
  | n, b, hb, hm, h => by
    by_cases hab : a = b
    · subst hab; exact .refl _
    · match n, b, hb, hm, h, hab with
      | _, 0, _, _, h, hab => exact absurd (.zero (fun e => hab e.symm)) h
      | 0, b + 1, hb, _, _, _ => omega
      | n + 1, b + 1, hb, hm, h, hab =>
        have hl := T.lt (b + 1) (by omega) hm
        exact .up (by omega) (T.dm_anc n (p (b + 1)) (by omega) (by omega) (fun r => h (.more r (T.edge (b + 1) (by omega) hm) (fun e => hab e.symm))))
theorem Tree.dm_le {m : Nat} {E : Nat → Nat → Prop} {p : Nat → Nat} (T : Tree m E p) {a b : Nat} (hm : b < m) (h : Dm E a b) : a ≤ b := anc_le T.lt (T.dm_anc b b (Nat.le_refl _) hm h) hm
theorem Tree.rt_down {m : Nat} {E : Nat → Nat → Prop} {p : Nat → Nat} (T : Tree m E p) {a x y : Nat} (h : Anc p x y) : y < m → a < x → Rt E a x → Rt E a y := by
  induction h with
  | refl => intro _ _ h; exact h
  | @up y h1 h2 ih =>
    intro hy ha hr
    have := T.lt y h1 hy
    have := anc_le T.lt h2 (by omega)
    exact .more (ih (by omega) ha hr) (T.edge y h1 hy) (by omega)
theorem Rt.thru {E : Nat → Nat → Prop} {a b x v : Nat} (h : Thru E b x v) : a < b → Rt E a x → Rt E a v := by
  induction h with
  | refl => intro _ h; exact h
  | more _ h2 h3 ih => intro ha hr; exact .more (ih ha hr) h2 (by omega)
/-- The last place below w of a way that leads to it. -/
theorem Rt.last {E : Nat → Nat → Prop} {d w v : Nat} (hw : 0 < w) (h : Rt E d v) : (∃ x, x < w ∧ Rt E d x ∧ Thru E (w + 1) x v) ∨ ∃ x, x < w ∧ Rt E d x ∧ Sd E w x := by
  induction h with
  | zero h0 => exact .inl ⟨0, hw, .zero h0, .refl _⟩
  | @more u v h1 h2 h3 ih =>
    rcases ih with ⟨x, h4, h5, h6⟩ | h4
    · by_cases hv : v < w
      · exact .inl ⟨v, hv, .more h1 h2 h3, .refl _⟩
      · by_cases hvw : v = w
        · subst hvw; exact .inr ⟨x, h4, h5, u, h6, h2⟩
        · exact .inl ⟨x, h4, h5, .more h6 h2 (by omega)⟩
    · exact .inr h4
/-- The semidominator: the lowest of these. -/
def SemiOf (E : Nat → Nat → Prop) (w s : Nat) : Prop := Sd E w s ∧ ∀ x, x < w → Sd E w x → s ≤ x
/-- What is next above. -/
def IdomOf (E : Nat → Nat → Prop) (w d : Nat) : Prop := d < w ∧ Dm E d w ∧ ∀ x, x ≠ w → Dm E x w → Dm E x d
/-- The first one, up from the parent, that is no higher than the semidominator. -/
theorem Tree.idom {m : Nat} {E : Nat → Nat → Prop} {p : Nat → Nat} (T : Tree m E p) {w s d : Nat} (h0 : 0 < w) (hm : w < m) (hs : SemiOf E w s) (hd : Dm E d (p w)) (hds : d ≤ s) (hmax : ∀ x, Dm E x (p w) → x ≤ s → Dm E x d) : IdomOf E w d := by
  have hl := T.lt w h0 hm
  have hpe := T.edge w h0 hm
  have hdp := T.dm_le (by omega) hd
  refine ⟨by omega, fun hr => ?_, fun x hxw hx => ?_⟩
  · rcases hr.last (w := w) h0 with ⟨x, h1, h2, h3⟩ | ⟨x, h1, h2, h3⟩
    · rcases h3.hi with h4 | h4 <;> omega
    · have hsx := hs.2 x h1 h3
      have hne := h2.not
      obtain ⟨v, h4, h5⟩ := h3
      have ha : Anc p x w := T.thru_anc (.more (h4.mono (by omega)) h5 (by omega))
      obtain ⟨_, ha2⟩ := T.anc_lt ha (by omega)
      exact hd (T.rt_down ha2 (by omega) (by omega) h2)
  · have hxp : Dm E x (p w) := fun r => hx (.more r hpe (fun e => hxw e.symm))
    refine hmax x hxp (Nat.le_of_not_lt fun hlt => hx ?_)
    have hxw2 := T.dm_le hm hx
    obtain ⟨v, h1, h2⟩ := hs.1
    have hsw : s < m := by omega
    have hr : Rt E x s := Classical.byContradiction fun hn => by have := T.dm_le hsw hn; omega
    exact .more (hr.thru h1 (by omega)) h2 (fun e => hxw e.symm)
/-- One step up. -/
theorem Dm.step {E : Nat → Nat → Prop} {b d u s : Nat} (hd : Dm E d b) (hmax : ∀ x, Dm E x b → x ≤ s → Dm E x d) (hlt : s < d) (hu : IdomOf E d u) : Dm E u b ∧ ∀ x, Dm E x b → x ≤ s → Dm E x u :=
  ⟨hu.2.1.trans hd, fun x hx hxs => hu.2.2 x (by omega) (hmax x hx hxs)⟩
/-! ### The lowest ones, as they are reckoned -/
/-- What an edge from v tells of w: v itself, or the lowest of those of the higher ones above v. -/
structure EvalOf (p : Nat → Nat) (sm : Nat → Nat) (w v n : Nat) : Prop where
  low : v ≤ w → n = v
  is : w < v → ∃ x, w < x ∧ Anc p x v ∧ n = sm x
  least : w < v → ∀ x, w < x → Anc p x v → n ≤ sm x
theorem Tree.semi {m : Nat} {E : Nat → Nat → Prop} {p : Nat → Nat} (T : Tree m E p) {sm : Nat → Nat} {w s : Nat} (h0 : 0 < w) (hm : w < m) (hsm : ∀ x, w < x → x < m → SemiOf E x (sm x))
    (hle : ∀ v, E v w → ∃ n, EvalOf p sm w v n ∧ s ≤ n) (his : s ≠ w → ∃ v n, E v w ∧ EvalOf p sm w v n ∧ s = n) : SemiOf E w s := by
  have hs : s < w := by
    obtain ⟨n, h1, h2⟩ := hle (p w) (T.edge w h0 hm)
    have := T.lt w h0 hm
    have := h1.low (by omega)
    omega
  refine ⟨?_, fun x hx ⟨v, h1, h2⟩ => ?_⟩
  · obtain ⟨v, n, h1, h2, rfl⟩ := his (by omega)
    by_cases hv : v ≤ w
    · rw [h2.low hv]; exact ⟨v, .refl _, h1⟩
    · obtain ⟨x, h3, h4, rfl⟩ := h2.is (by omega)
      have hvm := (T.inn v w h1).1
      have hxv := anc_le T.lt h4 hvm
      obtain ⟨⟨u, h5, h6⟩, _⟩ := hsm x h3 (by omega)
      exact ⟨v, (Thru.more (h5.mono (by omega)) h6 (by omega)).trans (T.anc_thru h4 hvm (by omega)), h1⟩
  · obtain ⟨n, h3, h4⟩ := hle v h2
    rcases h1.hi with rfl | hv
    · have := h3.low (by omega); omega
    · obtain ⟨y, h5, h6, h7⟩ := T.least (b := w + 1) (by omega) h1 hv
      have ha := T.thru_anc h7
      have hvm := (T.inn v w h2).1
      have hyv := anc_le T.lt ha hvm
      have := h3.least (by omega) y (by omega) ha
      have := (hsm y (by omega) (by omega)).2 x (by omega) h6
      omega
end Go.Proofs.Ytbpagfddofbjbaa.Cd
namespace Go.Proofs.Ytbpagfddofbjbaa.Cd
set_option linter.unusedVariables false

theorem anc_congr {p q : Nat → Nat} {m : Nat} (hl : ∀ i, 0 < i → i < m → p i < i) (he : ∀ i, 0 < i → i < m → p i = q i) {x y : Nat} (h : Anc p x y) : y < m → Anc q x y := by
  induction h with
  | refl => intro _; exact .refl _
  | @up y h1 h2 ih =>
    intro hy
    have := hl y h1 hy
    exact .up h1 (he y h1 hy ▸ ih (by omega))
/-- What holds of a tree and the way from its root to where the search is. -/
structure Rk (m : Nat) (p : Nat → Nat) (r : List Nat) : Prop where
  lt : ∀ i, 0 < i → i < m → p i < i
  mid : ∀ i j k, Anc p i k → i ≤ j → j ≤ k → k < m → Anc p i j
  inn : ∀ k ∈ r, k < m
  srt : r.Pairwise (· < ·)
  up : ∀ k ∈ r, ∀ i, Anc p i k → i ∈ r
  dn : ∀ k ∈ r, ∀ j, k ≤ j → j < m → Anc p k j
theorem Rk.pop {m : Nat} {p : Nat → Nat} {r : List Nat} {k : Nat} (h : Rk m p (r ++ [k])) : Rk m p r := by
  obtain ⟨s1, _, s2⟩ := List.pairwise_append.1 h.srt
  refine ⟨h.lt, h.mid, fun x hx => h.inn x (by simp [hx]), s1, fun x hx i hi => ?_, fun x hx => h.dn x (by simp [hx])⟩
  have h1 := h.up x (by simp [hx]) i hi
  rcases List.mem_append.1 h1 with h1 | h1
  · exact h1
  · have h2 := s2 x hx k (by simp)
    have h3 := anc_le h.lt hi (h.inn x (by simp [hx]))
    rw [List.mem_singleton] at h1
    omega
theorem Rk.push {m : Nat} {p q : Nat → Nat} {r : List Nat} {a : Nat} (h : Rk m p (r ++ [a])) (he : ∀ i, 0 < i → i < m → p i = q i) (hqm : q m = a) : Rk (m + 1) q (r ++ [a] ++ [m]) := by
  have ham : a < m := h.inn a (by simp)
  have hlq : ∀ i, 0 < i → i < m → q i < i := fun i h0 hi => he i h0 hi ▸ h.lt i h0 hi
  have A1 : ∀ {x y : Nat}, Anc p x y → y < m → Anc q x y := fun hx => anc_congr h.lt he hx
  have A2 : ∀ {x y : Nat}, Anc q x y → y < m → Anc p x y := fun hx => anc_congr hlq (fun i h0 hi => (he i h0 hi).symm) hx
  have Am : ∀ {i : Nat}, Anc q i m → i = m ∨ i ∈ r ++ [a] := fun {i} hi => by
    cases hi with
    | refl => exact .inl rfl
    | up h1 h2 => rw [hqm] at h2; exact .inr (h.up a (by simp) i (A2 h2 ham))
  obtain ⟨s1, _, s2⟩ := List.pairwise_append.1 h.srt
  have hka : ∀ k ∈ r ++ [a], k ≤ a := fun k hk => by
    rcases List.mem_append.1 hk with hk | hk
    · exact Nat.le_of_lt (s2 k hk a (by simp))
    · rw [List.mem_singleton] at hk; omega
  refine ⟨fun i h0 hi => ?_, fun i j k hik hij hjk hk => ?_, fun k hk => ?_, ?_, fun k hk i hi => ?_, fun k hk j hkj hj => ?_⟩
  · by_cases him : i = m
    · subst him; omega
    · exact hlq i h0 (by omega)
  · by_cases hkm : k = m
    · subst hkm
      rcases Am hik with rfl | hi
      · obtain rfl : j = i := by omega
        exact .refl _
      · by_cases hjm : j = k
        · subst hjm; exact hik
        · exact A1 (h.dn i hi j hij (by omega)) (by omega)
    · exact A1 (h.mid i j k (A2 hik (by omega)) hij hjk (by omega)) (by omega)
  · rcases List.mem_append.1 hk with hk | hk
    · have := h.inn k hk; omega
    · rw [List.mem_singleton] at hk; omega
  · rw [List.pairwise_append]
    exact ⟨h.srt, by simp, fun x hx y hy => by rw [List.mem_singleton] at hy; have := h.inn x hx; omega⟩
  · rcases List.mem_append.1 hk with hk | hk
    · exact List.mem_append_left _ (h.up k hk i (A2 hi (h.inn k hk)))
    · rw [List.mem_singleton] at hk; subst hk
      rcases Am hi with rfl | hi
      · simp
      · exact List.mem_append_left _ hi
  · rcases List.mem_append.1 hk with hk1 | hk1
    · by_cases hjm : j = m
      · rw [hjm]
        exact .up (by omega) (by rw [hqm]; exact A1 (h.dn k hk1 a (hka k hk1) ham) ham)
      · exact A1 (h.dn k hk1 j hkj (by omega)) (by omega)
    · rw [List.mem_singleton] at hk1
      obtain rfl : j = k := by omega
      exact .refl _
/-- Parents as numbers. -/
def parF (l : List Int) (k : Nat) : Nat := (gt l (k : Int)).toNat
theorem parF_at {l : List Int} {k : Nat} {u : Int} (h : l[k]? = some u) : parF l k = u.toNat := by unfold parF; rw [gt_at (by simpa using h)]
theorem parF_app {l t : List Int} {k : Nat} (h : k < l.length) : parF (l ++ t) k = parF l k := by
  have h1 : l[k]? = some l[k] := List.getElem?_eq_getElem h
  rw [parF_at h1, parF_at (by rw [List.getElem?_append_left h]; exact h1)]
/-- What holds of a search, with its tree. -/
structure TOk (G : List (List Int)) (s : Dfs) : Prop where
  rk : Rk s.ent.length (parF s.par) (s.pth.map s.ent.idxOf)
  e0 : s.ent[0]? = some 0
  p0 : s.par[0]? = some (-1)
  pp : ∀ (i : Nat) (u : Int), 0 < i → s.par[i]? = some u → 0 ≤ u
  edge : ∀ i, 0 < i → i < s.ent.length → ∃ a b, s.ent[parF s.par i]? = some a ∧ s.ent[i]? = some b ∧ b ∈ egs G a
  tried : ∀ (i : Nat) (a : Int), s.ent[i]? = some a → ∀ (k j : Nat) (y : Int), s.tri[a.toNat]? = some (k : Int) → j < k → (egs G a)[j]? = some y → ∃ l, s.ent[l]? = some y ∧ (i < l → Anc (parF s.par) i l)
  full : ∀ a ∈ s.ent, a ∉ s.pth → ∀ k : Nat, s.tri[a.toNat]? = some (k : Int) → (egs G a).length ≤ k
  fresh : ∀ x : Int, 0 ≤ x → x < (G.length : Int) → x ∉ s.ent → s.tri[x.toNat]? = some 0
theorem TOk.first {G : List (List Int)} (h : 0 < G.length) : TOk G (Dfs.first G.length) := by
  have hone : ∀ {i : Nat} {a : Int}, ([0] : List Int)[i]? = some a → i = 0 ∧ a = 0 := fun {i a} hi => by
    match i, hi with
    | 0, hi => exact ⟨rfl, by simpa using hi.symm⟩
    | i + 1, hi => simp at hi
  have hrep : ∀ {a : Nat} {k : Int}, (List.replicate G.length (0 : Int))[a]? = some k → k = 0 := fun {a k} hk => List.eq_of_mem_replicate (List.mem_of_getElem? hk)
  have hA : ∀ {i : Nat}, Anc (parF [-1]) i 0 → i = 0 := fun {i} hi => by
    cases hi with
    | refl => rfl
    | up h1 _ => omega
  refine ⟨⟨fun i h0 hi => ?_, fun i j k hik hij hjk hk => ?_, fun k hk => ?_, ?_, fun k hk i hi => ?_, fun k hk j hkj hj => ?_⟩, rfl, rfl, fun i u h0 hu => ?_, fun i h0 hi => ?_, fun i a hi k j y hk hj hy => ?_, fun a ha hn k hk => ?_, fun x h0 hx hn => ?_⟩
  · simp [Dfs.first] at hi; omega
  · simp [Dfs.first] at hk
    subst hk
    obtain rfl : j = 0 := by omega
    exact hik
  · simp [Dfs.first] at hk ⊢; omega
  · simp [Dfs.first]
  · simp [Dfs.first] at hk ⊢; subst hk; exact hA hi
  · simp [Dfs.first] at hk hj
    subst hk; subst hj; exact .refl _
  · match i, hu with
    | 0, _ => omega
    | i + 1, hu => simp [Dfs.first] at hu
  · simp [Dfs.first] at hi; omega
  · have := hrep hk
    omega
  · exact absurd ha (by simpa [Dfs.first] using hn)
  · show (List.replicate G.length (0 : Int))[x.toNat]? = some 0
    rw [List.getElem?_replicate, if_pos (by omega)]
theorem TOk.step {G : List (List Int)} (hG : GIn G) {s t : Dfs} (hd : DOk G s) (h : TOk G s) (k : DStep G s t) : TOk G t := by
  obtain ⟨h1, h2, h3, h4, h5, h6, h7, h8⟩ := h
  have hin := hd.inn
  have hpin := hd.pin
  have hnd := hd.nodup
  have hparl := hd.parl
  have htl := hd.tril
  cases k with
  | @old e p l t q a y k k1 k2 k3 =>
    simp only at h1 h2 h3 h4 h5 h6 h7 h8 hin hpin hnd hparl htl
    have hae := hpin a (by simp)
    have ha := hin a hae
    have hal : a.toNat < t.length := by omega
    refine ⟨h1, h2, h3, h4, h5, fun i a' hi k' j y' hk' hj hy' => ?_, fun a' ha' hn k' hk' => ?_, fun x h0 hx hn => ?_⟩
    · by_cases e1 : a' = a
      · subst e1
        simp only at hk'
        rw [List.getElem?_set_self hal] at hk'
        injection hk' with hk'
        by_cases hjk : j < k
        · exact h6 i a' hi k j y' k1 hjk hy'
        · obtain rfl : j = k := by omega
          rw [k2] at hy'; injection hy' with hy'; subst hy'
          have hyl := List.idxOf_lt_length_of_mem k3
          refine ⟨e.idxOf y, by rw [List.getElem?_eq_getElem hyl, List.getElem_idxOf hyl], fun hil => ?_⟩
          have hia : e.idxOf a' = i := by
            obtain ⟨hi1, hi2⟩ := List.getElem?_eq_some_iff.1 hi
            rw [← hi2]; exact hnd.idxOf_getElem i hi1
          exact h1.dn i (by rw [← hia]; simp) _ (by omega) hyl
      · have hne : a.toNat ≠ a'.toNat := by have := hin a' (List.mem_of_getElem? hi); omega
        simp only at hk'
        rw [List.getElem?_set_ne hne] at hk'
        exact h6 i a' hi k' j y' hk' hj hy'
    · have hne : a.toNat ≠ a'.toNat := by
        have := hin a' ha'
        intro e1
        exact hn (by obtain rfl : a' = a := by omega
                     simp)
      simp only at hk'
      rw [List.getElem?_set_ne hne] at hk'
      exact h7 a' ha' hn k' hk'
    · have hne : a.toNat ≠ x.toNat := fun e1 => hn (by obtain rfl : x = a := by omega
                                                       exact hae)
      simp only
      rw [List.getElem?_set_ne hne]
      exact h8 x h0 hx hn
  | @new e p l t q a y k k1 k2 k3 =>
    simp only at h1 h2 h3 h4 h5 h6 h7 h8 hin hpin hnd hparl htl
    have hae := hpin a (by simp)
    have ha := hin a hae
    have hal : a.toNat < t.length := by omega
    have hy := hG.egs (List.mem_of_getElem? k2)
    have hya : y ≠ a := fun e1 => k3 (e1 ▸ hae)
    have hail := List.idxOf_lt_length_of_mem hae
    have hpm : parF (p ++ [(e.idxOf a : Int)]) e.length = e.idxOf a := by
      rw [parF_at (u := (e.idxOf a : Int)) (by rw [List.getElem?_append_right (by omega), hparl]; simp)]; simp
    have hpe : ∀ i, 0 < i → i < e.length → parF p i = parF (p ++ [(e.idxOf a : Int)]) i := fun i _ hi => (parF_app (by omega)).symm
    have hmap : (q ++ [a] ++ [y]).map (e ++ [y]).idxOf = (q.map e.idxOf ++ [e.idxOf a]) ++ [e.length] := by
      rw [List.map_append]
      congr 1
      · rw [List.map_append]
        congr 1
        · apply List.map_congr_left
          intro x hx
          rw [List.idxOf_append, if_pos (hpin x (by simp [hx]))]
        · rw [List.map_singleton, List.idxOf_append, if_pos hae]
      · simp [List.idxOf_append, k3]
    have hlen : (e ++ [y]).length = e.length + 1 := by simp
    have A1 : ∀ {x z : Nat}, Anc (parF p) x z → z < e.length → Anc (parF (p ++ [(e.idxOf a : Int)])) x z := fun hx => anc_congr h1.lt hpe hx
    refine ⟨?_, ?_, ?_, fun i u h0 hu => ?_, fun i h0 hi => ?_, fun i a' hi k' j y' hk' hj hy' => ?_, fun a' ha' hn k' hk' => ?_, fun x h0 hx hn => ?_⟩
    · show Rk (e ++ [y]).length (parF (p ++ [(e.idxOf a : Int)])) ((q ++ [a] ++ [y]).map (e ++ [y]).idxOf)
      rw [hmap, hlen]
      exact Rk.push (by simpa using h1) hpe hpm
    · show (e ++ [y])[0]? = some 0
      rw [List.getElem?_append_left (by omega)]; exact h2
    · show (p ++ [(e.idxOf a : Int)])[0]? = some (-1)
      rw [List.getElem?_append_left (by omega)]; exact h3
    · simp only at hu
      by_cases hi : i < p.length
      · rw [List.getElem?_append_left hi] at hu
        exact h4 i u h0 hu
      · rw [List.getElem?_append_right (by omega)] at hu
        have := List.mem_of_getElem? hu
        rw [List.mem_singleton] at this
        omega
    · simp only at hi
      rw [hlen] at hi
      show ∃ a' b, (e ++ [y])[parF (p ++ [(e.idxOf a : Int)]) i]? = some a' ∧ (e ++ [y])[i]? = some b ∧ b ∈ egs G a'
      by_cases him : i = e.length
      · subst him
        rw [hpm]
        refine ⟨a, y, ?_, by simp, List.mem_of_getElem? k2⟩
        rw [List.getElem?_append_left hail, List.getElem?_eq_getElem hail, List.getElem_idxOf hail]
      · obtain ⟨a', b, e1, e2, e3⟩ := h5 i h0 (by omega)
        rw [← hpe i h0 (by omega)]
        exact ⟨a', b, by rw [List.getElem?_append_left (List.getElem?_eq_some_iff.1 e1).1]; exact e1, by rw [List.getElem?_append_left (by omega)]; exact e2, e3⟩
    · simp only at hi hk'
      show ∃ l, (e ++ [y])[l]? = some y' ∧ (i < l → Anc (parF (p ++ [(e.idxOf a : Int)])) i l)
      by_cases him : i < e.length
      · rw [List.getElem?_append_left him] at hi
        have old : ∀ {k' : Nat}, t[a'.toNat]? = some (k' : Int) → j < k' → ∃ l, (e ++ [y])[l]? = some y' ∧ (i < l → Anc (parF (p ++ [(e.idxOf a : Int)])) i l) := fun {k'} hk' hj => by
          obtain ⟨l', e1, e2⟩ := h6 i a' hi k' j y' hk' hj hy'
          have hl' := (List.getElem?_eq_some_iff.1 e1).1
          exact ⟨l', by rw [List.getElem?_append_left hl']; exact e1, fun hil => A1 (e2 hil) hl'⟩
        by_cases e1 : a' = a
        · subst e1
          rw [List.getElem?_set_self hal] at hk'
          injection hk' with hk'
          by_cases hjk : j < k
          · exact old k1 hjk
          · obtain rfl : j = k := by omega
            rw [k2] at hy'; injection hy' with hy'; subst hy'
            have hia : e.idxOf a' = i := by
              obtain ⟨hi1, hi2⟩ := List.getElem?_eq_some_iff.1 hi
              rw [← hi2]; exact hnd.idxOf_getElem i hi1
            exact ⟨e.length, by simp, fun hil => .up (by omega) (by rw [hpm, hia]; exact .refl _)⟩
        · have hne : a.toNat ≠ a'.toNat := by have := hin a' (List.mem_of_getElem? hi); omega
          rw [List.getElem?_set_ne hne] at hk'
          exact old hk' hj
      · have hi1 := (List.getElem?_eq_some_iff.1 hi).1
        rw [hlen] at hi1
        obtain rfl : i = e.length := by omega
        have : a' = y := by simpa using hi.symm
        subst this
        rw [List.getElem?_set_ne (by omega), h8 a' hy.1 hy.2 k3] at hk'
        injection hk' with hk'
        omega
    · simp only at ha' hn hk'
      have hay : a' ≠ y := fun e1 => hn (by simp [e1])
      have haa : a' ≠ a := fun e1 => hn (by simp [e1])
      have hae' : a' ∈ e := by
        rcases List.mem_append.1 ha' with h | h
        · exact h
        · exact absurd (by simpa using h) hay
      have hne : a.toNat ≠ a'.toNat := by have := hin a' hae'; omega
      rw [List.getElem?_set_ne hne] at hk'
      exact h7 a' hae' (fun h => hn (by simp at h ⊢; rcases h with h | h; exact .inl h; exact .inr (.inl h))) k' hk'
    · simp only at hn
      have hxe : x ∉ e := fun h => hn (by simp [h])
      have hne : a.toNat ≠ x.toNat := fun e1 => hxe (by obtain rfl : x = a := by omega
                                                        exact hae)
      show (t.set a.toNat ((k : Int) + 1))[x.toNat]? = some 0
      rw [List.getElem?_set_ne hne]
      exact h8 x h0 hx hxe
  | @out e p l t q a k k1 k2 =>
    simp only at h1 h2 h3 h4 h5 h6 h7 h8 hin hpin hnd hparl htl
    refine ⟨Rk.pop (k := e.idxOf a) (by simpa using h1), h2, h3, h4, h5, h6, fun a' ha' hn k' hk' => ?_, h8⟩
    simp only at ha' hn hk'
    by_cases e1 : a' = a
    · subst e1
      rw [k1] at hk'; injection hk' with hk'
      omega
    · exact h7 a' ha' (by simp [hn, e1]) k' hk'
theorem TOk.steps {G : List (List Int)} (hG : GIn G) {s t : Dfs} (hd : DOk G s) (h : TOk G s) (k : DSteps G s t) : TOk G t := by
  induction k with
  | refl => exact h
  | more hs h1 ih => exact ih.step hG (hd.steps hG hs) h1
/-- Edges of places. -/
def EdP (G : List (List Int)) (e : List Int) (i j : Nat) : Prop := ∃ a b, e[i]? = some a ∧ e[j]? = some b ∧ b ∈ egs G a
/-- At its end. -/
theorem TOk.clos {G : List (List Int)} {s : Dfs} (hd : DOk G s) (h : TOk G s) (he : s.pth = []) {i : Nat} {a b : Int} (ha : s.ent[i]? = some a) (hb : b ∈ egs G a) : ∃ j, s.ent[j]? = some b ∧ (i < j → Anc (parF s.par) i j) := by
  have hae := List.mem_of_getElem? ha
  obtain ⟨h1, h2⟩ := hd.inn a hae
  obtain ⟨k, h3, _⟩ := hd.trin a.toNat (by omega)
  have h4 := h.full a hae (by rw [he]; simp) k h3
  obtain ⟨j, hj⟩ := List.mem_iff_getElem?.1 hb
  have := (List.getElem?_eq_some_iff.1 hj).1
  exact h.tried i a ha k j b h3 (by omega) hj
theorem TOk.tree {G : List (List Int)} {s : Dfs} (hd : DOk G s) (h : TOk G s) (he : s.pth = []) : Tree s.ent.length (EdP G s.ent) (parF s.par) := by
  refine ⟨fun i j ⟨a, b, h1, h2, _⟩ => ⟨(List.getElem?_eq_some_iff.1 h1).1, (List.getElem?_eq_some_iff.1 h2).1⟩, h.rk.lt, fun i h0 hi => h.edge i h0 hi, fun i j hij ⟨a, b, h1, h2, h3⟩ => ?_, h.rk.mid⟩
  obtain ⟨l, h4, h5⟩ := h.clos hd he h1 h3
  obtain ⟨h6, h7⟩ := List.getElem?_eq_some_iff.1 h4
  obtain ⟨h8, h9⟩ := List.getElem?_eq_some_iff.1 h2
  have : l = j := (List.getElem_inj hd.nodup).1 (h7.trans h9.symm)
  subst this
  exact h5 hij
end Go.Proofs.Ytbpagfddofbjbaa.Cd
namespace Go.Proofs.Ytbpagfddofbjbaa.Cd
set_option linter.unusedVariables false

/-- What is told of the lowest: the places from c on are done. -/
structure LInv (m : Nat) (p sm : Nat → Nat) (c : Nat) (s : LU) : Prop where
  un : ∀ k : Nat, k < c → k < m → gt s.2 (k : Int) = -1 ∧ gt s.1 (k : Int) = (k : Int)
  dn : ∀ k : Nat, c ≤ k → k < m → ∃ u : Nat, gt s.2 (k : Int) = (u : Int) ∧ u < k ∧ Anc p u k ∧ (∃ x, c ≤ x ∧ Anc p x k ∧ gt s.1 (k : Int) = (sm x : Int)) ∧ ∀ x, u < x → Anc p x k → c ≤ x ∧ gt s.1 (k : Int) ≤ (sm x : Int)
theorem LInv.congr {m : Nat} {p sm sm' : Nat → Nat} {c : Nat} {s : LU} (h : LInv m p sm c s) (he : ∀ x, c ≤ x → sm x = sm' x) : LInv m p sm' c s := by
  refine ⟨h.un, fun k h1 h2 => ?_⟩
  obtain ⟨u, a1, a2, a3, ⟨x, a4, a5, a6⟩, a7⟩ := h.dn k h1 h2
  exact ⟨u, a1, a2, a3, ⟨x, a4, a5, by rw [← he x a4]; exact a6⟩, fun y hy hyk => by
    obtain ⟨b1, b2⟩ := a7 y hy hyk
    exact ⟨b1, by rw [← he y b1]; exact b2⟩⟩
theorem shortF_inv {m : Nat} {E : Nat → Nat → Prop} {p sm : Nat → Nat} {c : Nat} (T : Tree m E p) (hc : 0 < c) : ∀ (f k : Nat) (s : LU), LUOk m s → LInv m p sm c s → k < m → k < f → LInv m p sm c (shortF f (k : Int) s) ∧ (c ≤ k → ∃ u : Nat, gt (shortF f (k : Int) s).2 (k : Int) = (u : Int) ∧ u < c)
  | 0, k, s, ho, h, hk, hf => by omega
  | f + 1, k, s, ho, h, hk, hf => by
    by_cases hcond : gt s.2 (k : Int) = -1 ∨ gt s.2 (gt s.2 (k : Int)) = -1
    · have e : shortF (f + 1) (k : Int) s = s := by rw [shortF, if_pos hcond]
      rw [e]
      refine ⟨h, fun hck => ?_⟩
      obtain ⟨u, h1, h2, _⟩ := h.dn k hck hk
      rcases hcond with e | e
      · omega
      · rw [h1] at e
        refine ⟨u, h1, Nat.lt_of_not_le fun hcu => ?_⟩
        obtain ⟨u', h6, _⟩ := h.dn u hcu (by omega)
        omega
    · have hck : c ≤ k := Nat.le_of_not_lt fun hlt => hcond (.inl (h.un k hlt hk).1)
      obtain ⟨u, h1, h2, h3, _⟩ := h.dn k hck hk
      have hcu : c ≤ u := Nat.le_of_not_lt fun hlt => hcond (.inr (by rw [h1]; exact (h.un u hlt (by omega)).1))
      obtain ⟨g1, g2⟩ := shortF_inv T hc f u s ho h (by omega) (by omega)
      obtain ⟨r, g3, g4⟩ := g2 hcu
      obtain ⟨o1, o2⟩ := shortF_far f (u : Int) s ho (Int.natCast_nonneg _) (by omega)
      obtain ⟨_, e2⟩ := o2 (k : Int) (by omega)
      have e : shortF (f + 1) (k : Int) s = ((shortF f (u : Int) s).1.set (k : Int).toNat (min (gt (shortF f (u : Int) s).1 (k : Int)) (gt (shortF f (u : Int) s).1 (u : Int))), (shortF f (u : Int) s).2.set (k : Int).toNat (r : Int)) := by
        rw [shortF, if_neg hcond, h1, e2, h1, g3]
      rw [e]
      generalize shortF f (u : Int) s = t at g1 g3 o1 e2
      have hl1 : (k : Int).toNat < t.1.length := by rw [o1.low.1]; simpa using hk
      have hl2 : (k : Int).toNat < t.2.length := by rw [o1.up.1]; simpa using hk
      refine ⟨⟨fun i hi him => ?_, fun i hi him => ?_⟩, fun _ => ⟨r, gt_set_self hl2, g4⟩⟩
      · simp only
        rw [gt_set_ne (by simp; omega), gt_set_ne (by simp; omega)]
        exact g1.un i hi him
      · by_cases hik : i = k
        · subst hik
          simp only
          rw [gt_set_self hl1, gt_set_self hl2]
          obtain ⟨u1, a1, a2, a3, ⟨x1, a4, a5, a6⟩, a7⟩ := g1.dn i hck hk
          obtain ⟨r1, b1, b2, b3, ⟨x2, b4, b5, b6⟩, b7⟩ := g1.dn u hcu (by omega)
          rw [e2, h1] at a1
          obtain rfl : u = u1 := Int.ofNat.inj a1
          rw [g3] at b1
          obtain rfl : r = r1 := Int.ofNat.inj b1
          refine ⟨r, rfl, by omega, b3.trans a3, ?_, fun x hx hxk => ?_⟩
          · rw [Int.min_def]
            split
            · exact ⟨x1, a4, a5, a6⟩
            · exact ⟨x2, b4, b5.trans a3, b6⟩
          · by_cases hux : u < x
            · obtain ⟨q1, q2⟩ := a7 x hux hxk
              exact ⟨q1, by omega⟩
            · obtain ⟨q1, q2⟩ := b7 x hx (T.mid x u i hxk (by omega) (by omega) hk)
              exact ⟨q1, by omega⟩
        · simp only
          rw [gt_set_ne (by simp; omega), gt_set_ne (by simp; omega)]
          exact g1.dn i hi him
theorem eval_of {m : Nat} {E : Nat → Nat → Prop} {p sm : Nat → Nat} {w : Nat} (T : Tree m E p) {f k : Nat} {s : LU} (ho : LUOk m s) (h : LInv m p sm (w + 1) s) (hk : k < m) (hf : k < f) : ∃ n : Nat, gt (shortF f (k : Int) s).1 (k : Int) = (n : Int) ∧ EvalOf p sm w k n := by
  obtain ⟨h1, h2⟩ := shortF_inv T (by omega) f k s ho h hk hf
  by_cases hkw : k ≤ w
  · refine ⟨k, (h1.un k (by omega) hk).2, fun _ => rfl, fun h => by omega, fun h => by omega⟩
  · obtain ⟨r, h3, h4⟩ := h2 (by omega)
    obtain ⟨u, a1, a2, a3, ⟨x, a4, a5, a6⟩, a7⟩ := h1.dn k (by omega) hk
    rw [h3] at a1
    obtain rfl : r = u := Int.ofNat.inj a1
    refine ⟨sm x, a6, fun h => by omega, fun _ => ⟨x, by omega, a5, rfl⟩, fun _ y hy hyk => ?_⟩
    have := (a7 y (by omega) hyk).2
    rw [a6] at this
    omega
/-- One edge after another. -/
theorem semiIn_inv {E : Nat → Nat → Prop} {p sm : Nat → Nat} {e : List Int} {w : Nat} (T : Tree e.length E p) (hw : w < e.length) : ∀ (l : List Int) (s : SLU), SOk e.length s → LInv e.length p sm (w + 1) (s.low, s.up) →
    SOk e.length (semiIn e w s l) ∧ LInv e.length p sm (w + 1) ((semiIn e w s l).low, (semiIn e w s l).up) ∧ (∀ x : Nat, x ≠ w → gt (semiIn e w s l).semi (x : Int) = gt s.semi (x : Int)) ∧ gt (semiIn e w s l).semi (w : Int) ≤ gt s.semi (w : Int) ∧ (∀ a ∈ l, a ∈ e → ∃ n : Nat, EvalOf p sm w (e.idxOf a) n ∧ gt (semiIn e w s l).semi (w : Int) ≤ (n : Int)) ∧ (gt (semiIn e w s l).semi (w : Int) = gt s.semi (w : Int) ∨ ∃ a ∈ l, a ∈ e ∧ ∃ n : Nat, EvalOf p sm w (e.idxOf a) n ∧ gt (semiIn e w s l).semi (w : Int) = (n : Int))
  | [], s, ho, h => ⟨ho, h, fun _ _ => rfl, Int.le_refl _, by simp, .inl rfl⟩
  | a :: l, s, ho, h => by
    by_cases ha : a ∈ e
    · have hi := List.idxOf_lt_length_of_mem ha
      obtain ⟨n, e1, e2⟩ := eval_of T (f := e.length) (k := e.idxOf a) ho.lu h hi hi
      have ho2 := semiOne_ok (a := a) hw ho
      have h2 : LInv e.length p sm (w + 1) ((semiOne e w s a).low, (semiOne e w s a).up) := by
        unfold semiOne; rw [if_pos ha]
        exact (shortF_inv T (by omega) e.length (e.idxOf a) (s.low, s.up) ho.lu h hi hi).1
      obtain ⟨b1, b2, b3, b4, b5, b6⟩ := semiIn_inv T hw l (semiOne e w s a) ho2 h2
      have hsl : (w : Int).toNat < s.semi.length := by rw [ho.semi.1]; simpa using hw
      have es : (semiOne e w s a).semi = s.semi.set (w : Int).toNat (min (gt s.semi (w : Int)) (n : Int)) := by
        unfold semiOne; rw [if_pos ha]; simp only [e1, Int.toNat_natCast]
      have ew : gt (semiOne e w s a).semi (w : Int) = min (gt s.semi (w : Int)) (n : Int) := by rw [es]; exact gt_set_self hsl
      have eo : ∀ x : Nat, x ≠ w → gt (semiOne e w s a).semi (x : Int) = gt s.semi (x : Int) := fun x hx => by rw [es]; exact gt_set_ne (by simp; omega)
      unfold semiIn
      generalize semiIn e w (semiOne e w s a) l = t at b1 b2 b3 b4 b5 b6
      rw [ew] at b4 b6
      refine ⟨b1, b2, fun x hx => (b3 x hx).trans (eo x hx), by omega, fun y hy hye => ?_, ?_⟩
      · rcases List.mem_cons.1 hy with rfl | hy
        · exact ⟨n, e2, by omega⟩
        · exact b5 y hy hye
      · rcases b6 with b6 | ⟨y, c1, c2, c3⟩
        · by_cases hle : gt s.semi (w : Int) ≤ (n : Int)
          · exact .inl (by omega)
          · exact .inr ⟨a, by simp, ha, n, e2, by omega⟩
        · exact .inr ⟨y, by simp [c1], c2, c3⟩
    · have e0 : semiOne e w s a = s := by unfold semiOne; rw [if_neg ha]
      obtain ⟨b1, b2, b3, b4, b5, b6⟩ := semiIn_inv T hw l s ho h
      unfold semiIn
      rw [e0]
      refine ⟨b1, b2, b3, b4, fun y hy hye => ?_, ?_⟩
      · rcases List.mem_cons.1 hy with rfl | hy
        · exact absurd hye ha
        · exact b5 y hy hye
      · rcases b6 with b6 | ⟨y, c1, c2, c3⟩
        · exact .inl b6
        · exact .inr ⟨y, by simp [c1], c2, c3⟩
/-- What a search and its edges are to each other. -/
structure Sch (B : List (List Int)) (e p : List Int) (E : Nat → Nat → Prop) : Prop where
  tree : Tree e.length E (parF p)
  par : ParOk e.length p
  pp : ∀ (i : Nat), 0 < i → i < e.length → 0 ≤ gt p (i : Int)
  nodup : e.Nodup
  into : ∀ (v w : Nat), w < e.length → (E v w ↔ ∃ a, e[v]? = some a ∧ a ∈ into B e w)
theorem idx_at {e : List Int} (h : e.Nodup) {i : Nat} {a : Int} (ha : e[i]? = some a) : e.idxOf a = i := by
  obtain ⟨h1, h2⟩ := List.getElem?_eq_some_iff.1 ha
  rw [← h2]; exact h.idxOf_getElem i h1
theorem at_idx {e : List Int} {a : Int} (ha : a ∈ e) : e[e.idxOf a]? = some a := by
  have h := List.idxOf_lt_length_of_mem ha
  rw [List.getElem?_eq_getElem h, List.getElem_idxOf h]
theorem Sch.step {B : List (List Int)} {e p : List Int} {E : Nat → Nat → Prop} (S : Sch B e p E) {w : Nat} (h0 : 0 < w) (hw : w < e.length) {s : SLU} {sm : Nat → Nat} (ho : SOk e.length s) (h : LInv e.length (parF p) sm (w + 1) (s.low, s.up)) (hsm : ∀ x : Nat, w < x → x < e.length → gt s.semi (x : Int) = (sm x : Int) ∧ SemiOf E x (sm x)) :
    ∃ sm' : Nat → Nat, LInv e.length (parF p) sm' w ((semiStep B e p s w).low, (semiStep B e p s w).up) ∧ ∀ x : Nat, w ≤ x → x < e.length → gt (semiStep B e p s w).semi (x : Int) = (sm' x : Int) ∧ SemiOf E x (sm' x) := by
  have T := S.tree
  have ob := semiBegin_ok hw ho
  obtain ⟨b1, b2, b3, b4, b5, b6⟩ := semiIn_inv (sm := sm) T hw (Cd.into B e w) (semiBegin s w) ob h
  have hsl : (w : Int).toNat < s.semi.length := by rw [ho.semi.1]; simpa using hw
  have ew : gt (semiBegin s w).semi (w : Int) = (w : Int) := gt_set_self hsl
  have eo : ∀ x : Nat, x ≠ w → gt (semiBegin s w).semi (x : Int) = gt s.semi (x : Int) := fun x hx => by
    have := gt_set_ne (l := s.semi) (n := (w : Int)) (k := (x : Int)) (x := (w : Int)) (by simp; omega)
    simpa [semiBegin] using this
  unfold semiStep
  generalize semiIn e w (semiBegin s w) (Cd.into B e w) = t at b1 b2 b3 b4 b5 b6
  rw [ew] at b4 b6
  have ht0 := (b1.semi.gt (n := (w : Int)) (by simpa using hw)).1
  obtain ⟨sw, hsw⟩ : ∃ sw : Nat, gt t.semi (w : Int) = (sw : Int) := ⟨(gt t.semi (w : Int)).toNat, by omega⟩
  have hS : SemiOf E w sw := by
    refine T.semi (sm := sm) h0 hw (fun x h1 h2 => (hsm x h1 h2).2) (fun v hv => ?_) (fun hne => ?_)
    · obtain ⟨a, h1, h2⟩ := (S.into v w hw).1 hv
      obtain ⟨n, h3, h4⟩ := b5 a h2 (List.mem_of_getElem? h1)
      rw [idx_at S.nodup h1] at h3
      exact ⟨n, h3, by omega⟩
    · rcases b6 with b6 | ⟨a, c1, c2, n, c3, c4⟩
      · omega
      · exact ⟨e.idxOf a, n, (S.into _ w hw).2 ⟨a, at_idx c2, c1⟩, c3, by omega⟩
  have hpp := S.pp w h0 hw
  have hpw : gt p (w : Int) = (parF p w : Int) := by unfold parF; omega
  have hpl := T.lt w h0 hw
  have hll : (w : Int).toNat < t.low.length := by have := b1.lu.low.1; simp only at this; rw [this]; simpa using hw
  have hul : (w : Int).toNat < t.up.length := by have := b1.lu.up.1; simp only at this; rw [this]; simpa using hw
  refine ⟨fun x => if x = w then sw else sm x, ⟨fun k hk hkm => ?_, fun k hk hkm => ?_⟩, fun x hx hxm => ?_⟩
  · have := b2.un k (by omega) hkm
    show gt (t.up.set w (gt p w)) (k : Int) = -1 ∧ gt (t.low.set w (gt t.semi w)) (k : Int) = k
    rw [← Int.toNat_natCast w, gt_set_ne (by simp; omega), gt_set_ne (by simp; omega)]
    exact this
  · show ∃ u : Nat, gt (t.up.set w (gt p w)) (k : Int) = (u : Int) ∧ u < k ∧ Anc (parF p) u k ∧ (∃ x, w ≤ x ∧ Anc (parF p) x k ∧ gt (t.low.set w (gt t.semi w)) (k : Int) = (((if x = w then sw else sm x) : Nat) : Int)) ∧ ∀ x, u < x → Anc (parF p) x k → w ≤ x ∧ gt (t.low.set w (gt t.semi w)) (k : Int) ≤ (((if x = w then sw else sm x) : Nat) : Int)
    by_cases hkw : k = w
    · subst hkw
      have e1 : gt (t.up.set k (gt p k)) (k : Int) = gt p (k : Int) := by have := gt_set_self (x := gt p (k : Int)) hul; simpa using this
      have e2 : gt (t.low.set k (gt t.semi k)) (k : Int) = gt t.semi (k : Int) := by have := gt_set_self (x := gt t.semi (k : Int)) hll; simpa using this
      rw [e1, e2]
      refine ⟨parF p k, hpw, hpl, .up h0 (.refl _), ⟨k, Nat.le_refl _, .refl _, by rw [if_pos rfl, hsw]⟩, fun x hx hxk => ?_⟩
      have : x = k := Classical.byContradiction fun hne => by
        obtain ⟨_, h2⟩ := T.anc_lt hxk hne
        have := anc_le T.lt h2 (by omega)
        omega
      subst this
      exact ⟨Nat.le_refl _, by rw [if_pos rfl, hsw]; exact Int.le_refl _⟩
    · obtain ⟨u, a1, a2, a3, ⟨x, a4, a5, a6⟩, a7⟩ := b2.dn k (by omega) hkm
      have e1 : gt (t.up.set w (gt p w)) (k : Int) = gt t.up (k : Int) := by have := gt_set_ne (l := t.up) (n := (w : Int)) (k := (k : Int)) (x := gt p (w : Int)) (by simp; omega); simpa using this
      have e2 : gt (t.low.set w (gt t.semi w)) (k : Int) = gt t.low (k : Int) := by have := gt_set_ne (l := t.low) (n := (w : Int)) (k := (k : Int)) (x := gt t.semi (w : Int)) (by simp; omega); simpa using this
      rw [e1, e2]
      refine ⟨u, a1, a2, a3, ⟨x, by omega, a5, by rw [if_neg (by omega)]; exact a6⟩, fun y hy hyk => ?_⟩
      obtain ⟨q1, q2⟩ := a7 y hy hyk
      exact ⟨by omega, by rw [if_neg (by omega)]; exact q2⟩
  · show gt t.semi (x : Int) = (((if x = w then sw else sm x) : Nat) : Int) ∧ SemiOf E x (if x = w then sw else sm x)
    by_cases hxw : x = w
    · subst hxw; rw [if_pos rfl]; exact ⟨hsw, hS⟩
    · rw [if_neg hxw, b3 x hxw, eo x hxw]
      exact hsm x (by omega) hxm
theorem Sch.semi_far {B : List (List Int)} {e p : List Int} {E : Nat → Nat → Prop} (S : Sch B e p E) : ∀ j : Nat, j < e.length → ∃ sm : Nat → Nat, LInv e.length (parF p) sm (e.length - j) ((semiD B e p j).low, (semiD B e p j).up) ∧ ∀ x : Nat, e.length - j ≤ x → x < e.length → gt (semiD B e p j).semi (x : Int) = (sm x : Int) ∧ SemiOf E x (sm x)
  | 0, h0 => by
    refine ⟨fun _ => 0, ⟨fun k _ hk => ⟨?_, ?_⟩, fun k h1 h2 => by omega⟩, fun x h1 h2 => by omega⟩
    · exact gt_at (by simp [semiD, semi0, hk])
    · exact gt_at (by simp [semiD, semi0, hk])
  | j + 1, hj => by
    obtain ⟨sm, h1, h2⟩ := S.semi_far j (by omega)
    have ho := semiD_ok (B := B) S.par j (by omega)
    have e1 : e.length - j = (e.length - 1 - j) + 1 := by omega
    rw [e1] at h1
    obtain ⟨sm', h3, h4⟩ := S.step (w := e.length - 1 - j) (by omega) (by omega) ho h1 (fun x hx hxm => h2 x (by omega) hxm)
    have e2 : e.length - (j + 1) = e.length - 1 - j := by omega
    rw [e2]
    exact ⟨sm', h3, h4⟩
theorem semiIn_far (e : List Int) (w : Nat) : ∀ (l : List Int) (s : SLU) (x : Nat), x ≠ w → gt (semiIn e w s l).semi (x : Int) = gt s.semi (x : Int)
  | [], s, x, _ => rfl
  | a :: l, s, x, hx => by
    unfold semiIn
    rw [semiIn_far e w l _ x hx]
    unfold semiOne
    split
    · exact gt_set_ne (n := (w : Int)) (by simp; omega)
    · rfl
/-- Semidominators are. -/
theorem Sch.semi_all {B : List (List Int)} {e p : List Int} {E : Nat → Nat → Prop} (S : Sch B e p E) {x : Nat} (h0 : 0 < x) (hx : x < e.length) : ∃ s : Nat, gt (semiD B e p e.length).semi (x : Int) = (s : Int) ∧ SemiOf E x s := by
  obtain ⟨n, hn⟩ : ∃ n, e.length = n + 1 := ⟨e.length - 1, by omega⟩
  obtain ⟨sm, _, h2⟩ := S.semi_far n (by omega)
  obtain ⟨h3, h4⟩ := h2 x (by omega) hx
  refine ⟨sm x, ?_, h4⟩
  rw [← h3, hn]
  show gt (semiEnd p (semiIn e (e.length - 1 - n) (semiBegin (semiD B e p n) (e.length - 1 - n)) _) (e.length - 1 - n)).semi (x : Int) = _
  have e0 : e.length - 1 - n = 0 := by omega
  rw [e0]
  show gt (semiIn e 0 (semiBegin (semiD B e p n) 0) _).semi (x : Int) = _
  rw [semiIn_far e 0 _ _ x (by omega)]
  exact gt_set_ne (n := ((0 : Nat) : Int)) (by simp; omega)
/-! ### Dominators -/
theorem upTo_chain {E : Nat → Nat → Prop} {ab : List Int} {k s b : Nat} (hab : ∀ i : Nat, 0 < i → i < k → ∃ d : Nat, gt ab (i : Int) = (d : Int) ∧ IdomOf E i d) : ∀ (f d : Nat), d ≤ f → d < k → Dm E d b → (∀ x, Dm E x b → x ≤ s → Dm E x d) → ∃ d' : Nat, upTo ab (s : Int) f (d : Int) = (d' : Int) ∧ Dm E d' b ∧ d' ≤ s ∧ ∀ x, Dm E x b → x ≤ s → Dm E x d'
  | 0, d, hf, hk, h1, h2 => ⟨d, rfl, h1, by omega, h2⟩
  | f + 1, d, hf, hk, h1, h2 => by
    by_cases hds : s < d
    · obtain ⟨u, e1, e2⟩ := hab d (by omega) hk
      obtain ⟨h3, h4⟩ := Dm.step h1 h2 hds e2
      have := e2.1
      rw [upTo_step (by omega), e1]
      exact upTo_chain hab f u (by omega) (by omega) h3 h4
    · rw [upTo_stop (by omega)]
      exact ⟨d, rfl, h1, by omega, h2⟩
theorem Sch.dom_far {B : List (List Int)} {e p : List Int} {E : Nat → Nat → Prop} (S : Sch B e p E) : ∀ k : Nat, k ≤ e.length → ∀ i : Nat, 0 < i → i < k → ∃ d : Nat, gt (domD p (semiD B e p e.length).semi e.length k) (i : Int) = (d : Int) ∧ IdomOf E i d
  | 0, _, i, h0, hi => by omega
  | k + 1, hk, i, h0, hi => by
    have ho := semiD_ok (B := B) S.par e.length (Nat.le_refl _)
    obtain ⟨hl, _⟩ := domD_ok S.par ho.semi k (by omega)
    have ih := S.dom_far k (by omega)
    have hkl : (k : Int).toNat < (domD p (semiD B e p e.length).semi e.length k).length := by rw [hl]; simp; omega
    unfold domD domOne
    by_cases hik : i = k
    · subst hik
      obtain ⟨s, h1, h2⟩ := S.semi_all h0 hk
      have hpp := S.pp i h0 hk
      have hpl := S.tree.lt i h0 hk
      have hpw : gt p (i : Int) = (parF p i : Int) := by unfold parF; omega
      obtain ⟨d, h3, h4, h5, h6⟩ := upTo_chain (s := s) (b := parF p i) ih i (parF p i) (by omega) hpl (Dm.refl _ _) (fun x hx _ => hx)
      refine ⟨d, ?_, S.tree.idom h0 hk h2 h4 h5 h6⟩
      rw [h1, hpw, h3]
      have := gt_set_self (x := (d : Int)) hkl
      simpa using this
    · obtain ⟨d, h1, h2⟩ := ih i h0 (by omega)
      refine ⟨d, ?_, h2⟩
      rw [← h1]
      have := gt_set_ne (l := domD p (semiD B e p e.length).semi e.length k) (n := (k : Int)) (k := (i : Int)) (x := upTo (domD p (semiD B e p e.length).semi e.length k) (gt (semiD B e p e.length).semi k) k (gt p k)) (by simp; omega)
      simpa using this
/-- What is above is told. -/
theorem domsP_dm {E : Nat → Nat → Prop} {m : Nat} {p : Nat → Nat} (T : Tree m E p) {ab : List Int} (hl : ab.length = m) (hab : ∀ i : Nat, 0 < i → i < m → ∃ d : Nat, gt ab (i : Int) = (d : Int) ∧ IdomOf E i d) {a b : Nat} (ha : a < m) (hb : b < m) : domsP ab (a : Int) (b : Int) = true ↔ Dm E a b := by
  obtain ⟨d, h1, h2, h3, h4⟩ := upTo_chain (s := a) (b := b) hab ab.length b (by omega) hb (Dm.refl _ _) (fun x hx _ => hx)
  unfold domsP
  rw [h1, decide_eq_true_iff]
  constructor
  · intro e
    obtain rfl : a = d := Int.ofNat.inj e
    exact h2
  · intro h
    have h5 := h4 a h (Nat.le_refl _)
    have := T.dm_le (by omega) h5
    obtain rfl : a = d := by omega
    rfl
end Go.Proofs.Ytbpagfddofbjbaa.Cd
namespace Go.Proofs.Ytbpagfddofbjbaa.Cd
set_option linter.unusedVariables false

/-- A search that is ended. -/
structure Fin (G : List (List Int)) (s : Dfs) : Prop where
  «in» : GIn G
  dok : DOk G s
  tok : TOk G s
  stop : s.pth = []
theorem Fin.of {G : List (List Int)} (hG : GIn G) (h0 : 0 < G.length) {s : Dfs} (h : DSteps G (Dfs.first G.length) s) (he : s.pth = []) : Fin G s :=
  ⟨hG, (DOk.first h0).steps hG h, (TOk.first h0).steps hG (DOk.first h0) h, he⟩
theorem Fin.sch {G : List (List Int)} {s : Dfs} (h : Fin G s) : Sch (turned G) s.ent s.par (EdP G s.ent) := by
  refine ⟨h.tok.tree h.dok h.stop, ⟨h.dok.parl, h.dok.paro⟩, fun i h0 hi => ?_, h.dok.nodup, fun v w hw => ?_⟩
  · have hil : i < s.par.length := by rw [h.dok.parl]; exact hi
    have h1 : s.par[i]? = some s.par[i] := List.getElem?_eq_getElem hil
    rw [gt_at (l := s.par) (n := (i : Int)) (x := s.par[i]) (by rw [Int.toNat_natCast]; exact h1)]
    exact h.tok.pp i _ h0 h1
  · have h1 : s.ent[w]? = some s.ent[w] := List.getElem?_eq_getElem hw
    have h2 := h.dok.inn _ (List.getElem_mem hw)
    have h3 : gt s.ent (w : Int) = s.ent[w] := gt_at (by rw [Int.toNat_natCast]; exact h1)
    unfold into EdP
    rw [h3]
    constructor
    · rintro ⟨a, b, e1, e2, e3⟩
      rw [h1] at e2; injection e2 with e2; subst e2
      exact ⟨a, e1, (turned_mem h.in h2).2 ⟨h.dok.inn a (List.mem_of_getElem? e1), e3⟩⟩
    · rintro ⟨a, e1, e2⟩
      exact ⟨a, _, e1, h1, ((turned_mem h.in h2).1 e2).2⟩
theorem Fin.rt {c : List Ins} {s : Dfs} (h : Fin (nextG c) s) {i k : Nat} {x : Int} (hx : s.ent[i]? = some x) (hr : Rt (EdP (nextG c) s.ent) i k) : ∀ y, s.ent[k]? = some y → Reach c x 0 y := by
  have ne : ∀ {k : Nat} {y : Int}, s.ent[k]? = some y → k ≠ i → y ≠ x := fun {k y} hy hk e => hk (by
    subst e; rw [← idx_at h.dok.nodup hy, ← idx_at h.dok.nodup hx])
  induction hr with
  | zero h0 =>
    intro y hy
    rw [h.tok.e0] at hy; injection hy with hy; subst hy
    exact .start (ne h.tok.e0 h0)
  | more h1 h2 h3 ih =>
    intro y hy
    obtain ⟨a, b, e1, e2, e3⟩ := h2
    rw [hy] at e2; injection e2 with e2; subst e2
    rw [egs_nextG c (h.dok.inn a (List.mem_of_getElem? e1)).1] at e3
    exact .more (ih a e1) e3 (ne hy h3)
theorem Fin.reach {c : List Ins} {s : Dfs} (h : Fin (nextG c) s) {x y : Int} (hr : Reach c x 0 y) : ∃ k, s.ent[k]? = some y ∧ ∀ i, s.ent[i]? = some x → Rt (EdP (nextG c) s.ent) i k := by
  have ne : ∀ {k i : Nat} {y : Int}, s.ent[k]? = some y → s.ent[i]? = some x → y ≠ x → k ≠ i := fun {k i y} hy hi hn e => hn (by
    subst e; rw [hy] at hi; injection hi)
  induction hr with
  | start h0 => exact ⟨0, h.tok.e0, fun i hi => .zero (ne h.tok.e0 hi h0)⟩
  | @more u v h1 h2 h3 ih =>
    obtain ⟨k, e1, e2⟩ := ih
    have hu := h.dok.inn u (List.mem_of_getElem? e1)
    have h4 : v ∈ egs (nextG c) u := by rw [egs_nextG c hu.1]; exact h2
    obtain ⟨j, e3, _⟩ := h.tok.clos h.dok h.stop e1 h4
    exact ⟨j, e3, fun i hi => .more (e2 i hi) ⟨u, v, e1, e3, h4⟩ (ne e3 hi h3)⟩
theorem Fin.reached {c : List Ins} {s : Dfs} (h : Fin (nextG c) s) : ∀ (n k : Nat), k ≤ n → ∀ y, s.ent[k]? = some y → Reach c (-1) 0 y
  | n, 0, _, y, hy => by
    rw [h.tok.e0] at hy; injection hy with hy; subst hy
    exact .start (by omega)
  | 0, k + 1, hk, _, _ => by omega
  | n + 1, k + 1, hk, y, hy => by
    have hkl := (List.getElem?_eq_some_iff.1 hy).1
    obtain ⟨a, b, e1, e2, e3⟩ := h.tok.edge (k + 1) (by omega) hkl
    have hlt := h.tok.rk.lt (k + 1) (by omega) hkl
    rw [hy] at e2; injection e2 with e2; subst e2
    rw [egs_nextG c (h.dok.inn a (List.mem_of_getElem? e1)).1] at e3
    have hyi := h.dok.inn y (List.mem_of_getElem? hy)
    exact .more (h.reached n (parF s.par (k + 1)) (by omega) a e1) e3 (by omega)
theorem Fin.mem {c : List Ins} {s : Dfs} (h : Fin (nextG c) s) (y : Int) : y ∈ s.ent ↔ Reach c (-1) 0 y := by
  constructor
  · intro hy
    obtain ⟨k, hk⟩ := List.mem_iff_getElem?.1 hy
    exact h.reached k k (Nat.le_refl _) y hk
  · intro hr
    obtain ⟨k, hk, _⟩ := h.reach hr
    exact List.mem_of_getElem? hk
/-- A place dominates just if its instruction does. -/
theorem Fin.dom {c : List Ins} {s : Dfs} (h : Fin (nextG c) s) {i k : Nat} {x y : Int} (hx : s.ent[i]? = some x) (hy : s.ent[k]? = some y) : Dm (EdP (nextG c) s.ent) i k ↔ Dom c x y := by
  constructor
  · intro hd
    refine ⟨(h.mem x).1 (List.mem_of_getElem? hx), (h.mem y).1 (List.mem_of_getElem? hy), .inr fun hr => ?_⟩
    obtain ⟨j, e1, e2⟩ := h.reach hr
    have : j = k := by rw [← idx_at h.dok.nodup e1, idx_at h.dok.nodup hy]
    subst this
    exact hd (e2 i hx)
  · intro hd hr
    have hr2 := h.rt hx hr y hy
    rcases hd.all with e | e
    · exact hr2.not e.symm
    · exact e hr2
/-- What is above each place. -/
theorem Fin.above {G : List (List Int)} {s : Dfs} (h : Fin G s) {i : Nat} (h0 : 0 < i) (hi : i < s.ent.length) : ∃ d : Nat, gt (domD s.par (semiD (turned G) s.ent s.par s.ent.length).semi s.ent.length s.ent.length) (i : Int) = (d : Int) ∧ IdomOf (EdP G s.ent) i d :=
  h.sch.dom_far s.ent.length (Nat.le_refl _) i h0 hi
theorem Fin.doms {G : List (List Int)} {s : Dfs} (h : Fin G s) {i k : Nat} (hi : i < s.ent.length) (hk : k < s.ent.length) : domsP (domD s.par (semiD (turned G) s.ent s.par s.ent.length).semi s.ent.length s.ent.length) (i : Int) (k : Int) = true ↔ Dm (EdP G s.ent) i k := by
  have S := h.sch
  have ho := semiD_ok (B := turned G) S.par s.ent.length (Nat.le_refl _)
  exact domsP_dm S.tree (domD_ok S.par ho.semi s.ent.length (Nat.le_refl _)).1 (fun j h0 hj => h.above h0 hj) hi hk
/-- The first one is above nothing. -/
theorem Fin.above0 {G : List (List Int)} {s : Dfs} (h : Fin G s) : gt (domD s.par (semiD (turned G) s.ent s.par s.ent.length).semi s.ent.length s.ent.length) 0 = -1 := by
  have S := h.sch
  have ho := semiD_ok (B := turned G) S.par s.ent.length (Nat.le_refl _)
  obtain ⟨h1, h2⟩ := domD_ok S.par ho.semi s.ent.length (Nat.le_refl _)
  have := h2 0 (List.getElem?_eq_some_iff.1 h.tok.e0).1
  have e : ((0 : Nat) : Int) = 0 := rfl
  rw [e] at this
  omega
/-! ### The document's words -/
theorem Fin.next_above {c : List Ins} {s : Dfs} (h : Fin (nextG c) s) {i d : Nat} {x y : Int} (hx : s.ent[i]? = some x) (hy : s.ent[d]? = some y) (hd : IdomOf (EdP (nextG c) s.ent) i d) : y ≠ x ∧ Dom c y x ∧ ∀ z, z ≠ x → Dom c z x → Dom c z y := by
  refine ⟨fun e => ?_, (h.dom hy hx).1 hd.2.1, fun z hz hzx => ?_⟩
  · subst e
    have : d = i := by rw [← idx_at h.dok.nodup hy, ← idx_at h.dok.nodup hx]
    have := hd.1
    omega
  · obtain ⟨k, hk⟩ := List.mem_iff_getElem?.1 ((h.mem z).2 hzx.ra)
    refine (h.dom hk hy).1 (hd.2.2 k (fun e => hz ?_) ((h.dom hk hx).2 hzx))
    subst e
    rw [hk] at hx; injection hx
theorem upB_iff {c : List Ins} (hc : Closed c) (h0 : 0 < c.length) (n a : Int) : upB c n a = true ↔ a ≠ n ∧ Dom c a n ∧ ∀ z, z ≠ n → Dom c z n → Dom c z a := by
  unfold upB
  rw [Bool.and_eq_true, Bool.and_eq_true, Bool.not_eq_true', decide_eq_false_iff_not, domB_iff hc h0, List.all_eq_true, and_assoc]
  refine and_congr Iff.rfl (and_congr Iff.rfl ⟨fun hall z hz hzn => ?_, fun hall b hb => ?_⟩)
  · have hzi := hzn.ra.inside hc (zero_inside h0)
    have h1 := hall z.toNat (List.mem_range.2 (by unfold Inside at hzi; omega))
    have e : ((z.toNat : Nat) : Int) = z := by unfold Inside at hzi; omega
    rw [e] at h1
    have h2 := (domB_iff hc h0 z n).2 hzn
    rw [h2, decide_eq_false hz] at h1
    exact (domB_iff hc h0 z a).1 (by simpa using h1)
  · by_cases hbn : (b : Int) = n
    · simp [hbn]
    · cases hd : domB c (b : Int) n with
      | false => simp
      | true =>
        have h2 := (domB_iff hc h0 (b : Int) a).2 (hall _ hbn ((domB_iff hc h0 _ _).1 hd))
        simp [h2]
theorem up_one {c : List Ins} {n a b : Int} (ha : a ≠ n ∧ Dom c a n ∧ ∀ z, z ≠ n → Dom c z n → Dom c z a) (hb : b ≠ n ∧ Dom c b n ∧ ∀ z, z ≠ n → Dom c z n → Dom c z b) : a = b :=
  Dom.anti (hb.2.2 a ha.1 ha.2.1) (ha.2.2 b hb.1 hb.2.1)
theorem aboveN_some {c : List Ins} (hc : Closed c) (h0 : 0 < c.length) {n a : Int} (ha : a ≠ n ∧ Dom c a n ∧ ∀ z, z ≠ n → Dom c z n → Dom c z a) : aboveN c n = a := by
  have hai := ha.2.1.ra.inside hc (zero_inside h0)
  unfold Inside at hai
  unfold aboveN
  have e : (List.range c.length).find? (fun a : Nat => upB c n (a : Int)) = some a.toNat := by
    rw [List.find?_range_eq_some]
    refine ⟨?_, List.mem_range.2 (by omega), fun j hj => ?_⟩
    · rw [upB_iff hc h0, Int.toNat_of_nonneg hai.1]; exact ha
    · cases hu : upB c n (j : Int) with
      | false => rfl
      | true =>
        have := up_one ((upB_iff hc h0 n (j : Int)).1 hu) ha
        omega
  rw [e]
  show ((a.toNat : Nat) : Int) = a
  omega
theorem aboveN_none {c : List Ins} (hc : Closed c) (h0 : 0 < c.length) {n : Int} (ha : ∀ a, ¬ (a ≠ n ∧ Dom c a n)) : aboveN c n = -1 := by
  unfold aboveN
  have e : (List.range c.length).find? (fun a : Nat => upB c n (a : Int)) = none := by
    rw [List.find?_eq_none]
    intro x hx hu
    obtain ⟨h1, h2, _⟩ := (upB_iff hc h0 n (x : Int)).1 hu
    exact ha _ ⟨h1, h2⟩
  rw [e]
/-- What is next above each instruction, by the search. -/
def aboveP (G : List (List Int)) (s : Dfs) (x : Int) : Int :=
  if s.ent.contains x ∧ gt (domD s.par (semiD (turned G) s.ent s.par s.ent.length).semi s.ent.length s.ent.length) (s.ent.idxOf x : Int) ≠ -1 then gt s.ent (gt (domD s.par (semiD (turned G) s.ent s.par s.ent.length).semi s.ent.length s.ent.length) (s.ent.idxOf x : Int)) else -1
theorem Fin.aboveN {c : List Ins} {s : Dfs} (h : Fin (nextG c) s) (hc : Closed c) (h0 : 0 < c.length) (x : Int) : aboveP (nextG c) s x = aboveN c x := by
  unfold aboveP
  by_cases hx : x ∈ s.ent
  · have hi := List.idxOf_lt_length_of_mem hx
    have hxi := at_idx hx
    by_cases hz : s.ent.idxOf x = 0
    · have hx0 : x = 0 := by rw [hz, h.tok.e0] at hxi; injection hxi with e; exact e.symm
      rw [if_neg (by rw [hz]; intro hn; exact hn.2 h.above0)]
      subst hx0
      refine (aboveN_none hc h0 fun a ⟨h1, h2⟩ => h1 ?_).symm
      exact h2.anti (Dom.first h2.ra)
    · obtain ⟨d, e1, e2⟩ := h.above (i := s.ent.idxOf x) (by omega) hi
      have hdl := e2.1
      have hy : s.ent[d]? = some s.ent[d] := List.getElem?_eq_getElem (by omega)
      have e3 : gt s.ent (d : Int) = s.ent[d] := gt_at (by rw [Int.toNat_natCast]; exact hy)
      rw [e1, if_pos ⟨by simpa using hx, by omega⟩, e3]
      exact (aboveN_some hc h0 (h.next_above hxi hy e2)).symm
  · rw [if_neg (fun hn => hx (by simpa using hn.1))]
    exact (aboveN_none hc h0 fun a ⟨h1, h2⟩ => hx ((h.mem x).2 h2.rb)).symm
theorem Fin.backs {c : List Ins} {s : Dfs} (h : Fin (nextG c) s) (hc : Closed c) (h0 : 0 < c.length) {x : Int} (hx : Inside c x) : (s.ent.contains x && (egs (turned (nextG c)) x).any (fun y => s.ent.contains y && domsP (domD s.par (semiD (turned (nextG c)) s.ent s.par s.ent.length).semi s.ent.length s.ent.length) (s.ent.idxOf x : Int) (s.ent.idxOf y : Int))) = true ↔ tails c x ≠ [] := by
  have hxl : 0 ≤ x ∧ x < ((nextG c).length : Int) := by rw [nextG_len]; exact hx
  rw [Bool.and_eq_true, List.any_eq_true, List.contains_iff_mem]
  have key : ∀ y, y ∈ tails c x ↔ y ∈ s.ent ∧ x ∈ nexts c y ∧ Dom c x y := fun y => by
    unfold tails
    rw [List.mem_filter, Bool.and_eq_true, Bool.and_eq_true, reachedB_iff hc h0, domB_iff hc h0, List.contains_iff_mem, h.mem y]
    constructor
    · rintro ⟨_, ⟨h1, h2⟩, h3⟩; exact ⟨h1, h2, h3⟩
    · rintro ⟨h1, h2, h3⟩
      have hy := h1.inside hc (zero_inside h0)
      unfold Inside at hy
      exact ⟨List.mem_map.2 ⟨y.toNat, List.mem_range.2 (by omega), by show ((y.toNat : Nat) : Int) = y; omega⟩, ⟨h1, h2⟩, h3⟩
  constructor
  · rintro ⟨h1, y, h2, h3⟩ he
    rw [Bool.and_eq_true, List.contains_iff_mem, h.doms (List.idxOf_lt_length_of_mem h1)] at h3
    · have h4 := (h.dom (at_idx h1) (at_idx h3.1)).1 h3.2
      obtain ⟨h5, h6⟩ := (turned_mem h.in hxl).1 h2
      rw [egs_nextG c h5.1] at h6
      have := (key y).2 ⟨h3.1, h6, h4⟩
      rw [he] at this; simp at this
    · exact List.idxOf_lt_length_of_mem h3.1
  · intro he
    obtain ⟨y, hy⟩ := List.exists_mem_of_ne_nil _ he
    obtain ⟨h1, h2, h3⟩ := (key y).1 hy
    have hxe := (h.mem x).2 h3.ra
    have hyi := h.dok.inn y h1
    refine ⟨hxe, y, (turned_mem h.in hxl).2 ⟨hyi, by rw [egs_nextG c hyi.1]; exact h2⟩, ?_⟩
    rw [Bool.and_eq_true, List.contains_iff_mem, h.doms (List.idxOf_lt_length_of_mem hxe) (List.idxOf_lt_length_of_mem h1)]
    exact ⟨h1, (h.dom (at_idx hxe) (at_idx h1)).2 h3⟩
theorem loopN_nil {c : List Ins} {h : Nat} (hh : h < c.length) : loopN c (h : Int) = [] ↔ tails c (h : Int) = [] := by
  unfold loopN
  by_cases ht : tails c (h : Int) = []
  · simp [ht]
  · rw [if_neg ht]
    refine ⟨fun he => ?_, fun he => absurd he ht⟩
    have : (h : Int) ∈ ((List.range c.length).map Int.ofNat).filter (inLoop c (h : Int)) := List.mem_filter.2 ⟨List.mem_map.2 ⟨h, List.mem_range.2 hh, rfl⟩, by unfold inLoop; simp⟩
    rw [he] at this; simp at this
end Go.Proofs.Ytbpagfddofbjbaa.Cd
namespace Go.Proofs.Ytbpagfddofbjbaa.Cd
set_option linter.unusedVariables false

def upS (e ab : List Int) (m : Nat) : Nat → List Int
  | 0 => List.replicate m (-1)
  | k + 1 => if gt ab (k : Int) = -1 then upS e ab m k else (upS e ab m k).set (gt e (k : Int)).toNat (gt e (gt ab (k : Int)))
theorem upS_len (e ab : List Int) (m : Nat) : ∀ k, (upS e ab m k).length = m
  | 0 => by simp [upS]
  | k + 1 => by
    unfold upS
    split
    · exact upS_len e ab m k
    · rw [List.length_set]; exact upS_len e ab m k
theorem take_idx {e : List Int} (hn : e.Nodup) {k : Nat} {y : Int} (hy : e[k]? = some y) (x : Int) : x ∈ e.take (k + 1) ↔ x ∈ e.take k ∨ x = y := by
  rw [List.take_add_one, hy]; simp
theorem upS_at {e ab : List Int} {m : Nat} (hn : e.Nodup) (hin : ∀ x ∈ e, 0 ≤ x ∧ x < (m : Int)) : ∀ (k : Nat), k ≤ e.length → ∀ x : Nat, x < m → (upS e ab m k)[x]? = some (if (x : Int) ∈ e.take k ∧ gt ab (e.idxOf (x : Int) : Int) ≠ -1 then gt e (gt ab (e.idxOf (x : Int) : Int)) else -1)
  | 0, _, x, hx => by simp [upS, hx]
  | k + 1, hk, x, hx => by
    have hy : e[k]? = some e[k] := List.getElem?_eq_getElem hk
    have hge : gt e (k : Int) = e[k] := gt_at (by rw [Int.toNat_natCast]; exact hy)
    have hyin := hin _ (List.mem_of_getElem? hy)
    have ih := upS_at (ab := ab) hn hin k (by omega) x hx
    have hix := idx_at hn hy
    have hnot : e[k] ∉ e.take k := fun h => by
      obtain ⟨j, hj⟩ := List.mem_iff_getElem?.1 h
      rw [List.getElem?_take] at hj
      split at hj
      · have := idx_at hn hj; omega
      · cases hj
    unfold upS
    by_cases hxy : (x : Int) = e[k]
    · rw [hxy] at ih ⊢
      have hm : e[k] ∈ e.take (k + 1) := (take_idx hn hy _).2 (.inr rfl)
      rw [hix] at ih ⊢
      by_cases hab : gt ab (k : Int) = -1
      · rw [if_pos hab, ih, if_neg (fun q => q.2 hab), if_neg (fun q => q.2 hab)]
      · rw [if_neg hab, if_pos ⟨hm, hab⟩, hge]
        have e1 : (e[k]).toNat = x := by omega
        rw [e1, List.getElem?_set_self (by rw [upS_len]; exact hx)]
    · have e0 : ((x : Int) ∈ e.take (k + 1)) = ((x : Int) ∈ e.take k) := propext ((take_idx hn hy _).trans ⟨fun q => q.elim id (fun q => absurd q hxy), .inl⟩)
      simp only [e0]
      rw [← ih]
      split
      · rfl
      · rw [hge, List.getElem?_set_ne (by omega)]
theorem upS_all {e ab : List Int} {m : Nat} (hn : e.Nodup) (hin : ∀ x ∈ e, 0 ≤ x ∧ x < (m : Int)) {x : Nat} (hx : x < m) : (upS e ab m e.length)[x]? = some (if e.contains (x : Int) = true ∧ gt ab (e.idxOf (x : Int) : Int) ≠ -1 then gt e (gt ab (e.idxOf (x : Int) : Int)) else -1) := by
  rw [upS_at hn hin e.length (Nat.le_refl _) x hx, List.take_length]
  congr 1
  simp only [List.contains_iff_mem]
/-- It is the document's. -/
theorem Fin.ups {c : List Ins} {s : Dfs} (h : Fin (nextG c) s) (hc : Closed c) (h0 : 0 < c.length) : upS s.ent (domD s.par (semiD (turned (nextG c)) s.ent s.par s.ent.length).semi s.ent.length s.ent.length) c.length s.ent.length = ((List.range c.length).map (fun x : Nat => Cd.aboveN c (x : Int))) := by
  have hl := nextG_len c
  apply List.ext_getElem?
  intro i
  by_cases hi : i < c.length
  · rw [upS_all h.dok.nodup (fun x hx => by have := h.dok.inn x hx; rw [hl] at this; exact this) hi, List.getElem?_map, List.getElem?_range hi, Option.map_some]
    congr 1
    exact h.aboveN hc h0 (i : Int)
  · rw [List.getElem?_eq_none (by rw [upS_len]; omega), List.getElem?_eq_none (by simp; omega)]
end Go.Proofs.Ytbpagfddofbjbaa.Cd
