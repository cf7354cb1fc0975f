/-
  A search in depth, step by step, on lists: the order in which it leaves is the document's.
  Layer 9: rows of one's own, each in a block of its own; a map of places.
  Layer 9: contract of (*walk).enter.
-/
import Derived.Test.YtbpagfddofbjbaaQG9A
import Derived.Test.YtbpagfddofbjbaaQR9A
import Derived.MapViews
import Derived.Carry
import Derived.WideKeyArgs2
import Derived.ChangeMaps
import Derived.Maps.OwnSet
import Derived.Maps.AppendAt
import Derived.Test.YtbpagfddofbjbaaLast
namespace Go.Proofs.Ytbpagfddofbjbaa.Cd
set_option linter.unusedVariables false

/-- What a search has: what it entered, whence (places), what it left, how many edges of each it tried, and its path. -/
structure Dfs where
  ent : List Int
  par : List Int
  lft : List Int
  tri : List Int
  pth : List Int
def Dfs.first (n : Nat) : Dfs := ⟨[0], [-1], [], List.replicate n 0, [0]⟩
inductive DStep (G : List (List Int)) : Dfs → Dfs → Prop where
  | old {e p l t q : List Int} {a y : Int} {k : Nat} : t[a.toNat]? = some (k : Int) → (egs G a)[k]? = some y → y ∈ e → DStep G ⟨e, p, l, t, q ++ [a]⟩ ⟨e, p, l, t.set a.toNat ((k : Int) + 1), q ++ [a]⟩
  | new {e p l t q : List Int} {a y : Int} {k : Nat} : t[a.toNat]? = some (k : Int) → (egs G a)[k]? = some y → y ∉ e → DStep G ⟨e, p, l, t, q ++ [a]⟩ ⟨e ++ [y], p ++ [(e.idxOf a : Int)], l, t.set a.toNat ((k : Int) + 1), q ++ [a] ++ [y]⟩
  | out {e p l t q : List Int} {a : Int} {k : Nat} : t[a.toNat]? = some (k : Int) → (egs G a).length ≤ k → DStep G ⟨e, p, l, t, q ++ [a]⟩ ⟨e, p, l ++ [a], t, q⟩
inductive DSteps (G : List (List Int)) : Dfs → Dfs → Prop where
  | refl (s : Dfs) : DSteps G s s
  | more {s t u : Dfs} : DSteps G s t → DStep G t u → DSteps G s u
theorem DSteps.one {G : List (List Int)} {s t : Dfs} (h : DStep G s t) : DSteps G s t := .more (.refl s) h
theorem DSteps.trans {G : List (List Int)} {s t u : Dfs} (h : DSteps G s t) (k : DSteps G t u) : DSteps G s u := by
  induction k with
  | refl => exact h
  | more _ hs ih => exact .more ih hs
theorem DSteps.ahead {G : List (List Int)} {s t u : Dfs} (h : DStep G s t) (k : DSteps G t u) : DSteps G s u := (DSteps.one h).trans k
theorem DStep.det {G : List (List Int)} {s t u : Dfs} (h : DStep G s t) (k : DStep G s u) : t = u := by
  cases h with
  | @old e p l t q a y k1 h1 h2 h3 =>
    generalize hq : q ++ [a] = q' at k
    cases k with
    | old k1 k2 k3 =>
      obtain ⟨rfl, e2⟩ := List.append_inj' hq rfl
      injection e2 with e2 _; subst e2
      rw [h1] at k1; injection k1 with k1
      rw [k1]
    | new k1 k2 k3 =>
      obtain ⟨rfl, e2⟩ := List.append_inj' hq rfl
      injection e2 with e2 _; subst e2
      rw [h1] at k1; injection k1 with k1
      have k1 : _ = _ := Int.ofNat.inj k1
      subst k1
      rw [h2] at k2; injection k2 with k2
      subst k2
      exact absurd h3 k3
    | out k1 k2 =>
      obtain ⟨rfl, e2⟩ := List.append_inj' hq rfl
      injection e2 with e2 _; subst e2
      rw [h1] at k1; injection k1 with k1
      have k1 : _ = _ := Int.ofNat.inj k1
      subst k1
      have := (List.getElem?_eq_some_iff.1 h2).1
      omega
  | @new e p l t q a y k1 h1 h2 h3 =>
    generalize hq : q ++ [a] = q' at k
    cases k with
    | old k1 k2 k3 =>
      obtain ⟨rfl, e2⟩ := List.append_inj' hq rfl
      injection e2 with e2 _; subst e2
      rw [h1] at k1; injection k1 with k1
      have k1 : _ = _ := Int.ofNat.inj k1
      subst k1
      rw [h2] at k2; injection k2 with k2
      subst k2
      exact absurd k3 h3
    | new k1 k2 k3 =>
      obtain ⟨rfl, e2⟩ := List.append_inj' hq rfl
      injection e2 with e2 _; subst e2
      rw [h1] at k1; injection k1 with k1
      have k1 : _ = _ := Int.ofNat.inj k1
      subst k1
      rw [h2] at k2; injection k2 with k2
      subst k2
      rw [hq]
    | out k1 k2 =>
      obtain ⟨rfl, e2⟩ := List.append_inj' hq rfl
      injection e2 with e2 _; subst e2
      rw [h1] at k1; injection k1 with k1
      have k1 : _ = _ := Int.ofNat.inj k1
      subst k1
      have := (List.getElem?_eq_some_iff.1 h2).1
      omega
  | @out e p l t q a k1 h1 h2 =>
    generalize hq : q ++ [a] = q' at k
    cases k with
    | old k1 k2 k3 =>
      obtain ⟨rfl, e2⟩ := List.append_inj' hq rfl
      injection e2 with e2 _; subst e2
      rw [h1] at k1; injection k1 with k1
      have k1 : _ = _ := Int.ofNat.inj k1
      subst k1
      have := (List.getElem?_eq_some_iff.1 k2).1
      omega
    | new k1 k2 k3 =>
      obtain ⟨rfl, e2⟩ := List.append_inj' hq rfl
      injection e2 with e2 _; subst e2
      rw [h1] at k1; injection k1 with k1
      have k1 : _ = _ := Int.ofNat.inj k1
      subst k1
      have := (List.getElem?_eq_some_iff.1 k2).1
      omega
    | out k1 k2 =>
      obtain ⟨rfl, e2⟩ := List.append_inj' hq rfl
      injection e2 with e2 _; subst e2
      rfl
theorem DStep.not_end {G : List (List Int)} {s t : Dfs} (h : DStep G s t) : s.pth ≠ [] := by cases h <;> simp
/-- Two ways from one state: one of them goes on to the other one's end. -/
theorem DSteps.line {G : List (List Int)} {s t u : Dfs} (h : DSteps G s t) (k : DSteps G s u) : DSteps G t u ∨ DSteps G u t := by
  induction h with
  | refl => exact .inl k
  | @more t v _ hs ih =>
    rcases ih with ih | ih
    · clear k
      have key : ∀ {x y : Dfs}, DSteps G x y → ∀ {v : Dfs}, DStep G x v → DSteps G v y ∨ DSteps G y v := by
        intro x y h
        induction h with
        | refl => intro v hv; exact .inr (.one hv)
        | @more y z _ h2 ih2 =>
          intro v hv
          rcases ih2 hv with h3 | h3
          · exact .inl (.more h3 h2)
          · cases h3 with
            | refl => exact .inl (.one h2)
            | @more a b h4 h5 =>
              have key2 : ∀ {x y : Dfs}, DSteps G x y → x = y ∨ ∃ z, DStep G x z ∧ DSteps G z y := by
                intro x y h
                induction h with
                | refl => exact .inl rfl
                | @more y z _ h7 ih7 =>
                  rcases ih7 with rfl | ⟨q, h8, h9⟩
                  · exact .inr ⟨_, h7, .refl _⟩
                  · exact .inr ⟨q, h8, .more h9 h7⟩
              rcases key2 (DSteps.more h4 h5) with rfl | ⟨q, h6, h7⟩
              · exact .inl (.one h2)
              · obtain rfl := h6.det h2
                exact .inr h7
      exact key ih hs
    · exact .inr (.more ih hs)
/-- Two ends are one. -/
theorem DSteps.end {G : List (List Int)} {s t u : Dfs} (h : DSteps G s t) (k : DSteps G s u) (ht : t.pth = []) (hu : u.pth = []) : t = u := by
  have fin : ∀ {x y : Dfs}, DSteps G x y → x.pth = [] → x = y := by
    intro x y h
    induction h with
    | refl => intro _; rfl
    | more _ h2 ih => intro hx; obtain rfl := ih hx; exact absurd hx h2.not_end
  rcases h.line k with h1 | h1
  · exact fin h1 ht
  · exact (fin h1 hu).symm

/-! ### The same as the document's search -/
theorem toNat_ne {c : List Ins} {x y : Int} (hx : Inside c x) (hy : Inside c y) (h : x ≠ y) : x.toNat ≠ y.toNat := by
  unfold Inside at hx hy; omega
def SimF (c : List Ins) (f : Nat) : Prop := ∀ (n : Int) (p : LP) (P par tri : List Int), LGood c p → Inside c n → n ∉ p.1 → c.length ≤ f + p.1.length → tri.length = c.length → (∀ x, Inside c x → x ∉ p.1 → tri[x.toNat]? = some 0) →
  ∃ par' tri', DSteps (nextG c) ⟨p.1 ++ [n], par, p.2, tri, P ++ [n]⟩ ⟨(leaveF c f n p).1, par', (leaveF c f n p).2, tri', P⟩ ∧ tri'.length = c.length ∧ (∀ x ∈ p.1, tri'[x.toNat]? = tri[x.toNat]?) ∧ (∀ x, Inside c x → x ∉ (leaveF c f n p).1 → tri'[x.toNat]? = some 0)
theorem simL {c : List Ins} (hc : Closed c) {f : Nat} (hf : SimF c f) {n : Int} (hn : Inside c n) (P : List Int) : ∀ (l pre : List Int) (p : LP) (par tri : List Int), nexts c n = pre ++ l → LGood c p → n ∈ p.1 → c.length ≤ f + p.1.length → tri.length = c.length → tri[n.toNat]? = some (pre.length : Int) → (∀ x, Inside c x → x ∉ p.1 → tri[x.toNat]? = some 0) →
    ∃ par' tri', DSteps (nextG c) ⟨p.1, par, p.2, tri, P ++ [n]⟩ ⟨(leaveL (leaveF c f) l p).1, par', (leaveL (leaveF c f) l p).2, tri', P ++ [n]⟩ ∧ tri'.length = c.length ∧ tri'[n.toNat]? = some ((nexts c n).length : Int) ∧ (∀ x ∈ p.1, x ≠ n → tri'[x.toNat]? = tri[x.toNat]?) ∧ (∀ x, Inside c x → x ∉ (leaveL (leaveF c f) l p).1 → tri'[x.toNat]? = some 0)
  | [], pre, p, par, tri, he, hg, hm, hl, ht, htn, hz => ⟨par, tri, .refl _, ht, by rw [htn, he, List.append_nil], fun _ _ _ => rfl, hz⟩
  | y :: l, pre, p, par, tri, he, hg, hm, hl, ht, htn, hz => by
    have hy : (egs (nextG c) n)[pre.length]? = some y := by rw [egs_nextG c hn.1, he]; simp
    have hyi : Inside c y := hc n hn y (by rw [he]; simp)
    have he2 : nexts c n = (pre ++ [y]) ++ l := by rw [he]; simp
    have hnl : n.toNat < tri.length := by rw [ht]; unfold Inside at hn; omega
    have htn2 : (tri.set n.toNat ((pre.length : Int) + 1))[n.toNat]? = some (((pre ++ [y]).length : Nat) : Int) := by rw [List.getElem?_set_self hnl]; simp
    by_cases hyp : y ∈ p.1
    · have e : leaveL (leaveF c f) (y :: l) p = leaveL (leaveF c f) l p := by rw [leaveL, if_pos hyp]
      rw [e]
      obtain ⟨par', tri', h1, h2, h3, h4, h5⟩ := simL hc hf hn P l (pre ++ [y]) p par (tri.set n.toNat ((pre.length : Int) + 1)) he2 hg hm hl (by simpa using ht) htn2 (fun x hx hxp => by
        rw [List.getElem?_set_ne (fun e => hxp (by have : n = x := by unfold Inside at hn hx; omega
                                                   exact this ▸ hm))]
        exact hz x hx hxp)
      exact ⟨par', tri', .ahead (.old htn hy hyp) h1, h2, h3, fun x hx hxn => by rw [h4 x hx hxn, List.getElem?_set_ne (toNat_ne hn (hg.inside x hx) (Ne.symm hxn))], h5⟩
    · have e : leaveL (leaveF c f) (y :: l) p = leaveL (leaveF c f) l (leaveF c f y p) := by rw [leaveL, if_neg hyp]
      rw [e]
      obtain ⟨g1, g2⟩ := leaveF_good hc f y p hg hyi hyp
      obtain ⟨r1, hr1⟩ := g2.1
      obtain ⟨par1, tri1, a1, a2, a3, a4⟩ := hf y p (P ++ [n]) (par ++ [(p.1.idxOf n : Int)]) (tri.set n.toNat ((pre.length : Int) + 1)) hg hyi hyp hl (by simpa using ht) (fun x hx hxp => by
        rw [List.getElem?_set_ne (fun e => hxp (by have : n = x := by unfold Inside at hn hx; omega
                                                   exact this ▸ hm))]
        exact hz x hx hxp)
      obtain ⟨par', tri', h1, h2, h3, h4, h5⟩ := simL hc hf hn P l (pre ++ [y]) (leaveF c f y p) par1 tri1 he2 g1 (by rw [← hr1]; simp [hm]) (by rw [← hr1, List.length_append]; omega) a2 (by rw [a3 n hm]; exact htn2) a4
      exact ⟨par', tri', .ahead (.new htn hy hyp) (a1.trans h1), h2, h3, fun x hx hxn => by rw [h4 x (by rw [← hr1]; simp [hx]) hxn, a3 x hx, List.getElem?_set_ne (toNat_ne hn (hg.inside x hx) (Ne.symm hxn))], h5⟩
theorem simF {c : List Ins} (hc : Closed c) : ∀ f, SimF c f
  | 0 => fun n p P par tri hg hn hm hl ht hz => by have := hg.lt hn hm; omega
  | f + 1 => fun n p P par tri hg hn hm hl ht hz => by
    obtain ⟨par', tri', h1, h2, h3, h4, h5⟩ := simL hc (simF hc f) hn P (nexts c n) [] (p.1 ++ [n], p.2) par tri rfl (hg.add hn hm) (by simp) (by simp; omega) ht (by simpa using hz n hn hm) (fun x hx hxp => hz x hx (fun h => hxp (by simp [h])))
    refine ⟨par', tri', .more h1 (.out h3 (by rw [egs_nextG c hn.1]; exact Nat.le_refl _)), h2, fun x hx => h4 x (by simp [hx]) (fun e => hm (e ▸ hx)), h5⟩
/-- The end of the search. -/
theorem dfs_end {c : List Ins} (hc : Closed c) (h0 : 0 < c.length) : ∃ par tri, DSteps (nextG c) (Dfs.first c.length) ⟨(leaveF c c.length 0 ([], [])).1, par, (leaveF c c.length 0 ([], [])).2, tri, []⟩ := by
  obtain ⟨par', tri', h1, _⟩ := simF hc c.length 0 ([], []) [] [-1] (List.replicate c.length 0) ⟨by simp, by simp, by simp⟩ ⟨Int.le_refl _, by omega⟩ (by simp) (by simp) (by simp) (fun x hx _ => by
    rw [List.getElem?_replicate, if_pos (by unfold Inside at hx; omega)])
  exact ⟨par', tri', h1⟩
end Go.Proofs.Ytbpagfddofbjbaa.Cd
namespace Go.Proofs.Ytbpagfddofbjbaa
open Go.RowKit Cd Go.Maps
set_option linter.unusedVariables false
set_option linter.unusedSimpArgs false

/-- Rows that are one's own, each in a block of its own, from lo on. -/
structure Fam (w : World) (lo : Nat) (vs : List Value) (G : List (List Int)) : Prop where
  len : vs.length = G.length
  rows : ∀ (i : Nat) (l : List Int), G[i]? = some l → ∃ a c, vs[i]? = some (.slice a l.length c) ∧ w.ownsRow lo 3 1 (.slice a l.length c) l.length (ints l)
  apart : ∀ (i j : Nat) (u v : Value) (g : Nat), i ≠ j → vs[i]? = some u → vs[j]? = some v → u.ownBlock = some g → v.ownBlock ≠ some g
theorem Fam.at {w : World} {lo : Nat} {vs : List Value} {G : List (List Int)} (h : Fam w lo vs G) {i : Nat} {u : Value} (hu : vs[i]? = some u) {g : Nat} (hg : u.ownBlock = some g) : lo ≤ g ∧ g < w.heap.size := by
  have hlt := (List.getElem?_eq_some_iff.1 hu).1
  obtain ⟨l, hl⟩ : ∃ l, G[i]? = some l := ⟨_, List.getElem?_eq_getElem (by rw [← h.len]; exact hlt)⟩
  obtain ⟨a, c, h1, h2⟩ := h.rows i l hl
  rw [hu] at h1
  injection h1 with h1
  subst h1
  exact h2.lt g hg
theorem Fam.keep {w w' : World} {lo : Nat} {vs : List Value} {G : List (List Int)} (h : Fam w lo vs G) (hb : ∀ g, lo ≤ g → g < w.heap.size → w'.heap[g]? = w.heap[g]?) : Fam w' lo vs G := by
  refine ⟨h.len, fun i l hi => ?_, h.apart⟩
  obtain ⟨a, c, h1, h2⟩ := h.rows i l hi
  exact ⟨a, c, h1, own_keep h2 (fun g hg => hb g (h2.lt g hg).1 (h2.lt g hg).2)⟩
theorem Fam.below {w w' : World} {lo : Nat} {vs : List Value} {G : List (List Int)} (h : Fam w lo vs G) (hb : Below w.heap.size w w') : Fam w' lo vs G := h.keep (fun g _ hg => hb.block g hg)
/-- A row has grown. -/
theorem Fam.put {w w3 : World} {lo : Nat} {vs : List Value} {G : List (List Int)} {i : Nat} {l : List Int} {y : Int} {a : Option Addr} {c g3 cap3 : Nat} (h : Fam w lo vs G) (hi : G[i]? = some l) (hv : vs[i]? = some (.slice a l.length c))
    (hown : w3.ownsRow lo 3 1 (.slice (some ⟨g3, 0, none⟩) (l.length + 1) cap3) (l.length + 1) (ints l ++ [.int .i64 y])) (hk : ∀ g, g < w.heap.size → (Value.slice a l.length c).ownBlock ≠ some g → w3.heap[g]? = w.heap[g]?) (hat : (Value.slice a l.length c).ownBlock = some g3 ∨ w.heap.size ≤ g3) :
    Fam w3 lo (vs.set i (.slice (some ⟨g3, 0, none⟩) (l.length + 1) cap3)) (G.set i (l ++ [y])) := by
  have hilt := (List.getElem?_eq_some_iff.1 hi).1
  refine ⟨by simp [h.len], fun j lj hj => ?_, fun j k u v g hjk hu hv2 hg => ?_⟩
  · by_cases hij : i = j
    · subst hij
      rw [List.getElem?_set_self hilt] at hj
      injection hj with hj
      subst hj
      refine ⟨some ⟨g3, 0, none⟩, cap3, by rw [List.getElem?_set_self (by rw [h.len]; exact hilt)]; simp, ?_⟩
      simpa [ints] using hown
    · rw [List.getElem?_set_ne hij] at hj
      obtain ⟨a2, c2, h1, h2⟩ := h.rows j lj hj
      refine ⟨a2, c2, by rw [List.getElem?_set_ne hij]; exact h1, own_keep h2 (fun g hg => ?_)⟩
      exact hk g (h2.lt g hg).2 (h.apart j i _ _ g (fun e => hij e.symm) h1 hv hg)
  · have hil : i < vs.length := by rw [h.len]; exact hilt
    have key : ∀ (m : Nat) (x : Value), m ≠ i → vs[m]? = some x → x.ownBlock ≠ some g3 := fun m x hm hx e => by
      rcases hat with h4 | h4
      · exact h.apart m i x _ g3 hm hx hv e h4
      · have := (h.at hx e).2; omega
    by_cases hij : i = j
    · subst hij
      rw [List.getElem?_set_self hil] at hu
      injection hu with hu
      subst hu
      simp [Value.ownBlock] at hg
      subst hg
      rw [List.getElem?_set_ne (by omega)] at hv2
      exact key k v (by omega) hv2
    · rw [List.getElem?_set_ne hij] at hu
      by_cases hik : i = k
      · subst hik
        rw [List.getElem?_set_self hil] at hv2
        injection hv2 with hv2
        subst hv2
        intro e
        simp [Value.ownBlock] at e
        subst e
        exact key j u (by omega) hu hg
      · rw [List.getElem?_set_ne hik] at hv2
        exact h.apart j k u v g hjk hu hv2 hg
/-- A row is cut. -/
theorem Fam.cut {w : World} {lo : Nat} {vs : List Value} {G : List (List Int)} {i k : Nat} {l : List Int} {a : Option Addr} {c : Nat} (h : Fam w lo vs G) (hi : G[i]? = some l) (hv : vs[i]? = some (.slice a l.length c)) (hk : k ≤ l.length) :
    Fam w lo (vs.set i (.slice a k c)) (G.set i (l.take k)) := by
  have hilt := (List.getElem?_eq_some_iff.1 hi).1
  have hil : i < vs.length := by rw [h.len]; exact hilt
  have hob : (Value.slice a k c).ownBlock = (Value.slice a l.length c).ownBlock := by
    obtain ⟨a2, c2, h1, h2⟩ := h.rows i l hi
    rw [hv] at h1
    injection h1 with h1
    injection h1 with e1 _ e2
    subst e1 e2
    rcases (own_room h2).2.2 with rfl | ⟨g, off, rfl⟩ <;> simp [Value.ownBlock]
  refine ⟨by simp [h.len], fun j lj hj => ?_, fun j m u v g hjm hu hv2 hg => ?_⟩
  · by_cases hij : i = j
    · subst hij
      rw [List.getElem?_set_self hilt] at hj
      injection hj with hj
      subst hj
      obtain ⟨a2, c2, h1, h2⟩ := h.rows i l hi
      rw [hv] at h1
      injection h1 with h1
      injection h1 with e1 _ e2
      subst e1 e2
      have hl : (l.take k).length = k := by rw [List.length_take]; omega
      refine ⟨a, c, by rw [List.getElem?_set_self hil, hl], ?_⟩
      rw [hl]
      have := own_short h2 hk
      rwa [← List.map_take] at this
    · rw [List.getElem?_set_ne hij] at hj
      obtain ⟨a2, c2, h1, h2⟩ := h.rows j lj hj
      exact ⟨a2, c2, by rw [List.getElem?_set_ne hij]; exact h1, h2⟩
  · have back : ∀ (m : Nat) (x : Value), (vs.set i (.slice a k c))[m]? = some x → ∃ y, vs[m]? = some y ∧ y.ownBlock = x.ownBlock := fun m x hx => by
      by_cases him : i = m
      · subst him
        rw [List.getElem?_set_self hil] at hx
        injection hx with hx
        subst hx
        exact ⟨_, hv, hob.symm⟩
      · rw [List.getElem?_set_ne him] at hx
        exact ⟨x, hx, rfl⟩
    obtain ⟨u', hu1, hu2⟩ := back j u hu
    obtain ⟨v', hv1, hv3⟩ := back m v hv2
    rw [← hv3]
    exact h.apart j m u' v' g hjm hu1 hv1 (hu2.trans hg)

/-! ### The places -/
theorem lawI : Keyed Try.prog 3 := int_keyed Try.underlying3
theorem keyI {n : Int} (h : (Lit.int .i64 n).wf = true) : keyOf Try.prog 3 (.int .i64 n) = some (.int .i64 n) := keyOf_int_mk Try.underlying3 h
theorem zeroI (w : World) : (zeroValue 3).run Try.prog w = .ok (.int .i64 0) w := by kernel_rfl
theorem intKey (n : Int) : WideAt.IsKeyLit (.int .i64 n) := trivial
theorem wfI {n : Int} (h0 : 0 ≤ n) (h1 : n ≤ 1000000) : (Lit.int .i64 n).wf = true := WalkArith.wf_i64 (by omega)
theorem cvI {x y : Int} (h : (DataW.lit (.int .i64 x) : DataW Unit) = .lit (.int .i64 y)) : x = y := by
  injection h with h; injection h
/-- The map holds where each that was entered stands. -/
structure PlM (e : List Int) (D : DataW Unit) : Prop where
  tidy : Tidy D
  has : ∀ x : Int, Maps.has D (.int .i64 x) = e.contains x
  at_ : ∀ (x : Int) z, x ∈ e → D.atKey (.int .i64 x) z = .lit (.int .i64 (e.idxOf x : Int))
theorem PlM.first : PlM [] (.map []) := ⟨tidy_empty, fun x => rfl, fun x z h => by cases h⟩
theorem PlM.put {e : List Int} {D : DataW Unit} {x : Int} (h : PlM e D) (hx : x ∉ e) : PlM (e ++ [x]) (D.put (.int .i64 x) (.lit (.int .i64 (e.length : Int)))) := by
  refine ⟨h.tidy.put (intKey _) _, fun y => ?_, fun y z hy => ?_⟩
  · by_cases e1 : y = x
    · subst e1; rw [has_put_same h.tidy.isMap (intKey _)]; simp
    · rw [has_put_other (fun e' => e1 (by injection e')), h.has y]; simp [e1]
  · by_cases e1 : y = x
    · subst e1
      rw [atKey_put_same h.tidy.isMap (intKey _), List.idxOf_append, if_neg hx]
      simp
    · rw [atKey_put_other (fun e' => e1 (by injection e'))]
      have hy2 : y ∈ e := by simpa [e1] using hy
      rw [h.at_ y z hy2, List.idxOf_append, if_pos hy2]
def PlAt (w : World) (b : Nat) (e : List Int) : Prop := ∃ D n, n ≤ e.length ∧ w.ownsMap Try.prog 3 (plainElem (H := Unit) Try.prog 3) b n D ∧ PlM e D
theorem PlAt.lt {w : World} {b : Nat} {e : List Int} (h : PlAt w b e) : b < w.heap.size := by obtain ⟨D, n, _, h, _⟩ := h; exact h.lt
theorem PlAt.keep {w w' : World} {b : Nat} {e : List Int} (h : PlAt w b e) (hb : w'.heap[b]? = w.heap[b]?) : PlAt w' b e := by
  obtain ⟨D, n, hn, ⟨es, clock, h1, F, h2, h3⟩, hp⟩ := h
  exact ⟨D, n, hn, ⟨es, clock, hb.trans h1, F, h2, h3⟩, hp⟩
theorem PlAt.made (w : World) : PlAt (w.alloc (.map #[] 0)) w.heap.size [] := ⟨.map [], 0, Nat.le_refl _, World.ownsMap_made w Try.prog 3 (plainElem (H := Unit) Try.prog 3), PlM.first⟩

/-! ### The walk -/
/-- What a search has, in memory: its struct, what it tried, its rows (those of the struct and the path), its map. -/
structure WAt (w : World) (N : Nat) (ve vp vl vq : Value) (e p l q : List Int) : Prop where
  box : w.heap[N + 2]? = some (.cells #[ve, vp, vl, .map (some (N + 1))] 67)
  fam : Fam w (N + 4) [ve, vp, vl, vq] [e, p, l, q]
  map : PlAt w (N + 1) e
theorem WAt.keep {w w' : World} {N : Nat} {ve vp vl vq : Value} {e p l q : List Int} (h : WAt w N ve vp vl vq e p l q) (hb : ∀ g, N ≤ g → g < w.heap.size → w'.heap[g]? = w.heap[g]?) : WAt w' N ve vp vl vq e p l q :=
  ⟨(hb _ (by omega) (lt_heap h.box)).trans h.box, h.fam.keep (fun g h1 h2 => hb g (by omega) h2), h.map.keep (hb _ (by omega) h.map.lt)⟩
theorem WAt.forms {w : World} {N : Nat} {ve vp vl vq : Value} {e p l q : List Int} (h : WAt w N ve vp vl vq e p l q) :
    (∃ a c, ve = .slice a e.length c ∧ w.ownsRow (N + 4) 3 1 (.slice a e.length c) e.length (ints e)) ∧ (∃ a c, vp = .slice a p.length c ∧ w.ownsRow (N + 4) 3 1 (.slice a p.length c) p.length (ints p)) ∧
    (∃ a c, vl = .slice a l.length c ∧ w.ownsRow (N + 4) 3 1 (.slice a l.length c) l.length (ints l)) ∧ (∃ a c, vq = .slice a q.length c ∧ w.ownsRow (N + 4) 3 1 (.slice a q.length c) q.length (ints q)) := by
  refine ⟨?_, ?_, ?_, ?_⟩
  · obtain ⟨a, c, h1, h2⟩ := h.fam.rows 0 e rfl
    exact ⟨a, c, by simpa using h1, h2⟩
  · obtain ⟨a, c, h1, h2⟩ := h.fam.rows 1 p rfl
    exact ⟨a, c, by simpa using h1, h2⟩
  · obtain ⟨a, c, h1, h2⟩ := h.fam.rows 2 l rfl
    exact ⟨a, c, by simpa using h1, h2⟩
  · obtain ⟨a, c, h1, h2⟩ := h.fam.rows 3 q rfl
    exact ⟨a, c, by simpa using h1, h2⟩
end Go.Proofs.Ytbpagfddofbjbaa
namespace Go.Proofs.Ytbpagfddofbjbaa
set_option maxRecDepth 100000
open Go.RowKit Cd Go.Maps
set_option linter.unusedVariables false
set_option linter.unusedSimpArgs false

theorem nv4 {w : World} {b : Nat} {x0 x1 x2 x3 : Value} {t : TypeId} (h : w.heap[b]? = some (.cells #[x0, x1, x2, x3] t (0, 0))) :
    w.cell? ⟨b, 0, none⟩ = some x0 ∧ w.cell? ⟨b, 1, none⟩ = some x1 ∧ w.cell? ⟨b, 2, none⟩ = some x2 ∧ w.cell? ⟨b, 3, none⟩ = some x3 := by
  refine ⟨?_, ?_, ?_, ?_⟩ <;> (rw [cell_of_row w b _ _ _ _ h]; rfl)
theorem step_mapUpdate_own {H : Type} (w : World) {ops : Array Oper} {o : Oper} {a : Act} {K' : Act → World → Prop} {Q : Exit → Act → World → Prop} {E : Prop}
    (hg : o.guard = none) (m x v : Operand) (t : TypeId) (hop : o.op = Op.mapUpdate t m x v)
    (k e : TypeId) (K : Keyed Try.prog k) (ht : Try.prog.underlying t = some (.map k e)) (R : Value → Option (DataW H × List MemPlace)) (b n : Nat) (D : DataW H)
    (hm : a.eval m = .map (some b)) (hown : w.ownsMap Try.prog k R b n D) (hn : n < maxLen) (key val : Value) (kl : Lit) (hx : a.eval x = key) (hv : a.eval v = val) (hkey : keyOf Try.prog k key = some kl)
    (d : DataW H) (ps : List MemPlace) (hval : R val = some (d, ps))
    (hK : ∀ w', w'.ownsMap Try.prog k R b (n + 1) (D.put kl d) → w.grownBy w' (some b) → K' (a.put o.dst undef) w') :
    if Region.wanted o (yielded ops a.tmps) = true then Oper.wp Try.prog o a w K' Q else E := by
  have hw : Region.wanted o (yielded ops a.tmps) = true := by simp [Region.wanted, hg]
  rw [if_pos hw]
  obtain ⟨w', hrun, r1, r2⟩ := hown.update K ht hn hkey hval
  unfold Oper.wp
  simp [execOp, hop, hm, hx, hv, hrun, Result.andThen]
  exact hK w' r1 r2
set_option maxHeartbeats 8000000 in
set_option maxRecDepth 100000 in
theorem enter_c (N : Nat) (ve vp vl vq : Value) (e p l q : List Int) (x y : Int) (w : World) (h : WAt w N ve vp vl vq e p l q) (hx : x ∉ e) (hx0 : 0 ≤ x ∧ x ≤ 100000) (he : e.length ≤ 100000) (hp : p.length ≤ 100000) (hN : N + 4 ≤ w.heap.size) :
    Calls Try.prog 89 #[.pointer (some ⟨N + 2, 0, none⟩), .int .i64 x, .int .i64 y] w fun r w' => r = .returned (.tuple #[]) ∧ (∃ ve' vp', WAt w' N ve' vp' vl vq (e ++ [x]) (p ++ [y]) l q) ∧ Below N w w' ∧ w'.heap[N]? = w.heap[N]? ∧ w'.heap[N + 3]? = w.heap[N + 3]? := by
  have hmix : Try.prog.follows .mixedOrders = true := by kernel_rfl
  obtain ⟨⟨ae, ce, rfl, hoe⟩, ⟨ap, cp, rfl, hop⟩, _, _⟩ := h.forms
  obtain ⟨hbx, hfam, D, n, hnl, hom, hpl⟩ := h
  obtain ⟨i0, hi0, hz0, hz1, hz2⟩ := info_parts infoInt
  have HBX := Lib.hid hbx; have HF := Lib.hid hfam; have HOD : Hid (w.drew.ownsMap Try.prog 3 (plainElem (H := Unit) Try.prog 3) (N + 1) n D) := Lib.hid hom; have HPL := Lib.hid (hpl.put hx); have HOE := Lib.hid hoe; have HOP := Lib.hid hop
  have hN2 : N + 2 < w.heap.size := by omega
  have hwx : (Lit.int .i64 x).wf = true := wfI hx0.1 (by omega)
  obtain ⟨x0, x1, x2, x3⟩ := nv4 hbx
  clear hbx hfam hom hpl hoe hop hx
  go_enter Try.func89, Try.ntmps89
  clear x0 x1 x2 x3
  go_wp2
  refine region_last (fun W : World => W.heap[N + 2]? = some (.cells #[.slice ae e.length ce, .slice ap p.length cp, vl, .map (some (N + 1))] 67)) 1000000 hmix ?_
  have hS : (fun W : World => W.heap[N + 2]? = some (.cells #[.slice ae e.length ce, .slice ap p.length cp, vl, .map (some (N + 1))] 67)) w.drew := HBX.out
  refine anyL_takeH (i := 0) (v := ?_) rfl (by decide) (by kernel_rfl) (by kernel_rfl) (by kernel_rfl) (fun _ _ _ h => h) (Or.inl ⟨by rfl, ?_⟩) hS ?_
  rotate_left
  · (intro w' hSw; obtain ⟨x0, x1, x2, x3⟩ := nv4 hSw; go_simp; first | done | with_reducible rfl)
  simp only [Act.put, List.getElem_toArray, List.getElem_cons_succ, List.getElem_cons_zero, List.setIfInBounds_toArray, List.set_cons_succ, List.set_cons_zero]
  refine anyL_takeH (i := 1) (v := ?_) rfl (by decide) (by kernel_rfl) (by kernel_rfl) (by kernel_rfl) (fun _ _ _ h => h) (Or.inl ⟨by rfl, ?_⟩) hS ?_
  rotate_left
  · (intro w' hSw; obtain ⟨x0, x1, x2, x3⟩ := nv4 hSw; go_simp; first | done | with_reducible rfl)
  simp only [Act.put, List.getElem_toArray, List.getElem_cons_succ, List.getElem_cons_zero, List.setIfInBounds_toArray, List.set_cons_succ, List.set_cons_zero]
  refine anyL_takeH (i := 2) (v := ?_) rfl (by decide) (by kernel_rfl) (by kernel_rfl) (by kernel_rfl) (fun _ _ _ h => h) (Or.inl ⟨by rfl, ?_⟩) hS ?_
  rotate_left
  · (intro w' hSw; obtain ⟨x0, x1, x2, x3⟩ := nv4 hSw; go_simp; first | done | with_reducible rfl)
  simp only [Act.put, List.getElem_toArray, List.getElem_cons_succ, List.getElem_cons_zero, List.setIfInBounds_toArray, List.set_cons_succ, List.set_cons_zero]
  refine anyL_takeH (i := 3) (v := ?_) rfl (by decide) (by kernel_rfl) (by kernel_rfl) (by kernel_rfl) (fun _ _ _ h => h) (Or.inl ⟨by rfl, ?_⟩) hS ?_
  rotate_left
  · (intro w' hSw; obtain ⟨x0, x1, x2, x3⟩ := nv4 hSw; go_simp; first | done | with_reducible rfl)
  simp only [Act.put, List.getElem_toArray, List.getElem_cons_succ, List.getElem_cons_zero, List.setIfInBounds_toArray, List.set_cons_succ, List.set_cons_zero]
  refine anyL_takeH (i := 4) (v := ?_) rfl (by decide) (by kernel_rfl) (by kernel_rfl) (by kernel_rfl) (fun _ _ _ h => h) (Or.inl ⟨by rfl, ?_⟩) hS ?_
  rotate_left
  · (intro w' hSw; obtain ⟨x0, x1, x2, x3⟩ := nv4 hSw; go_simp; first | done | with_reducible rfl)
  simp only [Act.put, List.getElem_toArray, List.getElem_cons_succ, List.getElem_cons_zero, List.setIfInBounds_toArray, List.set_cons_succ, List.set_cons_zero]
  refine anyL_takeH (i := 5) (v := ?_) rfl (by decide) (by kernel_rfl) (by kernel_rfl) (by kernel_rfl) (fun _ _ _ h => h) (Or.inl ⟨by rfl, ?_⟩) hS ?_
  rotate_left
  · (intro w' hSw; obtain ⟨x0, x1, x2, x3⟩ := nv4 hSw; go_simp; first | done | with_reducible rfl)
  simp only [Act.put, List.getElem_toArray, List.getElem_cons_succ, List.getElem_cons_zero, List.setIfInBounds_toArray, List.set_cons_succ, List.set_cons_zero]
  refine anyL_takeH (i := 6) (v := ?_) rfl (by decide) (by kernel_rfl) (by kernel_rfl) (by kernel_rfl) (fun _ _ _ h => h) (Or.inl ⟨by rfl, ?_⟩) hS ?_
  rotate_left
  · (intro w' hSw; obtain ⟨x0, x1, x2, x3⟩ := nv4 hSw; go_simp; first | done | with_reducible rfl)
  simp only [Act.put, List.getElem_toArray, List.getElem_cons_succ, List.getElem_cons_zero, List.setIfInBounds_toArray, List.set_cons_succ, List.set_cons_zero]
  refine anyL_takeH (i := 7) (v := ?_) rfl (by decide) (by kernel_rfl) (by kernel_rfl) (by kernel_rfl) (fun _ _ _ h => h) (Or.inl ⟨by rfl, ?_⟩) hS ?_
  rotate_left
  · (intro w' hSw; obtain ⟨x0, x1, x2, x3⟩ := nv4 hSw; go_simp; first | done | with_reducible rfl)
  simp only [Act.put, List.getElem_toArray, List.getElem_cons_succ, List.getElem_cons_zero, List.setIfInBounds_toArray, List.set_cons_succ, List.set_cons_zero]
  refine anyL_takeH (i := 8) (v := ?_) rfl (by decide) (by kernel_rfl) (by kernel_rfl) (by kernel_rfl) (fun _ _ _ h => h) (Or.inl ⟨by rfl, ?_⟩) hS ?_
  rotate_left
  · (intro w' hSw; obtain ⟨x0, x1, x2, x3⟩ := nv4 hSw; go_simp; first | done | with_reducible rfl)
  simp only [Act.put, List.getElem_toArray, List.getElem_cons_succ, List.getElem_cons_zero, List.setIfInBounds_toArray, List.set_cons_succ, List.set_cons_zero]
  refine anyL_takeH (i := 9) (v := ?_) rfl (by decide) (by kernel_rfl) (by kernel_rfl) (by kernel_rfl) (fun _ _ _ h => h) (Or.inl ⟨by rfl, ?_⟩) hS ?_
  rotate_left
  · (intro w' hSw; obtain ⟨x0, x1, x2, x3⟩ := nv4 hSw; go_simp; first | done | with_reducible rfl)
  simp only [Act.put, List.getElem_toArray, List.getElem_cons_succ, List.getElem_cons_zero, List.setIfInBounds_toArray, List.set_cons_succ, List.set_cons_zero]
  refine anyL_one (i := 10) (by kernel_rfl) rfl (fun K1 hK1 => ?_)
  refine step_mapUpdate_own _ (by rfl) _ _ _ 65 (by rfl) 3 3 lawI Try.underlying65 (plainElem (H := Unit) Try.prog 3) (N + 1) n D (by rfl) HOD.out (by unfold maxLen; omega) _ _ _ (by rfl) (by rfl) (keyI hwx) (.lit (.int .i64 (e.length : Int))) [] (plainElem_int Try.underlying3 (wfI (by omega) (by omega))) ?_
  intro w1 hown1 hgrow1
  have HG1 : Hid (∀ g, g ≠ N + 1 → g < w.heap.size → w1.heap[g]? = w.heap[g]?) := Lib.hid (fun g hg hl => hgrow1.block g hl (fun e' => hg (by injection e')))
  have HB1 : Hid (Below N w w1) := Lib.hid ((Below.refl N w).drew.grown hgrow1 (by show N ≤ w.heap.size; omega) (fun k e' => by injection e' with e'; omega))
  have HBX1 : Hid (w1.heap[N + 2]? = some (.cells #[.slice ae e.length ce, .slice ap p.length cp, vl, .map (some (N + 1))] 67)) := Lib.hid ((HG1.out _ (by omega) hN2).trans HBX.out)
  refine hK1.out _ _ (fun _ => HBX1.out) ?_
  clear hK1 K1 hS
  refine anyL_done (by kernel_rfl) ?_ _
  have HF1 := Lib.hid (HF.out.keep (w' := w1) (fun g h1 h2 => HG1.out g (by omega) h2))
  have HOE1 := Lib.hid (own_keep (w' := w1) HOE.out (fun g hg => HG1.out g (by have := (HOE.out.lt g hg).1; omega) (HOE.out.lt g hg).2))
  have hs1 : w.heap.size ≤ w1.heap.size := HB1.out.size
  have z1 := (nv4 HBX1.out).1
  have HM1 : Hid (PlAt w1 (N + 1) (e ++ [x])) := Lib.hid ⟨_, n + 1, by simp; omega, hown1, HPL.out⟩
  clear hown1 hgrow1
  go_wp2_with (first | (at_builtin; go_loud (refine wpList_append_lies _ rfl (.tmp 20) (.tmp 22) 31 rfl (N + 4) 3 i0 (.int .i64 0) 1 8 Try.underlying31 hi0 hz0 hz1 hz2 rfl (by decide) (.slice ae e.length ce) (e.length) (ints e) rfl (HOE1.out.alloc _) _ 1 1 [.int .i64 x] rfl rfl (cell_new1 _ _ _ _ (by simp)) (by simp [Value.oneCell']) (by omega) (by unfold maxLen; omega) (by omega) (by simp <;> omega) (w1.heap.size + 1) (by simp) ?_; intro g2 cap2 w2 hown hgrow hat hlt; have HK2 : Hid (∀ g, g < w1.heap.size → (Value.slice ae e.length ce).ownBlock ≠ some g → w2.heap[g]? = w1.heap[g]?) := Lib.hid (fun g hg hne => (hgrow.block g (by simp <;> omega) (fun e' => hne e'.symm)).trans (Below.heap_alloc _ _ _ hg)); have HB2 : Hid (Below N w w2) := Lib.hid ((HB1.out.alloc (by omega) _).grown hgrow (by simp <;> omega) (fun k e' => by have := (HOE1.out.lt k e').1; omega)); have HFA2 : Hid (Fam w2 (N + 4) [.slice (some ⟨g2, 0, none⟩) (e.length + 1) cap2, .slice ap p.length cp, vl, vq] [e ++ [x], p, l, q]) := Lib.hid (HF1.out.put (i := 0) (y := x) rfl rfl hown HK2.out (hat.imp id (fun e' => by omega))); have HLO2 : Hid (∀ g, g < N + 4 → w2.heap[g]? = w1.heap[g]?) := Lib.hid (fun g hg => HK2.out g (by omega) (fun e' => by have := (HOE1.out.lt g e').1; omega)); have HBX2 := Lib.hid ((HLO2.out (N + 2) (by omega)).trans HBX1.out); have z2 := (nv4 HBX2.out).1; have f2 : w2.frozen? ⟨N + 2, 0, none⟩ = false := (by simp [World.frozen?, HBX2.out]); have hs2 : w1.heap.size ≤ w2.heap.size := (by have := hgrow.size; simp at this; omega); have HBX3 : Hid ((w2.setCell ⟨N + 2, 0, none⟩ (.slice (some ⟨g2, 0, none⟩) (e.length + 1) cap2)).heap[N + 2]? = some (.cells #[.slice (some ⟨g2, 0, none⟩) (e.length + 1) cap2, .slice ap p.length cp, vl, .map (some (N + 1))] 67)) := Lib.hid (by rw [cells_set HBX2.out 0]; simp); have z3 := (nv4 HBX3.out).2.1; have HFA3 : Hid (Fam (w2.setCell ⟨N + 2, 0, none⟩ (.slice (some ⟨g2, 0, none⟩) (e.length + 1) cap2)) (N + 4) [.slice (some ⟨g2, 0, none⟩) (e.length + 1) cap2, .slice ap p.length cp, vl, vq] [e ++ [x], p, l, q]) := Lib.hid (HFA2.out.keep (fun g h1 h2 => Below.heap_setCell _ _ _ _ (by simp <;> omega))); have HOP3 : Hid ((w2.setCell ⟨N + 2, 0, none⟩ (.slice (some ⟨g2, 0, none⟩) (e.length + 1) cap2)).ownsRow (N + 4) 3 1 (.slice ap p.length cp) p.length (ints p)) := Lib.hid (by obtain ⟨a', c', h1, h2⟩ := HFA3.out.rows 1 p rfl; have h1' : Value.slice ap p.length cp = .slice a' p.length c' := (by simpa using h1); rw [h1']; exact h2); have HB3 : Hid (Below N w (w2.setCell ⟨N + 2, 0, none⟩ (.slice (some ⟨g2, 0, none⟩) (e.length + 1) cap2))) := Lib.hid (HB2.out.setCell (show N ≤ N + 2 by omega) _); clear hown hgrow hat hlt)) | (at_builtin; go_loud (refine wpList_append_lies _ rfl (.tmp 30) (.tmp 32) 31 rfl (N + 4) 3 i0 (.int .i64 0) 1 8 Try.underlying31 hi0 hz0 hz1 hz2 rfl (by decide) (.slice ap p.length cp) (p.length) (ints p) rfl (HOP3.out.alloc _) _ 1 1 [.int .i64 y] rfl rfl (cell_new1 _ _ _ _ (by simp)) (by simp [Value.oneCell']) (by omega) (by unfold maxLen; omega) (by omega) (by simp <;> omega) ((w2.setCell ⟨N + 2, 0, none⟩ (.slice (some ⟨g2, 0, none⟩) (e.length + 1) cap2)).heap.size + 1) (by simp) ?_; intro g4 cap4 w4 hown hgrow hat hlt; have HK4 : Hid (∀ g, g < w2.heap.size → (Value.slice ap p.length cp).ownBlock ≠ some g → w4.heap[g]? = (w2.setCell ⟨N + 2, 0, none⟩ (.slice (some ⟨g2, 0, none⟩) (e.length + 1) cap2)).heap[g]?) := Lib.hid (fun g hg hne => (hgrow.block g (by simp <;> omega) (fun e' => hne e'.symm)).trans (Below.heap_alloc _ _ _ (by simp <;> omega))); have HB4 : Hid (Below N w w4) := Lib.hid ((HB3.out.alloc (by simp <;> omega) _).grown hgrow (by simp <;> omega) (fun k e' => by have := (HOP3.out.lt k e').1; omega)); have HFA4 : Hid (Fam w4 (N + 4) [.slice (some ⟨g2, 0, none⟩) (e.length + 1) cap2, .slice (some ⟨g4, 0, none⟩) (p.length + 1) cap4, vl, vq] [e ++ [x], p ++ [y], l, q]) := Lib.hid (HFA3.out.put (i := 1) (y := y) rfl rfl hown (fun g h1 h2 => HK4.out g (by simpa using h1) h2) (hat.imp id (fun e' => by omega))); have HLO4 : Hid (∀ g, g < N + 4 → w4.heap[g]? = (w2.setCell ⟨N + 2, 0, none⟩ (.slice (some ⟨g2, 0, none⟩) (e.length + 1) cap2)).heap[g]?) := Lib.hid (fun g hg => HK4.out g (by omega) (fun e' => by have := (HOP3.out.lt g e').1; omega)); have HBX4 := Lib.hid ((HLO4.out (N + 2) (by omega)).trans HBX3.out); have z4 := (nv4 HBX4.out).2.1; have f4 : w4.frozen? ⟨N + 2, 1, none⟩ = false := (by simp [World.frozen?, HBX4.out]); clear hown hgrow hat hlt)))
  go_end0
  refine ⟨rfl, ⟨_, _, ?_, HFA4.out.keep (fun g h1 h2 => Below.heap_setCell _ _ _ _ (by simp <;> omega)), ?_⟩, HB4.out.setCell (show N ≤ N + 2 by omega) _, ?_, ?_⟩
  · rw [cells_set HBX4.out 1]; simp
  · exact HM1.out.keep ((Below.heap_setCell _ _ _ _ (by simp)).trans ((HLO4.out (N + 1) (by omega)).trans ((Below.heap_setCell _ _ _ _ (by simp)).trans (HLO2.out (N + 1) (by omega)))))
  · exact (Below.heap_setCell _ _ _ _ (by simp)).trans ((HLO4.out N (by omega)).trans ((Below.heap_setCell _ _ _ _ (by simp)).trans ((HLO2.out N (by omega)).trans (HG1.out N (by omega) (by omega)))))
  · exact (Below.heap_setCell _ _ _ _ (by simp)).trans ((HLO4.out (N + 3) (by omega)).trans ((Below.heap_setCell _ _ _ _ (by simp)).trans ((HLO2.out (N + 3) (by omega)).trans (HG1.out (N + 3) (by omega) (by omega)))))
end Go.Proofs.Ytbpagfddofbjbaa
