/-
  A search in depth, step by step, on lists: the order in which it leaves is the document's.
  Layer 9: rows of one's own, each in a block of its own; a map of places.
  Layer 10: maps from numbers to slices, by the slices themselves.
-/
import Derived.Test.YtgnpbodhjmappaaQLH
import Derived.Test.YtgnpbodhjmappaaQLA
import Derived.MapViews
import Derived.Carry
import Derived.WideKeyArgs2
import Derived.ChangeMaps
import Derived.Maps.OwnSet
import Derived.Maps.AppendAt
namespace Go.Proofs.Ytgnpbodhjmappaa.Cd
set_option linter.unusedVariables false

/-- What a search has: what it entered, whence (places), what it left, how many edges of each it tried, and its path. -/
structure Dfs where
  ent : List Int
  par : List Int
  lft : List Int
  tri : List Int
  pth : List Int
def Dfs.first (n : Nat) : Dfs := ⟨[0], [-1], [], List.replicate n 0, [0]⟩
inductive DStep (G : List (List Int)) : Dfs → Dfs → Prop where
  | old {e p l t q : List Int} {a y : Int} {k : Nat} : t[a.toNat]? = some (k : Int) → (egs G a)[k]? = some y → y ∈ e → DStep G ⟨e, p, l, t, q ++ [a]⟩ ⟨e, p, l, t.set a.toNat ((k : Int) + 1), q ++ [a]⟩
  | new {e p l t q : List Int} {a y : Int} {k : Nat} : t[a.toNat]? = some (k : Int) → (egs G a)[k]? = some y → y ∉ e → DStep G ⟨e, p, l, t, q ++ [a]⟩ ⟨e ++ [y], p ++ [(e.idxOf a : Int)], l, t.set a.toNat ((k : Int) + 1), q ++ [a] ++ [y]⟩
  | out {e p l t q : List Int} {a : Int} {k : Nat} : t[a.toNat]? = some (k : Int) → (egs G a).length ≤ k → DStep G ⟨e, p, l, t, q ++ [a]⟩ ⟨e, p, l ++ [a], t, q⟩
inductive DSteps (G : List (List Int)) : Dfs → Dfs → Prop where
  | refl (s : Dfs) : DSteps G s s
  | more {s t u : Dfs} : DSteps G s t → DStep G t u → DSteps G s u
theorem DSteps.one {G : List (List Int)} {s t : Dfs} (h : DStep G s t) : DSteps G s t := .more (.refl s) h
theorem DSteps.trans {G : List (List Int)} {s t u : Dfs} (h : DSteps G s t) (k : DSteps G t u) : DSteps G s u := by
  induction k with
  | refl => exact h
  | more _ hs ih => exact .more ih hs
theorem DSteps.ahead {G : List (List Int)} {s t u : Dfs} (h : DStep G s t) (k : DSteps G t u) : DSteps G s u := (DSteps.one h).trans k
theorem DStep.det {G : List (List Int)} {s t u : Dfs} (h : DStep G s t) (k : DStep G s u) : t = u := by
  cases h with
  | @old e p l t q a y k1 h1 h2 h3 =>
    generalize hq : q ++ [a] = q' at k
    cases k with
    | old k1 k2 k3 =>
      obtain ⟨rfl, e2⟩ := List.append_inj' hq rfl
      injection e2 with e2 _; subst e2
      rw [h1] at k1; injection k1 with k1
      rw [k1]
    | new k1 k2 k3 =>
      obtain ⟨rfl, e2⟩ := List.append_inj' hq rfl
      injection e2 with e2 _; subst e2
      rw [h1] at k1; injection k1 with k1
      have k1 : _ = _ := Int.ofNat.inj k1
      subst k1
      rw [h2] at k2; injection k2 with k2
      subst k2
      exact absurd h3 k3
    | out k1 k2 =>
      obtain ⟨rfl, e2⟩ := List.append_inj' hq rfl
      injection e2 with e2 _; subst e2
      rw [h1] at k1; injection k1 with k1
      have k1 : _ = _ := Int.ofNat.inj k1
      subst k1
      have := (List.getElem?_eq_some_iff.1 h2).1
      omega
  | @new e p l t q a y k1 h1 h2 h3 =>
    generalize hq : q ++ [a] = q' at k
    cases k with
    | old k1 k2 k3 =>
      obtain ⟨rfl, e2⟩ := List.append_inj' hq rfl
      injection e2 with e2 _; subst e2
      rw [h1] at k1; injection k1 with k1
      have k1 : _ = _ := Int.ofNat.inj k1
      subst k1
      rw [h2] at k2; injection k2 with k2
      subst k2
      exact absurd k3 h3
    | new k1 k2 k3 =>
      obtain ⟨rfl, e2⟩ := List.append_inj' hq rfl
      injection e2 with e2 _; subst e2
      rw [h1] at k1; injection k1 with k1
      have k1 : _ = _ := Int.ofNat.inj k1
      subst k1
      rw [h2] at k2; injection k2 with k2
      subst k2
      rw [hq]
    | out k1 k2 =>
      obtain ⟨rfl, e2⟩ := List.append_inj' hq rfl
      injection e2 with e2 _; subst e2
      rw [h1] at k1; injection k1 with k1
      have k1 : _ = _ := Int.ofNat.inj k1
      subst k1
      have := (List.getElem?_eq_some_iff.1 h2).1
      omega
  | @out e p l t q a k1 h1 h2 =>
    generalize hq : q ++ [a] = q' at k
    cases k with
    | old k1 k2 k3 =>
      obtain ⟨rfl, e2⟩ := List.append_inj' hq rfl
      injection e2 with e2 _; subst e2
      rw [h1] at k1; injection k1 with k1
      have k1 : _ = _ := Int.ofNat.inj k1
      subst k1
      have := (List.getElem?_eq_some_iff.1 k2).1
      omega
    | new k1 k2 k3 =>
      obtain ⟨rfl, e2⟩ := List.append_inj' hq rfl
      injection e2 with e2 _; subst e2
      rw [h1] at k1; injection k1 with k1
      have k1 : _ = _ := Int.ofNat.inj k1
      subst k1
      have := (List.getElem?_eq_some_iff.1 k2).1
      omega
    | out k1 k2 =>
      obtain ⟨rfl, e2⟩ := List.append_inj' hq rfl
      injection e2 with e2 _; subst e2
      rfl
theorem DStep.not_end {G : List (List Int)} {s t : Dfs} (h : DStep G s t) : s.pth ≠ [] := by cases h <;> simp
/-- Two ways from one state: one of them goes on to the other one's end. -/
theorem DSteps.line {G : List (List Int)} {s t u : Dfs} (h : DSteps G s t) (k : DSteps G s u) : DSteps G t u ∨ DSteps G u t := by
  induction h with
  | refl => exact .inl k
  | @more t v _ hs ih =>
    rcases ih with ih | ih
    · clear k
      have key : ∀ {x y : Dfs}, DSteps G x y → ∀ {v : Dfs}, DStep G x v → DSteps G v y ∨ DSteps G y v := by
        intro x y h
        induction h with
        | refl => intro v hv; exact .inr (.one hv)
        | @more y z _ h2 ih2 =>
          intro v hv
          rcases ih2 hv with h3 | h3
          · exact .inl (.more h3 h2)
          · cases h3 with
            | refl => exact .inl (.one h2)
            | @more a b h4 h5 =>
              have key2 : ∀ {x y : Dfs}, DSteps G x y → x = y ∨ ∃ z, DStep G x z ∧ DSteps G z y := by
                intro x y h
                induction h with
                | refl => exact .inl rfl
                | @more y z _ h7 ih7 =>
                  rcases ih7 with rfl | ⟨q, h8, h9⟩
                  · exact .inr ⟨_, h7, .refl _⟩
                  · exact .inr ⟨q, h8, .more h9 h7⟩
              rcases key2 (DSteps.more h4 h5) with rfl | ⟨q, h6, h7⟩
              · exact .inl (.one h2)
              · obtain rfl := h6.det h2
                exact .inr h7
      exact key ih hs
    · exact .inr (.more ih hs)
/-- Two ends are one. -/
theorem DSteps.end {G : List (List Int)} {s t u : Dfs} (h : DSteps G s t) (k : DSteps G s u) (ht : t.pth = []) (hu : u.pth = []) : t = u := by
  have fin : ∀ {x y : Dfs}, DSteps G x y → x.pth = [] → x = y := by
    intro x y h
    induction h with
    | refl => intro _; rfl
    | more _ h2 ih => intro hx; obtain rfl := ih hx; exact absurd hx h2.not_end
  rcases h.line k with h1 | h1
  · exact fin h1 ht
  · exact (fin h1 hu).symm

/-! ### The same as the document's search -/
theorem toNat_ne {c : List Ins} {x y : Int} (hx : Inside c x) (hy : Inside c y) (h : x ≠ y) : x.toNat ≠ y.toNat := by
  unfold Inside at hx hy; omega
def SimF (c : List Ins) (f : Nat) : Prop := ∀ (n : Int) (p : LP) (P par tri : List Int), LGood c p → Inside c n → n ∉ p.1 → c.length ≤ f + p.1.length → tri.length = c.length → (∀ x, Inside c x → x ∉ p.1 → tri[x.toNat]? = some 0) →
  ∃ par' tri', DSteps (nextG c) ⟨p.1 ++ [n], par, p.2, tri, P ++ [n]⟩ ⟨(leaveF c f n p).1, par', (leaveF c f n p).2, tri', P⟩ ∧ tri'.length = c.length ∧ (∀ x ∈ p.1, tri'[x.toNat]? = tri[x.toNat]?) ∧ (∀ x, Inside c x → x ∉ (leaveF c f n p).1 → tri'[x.toNat]? = some 0)
theorem simL {c : List Ins} (hc : Closed c) {f : Nat} (hf : SimF c f) {n : Int} (hn : Inside c n) (P : List Int) : ∀ (l pre : List Int) (p : LP) (par tri : List Int), nexts c n = pre ++ l → LGood c p → n ∈ p.1 → c.length ≤ f + p.1.length → tri.length = c.length → tri[n.toNat]? = some (pre.length : Int) → (∀ x, Inside c x → x ∉ p.1 → tri[x.toNat]? = some 0) →
    ∃ par' tri', DSteps (nextG c) ⟨p.1, par, p.2, tri, P ++ [n]⟩ ⟨(leaveL (leaveF c f) l p).1, par', (leaveL (leaveF c f) l p).2, tri', P ++ [n]⟩ ∧ tri'.length = c.length ∧ tri'[n.toNat]? = some ((nexts c n).length : Int) ∧ (∀ x ∈ p.1, x ≠ n → tri'[x.toNat]? = tri[x.toNat]?) ∧ (∀ x, Inside c x → x ∉ (leaveL (leaveF c f) l p).1 → tri'[x.toNat]? = some 0)
  | [], pre, p, par, tri, he, hg, hm, hl, ht, htn, hz => ⟨par, tri, .refl _, ht, by rw [htn, he, List.append_nil], fun _ _ _ => rfl, hz⟩
  | y :: l, pre, p, par, tri, he, hg, hm, hl, ht, htn, hz => by
    have hy : (egs (nextG c) n)[pre.length]? = some y := by rw [egs_nextG c hn.1, he]; simp
    have hyi : Inside c y := hc n hn y (by rw [he]; simp)
    have he2 : nexts c n = (pre ++ [y]) ++ l := by rw [he]; simp
    have hnl : n.toNat < tri.length := by rw [ht]; unfold Inside at hn; omega
    have htn2 : (tri.set n.toNat ((pre.length : Int) + 1))[n.toNat]? = some (((pre ++ [y]).length : Nat) : Int) := by rw [List.getElem?_set_self hnl]; simp
    by_cases hyp : y ∈ p.1
    · have e : leaveL (leaveF c f) (y :: l) p = leaveL (leaveF c f) l p := by rw [leaveL, if_pos hyp]
      rw [e]
      obtain ⟨par', tri', h1, h2, h3, h4, h5⟩ := simL hc hf hn P l (pre ++ [y]) p par (tri.set n.toNat ((pre.length : Int) + 1)) he2 hg hm hl (by simpa using ht) htn2 (fun x hx hxp => by
        rw [List.getElem?_set_ne (fun e => hxp (by have : n = x := by unfold Inside at hn hx; omega
                                                   exact this ▸ hm))]
        exact hz x hx hxp)
      exact ⟨par', tri', .ahead (.old htn hy hyp) h1, h2, h3, fun x hx hxn => by rw [h4 x hx hxn, List.getElem?_set_ne (toNat_ne hn (hg.inside x hx) (Ne.symm hxn))], h5⟩
    · have e : leaveL (leaveF c f) (y :: l) p = leaveL (leaveF c f) l (leaveF c f y p) := by rw [leaveL, if_neg hyp]
      rw [e]
      obtain ⟨g1, g2⟩ := leaveF_good hc f y p hg hyi hyp
      obtain ⟨r1, hr1⟩ := g2.1
      obtain ⟨par1, tri1, a1, a2, a3, a4⟩ := hf y p (P ++ [n]) (par ++ [(p.1.idxOf n : Int)]) (tri.set n.toNat ((pre.length : Int) + 1)) hg hyi hyp hl (by simpa using ht) (fun x hx hxp => by
        rw [List.getElem?_set_ne (fun e => hxp (by have : n = x := by unfold Inside at hn hx; omega
                                                   exact this ▸ hm))]
        exact hz x hx hxp)
      obtain ⟨par', tri', h1, h2, h3, h4, h5⟩ := simL hc hf hn P l (pre ++ [y]) (leaveF c f y p) par1 tri1 he2 g1 (by rw [← hr1]; simp [hm]) (by rw [← hr1, List.length_append]; omega) a2 (by rw [a3 n hm]; exact htn2) a4
      exact ⟨par', tri', .ahead (.new htn hy hyp) (a1.trans h1), h2, h3, fun x hx hxn => by rw [h4 x (by rw [← hr1]; simp [hx]) hxn, a3 x hx, List.getElem?_set_ne (toNat_ne hn (hg.inside x hx) (Ne.symm hxn))], h5⟩
theorem simF {c : List Ins} (hc : Closed c) : ∀ f, SimF c f
  | 0 => fun n p P par tri hg hn hm hl ht hz => by have := hg.lt hn hm; omega
  | f + 1 => fun n p P par tri hg hn hm hl ht hz => by
    obtain ⟨par', tri', h1, h2, h3, h4, h5⟩ := simL hc (simF hc f) hn P (nexts c n) [] (p.1 ++ [n], p.2) par tri rfl (hg.add hn hm) (by simp) (by simp; omega) ht (by simpa using hz n hn hm) (fun x hx hxp => hz x hx (fun h => hxp (by simp [h])))
    refine ⟨par', tri', .more h1 (.out h3 (by rw [egs_nextG c hn.1]; exact Nat.le_refl _)), h2, fun x hx => h4 x (by simp [hx]) (fun e => hm (e ▸ hx)), h5⟩
/-- The end of the search. -/
theorem dfs_end {c : List Ins} (hc : Closed c) (h0 : 0 < c.length) : ∃ par tri, DSteps (nextG c) (Dfs.first c.length) ⟨(leaveF c c.length 0 ([], [])).1, par, (leaveF c c.length 0 ([], [])).2, tri, []⟩ := by
  obtain ⟨par', tri', h1, _⟩ := simF hc c.length 0 ([], []) [] [-1] (List.replicate c.length 0) ⟨by simp, by simp, by simp⟩ ⟨Int.le_refl _, by omega⟩ (by simp) (by simp) (by simp) (fun x hx _ => by
    rw [List.getElem?_replicate, if_pos (by unfold Inside at hx; omega)])
  exact ⟨par', tri', h1⟩
end Go.Proofs.Ytgnpbodhjmappaa.Cd
namespace Go.Proofs.Ytgnpbodhjmappaa
open Go.RowKit Cd Go.Maps
set_option linter.unusedVariables false
set_option linter.unusedSimpArgs false

/-- Rows that are one's own, each in a block of its own, from lo on. -/
structure Fam (w : World) (lo : Nat) (vs : List Value) (G : List (List Int)) : Prop where
  len : vs.length = G.length
  rows : ∀ (i : Nat) (l : List Int), G[i]? = some l → ∃ a c, vs[i]? = some (.slice a l.length c) ∧ w.ownsRow lo 3 1 (.slice a l.length c) l.length (ints l)
  apart : ∀ (i j : Nat) (u v : Value) (g : Nat), i ≠ j → vs[i]? = some u → vs[j]? = some v → u.ownBlock = some g → v.ownBlock ≠ some g
theorem Fam.at {w : World} {lo : Nat} {vs : List Value} {G : List (List Int)} (h : Fam w lo vs G) {i : Nat} {u : Value} (hu : vs[i]? = some u) {g : Nat} (hg : u.ownBlock = some g) : lo ≤ g ∧ g < w.heap.size := by
  have hlt := (List.getElem?_eq_some_iff.1 hu).1
  obtain ⟨l, hl⟩ : ∃ l, G[i]? = some l := ⟨_, List.getElem?_eq_getElem (by rw [← h.len]; exact hlt)⟩
  obtain ⟨a, c, h1, h2⟩ := h.rows i l hl
  rw [hu] at h1
  injection h1 with h1
  subst h1
  exact h2.lt g hg
theorem Fam.keep {w w' : World} {lo : Nat} {vs : List Value} {G : List (List Int)} (h : Fam w lo vs G) (hb : ∀ g, lo ≤ g → g < w.heap.size → w'.heap[g]? = w.heap[g]?) : Fam w' lo vs G := by
  refine ⟨h.len, fun i l hi => ?_, h.apart⟩
  obtain ⟨a, c, h1, h2⟩ := h.rows i l hi
  exact ⟨a, c, h1, own_keep h2 (fun g hg => hb g (h2.lt g hg).1 (h2.lt g hg).2)⟩
theorem Fam.below {w w' : World} {lo : Nat} {vs : List Value} {G : List (List Int)} (h : Fam w lo vs G) (hb : Below w.heap.size w w') : Fam w' lo vs G := h.keep (fun g _ hg => hb.block g hg)
/-- A row has grown. -/
theorem Fam.put {w w3 : World} {lo : Nat} {vs : List Value} {G : List (List Int)} {i : Nat} {l : List Int} {y : Int} {a : Option Addr} {c g3 cap3 : Nat} (h : Fam w lo vs G) (hi : G[i]? = some l) (hv : vs[i]? = some (.slice a l.length c))
    (hown : w3.ownsRow lo 3 1 (.slice (some ⟨g3, 0, none⟩) (l.length + 1) cap3) (l.length + 1) (ints l ++ [.int .i64 y])) (hk : ∀ g, g < w.heap.size → (Value.slice a l.length c).ownBlock ≠ some g → w3.heap[g]? = w.heap[g]?) (hat : (Value.slice a l.length c).ownBlock = some g3 ∨ w.heap.size ≤ g3) :
    Fam w3 lo (vs.set i (.slice (some ⟨g3, 0, none⟩) (l.length + 1) cap3)) (G.set i (l ++ [y])) := by
  have hilt := (List.getElem?_eq_some_iff.1 hi).1
  refine ⟨by simp [h.len], fun j lj hj => ?_, fun j k u v g hjk hu hv2 hg => ?_⟩
  · by_cases hij : i = j
    · subst hij
      rw [List.getElem?_set_self hilt] at hj
      injection hj with hj
      subst hj
      refine ⟨some ⟨g3, 0, none⟩, cap3, by rw [List.getElem?_set_self (by rw [h.len]; exact hilt)]; simp, ?_⟩
      simpa [ints] using hown
    · rw [List.getElem?_set_ne hij] at hj
      obtain ⟨a2, c2, h1, h2⟩ := h.rows j lj hj
      refine ⟨a2, c2, by rw [List.getElem?_set_ne hij]; exact h1, own_keep h2 (fun g hg => ?_)⟩
      exact hk g (h2.lt g hg).2 (h.apart j i _ _ g (fun e => hij e.symm) h1 hv hg)
  · have hil : i < vs.length := by rw [h.len]; exact hilt
    have key : ∀ (m : Nat) (x : Value), m ≠ i → vs[m]? = some x → x.ownBlock ≠ some g3 := fun m x hm hx e => by
      rcases hat with h4 | h4
      · exact h.apart m i x _ g3 hm hx hv e h4
      · have := (h.at hx e).2; omega
    by_cases hij : i = j
    · subst hij
      rw [List.getElem?_set_self hil] at hu
      injection hu with hu
      subst hu
      simp [Value.ownBlock] at hg
      subst hg
      rw [List.getElem?_set_ne (by omega)] at hv2
      exact key k v (by omega) hv2
    · rw [List.getElem?_set_ne hij] at hu
      by_cases hik : i = k
      · subst hik
        rw [List.getElem?_set_self hil] at hv2
        injection hv2 with hv2
        subst hv2
        intro e
        simp [Value.ownBlock] at e
        subst e
        exact key j u (by omega) hu hg
      · rw [List.getElem?_set_ne hik] at hv2
        exact h.apart j k u v g hjk hu hv2 hg
/-- A row is cut. -/
theorem Fam.cut {w : World} {lo : Nat} {vs : List Value} {G : List (List Int)} {i k : Nat} {l : List Int} {a : Option Addr} {c : Nat} (h : Fam w lo vs G) (hi : G[i]? = some l) (hv : vs[i]? = some (.slice a l.length c)) (hk : k ≤ l.length) :
    Fam w lo (vs.set i (.slice a k c)) (G.set i (l.take k)) := by
  have hilt := (List.getElem?_eq_some_iff.1 hi).1
  have hil : i < vs.length := by rw [h.len]; exact hilt
  have hob : (Value.slice a k c).ownBlock = (Value.slice a l.length c).ownBlock := by
    obtain ⟨a2, c2, h1, h2⟩ := h.rows i l hi
    rw [hv] at h1
    injection h1 with h1
    injection h1 with e1 _ e2
    subst e1 e2
    rcases (own_room h2).2.2 with rfl | ⟨g, off, rfl⟩ <;> simp [Value.ownBlock]
  refine ⟨by simp [h.len], fun j lj hj => ?_, fun j m u v g hjm hu hv2 hg => ?_⟩
  · by_cases hij : i = j
    · subst hij
      rw [List.getElem?_set_self hilt] at hj
      injection hj with hj
      subst hj
      obtain ⟨a2, c2, h1, h2⟩ := h.rows i l hi
      rw [hv] at h1
      injection h1 with h1
      injection h1 with e1 _ e2
      subst e1 e2
      have hl : (l.take k).length = k := by rw [List.length_take]; omega
      refine ⟨a, c, by rw [List.getElem?_set_self hil, hl], ?_⟩
      rw [hl]
      have := own_short h2 hk
      rwa [← List.map_take] at this
    · rw [List.getElem?_set_ne hij] at hj
      obtain ⟨a2, c2, h1, h2⟩ := h.rows j lj hj
      exact ⟨a2, c2, by rw [List.getElem?_set_ne hij]; exact h1, h2⟩
  · have back : ∀ (m : Nat) (x : Value), (vs.set i (.slice a k c))[m]? = some x → ∃ y, vs[m]? = some y ∧ y.ownBlock = x.ownBlock := fun m x hx => by
      by_cases him : i = m
      · subst him
        rw [List.getElem?_set_self hil] at hx
        injection hx with hx
        subst hx
        exact ⟨_, hv, hob.symm⟩
      · rw [List.getElem?_set_ne him] at hx
        exact ⟨x, hx, rfl⟩
    obtain ⟨u', hu1, hu2⟩ := back j u hu
    obtain ⟨v', hv1, hv3⟩ := back m v hv2
    rw [← hv3]
    exact h.apart j m u' v' g hjm hu1 hv1 (hu2.trans hg)

/-! ### The places -/
theorem lawI : Keyed Try.prog 3 := int_keyed Try.underlying3
theorem keyI {n : Int} (h : (Lit.int .i64 n).wf = true) : keyOf Try.prog 3 (.int .i64 n) = some (.int .i64 n) := keyOf_int_mk Try.underlying3 h
theorem zeroI (w : World) : (zeroValue 3).run Try.prog w = .ok (.int .i64 0) w := by kernel_rfl
theorem intKey (n : Int) : WideAt.IsKeyLit (.int .i64 n) := trivial
theorem wfI {n : Int} (h0 : 0 ≤ n) (h1 : n ≤ 1000000) : (Lit.int .i64 n).wf = true := WalkArith.wf_i64 (by omega)
theorem cvI {x y : Int} (h : (DataW.lit (.int .i64 x) : DataW Unit) = .lit (.int .i64 y)) : x = y := by
  injection h with h; injection h
/-- The map holds where each that was entered stands. -/
structure PlM (e : List Int) (D : DataW Unit) : Prop where
  tidy : Tidy D
  has : ∀ x : Int, Maps.has D (.int .i64 x) = e.contains x
  at_ : ∀ (x : Int) z, x ∈ e → D.atKey (.int .i64 x) z = .lit (.int .i64 (e.idxOf x : Int))
theorem PlM.first : PlM [] (.map []) := ⟨tidy_empty, fun x => rfl, fun x z h => by cases h⟩
theorem PlM.put {e : List Int} {D : DataW Unit} {x : Int} (h : PlM e D) (hx : x ∉ e) : PlM (e ++ [x]) (D.put (.int .i64 x) (.lit (.int .i64 (e.length : Int)))) := by
  refine ⟨h.tidy.put (intKey _) _, fun y => ?_, fun y z hy => ?_⟩
  · by_cases e1 : y = x
    · subst e1; rw [has_put_same h.tidy.isMap (intKey _)]; simp
    · rw [has_put_other (fun e' => e1 (by injection e')), h.has y]; simp [e1]
  · by_cases e1 : y = x
    · subst e1
      rw [atKey_put_same h.tidy.isMap (intKey _), List.idxOf_append, if_neg hx]
      simp
    · rw [atKey_put_other (fun e' => e1 (by injection e'))]
      have hy2 : y ∈ e := by simpa [e1] using hy
      rw [h.at_ y z hy2, List.idxOf_append, if_pos hy2]
def PlAt (w : World) (b : Nat) (e : List Int) : Prop := ∃ D n, n ≤ e.length ∧ w.ownsMap Try.prog 3 (plainElem (H := Unit) Try.prog 3) b n D ∧ PlM e D
theorem PlAt.lt {w : World} {b : Nat} {e : List Int} (h : PlAt w b e) : b < w.heap.size := by obtain ⟨D, n, _, h, _⟩ := h; exact h.lt
theorem PlAt.keep {w w' : World} {b : Nat} {e : List Int} (h : PlAt w b e) (hb : w'.heap[b]? = w.heap[b]?) : PlAt w' b e := by
  obtain ⟨D, n, hn, ⟨es, clock, h1, F, h2, h3⟩, hp⟩ := h
  exact ⟨D, n, hn, ⟨es, clock, hb.trans h1, F, h2, h3⟩, hp⟩
theorem PlAt.made (w : World) : PlAt (w.alloc (.map #[] 0)) w.heap.size [] := ⟨.map [], 0, Nat.le_refl _, World.ownsMap_made w Try.prog 3 (plainElem (H := Unit) Try.prog 3), PlM.first⟩

/-! ### The walk -/
end Go.Proofs.Ytgnpbodhjmappaa
namespace Go.Proofs.Ytgnpbodhjmappaa
set_option maxRecDepth 100000
open Go.RowKit Cd Go.Maps
set_option linter.unusedVariables false
set_option linter.unusedSimpArgs false

/-- A slice, as it stands. -/
def hdrE : Value → Option (DataW Unit × List MemPlace)
  | .slice none n c => some (.agg [.lit (.int .i64 (n : Int)), .lit (.int .i64 (c : Int))], [])
  | .slice (some ⟨b, off, none⟩) n c => some (.agg [.lit (.int .i64 (b : Int)), .lit (.int .i64 (off : Int)), .lit (.int .i64 (n : Int)), .lit (.int .i64 (c : Int))], [])
  | _ => none
theorem hdrE_slice {v : Value} {d : DataW Unit} {ps : List MemPlace} (h : hdrE v = some (d, ps)) : (∃ n c, v = .slice none n c ∧ d = .agg [.lit (.int .i64 (n : Int)), .lit (.int .i64 (c : Int))]) ∨ ∃ b off n c, v = .slice (some ⟨b, off, none⟩) n c ∧ d = .agg [.lit (.int .i64 (b : Int)), .lit (.int .i64 (off : Int)), .lit (.int .i64 (n : Int)), .lit (.int .i64 (c : Int))] := by
  unfold hdrE at h
  split at h
  · injection h with h; injection h with h _
    exact .inl ⟨_, _, rfl, h.symm⟩
  · injection h with h; injection h with h _
    exact .inr ⟨_, _, _, _, rfl, h.symm⟩
  · cases h
theorem hdrE_inj {v v' : Value} {d : DataW Unit} {ps ps' : List MemPlace} (h : hdrE v = some (d, ps)) (h' : hdrE v' = some (d, ps')) : v = v' := by
  rcases hdrE_slice h with ⟨n, c, rfl, e⟩ | ⟨b, off, n, c, rfl, e⟩ <;> rcases hdrE_slice h' with ⟨n', c', rfl, e'⟩ | ⟨b', off', n', c', rfl, e'⟩ <;> rw [e] at e' <;> simp at e'
  · obtain ⟨e1, e2⟩ := e'
    obtain rfl : n = n' := by omega
    obtain rfl : c = c' := by omega
    rfl
  · obtain ⟨e1, e2, e3, e4⟩ := e'
    obtain rfl : b = b' := by omega
    obtain rfl : off = off' := by omega
    obtain rfl : n = n' := by omega
    obtain rfl : c = c' := by omega
    rfl
theorem hdrE_at {a : Option Addr} {n c : Nat} (h : a = none ∨ ∃ b off, a = some ⟨b, off, none⟩) : ∃ d, hdrE (.slice a n c) = some (d, []) := by
  rcases h with rfl | ⟨b, off, rfl⟩ <;> exact ⟨_, rfl⟩
/-- A map that holds these slices at these numbers. -/
def HdrAt (w : World) (mb n : Nat) (f : Int → Value) (ks : List Int) : Prop :=
  ∃ D : DataW Unit, w.ownsMap Try.prog 3 hdrE mb n D ∧ Tidy D ∧ (∀ x : Int, Maps.has D (.int .i64 x) = ks.contains x) ∧ ∀ x ∈ ks, ∃ d, hdrE (f x) = some (d, []) ∧ ∀ z, D.atKey (.int .i64 x) z = d
theorem HdrAt.lt {w : World} {mb n : Nat} {f : Int → Value} {ks : List Int} (h : HdrAt w mb n f ks) : mb < w.heap.size := by obtain ⟨D, h, _⟩ := h; exact h.lt
theorem HdrAt.keep {w w' : World} {mb n : Nat} {f : Int → Value} {ks : List Int} (h : HdrAt w mb n f ks) (hb : w'.heap[mb]? = w.heap[mb]?) : HdrAt w' mb n f ks := by
  obtain ⟨D, ⟨es, clock, h1, F, h2, h3⟩, h4⟩ := h
  exact ⟨D, ⟨es, clock, hb.trans h1, F, h2, h3⟩, h4⟩
theorem HdrAt.made (w : World) (f : Int → Value) : HdrAt (w.alloc (.map #[] 0)) w.heap.size 0 f [] := ⟨.map [], World.ownsMap_made w Try.prog 3 hdrE, tidy_empty, fun x => rfl, fun x h => by cases h⟩
theorem zeroS (w : World) : (zeroValue 30).run Try.prog w = .ok (.slice none 0 0) w := by kernel_rfl
theorem HdrAt.look {w : World} {mb n : Nat} {f : Int → Value} {ks : List Int} (h : HdrAt w mb n f ks) {x : Int} (hx : (Lit.int .i64 x).wf = true) : (Instr.lookup 54 (.map (some mb)) (.int .i64 x) false).run Try.prog w = .ok (if ks.contains x = true then f x else .slice none 0 0) w := by
  obtain ⟨D, h1, h2, h3, h4⟩ := h
  obtain ⟨v, ps, hr, hv⟩ := h1.lookup (t := 54) (e := 30) lawI Try.underlying54 (zeroS w) (zd := .agg [.lit (.int .i64 0), .lit (.int .i64 0)]) (zp := []) rfl (keyI hx)
  rw [hr]
  congr 1
  by_cases hk : ks.contains x = true
  · rw [if_pos hk]
    obtain ⟨d, e1, e2⟩ := h4 x (List.contains_iff_mem.1 hk)
    rw [e2] at hv
    exact hdrE_inj hv e1
  · rw [if_neg hk]
    rw [atKey_of_not_has (by rw [h3]; simpa using hk)] at hv
    exact hdrE_inj hv (show hdrE (.slice none 0 0) = some (.agg [.lit (.int .i64 0), .lit (.int .i64 0)], []) from rfl)
theorem wpList_lookup_run {w : World} {ops : Array Oper} {rest : List Oper} {o : Oper} {a : Act} {Q : Exit → Act → World → Prop} (hgd : o.guard = none) (m x : Operand) (t : TypeId) (hop : o.op = Op.lookup t m x false) (vm vx v : Value) (hm : a.eval m = vm) (hx : a.eval x = vx) (hrun : (Instr.lookup t vm vx false).run Try.prog w = .ok v w)
    (h : wpList Try.prog ops Q rest (a.put o.dst v) w) : wpList Try.prog ops Q (o :: rest) a w := by
  refine wpList_plain hgd fun K hK => ?_
  unfold Oper.wp
  simp [execOp, hop, hm, hx, hrun, Result.andThen]
  exact hK _ _ h
/-- The map as a key is put. -/
theorem HdrAt.put {w w' : World} {mb n : Nat} {f : Int → Value} {ks : List Int} {x : Int} {v : Value} {d : DataW Unit} {D : DataW Unit} (h2 : Tidy D) (h3 : ∀ x : Int, Maps.has D (.int .i64 x) = ks.contains x) (h4 : ∀ x ∈ ks, ∃ d, hdrE (f x) = some (d, []) ∧ ∀ z, D.atKey (.int .i64 x) z = d)
    (hv : hdrE v = some (d, [])) (h : w'.ownsMap Try.prog 3 hdrE mb n (D.put (.int .i64 x) d)) : HdrAt w' mb n (fun y => if y = x then v else f y) (if ks.contains x = true then ks else ks ++ [x]) := by
  refine ⟨_, h, h2.put (intKey _) _, fun y => ?_, fun y hy => ?_⟩
  · by_cases e : y = x
    · subst e
      rw [has_put_same h2.isMap (intKey _)]
      split
      · rename_i hk; exact hk.symm
      · simp
    · rw [has_put_other (fun e' => e (by injection e')), h3 y]
      split
      · rfl
      · simp [e]
  · by_cases e : y = x
    · subst e
      simp only [if_true]
      exact ⟨d, hv, fun z => atKey_put_same h2.isMap (intKey _) _ _⟩
    · simp only [e, if_false]
      have hyk : y ∈ ks := by
        split at hy
        · exact hy
        · simpa [e] using hy
      obtain ⟨d', e1, e2⟩ := h4 y hyk
      exact ⟨d', e1, fun z => by rw [atKey_put_other (fun e' => e (by injection e'))]; exact e2 z⟩
/-- Rows at numbers, to be read. -/
def RdM (w : World) (B mb : Nat) (R : Int → List Int) (ks : List Int) : Prop := mb < B ∧ ∃ n f, HdrAt w mb n f ks ∧ (∀ x ∈ ks, ∃ a c, f x = .slice a (R x).length c ∧ RowAt w B a (ints (R x))) ∧ ∀ x, x ∉ ks → R x = []
theorem RdM.look {w : World} {B mb : Nat} {R : Int → List Int} {ks : List Int} (h : RdM w B mb R ks) {x : Int} (hx : (Lit.int .i64 x).wf = true) : ∃ a c, (Instr.lookup 54 (.map (some mb)) (.int .i64 x) false).run Try.prog w = .ok (.slice a (R x).length c) w ∧ RowAt w B a (ints (R x)) := by
  obtain ⟨_, n, f, h1, h2, h3⟩ := h
  have hl := h1.look hx
  by_cases hk : ks.contains x = true
  · rw [if_pos hk] at hl
    obtain ⟨a, c, e1, e2⟩ := h2 x (List.contains_iff_mem.1 hk)
    exact ⟨a, c, by rw [hl, e1], e2⟩
  · rw [if_neg hk] at hl
    have hr := h3 x (fun q => hk (List.contains_iff_mem.2 q))
    rw [hr]
    exact ⟨none, 0, hl, RowAt.nil _ _ _⟩
theorem RdM.below {w w' : World} {B mb : Nat} {R : Int → List Int} {ks : List Int} (h : RdM w B mb R ks) (hb : Below B w w') : RdM w' B mb R ks := by
  obtain ⟨h0, n, f, h1, h2, h3⟩ := h
  refine ⟨h0, n, f, h1.keep (hb.block _ h0), fun x hx => ?_, h3⟩
  obtain ⟨a, c, e1, e2⟩ := h2 x hx
  exact ⟨a, c, e1, e2.below hb⟩
theorem RdM.mono {w : World} {B B' mb : Nat} {R : Int → List Int} {ks : List Int} (h : RdM w B mb R ks) (hB : B ≤ B') (hw : B' ≤ w.heap.size) : RdM w B' mb R ks := by
  obtain ⟨h0, n, f, h1, h2, h3⟩ := h
  refine ⟨by omega, n, f, h1, fun x hx => ?_, h3⟩
  obtain ⟨a, c, e1, e2⟩ := h2 x hx
  exact ⟨a, c, e1, e2.mono hB hw⟩
end Go.Proofs.Ytgnpbodhjmappaa
