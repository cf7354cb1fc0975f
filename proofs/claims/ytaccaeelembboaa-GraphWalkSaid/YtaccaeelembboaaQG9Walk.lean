/-
  The order in which the document's search leaves, on lists: all that are reached, each once, and what dominates ahead.
-/
import Derived.Test.YtaccaeelembboaaQR9A
namespace Go.Proofs.Ytaccaeelembboaa.Cd

/-- A second one that left later is reached without the first one. -/
abbrev Later (c : List Ins) (l : List Int) : Prop := l.Pairwise (fun a b => Reach c a 0 b)
/-- What a search adds to what was there. -/
structure Wk (c : List Ins) (p q : LP) : Prop where
  sub : ∀ x ∈ p.1, x ∈ q.1
  new : ∃ l, q.2 = p.2 ++ l ∧ l.Nodup ∧ ∀ x, x ∈ l ↔ x ∈ q.1 ∧ x ∉ p.1
  pair : Later c q.2
  clos : ∀ x ∈ q.1, x ∉ p.1 → ∀ y ∈ nexts c x, y ∈ q.1
  rea : ∀ x ∈ q.1, x ∉ p.1 → Reach c (-1) 0 x
theorem Wk.refl {c : List Ins} {p : LP} (h : Later c p.2) : Wk c p p :=
  ⟨fun _ h => h, ⟨[], by simp, List.nodup_nil, by simp⟩, h, fun x h1 h2 => absurd h1 h2, fun x h1 h2 => absurd h1 h2⟩
theorem Wk.trans {c : List Ins} {p q r : LP} (h : Wk c p q) (k : Wk c q r) : Wk c p r := by
  obtain ⟨l, h1, h2, h3⟩ := h.new
  obtain ⟨m, k1, k2, k3⟩ := k.new
  refine ⟨fun x hx => k.sub x (h.sub x hx), ⟨l ++ m, by rw [k1, h1, List.append_assoc], ?_, fun x => ?_⟩, k.pair, fun x hx hp => ?_, fun x hx hp => ?_⟩
  · rw [List.nodup_append]
    exact ⟨h2, k2, fun a ha b hb e => ((k3 b).1 hb).2 (e ▸ ((h3 a).1 ha).1)⟩
  · rw [List.mem_append, h3, k3]
    constructor
    · rintro (⟨a, b⟩ | ⟨a, b⟩)
      · exact ⟨k.sub x a, b⟩
      · exact ⟨a, fun q => b (h.sub x q)⟩
    · rintro ⟨a, b⟩
      by_cases hq : x ∈ q.1
      · exact .inl ⟨hq, b⟩
      · exact .inr ⟨a, hq⟩
  · by_cases hq : x ∈ q.1
    · exact fun y hy => k.sub y (h.clos x hq hp y hy)
    · exact k.clos x hx hq
  · by_cases hq : x ∈ q.1
    · exact h.rea x hq hp
    · exact k.rea x hx hq
/-- Reached without any that is not open. -/
def Fresh (c : List Ins) (p : LP) (n : Int) : Prop := ∀ a, (a ∈ p.1 → a ∈ p.2) → a ≠ n → Reach c a 0 n
abbrev WkF (c : List Ins) (f : Nat) : Prop := ∀ (n : Int) (p : LP), LGood c p → Inside c n → n ∉ p.1 → c.length ≤ f + p.1.length → Fresh c p n → Later c p.2 → (∀ x ∈ p.2, x ∈ p.1) → Wk c p (leaveF c f n p) ∧ n ∈ (leaveF c f n p).1
theorem wkL {c : List Ins} (hc : Closed c) {f : Nat} (hf : WkF c f) {n : Int} (hn : Inside c n) : ∀ (l : List Int) (p : LP), (∀ y ∈ l, y ∈ nexts c n) → LGood c p → n ∈ p.1 → n ∉ p.2 → c.length ≤ f + p.1.length → Fresh c p n → Later c p.2 → (∀ x ∈ p.2, x ∈ p.1) → Wk c p (leaveL (leaveF c f) l p) ∧ ∀ y ∈ l, y ∈ (leaveL (leaveF c f) l p).1
  | [], p, _, _, _, _, _, _, h7, _ => ⟨Wk.refl h7, by simp⟩
  | y :: l, p, h1, h2, h3, h4, h5, h6, h7, h8 => by
    unfold leaveL
    by_cases hy : y ∈ p.1
    · rw [if_pos hy]
      obtain ⟨a, b⟩ := wkL hc hf hn l p (fun z hz => h1 z (by simp [hz])) h2 h3 h4 h5 h6 h7 h8
      refine ⟨a, fun z hz => ?_⟩
      rcases List.mem_cons.1 hz with rfl | hz
      · exact a.sub _ hy
      · exact b z hz
    · rw [if_neg hy]
      have hyn := h1 y (by simp)
      have hyi := hc n hn y hyn
      obtain ⟨g1, g2⟩ := leaveF_good hc f y p h2 hyi hy
      obtain ⟨a, b⟩ := hf y p h2 hyi hy h5 (fun z hz hzy => by
        refine Reach.more (h6 z hz fun e => ?_) hyn (fun e => hzy e.symm)
        exact h4 (e ▸ hz (e ▸ h3))) h7 h8
      obtain ⟨m, m1, m2, m3⟩ := a.new
      have hlen := g2.1.length_le
      obtain ⟨d, e⟩ := wkL hc hf hn l (leaveF c f y p) (fun z hz => h1 z (by simp [hz])) g1 (a.sub n h3) (by
        rw [m1, List.mem_append]
        rintro (q | q)
        · exact h4 q
        · exact ((m3 n).1 q).2 h3) (by omega) (fun z hz hzn => by
        refine h6 z (fun q => ?_) hzn
        have := hz (a.sub z q)
        rw [m1, List.mem_append] at this
        rcases this with t | t
        · exact t
        · exact absurd q ((m3 z).1 t).2) a.pair (fun x hx => by
        rw [m1, List.mem_append] at hx
        rcases hx with t | t
        · exact a.sub x (h8 x t)
        · exact ((m3 x).1 t).1)
      refine ⟨a.trans d, fun z hz => ?_⟩
      rcases List.mem_cons.1 hz with rfl | hz
      · exact d.sub _ b
      · exact e z hz
theorem wkF {c : List Ins} (hc : Closed c) : ∀ f, WkF c f
  | 0 => fun n p hg hn hm hl _ _ _ => by have := hg.lt hn hm; omega
  | f + 1 => fun n p hg hn hm hl hfr hla hsb => by
    have hn2 : n ∉ p.2 := fun q => hm (hsb n q)
    have h9 : Fresh c (p.1 ++ [n], p.2) n := fun a ha hne => hfr a (fun q => ha (List.mem_append.2 (.inl q))) hne
    obtain ⟨a, b⟩ := wkL hc (wkF hc f) hn (nexts c n) (p.1 ++ [n], p.2) (fun y hy => hy) (hg.add hn hm) (by simp) hn2 (by simp; omega) h9 hla (fun x hx => by simp [hsb x hx])
    obtain ⟨l, l1, l2, l3⟩ := a.new
    have hr : Reach c (-1) 0 n := hfr (-1) (fun q => by have := hg.inside _ q; unfold Inside at this; omega) (by unfold Inside at hn; omega)
    have hnl : n ∉ l := fun q => ((l3 n).1 q).2 (by simp)
    have hin : n ∈ (leaveL (leaveF c f) (nexts c n) (p.1 ++ [n], p.2)).1 := a.sub n (by simp)
    refine ⟨⟨fun x hx => a.sub x (by simp [hx]), ⟨l ++ [n], ?_, ?_, fun x => ?_⟩, ?_, fun x hx hp => ?_, fun x hx hp => ?_⟩, hin⟩
    · show (leaveL (leaveF c f) (nexts c n) (p.1 ++ [n], p.2)).2 ++ [n] = _
      rw [l1, List.append_assoc]
    · rw [List.nodup_append]
      exact ⟨l2, by simp, fun x hx y hy e => hnl (by rw [List.mem_singleton] at hy; rw [← hy, ← e]; exact hx)⟩
    · show x ∈ l ++ [n] ↔ x ∈ (leaveL (leaveF c f) (nexts c n) (p.1 ++ [n], p.2)).1 ∧ x ∉ p.1
      rw [List.mem_append, l3, List.mem_singleton]
      constructor
      · rintro (⟨q1, q2⟩ | rfl)
        · exact ⟨q1, fun q => q2 (by simp [q])⟩
        · exact ⟨hin, hm⟩
      · rintro ⟨q1, q2⟩
        by_cases hx : x = n
        · exact .inr hx
        · exact .inl ⟨q1, by simp [q2, hx]⟩
    · show Later c ((leaveL (leaveF c f) (nexts c n) (p.1 ++ [n], p.2)).2 ++ [n])
      unfold Later
      rw [List.pairwise_append]
      refine ⟨a.pair, by simp, fun x hx y hy => ?_⟩
      rw [List.mem_singleton] at hy
      subst hy
      rw [l1, List.mem_append] at hx
      rcases hx with t | t
      · exact hfr x (fun _ => t) (fun e => hn2 (e ▸ t))
      · have := (l3 x).1 t
        exact hfr x (fun q => absurd (by simp [q]) this.2) (fun e => hnl (e ▸ t))
    · by_cases hxn : x = n
      · subst hxn; exact b
      · exact a.clos x hx (by simp [hp, hxn])
    · by_cases hxn : x = n
      · subst hxn; exact hr
      · exact a.rea x hx (by simp [hp, hxn])
/-- The order begins at the first one, holds all that are reached, each once, and one that dominates another one stands ahead of it. -/
theorem orderN_walk {c : List Ins} (hc : Closed c) (h0 : 0 < c.length) :
    (orderN c)[0]? = some 0 ∧ (orderN c).Nodup ∧ (∀ x, x ∈ orderN c ↔ Reach c (-1) 0 x) ∧ (orderN c).Pairwise (fun b a => Reach c a 0 b) := by
  have hz : Inside c 0 := ⟨Int.le_refl _, by omega⟩
  obtain ⟨a, b⟩ := wkF hc c.length 0 ([], []) ⟨by simp, by simp, by simp⟩ hz (by simp) (by simp) (fun x _ hx => Reach.start (fun e => hx e.symm)) (by simp) (by simp)
  obtain ⟨l, l1, l2, l3⟩ := a.new
  have hl : (leaveF c c.length 0 ([], [])).2 = l := l1
  have ho : orderN c = l.reverse := by unfold orderN; rw [hl]
  refine ⟨?_, ?_, fun x => ?_, ?_⟩
  · unfold orderN
    obtain ⟨m, hm⟩ : ∃ m, c.length = m + 1 := ⟨c.length - 1, by omega⟩
    rw [hm]
    show ((leaveL (leaveF c m) (nexts c 0) ([] ++ [0], [])).2 ++ [0]).reverse[0]? = some 0
    rw [List.reverse_append]
    rfl
  · rw [ho]; unfold List.Nodup; rw [List.pairwise_reverse]; exact l2.imp (fun h e => h e.symm)
  · rw [ho, List.mem_reverse, l3]
    constructor
    · exact fun h => a.rea x h.1 h.2
    · intro h
      refine ⟨?_, by simp⟩
      induction h with
      | start _ => exact b
      | more _ h2 _ ih => exact a.clos _ ih (by simp) _ h2
  · rw [ho, List.pairwise_reverse, ← hl]
    exact a.pair
theorem order_dom {c : List Ins} {a b : Int} (h : Reach c a 0 b) (hab : a ≠ b) : ¬ Dom c a b := fun d => by
  rcases d.all with e | e
  · exact hab e
  · exact e h
end Go.Proofs.Ytaccaeelembboaa.Cd
