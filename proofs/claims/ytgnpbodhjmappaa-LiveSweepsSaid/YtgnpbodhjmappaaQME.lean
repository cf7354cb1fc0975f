/-
  Layer 9: where each instruction may go on (follows).
  Layer 9: contract of (*walk).enter.
  What holds of a search at each step: what it entered, its path, its tree.
  Layer 9: contract of depthFirst.
  Layer 9: slices.Reverse.
  What is found is what is come to: the document's words.
  Layer 9: contracts of Before, Reached, Dominates, Order.
-/
import Derived.Test.YtgnpbodhjmappaaQLH
import Derived.Test.YtgnpbodhjmappaaQNE
import Derived.Test.YtgnpbodhjmappaaQLA
import Derived.Test.YtgnpbodhjmappaaQMC
import Derived.Test.YtgnpbodhjmappaaLast
import Derived.Deep.LoopGhost
import Derived.RegionTactic
import Derived.ChangeAlike
import Derived.Test.YtgnpbodhjmappaaQMD
import Derived.Test.YtgnpbodhjmappaaQMA
namespace Go.Proofs.Ytgnpbodhjmappaa
set_option maxRecDepth 100000
open Go.RowKit Cd
set_option linter.unusedVariables false
set_option linter.unusedSimpArgs false

/-- The edges of a function, if it may be. -/
def Cd.followG (f : Fnc) : List (List Int) := if rightF f = true then nextG f.code else []
theorem cnext_c (x : Ins) (p : Int) (ns : List Int) (hp : 0 ≤ p ∧ p ≤ 1000000) (hns : next x p = ns) (w : World) :
    Calls Try.prog 58 #[inV x, .int .i64 p] w fun e w' => ∃ (a : Option Addr) (c : Nat), e = .returned (.slice a ns.length c) ∧ LiesIn w' w.heap.size a (ints ns) ∧ (ns.length ≤ c ∧ c ≤ maxLen) ∧ Below w.heap.size w w' := by
  subst hns
  refine (cnext_any x p hp w).mono ?_
  rintro e w' ⟨v, rfl, ho, hb⟩
  obtain ⟨a, c, rfl⟩ := row_slice ho
  exact ⟨a, c, rfl, LiesIn.of_own ho, ⟨(own_room ho).1, (own_room ho).2.1⟩, hb⟩
theorem rightF_v (r : FnR) (b : Bool) (B : Nat) (w : World) (hc : CodeAt w B r) (hB : B ≤ w.heap.size) (hl : r.f.code.length ≤ maxLen) (h : rightF r.f = b) : Calls Try.prog 34 #[fnV r] w (RPost (.bool b) w) :=
  h ▸ rightFunc_c r B w hc hB hl
theorem rows_step {w w' : World} {lo : Nat} {vs : List Value} {G : List (List Int)} {k : Nat} {l : List Int} {a : Option Addr} {c : Nat} (h : RowsIn w lo vs (G.take k)) (hv : vs.length = G.length) (hk : G[k]? = some l) (hl : LiesIn w lo a (ints l)) (hcap : l.length ≤ c ∧ c ≤ maxLen) (hs : w.heap.size ≤ w'.heap.size) (hb : ∀ g, lo ≤ g → g < w.heap.size → w'.heap[g]? = w.heap[g]?) :
    RowsIn w' lo (vs.set k (.slice a l.length c)) (G.take (k + 1)) := fun i l' hi => by
  have hlt := (List.getElem?_eq_some_iff.1 hk).1
  by_cases hik : i = k
  · subst hik
    rw [List.getElem?_take_of_lt (by omega), hk] at hi
    injection hi with hi
    subst hi
    exact ⟨a, c, by rw [List.getElem?_set_self (by omega)], hl.keep hs hb, hcap⟩
  · have hlt2 : i < k := by
      have := (List.getElem?_eq_some_iff.1 hi).1
      rw [List.length_take] at this
      omega
    rw [List.getElem?_take_of_lt (by omega)] at hi
    obtain ⟨a', c', h1, h2, h3⟩ := h i l' (by rw [List.getElem?_take_of_lt hlt2]; exact hi)
    exact ⟨a', c', by rw [List.getElem?_set_ne (by omega)]; exact h1, h2.keep hs hb, h3⟩
end Go.Proofs.Ytgnpbodhjmappaa
namespace Go.Proofs.Ytgnpbodhjmappaa
set_option maxRecDepth 100000
open Go.RowKit Cd Go.Maps
set_option linter.unusedVariables false
set_option linter.unusedSimpArgs false

theorem nv4 {w : World} {b : Nat} {x0 x1 x2 x3 : Value} {t : TypeId} (h : w.heap[b]? = some (.cells #[x0, x1, x2, x3] t (0, 0))) :
    w.cell? ⟨b, 0, none⟩ = some x0 ∧ w.cell? ⟨b, 1, none⟩ = some x1 ∧ w.cell? ⟨b, 2, none⟩ = some x2 ∧ w.cell? ⟨b, 3, none⟩ = some x3 := by
  refine ⟨?_, ?_, ?_, ?_⟩ <;> (rw [cell_of_row w b _ _ _ _ h]; rfl)
theorem step_mapUpdate_own {H : Type} (w : World) {ops : Array Oper} {o : Oper} {a : Act} {K' : Act → World → Prop} {Q : Exit → Act → World → Prop} {E : Prop}
    (hg : o.guard = none) (m x v : Operand) (t : TypeId) (hop : o.op = Op.mapUpdate t m x v)
    (k e : TypeId) (K : Keyed Try.prog k) (ht : Try.prog.underlying t = some (.map k e)) (R : Value → Option (DataW H × List MemPlace)) (b n : Nat) (D : DataW H)
    (hm : a.eval m = .map (some b)) (hown : w.ownsMap Try.prog k R b n D) (hn : n < maxLen) (key val : Value) (kl : Lit) (hx : a.eval x = key) (hv : a.eval v = val) (hkey : keyOf Try.prog k key = some kl)
    (d : DataW H) (ps : List MemPlace) (hval : R val = some (d, ps))
    (hK : ∀ w', w'.ownsMap Try.prog k R b (n + 1) (D.put kl d) → w.grownBy w' (some b) → K' (a.put o.dst undef) w') :
    if Region.wanted o (yielded ops a.tmps) = true then Oper.wp Try.prog o a w K' Q else E := by
  have hw : Region.wanted o (yielded ops a.tmps) = true := by simp [Region.wanted, hg]
  rw [if_pos hw]
  obtain ⟨w', hrun, r1, r2⟩ := hown.update K ht hn hkey hval
  unfold Oper.wp
  simp [execOp, hop, hm, hx, hv, hrun, Result.andThen]
  exact hK w' r1 r2
end Go.Proofs.Ytgnpbodhjmappaa
namespace Go.Proofs.Ytgnpbodhjmappaa.Cd
set_option linter.unusedVariables false

/-- Plain facts of a search. -/
structure DOk (G : List (List Int)) (s : Dfs) : Prop where
  nodup : s.ent.Nodup
  inn : ∀ x ∈ s.ent, 0 ≤ x ∧ x < (G.length : Int)
  pin : ∀ x ∈ s.pth, x ∈ s.ent
  tril : s.tri.length = G.length
  trin : ∀ a : Nat, a < G.length → ∃ k : Nat, s.tri[a]? = some (k : Int) ∧ k ≤ (egs G (a : Int)).length
  cnt : s.lft.length + s.pth.length = s.ent.length
  parl : s.par.length = s.ent.length
  paro : ∀ (i : Nat) (u : Int), s.par[i]? = some u → -1 ≤ u ∧ u < (i : Int)
theorem DOk.first {G : List (List Int)} (h : 0 < G.length) : DOk G (Dfs.first G.length) := by
  refine ⟨by simp [Dfs.first], fun x hx => ?_, fun x hx => hx, by simp [Dfs.first], fun a ha => ⟨0, ?_, by omega⟩, rfl, rfl, fun i u hu => ?_⟩
  · have : x = 0 := by simpa [Dfs.first] using hx
    subst this; exact ⟨Int.le_refl _, by omega⟩
  · show (List.replicate G.length (0 : Int))[a]? = some 0
    rw [List.getElem?_replicate, if_pos ha]
  · match i, hu with
    | 0, hu => obtain rfl : -1 = u := by simpa [Dfs.first] using hu
               omega
    | i + 1, hu => simp [Dfs.first] at hu
theorem nodup_snoc {l : List Int} {y : Int} (h : l.Nodup) (hy : y ∉ l) : (l ++ [y]).Nodup := by
  rw [List.nodup_append]
  exact ⟨h, by simp, fun a ha b hb e => hy (by rw [List.mem_singleton] at hb; rw [← hb, ← e]; exact ha)⟩
theorem tri_bump {G : List (List Int)} {t : List Int} {a y : Int} {k : Nat} (ha : 0 ≤ a ∧ a < (G.length : Int)) (hl : t.length = G.length) (ht : ∀ a : Nat, a < G.length → ∃ k : Nat, t[a]? = some (k : Int) ∧ k ≤ (egs G (a : Int)).length) (hk : t[a.toNat]? = some (k : Int)) (hy : (egs G a)[k]? = some y) :
    ∀ b : Nat, b < G.length → ∃ k' : Nat, (t.set a.toNat ((k : Int) + 1))[b]? = some (k' : Int) ∧ k' ≤ (egs G (b : Int)).length := fun b hb => by
  by_cases hab : a.toNat = b
  · subst hab
    refine ⟨k + 1, by rw [List.getElem?_set_self (by omega)]; rfl, ?_⟩
    have := (List.getElem?_eq_some_iff.1 hy).1
    rw [Int.toNat_of_nonneg ha.1]; omega
  · rw [List.getElem?_set_ne hab]
    exact ht b hb
theorem DOk.step {G : List (List Int)} (hG : GIn G) {s t : Dfs} (h : DOk G s) (k : DStep G s t) : DOk G t := by
  obtain ⟨h1, h2, h3, h4, h5, h6, h7, h8⟩ := h
  cases k with
  | @old e p l t q a y k k1 k2 k3 =>
    simp only at h1 h2 h3 h4 h5 h6 h7 h8
    have ha := h2 a (h3 a (by simp))
    exact ⟨h1, h2, h3, by simpa using h4, tri_bump ha h4 h5 k1 k2, h6, h7, h8⟩
  | @new e p l t q a y k k1 k2 k3 =>
    simp only at h1 h2 h3 h4 h5 h6 h7 h8
    have ha := h2 a (h3 a (by simp))
    have hy := hG.egs (List.mem_of_getElem? k2)
    refine ⟨nodup_snoc h1 k3, fun x hx => ?_, fun x hx => ?_, by simpa using h4, tri_bump ha h4 h5 k1 k2, by simp at h6 ⊢; omega, by simp [h7], fun i u hu => ?_⟩
    · rcases List.mem_append.1 hx with hx | hx
      · exact h2 x hx
      · rw [List.mem_singleton] at hx; subst hx; exact hy
    · rcases List.mem_append.1 hx with hx | hx
      · exact List.mem_append_left _ (h3 x hx)
      · exact List.mem_append_right _ hx
    · by_cases hi : i < p.length
      · rw [List.getElem?_append_left hi] at hu
        exact h8 i u hu
      · rw [List.getElem?_append_right (by omega)] at hu
        have h0 : i - p.length = 0 := by
          have := (List.getElem?_eq_some_iff.1 hu).1
          simp at this; omega
        rw [h0] at hu
        have hu : (e.idxOf a : Int) = u := by simpa using hu
        have := List.idxOf_lt_length_of_mem (h3 a (by simp))
        omega
  | @out e p l t q a k k1 k2 =>
    simp only at h1 h2 h3 h4 h5 h6 h7 h8
    exact ⟨h1, h2, fun x hx => h3 x (List.mem_append_left _ hx), h4, h5, by simp at h6 ⊢; omega, h7, h8⟩
theorem DOk.steps {G : List (List Int)} (hG : GIn G) {s t : Dfs} (h : DOk G s) (k : DSteps G s t) : DOk G t := by
  induction k with
  | refl => exact h
  | more _ hs ih => exact ih.step hG hs
theorem nodup_leG {n : Nat} {l : List Int} (h : l.Nodup) (hi : ∀ x ∈ l, 0 ≤ x ∧ x < (n : Int)) : l.length ≤ n := by
  have h1 : (l.map Int.toNat).Nodup := by
    rw [List.Nodup, List.pairwise_map]
    refine List.Pairwise.imp_of_mem ?_ h
    intro a b ha hb hab e
    have := hi a ha
    have := hi b hb
    exact hab (by omega)
  have := nodup_lt n (l.map Int.toNat) h1 (fun k hk => by
    obtain ⟨x, hx, rfl⟩ := List.mem_map.1 hk
    have := hi x hx
    omega)
  simpa using this
theorem DOk.len {G : List (List Int)} {s : Dfs} (h : DOk G s) : s.ent.length ≤ G.length := nodup_leG h.nodup h.inn
end Go.Proofs.Ytgnpbodhjmappaa.Cd
namespace Go.Proofs.Ytgnpbodhjmappaa
set_option maxRecDepth 100000
open Go.RowKit Cd Go.Maps
set_option linter.unusedVariables false
set_option linter.unusedSimpArgs false

/-- The answer: what a search has, as a struct. -/
def WalkPost (e p l : List Int) (w : World) (r : Ending) (w' : World) : Prop := ∃ a1 c1 a2 c2 a3 c3 m, r = .returned (.agg #[.slice a1 e.length c1, .slice a2 p.length c2, .slice a3 l.length c3, .map (some m)]) ∧ LiesIn w' w.heap.size a1 (ints e) ∧ LiesIn w' w.heap.size a2 (ints p) ∧ w'.ownsRow w.heap.size 3 1 (.slice a3 l.length c3) l.length (ints l) ∧ w.heap.size ≤ m ∧ PlAt w' m e ∧ Below w.heap.size w w'
end Go.Proofs.Ytgnpbodhjmappaa
namespace Go.Proofs.Ytgnpbodhjmappaa
set_option maxRecDepth 100000
open Go.RowKit Cd
set_option linter.unusedVariables false
set_option linter.unusedSimpArgs false

theorem own_setK {w : World} {B n cap g j : Nat} {xs : List Value} (h : w.ownsRow B 3 1 (.slice (some ⟨g, 0, none⟩) n cap) n xs) (hj : j < n) (u : Value) : (w.setCell ⟨g, j, none⟩ u).ownsRow B 3 1 (.slice (some ⟨g, 0, none⟩) n cap) n (xs.set j u) := by
  obtain ⟨hl, ⟨h0, h1⟩ | ⟨g', cap', cur, hv, hg, hh, h1, h2, h3, ht⟩⟩ := h
  · cases h0
  · injection hv with hv _ hc
    injection hv with hv
    injection hv with hv _ _
    subst hv hc
    refine ⟨by simpa using hl, .inr ⟨g, cap, cur.setIfInBounds j u, rfl, hg, cells_set hh j u, h1, h2, by simpa using h3, ?_⟩⟩
    rw [Array.toList_setIfInBounds, ← ht, List.take_set]
/-- The first k and the last k have changed places. -/
def revTo (l : List Int) (k : Nat) (r : List Int) : Prop := r.length = l.length ∧ ∀ i, i < l.length → r[i]? = if i < k ∨ l.length - 1 - i < k then l[l.length - 1 - i]? else l[i]?
theorem revTo.next {l r : List Int} {k : Nat} {x y : Int} (h : revTo l k r) (hk : 2 * k + 1 < l.length) (hx : r[k]? = some x) (hy : r[l.length - 1 - k]? = some y) : revTo l (k + 1) ((r.set k y).set (l.length - 1 - k) x) := by
  obtain ⟨h1, h2⟩ := h
  refine ⟨by simp [h1], fun i hi => ?_⟩
  have ex := h2 k (by omega)
  rw [if_neg (by omega), hx] at ex
  have ey := h2 (l.length - 1 - k) (by omega)
  rw [if_neg (by omega), hy] at ey
  by_cases e1 : i = l.length - 1 - k
  · subst e1
    rw [List.getElem?_set_self (by simp; omega), if_pos (by omega), show l.length - 1 - (l.length - 1 - k) = k by omega, ← ex]
  · rw [List.getElem?_set_ne (by omega)]
    by_cases e2 : i = k
    · subst e2
      rw [List.getElem?_set_self (by omega), if_pos (by omega), ← ey]
    · rw [List.getElem?_set_ne (by omega), h2 i hi]
      by_cases e3 : i < k ∨ l.length - 1 - i < k
      · rw [if_pos e3, if_pos (by omega)]
      · rw [if_neg e3, if_neg (by omega)]
theorem revTo.end {l r : List Int} {k : Nat} (h : revTo l k r) (hk : l.length ≤ 2 * k + 1) : r = l.reverse := by
  obtain ⟨h1, h2⟩ := h
  apply List.ext_getElem?
  intro i
  by_cases hi : i < l.length
  · rw [h2 i hi, List.getElem?_reverse hi]
    by_cases e : i < k ∨ l.length - 1 - i < k
    · rw [if_pos e]
    · rw [if_neg e]; congr 1; omega
  · rw [List.getElem?_eq_none (by omega), List.getElem?_eq_none (by simp; omega)]
end Go.Proofs.Ytgnpbodhjmappaa
namespace Go.Proofs.Ytgnpbodhjmappaa.Cd
set_option linter.unusedVariables false

theorem path_reach {c : List Ins} (hc : Closed c) (h0 : 0 < c.length) {no x : Int} : Path (nextG c) no [0] x ↔ Reach c no 0 x := by
  constructor
  · intro h
    have : Reach c no 0 x ∧ 0 ≤ x := by
      induction h with
      | start h1 h2 =>
        obtain rfl := List.mem_singleton.1 h1
        exact ⟨.start h2, Int.le_refl _⟩
      | more _ hy hn ih =>
        rw [egs_nextG c ih.2] at hy
        have := ih.1.inside hc (zero_inside h0)
        exact ⟨.more ih.1 hy hn, (hc _ this _ hy).1⟩
    exact this.1
  · intro h
    induction h with
    | start h1 => exact .start (by simp) h1
    | more h1 hy hn ih =>
      have := h1.inside hc (zero_inside h0)
      exact .more ih (by rw [egs_nextG c this.1]; exact hy) hn
theorem path_back {c : List Ins} (hc : Closed c) {h x : Int} {S : List Int} (hS : ∀ t ∈ S, Inside c t) : (Path (turned (nextG c)) h S x) ↔ Inside c x ∧ ∃ t ∈ S, Reach c h x t := by
  have hl := nextG_len c
  have hin : ∀ {x : Int}, Inside c x ↔ 0 ≤ x ∧ x < ((nextG c).length : Int) := fun {x} => by rw [hl]; exact Iff.rfl
  constructor
  · intro hp
    induction hp with
    | start h1 h2 => exact ⟨hS _ h1, _, h1, .start h2⟩
    | @more u y _ hy hn ih =>
      obtain ⟨hu, t, ht, hr⟩ := ih
      obtain ⟨h3, h4⟩ := (turned_mem (nextG_in hc) (hin.1 hu)).1 hy
      rw [egs_nextG c h3.1] at h4
      exact ⟨hin.2 h3, t, ht, hr.ahead hn h4⟩
  · rintro ⟨hx, t, ht, hr⟩
    have key : ∀ {y : Int}, Reach c h x y → Path (turned (nextG c)) h S y → Path (turned (nextG c)) h S x := by
      intro y hy
      induction hy with
      | start _ => exact id
      | @more u v h1 h2 h3 ih =>
        intro hv
        have hu := h1.inside hc hx
        refine ih (.more hv ((turned_mem (nextG_in hc) (hin.1 (hc _ hu _ h2))).2 ⟨hin.1 hu, ?_⟩) h1.not)
        rw [egs_nextG c hu.1]; exact h2
    exact key hr (.start ht hr.not)
end Go.Proofs.Ytgnpbodhjmappaa.Cd
namespace Go.Proofs.Ytgnpbodhjmappaa
set_option maxRecDepth 100000
open Go.RowKit Cd Go.Maps
set_option linter.unusedVariables false
set_option linter.unusedSimpArgs false

theorem followG_ok (f : Fnc) : GIn (followG f) ∧ (followG f).length ≤ 8192 ∧ ∀ l ∈ followG f, l.length ≤ 2 := by
  unfold followG
  split
  · rename_i h
    have hf := rightF_iff.1 h
    refine ⟨nextG_in (closed_of hf), by rw [nextG_len]; exact hf.code.2, fun l hl => ?_⟩
    obtain ⟨k, hk⟩ := List.mem_iff_getElem?.1 hl
    rw [nextG_at] at hk
    obtain ⟨i, _, rfl⟩ := Option.map_eq_some_iff.1 hk
    exact nexts_len i _
  · exact ⟨fun l hl => (by cases hl), by simp, fun l hl => (by cases hl)⟩
theorem turned_row {G : List (List Int)} (hG : GIn G) {l : List Int} (hl : l ∈ turned G) : l.length ≤ G.length := by
  obtain ⟨n, hn⟩ := List.mem_iff_getElem?.1 hl
  exact turnG_row hG (Nat.le_refl _) hn
/-- A function as an argument: what the calls want of it. -/
structure FnOk (w : World) (r : FnR) : Prop where
  code : CodeAt w w.heap.size r
  len : r.f.code.length ≤ maxLen
theorem FnOk.below {w w' : World} {r : FnR} (h : FnOk w r) (hb : Below w.heap.size w w') : FnOk w' r := ⟨RowAt.mono (h.code.below hb) hb.size (Nat.le_refl _), h.len⟩
abbrev bx1 (w : World) (r : FnR) : World := w.alloc (fnO r)
theorem bx1_below (w : World) (r : FnR) : Below w.heap.size w (bx1 w r) := (Below.refl w.heap.size w).alloc (Nat.le_refl _) _
/-- What is reached, told. -/
noncomputable def Cd.reachL (G : List (List Int)) : List Bool := if G = [] then [] else foundB G [0] (-1)
def BoolPost (l : List Bool) (w : World) (e : Ending) (w' : World) : Prop := ∃ a c, e = .returned (.slice a l.length c) ∧ LiesIn w' w.heap.size a (bools l) ∧ Below w.heap.size w w'
theorem zero_row (w : World) : RowAt (w.alloc (.cells #[.int .i64 0] 3)) (w.heap.size + 1) (some ⟨w.heap.size, 0, none⟩) (ints [0]) := fun _ => by
  have h := heap_alloc_new w (.cells #[.int .i64 0] 3)
  refine ⟨w.heap.size, 0, rfl, by omega, by simp, fun j u hu => ?_⟩
  rw [Nat.zero_add, cell_of_row _ _ _ _ _ _ h]
  simpa using hu
end Go.Proofs.Ytgnpbodhjmappaa
