/-
  Both tables beside one another; what a step does to them.
-/
import Derived.Test.YtemnlkgjgalipaaDoorRefRelB
import Derived.Test.YtemnlkgjgalipaaDoorTypesFields
namespace Go.Proofs.YtemnlkgjgalipaaDoor
open Go.RowKit Go.Maps Tp
set_option linter.unusedVariables false

def Free (t : Nat) (v : Value) : Nat → Prop := fun q => q ≠ t ∧ v.ownBlock ≠ some q
structure Both (w : World) (B t : Nat) (v : Value) (T : Tab) (Y : List ((List UInt8 × List Fl) × Value)) (la : Option Addr) (lc : Nat) (da : Option Addr) (dc : Nat) : Prop where
  tab : TabIn w t B v T
  ref : RefX w (Free t v) T Y la lc da dc
  rel : TRel T (Y.map (·.1))
  nil : Y = [] → da = none
  pos : 0 < T.length
/-- A table that has grown by a step: one type more, at most. -/
structure Grows (T T' : Tab) : Prop where
  le : T.length ≤ T'.length
  one : T'.length ≤ T.length + 1
  keep : ∀ (i : Nat) (e : En), T[i]? = some e → ∃ e', T'[i]? = some e' ∧ e'.self = e.self
theorem Grows.refl (T : Tab) : Grows T T := ⟨Nat.le_refl _, by omega, fun i e h => ⟨e, h, rfl⟩⟩
theorem grows_num (T : Tab) (x : Ty) (s : Int) : Grows T (num T x s).2.2 := by
  unfold num
  split
  · exact Grows.refl T
  · split
    · exact Grows.refl T
    · exact ⟨by simp, by simp, fun i e h => ⟨e, getElem?_snocL h, rfl⟩⟩
theorem grows_pointer (T : Tab) (n : Int) : Grows T (pointer T n).2.2 := by
  unfold pointer
  split
  · exact Grows.refl T
  · exact grows_num _ _ _
theorem grows_array (T : Tab) (n c : Int) : Grows T (array T n c).2.2 := by
  unfold array
  split
  · exact Grows.refl T
  · split
    · exact Grows.refl T
    · split
      · exact Grows.refl T
      · exact grows_num _ _ _
theorem grows_strct (T : Tab) (n : List UInt8) : Grows T (strct T n).2.2 := by
  unfold strct
  split
  · exact Grows.refl T
  · exact grows_num _ _ _
theorem grows_define {T : Tab} {D : Dl} (h : TRel T D) {n : List UInt8} (hn : n.length ≤ 100) (l : List Fl) : Grows T (define T n l).2 := by
  have h1 := grows_strct T n
  rcases define_cases h hn l with ⟨x, _, hd⟩ | ⟨k, e, r, hd, _⟩
  · rw [hd]; exact h1
  · rw [hd]
    refine ⟨by simp only [setF_len]; exact h1.le, by simp only [setF_len]; exact h1.one, fun i e h => ?_⟩
    obtain ⟨e', h2, h3⟩ := h1.keep i e h
    refine ⟨_, setF_get h2, ?_⟩
    split <;> exact h3
def DoesPost (B t : Nat) (v : Value) (T : Tab) (Y : List ((List UInt8 × List Fl) × Value)) (w : World) (e : Ending) (w' : World) : Prop :=
  ∃ v' T' Y' la' lc' da' dc', e = .returned (.tuple #[.agg #[.slice la' T'.length lc', .slice da' Y'.length dc'], .bool true]) ∧ Both w' B t v' T' Y' la' lc' da' dc' ∧ Turn t v v' w w' ∧ Y'.length ≤ Y.length + 1 ∧ Grows T T'
/-- The three blocks that a step makes first. -/
structure Three (w w1 : World) (a b : Value) (s : Array Value) : Prop where
  sz : w.heap.size + 3 ≤ w1.heap.size
  h0 : w1.heap[w.heap.size]? = some (.cells #[a, b] 30 (0, 0))
  h1 : w1.heap[w.heap.size + 1]? = some (.cells s 34 (0, 0))
  h2 : w1.heap[w.heap.size + 2]? = some (.cells #[.slice none 0 0, .slice none 0 0] 30 (0, 0))
theorem Three.new (w : World) (a b : Value) (s : Array Value) : Three w (((w.alloc (.cells #[a, b] 30)).alloc (.cells s 34)).alloc (.cells #[.slice none 0 0, .slice none 0 0] 30)) a b s := by
  obtain ⟨h0, h1, h2, h3⟩ := kept3 (c1 := #[a, b]) (t1 := 30) (c2 := s) (t2 := 34) (c3 := #[.slice none 0 0, .slice none 0 0]) (t3 := 30) (Below.refl (w.heap.size + 3) (((w.alloc (.cells #[a, b] 30)).alloc (.cells s 34)).alloc (.cells #[.slice none 0 0, .slice none 0 0] 30)))
  exact ⟨h3, h0, h1, h2⟩
theorem Three.turn {w w1 w2 : World} {a b : Value} {s : Array Value} {t : Nat} {v v' : Value} (h : Three w w1 a b s) (ht : Turn t v v' w1 w2) (h1 : t < w.heap.size) (h2 : ∀ g, v.ownBlock = some g → g < w.heap.size) : Three w w2 a b s := by
  have hz := h.sz
  have k : ∀ q, w.heap.size ≤ q → q < w.heap.size + 3 → w2.heap[q]? = w1.heap[q]? := fun q hq hq3 => ht.block q (by omega) (by omega) (fun e => by have := h2 q e; omega)
  exact ⟨by have := ht.size; omega, (k _ (by omega) (by omega)).trans h.h0, (k _ (by omega) (by omega)).trans h.h1, (k _ (by omega) (by omega)).trans h.h2⟩
theorem Three.below {w w1 w2 : World} {a b : Value} {s : Array Value} (h : Three w w1 a b s) (hb : Below w1.heap.size w1 w2) : Three w w2 a b s := by
  have hz := h.sz
  exact ⟨by have := hb.size; omega, (hb.block _ (by omega)).trans h.h0, (hb.block _ (by omega)).trans h.h1, (hb.block _ (by omega)).trans h.h2⟩
theorem Three.cells {w w1 : World} {a b : Value} {s : Array Value} (h : Three w w1 a b s) : (∀ o, w1.cell? ⟨w.heap.size, o, none⟩ = #[a, b][o]?) ∧ (∀ o, w1.cell? ⟨w.heap.size + 1, o, none⟩ = s[o]?) ∧ (∀ o, w1.cell? ⟨w.heap.size + 1 + 1, o, none⟩ = #[Value.slice none 0 0, .slice none 0 0][o]?) ∧ (∀ o, w1.frozen? ⟨w.heap.size + 1 + 1, o, none⟩ = false) ∧ w.heap.size < w1.heap.size ∧ w.heap.size + 1 < w1.heap.size ∧ w.heap.size + 1 + 1 < w1.heap.size :=
  ⟨fun o => cell_of_row w1 _ o _ _ _ h.h0, fun o => cell_of_row w1 _ o _ _ _ h.h1, fun o => cell_of_row w1 _ o _ _ _ h.h2, fun o => by simp [World.frozen?, h.h2], by have := h.sz; omega, by have := h.sz; omega, by have := h.sz; omega⟩
theorem TabIn.set {w : World} {t B : Nat} {v : Value} {T : Tab} (h : TabIn w t B v T) (p : Addr) (u : Value) (hp : p.block ≠ t) (hv : v.ownBlock ≠ some p.block) (hc : ∃ cs e fr, w.heap[p.block]? = some (.cells cs e fr)) : TabIn (w.setCell p u) t B v T := by
  obtain ⟨X, hX, h⟩ := h
  have hk : ∀ q, q ≠ p.block → (w.setCell p u).heap[q]? = w.heap[q]? := fun q hq => Below.heap_setCell _ _ _ _ hq
  refine ⟨X, hX, (hk t (Ne.symm hp)).trans h.head, h.ge, ?_, h.apart, fun x hx => (h.flds x hx).keep (fun b es c hm => hk b (fun e => ?_))⟩
  · obtain ⟨h1, h2⟩ := h.row
    refine ⟨h1, ?_⟩
    rcases h2 with h2 | ⟨g, cap, cur, rfl, hg, hh, r⟩
    · exact .inl h2
    · exact .inr ⟨g, cap, cur, rfl, hg, (hk g (fun e => hv (by rw [← e]; rfl))).trans hh, r⟩
  · obtain ⟨cs, e1, fr, hcs⟩ := hc
    rw [e, hcs] at hm
    cases hm
theorem Turn.fresh {t : Nat} {v v' : Value} {w w3 wf : World} (h : Turn t v v' w w3) (hb : Below w.heap.size w3 wf) : Turn t v v' w wf :=
  ⟨hb.os.trans h.os, hb.tape.trans h.tape, hb.output.trans h.output, Nat.le_trans h.size hb.size, fun k hk h1 h2 => (hb.block k hk).trans (h.block k hk h1 h2), h.own⟩
theorem Both.old {w w2 : World} {B t : Nat} {v v' : Value} {T : Tab} {Y : List ((List UInt8 × List Fl) × Value)} {la da : Option Addr} {lc dc : Nat} (h : Both w B t v T Y la lc da dc) (ht : Turn t v v' w w2) : RefX w2 (fun q => q < w.heap.size ∧ Free t v q) T Y la lc da dc :=
  (h.ref.old).keep (fun q hq hf => ht.block q hq hf.2.1 hf.2.2)
theorem set_size (w : World) (p : Addr) (u : Value) : (w.setCell p u).heap.size = w.heap.size := by simp [World.setCell]
theorem does_end {w w2 w3 W : World} {B t : Nat} {v v' : Value} {T T' : Tab} {Y Y' : List ((List UInt8 × List Fl) × Value)} {la da la' da' : Option Addr} {lc dc lc' dc' : Nat} {a b : Value} {s : Array Value} (h : Both w B t v T Y la lc da dc) (h2 : TabIn w2 t B v' T') (t2 : Turn t v v' w w2)
    (hT : Three w w2 a b s) (ho : ∀ g, v'.ownBlock = some g → v.ownBlock = some g ∨ w.heap.size + 3 ≤ g)
    (hr : RefX w3 (FarOr (fun q => q < w.heap.size ∧ Free t v q) w2) T' Y' la' lc' da' dc') (hb3 : Below w2.heap.size w2 w3) (hW : Below w3.heap.size w3 W) (rel : TRel T' (Y'.map (·.1))) (nil : Y' = [] → da' = none) (hY : Y'.length ≤ Y.length + 1) (hg : Grows T T') (u1 u2 : Value) :
    DoesPost B t v T Y w (.returned (.tuple #[.agg #[.slice la' T'.length lc', .slice da' Y'.length dc'], .bool true])) ((W.setCell ⟨w.heap.size + 1 + 1, 0, none⟩ u1).setCell ⟨w.heap.size + 1 + 1, 1, none⟩ u2) := by
  have hz := hT.sz
  have hlt := h.tab.lt.2
  have hvo := h.tab.own.1
  have hb2 : Below w2.heap.size w2 W := hb3.trans (hW.mono hb3.size)
  have hne : ¬ FarOr (fun q => q < w.heap.size ∧ Free t v q) w2 (w.heap.size + 1 + 1) := by
    rintro (⟨h1, _⟩ | h1)
    · omega
    · omega
  have hv2 : v'.ownBlock ≠ some (w.heap.size + 1 + 1) := fun e => by
    rcases ho _ e with h1 | h1
    · have := (hvo _ h1).2; omega
    · omega
  have hcW : ∃ cs e fr, W.heap[w.heap.size + 1 + 1]? = some (.cells cs e fr) := ⟨_, _, _, (hb2.block _ (by omega)).trans hT.h2⟩
  have hcW2 : ∃ cs e fr, (W.setCell ⟨w.heap.size + 1 + 1, 0, none⟩ u1).heap[w.heap.size + 1 + 1]? = some (.cells cs e fr) := by
    obtain ⟨cs, e, fr, hcs⟩ := hcW
    refine ⟨cs.setIfInBounds 0 u1, e, fr, ?_⟩
    simp only [World.setCell, Array.getElem?_modify, if_true, hcs, Option.map_some]
    rfl
  refine ⟨v', T', Y', la', lc', da', dc', rfl, ⟨?_, ?_, rel, nil, Nat.lt_of_lt_of_le h.pos hg.le⟩, ?_, hY, hg⟩
  · exact ((h2.below hb2).set _ _ (by simp; omega) hv2 hcW).set _ _ (by simp; omega) hv2 hcW2
  · refine (((hr.below hW).set _ _ hne).set _ _ hne).far (fun q hq hf => ?_)
    have hl2 := h2.lt.2
    have ho2 := h2.own.1
    rcases hf with ⟨h1, h3, h4⟩ | h1
    · refine ⟨h3, fun e => ?_⟩
      rcases ho q e with h5 | h5
      · exact h4 h5
      · omega
    · exact ⟨by omega, fun e => by have := (ho2 q e).2; omega⟩
  · exact t2.fresh (((hb2.mono (by omega)).setCell (by simp; omega) _).setCell (by simp; omega) _)
theorem DoesPost.more {B t : Nat} {v : Value} {T : Tab} {Y : List ((List UInt8 × List Fl) × Value)} {w w' w'' : World} {e : Ending} (h : DoesPost B t v T Y w e w') (hb : Below w'.heap.size w' w'') : DoesPost B t v T Y w e w'' := by
  obtain ⟨v', T', Y', la', lc', da', dc', rfl, h1, h2, h3, h4⟩ := h
  exact ⟨v', T', Y', la', lc', da', dc', rfl, ⟨h1.tab.below hb, h1.ref.below hb, h1.rel, h1.nil, h1.pos⟩, h2.fresh (hb.mono h2.size), h3, h4⟩
theorem does_end2 {w W : World} {B t : Nat} {v v' : Value} {T T' : Tab} {F3 : Nat → Prop} {Y Y' : List ((List UInt8 × List Fl) × Value)} {la da la' da' : Option Addr} {lc dc lc' dc' : Nat} {a b : Value} {s : Array Value} (h : Both w B t v T Y la lc da dc) (h2 : TabIn W t B v' T') (t2 : Turn t v v' w W)
    (hT : Three w W a b s) (ho : ∀ g, v'.ownBlock = some g → v.ownBlock = some g ∨ w.heap.size + 3 ≤ g)
    (hr : RefX W F3 T' Y' la' lc' da' dc') (hF : ∀ q, F3 q → (q < w.heap.size ∧ Free t v q) ∨ (v'.ownBlock ≠ some q ∧ w.heap.size + 3 ≤ q)) (rel : TRel T' (Y'.map (·.1))) (nil : Y' = [] → da' = none) (hY : Y'.length ≤ Y.length + 1) (hg : Grows T T') (u1 u2 : Value) :
    DoesPost B t v T Y w (.returned (.tuple #[.agg #[.slice la' T'.length lc', .slice da' Y'.length dc'], .bool true])) ((W.setCell ⟨w.heap.size + 1 + 1, 0, none⟩ u1).setCell ⟨w.heap.size + 1 + 1, 1, none⟩ u2) := by
  have hz := hT.sz
  have hlt := h.tab.lt.2
  have hvo := h.tab.own.1
  have hne : ¬ F3 (w.heap.size + 1 + 1) := fun hf => by
    rcases hF _ hf with ⟨h1, _⟩ | ⟨_, h1⟩ <;> omega
  have hv2 : v'.ownBlock ≠ some (w.heap.size + 1 + 1) := fun e => by
    rcases ho _ e with h1 | h1
    · have := (hvo _ h1).2; omega
    · omega
  have hcW : ∃ cs e fr, W.heap[w.heap.size + 1 + 1]? = some (.cells cs e fr) := ⟨_, _, _, hT.h2⟩
  have hcW2 : ∃ cs e fr, (W.setCell ⟨w.heap.size + 1 + 1, 0, none⟩ u1).heap[w.heap.size + 1 + 1]? = some (.cells cs e fr) := by
    obtain ⟨cs, e, fr, hcs⟩ := hcW
    refine ⟨cs.setIfInBounds 0 u1, e, fr, ?_⟩
    simp only [World.setCell, Array.getElem?_modify, if_true, hcs, Option.map_some]
    rfl
  refine ⟨v', T', Y', la', lc', da', dc', rfl, ⟨?_, ?_, rel, nil, Nat.lt_of_lt_of_le h.pos hg.le⟩, ?_, hY, hg⟩
  · exact (h2.set _ _ (by simp; omega) hv2 hcW).set _ _ (by simp; omega) hv2 hcW2
  · refine ((hr.set _ _ hne).set _ _ hne).far (fun q hq hf => ?_)
    rcases hF q hf with ⟨h1, h3, h4⟩ | ⟨h1, h3⟩
    · refine ⟨h3, fun e => ?_⟩
      rcases ho q e with h5 | h5
      · exact h4 h5
      · omega
    · exact ⟨by omega, h1⟩
  · exact t2.fresh (((Below.refl _ _).setCell (by simp; omega) _).setCell (by simp; omega) _)
theorem Three.set {w w1 : World} {a b : Value} {s : Array Value} (h : Three w w1 a b s) (p : Addr) (u : Value) (hp : w.heap.size + 3 ≤ p.block) : Three w (w1.setCell p u) a b s :=
  ⟨by rw [set_size]; exact h.sz, (Below.heap_setCell _ _ _ _ (by omega)).trans h.h0, (Below.heap_setCell _ _ _ _ (by omega)).trans h.h1, (Below.heap_setCell _ _ _ _ (by omega)).trans h.h2⟩
theorem FArg.turn {w w' : World} {a : Option Addr} {l : List Fl} {t : Nat} {v v' : Value} (h : FArg w a l) (ht : Turn t v v' w w') (hap : 0 < l.length → ∀ b off, a = some ⟨b, off, none⟩ → b ≠ t ∧ v.ownBlock ≠ some b) : FArg w' a l := fun hl => by
  obtain ⟨b, off, h1, h2, h3⟩ := h hl
  obtain ⟨h4, h5⟩ := hap hl b off h1
  refine ⟨b, off, h1, by have := ht.size; omega, fun j u hu => ?_⟩
  rw [World.cell?_of_block (ht.block b h2 h4 h5)]
  exact h3 j u hu
end Go.Proofs.YtemnlkgjgalipaaDoor
