/-
  Both tables, the box of the reference's, and the steps as they came in: what the laws' walks carry.
-/
import Derived.Test.YtemnlkgjgalipaaDoorFew
import Derived.Test.YtemnlkgjgalipaaDoorIsAny
namespace Go.Proofs.YtemnlkgjgalipaaDoor
open Go.RowKit Go.Maps Tp
set_option linter.unusedVariables false

/-- w0: the law's first world; t: the block of the table; rb: the box of the reference's. -/
structure StIn (w0 : World) (t rb : Nat) (a : Option Addr) (ds : List DoR) (k : Nat) (T : Tab) (Y : List ((List UInt8 × List Fl) × Value)) (v : Value) (la : Option Addr) (lc : Nat) (da : Option Addr) (dc : Nat) (w : World) : Prop where
  both : Both w w0.heap.size t v T Y la lc da dc
  box : w.heap[rb]? = some (.cells #[.slice la T.length lc, .slice da Y.length dc] 30 (0, 0))
  ne : rb ≠ t
  nv : v.ownBlock ≠ some rb
  low : w0.heap.size ≤ rb
  below : Below w0.heap.size w0 w
  len : Y.length ≤ k
theorem own_not {w : World} {B size n rb : Nat} {e t : TypeId} {v : Value} {xs : List Value} {cs : Array Value} {fr : Nat × Nat} (h : w.ownsRow B e size v n xs) (hb : w.heap[rb]? = some (.cells cs t fr)) (hne : t ≠ e) : ∀ g, v.ownBlock = some g → g ≠ rb := by
  intro g hg e
  subst e
  rcases h.2 with ⟨rfl, _⟩ | ⟨g', cap, cur, rfl, _, hh, _⟩
  · simp [Value.ownBlock] at hg
  · simp [Value.ownBlock] at hg
    subst hg
    rw [hb] at hh
    cases hh
    exact hne rfl
theorem tyTab : (30 : TypeId) ≠ 41 ∧ (30 : TypeId) ≠ 92 ∧ (30 : TypeId) ≠ 64 := by decide
/-- A block of the type of the reference's tables is none of the table's own. -/
theorem RefX.apart {w : World} {F : Nat → Prop} {T : Tab} {Y : List ((List UInt8 × List Fl) × Value)} {la da : Option Addr} {lc dc rb : Nat} {cs : Array Value} {fr : Nat × Nat} (h : RefX w F T Y la lc da dc) (hb : w.heap[rb]? = some (.cells cs 30 fr)) : RefX w (fun q => F q ∧ q ≠ rb) T Y la lc da dc :=
  ⟨h.rowL, fun g hg => ⟨h.farL g hg, own_not h.rowL hb tyTab.1 g hg⟩, h.rowD, fun g hg => ⟨h.farD g hg, own_not h.rowD hb tyTab.2.1 g hg⟩, fun y hy => ⟨(h.each y hy).1, fun g hg => ⟨(h.each y hy).2 g hg, own_not (h.each y hy).1 hb tyTab.2.2 g hg⟩⟩⟩
theorem cells_set {w : World} {b : Nat} {cs : Array Value} {t : TypeId} {fr : Nat × Nat} (h : w.heap[b]? = some (.cells cs t fr)) (i : Nat) (u : Value) : (w.setCell ⟨b, i, none⟩ u).heap[b]? = some (.cells (cs.setIfInBounds i u) t fr) := by
  simp only [World.setCell, Array.getElem?_modify, if_true, h, Option.map_some]
  rfl
theorem Both.set {w : World} {B t rb : Nat} {v : Value} {T : Tab} {Y : List ((List UInt8 × List Fl) × Value)} {la da : Option Addr} {lc dc : Nat} {cs : Array Value} {fr : Nat × Nat} (h : Both w B t v T Y la lc da dc) (hb : w.heap[rb]? = some (.cells cs 30 fr)) (hne : rb ≠ t) (hnv : v.ownBlock ≠ some rb) (i : Nat) (u : Value) : Both (w.setCell ⟨rb, i, none⟩ u) B t v T Y la lc da dc := by
  refine ⟨h.tab.set _ _ hne hnv ⟨_, _, _, hb⟩, ?_, h.rel, h.nil, h.pos⟩
  exact ((h.ref.apart hb).set _ _ (fun e => e.2 rfl)).far (fun g _ hg => hg.1)
theorem Both.below {w w' : World} {B t : Nat} {v : Value} {T : Tab} {Y : List ((List UInt8 × List Fl) × Value)} {la da : Option Addr} {lc dc : Nat} (h : Both w B t v T Y la lc da dc) (hb : Below w.heap.size w w') : Both w' B t v T Y la lc da dc :=
  ⟨h.tab.below hb, h.ref.below hb, h.rel, h.nil, h.pos⟩
theorem StIn.lt {w0 w : World} {t rb k : Nat} {a : Option Addr} {ds : List DoR} {T : Tab} {Y : List ((List UInt8 × List Fl) × Value)} {v : Value} {la da : Option Addr} {lc dc : Nat} (h : StIn w0 t rb a ds k T Y v la lc da dc w) : rb < w.heap.size := (Array.getElem?_eq_some_iff.1 h.box).1
theorem StIn.more {w0 w w' : World} {t rb k : Nat} {a : Option Addr} {ds : List DoR} {T : Tab} {Y : List ((List UInt8 × List Fl) × Value)} {v : Value} {la da : Option Addr} {lc dc : Nat} (h : StIn w0 t rb a ds k T Y v la lc da dc w) (hb : Below w.heap.size w w') : StIn w0 t rb a ds k T Y v la lc da dc w' :=
  ⟨h.both.below hb, (hb.block _ h.lt).trans h.box, h.ne, h.nv, h.low, h.below.trans (hb.mono h.below.size), h.len⟩
theorem StIn.cells {w0 w : World} {t rb k : Nat} {a : Option Addr} {ds : List DoR} {T : Tab} {Y : List ((List UInt8 × List Fl) × Value)} {v : Value} {la da : Option Addr} {lc dc : Nat} (h : StIn w0 t rb a ds k T Y v la lc da dc w) : w.cell? ⟨rb, 0, none⟩ = some (.slice la T.length lc) ∧ w.cell? ⟨rb, 1, none⟩ = some (.slice da Y.length dc) ∧ ∀ o, w.frozen? ⟨rb, o, none⟩ = false :=
  ⟨by rw [cell_of_row w rb 0 _ _ _ h.box]; rfl, by rw [cell_of_row w rb 1 _ _ _ h.box]; rfl, fun o => by simp [World.frozen?, h.box]⟩
/-- Behind the step, ahead of what is stored to the box: the box's old contents. -/
theorem StIn.does {w0 w wa w2 : World} {t rb k : Nat} {a : Option Addr} {ds : List DoR} {T : Tab} {Y : List ((List UInt8 × List Fl) × Value)} {v v' : Value} {la da : Option Addr} {lc dc : Nat} (h : StIn w0 t rb a ds k T Y v la lc da dc w)
    (ha : Below w.heap.size w wa) (ht : Turn t v v' wa w2) : w2.heap[rb]? = some (.cells #[.slice la T.length lc, .slice da Y.length dc] 30 (0, 0)) ∧ v'.ownBlock ≠ some rb := by
  have h1 := h.lt
  have h2 := ha.size
  refine ⟨((ht.block rb (by omega) h.ne h.nv).trans (ha.block rb h1)).trans h.box, fun e => ?_⟩
  rcases ht.own rb e with h3 | h3
  · exact h.nv h3
  · omega
/-- One step more: behind new blocks, the step, and new blocks again, the box is written. -/
theorem StIn.next {w0 w wa w2 w3 : World} {t rb k : Nat} {a : Option Addr} {ds : List DoR} {T T' : Tab} {Y Y' : List ((List UInt8 × List Fl) × Value)} {v v' : Value} {la da la' da' : Option Addr} {lc dc lc' dc' : Nat} (h : StIn w0 t rb a ds k T Y v la lc da dc w)
    (ha : Below w.heap.size w wa) (hb : Both w2 w0.heap.size t v' T' Y' la' lc' da' dc') (ht : Turn t v v' wa w2) (hl : Y'.length ≤ Y.length + 1) (h3 : Below w2.heap.size w2 w3) :
    StIn w0 t rb a ds (k + 1) T' Y' v' la' lc' da' dc' ((w3.setCell ⟨rb, 0, none⟩ (.slice la' T'.length lc')).setCell ⟨rb, 1, none⟩ (.slice da' Y'.length dc')) := by
  obtain ⟨hbox, hnv⟩ := h.does ha ht
  have hlt := (Array.getElem?_eq_some_iff.1 hbox).1
  have hbox3 := (h3.block rb hlt).trans hbox
  have b3 := hb.below h3
  have s1 := cells_set hbox3 0 (.slice la' T'.length lc')
  have s2 := cells_set s1 1 (.slice da' Y'.length dc')
  have c1 := h.below.trans (ha.mono h.below.size)
  have hBa : w0.heap.size ≤ wa.heap.size := c1.size
  have hown : ∀ g, v.ownBlock = some g → w0.heap.size ≤ g := fun g hg => (h.both.tab.own.1 g hg).1
  have c2 := c1.trans (ht.below h.both.tab.lt.1 hown hBa)
  have c3 := c2.trans (h3.mono c2.size)
  refine ⟨(b3.set hbox3 h.ne hnv 0 _).set s1 h.ne hnv 1 _, s2, h.ne, hnv, h.low, ?_, by have := h.len; omega⟩
  exact (c3.setCell (by have := h.low; exact this) _).setCell (by have := h.low; exact this) _
/-- The steps as they came in, behind all that is done to what was made later. -/
theorem StIn.args {w0 w : World} {t rb k : Nat} {a : Option Addr} {ds : List DoR} {T : Tab} {Y : List ((List UInt8 × List Fl) × Value)} {v : Value} {la da : Option Addr} {lc dc : Nat} (h : StIn w0 t rb a ds k T Y v la lc da dc w) (hd : DArg w0 a ds) : DArg w a ds := hd.below h.below
theorem StIn.apart {w0 w : World} {t rb k : Nat} {a : Option Addr} {ds : List DoR} {T : Tab} {Y : List ((List UInt8 × List Fl) × Value)} {v : Value} {la da : Option Addr} {lc dc : Nat} (h : StIn w0 t rb a ds k T Y v la lc da dc w) {d : DoR} (hd : FArg w0 d.fa d.l) : 0 < d.l.length → ∀ b off, d.fa = some ⟨b, off, none⟩ → b ≠ t ∧ v.ownBlock ≠ some b := by
  intro hl b off hb
  obtain ⟨b', off', h1, h2, _⟩ := hd hl
  rw [hb] at h1
  injection h1 with h1
  injection h1 with h1 _ _
  subst h1
  have h3 := h.both.tab.lt.1
  exact ⟨by omega, fun e => by have := (h.both.tab.own.1 b e).1; omega⟩
theorem st_new {w1 w2 w3 : World} {v1 : Value} {g : Nat} {a : Option Addr} {ds : List DoR} (h2 : TabIn w2 w1.heap.size w1.heap.size v1 newT) (b2 : Below w1.heap.size w1 w2) (h3 : RefX w3 (fun g => w2.heap.size ≤ g) newT [] (some ⟨g, 0, none⟩) 4 none 0) (b3 : Below w2.heap.size w2 w3) :
    StIn w1 w1.heap.size w3.heap.size a ds 0 newT [] v1 (some ⟨g, 0, none⟩) 4 none 0 (w3.alloc (.cells #[.slice (some ⟨g, 0, none⟩) 4 4, .slice none 0 0] 30)) := by
  have z1 : w1.heap.size < w2.heap.size := h2.lt.2
  have z2 := b3.size
  have ho := h2.own.1
  have hb : Below w3.heap.size w3 (w3.alloc (.cells #[.slice (some ⟨g, 0, none⟩) 4 4, .slice none 0 0] 30)) := (Below.refl _ _).alloc (Nat.le_refl _) _
  refine ⟨⟨(h2.below b3).below hb, (h3.far fun q _ hq => ?_).below hb, trel_new, fun _ => rfl, by decide⟩, heap_alloc_new w3 _, by omega, fun e => by have := (ho _ e).2; omega, by omega, (b2.trans (b3.mono (by omega))).trans (hb.mono (by omega)), Nat.zero_le _⟩
  refine ⟨by omega, fun e => ?_⟩
  have := (ho q e).2
  omega
end Go.Proofs.YtemnlkgjgalipaaDoor
