/-
  The laws' argument, a slice of steps, opened.
-/
import Derived.Test.YtemnlkgjgalipaaDoorState
import Derived.Deep.Slices
import Derived.Deep.Fields
import Derived.ChangeSame
import Derived.ChangeSlices
namespace Go.Proofs.YtemnlkgjgalipaaDoor
open Go.RowKit Go.ChangeShapes Go.WideShapes Go.Deep Tp
set_option linter.unusedVariables false

theorem list_of {α : Type} {Q : Nat → α → Prop} : ∀ (n : Nat), (∀ i, i < n → ∃ x, Q i x) → ∃ l : List α, l.length = n ∧ ∀ (i : Nat) (x : α), l[i]? = some x → Q i x
  | 0, _ => ⟨[], rfl, fun i x h => by simp at h⟩
  | n + 1, h => by
    obtain ⟨l, hl, hq⟩ := list_of n (fun i hi => h i (by omega))
    obtain ⟨x, hx⟩ := h n (by omega)
    refine ⟨l ++ [x], by simp [hl], fun i y hy => ?_⟩
    rcases Tp.getElem?_snoc hy with h1 | ⟨rfl, rfl⟩
    · exact hq i y h1
    · rw [hl]; exact hx
section
variable {H : Type} {enc : TypeId × Value → H} {P : Program} {w : World} {base : Nat} {spare : Nat → Bool} {held : Bool}
/-- A slice of structs of one-cell fields: the cells, and how each reads. -/
theorem open_rows {t e : TypeId} {fs : Array Field} {fuel : Nat} {cs : List Value} {x : DataW H × List MemPlace} (ht : P.underlying t = some (.slice e)) (he : P.underlying e = some (.struct fs))
    (hone : oneCellFields P fs = true) (hC : P.cellsOf e = fs.size) (h : DataW.trod enc P w base spare held fuel t cs = some x) :
    cs = [.slice none 0 0] ∨
    ∃ (a : Addr) (len cap : Nat), cs = [.slice (some a) len cap] ∧ len ≤ maxLen ∧
      ∀ i, i < len → ∃ n : Nat, ∀ (j : Nat) (f : Field), fs[j]? = some f → ∃ (v : Value) (y : DataW H × List MemPlace), w.cell? (a.add (i * fs.size + j)) = some v ∧ DataW.trod enc P w base spare held n f.type [v] = some y := by
  rcases open_slice ht h with ⟨h0, _⟩ | ⟨a, len, cap, m, n, D, Pl, hcs, hb, hl, hm, hmm, hx, hi⟩
  · exact .inl h0
  · refine .inr ⟨a, len, cap, hcs, by omega, fun i him => ?_⟩
    have hle : len ≤ m := by rw [hmm]; split <;> omega
    obtain ⟨cs', hc, ht'⟩ := hi i (by omega)
    rw [hC] at hc
    obtain ⟨ys, n', hn', hy, hlen, hyl, hf⟩ := DataW.trod_struct he ht'
    obtain ⟨_, hcl, hat⟩ := World.cells?_some hc
    refine ⟨n', fun j f hj => ?_⟩
    obtain ⟨ho, hk⟩ := hone_of hone j f hj
    have hjl : j < fs.size := (Array.getElem?_eq_some_iff.1 hj).1
    have hcell := hat j hjl
    have hv : cs'[j]? = some (cs'[j]'(by omega)) := List.getElem?_eq_getElem (by omega)
    have h1 := hf j f hj
    rw [ho, hk] at h1
    have hone' : (cs'.drop j).take 1 = [cs'[j]'(by omega)] := by
      rw [List.drop_eq_getElem_cons (by omega)]
      rfl
    rw [hone'] at h1
    have hys : ys[j]? = some (ys[j]'(by omega)) := List.getElem?_eq_getElem (by omega)
    refine ⟨_, _, ?_, h1.trans hys⟩
    rw [← Go.Deep.add_add, hcell, hv]
end
theorem bs_of (s : ByteArray) : bs s.data.toList = s := by
  cases s; simp
theorem at_off {w : World} {b off : Nat} {i : Nat} {u : Value} {sp : Option Nat} (h : w.cell? ((⟨b, off, sp⟩ : Addr).add i) = some u) : w.cell? ⟨b, off + i, none⟩ = some u := by
  by_cases hi : i = 0
  · subst hi
    have hspot : sp = none := by simpa [Addr.add] using World.cell?_spot h
    subst hspot
    simpa [Addr.add] using h
  · simpa [Addr.add, hi] using h
theorem at_zero {w : World} {b off : Nat} {u : Value} {sp : Option Nat} (h : w.cell? ((⟨b, off, sp⟩ : Addr).add 0) = some u) : sp = none ∧ b < w.heap.size := by
  have hspot : sp = none := by simpa [Addr.add] using World.cell?_spot h
  subst hspot
  exact ⟨rfl, World.block_lt_of_cell? w _ (at_off h)⟩
section
variable {H : Type} {enc : TypeId × Value → H} {w : World} {base : Nat} {spare : Nat → Bool} {held : Bool}
theorem open_flds {fuel : Nat} {v : Value} {x : DataW H × List MemPlace} (h : DataW.trod enc Tryd.prog w base spare held fuel 32 [v] = some x) :
    ∃ (fa : Option Addr) (l : List Fl) (fc : Nat), v = .slice fa l.length fc ∧ FArg w fa l ∧ l.length ≤ maxLen ∧ ∀ f ∈ l, f.1.length ≤ maxLen := by
  rcases open_rows Tryd.underlying32 Tryd.underlying64 (by kernel_rfl) (by kernel_rfl) h with h0 | ⟨a, len, cap, h0, hm, hi⟩
  · injection h0 with h0 _
    exact ⟨none, [], 0, h0, fun h => absurd h (by simp), by simp, fun f hf => by cases hf⟩
  · injection h0 with h0 _
    have hall : ∀ i, i < len → ∃ f : Fl, w.cell? (a.add (i * 2 + 0)) = some (.string (bs f.1)) ∧ w.cell? (a.add (i * 2 + 1)) = some (.int .i64 f.2) ∧ f.1.length ≤ maxLen := fun i hl => by
      obtain ⟨n, hn⟩ := hi i hl
      obtain ⟨v0, y0, c0, t0⟩ := hn 0 _ rfl
      obtain ⟨v1, y1, c1, t1⟩ := hn 1 _ rfl
      obtain ⟨s, hs, _, hsz⟩ := DataW.trod_string Tryd.underlying9 t0
      obtain ⟨z, hz, _, _⟩ := DataW.trod_int Tryd.underlying3 t1
      injection hs with hs _
      injection hz with hz _
      subst hs; subst hz
      exact ⟨(s.data.toList, z), by rw [bs_of]; exact c0, c1, by show s.data.toList.length ≤ maxLen; rw [Array.length_toList]; exact hsz⟩
    obtain ⟨l, hl, hq⟩ := list_of len hall
    subst hl
    refine ⟨some a, l, cap, h0, fun hpos => ?_, hm, fun f hf => ?_⟩
    · obtain ⟨b, off, sp⟩ := a
      obtain ⟨f0, hf0⟩ : ∃ f, l[0]? = some f := ⟨_, List.getElem?_eq_getElem hpos⟩
      obtain ⟨hsp, hb⟩ := at_zero (hq 0 f0 hf0).1
      subst hsp
      refine ⟨b, off, rfl, hb, fun j u hu => ?_⟩
      have hj : j < l.length * 2 := by rw [← flCells_length]; exact (List.getElem?_eq_some_iff.1 hu).1
      obtain ⟨f, hf⟩ : ∃ f, l[j / 2]? = some f := ⟨_, List.getElem?_eq_getElem (by omega)⟩
      obtain ⟨c0, c1, _⟩ := hq (j / 2) f hf
      have hd : j = j / 2 * 2 + j % 2 := by omega
      have hc := flCells_at l (j / 2) (j % 2) f hf (by omega)
      rw [← hd, hu] at hc
      rcases (show j % 2 = 0 ∨ j % 2 = 1 by omega) with h2 | h2
      · rw [h2] at hc hd
        have hc : some u = some (.string (bs f.1)) := hc
        rw [hc, hd]; exact at_off c0
      · rw [h2] at hc hd
        have hc : some u = some (.int .i64 f.2) := hc
        rw [hc, hd]; exact at_off c1
    · obtain ⟨i, hi⟩ := List.mem_iff_getElem?.1 hf
      exact (hq i f hi).2.2
theorem open_does {fuel : Nat} {v : Value} {x : DataW H × List MemPlace} (h : DataW.trod enc Tryd.prog w base spare held fuel 22 [v] = some x) :
    ∃ (a : Option Addr) (ds : List DoR) (cap : Nat), v = .slice a ds.length cap ∧ DArg w a ds ∧ ds.length ≤ maxLen ∧ ∀ d ∈ ds, d.nm.length ≤ maxLen ∧ d.l.length ≤ maxLen ∧ ∀ f ∈ d.l, f.1.length ≤ maxLen := by
  rcases open_rows Tryd.underlying22 Tryd.underlying34 (by kernel_rfl) (by kernel_rfl) h with h0 | ⟨a, len, cap, h0, hm, hi⟩
  · injection h0 with h0 _
    exact ⟨none, [], 0, h0, ⟨fun h => absurd h (by simp), fun f hf => by cases hf⟩, by simp, fun f hf => by cases hf⟩
  · injection h0 with h0 _
    have hall : ∀ i, i < len → ∃ d : DoR, (∀ j u, (doV d)[j]? = some u → w.cell? (a.add (i * 5 + j)) = some u) ∧ FArg w d.fa d.l ∧ d.nm.length ≤ maxLen ∧ d.l.length ≤ maxLen ∧ ∀ f ∈ d.l, f.1.length ≤ maxLen := fun i hl => by
      obtain ⟨n, hn⟩ := hi i hl
      obtain ⟨v0, y0, c0, t0⟩ := hn 0 _ rfl
      obtain ⟨v1, y1, c1, t1⟩ := hn 1 _ rfl
      obtain ⟨v2, y2, c2, t2⟩ := hn 2 _ rfl
      obtain ⟨v3, y3, c3, t3⟩ := hn 3 _ rfl
      obtain ⟨v4, y4, c4, t4⟩ := hn 4 _ rfl
      obtain ⟨z0, hz0, _, _⟩ := DataW.trod_int Tryd.underlying3 t0
      obtain ⟨z1, hz1, _, _⟩ := DataW.trod_int Tryd.underlying3 t1
      obtain ⟨z2, hz2, _, _⟩ := DataW.trod_int Tryd.underlying3 t2
      obtain ⟨s, hs, _, hsz⟩ := DataW.trod_string Tryd.underlying9 t3
      obtain ⟨fa, l, fc, hv4, hF, hF2, hF3⟩ := open_flds t4
      injection hz0 with hz0 _
      injection hz1 with hz1 _
      injection hz2 with hz2 _
      injection hs with hs _
      subst hz0; subst hz1; subst hz2; subst hs; subst hv4
      refine ⟨⟨z0, z1, z2, s.data.toList, l, fa, fc⟩, fun j u hu => ?_, hF, by show s.data.toList.length ≤ maxLen; rw [Array.length_toList]; exact hsz, hF2, hF3⟩
      rcases j with _ | _ | _ | _ | _ | j
      · have hu : some (Value.int .i64 z0) = some u := hu
        rw [← hu]; exact c0
      · have hu : some (Value.int .i64 z1) = some u := hu
        rw [← hu]; exact c1
      · have hu : some (Value.int .i64 z2) = some u := hu
        rw [← hu]; exact c2
      · have hu : some (Value.string (bs s.data.toList)) = some u := hu
        rw [← hu, bs_of]; exact c3
      · have hu : some (Value.slice fa l.length fc) = some u := hu
        rw [← hu]; exact c4
      · simp [doV] at hu
    obtain ⟨ds, hl, hq⟩ := list_of len hall
    subst hl
    refine ⟨some a, ds, cap, h0, ⟨fun hpos => ?_, fun d hd => ?_⟩, hm, fun d hd => ?_⟩
    · obtain ⟨b, off, sp⟩ := a
      obtain ⟨f0, hf0⟩ : ∃ f, ds[0]? = some f := ⟨_, List.getElem?_eq_getElem hpos⟩
      obtain ⟨hsp, hb⟩ := at_zero ((hq 0 f0 hf0).1 0 _ rfl)
      subst hsp
      refine ⟨b, off, rfl, hb, fun i d hd j u hu => ?_⟩
      have := at_off ((hq i d hd).1 j u hu)
      rwa [← Nat.add_assoc] at this
    · obtain ⟨i, hi⟩ := List.mem_iff_getElem?.1 hd
      exact (hq i d hi).2.1
    · obtain ⟨i, hi⟩ := List.mem_iff_getElem?.1 hd
      exact (hq i d hi).2.2
end
end Go.Proofs.YtemnlkgjgalipaaDoor
