/-
  A table in memory: its own block, the row of its entries, the maps of its structs.
-/
import Derived.Test.YtemnlkgjgalipaaDoorProg
import Derived.Test.YtemnlkgjgalipaaDoorSpec
import Derived.ProofKit
import Derived.WalkKit
import Derived.WalkSpells
import Derived.Outline
import Derived.LoopTactic
import Derived.Below
import Derived.Lib.Hide
import Derived.Maps.Own
import Derived.Maps.OwnOps
import Derived.Maps.OwnSet
import Derived.Maps.Keyed
import Derived.Deep.AppendLies
namespace Go.Proofs.YtemnlkgjgalipaaDoor
open Go.RowKit Go.Maps Tp Go.ChangeMaps
set_option linter.unusedVariables false

/-- A string of bytes. -/
abbrev bs (l : List UInt8) : ByteArray := ⟨l.toArray⟩
def tyV (x : Ty) : Value := .agg #[.int .i64 x.kind, .int .i64 x.elem, .int .i64 x.n, .string (bs x.name)]
def mapV (m : Option Nat) : Value := .map m
def enV (e : En) (m : Option Nat) : Value := .agg #[.int .i64 e.self.kind, .int .i64 e.self.elem, .int .i64 e.self.n, .string (bs e.self.name), .int .i64 e.size, .map m]
/-- The cells of an entry. -/
def enCells (x : En × Option Nat) : List Value := [.int .i64 x.1.self.kind, .int .i64 x.1.self.elem, .int .i64 x.1.self.n, .string (bs x.1.self.name), .int .i64 x.1.size, .map x.2]
def tabCells (X : List (En × Option Nat)) : List Value := X.flatMap enCells
/-- How a place in a map reads. -/
def placeR (v : Value) : Option (DataW Unit × List MemPlace) :=
  match v with
  | .agg cs => match cs.toList with
    | [.int .i64 a, .int .i64 b] => some (.agg [.lit (.int .i64 a), .lit (.int .i64 b)], [])
    | _ => none
  | _ => none
theorem placeR_mk (a b : Int) : placeR (.agg #[.int .i64 a, .int .i64 b]) = some (.agg [.lit (.int .i64 a), .lit (.int .i64 b)], []) := rfl
def placeD (a b : Int) : DataW Unit := .agg [.lit (.int .i64 a), .lit (.int .i64 b)]
theorem placeR_inv {v : Value} {a b : Int} {ps : List MemPlace} (h : placeR v = some (placeD a b, ps)) : v = .agg #[.int .i64 a, .int .i64 b] := by
  unfold placeR at h
  split at h
  · rename_i cs
    split at h
    · rename_i c d hcs
      simp [placeD] at h
      obtain ⟨⟨rfl, rfl⟩, _⟩ := h
      congr 1
      exact Array.toList_inj.1 hcs
    · cases h
  · cases h
/-- The map of a struct's fields, as it reads. -/
def putP (D : DataW Unit) (f : Pl) : DataW Unit := D.put (.string f.1) (placeD f.2.1 f.2.2)
def placesD (l : List Pl) : DataW Unit := l.foldl putP (.map [])
/-- A struct's fields in memory. -/
def FldIn (w : World) (m : Option Nat) (o : Option (List Pl)) : Prop :=
  match o with
  | none => m = none
  | some l => ∃ b n, m = some b ∧ w.ownsMap Tryd.prog 9 placeR b n (placesD l) ∧ (l.map (·.1)).Nodup
structure TabX (w : World) (t B : Nat) (v : Value) (X : List (En × Option Nat)) : Prop where
  head : w.heap[t]? = some (.cells #[v] 67 (0, 0))
  ge : B ≤ t
  row : w.ownsRow B 71 6 v X.length (tabCells X)
  apart : v.ownBlock ≠ some t
  flds : ∀ x ∈ X, FldIn w x.2 x.1.flds
/-- A table in memory. -/
def TabIn (w : World) (t B : Nat) (v : Value) (T : Tab) : Prop := ∃ X, X.map (·.1) = T ∧ TabX w t B v X
/-- What a call has done that may add to a table: its own two blocks are written, and new ones. -/
structure Turn (t : Nat) (v v' : Value) (w w' : World) : Prop where
  os : w'.os = w.os
  tape : w'.tape = w.tape
  output : w'.output = w.output
  size : w.heap.size ≤ w'.heap.size
  block : ∀ k, k < w.heap.size → k ≠ t → v.ownBlock ≠ some k → w'.heap[k]? = w.heap[k]?
  own : ∀ g, v'.ownBlock = some g → v.ownBlock = some g ∨ w.heap.size ≤ g
theorem Turn.trans {t : Nat} {v v1 v2 : Value} {w w1 w2 : World} (h : Turn t v v1 w w1) (k : Turn t v1 v2 w1 w2) : Turn t v v2 w w2 := by
  refine ⟨k.os.trans h.os, k.tape.trans h.tape, k.output.trans h.output, Nat.le_trans h.size k.size, fun i hi hn hv => ?_, fun g hg => ?_⟩
  · rw [k.block i (Nat.lt_of_lt_of_le hi h.size) hn (fun e => ?_)]
    · exact h.block i hi hn hv
    · rcases h.own i e with h1 | h1
      · exact hv h1
      · omega
  · rcases k.own g hg with h1 | h1
    · exact h.own g h1
    · exact .inr (Nat.le_trans h.size h1)
theorem Turn.of_below {t : Nat} {v : Value} {w w' : World} (h : Below w.heap.size w w') : Turn t v v w w' :=
  ⟨h.os, h.tape, h.output, h.size, fun k hk _ _ => h.block k hk, fun g hg => .inl hg⟩
theorem Turn.below {t B : Nat} {v v' : Value} {w w' : World} (h : Turn t v v' w w') (ht : B ≤ t) (hv : ∀ g, v.ownBlock = some g → B ≤ g) (hB : B ≤ w.heap.size) : Below B w w' :=
  ⟨h.os, h.tape, h.output, h.size, fun k hk => h.block k (by omega) (by omega) (fun e => by have := hv k e; omega)⟩
theorem FldIn.keep {w w' : World} {m : Option Nat} {o : Option (List Pl)} (h : FldIn w m o) (hk : ∀ (b : Nat) (es : Array MapEntry) (c : Nat), w.heap[b]? = some (.map es c) → w'.heap[b]? = w.heap[b]?) : FldIn w' m o := by
  unfold FldIn at h ⊢
  cases o with
  | none => exact h
  | some l =>
    obtain ⟨b, n, rfl, ⟨es, c, hb, r⟩, hd⟩ := h
    exact ⟨b, n, rfl, ⟨es, c, (hk b es c hb).trans hb, r⟩, hd⟩
theorem FldIn.keepO {w w' : World} {m : Option Nat} {o : Option (List Pl)} (h : FldIn w m o) (hk : ∀ (b : Nat) (es : Array MapEntry) (c : Nat), w.heap[b]? = some (.map es c) → w'.heap[b]? = some (.map es c)) : FldIn w' m o :=
  h.keep (fun b es c hb => (hk b es c hb).trans hb.symm)
theorem TabX.lt {w : World} {t B : Nat} {v : Value} {X : List (En × Option Nat)} (h : TabX w t B v X) : t < w.heap.size := (Array.getElem?_eq_some_iff.1 h.head).1
theorem TabX.below {w w' : World} {t B : Nat} {v : Value} {X : List (En × Option Nat)} (h : TabX w t B v X) (hb : Below w.heap.size w w') : TabX w' t B v X := by
  refine ⟨(hb.block t h.lt).trans h.head, h.ge, ?_, h.apart, fun x hx => (h.flds x hx).keep (fun b es c hm => hb.block b (Array.getElem?_eq_some_iff.1 hm).1)⟩
  obtain ⟨h1, h2⟩ := h.row
  refine ⟨h1, ?_⟩
  rcases h2 with h2 | ⟨g, cap, cur, hv, hg, hh, r⟩
  · exact .inl h2
  · exact .inr ⟨g, cap, cur, hv, hg, (hb.block g (Array.getElem?_eq_some_iff.1 hh).1).trans hh, r⟩
theorem TabIn.below {w w' : World} {t B : Nat} {v : Value} {T : Tab} (h : TabIn w t B v T) (hb : Below w.heap.size w w') : TabIn w' t B v T := by
  obtain ⟨X, hX, h⟩ := h
  exact ⟨X, hX, h.below hb⟩
theorem TabIn.lt {w : World} {t B : Nat} {v : Value} {T : Tab} (h : TabIn w t B v T) : B ≤ t ∧ t < w.heap.size := by
  obtain ⟨X, _, h⟩ := h
  exact ⟨h.ge, h.lt⟩
theorem TabIn.own {w : World} {t B : Nat} {v : Value} {T : Tab} (h : TabIn w t B v T) : (∀ g, v.ownBlock = some g → B ≤ g ∧ g < w.heap.size) ∧ v.ownBlock ≠ some t := by
  obtain ⟨X, _, h⟩ := h
  exact ⟨h.row.lt, h.apart⟩
theorem TabIn.turn {w w' : World} {t B : Nat} {v v' : Value} {T : Tab} (h : TabIn w t B v T) (ht : Turn t v v' w w') : Below B w w' :=
  ht.below h.lt.1 (fun g hg => (h.own.1 g hg).1) (by have := h.lt; omega)
theorem tabCells_at : ∀ (X : List (En × Option Nat)) (i j : Nat) (x : En × Option Nat), X[i]? = some x → j < 6 → (tabCells X)[i * 6 + j]? = (enCells x)[j]?
  | [], i, j, t, h, _ => by simp at h
  | a :: ts, 0, j, t, h, hj => by
    simp at h; subst h
    have hl : (enCells a).length = 6 := rfl
    simp only [tabCells, List.flatMap_cons, Nat.zero_mul, Nat.zero_add]
    rw [List.getElem?_append_left (by omega)]
  | a :: ts, i + 1, j, t, h, hj => by
    simp at h
    have hl : (enCells a).length = 6 := rfl
    have ih := tabCells_at ts i j t h hj
    simp only [tabCells, List.flatMap_cons] at ih ⊢
    rw [List.getElem?_append_right (by omega), hl, show (i + 1) * 6 + j - 6 = i * 6 + j by omega]
    exact ih
/-- The six cells of an entry. -/
theorem TabX.at {w : World} {t B : Nat} {g len cap : Nat} {X : List (En × Option Nat)} (h : TabX w t B (.slice (some ⟨g, 0, none⟩) len cap) X) {i : Nat} {x : En × Option Nat} (hi : X[i]? = some x) :
    w.cell? ⟨g, i * 6, none⟩ = some (.int .i64 x.1.self.kind) ∧ w.cell? ⟨g, i * 6 + 1, none⟩ = some (.int .i64 x.1.self.elem) ∧ w.cell? ⟨g, i * 6 + 2, none⟩ = some (.int .i64 x.1.self.n) ∧
      w.cell? ⟨g, i * 6 + 3, none⟩ = some (.string (bs x.1.self.name)) ∧ w.cell? ⟨g, i * 6 + 4, none⟩ = some (.int .i64 x.1.size) ∧ w.cell? ⟨g, i * 6 + 5, none⟩ = some (.map x.2) := by
  have hc := h.row.cells (g := g) rfl
  have hadd : ∀ j, (⟨g, 0, none⟩ : Addr).add j = ⟨g, j, none⟩ := fun j => by unfold Addr.add; split <;> simp_all
  have c : ∀ j, j < 6 → ∀ u, (enCells x)[j]? = some u → w.cell? ⟨g, i * 6 + j, none⟩ = some u := fun j hj u hu => by
    have := hc (i * 6 + j) u (by rw [tabCells_at X i j x hi hj]; exact hu)
    rwa [hadd] at this
  exact ⟨c 0 (by omega) _ rfl, c 1 (by omega) _ rfl, c 2 (by omega) _ rfl, c 3 (by omega) _ rfl, c 4 (by omega) _ rfl, c 5 (by omega) _ rfl⟩
theorem TabX.cell {w : World} {t B : Nat} {v : Value} {X : List (En × Option Nat)} (h : TabX w t B v X) : w.cell? ⟨t, 0, none⟩ = some v := by
  rw [cell_of_row w t 0 _ _ _ h.head]; rfl
/-- What the slice of a table looks like that has something. -/
theorem TabX.form {w : World} {t B : Nat} {v : Value} {X : List (En × Option Nat)} (h : TabX w t B v X) (h0 : 0 < X.length) : ∃ g cap, v = .slice (some ⟨g, 0, none⟩) X.length cap ∧ B ≤ g ∧ g < w.heap.size := h.row.form h0
theorem map_at {X : List (En × Option Nat)} {T : Tab} (hX : X.map (·.1) = T) {i : Nat} {e : En} (h : T[i]? = some e) : ∃ m, X[i]? = some (e, m) := by
  subst hX
  rw [List.getElem?_map] at h
  cases hx : X[i]? with
  | none => rw [hx] at h; cases h
  | some x => rw [hx] at h; simp at h; subst h; exact ⟨x.2, rfl⟩
theorem one_set {w : World} {b : Nat} {x u : Value} {t : TypeId} (h : w.heap[b]? = some (.cells #[x] t (0, 0))) : (w.setCell ⟨b, 0, none⟩ u).heap[b]? = some (.cells #[u] t (0, 0)) := by
  simp only [World.setCell, Array.getElem?_modify, if_true, h, Option.map_some]
  rfl
theorem own_setCell_other {w : World} {base : Nat} {e : TypeId} {size : Nat} {v : Value} {n : Nat} {xs : List Value} (h : w.ownsRow base e size v n xs) {a : Addr} (ha : v.ownBlock ≠ some a.block) (u : Value) : (w.setCell a u).ownsRow base e size v n xs := by
  obtain ⟨h1, h2⟩ := h
  refine ⟨h1, ?_⟩
  rcases h2 with h2 | ⟨g, cap, cur, rfl, hg, hh, r⟩
  · exact .inl h2
  · refine .inr ⟨g, cap, cur, rfl, hg, ?_, r⟩
    rw [Below.heap_setCell _ _ _ _ (fun e => ha (by simp [Value.ownBlock, e]))]
    exact hh
/-- The maps of the structs lie in neither of the table's two blocks. -/
theorem TabX.map_apart {w : World} {t B : Nat} {v : Value} {X : List (En × Option Nat)} (h : TabX w t B v X) {b : Nat} {es : Array MapEntry} {c : Nat} (hm : w.heap[b]? = some (.map es c)) : b ≠ t ∧ v.ownBlock ≠ some b := by
  refine ⟨fun e => ?_, fun e => ?_⟩
  · subst e; have := h.head; rw [hm] at this; cases this
  · rcases h.row.2 with ⟨rfl, _⟩ | ⟨g, cap, cur, rfl, _, hh, _⟩
    · simp [Value.ownBlock] at e
    · simp [Value.ownBlock] at e
      subst e
      rw [hm] at hh; cases hh
theorem tabCells_snoc (X : List (En × Option Nat)) (x : En × Option Nat) : tabCells (X ++ [x]) = tabCells X ++ enCells x := by simp [tabCells]
/-- One entry more. -/
theorem TabX.snoc {w w2 w1 : World} {t B H : Nat} {v v' : Value} {X : List (En × Option Nat)} {e : En} (h : TabX w t B v X) (hb : Below w.heap.size w w2) (hg : w2.grownBy w1 v.ownBlock)
    (hown : w1.ownsRow B 71 6 v' (X.length + 1) (tabCells X ++ enCells (e, none))) (hat : v.ownBlock = v'.ownBlock ∨ v'.ownBlock = some H) (hH : w.heap.size ≤ H) (he : e.flds = none) :
    TabX (w1.setCell ⟨t, 0, none⟩ v') t B v' (X ++ [(e, none)]) ∧ Turn t v v' w (w1.setCell ⟨t, 0, none⟩ v') := by
  have hlt := h.lt
  have hap : v'.ownBlock ≠ some t := by
    rcases hat with h1 | h1
    · rw [← h1]; exact h.apart
    · rw [h1]; intro e; injection e with e; omega
  have hblock : ∀ k, k < w.heap.size → v.ownBlock ≠ some k → w1.heap[k]? = w.heap[k]? := fun k hk hn =>
    (hg.block k (Nat.lt_of_lt_of_le hk hb.size) (Ne.symm hn)).trans (hb.block k hk)
  have hsz := hb.size
  have hsz1 := hg.size
  refine ⟨⟨one_set ((hblock t hlt h.apart).trans h.head), h.ge, ?_, hap, fun x hx => ?_⟩, ⟨?_, ?_, ?_, ?_, ?_, ?_⟩⟩
  · rw [tabCells_snoc, List.length_append]
    exact own_setCell_other hown hap _
  · rcases List.mem_append.1 hx with hx | hx
    · refine (h.flds x hx).keep fun b es c hm => ?_
      obtain ⟨m1, m2⟩ := h.map_apart hm
      rw [Below.heap_setCell _ _ _ _ m1]
      exact hblock b (Array.getElem?_eq_some_iff.1 hm).1 m2
    · simp at hx
      subst hx
      unfold FldIn
      rw [he]
  · exact hg.os.trans hb.os
  · exact hg.tape.trans hb.tape
  · exact hg.output.trans hb.output
  · simp [World.setCell]; omega
  · intro k hk hn hv
    rw [Below.heap_setCell _ _ _ _ hn]
    exact hblock k hk hv
  · intro g hgg
    rcases hat with h1 | h1
    · left; rw [h1]; exact hgg
    · right; rw [h1] at hgg; injection hgg with hgg; omega
end Go.Proofs.YtemnlkgjgalipaaDoor
