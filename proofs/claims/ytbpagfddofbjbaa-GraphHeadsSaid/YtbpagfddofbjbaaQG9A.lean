/-
  Layer 9: rows, and rows of rows, in memory.
  Contract of code.Next.
  What is found along edges from some, if one is left out; edges turned about: on lists.
  What is found is what is come to: the document's words.
  Layer 9: where each instruction may go on (follows).
  Layer 9: slices.Index, slices.Contains of numbers.
  Layer 9: edges turned about (turned).
  Layer 9: what is found along edges (found, its closure).
  Layer 9: contract of found.
-/
import Derived.Test.YtbpagfddofbjbaaR7RightA
import Derived.Test.YtbpagfddofbjbaaR7Ints
import Derived.Deep.OwnRows
import Derived.Test.YtbpagfddofbjbaaQR9A
import Derived.Test.YtbpagfddofbjbaaC7RightF
import Derived.Maps.AppendAt
namespace Go.Proofs.Ytbpagfddofbjbaa
set_option maxRecDepth 100000
open Go.RowKit Cd
set_option linter.unusedVariables false
set_option linter.unusedSimpArgs false

/-- A block is a row of these cells. -/
def VRow (w : World) (b : Nat) (t : TypeId) (vs : List Value) : Prop := w.heap[b]? = some (.cells vs.toArray t (0, 0))
abbrev ints (l : List Int) : List Value := l.map (Value.int .i64)
abbrev IRow (w : World) (b : Nat) (l : List Int) : Prop := VRow w b 3 (ints l)
theorem VRow.lt {w : World} {b : Nat} {t : TypeId} {vs : List Value} (h : VRow w b t vs) : b < w.heap.size := lt_heap h
theorem VRow.cell {w : World} {b : Nat} {t : TypeId} {vs : List Value} (h : VRow w b t vs) {i : Nat} {u : Value} (hi : vs[i]? = some u) : w.cell? ⟨b, i, none⟩ = some u := by
  rw [cell_of_row w b i _ _ _ h]; simpa using hi
theorem VRow.keep {w w' : World} {b : Nat} {t : TypeId} {vs : List Value} (h : VRow w b t vs) (e : w'.heap[b]? = w.heap[b]?) : VRow w' b t vs := e.trans h
theorem VRow.below {w w' : World} {b B : Nat} {t : TypeId} {vs : List Value} (h : VRow w b t vs) (hb : Below B w w') (hB : b < B) : VRow w' b t vs := h.keep (hb.block b hB)
theorem VRow.set {w : World} {b : Nat} {t : TypeId} {vs : List Value} (h : VRow w b t vs) (i : Nat) (u : Value) : VRow (w.setCell ⟨b, i, none⟩ u) b t (vs.set i u) := by
  unfold VRow
  rw [cells_set h i u, List.setIfInBounds_toArray]
theorem VRow.frozen {w : World} {b : Nat} {t : TypeId} {vs : List Value} (h : VRow w b t vs) (i : Nat) : w.frozen? ⟨b, i, none⟩ = false := by simp [World.frozen?, (show w.heap[b]? = _ from h)]
theorem IRow.cell {w : World} {b : Nat} {l : List Int} (h : IRow w b l) {i : Nat} {x : Int} (hi : l[i]? = some x) : w.cell? ⟨b, i, none⟩ = some (.int .i64 x) := VRow.cell h (by simp [hi])
theorem IRow.set {w : World} {b : Nat} {l : List Int} (h : IRow w b l) (i : Nat) (x : Int) : IRow (w.setCell ⟨b, i, none⟩ (.int .i64 x)) b (l.set i x) := by
  have := VRow.set h i (.int .i64 x)
  unfold IRow ints
  rw [List.map_set]
  exact this
theorem VRow.new (w : World) (t : TypeId) (vs : List Value) : VRow (w.alloc (.cells vs.toArray t)) w.heap.size t vs := heap_alloc_new w _
/-- What make lays. -/
theorem made_row (z : Value) : ∀ n : Nat, madeCells #[z] n = (List.replicate n z).toArray := fun n => by
  apply Array.ext'
  apply List.ext_getElem?
  intro i
  unfold madeCells
  by_cases hi : i < n
  · simp [hi, Nat.mod_one]
  · simp [hi]
/-- Cells lie at an address, in a block from lo on. -/
def LiesIn (w : World) (lo : Nat) (a : Option Addr) (cs : List Value) : Prop :=
  0 < cs.length → ∃ b off, a = some ⟨b, off, none⟩ ∧ lo ≤ b ∧ b < w.heap.size ∧ ∀ (j : Nat) (u : Value), cs[j]? = some u → w.cell? ⟨b, off + j, none⟩ = some u
theorem LiesIn.keep {w w' : World} {lo : Nat} {a : Option Addr} {cs : List Value} (h : LiesIn w lo a cs) (hs : w.heap.size ≤ w'.heap.size) (hb : ∀ g, lo ≤ g → g < w.heap.size → w'.heap[g]? = w.heap[g]?) : LiesIn w' lo a cs := fun h0 => by
  obtain ⟨b, off, ha, h1, h2, h3⟩ := h h0
  exact ⟨b, off, ha, h1, by omega, fun j u hu => (World.cell?_of_block (w := w) (hb b h1 h2)).trans (h3 j u hu)⟩
theorem LiesIn.below {w w' : World} {lo : Nat} {a : Option Addr} {cs : List Value} (h : LiesIn w lo a cs) (hb : Below w.heap.size w w') : LiesIn w' lo a cs := h.keep hb.size (fun g _ hg => hb.block g hg)
theorem LiesIn.row {w : World} {lo : Nat} {a : Option Addr} {cs : List Value} (h : LiesIn w lo a cs) : RowAt w w.heap.size a cs := fun h0 => by
  obtain ⟨b, off, ha, h1, h2, h3⟩ := h h0
  exact ⟨b, off, ha, h2, Nat.le_refl _, h3⟩
theorem LiesIn.of_own {w : World} {B n c : Nat} {a : Option Addr} {l : List Int} (h : w.ownsRow B 3 1 (.slice a n c) n (ints l)) : LiesIn w B a (ints l) := fun h0 => by
  rw [List.length_map] at h0
  obtain ⟨x, hx⟩ : ∃ x, l[0]? = some x := ⟨_, List.getElem?_eq_getElem h0⟩
  obtain ⟨g, rfl, h1, hg, _⟩ := own_int h hx
  refine ⟨g, 0, rfl, h1, hg, fun j u hu => ?_⟩
  rw [List.getElem?_map] at hu
  cases hj : l[j]? with
  | none => rw [hj] at hu; cases hu
  | some y =>
    rw [hj] at hu
    injection hu with hu
    obtain ⟨g', hg', _, _, hc⟩ := own_int h hj
    injection hg' with hg'
    injection hg' with hg' _ _
    subst hg' hu
    rw [Nat.zero_add]; exact hc
theorem LiesIn.le {w : World} {lo lo' : Nat} {a : Option Addr} {cs : List Value} (h : LiesIn w lo a cs) (hl : lo' ≤ lo) : LiesIn w lo' a cs := fun h0 => by
  obtain ⟨b, off, ha, h1, h2, h3⟩ := h h0
  exact ⟨b, off, ha, by omega, h2, h3⟩
/-- Rows lie there, each a slice's. -/
def RowsIn (w : World) (lo : Nat) (vs : List Value) (G : List (List Int)) : Prop :=
  ∀ (i : Nat) (l : List Int), G[i]? = some l → ∃ a c, vs[i]? = some (.slice a l.length c) ∧ LiesIn w lo a (ints l) ∧ l.length ≤ c ∧ c ≤ maxLen
theorem RowsIn.keep {w w' : World} {lo : Nat} {vs : List Value} {G : List (List Int)} (h : RowsIn w lo vs G) (hs : w.heap.size ≤ w'.heap.size) (hb : ∀ g, lo ≤ g → g < w.heap.size → w'.heap[g]? = w.heap[g]?) : RowsIn w' lo vs G := fun i l hi => by
  obtain ⟨a, c, h1, h2, h3⟩ := h i l hi
  exact ⟨a, c, h1, h2.keep hs hb, h3⟩
theorem RowsIn.below {w w' : World} {lo : Nat} {vs : List Value} {G : List (List Int)} (h : RowsIn w lo vs G) (hb : Below w.heap.size w w') : RowsIn w' lo vs G := h.keep hb.size (fun g _ hg => hb.block g hg)
/-- A row of rows lies in memory below B. -/
def RowsAt (w : World) (B : Nat) (ga : Option Addr) (G : List (List Int)) : Prop :=
  ∃ vs : List Value, vs.length = G.length ∧ RowAt w B ga vs ∧ ∀ (i : Nat) (l : List Int), G[i]? = some l → ∃ a c, vs[i]? = some (.slice a l.length c) ∧ RowAt w B a (ints l) ∧ l.length ≤ c ∧ c ≤ maxLen
theorem RowsAt.below {w w' : World} {B : Nat} {ga : Option Addr} {G : List (List Int)} (h : RowsAt w B ga G) (hb : Below B w w') : RowsAt w' B ga G := by
  obtain ⟨vs, h1, h2, h3⟩ := h
  refine ⟨vs, h1, h2.below hb, fun i l hi => ?_⟩
  obtain ⟨a, c, h4, h5, h6⟩ := h3 i l hi
  exact ⟨a, c, h4, h5.below hb, h6⟩
theorem RowsAt.mono {w : World} {B B' : Nat} {ga : Option Addr} {G : List (List Int)} (h : RowsAt w B ga G) (hB : B ≤ B') (hw : B' ≤ w.heap.size) : RowsAt w B' ga G := by
  obtain ⟨vs, h1, h2, h3⟩ := h
  refine ⟨vs, h1, h2.mono hB hw, fun i l hi => ?_⟩
  obtain ⟨a, c, h4, h5, h6⟩ := h3 i l hi
  exact ⟨a, c, h4, h5.mono hB hw, h6⟩
theorem RowsAt.at {w : World} {B : Nat} {ga : Option Addr} {G : List (List Int)} (h : RowsAt w B ga G) {i : Nat} {l : List Int} (hi : G[i]? = some l) : ∃ b off a c, ga = some ⟨b, off, none⟩ ∧ b < B ∧ B ≤ w.heap.size ∧ w.cell? ⟨b, off + i, none⟩ = some (.slice a l.length c) ∧ RowAt w B a (ints l) ∧ l.length ≤ c ∧ c ≤ maxLen := by
  obtain ⟨vs, h1, h2, h3⟩ := h
  obtain ⟨a, c, h4, h5⟩ := h3 i l hi
  have hlt := (List.getElem?_eq_some_iff.1 hi).1
  obtain ⟨b, off, ha, hb, hB, hc⟩ := h2 (by omega)
  exact ⟨b, off, a, c, ha, hb, hB, hc i _ h4, h5⟩
theorem RowsAt.nil (w : World) (B : Nat) : RowsAt w B none [] := ⟨[], rfl, RowAt.nil _ _ _, fun i l h => by simp at h⟩
theorem RowsAt.of_rows {w : World} {b lo : Nat} {t : TypeId} {vs : List Value} {G : List (List Int)} (h : VRow w b t vs) (hl : vs.length = G.length) (hr : RowsIn w lo vs G) : RowsAt w w.heap.size (some ⟨b, 0, none⟩) G :=
  ⟨vs, hl, fun _ => ⟨b, 0, rfl, h.lt, Nat.le_refl _, fun j u hu => by rw [Nat.zero_add]; exact h.cell hu⟩, fun i l hi => by
    obtain ⟨a, c, h1, h2, h3⟩ := hr i l hi
    exact ⟨a, c, h1, h2.row, h3⟩⟩
/-- The answer: a row of rows, in memory of its own. -/
def RowsPost (G : List (List Int)) (w : World) (e : Ending) (w' : World) : Prop := ∃ a c, e = .returned (.slice a G.length c) ∧ RowsAt w' w'.heap.size a G ∧ Below w.heap.size w w'
theorem IntsAt.cellsB {w : World} {B : Nat} {a : Option Addr} {l : List Int} (h : RowAt w B a (ints l)) {k : Nat} {x : Int} (hk : l[k]? = some x) : ∃ b off, a = some ⟨b, off, none⟩ ∧ b < B ∧ B ≤ w.heap.size ∧ w.cell? ⟨b, off + k, none⟩ = some (.int .i64 x) := by
  have hlt := (List.getElem?_eq_some_iff.1 hk).1
  obtain ⟨b, off, ha, hb, hB, hc⟩ := h (by rw [List.length_map]; omega)
  exact ⟨b, off, ha, hb, hB, hc k _ (by rw [List.getElem?_map, hk]; rfl)⟩
theorem infoRow : (Try.prog.info? 31).map (fun i => (i.zero, i.size, i.bytes)) = some (some (.slice none 0 0), 1, 24) := by kernel_rfl
/-- Rows as objects; not to be opened. -/
def iObj (l : List Int) : Obj := .cells (ints l).toArray 3
def bObj (l : List Bool) : Obj := .cells (l.map Value.bool).toArray 4
def rObj (l : List Value) : Obj := .cells l.toArray 31
theorem VRow.newI (w : World) (l : List Int) : IRow (w.alloc (iObj l)) w.heap.size l := heap_alloc_new w _
theorem VRow.newB (w : World) (l : List Bool) : VRow (w.alloc (bObj l)) w.heap.size 4 (l.map Value.bool) := heap_alloc_new w _
theorem VRow.newR (w : World) (l : List Value) : VRow (w.alloc (rObj l)) w.heap.size 31 l := heap_alloc_new w _
theorem make_ints (n : Nat) (hn : n ≤ 100000) (w : World) : (Instr.makeSlice 31 (.int .i64 (n : Int)) (.int .i64 (n : Int))).run Try.prog w = .ok (.slice (some ⟨w.heap.size, 0, none⟩) n n) (w.alloc (iObj (List.replicate n 0))) := by
  unfold iObj
  rw [run_make_row' 31 3 (.int .i64 0) 8 Try.underlying31 infoInt rfl .i64 .i64 n (by omega) (by omega) w, made_row]
  simp
theorem make_rows (n : Nat) (hn : n ≤ 100000) (w : World) : (Instr.makeSlice 27 (.int .i64 (n : Int)) (.int .i64 (n : Int))).run Try.prog w = .ok (.slice (some ⟨w.heap.size, 0, none⟩) n n) (w.alloc (rObj (List.replicate n (.slice none 0 0)))) := by
  unfold rObj
  rw [run_make_row' 27 31 (.slice none 0 0) 24 Try.underlying27 infoRow rfl .i64 .i64 n (by omega) (by omega) w, made_row]
theorem infoBool : (Try.prog.info? 4).map (fun i => (i.zero, i.size, i.bytes)) = some (some (.bool false), 1, 1) := by kernel_rfl
theorem make_bools (n : Nat) (hn : n ≤ 100000) (w : World) : (Instr.makeSlice 29 (.int .i64 (n : Int)) (.int .i64 (n : Int))).run Try.prog w = .ok (.slice (some ⟨w.heap.size, 0, none⟩) n n) (w.alloc (bObj (List.replicate n false))) := by
  unfold bObj
  rw [run_make_row' 29 4 (.bool false) 1 Try.underlying29 infoBool rfl .i64 .i64 n (by omega) (by omega) w, made_row]
  simp
/-- A slice of fewer. -/
theorem own_short {w : World} {B n c k : Nat} {e : TypeId} {a : Option Addr} {xs : List Value} (h : w.ownsRow B e 1 (.slice a n c) n xs) (hk : k ≤ n) : w.ownsRow B e 1 (.slice a k c) k (xs.take k) := by
  obtain ⟨hl, ⟨h0, h1⟩ | ⟨g, cap, cur, hv, hg, hh, h1, h2, h3, ht⟩⟩ := h
  · subst h1
    injection h0 with h0 _ h2
    subst h0 h2
    obtain rfl : k = 0 := by omega
    exact ⟨by simp, .inl ⟨rfl, rfl⟩⟩
  · injection hv with hv _ hc
    subst hv hc
    refine ⟨by rw [List.length_take, hl]; omega, .inr ⟨g, c, cur, rfl, hg, hh, by omega, h2, h3, ?_⟩⟩
    rw [← ht, List.take_take]
    congr 1
    omega
theorem own_room {w : World} {B n c : Nat} {e : TypeId} {a : Option Addr} {xs : List Value} (h : w.ownsRow B e 1 (.slice a n c) n xs) : n ≤ c ∧ c ≤ maxLen ∧ (a = none ∨ ∃ g off, a = some ⟨g, off, none⟩) := by
  obtain ⟨hl, ⟨h0, h1⟩ | ⟨g, cap, cur, hv, hg, hh, h1, h2, h3, ht⟩⟩ := h
  · injection h0 with h0 h2 h3
    subst h0 h2 h3
    exact ⟨Nat.le_refl _, by unfold maxLen; omega, .inl rfl⟩
  · injection hv with hv _ hc
    subst hv hc
    exact ⟨h1, h2, .inr ⟨g, 0, rfl⟩⟩
theorem slice_short {a : Option Addr} {n c k : Nat} (ha : a = none ∨ ∃ g off, a = some ⟨g, off, none⟩) (hk : k ≤ c) (hc : c ≤ maxLen) (W : World) :
    (Instr.sliceAt 31 (.slice a n c) none (some (.int .i64 k)) none).run Try.prog W = .ok (.slice a k c) W := by
  unfold maxLen at hc
  have h0 : (0 : Int) ≤ (k : Int) := Int.natCast_nonneg _
  have h1 : (k : Int) ≤ (c : Int) := by omega
  have ht := Try.underlying31
  have hz : ∀ W, (sizeOf 3).run Try.prog W = .ok 1 W := fun W => by kernel_rfl
  have hel : Try.prog.elem 31 = 3 := by simp [Program.elem, ht]
  rcases ha with rfl | ⟨g, off, rfl⟩
  · go_simp
  · go_simp
end Go.Proofs.Ytbpagfddofbjbaa
namespace Go.Proofs.Ytbpagfddofbjbaa
set_option maxRecDepth 100000
open Go.RowKit Cd
set_option linter.unusedVariables false
theorem cnext_any (i : Ins) (p : Int) (hp : 0 ≤ p ∧ p ≤ 1000000) (w : World) : Calls Try.prog 87 #[inV i, .int .i64 p] w (ListPost (next i p) w) := by
  obtain ⟨hp0, hp1⟩ := hp
  by_cases h11 : i.kind = 11
  · have e : next i p = [i.dest] := if_pos h11
    rw [e]; clear e
    go_enter Try.func87, Try.ntmps87
    go_wp2
    go_ret
    exact list_one (by simp) rfl
  · by_cases h12 : i.kind = 12
    · have e : next i p = [i.dest, i.els] := by unfold next; rw [if_neg h11, if_pos h12]
      rw [e]; clear e h11
      go_enter Try.func87, Try.ntmps87
      go_wp2
      go_ret
      exact list_two (by simp) rfl
    · by_cases h13 : i.kind = 13
      · have e : next i p = [] := by unfold next; rw [if_neg h11, if_neg h12, if_pos h13]
        rw [e]; clear e h11 h12
        go_enter Try.func87, Try.ntmps87
        go_wp2
        go_ret
        exact list_nil ((Below.refl _ _).alloc (Nat.le_refl _) _)
      · have e : next i p = [p + 1] := by unfold next; rw [if_neg h11, if_neg h12, if_neg h13]
        rw [e]; clear e
        have g11 : ((i.kind : Int) == 11) = false := by simp; omega
        have g12 : ((i.kind : Int) == 12) = false := by simp; omega
        have g13 : ((i.kind : Int) == 13) = false := by simp; omega
        go_enter Try.func87, Try.ntmps87
        go_wp2
        go_ret
        exact list_one (by simp) rfl
end Go.Proofs.Ytbpagfddofbjbaa
namespace Go.Proofs.Ytbpagfddofbjbaa.Cd
set_option linter.unusedVariables false

/-- The edges of one, in lists of edges of all. -/
def egs (G : List (List Int)) (x : Int) : List Int := match G[x.toNat]? with | some l => l | none => []
theorem egs_at {G : List (List Int)} {x : Int} {l : List Int} (h : G[x.toNat]? = some l) : egs G x = l := by unfold egs; rw [h]
theorem egs_nil {G : List (List Int)} {x : Int} (h : G[x.toNat]? = none) : egs G x = [] := by unfold egs; rw [h]
/-- Edges lead within. -/
def GIn (G : List (List Int)) : Prop := ∀ l ∈ G, ∀ y ∈ l, 0 ≤ y ∧ y < (G.length : Int)
theorem GIn.egs {G : List (List Int)} (h : GIn G) {x y : Int} (hy : y ∈ egs G x) : 0 ≤ y ∧ y < (G.length : Int) := by
  unfold Cd.egs at hy
  split at hy
  · rename_i l hl
    exact h l (List.mem_of_getElem? hl) y hy
  · simp at hy
inductive Path (G : List (List Int)) (no : Int) (fr : List Int) : Int → Prop where
  | start {x : Int} : x ∈ fr → x ≠ no → Path G no fr x
  | more {x y : Int} : Path G no fr x → y ∈ egs G x → y ≠ no → Path G no fr y
theorem Path.not {G : List (List Int)} {no : Int} {fr : List Int} {x : Int} (h : Path G no fr x) : x ≠ no := by cases h <;> assumption
/-- What is found so far, and what is open. -/
abbrev FS := List Bool × List Int
def see1 (no : Int) (s : FS) (y : Int) : FS := if y ≠ no ∧ s.1[y.toNat]? = some false then (s.1.set y.toNat true, s.2 ++ [y]) else s
def seeL (no : Int) (s : FS) : List Int → FS
  | [] => s
  | y :: l => seeL no (see1 no s y) l
theorem seeL_snoc (no : Int) : ∀ (l : List Int) (s : FS) (y : Int), seeL no s (l ++ [y]) = see1 no (seeL no s l) y
  | [], s, y => rfl
  | x :: l, s, y => seeL_snoc no l (see1 no s x) y
/-- How many are not found. -/
def lacks (l : List Bool) : Nat := l.countP (fun b => !b)
theorem lacks_set : ∀ (l : List Bool) (k : Nat), l[k]? = some false → lacks (l.set k true) + 1 = lacks l
  | [], k, h => by simp at h
  | b :: l, 0, h => by
    have : b = false := by simpa using h
    subst this
    simp [lacks]
  | b :: l, k + 1, h => by
    have := lacks_set l k (by simpa using h)
    unfold lacks at this ⊢
    rw [List.set_cons_succ, List.countP_cons, List.countP_cons]
    omega
theorem see1_len (no : Int) (s : FS) (y : Int) : (see1 no s y).1.length = s.1.length := by unfold see1; split <;> simp
theorem seeL_len (no : Int) : ∀ (l : List Int) (s : FS), (seeL no s l).1.length = s.1.length
  | [], s => rfl
  | y :: l, s => (seeL_len no l _).trans (see1_len no s y)
theorem see1_sum (no : Int) (s : FS) (y : Int) : lacks (see1 no s y).1 + (see1 no s y).2.length = lacks s.1 + s.2.length := by
  unfold see1
  split
  · rename_i h
    have := lacks_set _ _ h.2
    simp only [List.length_append, List.length_singleton]
    omega
  · rfl
theorem seeL_sum (no : Int) : ∀ (l : List Int) (s : FS), lacks (seeL no s l).1 + (seeL no s l).2.length = lacks s.1 + s.2.length
  | [], s => rfl
  | y :: l, s => (seeL_sum no l _).trans (see1_sum no s y)
/-- It is found. -/
def Is (s : List Bool) (x : Int) : Prop := s[x.toNat]? = some true
theorem see1_is {no : Int} {s : FS} {y : Int} (hy : 0 ≤ y ∧ y < (s.1.length : Int)) {x : Int} (hx : 0 ≤ x) : Is (see1 no s y).1 x ↔ Is s.1 x ∨ (x = y ∧ y ≠ no) := by
  unfold see1 Is
  by_cases h : y ≠ no ∧ s.1[y.toNat]? = some false
  · rw [if_pos h]
    by_cases hxy : x = y
    · subst hxy
      rw [List.getElem?_set_self (by omega)]
      simp [h.1]
    · rw [List.getElem?_set_ne (by omega)]
      simp [hxy]
  · rw [if_neg h]
    constructor
    · exact .inl
    · rintro (h1 | ⟨rfl, h1⟩)
      · exact h1
      · have : x.toNat < s.1.length := by omega
        cases hb : s.1[x.toNat]'this with
        | true => rw [List.getElem?_eq_getElem this, hb]
        | false => exact absurd ⟨h1, by rw [List.getElem?_eq_getElem this, hb]⟩ h
theorem seeL_is {no : Int} {n : Nat} : ∀ {l : List Int} {s : FS}, s.1.length = n → (∀ y ∈ l, 0 ≤ y ∧ y < (n : Int)) → ∀ {x : Int}, 0 ≤ x → (Is (seeL no s l).1 x ↔ Is s.1 x ∨ (x ∈ l ∧ x ≠ no))
  | [], s, _, _, x, _ => by simp [seeL]
  | y :: l, s, hn, hl, x, hx => by
    unfold seeL
    rw [seeL_is (n := n) ((see1_len no s y).trans hn) (fun z hz => hl z (by simp [hz])) hx, see1_is (by rw [hn]; exact hl y (by simp)) hx]
    constructor
    · rintro ((h | ⟨rfl, h⟩) | h)
      · exact .inl h
      · exact .inr ⟨by simp, h⟩
      · exact .inr ⟨by simp [h.1], h.2⟩
    · rintro (h | ⟨h, h1⟩)
      · exact .inl (.inl h)
      · rcases List.mem_cons.1 h with rfl | h
        · exact .inl (.inr ⟨rfl, h1⟩)
        · exact .inr ⟨h, h1⟩
theorem see1_open (no : Int) (s : FS) (y x : Int) : x ∈ (see1 no s y).2 ↔ x ∈ s.2 ∨ (x = y ∧ y ≠ no ∧ s.1[y.toNat]? = some false) := by
  unfold see1
  by_cases h : y ≠ no ∧ s.1[y.toNat]? = some false
  · rw [if_pos h]; simp only [List.mem_append, List.mem_singleton]
    constructor
    · rintro (h1 | h1)
      · exact .inl h1
      · exact .inr ⟨h1, h⟩
    · rintro (h1 | h1)
      · exact .inl h1
      · exact .inr h1.1
  · rw [if_neg h]
    constructor
    · exact .inl
    · rintro (h1 | h1)
      · exact h1
      · exact absurd h1.2 h
/-- What is new is open; what was open is. -/
theorem seeL_open {no : Int} {n : Nat} : ∀ {l : List Int} {s : FS}, s.1.length = n → (∀ y ∈ l, 0 ≤ y ∧ y < (n : Int)) → (∀ x ∈ s.2, 0 ≤ x ∧ x < (n : Int)) → (∀ x ∈ s.2, x ∈ (seeL no s l).2) ∧ (∀ x ∈ (seeL no s l).2, 0 ≤ x ∧ x < (n : Int)) ∧ (∀ x, 0 ≤ x → Is (seeL no s l).1 x → Is s.1 x ∨ x ∈ (seeL no s l).2) ∧ ((∀ x ∈ s.2, Is s.1 x) → ∀ x ∈ (seeL no s l).2, Is (seeL no s l).1 x)
  | [], s, _, _, ho => ⟨fun _ h => h, ho, fun _ _ h => .inl h, fun h => h⟩
  | y :: l, s, hn, hl, ho => by
    have hy := hl y (by simp)
    have hlen := (see1_len no s y).trans hn
    have ho' : ∀ x ∈ (see1 no s y).2, 0 ≤ x ∧ x < (n : Int) := fun x hx => by
      rcases (see1_open no s y x).1 hx with h | ⟨rfl, _⟩
      · exact ho x h
      · exact hy
    obtain ⟨h1, h2, h3, h4⟩ := seeL_open (no := no) (n := n) (l := l) (s := see1 no s y) hlen (fun z hz => hl z (by simp [hz])) ho'
    refine ⟨fun x hx => h1 x ((see1_open no s y x).2 (.inl hx)), h2, fun x hx hi => ?_, fun hs => h4 (fun x hx => ?_)⟩
    · rcases h3 x hx hi with h | h
      · rcases (see1_is (by rw [hn]; exact hy) hx).1 h with h5 | ⟨rfl, h5⟩
        · exact .inl h5
        · by_cases h6 : s.1[x.toNat]? = some false
          · exact .inr (h1 x ((see1_open no s x x).2 (.inr ⟨rfl, h5, h6⟩)))
          · unfold Is at h ⊢
            unfold see1 at h
            rw [if_neg (fun h7 => h6 h7.2)] at h
            exact .inl h
      · exact .inr h
    · have hx0 := ho' x hx
      rw [see1_is (by rw [hn]; exact hy) hx0.1]
      rcases (see1_open no s y x).1 hx with h | ⟨rfl, h, _⟩
      · exact .inl (hs x h)
      · exact .inr ⟨rfl, h⟩
/-- How far the search is. -/
structure FInv (G : List (List Int)) (no : Int) (fr : List Int) (s : FS) : Prop where
  len : s.1.length = G.length
  inside : ∀ x ∈ s.2, 0 ≤ x ∧ x < (G.length : Int)
  «open» : ∀ x ∈ s.2, Is s.1 x
  path : ∀ x, 0 ≤ x → Is s.1 x → Path G no fr x
  first : ∀ x ∈ fr, x ≠ no → Is s.1 x
  done : ∀ x, 0 ≤ x → Is s.1 x → x ∈ s.2 ∨ ∀ y ∈ egs G x, y ≠ no → Is s.1 y
theorem FInv.begin {G : List (List Int)} (no : Int) {fr : List Int} (hf : ∀ x ∈ fr, 0 ≤ x ∧ x < (G.length : Int)) : FInv G no fr (seeL no (List.replicate G.length false, []) fr) := by
  have hn : (List.replicate G.length false).length = G.length := by simp
  have h0 : ∀ x : Int, ¬ Is (List.replicate G.length false) x := fun x h => by unfold Is at h; rw [List.getElem?_replicate] at h; split at h <;> simp at h
  obtain ⟨_, h2, h3, h4⟩ := seeL_open (no := no) (n := G.length) (l := fr) (s := (List.replicate G.length false, [])) hn hf (by simp)
  have h5 : ∀ {x : Int}, 0 ≤ x → (Is (seeL no (List.replicate G.length false, []) fr).1 x ↔ x ∈ fr ∧ x ≠ no) := fun {x} hx => by
    rw [seeL_is (n := G.length) hn hf hx]
    exact ⟨fun h => h.elim (fun h => absurd h (h0 x)) id, .inr⟩
  exact ⟨(seeL_len _ _ _).trans hn, h2, h4 (by simp), fun x hx h => .start ((h5 hx).1 h).1 ((h5 hx).1 h).2, fun x hx hn => (h5 (hf x hx).1).2 ⟨hx, hn⟩, fun x hx h => (h3 x hx h).imp_right (fun h => h) |>.elim (fun h => absurd h (h0 x)) .inl⟩
theorem FInv.more {G : List (List Int)} {no : Int} {fr : List Int} {s : FS} {x : Int} {o : List Int} (hG : GIn G) (hf : ∀ x ∈ fr, 0 ≤ x ∧ x < (G.length : Int)) (h : FInv G no fr s) (hx : s.2 = o ++ [x]) : FInv G no fr (seeL no (s.1, o) (egs G x)) := by
  have hxin := h.inside x (by rw [hx]; simp)
  have hxis := h.open x (by rw [hx]; simp)
  have hin : ∀ y ∈ egs G x, 0 ≤ y ∧ y < (G.length : Int) := fun y hy => hG.egs hy
  obtain ⟨h1, h2, h3, h4⟩ := seeL_open (no := no) (n := G.length) (l := egs G x) (s := (s.1, o)) h.len hin (fun y hy => h.inside y (by rw [hx]; simp [hy]))
  have h5 : ∀ {y : Int}, 0 ≤ y → (Is (seeL no (s.1, o) (egs G x)).1 y ↔ Is s.1 y ∨ (y ∈ egs G x ∧ y ≠ no)) := fun {y} hy => seeL_is (no := no) (n := G.length) (s := (s.1, o)) h.len hin hy
  refine ⟨(seeL_len _ _ _).trans h.len, h2, h4 (fun y hy => h.open y (by rw [hx]; simp [hy])), fun y hy hi => ?_, fun y hy hn => ?_, fun y hy hi => ?_⟩
  · rcases (h5 hy).1 hi with h6 | h6
    · exact h.path y hy h6
    · exact .more (h.path x hxin.1 hxis) h6.1 h6.2
  · exact (h5 (hf y hy).1).2 (.inl (h.first y hy hn))
  · rcases h3 y hy hi with h6 | h6
    · rcases h.done y hy h6 with h7 | h7
      · rw [hx, List.mem_append] at h7
        rcases h7 with h7 | h7
        · exact .inl (h1 y h7)
        · rw [List.mem_singleton] at h7
          subst h7
          exact .inr fun z hz hn => (h5 (hin z hz).1).2 (.inr ⟨hz, hn⟩)
      · exact .inr fun z hz hn => (h5 (hG.egs hz).1).2 (.inl (h7 z hz hn))
    · exact .inl h6
theorem FInv.all {G : List (List Int)} {no : Int} {fr : List Int} {s : FS} (hG : GIn G) (hf : ∀ x ∈ fr, 0 ≤ x ∧ x < (G.length : Int)) (h : FInv G no fr s) (ho : s.2 = []) (x : Int) : (0 ≤ x ∧ Is s.1 x) ↔ Path G no fr x := by
  constructor
  · exact fun h1 => h.path x h1.1 h1.2
  · intro hp
    induction hp with
    | start h1 h2 => exact ⟨(hf _ h1).1, h.first _ h1 h2⟩
    | more _ hy hn ih =>
      rcases h.done _ ih.1 ih.2 with h3 | h3
      · rw [ho] at h3; simp at h3
      · exact ⟨(hG.egs hy).1, h3 _ hy hn⟩
open Classical in
/-- What is found of each. -/
noncomputable def foundB (G : List (List Int)) (fr : List Int) (no : Int) : List Bool := (List.range G.length).map (fun x : Nat => decide (Path G no fr (x : Int)))
theorem foundB_len (G : List (List Int)) (fr : List Int) (no : Int) : (foundB G fr no).length = G.length := by simp [foundB]
theorem foundB_at {G : List (List Int)} {fr : List Int} {no : Int} {x : Nat} (hx : x < G.length) : (foundB G fr no)[x]? = some true ↔ Path G no fr (x : Int) := by
  unfold foundB
  rw [List.getElem?_map, List.getElem?_range hx]
  simp
theorem FInv.end {G : List (List Int)} {no : Int} {fr : List Int} {s : FS} (hG : GIn G) (hf : ∀ x ∈ fr, 0 ≤ x ∧ x < (G.length : Int)) (h : FInv G no fr s) (ho : s.2 = []) : s.1 = foundB G fr no := by
  apply List.ext_getElem?
  intro i
  by_cases hi : i < G.length
  · have h1 := h.all hG hf ho (i : Int)
    have h2 := foundB_at (fr := fr) (no := no) hi
    have e1 : s.1[i]? = some (s.1[i]'(by rw [h.len]; exact hi)) := List.getElem?_eq_getElem _
    have e2 : (foundB G fr no)[i]? = some ((foundB G fr no)[i]'(by rw [foundB_len]; exact hi)) := List.getElem?_eq_getElem _
    unfold Is at h1
    rw [Int.toNat_natCast] at h1
    rw [← h2] at h1
    rw [e1, e2] at h1 ⊢
    cases ha : s.1[i]'(by rw [h.len]; exact hi) <;> cases hb : (foundB G fr no)[i]'(by rw [foundB_len]; exact hi) <;> simp_all
  · rw [List.getElem?_eq_none (by rw [h.len]; omega), List.getElem?_eq_none (by rw [foundB_len]; omega)]

/-! ### Turned about -/
/-- The edges of a function's code. -/
def nextG (c : List Ins) : List (List Int) := c.mapIdx (fun k i => next i (k : Int))
theorem nextG_len (c : List Ins) : (nextG c).length = c.length := by simp [nextG]
theorem nextG_at (c : List Ins) (k : Nat) : (nextG c)[k]? = c[k]?.map (fun i => next i (k : Int)) := by simp [nextG]
theorem egs_nextG (c : List Ins) {x : Int} (hx : 0 ≤ x) : egs (nextG c) x = nexts c x := by
  unfold egs nexts
  rw [nextG_at]
  cases h : c[x.toNat]? with
  | none => rfl
  | some i => simp only [Option.map_some]; rw [Int.toNat_of_nonneg hx]
theorem nextG_in {c : List Ins} (h : Closed c) : GIn (nextG c) := by
  intro l hl y hy
  obtain ⟨k, hk⟩ := List.mem_iff_getElem?.1 hl
  have hlt := (List.getElem?_eq_some_iff.1 hk).1
  rw [nextG_len] at hlt ⊢
  have h1 := h (k : Int) ⟨Int.natCast_nonneg _, by omega⟩ y (by rw [← egs_nextG c (Int.natCast_nonneg _), egs_at (by simpa using hk)]; exact hy)
  exact h1
/-- One edge is put in. -/
def turn1 (b : List (List Int)) (k : Int) (y : Int) : List (List Int) := b.modify y.toNat (· ++ [k])
/-- Those of one, the first j of them. -/
def turnL (b : List (List Int)) (k : Int) (l : List Int) : Nat → List (List Int)
  | 0 => b
  | j + 1 => match l[j]? with
    | some y => if y ∈ l.take j then turnL b k l j else turn1 (turnL b k l j) k y
    | none => turnL b k l j
/-- Those of the first k. -/
def turnG (G : List (List Int)) : Nat → List (List Int)
  | 0 => List.replicate G.length []
  | k + 1 => match G[k]? with
    | some l => turnL (turnG G k) (k : Int) l l.length
    | none => turnG G k
theorem turn1_len (b : List (List Int)) (k y : Int) : (turn1 b k y).length = b.length := by simp [turn1]
theorem turnL_len (b : List (List Int)) (k : Int) (l : List Int) : ∀ j, (turnL b k l j).length = b.length
  | 0 => rfl
  | j + 1 => by
    unfold turnL
    split
    · split
      · exact turnL_len b k l j
      · exact (turn1_len _ _ _).trans (turnL_len b k l j)
    · exact turnL_len b k l j
theorem turnG_len (G : List (List Int)) : ∀ k, (turnG G k).length = G.length
  | 0 => by simp [turnG]
  | k + 1 => by
    unfold turnG
    split
    · exact (turnL_len _ _ _ _).trans (turnG_len G k)
    · exact turnG_len G k
theorem take_mem_succ {l : List Int} {j : Nat} {y x : Int} (h : l[j]? = some y) : x ∈ l.take (j + 1) ↔ x ∈ l.take j ∨ x = y := by
  have hlt := (List.getElem?_eq_some_iff.1 h).1
  have e : l[j] = y := (List.getElem?_eq_some_iff.1 h).2
  rw [List.take_succ_eq_append_getElem hlt, e]
  simp
theorem turnL_at (b : List (List Int)) (k : Int) (l : List Int) (hl : ∀ y ∈ l, 0 ≤ y ∧ y < (b.length : Int)) : ∀ (j : Nat), j ≤ l.length → ∀ (n : Nat), (turnL b k l j)[n]? = b[n]?.map (fun r => if (n : Int) ∈ l.take j then r ++ [k] else r)
  | 0, _, n => by simp [turnL]
  | j + 1, hj, n => by
    have hlt : j < l.length := hj
    have hy : l[j]? = some l[j] := List.getElem?_eq_getElem hlt
    have hin := hl l[j] (List.getElem_mem hlt)
    have ih := turnL_at b k l hl j (by omega) n
    unfold turnL
    rw [hy]
    simp only
    by_cases hm : l[j] ∈ l.take j
    · rw [if_pos hm, ih]
      congr 1
      funext r
      have : (n : Int) ∈ l.take (j + 1) ↔ (n : Int) ∈ l.take j := by
        rw [take_mem_succ hy]
        exact ⟨fun h => h.elim id (fun h => h ▸ hm), .inl⟩
      simp only [this]
    · rw [if_neg hm]
      unfold turn1
      rw [List.getElem?_modify, ih]
      by_cases hn : l[j].toNat = n
      · have e : l[j] = (n : Int) := by omega
        simp only [hn, if_true]
        have h2 : (n : Int) ∉ l.take j := e ▸ hm
        have h3 : (n : Int) ∈ l.take (j + 1) := (take_mem_succ hy).2 (.inr e.symm)
        simp only [h2, h3, if_true, if_false]
        cases b[n]? <;> simp
      · simp only [hn, if_false]
        have e : (n : Int) ≠ l[j] := by omega
        have : (n : Int) ∈ l.take (j + 1) ↔ (n : Int) ∈ l.take j := by
          rw [take_mem_succ hy]
          exact ⟨fun h => h.elim id (fun h => absurd h e), .inl⟩
        simp only [this]
        cases b[n]? <;> simp
theorem turnG_at {G : List (List Int)} (hG : GIn G) : ∀ (k : Nat), k ≤ G.length → ∀ (n : Nat), n < G.length → (turnG G k)[n]? = some (((List.range k).map Int.ofNat).filter (fun i => (egs G i).contains (n : Int)))
  | 0, _, n, hn => by simp [turnG, hn]
  | k + 1, hk, n, hn => by
    have hlt : k < G.length := hk
    have hg : G[k]? = some G[k] := List.getElem?_eq_getElem hlt
    unfold turnG
    rw [hg]
    simp only
    rw [turnL_at _ _ _ (fun y hy => by rw [turnG_len]; exact hG _ (List.getElem_mem hlt) y hy) _ (Nat.le_refl _), turnG_at hG k (by omega) n hn, List.take_length, List.range_succ, List.map_append, List.filter_append]
    have e : egs G (Int.ofNat k) = G[k] := egs_at (by simp)
    simp only [Option.map_some, List.map_cons, List.map_nil, List.filter_cons, List.filter_nil, e]
    by_cases h : (n : Int) ∈ G[k]
    · rw [if_pos h, if_pos (by rw [List.contains_iff_mem]; exact h)]; rfl
    · rw [if_neg h, if_neg (by rw [List.contains_iff_mem]; exact h)]; simp
/-- All edges, turned about. -/
def turned (G : List (List Int)) : List (List Int) := turnG G G.length
theorem turned_len (G : List (List Int)) : (turned G).length = G.length := turnG_len G _
theorem turned_mem {G : List (List Int)} (hG : GIn G) {n k : Int} (hn : 0 ≤ n ∧ n < (G.length : Int)) : k ∈ egs (turned G) n ↔ (0 ≤ k ∧ k < (G.length : Int)) ∧ n ∈ egs G k := by
  have h := turnG_at hG G.length (Nat.le_refl _) n.toNat (by omega)
  have e : egs (turned G) n = _ := egs_at h
  rw [e, List.mem_filter, List.mem_map, List.contains_iff_mem, Int.toNat_of_nonneg hn.1]
  constructor
  · rintro ⟨⟨i, hi, rfl⟩, h2⟩
    rw [List.mem_range] at hi
    exact ⟨⟨Int.natCast_nonneg _, by simpa using hi⟩, h2⟩
  · rintro ⟨h1, h2⟩
    exact ⟨⟨k.toNat, List.mem_range.2 (by omega), by show ((k.toNat : Nat) : Int) = k; omega⟩, h2⟩
theorem turned_in {G : List (List Int)} (hG : GIn G) : GIn (turned G) := by
  intro l hl y hy
  obtain ⟨k, hk⟩ := List.mem_iff_getElem?.1 hl
  have hlt := (List.getElem?_eq_some_iff.1 hk).1
  rw [turned_len] at hlt ⊢
  exact ((turned_mem hG (n := (k : Int)) ⟨Int.natCast_nonneg _, by omega⟩).1 (by rw [egs_at (by simpa using hk)]; exact hy)).1
/-- The document's Before. -/
theorem turned_before {c : List Ins} (hc : Closed c) {n : Nat} (hn : n < c.length) : (turned (nextG c))[n]? = some (beforeN c (n : Int)) := by
  unfold turned
  rw [turnG_at (nextG_in hc) _ (Nat.le_refl _) n (by rw [nextG_len]; exact hn), nextG_len]
  unfold beforeN
  congr 1
  apply List.filter_congr
  intro x hx
  obtain ⟨i, _, rfl⟩ := List.mem_map.1 hx
  rw [egs_nextG c (show (0 : Int) ≤ Int.ofNat i from Int.natCast_nonneg i)]
end Go.Proofs.Ytbpagfddofbjbaa.Cd
namespace Go.Proofs.Ytbpagfddofbjbaa.Cd
set_option linter.unusedVariables false

theorem path_reach {c : List Ins} (hc : Closed c) (h0 : 0 < c.length) {no x : Int} : Path (nextG c) no [0] x ↔ Reach c no 0 x := by
  constructor
  · intro h
    have : Reach c no 0 x ∧ 0 ≤ x := by
      induction h with
      | start h1 h2 =>
        obtain rfl := List.mem_singleton.1 h1
        exact ⟨.start h2, Int.le_refl _⟩
      | more _ hy hn ih =>
        rw [egs_nextG c ih.2] at hy
        have := ih.1.inside hc (zero_inside h0)
        exact ⟨.more ih.1 hy hn, (hc _ this _ hy).1⟩
    exact this.1
  · intro h
    induction h with
    | start h1 => exact .start (by simp) h1
    | more h1 hy hn ih =>
      have := h1.inside hc (zero_inside h0)
      exact .more ih (by rw [egs_nextG c this.1]; exact hy) hn
theorem path_back {c : List Ins} (hc : Closed c) {h x : Int} {S : List Int} (hS : ∀ t ∈ S, Inside c t) : (Path (turned (nextG c)) h S x) ↔ Inside c x ∧ ∃ t ∈ S, Reach c h x t := by
  have hl := nextG_len c
  have hin : ∀ {x : Int}, Inside c x ↔ 0 ≤ x ∧ x < ((nextG c).length : Int) := fun {x} => by rw [hl]; exact Iff.rfl
  constructor
  · intro hp
    induction hp with
    | start h1 h2 => exact ⟨hS _ h1, _, h1, .start h2⟩
    | @more u y _ hy hn ih =>
      obtain ⟨hu, t, ht, hr⟩ := ih
      obtain ⟨h3, h4⟩ := (turned_mem (nextG_in hc) (hin.1 hu)).1 hy
      rw [egs_nextG c h3.1] at h4
      exact ⟨hin.2 h3, t, ht, hr.ahead hn h4⟩
  · rintro ⟨hx, t, ht, hr⟩
    have key : ∀ {y : Int}, Reach c h x y → Path (turned (nextG c)) h S y → Path (turned (nextG c)) h S x := by
      intro y hy
      induction hy with
      | start _ => exact id
      | @more u v h1 h2 h3 ih =>
        intro hv
        have hu := h1.inside hc hx
        refine ih (.more hv ((turned_mem (nextG_in hc) (hin.1 (hc _ hu _ h2))).2 ⟨hin.1 hu, ?_⟩) h1.not)
        rw [egs_nextG c hu.1]; exact h2
    exact key hr (.start ht hr.not)
end Go.Proofs.Ytbpagfddofbjbaa.Cd
namespace Go.Proofs.Ytbpagfddofbjbaa
set_option maxRecDepth 100000
open Go.RowKit Cd
set_option linter.unusedVariables false
set_option linter.unusedSimpArgs false

/-- The edges of a function, if it may be. -/
def Cd.followG (f : Fnc) : List (List Int) := if rightF f = true then nextG f.code else []
theorem cnext_c (x : Ins) (p : Int) (ns : List Int) (hp : 0 ≤ p ∧ p ≤ 1000000) (hns : next x p = ns) (w : World) :
    Calls Try.prog 87 #[inV x, .int .i64 p] w fun e w' => ∃ (a : Option Addr) (c : Nat), e = .returned (.slice a ns.length c) ∧ LiesIn w' w.heap.size a (ints ns) ∧ (ns.length ≤ c ∧ c ≤ maxLen) ∧ Below w.heap.size w w' := by
  subst hns
  refine (cnext_any x p hp w).mono ?_
  rintro e w' ⟨v, rfl, ho, hb⟩
  obtain ⟨a, c, rfl⟩ := row_slice ho
  exact ⟨a, c, rfl, LiesIn.of_own ho, ⟨(own_room ho).1, (own_room ho).2.1⟩, hb⟩
theorem rightF_v (r : FnR) (b : Bool) (B : Nat) (w : World) (hc : CodeAt w B r) (hB : B ≤ w.heap.size) (hl : r.f.code.length ≤ maxLen) (h : rightF r.f = b) : Calls Try.prog 72 #[fnV r] w (RPost (.bool b) w) :=
  h ▸ rightFunc_c r B w hc hB hl
theorem rows_step {w w' : World} {lo : Nat} {vs : List Value} {G : List (List Int)} {k : Nat} {l : List Int} {a : Option Addr} {c : Nat} (h : RowsIn w lo vs (G.take k)) (hv : vs.length = G.length) (hk : G[k]? = some l) (hl : LiesIn w lo a (ints l)) (hcap : l.length ≤ c ∧ c ≤ maxLen) (hs : w.heap.size ≤ w'.heap.size) (hb : ∀ g, lo ≤ g → g < w.heap.size → w'.heap[g]? = w.heap[g]?) :
    RowsIn w' lo (vs.set k (.slice a l.length c)) (G.take (k + 1)) := fun i l' hi => by
  have hlt := (List.getElem?_eq_some_iff.1 hk).1
  by_cases hik : i = k
  · subst hik
    rw [List.getElem?_take_of_lt (by omega), hk] at hi
    injection hi with hi
    subst hi
    exact ⟨a, c, by rw [List.getElem?_set_self (by omega)], hl.keep hs hb, hcap⟩
  · have hlt2 : i < k := by
      have := (List.getElem?_eq_some_iff.1 hi).1
      rw [List.length_take] at this
      omega
    rw [List.getElem?_take_of_lt (by omega)] at hi
    obtain ⟨a', c', h1, h2, h3⟩ := h i l' (by rw [List.getElem?_take_of_lt hlt2]; exact hi)
    exact ⟨a', c', by rw [List.getElem?_set_ne (by omega)]; exact h1, h2.keep hs hb, h3⟩
set_option maxHeartbeats 4000000 in
set_option maxRecDepth 100000 in
theorem follows_no (r : FnR) (B : Nat) (w : World) (hc : CodeAt w B r) (hB : B ≤ w.heap.size) (hl : r.f.code.length ≤ maxLen) (hf : rightF r.f = false) :
    Calls Try.prog 56 #[fnV r] w (RowsPost (followG r.f) w) := by
  have HC := Lib.hid hc; have HF := Lib.hid hf; clear hc hf
  go_enter Try.func56, Try.ntmps56
  go_wp2_with ((with_reducible refine (rightF_v r false B _ (HC.out.below (((Below.refl _ w).alloc (Nat.le_refl _) _).mono hB)) (by simp <;> omega) hl HF.out).mono ?_); rintro e w1 ⟨rfl, hb1⟩; have HB1 := Lib.hid hb1; clear hb1)
  go_ret
  have e : followG r.f = [] := by unfold followG; rw [HF.out]; rfl
  rw [e]
  exact ⟨none, 0, rfl, RowsAt.nil _ _, ((Below.refl _ w).alloc (Nat.le_refl _) _).trans (HB1.out.mono (by simp))⟩
set_option maxHeartbeats 4000000 in
set_option maxRecDepth 100000 in
theorem follows_yes (name : List UInt8) (params regs frame : Int) (code : List Ins) (ca : Option Addr) (cc : Nat) (B : Nat) (w : World) (hc : CodeAt w B ⟨⟨name, params, regs, frame, code⟩, ca, cc⟩) (hB : B ≤ w.heap.size) (hf : rightF ⟨name, params, regs, frame, code⟩ = true) :
    Calls Try.prog 56 #[fnV ⟨⟨name, params, regs, frame, code⟩, ca, cc⟩] w (RowsPost (nextG code) w) := by
  have hlen := (rightF_iff.1 hf).code.2
  simp only at hlen
  have hG := nextG_len code
  have HC := Lib.hid hc; have HF := Lib.hid hf; clear hc hf
  obtain ⟨G, hGe⟩ : ∃ G, nextG code = G := ⟨_, rfl⟩
  rw [hGe] at hG
  have HGE := Lib.hid hGe
  clear hGe
  have hmk := make_rows code.length (by omega)
  go_enter Try.func56, Try.ntmps56
  go_wp2_with ((with_reducible refine (rightF_v ⟨⟨name, params, regs, frame, code⟩, ca, cc⟩ true B _ (HC.out.below (((Below.refl _ w).alloc (Nat.le_refl _) _).mono hB)) (by simp <;> omega) (by unfold maxLen; simp only; omega) HF.out).mono ?_); rintro e w1 ⟨rfl, hb1⟩; have HB1 := Lib.hid (((Below.refl _ w).alloc (Nat.le_refl _) _).trans (hb1.mono (by simp))); have HW1 := Lib.hid ((hb1.block w.heap.size (by simp)).trans (heap_alloc_new w (fnO ⟨⟨name, params, regs, frame, code⟩, ca, cc⟩))); have hz1 := lt_heap HW1.out; obtain ⟨d0, d1, d2, d3, d4⟩ := nv5 HW1.out; clear hb1)
  have HR0 := Lib.hid (VRow.newR w1 (List.replicate code.length (.slice none 0 0)))
  have HB2 := Lib.hid (HB1.out.alloc HB1.out.size (rObj (List.replicate code.length (.slice none 0 0))))
  have HW2 := Lib.hid ((Below.heap_alloc w1 (rObj (List.replicate code.length (.slice none 0 0))) _ hz1).trans HW1.out)
  go_loopw [16] (fun s16 wr => ∃ (k : Nat) (vs : List Value), k ≤ code.length ∧ s16 = .int .i64 k ∧ vs.length = code.length ∧ Hid (VRow wr w1.heap.size 31 vs) ∧ Hid (RowsIn wr (w1.heap.size + 1) vs (G.take k)) ∧ Hid (Below w.heap.size w wr) ∧ Hid (wr.heap[w.heap.size]? = some (fnO ⟨⟨name, params, regs, frame, code⟩, ca, cc⟩))) (fun s16 wr => code.length - (intOf s16).toNat)
  case atStart => exact ⟨0, _, by omega, rfl, by simp, HR0, Lib.hid (fun i l h => by simp at h), HB2, HW2⟩
  case round =>
    obtain ⟨k, vs, hk, rfl, hvl, HR, HRI, HB, HW⟩ := hrel
    have hz := lt_heap HW.out
    have hrb := HR.out.lt
    by_cases hlt : k < code.length
    · obtain ⟨x, hx⟩ : ∃ x, code[k]? = some x := ⟨_, List.getElem?_eq_getElem hlt⟩
      have HC2 := Lib.hid (HC.out.below (HB.out.mono hB))
      obtain ⟨b, off, hca, hb, hBw2, q0, q1, q2, q3, q4, q5, q6, q7, q8, q9, q10, q11, q12, q13, q14⟩ := HC2.out.cells hx
      simp only at hca
      subst hca
      have hfz : ∀ W : World, VRow W w1.heap.size 31 vs → W.frozen? ⟨w1.heap.size, k, none⟩ = false := fun W h => h.frozen k
      obtain ⟨ns, hns⟩ : ∃ ns, next x k = ns := ⟨_, rfl⟩
      have HNS := Lib.hid hns
      have HGK := Lib.hid (show G[k]? = some ns by rw [← HGE.out, nextG_at, hx, ← hns]; rfl)
      obtain ⟨u, hu⟩ : ∃ u, vs[k]? = some u := ⟨_, List.getElem?_eq_getElem (by omega)⟩
      have HU := Lib.hid hu
      clear hx hns hu
      have p0 : (0 : Int) ≤ (k : Int) := Int.natCast_nonneg _
      have p1 : (k : Int) < (code.length : Int) := by omega
      go_wp2_with ((with_reducible refine (cnext_c x (k : Int) ns ⟨p0, by omega⟩ HNS.out _).mono ?_); rintro e v1 ⟨a9, c9, rfl, hi9, hcap9, hb1⟩; have HI9 := Lib.hid (hi9.le (lo' := w1.heap.size + 1) (by simp <;> omega)); have HBA := Lib.hid ((Below.refl wr.heap.size wr).alloc (Nat.le_refl _) (inO x)); have HBV := Lib.hid (HBA.out.trans (hb1.mono (by simp))); have HR1 := Lib.hid (HR.out.below HBV.out hrb); have HRI1 := Lib.hid (HRI.out.below HBV.out); have hrb1 := HR1.out.lt; have c26 := HR1.out.cell HU.out; have f26 := HR1.out.frozen k; clear hi9 hb1)
      go_roundw
      case rel => exact ⟨k + 1, vs.set k (.slice a9 ns.length c9), by omega, by go_num, by simp [hvl], Lib.hid (HR1.out.set k _), Lib.hid (rows_step HRI1.out (by omega) HGK.out HI9.out hcap9 (by simp) (fun g h1 h2 => Below.heap_setCell _ _ _ _ (by simp <;> omega))), Lib.hid ((HB.out.trans (HBV.out.mono HB.out.size)).setCell (show w.heap.size ≤ w1.heap.size from HB1.out.size) _), Lib.hid ((Below.heap_setCell _ _ _ _ (by simp <;> omega)).trans ((HBV.out.block _ hz).trans HW.out))⟩
      case measure => simp [intOf]; omega
    · obtain rfl : k = code.length := by omega
      obtain ⟨d0, d1, d2, d3, d4⟩ := nv5 HW.out
      go_wp2
      go_ret
      rw [HGE.out]
      refine ⟨_, _, by rw [hG]; rfl, RowsAt.of_rows HR.out (by omega) (lo := w1.heap.size + 1) ?_, HB.out⟩
      have := HRI.out
      rwa [List.take_of_length_le (by omega)] at this
theorem follows_any (r : FnR) (B : Nat) (w : World) (hc : CodeAt w B r) (hB : B ≤ w.heap.size) (hl : r.f.code.length ≤ maxLen) :
    Calls Try.prog 56 #[fnV r] w (RowsPost (followG r.f) w) := by
  cases hf : rightF r.f with
  | false => exact follows_no r B w hc hB hl hf
  | true =>
    have e : followG r.f = nextG r.f.code := if_pos hf
    rw [e]
    exact follows_yes r.f.name r.f.params r.f.regs r.f.frame r.f.code r.ca r.cc B w hc hB hf
end Go.Proofs.Ytbpagfddofbjbaa
namespace Go.Proofs.Ytbpagfddofbjbaa
set_option maxRecDepth 100000
open Go.RowKit Cd
set_option linter.unusedVariables false
set_option linter.unusedSimpArgs false

set_option maxHeartbeats 1000000 in
theorem index_c (l : List Int) (a : Option Addr) (cap : Nat) (n : Int) (w : World) (h : RowAt w w.heap.size a (ints l)) (hl : l.length ≤ maxLen) :
    Calls Try.prog 112 #[.slice a l.length cap, .int .i64 n] w fun e w' => (∃ m : Int, e = .returned (.int .i64 m) ∧ decide (m ≥ 0) = l.contains n) ∧ w = w' := by
  unfold maxLen at hl
  have H : Hid (IntsAt w a l) := Lib.hid h; clear h
  go_enter Try.func112, Try.ntmps112
  go_wp2
  go_loopw [8] (fun s8 wr => ∃ k : Nat, k ≤ l.length ∧ s8 = .int .i64 k ∧ wr = w ∧ Hid (n ∉ l.take k)) (fun i wr => l.length - (intOf i).toNat)
  case atStart => exact ⟨0, by omega, rfl, rfl, Lib.hid (by simp)⟩
  case round =>
    obtain ⟨k, hk, rfl, rfl, HN⟩ := hrel
    by_cases hlt : k < l.length
    · obtain ⟨x, hx⟩ : ∃ x, l[k]? = some x := ⟨_, List.getElem?_eq_getElem hlt⟩
      obtain ⟨b, off, rfl, hb, hc⟩ := H.out.at hx
      have p0 : (0 : Int) ≤ (k : Int) := Int.natCast_nonneg _
      have p1 : (k : Int) < (l.length : Int) := by omega
      have HX := Lib.hid hx; clear hx
      by_cases hxn : x = n
      · have t0 : (n == x) = true := by simpa using hxn.symm
        have E := Lib.hid (show l.contains n = true by rw [List.contains_iff_mem]; rw [← hxn]; exact List.mem_of_getElem? HX.out)
        clear hxn
        go_wp2
        go_ret
        exact ⟨⟨_, rfl, by rw [E.out, decide_eq_true_eq]; exact p0⟩, (by first | rfl | trivial)⟩
      · have t0 : (n == x) = false := by simpa using fun h => hxn h.symm
        have HN2 := Lib.hid (show n ∉ l.take (k + 1) by rw [take_more HX.out, List.mem_append]; rintro (h1 | h1); exact HN.out h1; exact hxn (List.mem_singleton.1 h1).symm)
        clear hxn
        go_wp2
        go_roundw
        case rel => exact ⟨k + 1, by omega, by go_num, (by first | rfl | trivial), HN2⟩
        case measure => simp [intOf]; omega
    · obtain rfl : k = l.length := by omega
      have E := Lib.hid (show l.contains n = false by rw [Bool.eq_false_iff, ne_eq, List.contains_iff_mem]; have := HN.out; rwa [List.take_length] at this)
      go_wp2
      go_ret
      exact ⟨⟨_, rfl, by rw [E.out]; decide⟩, (by first | rfl | trivial)⟩
set_option maxHeartbeats 1000000 in
theorem contains_c (l : List Int) (a : Option Addr) (cap : Nat) (n : Int) (w : World) (h : RowAt w w.heap.size a (ints l)) (hl : l.length ≤ maxLen) (b : Bool) (hb : l.contains n = b) :
    Calls Try.prog 86 #[.slice a l.length cap, .int .i64 n] w fun e w' => e = .returned (.bool b) ∧ w = w' := by
  subst hb
  go_enter Try.func86, Try.ntmps86
  go_wp2_with ((with_reducible refine (index_c l a cap n _ h hl).mono ?_); rintro e w1 ⟨⟨m, rfl, hm⟩, rfl⟩; have HM := Lib.hid hm; clear hm)
  go_ret
  exact ⟨by rw [← HM.out]; rfl, (by first | rfl | trivial)⟩
end Go.Proofs.Ytbpagfddofbjbaa
namespace Go.Proofs.Ytbpagfddofbjbaa
set_option maxRecDepth 100000
open Go.RowKit Cd
set_option linter.unusedVariables false
set_option linter.unusedSimpArgs false

/-- Rows that are one's own, each in a block of its own. -/
structure OwnR (w : World) (b lo : Nat) (vs : List Value) (G : List (List Int)) : Prop where
  row : VRow w b 31 vs
  blo : b < lo
  len : vs.length = G.length
  rows : ∀ (i : Nat) (l : List Int), G[i]? = some l → ∃ a c, vs[i]? = some (.slice a l.length c) ∧ w.ownsRow lo 3 1 (.slice a l.length c) l.length (ints l)
  apart : ∀ (i j : Nat) (u v : Value) (g : Nat), i ≠ j → vs[i]? = some u → vs[j]? = some v → u.ownBlock = some g → v.ownBlock ≠ some g
theorem OwnR.at {w : World} {b lo : Nat} {vs : List Value} {G : List (List Int)} (h : OwnR w b lo vs G) {i : Nat} {u : Value} (hu : vs[i]? = some u) {g : Nat} (hg : u.ownBlock = some g) : lo ≤ g ∧ g < w.heap.size := by
  have hlt := (List.getElem?_eq_some_iff.1 hu).1
  obtain ⟨l, hl⟩ : ∃ l, G[i]? = some l := ⟨_, List.getElem?_eq_getElem (by rw [← h.len]; exact hlt)⟩
  obtain ⟨a, c, h1, h2⟩ := h.rows i l hl
  rw [hu] at h1
  injection h1 with h1
  subst h1
  exact h2.lt g hg
theorem OwnR.made (w : World) (n : Nat) : OwnR (w.alloc (rObj (List.replicate n (.slice none 0 0)))) w.heap.size (w.heap.size + 1) (List.replicate n (.slice none 0 0)) (List.replicate n []) := by
  refine ⟨VRow.newR w _, by omega, by simp, fun i l hi => ?_, fun i j u v g _ hu _ hg => ?_⟩
  · rw [List.getElem?_replicate] at hi
    split at hi
    · rename_i h
      injection hi with hi
      subst hi
      exact ⟨none, 0, by rw [List.getElem?_replicate, if_pos h]; rfl, World.ownsRow_nil _ _ _ _⟩
    · cases hi
  · rw [List.getElem?_replicate] at hu
    split at hu
    · injection hu with hu
      subst hu
      cases hg
    · cases hu
/-- A row has grown, and is stored. -/
theorem OwnR.put {w w3 : World} {b lo : Nat} {vs : List Value} {G : List (List Int)} {i : Nat} {l : List Int} {y : Int} {a : Option Addr} {c g3 cap3 : Nat} (h : OwnR w b lo vs G) (hi : G[i]? = some l) (hv : vs[i]? = some (.slice a l.length c))
    (hs : w.heap.size ≤ w3.heap.size) (hown : w3.ownsRow lo 3 1 (.slice (some ⟨g3, 0, none⟩) (l.length + 1) cap3) (l.length + 1) (ints l ++ [.int .i64 y])) (hk : ∀ g, g < w.heap.size → (Value.slice a l.length c).ownBlock ≠ some g → w3.heap[g]? = w.heap[g]?) (hat : (Value.slice a l.length c).ownBlock = some g3 ∨ w.heap.size ≤ g3) :
    OwnR (w3.setCell ⟨b, i, none⟩ (.slice (some ⟨g3, 0, none⟩) (l.length + 1) cap3)) b lo (vs.set i (.slice (some ⟨g3, 0, none⟩) (l.length + 1) cap3)) (turn1 G y (i : Int)) := by
  have hilt := (List.getElem?_eq_some_iff.1 hi).1
  have hbl : b < w.heap.size := h.row.lt
  have hbk : w3.heap[b]? = w.heap[b]? := hk b hbl (fun e => by have := (h.at hv e).1; have := h.blo; omega)
  have hg3 : lo ≤ g3 := (hown.lt g3 (by simp [Value.ownBlock])).1
  have hblo := h.blo
  have hoth : ∀ g, g ≠ b → (w3.setCell ⟨b, i, none⟩ (.slice (some ⟨g3, 0, none⟩) (l.length + 1) cap3)).heap[g]? = w3.heap[g]? := fun g hg => Below.heap_setCell _ _ _ _ hg
  refine ⟨(h.row.keep hbk).set i _, h.blo, by rw [List.length_set, turn1_len]; exact h.len, fun j lj hj => ?_, fun j k u v g hjk hu hv2 hg => ?_⟩
  · unfold turn1 at hj
    rw [List.getElem?_modify, Int.toNat_natCast] at hj
    by_cases hij : i = j
    · subst hij
      rw [hi] at hj
      simp at hj
      subst hj
      refine ⟨some ⟨g3, 0, none⟩, cap3, by rw [List.getElem?_set_self (by rw [h.len]; exact hilt)]; simp, ?_⟩
      refine own_keep (w := w3) ?_ (fun g hg => hoth g ?_)
      · simpa [ints] using hown
      · simp [Value.ownBlock] at hg; omega
    · simp only [hij, if_false] at hj
      have hj2 : G[j]? = some lj := by simpa using hj
      obtain ⟨a2, c2, h1, h2⟩ := h.rows j lj hj2
      refine ⟨a2, c2, by rw [List.getElem?_set_ne hij]; exact h1, own_keep h2 (fun g hg => ?_)⟩
      have hgl := h2.lt g hg
      rw [hoth g (by omega)]
      exact hk g hgl.2 (h.apart j i _ _ g (fun e => hij e.symm) h1 hv hg)
  · have hil : i < vs.length := by rw [h.len]; exact hilt
    have key : ∀ (m : Nat) (x : Value), m ≠ i → vs[m]? = some x → x.ownBlock ≠ some g3 := fun m x hm hx e => by
      rcases hat with h4 | h4
      · exact h.apart m i x _ g3 hm hx hv e h4
      · have := (h.at hx e).2; omega
    by_cases hij : i = j
    · subst hij
      rw [List.getElem?_set_self hil] at hu
      injection hu with hu
      subst hu
      simp [Value.ownBlock] at hg
      subst hg
      rw [List.getElem?_set_ne (by omega)] at hv2
      exact key k v (by omega) hv2
    · rw [List.getElem?_set_ne hij] at hu
      by_cases hik : i = k
      · subst hik
        rw [List.getElem?_set_self hil] at hv2
        injection hv2 with hv2
        subst hv2
        intro e
        simp [Value.ownBlock] at e
        subst e
        exact key j u (by omega) hu hg
      · rw [List.getElem?_set_ne hik] at hv2
        exact h.apart j k u v g hjk hu hv2 hg
theorem OwnR.below {w w' : World} {b lo : Nat} {vs : List Value} {G : List (List Int)} (h : OwnR w b lo vs G) (hb : Below w.heap.size w w') : OwnR w' b lo vs G := by
  refine ⟨h.row.below hb h.row.lt, h.blo, h.len, fun i l hi => ?_, h.apart⟩
  obtain ⟨a, c, h1, h2⟩ := h.rows i l hi
  exact ⟨a, c, h1, own_keep h2 (fun g hg => hb.block g (h2.lt g hg).2)⟩
theorem OwnR.rowsAt {w : World} {b lo : Nat} {vs : List Value} {G : List (List Int)} (h : OwnR w b lo vs G) : RowsAt w w.heap.size (some ⟨b, 0, none⟩) G :=
  RowsAt.of_rows h.row h.len (lo := lo) (fun i l hi => by
    obtain ⟨a, c, h1, h2⟩ := h.rows i l hi
    exact ⟨a, c, h1, LiesIn.of_own h2, (own_room h2).1, (own_room h2).2.1⟩)
/-- No row is longer than what was gone through. -/
theorem turnG_row {G : List (List Int)} (hG : GIn G) {k : Nat} (hk : k ≤ G.length) {n : Nat} {r : List Int} (h : (turnG G k)[n]? = some r) : r.length ≤ k := by
  have hlt := (List.getElem?_eq_some_iff.1 h).1
  rw [turnG_len] at hlt
  rw [turnG_at hG k hk n hlt] at h
  injection h with h
  rw [← h]
  exact Nat.le_trans (List.length_filter_le _ _) (by simp)
theorem turnL_row {G : List (List Int)} (hG : GIn G) {k : Nat} (hk : k ≤ G.length) {l : List Int} (hl : ∀ y ∈ l, 0 ≤ y ∧ y < (G.length : Int)) {j : Nat} (hj : j ≤ l.length) {n : Nat} {r : List Int} (h : (turnL (turnG G k) (k : Int) l j)[n]? = some r) : r.length ≤ k + 1 := by
  rw [turnL_at _ _ _ (by rw [turnG_len]; exact hl) j hj n] at h
  obtain ⟨s, hs, hr⟩ := Option.map_eq_some_iff.1 h
  have := turnG_row hG hk hs
  split at hr
  · rw [← hr, List.length_append, List.length_singleton]; omega
  · rw [← hr]; omega
theorem turnL_no {b : List (List Int)} {k : Int} {l : List Int} {j : Nat} {y : Int} (h : l[j]? = some y) (hm : y ∈ l.take j) : turnL b k l (j + 1) = turnL b k l j := by
  rw [turnL, h]; exact if_pos hm
theorem turnL_yes {b : List (List Int)} {k : Int} {l : List Int} {j : Nat} {y : Int} (h : l[j]? = some y) (hm : y ∉ l.take j) : turnL b k l (j + 1) = turn1 (turnL b k l j) k y := by
  rw [turnL, h]; exact if_neg hm
theorem turnG_more {G : List (List Int)} {k : Nat} {l : List Int} (h : G[k]? = some l) : turnG G (k + 1) = turnL (turnG G k) (k : Int) l l.length := by rw [turnG, h]
set_option maxHeartbeats 8000000 in
set_option maxRecDepth 100000 in
theorem turned_c (G : List (List Int)) (ga : Option Addr) (gc : Nat) (w : World) (hG : RowsAt w w.heap.size ga G) (hGI : GIn G) (hn : G.length ≤ 10000) (hr : ∀ l ∈ G, l.length ≤ 100000) :
    Calls Try.prog 55 #[.slice ga G.length gc] w (RowsPost (turned G) w) := by
  have HG := Lib.hid hG; have HGI := Lib.hid hGI; have HR := Lib.hid hr
  clear hG hGI hr
  obtain ⟨i0, hi0, hz0, hz1, hz2⟩ := info_parts infoInt
  have hmk := make_rows G.length (by omega)
  have HO0 := Lib.hid (OwnR.made w G.length)
  have HB0 := Lib.hid ((Below.refl w.heap.size w).alloc (Nat.le_refl _) (rObj (List.replicate G.length (.slice none 0 0))))
  go_enter Try.func55, Try.ntmps55
  go_wp2
  go_loopw [13] (fun s13 wr => ∃ (k : Nat) (vs : List Value), k ≤ G.length ∧ s13 = .int .i64 k ∧ Hid (OwnR wr w.heap.size (w.heap.size + 1) vs (turnG G k)) ∧ Hid (Below w.heap.size w wr)) (fun s13 wr => G.length - (intOf s13).toNat)
  case atStart => exact ⟨0, _, by omega, rfl, HO0, HB0⟩
  case round =>
    obtain ⟨k, vs, hk, rfl, HO, HB⟩ := hrel
    by_cases hlt : k < G.length
    · obtain ⟨l, hl⟩ : ∃ l, G[k]? = some l := ⟨_, List.getElem?_eq_getElem hlt⟩
      obtain ⟨gb, goff, ra, rc, rfl, hgb, hgB, hgc0, hrow, hcap1, hcap2⟩ := HG.out.at hl
      have hgc := (HB.out.cell (p := ⟨gb, goff + k, none⟩) hgb).trans hgc0
      have hln := HR.out l (List.mem_of_getElem? hl)
      have HLI := Lib.hid (HGI.out l (List.mem_of_getElem? hl))
      have HL := Lib.hid hl
      have HROW := Lib.hid hrow
      have k0 : (0 : Int) ≤ (k : Int) := Int.natCast_nonneg _
      have k1 : (k : Int) < (G.length : Int) := by omega
      have hgbw : gb < wr.heap.size := by have := HB.out.size; omega
      clear hl hrow hgc0
      go_wp2
      go_loopw [20] (fun s20 wr => ∃ (j : Nat) (vs : List Value), j ≤ l.length ∧ s20 = .int .i64 j ∧ Hid (OwnR wr w.heap.size (w.heap.size + 1) vs (turnL (turnG G k) (k : Int) l j)) ∧ Hid (Below w.heap.size w wr)) (fun s20 wr => l.length - (intOf s20).toNat)
      case atStart => exact ⟨0, vs, by omega, rfl, HO, HB⟩
      case round =>
        obtain ⟨j, vj, hj, rfl, HOJ, HBJ⟩ := hrel
        have HROWJ := Lib.hid (HROW.out.below HBJ.out)
        have hwB := HBJ.out.size
        by_cases hjl : j < l.length
        · obtain ⟨y, hy⟩ : ∃ y, l[j]? = some y := ⟨_, List.getElem?_eq_getElem hjl⟩
          obtain ⟨b, off, rfl, hb, hBw, hc⟩ := IntsAt.cellsB HROWJ.out hy
          have hyin := HLI.out y (List.mem_of_getElem? hy)
          obtain ⟨i, rfl⟩ : ∃ i : Nat, y = (i : Int) := ⟨y.toNat, by omega⟩
          have j0 : (0 : Int) ≤ (j : Int) := Int.natCast_nonneg _
          have j1 : (j : Int) < (l.length : Int) := by omega
          have i0' : (0 : Int) ≤ (i : Int) := Int.natCast_nonneg _
          have i1 : (i : Int) < (G.length : Int) := hyin.2
          have hsl := slice_short (a := some ⟨b, off, none⟩) (n := l.length) (c := rc) (k := j) (.inr ⟨b, off, rfl⟩) (by omega) hcap2
          have HTK : Hid (RowAt wr wr.heap.size (some ⟨b, off, none⟩) (ints (l.take j))) := Lib.hid (fun h0 => ⟨b, off, rfl, by omega, Nat.le_refl _, fun q u hu => by
            obtain ⟨b', off', e, _, _, h3⟩ := HROWJ.out (by simp; omega)
            injection e with e
            injection e with e1 e2 _
            subst e1 e2
            refine h3 q u ?_
            have hq := (List.getElem?_eq_some_iff.1 hu).1
            rw [List.length_map, List.length_take] at hq
            rw [← hu, List.getElem?_map, List.getElem?_map, List.getElem?_take_of_lt (by omega)]⟩)
          have htl : (l.take j).length = j := by rw [List.length_take]; omega
          by_cases hm : (i : Int) ∈ l.take j
          · have E := Lib.hid (turnL_no (b := turnG G k) (k := (k : Int)) hy hm)
            have HCT : Hid ((l.take j).contains (i : Int) = true) := Lib.hid (by rw [List.contains_iff_mem]; exact hm)
            clear hm hy
            go_wp2_with ((with_reducible refine (htl ▸ contains_c (l.take j) (some ⟨b, off, none⟩) rc (i : Int) _ HTK.out (by unfold maxLen; omega) true HCT.out).mono ?_); rintro e w1 ⟨rfl, rfl⟩)
            go_roundw
            case rel => exact ⟨j + 1, vj, by omega, by go_num, by rw [E.out]; exact HOJ, HBJ⟩
            case measure => simp [intOf]; omega
          · have E := Lib.hid (turnL_yes (b := turnG G k) (k := (k : Int)) hy hm)
            have HCT : Hid ((l.take j).contains (i : Int) = false) := Lib.hid (by rw [Bool.eq_false_iff, ne_eq, List.contains_iff_mem]; exact hm)
            clear hm hy
            obtain ⟨R, hR⟩ : ∃ R, turnL (turnG G k) (k : Int) l j = R := ⟨_, rfl⟩
            have hRl : R.length = G.length := by rw [← hR, turnL_len, turnG_len]
            obtain ⟨r, hri⟩ : ∃ r, R[i]? = some r := ⟨_, List.getElem?_eq_getElem (by omega)⟩
            have hrl : r.length ≤ k + 1 := turnL_row HGI.out hk HLI.out hj (by rw [hR]; exact hri)
            rw [hR] at HOJ E
            obtain ⟨ai, ci, hvi, hoi⟩ := HOJ.out.rows i r hri
            have cbf := HOJ.out.row.cell hvi
            have HRI := Lib.hid hri; have HVI := Lib.hid hvi; have HOI := Lib.hid hoi
            have hbl := HOJ.out.row.lt
            clear hri hvi hoi hR
            go_wp2_with (first | ((with_reducible refine (htl ▸ contains_c (l.take j) (some ⟨b, off, none⟩) rc (i : Int) _ HTK.out (by unfold maxLen; omega) false HCT.out).mono ?_); rintro e w1 ⟨rfl, rfl⟩) | (at_builtin; go_loud (refine wpList_append_lies _ rfl (.tmp 36) (.tmp 38) 31 rfl (w.heap.size + 1) 3 i0 (.int .i64 0) 1 8 Try.underlying31 hi0 hz0 hz1 hz2 rfl (by decide) (.slice ai r.length ci) r.length (ints r) rfl (HOI.out.alloc _) _ 1 1 [.int .i64 (k : Int)] rfl rfl (cell_new1 _ _ _ _ (by simp)) (by simp [Value.oneCell']) (by omega) (by unfold maxLen; omega) (by omega) (by simp <;> omega) (wr.heap.size + 1) (by simp) ?_; intro g3 cap3 w3 hown3 hgrow hat hlt3; have HB3 := Lib.hid ((HBJ.out.alloc (by omega) _).grown hgrow (by simp <;> omega) (fun q e => by have := (HOI.out.lt q e).1; omega)); have HK3 : Hid (∀ g, g < wr.heap.size → (Value.slice ai r.length ci).ownBlock ≠ some g → w3.heap[g]? = wr.heap[g]?) := Lib.hid (fun g hg hne => (hgrow.block g (by simp <;> omega) (fun e => hne e.symm)).trans (Below.heap_alloc _ _ _ hg)); have HS3 : Hid (wr.heap.size ≤ w3.heap.size) := Lib.hid (by have := hgrow.size; simp at this; omega); have HAT : Hid ((Value.slice ai r.length ci).ownBlock = some g3 ∨ wr.heap.size ≤ g3) := Lib.hid (hat.imp id (fun e => by omega)); have HO3 := Lib.hid hown3; have hb3 : w3.heap[w.heap.size]? = wr.heap[w.heap.size]? := HK3.out _ hbl (fun e => by have := (HOI.out.lt _ e).1; omega); have c33 : w3.cell? ⟨w.heap.size, i, none⟩ = some (.slice ai r.length ci) := (World.cell?_of_block (w := wr) hb3).trans cbf; have f33 : w3.frozen? ⟨w.heap.size, i, none⟩ = false := (VRow.keep HOJ.out.row hb3).frozen i; clear hown3 hgrow hat hlt3 hb3)))
            go_roundw
            case rel => exact ⟨j + 1, _, by omega, by go_num, by rw [E.out]; exact Lib.hid (HOJ.out.put HRI.out HVI.out HS3.out HO3.out HK3.out HAT.out), Lib.hid (HB3.out.setCell (show w.heap.size ≤ w.heap.size by omega) _)⟩
            case measure => simp [intOf]; omega
        · obtain rfl : j = l.length := by omega
          have E := Lib.hid (turnG_more HL.out)
          go_wp2
          go_roundw
          case rel => exact ⟨k + 1, vj, by omega, by go_num, by rw [E.out]; exact HOJ, HBJ⟩
          case measure => simp [intOf]; omega
    · obtain rfl : k = G.length := by omega
      have hTL := turned_len G
      have HE : Hid (OwnR wr w.heap.size (w.heap.size + 1) vs (turned G)) := HO
      go_wp2
      go_ret
      exact ⟨_, _, by rw [hTL]; rfl, HE.out.rowsAt, HB.out⟩
end Go.Proofs.Ytbpagfddofbjbaa
namespace Go.Proofs.Ytbpagfddofbjbaa
set_option maxRecDepth 100000
open Go.RowKit Cd
set_option linter.unusedVariables false
set_option linter.unusedSimpArgs false

abbrev bools (l : List Bool) : List Value := l.map Value.bool
/-- What found has: the one left out, what is found, what is open. -/
structure FSt (N : Nat) (no : Int) (s : FS) (w : World) : Prop where
  wb : w.heap[N]? = some (.cells #[.int .i64 no] 3)
  ir : VRow w (N + 1) 4 (bools s.1)
  sb : w.heap[N + 2]? = some (.cells #[.slice (some ⟨N + 1, 0, none⟩) s.1.length s.1.length] 29)
  ob : ∃ a c, w.heap[N + 3]? = some (.cells #[.slice a s.2.length c] 31) ∧ w.ownsRow (N + 4) 3 1 (.slice a s.2.length c) s.2.length (ints s.2)
theorem FSt.below {N : Nat} {no : Int} {s : FS} {w w' : World} (h : FSt N no s w) (hb : Below w.heap.size w w') : FSt N no s w' := by
  obtain ⟨h1, h2, h3, a, c, h4, h5⟩ := h
  exact ⟨(hb.block _ (lt_heap h1)).trans h1, h2.below hb h2.lt, (hb.block _ (lt_heap h3)).trans h3, a, c, (hb.block _ (lt_heap h4)).trans h4, own_keep h5 (fun g hg => hb.block g (h5.lt g hg).2)⟩
theorem see1_no {no : Int} {s : FS} {y : Int} (h : y = no ∨ s.1[y.toNat]? = some true) : see1 no s y = s := by
  unfold see1
  rw [if_neg]
  rintro ⟨h1, h2⟩
  rcases h with h | h
  · exact h1 h
  · rw [h2] at h; cases h
theorem see1_yes {no : Int} {s : FS} {y : Int} (h : y ≠ no) (h2 : s.1[y.toNat]? = some false) : see1 no s y = (s.1.set y.toNat true, s.2 ++ [y]) := by
  unfold see1; rw [if_pos ⟨h, h2⟩]
theorem seeL_take {no : Int} {s : FS} {l : List Int} {k : Nat} {x : Int} (h : l[k]? = some x) : seeL no s (l.take (k + 1)) = see1 no (seeL no s (l.take k)) x := by
  rw [take_more h, seeL_snoc]
set_option maxHeartbeats 4000000 in
set_option maxRecDepth 100000 in
theorem see_c (N : Nat) (no : Int) (s : FS) (l : List Int) (a : Option Addr) (c : Nat) (w : World) (h : FSt N no s w) (hl : RowAt w N a (ints l)) (hin : ∀ y ∈ l, 0 ≤ y ∧ y < (s.1.length : Int)) (hlen : l.length ≤ 100000) (hs : lacks s.1 + s.2.length ≤ 100000) (hn : s.1.length ≤ 100000) :
    Calls Try.prog 88 #[.slice a l.length c, .pointer (some ⟨N, 0, none⟩), .pointer (some ⟨N + 2, 0, none⟩), .pointer (some ⟨N + 3, 0, none⟩)] w fun e w' => e = .returned (.tuple #[]) ∧ FSt N no (seeL no s l) w' ∧ Below N w w' := by
  have H := Lib.hid h; have HL := Lib.hid hl; have HIN := Lib.hid hin; have HS := Lib.hid hs; clear h hl hin hs
  obtain ⟨i0, hi0, hz0, hz1, hz2⟩ := info_parts infoInt
  go_enter Try.func88, Try.ntmps88
  go_wp2
  go_loopw [9] (fun s9 wr => ∃ k : Nat, k ≤ l.length ∧ s9 = .int .i64 k ∧ Hid (FSt N no (seeL no s (l.take k)) wr) ∧ Hid (Below N w wr)) (fun i wr => l.length - (intOf i).toNat)
  case atStart => exact ⟨0, by omega, rfl, H, Lib.hid (Below.refl _ _)⟩
  case round =>
    obtain ⟨k, hk, rfl, HF, HB⟩ := hrel
    by_cases hlt : k < l.length
    · obtain ⟨x, hx⟩ : ∃ x, l[k]? = some x := ⟨_, List.getElem?_eq_getElem hlt⟩
      obtain ⟨b, off, rfl, hb, hBw, hc⟩ := IntsAt.cellsB (HL.out.below HB.out) hx
      have hxin := HIN.out x (List.mem_of_getElem? hx)
      obtain ⟨j, rfl⟩ : ∃ j : Nat, x = (j : Int) := ⟨x.toNat, by omega⟩
      have HST := Lib.hid (seeL_take (no := no) (s := s) hx)
      have hfl : (seeL no s (l.take k)).1.length = s.1.length := seeL_len _ _ _
      have hsum := seeL_sum no (l.take k) s
      obtain ⟨T, hT⟩ : ∃ T, seeL no s (l.take k) = T := ⟨_, rfl⟩
      rw [hT] at HF HST hfl hsum
      have hT0 := HS.out
      obtain ⟨is, op⟩ := T
      simp only at hfl hsum
      have hop : op.length ≤ 100000 := by omega
      obtain ⟨h1, h2, h3, a4, c4, h4, h5⟩ := HF.out
      simp only at h2 h3 h4 h5
      have hjl : j < is.length := by omega
      have cw : wr.cell? ⟨N, 0, none⟩ = some (.int .i64 no) := by rw [cell_of_row wr N 0 _ _ _ h1]; rfl
      have cs2 : wr.cell? ⟨N + 2, 0, none⟩ = some (.slice (some ⟨N + 1, 0, none⟩) is.length is.length) := by rw [cell_of_row wr (N + 2) 0 _ _ _ h3]; rfl
      have co : wr.cell? ⟨N + 3, 0, none⟩ = some (.slice a4 op.length c4) := by rw [cell_of_row wr (N + 3) 0 _ _ _ h4]; rfl
      have p0 : (0 : Int) ≤ (k : Int) := Int.natCast_nonneg _
      have p1 : (k : Int) < (l.length : Int) := by omega
      have j0 : (0 : Int) ≤ (j : Int) := Int.natCast_nonneg _
      have j1 : (j : Int) < (is.length : Int) := by omega
      obtain ⟨bb, hbb⟩ : ∃ bb, is[j]? = some bb := ⟨_, List.getElem?_eq_getElem hjl⟩
      have ci : wr.cell? ⟨N + 1, j, none⟩ = some (.bool bb) := h2.cell (by unfold bools; rw [List.getElem?_map, hbb]; rfl)
      have HBB := Lib.hid hbb; have HTT := Lib.hid hT; have HX := Lib.hid hx
      have HH2 := Lib.hid h2; have HH3 := Lib.hid h3; have HH4 := Lib.hid h4; have HH5 := Lib.hid h5; have HH1 := Lib.hid h1
      clear hbb hT hx h1 h2 h3 h4 h5 hT0
      by_cases hxn : (j : Int) = no
      · have t0 : ((j : Int) != no) = false := by simpa using hxn
        have E := Lib.hid (show seeL no s (l.take (k + 1)) = (is, op) by rw [HST.out]; exact see1_no (.inl hxn))
        clear hxn
        go_wp2
        go_roundw
        case rel => exact ⟨k + 1, by omega, by go_num, Lib.hid (by rw [E.out]; exact HF.out), HB⟩
        case measure => simp [intOf]; omega
      · have t0 : ((j : Int) != no) = true := by simpa using hxn
        have HXN := Lib.hid hxn
        clear hxn
        cases bb with
        | true =>
          have E := Lib.hid (show seeL no s (l.take (k + 1)) = (is, op) by rw [HST.out]; exact see1_no (.inr (by simpa using HBB.out)))
          go_wp2
          go_roundw
          case rel => exact ⟨k + 1, by omega, by go_num, Lib.hid (by rw [E.out]; exact HF.out), HB⟩
          case measure => simp [intOf]; omega
        | false =>
          have E := Lib.hid (show seeL no s (l.take (k + 1)) = (is.set j true, op ++ [(j : Int)]) by rw [HST.out, see1_yes HXN.out (by simpa using HBB.out)]; simp)
          have hf1 : wr.frozen? ⟨N + 1, j, none⟩ = false := HH2.out.frozen j
          have hN4 := lt_heap HH4.out
          have hsz1 : (wr.setCell ⟨N + 1, j, none⟩ (.bool true)).heap.size = wr.heap.size := by simp
          have HO1 : Hid ((wr.setCell ⟨N + 1, j, none⟩ (.bool true)).ownsRow (N + 4) 3 1 (.slice a4 op.length c4) op.length (ints op)) := Lib.hid (own_keep HH5.out (fun g hg => Below.heap_setCell _ _ _ _ (by have := (HH5.out.lt g hg).1; simp; omega)))
          have HS2 : Hid (VRow (wr.setCell ⟨N + 1, j, none⟩ (.bool true)) (N + 1) 4 (bools (is.set j true))) := Lib.hid (by unfold bools; rw [List.map_set]; exact HH2.out.set j _)
          have HB3 : Hid (Below N w (wr.setCell ⟨N + 1, j, none⟩ (.bool true))) := Lib.hid (HB.out.setCell (show N ≤ N + 1 by omega) _)
          have co2 : (wr.setCell ⟨N + 1, j, none⟩ (.bool true)).cell? ⟨N + 3, 0, none⟩ = some (.slice a4 op.length c4) := (World.cell?_of_block (w := wr) (Below.heap_setCell _ _ _ _ (by simp))).trans co
          clear co
          go_wp2_with (at_builtin; go_loud (refine wpList_append_lies _ rfl (.tmp 26) (.tmp 28) 31 rfl (N + 4) 3 i0 (.int .i64 0) 1 8 Try.underlying31 hi0 hz0 hz1 hz2 rfl (by decide) (.slice a4 op.length c4) (op.length) (ints op) rfl (HO1.out.alloc _) _ 1 1 [.int .i64 (j : Int)] rfl rfl (cell_new1 _ _ _ _ (by simp)) (by simp [Value.oneCell']) (by omega) (by unfold maxLen; omega) (by omega) (by simp <;> omega) (wr.heap.size + 1) (by simp) ?_; intro g3 cap3 w3 hown3 hgrow hat hlt3; have HO3 := Lib.hid hown3; have hg3 : N + 4 ≤ g3 := (hown3.lt g3 (by simp [Value.ownBlock])).1; have HBK : Hid (∀ q, q ≤ N + 3 → w3.heap[q]? = (wr.setCell ⟨N + 1, j, none⟩ (.bool true)).heap[q]?) := Lib.hid (fun q hq => (hgrow.block q (by simp <;> omega) (fun e => by have := (HO1.out.lt _ e.symm).1; omega)).trans (Below.heap_alloc _ _ _ (by simp <;> omega))); have HB4 := Lib.hid ((HB3.out.alloc (by simp <;> omega) _).grown hgrow (by simp <;> omega) (fun q e => by have := (HO1.out.lt q e).1; omega)); have f3 : w3.frozen? ⟨N + 3, 0, none⟩ = false := (by have := (HBK.out (N + 3) (by omega)).trans ((Below.heap_setCell _ _ _ _ (by simp)).trans HH4.out); simp [World.frozen?, this]); have c33 : w3.cell? ⟨N + 3, 0, none⟩ = some (.slice a4 op.length c4) := (World.cell?_of_block (w := wr.setCell ⟨N + 1, j, none⟩ (.bool true)) (HBK.out (N + 3) (by omega))).trans co2; clear hown3 hgrow hat hlt3))
          go_roundw
          case rel =>
            refine ⟨k + 1, by omega, by go_num, Lib.hid ?_, Lib.hid (HB4.out.setCell (show N ≤ N + 3 by omega) _)⟩
            rw [E.out]
            refine ⟨?_, ?_, ?_, some ⟨g3, 0, none⟩, cap3, ?_, ?_⟩
            · exact (Below.heap_setCell _ _ _ _ (by simp)).trans ((HBK.out N (by omega)).trans ((Below.heap_setCell _ _ _ _ (by simp)).trans HH1.out))
            · exact (HS2.out.keep (HBK.out (N + 1) (by omega))).keep (Below.heap_setCell _ _ _ _ (by simp))
            · rw [List.length_set]
              exact (Below.heap_setCell _ _ _ _ (by simp)).trans ((HBK.out (N + 2) (by omega)).trans ((Below.heap_setCell _ _ _ _ (by simp)).trans HH3.out))
            · rw [cells_set ((HBK.out (N + 3) (by omega)).trans ((Below.heap_setCell _ _ _ _ (by simp)).trans HH4.out)) 0]
              simp
            · have := HO3.out
              refine own_keep (w := w3) ?_ (fun g hg => Below.heap_setCell _ _ _ _ ?_)
              · simpa using this
              · simp [Value.ownBlock] at hg; simp; omega
          case measure => simp [intOf]; omega
    · obtain rfl : k = l.length := by omega
      have HE := HF.out
      rw [List.take_length] at HE
      go_wp2
      go_end0
      exact ⟨rfl, HE, HB.out⟩
end Go.Proofs.Ytbpagfddofbjbaa
namespace Go.Proofs.Ytbpagfddofbjbaa
set_option maxRecDepth 100000
open Go.RowKit Cd
set_option linter.unusedVariables false
set_option linter.unusedSimpArgs false

/-- The answer: a row of booleans of its own. -/
def BoolsPost (l : List Bool) (w : World) (e : Ending) (w' : World) : Prop := ∃ b, e = .returned (.slice (some ⟨b, 0, none⟩) l.length l.length) ∧ w.heap.size ≤ b ∧ VRow w' b 4 (bools l) ∧ Below w.heap.size w w'
theorem lacks_none (n : Nat) : lacks (List.replicate n false) = n := by
  unfold lacks; rw [List.countP_replicate]; simp
set_option maxHeartbeats 4000000 in
set_option maxRecDepth 100000 in
theorem found_c (G : List (List Int)) (ga : Option Addr) (gc : Nat) (fr : List Int) (fa : Option Addr) (fc : Nat) (no : Int) (w : World) (hG : RowsAt w w.heap.size ga G) (hGI : GIn G) (hF : RowAt w w.heap.size fa (ints fr)) (hfi : ∀ x ∈ fr, 0 ≤ x ∧ x < (G.length : Int)) (hfl : fr.length ≤ 100000) (hn : G.length ≤ 10000) (hr : ∀ l ∈ G, l.length ≤ 100000) :
    Calls Try.prog 57 #[.slice ga G.length gc, .slice fa fr.length fc, .int .i64 no] w (BoolsPost (foundB G fr no) w) := by
  have HG := Lib.hid hG; have HGI := Lib.hid hGI; have HF := Lib.hid hF; have HFI := Lib.hid hfi; have HR := Lib.hid hr
  clear hG hGI hF hfi hr
  have hmk := make_bools G.length (by omega)
  go_enter Try.func57, Try.ntmps57
  have HB0 : Hid (Below w.heap.size w ((((w.alloc (.cells #[.int .i64 no] 3)).alloc (bObj (List.replicate G.length false))).alloc (.cells #[.slice (some ⟨w.heap.size + 1, 0, none⟩) G.length G.length] 29)).alloc (.cells #[.slice none 0 0] 31))) :=
    Lib.hid (((((Below.refl w.heap.size w).alloc (Nat.le_refl _) _).alloc (by simp) _).alloc (by simp <;> omega) _).alloc (by simp <;> omega) _)
  have HS0 : Hid (FSt w.heap.size no (List.replicate G.length false, []) ((((w.alloc (.cells #[.int .i64 no] 3)).alloc (bObj (List.replicate G.length false))).alloc (.cells #[.slice (some ⟨w.heap.size + 1, 0, none⟩) G.length G.length] 29)).alloc (.cells #[.slice none 0 0] 31))) := by
    refine Lib.hid ⟨?_, ?_, ?_, none, 0, ?_, World.ownsRow_nil _ _ _ _⟩
    · exact (Below.heap_alloc _ _ _ (by simp <;> omega)).trans ((Below.heap_alloc _ _ _ (by simp <;> omega)).trans ((Below.heap_alloc _ _ _ (by simp <;> omega)).trans (heap_alloc_new w _)))
    · have := heap_alloc_new (w.alloc (.cells #[.int .i64 no] 3)) (bObj (List.replicate G.length false))
      rw [World.size_alloc] at this
      exact (Below.heap_alloc _ _ _ (by simp <;> omega)).trans ((Below.heap_alloc _ _ _ (by simp <;> omega)).trans this)
    · have := heap_alloc_new ((w.alloc (.cells #[.int .i64 no] 3)).alloc (bObj (List.replicate G.length false))) (.cells #[.slice (some ⟨w.heap.size + 1, 0, none⟩) G.length G.length] 29)
      simp only [World.size_alloc] at this
      rw [List.length_replicate]
      exact (Below.heap_alloc _ _ _ (by simp <;> omega)).trans this
    · have := heap_alloc_new (((w.alloc (.cells #[.int .i64 no] 3)).alloc (bObj (List.replicate G.length false))).alloc (.cells #[.slice (some ⟨w.heap.size + 1, 0, none⟩) G.length G.length] 29)) (.cells #[.slice none 0 0] 31)
      simp only [World.size_alloc] at this
      exact this
  have hl0 := lacks_none G.length
  go_wp2_with ((with_reducible refine (see_c w.heap.size no (List.replicate G.length false, []) fr fa fc _ HS0.out (HF.out.below HB0.out) (by simpa using HFI.out) hfl (by simp [hl0]; omega) (by simp; omega)).mono ?_); rintro e w1 ⟨rfl, hs1, hb1⟩; have HS1 := Lib.hid hs1; have HB1 := Lib.hid (HB0.out.trans hb1); clear hs1 hb1)
  have HI1 := Lib.hid (FInv.begin no HFI.out)
  have hsum := seeL_sum no fr (List.replicate G.length false, [])
  simp only [hl0, List.length_nil] at hsum
  go_loopg [] G.length (fun g wr => ∃ s : FS, g = lacks s.1 + s.2.length ∧ g ≤ G.length ∧ Hid (FSt w.heap.size no s wr) ∧ Hid (FInv G no fr s) ∧ Hid (Below w.heap.size w wr))
  case atStart => exact ⟨_, by omega, by omega, HS1, HI1, HB1⟩
  case round =>
    obtain ⟨s, hg, hgl, HF1, HI, HB⟩ := hrel
    obtain ⟨h1, h2, h3, a4, c4, h4, h5⟩ := HF1.out
    obtain ⟨is, op⟩ := s
    simp only at h2 h3 h4 h5 hg
    have cs2 : wr.cell? ⟨w.heap.size + 2, 0, none⟩ = some (.slice (some ⟨w.heap.size + 1, 0, none⟩) is.length is.length) := by rw [cell_of_row wr _ 0 _ _ _ h3]; rfl
    have co : wr.cell? ⟨w.heap.size + 3, 0, none⟩ = some (.slice a4 op.length c4) := by rw [cell_of_row wr _ 0 _ _ _ h4]; rfl
    have hN4 := lt_heap h4
    have hil := HI.out.len
    simp only at hil
    rcases List.eq_nil_or_concat op with rfl | ⟨o, x, rfl⟩
    · have HE := Lib.hid (HI.out.end HGI.out HFI.out rfl)
      have HH2 := Lib.hid h2
      simp only at HE
      clear h1 h2 h3 h4 h5
      go_wp2
      go_ret
      rw [HE.out] at HH2 hil
      refine ⟨w.heap.size + 1, by rw [hil]; rfl, by omega, HH2.out, HB.out⟩
    · rw [List.concat_eq_append] at *
      have hopl : (o ++ [x]).length = o.length + 1 := by simp
      rw [hopl] at h5 h4 co hg
      have hxin := HI.out.inside x (by simp)
      obtain ⟨j, rfl⟩ : ∃ j : Nat, x = (j : Int) := ⟨x.toNat, by omega⟩
      obtain ⟨gl, hgl2⟩ : ∃ gl, G[j]? = some gl := ⟨_, List.getElem?_eq_getElem (by omega)⟩
      obtain ⟨gb, goff, ra, rc, rfl, hgb, hgB, hgc, hrow, _⟩ := (HG.out.below HB.out).at hgl2
      obtain ⟨g5, rfl, hg5, hg5l, c5⟩ := own_int (k := o.length) (x := (j : Int)) h5 (by simp)
      obtain ⟨hr1, hr2, hr3⟩ := own_room h5
      have hsl := slice_short (n := o.length + 1) (k := o.length) hr3 (by omega) hr2
      have hgin := fun y hy => HGI.out.egs (x := (j : Int)) (y := y) hy
      rw [egs_at (l := gl) (by simpa using hgl2)] at hgin
      have HGIN := Lib.hid hgin
      have hgll := HR.out gl (List.mem_of_getElem? hgl2)
      have j0 : (0 : Int) ≤ (j : Int) := Int.natCast_nonneg _
      have j1 : (j : Int) < (G.length : Int) := by omega
      have o0 : (0 : Int) ≤ (o.length : Int) := Int.natCast_nonneg _
      have HROW := Lib.hid hrow
      have HNX := Lib.hid (HI.out.more HGI.out HFI.out (x := (j : Int)) (o := o) rfl)
      rw [egs_at (l := gl) (by simpa using hgl2)] at HNX
      have HBW : Hid (Below w.heap.size w (wr.setCell ⟨w.heap.size + 3, 0, none⟩ (.slice (some ⟨g5, 0, none⟩) o.length c4))) := Lib.hid (HB.out.setCell (show w.heap.size ≤ w.heap.size + 3 by omega) _)
      have HFW : Hid (FSt w.heap.size no (is, o) (wr.setCell ⟨w.heap.size + 3, 0, none⟩ (.slice (some ⟨g5, 0, none⟩) o.length c4))) := by
        refine Lib.hid ⟨(Below.heap_setCell _ _ _ _ (by simp)).trans h1, h2.keep (Below.heap_setCell _ _ _ _ (by simp)), (Below.heap_setCell _ _ _ _ (by simp)).trans h3, some ⟨g5, 0, none⟩, c4, ?_, ?_⟩
        · rw [cells_set h4 0]; simp
        · have := own_short h5 (k := o.length) (by omega)
          refine own_keep (w := wr) ?_ (fun g hg => Below.heap_setCell _ _ _ _ ?_)
          · simpa using this
          · simp [Value.ownBlock] at hg; simp; omega
      have hsum2 := seeL_sum no gl (is, o)
      simp only at hsum2
      have f3 : wr.frozen? ⟨w.heap.size + 3, 0, none⟩ = false := by simp [World.frozen?, h4]
      have q1 : w.heap.size + 3 < wr.heap.size := hN4
      have q2 : ¬ g5 = w.heap.size + 3 := by omega
      have q3 : ¬ w.heap.size + 3 = g5 := by omega
      have q4 : ¬ gb = w.heap.size + 3 := by omega
      have q5 : ¬ w.heap.size + 3 = gb := by omega
      have HROW2 := Lib.hid (HROW.out.below (show Below w.heap.size wr (wr.setCell ⟨w.heap.size + 3, 0, none⟩ (.slice (some ⟨g5, 0, none⟩) o.length c4)) from (Below.refl w.heap.size wr).setCell (show w.heap.size ≤ w.heap.size + 3 by omega) _))
      have HGIN2 : Hid (∀ y ∈ gl, 0 ≤ y ∧ y < (is.length : Int)) := Lib.hid (by rw [hil]; exact HGIN.out)
      have hb5 : lacks is + o.length ≤ 100000 := by omega
      have hb6 : is.length ≤ 100000 := by omega
      clear h1 h2 h3 h4 h5 hrow hgin hgl2 hil cs2 hr3
      go_wp2_with ((with_reducible refine (see_c w.heap.size no (is, o) gl ra rc _ HFW.out HROW2.out HGIN2.out hgll hb5 hb6).mono ?_); rintro e w2 ⟨rfl, hs1, hb1⟩; have HS2 := Lib.hid hs1; have HB2 := Lib.hid (HBW.out.trans hb1); clear hs1 hb1)
      go_roundg (lacks is + o.length)
      case measure => omega
      case rel => exact ⟨_, by omega, by omega, HS2, HNX, HB2⟩
end Go.Proofs.Ytbpagfddofbjbaa
