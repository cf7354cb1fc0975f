/-
  Layer 9: rows, and rows of rows, in memory.
-/
import Derived.Test.YtgnpbodhjmappaaPNJ
import Derived.Test.YtgnpbodhjmappaaPNB
import Derived.Deep.OwnRows
import Derived.Test.YtgnpbodhjmappaaPLA
set_option linter.unusedVariables false
set_option linter.unusedSimpArgs false
namespace Go.Proofs.Ytgnpbodhjmappaa
set_option maxRecDepth 100000
open Go.RowKit Cd
def VRow (w : World) (b : Nat) (t : TypeId) (vs : List Value) : Prop := w.heap[b]? = some (.cells vs.toArray t (0, 0))
abbrev ints (l : List Int) : List Value := l.map (Value.int .i64)
abbrev IRow (w : World) (b : Nat) (l : List Int) : Prop := VRow w b 3 (ints l)
theorem VRow.lt {w : World} {b : Nat} {t : TypeId} {vs : List Value} (h : VRow w b t vs) : b < w.heap.size := lt_heap h
theorem VRow.cell {w : World} {b : Nat} {t : TypeId} {vs : List Value} (h : VRow w b t vs) {i : Nat} {u : Value} (hi : vs[i]? = some u) : w.cell? ⟨b, i, none⟩ = some u := by
  rw [cell_of_row w b i _ _ _ h]; simpa using hi
theorem VRow.keep {w w' : World} {b : Nat} {t : TypeId} {vs : List Value} (h : VRow w b t vs) (e : w'.heap[b]? = w.heap[b]?) : VRow w' b t vs := e.trans h
theorem VRow.below {w w' : World} {b B : Nat} {t : TypeId} {vs : List Value} (h : VRow w b t vs) (hb : Below B w w') (hB : b < B) : VRow w' b t vs := h.keep (hb.block b hB)
theorem VRow.set {w : World} {b : Nat} {t : TypeId} {vs : List Value} (h : VRow w b t vs) (i : Nat) (u : Value) : VRow (w.setCell ⟨b, i, none⟩ u) b t (vs.set i u) := by
  unfold VRow
  rw [cells_set h i u, List.setIfInBounds_toArray]
theorem VRow.frozen {w : World} {b : Nat} {t : TypeId} {vs : List Value} (h : VRow w b t vs) (i : Nat) : w.frozen? ⟨b, i, none⟩ = false := by simp [World.frozen?, (show w.heap[b]? = _ from h)]
theorem IRow.cell {w : World} {b : Nat} {l : List Int} (h : IRow w b l) {i : Nat} {x : Int} (hi : l[i]? = some x) : w.cell? ⟨b, i, none⟩ = some (.int .i64 x) := VRow.cell h (by simp [hi])
theorem IRow.set {w : World} {b : Nat} {l : List Int} (h : IRow w b l) (i : Nat) (x : Int) : IRow (w.setCell ⟨b, i, none⟩ (.int .i64 x)) b (l.set i x) := by
  have := VRow.set h i (.int .i64 x)
  unfold IRow ints
  rw [List.map_set]
  exact this
theorem made_row (z : Value) : ∀ n : Nat, madeCells #[z] n = (List.replicate n z).toArray := fun n => by
  apply Array.ext'
  apply List.ext_getElem?
  intro i
  unfold madeCells
  by_cases hi : i < n
  · simp [hi, Nat.mod_one]
  · simp [hi]
def LiesIn (w : World) (lo : Nat) (a : Option Addr) (cs : List Value) : Prop :=
  0 < cs.length → ∃ b off, a = some ⟨b, off, none⟩ ∧ lo ≤ b ∧ b < w.heap.size ∧ ∀ (j : Nat) (u : Value), cs[j]? = some u → w.cell? ⟨b, off + j, none⟩ = some u
theorem LiesIn.keep {w w' : World} {lo : Nat} {a : Option Addr} {cs : List Value} (h : LiesIn w lo a cs) (hs : w.heap.size ≤ w'.heap.size) (hb : ∀ g, lo ≤ g → g < w.heap.size → w'.heap[g]? = w.heap[g]?) : LiesIn w' lo a cs := fun h0 => by
  obtain ⟨b, off, ha, h1, h2, h3⟩ := h h0
  exact ⟨b, off, ha, h1, by omega, fun j u hu => (World.cell?_of_block (w := w) (hb b h1 h2)).trans (h3 j u hu)⟩
theorem LiesIn.below {w w' : World} {lo : Nat} {a : Option Addr} {cs : List Value} (h : LiesIn w lo a cs) (hb : Below w.heap.size w w') : LiesIn w' lo a cs := h.keep hb.size (fun g _ hg => hb.block g hg)
theorem LiesIn.row {w : World} {lo : Nat} {a : Option Addr} {cs : List Value} (h : LiesIn w lo a cs) : RowAt w w.heap.size a cs := fun h0 => by
  obtain ⟨b, off, ha, h1, h2, h3⟩ := h h0
  exact ⟨b, off, ha, h2, Nat.le_refl _, h3⟩
theorem LiesIn.of_own {w : World} {B n c : Nat} {a : Option Addr} {l : List Int} (h : w.ownsRow B 3 1 (.slice a n c) n (ints l)) : LiesIn w B a (ints l) := fun h0 => by
  rw [List.length_map] at h0
  obtain ⟨x, hx⟩ : ∃ x, l[0]? = some x := ⟨_, List.getElem?_eq_getElem h0⟩
  obtain ⟨g, rfl, h1, hg, _⟩ := own_int h hx
  refine ⟨g, 0, rfl, h1, hg, fun j u hu => ?_⟩
  rw [List.getElem?_map] at hu
  cases hj : l[j]? with
  | none => rw [hj] at hu; cases hu
  | some y =>
    rw [hj] at hu
    injection hu with hu
    obtain ⟨g', hg', _, _, hc⟩ := own_int h hj
    injection hg' with hg'
    injection hg' with hg' _ _
    subst hg' hu
    rw [Nat.zero_add]; exact hc
theorem LiesIn.le {w : World} {lo lo' : Nat} {a : Option Addr} {cs : List Value} (h : LiesIn w lo a cs) (hl : lo' ≤ lo) : LiesIn w lo' a cs := fun h0 => by
  obtain ⟨b, off, ha, h1, h2, h3⟩ := h h0
  exact ⟨b, off, ha, by omega, h2, h3⟩
def RowsAt (w : World) (B : Nat) (ga : Option Addr) (G : List (List Int)) : Prop :=
  ∃ vs : List Value, vs.length = G.length ∧ RowAt w B ga vs ∧ ∀ (i : Nat) (l : List Int), G[i]? = some l → ∃ a c, vs[i]? = some (.slice a l.length c) ∧ RowAt w B a (ints l) ∧ l.length ≤ c ∧ c ≤ maxLen
theorem RowsAt.below {w w' : World} {B : Nat} {ga : Option Addr} {G : List (List Int)} (h : RowsAt w B ga G) (hb : Below B w w') : RowsAt w' B ga G := by
  obtain ⟨vs, h1, h2, h3⟩ := h
  refine ⟨vs, h1, h2.below hb, fun i l hi => ?_⟩
  obtain ⟨a, c, h4, h5, h6⟩ := h3 i l hi
  exact ⟨a, c, h4, h5.below hb, h6⟩
theorem RowsAt.mono {w : World} {B B' : Nat} {ga : Option Addr} {G : List (List Int)} (h : RowsAt w B ga G) (hB : B ≤ B') (hw : B' ≤ w.heap.size) : RowsAt w B' ga G := by
  obtain ⟨vs, h1, h2, h3⟩ := h
  refine ⟨vs, h1, h2.mono hB hw, fun i l hi => ?_⟩
  obtain ⟨a, c, h4, h5, h6⟩ := h3 i l hi
  exact ⟨a, c, h4, h5.mono hB hw, h6⟩
theorem RowsAt.at {w : World} {B : Nat} {ga : Option Addr} {G : List (List Int)} (h : RowsAt w B ga G) {i : Nat} {l : List Int} (hi : G[i]? = some l) : ∃ b off a c, ga = some ⟨b, off, none⟩ ∧ b < B ∧ B ≤ w.heap.size ∧ w.cell? ⟨b, off + i, none⟩ = some (.slice a l.length c) ∧ RowAt w B a (ints l) ∧ l.length ≤ c ∧ c ≤ maxLen := by
  obtain ⟨vs, h1, h2, h3⟩ := h
  obtain ⟨a, c, h4, h5⟩ := h3 i l hi
  have hlt := (List.getElem?_eq_some_iff.1 hi).1
  obtain ⟨b, off, ha, hb, hB, hc⟩ := h2 (by omega)
  exact ⟨b, off, a, c, ha, hb, hB, hc i _ h4, h5⟩
theorem RowsAt.nil (w : World) (B : Nat) : RowsAt w B none [] := ⟨[], rfl, RowAt.nil _ _ _, fun i l h => by simp at h⟩
theorem IntsAt.cellsB {w : World} {B : Nat} {a : Option Addr} {l : List Int} (h : RowAt w B a (ints l)) {k : Nat} {x : Int} (hk : l[k]? = some x) : ∃ b off, a = some ⟨b, off, none⟩ ∧ b < B ∧ B ≤ w.heap.size ∧ w.cell? ⟨b, off + k, none⟩ = some (.int .i64 x) := by
  have hlt := (List.getElem?_eq_some_iff.1 hk).1
  obtain ⟨b, off, ha, hb, hB, hc⟩ := h (by rw [List.length_map]; omega)
  exact ⟨b, off, ha, hb, hB, hc k _ (by rw [List.getElem?_map, hk]; rfl)⟩
theorem infoRow : (Try.prog.info? 30).map (fun i => (i.zero, i.size, i.bytes)) = some (some (.slice none 0 0), 1, 24) := by kernel_rfl
def iObj (l : List Int) : Obj := .cells (ints l).toArray 3
def bObj (l : List Bool) : Obj := .cells (l.map Value.bool).toArray 4
def rObj (l : List Value) : Obj := .cells l.toArray 30
theorem VRow.newI (w : World) (l : List Int) : IRow (w.alloc (iObj l)) w.heap.size l := heap_alloc_new w _
theorem make_ints (n : Nat) (hn : n ≤ 100000) (w : World) : (Instr.makeSlice 30 (.int .i64 (n : Int)) (.int .i64 (n : Int))).run Try.prog w = .ok (.slice (some ⟨w.heap.size, 0, none⟩) n n) (w.alloc (iObj (List.replicate n 0))) := by
  unfold iObj
  rw [run_make_row' 30 3 (.int .i64 0) 8 Try.underlying30 infoInt rfl .i64 .i64 n (by omega) (by omega) w, made_row]
  simp
theorem make_rows (n : Nat) (hn : n ≤ 100000) (w : World) : (Instr.makeSlice 53 (.int .i64 (n : Int)) (.int .i64 (n : Int))).run Try.prog w = .ok (.slice (some ⟨w.heap.size, 0, none⟩) n n) (w.alloc (rObj (List.replicate n (.slice none 0 0)))) := by
  unfold rObj
  rw [run_make_row' 53 30 (.slice none 0 0) 24 Try.underlying53 infoRow rfl .i64 .i64 n (by omega) (by omega) w, made_row]
theorem infoBool : (Try.prog.info? 4).map (fun i => (i.zero, i.size, i.bytes)) = some (some (.bool false), 1, 1) := by kernel_rfl
theorem make_bools (n : Nat) (hn : n ≤ 100000) (w : World) : (Instr.makeSlice 55 (.int .i64 (n : Int)) (.int .i64 (n : Int))).run Try.prog w = .ok (.slice (some ⟨w.heap.size, 0, none⟩) n n) (w.alloc (bObj (List.replicate n false))) := by
  unfold bObj
  rw [run_make_row' 55 4 (.bool false) 1 Try.underlying55 infoBool rfl .i64 .i64 n (by omega) (by omega) w, made_row]
  simp
theorem own_short {w : World} {B n c k : Nat} {e : TypeId} {a : Option Addr} {xs : List Value} (h : w.ownsRow B e 1 (.slice a n c) n xs) (hk : k ≤ n) : w.ownsRow B e 1 (.slice a k c) k (xs.take k) := by
  obtain ⟨hl, ⟨h0, h1⟩ | ⟨g, cap, cur, hv, hg, hh, h1, h2, h3, ht⟩⟩ := h
  · subst h1
    injection h0 with h0 _ h2
    subst h0 h2
    obtain rfl : k = 0 := by omega
    exact ⟨by simp, .inl ⟨rfl, rfl⟩⟩
  · injection hv with hv _ hc
    subst hv hc
    refine ⟨by rw [List.length_take, hl]; omega, .inr ⟨g, c, cur, rfl, hg, hh, by omega, h2, h3, ?_⟩⟩
    rw [← ht, List.take_take]
    congr 1
    omega
theorem own_room {w : World} {B n c : Nat} {e : TypeId} {a : Option Addr} {xs : List Value} (h : w.ownsRow B e 1 (.slice a n c) n xs) : n ≤ c ∧ c ≤ maxLen ∧ (a = none ∨ ∃ g off, a = some ⟨g, off, none⟩) := by
  obtain ⟨hl, ⟨h0, h1⟩ | ⟨g, cap, cur, hv, hg, hh, h1, h2, h3, ht⟩⟩ := h
  · injection h0 with h0 h2 h3
    subst h0 h2 h3
    exact ⟨Nat.le_refl _, by unfold maxLen; omega, .inl rfl⟩
  · injection hv with hv _ hc
    subst hv hc
    exact ⟨h1, h2, .inr ⟨g, 0, rfl⟩⟩
theorem slice_short {a : Option Addr} {n c k : Nat} (ha : a = none ∨ ∃ g off, a = some ⟨g, off, none⟩) (hk : k ≤ c) (hc : c ≤ maxLen) (W : World) :
    (Instr.sliceAt 30 (.slice a n c) none (some (.int .i64 k)) none).run Try.prog W = .ok (.slice a k c) W := by
  unfold maxLen at hc
  have h0 : (0 : Int) ≤ (k : Int) := Int.natCast_nonneg _
  have h1 : (k : Int) ≤ (c : Int) := by omega
  have ht := Try.underlying30
  have hz : ∀ W, (sizeOf 3).run Try.prog W = .ok 1 W := fun W => by kernel_rfl
  have hel : Try.prog.elem 30 = 3 := by simp [Program.elem, ht]
  rcases ha with rfl | ⟨g, off, rfl⟩
  · go_simp
  · go_simp
end Go.Proofs.Ytgnpbodhjmappaa
namespace Go.Proofs.Ytgnpbodhjmappaa
set_option maxRecDepth 100000
open Go.RowKit Cd
theorem cnext_any (i : Ins) (p : Int) (hp : 0 ≤ p ∧ p ≤ 1000000) (w : World) : Calls Try.prog 58 #[inV i, .int .i64 p] w (ListPost (next i p) w) := by
  obtain ⟨hp0, hp1⟩ := hp
  by_cases h11 : i.kind = 11
  · have e : next i p = [i.dest] := if_pos h11
    rw [e]; clear e
    go_enter Try.func58, Try.ntmps58
    go_wp2
    go_ret
    exact list_one (by simp) rfl
  · by_cases h12 : i.kind = 12
    · have e : next i p = [i.dest, i.els] := by unfold next; rw [if_neg h11, if_pos h12]
      rw [e]; clear e h11
      go_enter Try.func58, Try.ntmps58
      go_wp2
      go_ret
      exact list_two (by simp) rfl
    · by_cases h13 : i.kind = 13
      · have e : next i p = [] := by unfold next; rw [if_neg h11, if_neg h12, if_pos h13]
        rw [e]; clear e h11 h12
        go_enter Try.func58, Try.ntmps58
        go_wp2
        go_ret
        exact list_nil ((Below.refl _ _).alloc (Nat.le_refl _) _)
      · have e : next i p = [p + 1] := by unfold next; rw [if_neg h11, if_neg h12, if_neg h13]
        rw [e]; clear e
        have g11 : ((i.kind : Int) == 11) = false := by simp; omega
        have g12 : ((i.kind : Int) == 12) = false := by simp; omega
        have g13 : ((i.kind : Int) == 13) = false := by simp; omega
        go_enter Try.func58, Try.ntmps58
        go_wp2
        go_ret
        exact list_one (by simp) rfl
end Go.Proofs.Ytgnpbodhjmappaa
namespace Go.Proofs.Ytgnpbodhjmappaa.Cd
def egs (G : List (List Int)) (x : Int) : List Int := match G[x.toNat]? with | some l => l | none => []
theorem egs_at {G : List (List Int)} {x : Int} {l : List Int} (h : G[x.toNat]? = some l) : egs G x = l := by unfold egs; rw [h]
def GIn (G : List (List Int)) : Prop := ∀ l ∈ G, ∀ y ∈ l, 0 ≤ y ∧ y < (G.length : Int)
theorem GIn.egs {G : List (List Int)} (h : GIn G) {x y : Int} (hy : y ∈ egs G x) : 0 ≤ y ∧ y < (G.length : Int) := by
  unfold Cd.egs at hy
  split at hy
  · rename_i l hl
    exact h l (List.mem_of_getElem? hl) y hy
  · simp at hy
inductive Path (G : List (List Int)) (no : Int) (fr : List Int) : Int → Prop where
  | start {x : Int} : x ∈ fr → x ≠ no → Path G no fr x
  | more {x y : Int} : Path G no fr x → y ∈ egs G x → y ≠ no → Path G no fr y
abbrev FS := List Bool × List Int
def see1 (no : Int) (s : FS) (y : Int) : FS := if y ≠ no ∧ s.1[y.toNat]? = some false then (s.1.set y.toNat true, s.2 ++ [y]) else s
def seeL (no : Int) (s : FS) : List Int → FS
  | [] => s
  | y :: l => seeL no (see1 no s y) l
theorem seeL_snoc (no : Int) : ∀ (l : List Int) (s : FS) (y : Int), seeL no s (l ++ [y]) = see1 no (seeL no s l) y
  | [], s, y => rfl
  | x :: l, s, y => seeL_snoc no l (see1 no s x) y
def lacks (l : List Bool) : Nat := l.countP (fun b => !b)
theorem lacks_set : ∀ (l : List Bool) (k : Nat), l[k]? = some false → lacks (l.set k true) + 1 = lacks l
  | [], k, h => by simp at h
  | b :: l, 0, h => by
    have : b = false := by simpa using h
    subst this
    simp [lacks]
  | b :: l, k + 1, h => by
    have := lacks_set l k (by simpa using h)
    unfold lacks at this ⊢
    rw [List.set_cons_succ, List.countP_cons, List.countP_cons]
    omega
theorem see1_len (no : Int) (s : FS) (y : Int) : (see1 no s y).1.length = s.1.length := by unfold see1; split <;> simp
theorem seeL_len (no : Int) : ∀ (l : List Int) (s : FS), (seeL no s l).1.length = s.1.length
  | [], s => rfl
  | y :: l, s => (seeL_len no l _).trans (see1_len no s y)
theorem see1_sum (no : Int) (s : FS) (y : Int) : lacks (see1 no s y).1 + (see1 no s y).2.length = lacks s.1 + s.2.length := by
  unfold see1
  split
  · rename_i h
    have := lacks_set _ _ h.2
    simp only [List.length_append, List.length_singleton]
    omega
  · rfl
theorem seeL_sum (no : Int) : ∀ (l : List Int) (s : FS), lacks (seeL no s l).1 + (seeL no s l).2.length = lacks s.1 + s.2.length
  | [], s => rfl
  | y :: l, s => (seeL_sum no l _).trans (see1_sum no s y)
def Is (s : List Bool) (x : Int) : Prop := s[x.toNat]? = some true
theorem see1_is {no : Int} {s : FS} {y : Int} (hy : 0 ≤ y ∧ y < (s.1.length : Int)) {x : Int} (hx : 0 ≤ x) : Is (see1 no s y).1 x ↔ Is s.1 x ∨ (x = y ∧ y ≠ no) := by
  unfold see1 Is
  by_cases h : y ≠ no ∧ s.1[y.toNat]? = some false
  · rw [if_pos h]
    by_cases hxy : x = y
    · subst hxy
      rw [List.getElem?_set_self (by omega)]
      simp [h.1]
    · rw [List.getElem?_set_ne (by omega)]
      simp [hxy]
  · rw [if_neg h]
    constructor
    · exact .inl
    · rintro (h1 | ⟨rfl, h1⟩)
      · exact h1
      · have : x.toNat < s.1.length := by omega
        cases hb : s.1[x.toNat]'this with
        | true => rw [List.getElem?_eq_getElem this, hb]
        | false => exact absurd ⟨h1, by rw [List.getElem?_eq_getElem this, hb]⟩ h
theorem seeL_is {no : Int} {n : Nat} : ∀ {l : List Int} {s : FS}, s.1.length = n → (∀ y ∈ l, 0 ≤ y ∧ y < (n : Int)) → ∀ {x : Int}, 0 ≤ x → (Is (seeL no s l).1 x ↔ Is s.1 x ∨ (x ∈ l ∧ x ≠ no))
  | [], s, _, _, x, _ => by simp [seeL]
  | y :: l, s, hn, hl, x, hx => by
    unfold seeL
    rw [seeL_is (n := n) ((see1_len no s y).trans hn) (fun z hz => hl z (by simp [hz])) hx, see1_is (by rw [hn]; exact hl y (by simp)) hx]
    constructor
    · rintro ((h | ⟨rfl, h⟩) | h)
      · exact .inl h
      · exact .inr ⟨by simp, h⟩
      · exact .inr ⟨by simp [h.1], h.2⟩
    · rintro (h | ⟨h, h1⟩)
      · exact .inl (.inl h)
      · rcases List.mem_cons.1 h with rfl | h
        · exact .inl (.inr ⟨rfl, h1⟩)
        · exact .inr ⟨h, h1⟩
theorem see1_open (no : Int) (s : FS) (y x : Int) : x ∈ (see1 no s y).2 ↔ x ∈ s.2 ∨ (x = y ∧ y ≠ no ∧ s.1[y.toNat]? = some false) := by
  unfold see1
  by_cases h : y ≠ no ∧ s.1[y.toNat]? = some false
  · rw [if_pos h]; simp only [List.mem_append, List.mem_singleton]
    constructor
    · rintro (h1 | h1)
      · exact .inl h1
      · exact .inr ⟨h1, h⟩
    · rintro (h1 | h1)
      · exact .inl h1
      · exact .inr h1.1
  · rw [if_neg h]
    constructor
    · exact .inl
    · rintro (h1 | h1)
      · exact h1
      · exact absurd h1.2 h
theorem seeL_open {no : Int} {n : Nat} : ∀ {l : List Int} {s : FS}, s.1.length = n → (∀ y ∈ l, 0 ≤ y ∧ y < (n : Int)) → (∀ x ∈ s.2, 0 ≤ x ∧ x < (n : Int)) → (∀ x ∈ s.2, x ∈ (seeL no s l).2) ∧ (∀ x ∈ (seeL no s l).2, 0 ≤ x ∧ x < (n : Int)) ∧ (∀ x, 0 ≤ x → Is (seeL no s l).1 x → Is s.1 x ∨ x ∈ (seeL no s l).2) ∧ ((∀ x ∈ s.2, Is s.1 x) → ∀ x ∈ (seeL no s l).2, Is (seeL no s l).1 x)
  | [], s, _, _, ho => ⟨fun _ h => h, ho, fun _ _ h => .inl h, fun h => h⟩
  | y :: l, s, hn, hl, ho => by
    have hy := hl y (by simp)
    have hlen := (see1_len no s y).trans hn
    have ho' : ∀ x ∈ (see1 no s y).2, 0 ≤ x ∧ x < (n : Int) := fun x hx => by
      rcases (see1_open no s y x).1 hx with h | ⟨rfl, _⟩
      · exact ho x h
      · exact hy
    obtain ⟨h1, h2, h3, h4⟩ := seeL_open (no := no) (n := n) (l := l) (s := see1 no s y) hlen (fun z hz => hl z (by simp [hz])) ho'
    refine ⟨fun x hx => h1 x ((see1_open no s y x).2 (.inl hx)), h2, fun x hx hi => ?_, fun hs => h4 (fun x hx => ?_)⟩
    · rcases h3 x hx hi with h | h
      · rcases (see1_is (by rw [hn]; exact hy) hx).1 h with h5 | ⟨rfl, h5⟩
        · exact .inl h5
        · by_cases h6 : s.1[x.toNat]? = some false
          · exact .inr (h1 x ((see1_open no s x x).2 (.inr ⟨rfl, h5, h6⟩)))
          · unfold Is at h ⊢
            unfold see1 at h
            rw [if_neg (fun h7 => h6 h7.2)] at h
            exact .inl h
      · exact .inr h
    · have hx0 := ho' x hx
      rw [see1_is (by rw [hn]; exact hy) hx0.1]
      rcases (see1_open no s y x).1 hx with h | ⟨rfl, h, _⟩
      · exact .inl (hs x h)
      · exact .inr ⟨rfl, h⟩
structure FInv (G : List (List Int)) (no : Int) (fr : List Int) (s : FS) : Prop where
  len : s.1.length = G.length
  inside : ∀ x ∈ s.2, 0 ≤ x ∧ x < (G.length : Int)
  «open» : ∀ x ∈ s.2, Is s.1 x
  path : ∀ x, 0 ≤ x → Is s.1 x → Path G no fr x
  first : ∀ x ∈ fr, x ≠ no → Is s.1 x
  done : ∀ x, 0 ≤ x → Is s.1 x → x ∈ s.2 ∨ ∀ y ∈ egs G x, y ≠ no → Is s.1 y
theorem FInv.begin {G : List (List Int)} (no : Int) {fr : List Int} (hf : ∀ x ∈ fr, 0 ≤ x ∧ x < (G.length : Int)) : FInv G no fr (seeL no (List.replicate G.length false, []) fr) := by
  have hn : (List.replicate G.length false).length = G.length := by simp
  have h0 : ∀ x : Int, ¬ Is (List.replicate G.length false) x := fun x h => by unfold Is at h; rw [List.getElem?_replicate] at h; split at h <;> simp at h
  obtain ⟨_, h2, h3, h4⟩ := seeL_open (no := no) (n := G.length) (l := fr) (s := (List.replicate G.length false, [])) hn hf (by simp)
  have h5 : ∀ {x : Int}, 0 ≤ x → (Is (seeL no (List.replicate G.length false, []) fr).1 x ↔ x ∈ fr ∧ x ≠ no) := fun {x} hx => by
    rw [seeL_is (n := G.length) hn hf hx]
    exact ⟨fun h => h.elim (fun h => absurd h (h0 x)) id, .inr⟩
  exact ⟨(seeL_len _ _ _).trans hn, h2, h4 (by simp), fun x hx h => .start ((h5 hx).1 h).1 ((h5 hx).1 h).2, fun x hx hn => (h5 (hf x hx).1).2 ⟨hx, hn⟩, fun x hx h => (h3 x hx h).imp_right (fun h => h) |>.elim (fun h => absurd h (h0 x)) .inl⟩
theorem FInv.more {G : List (List Int)} {no : Int} {fr : List Int} {s : FS} {x : Int} {o : List Int} (hG : GIn G) (hf : ∀ x ∈ fr, 0 ≤ x ∧ x < (G.length : Int)) (h : FInv G no fr s) (hx : s.2 = o ++ [x]) : FInv G no fr (seeL no (s.1, o) (egs G x)) := by
  have hxin := h.inside x (by rw [hx]; simp)
  have hxis := h.open x (by rw [hx]; simp)
  have hin : ∀ y ∈ egs G x, 0 ≤ y ∧ y < (G.length : Int) := fun y hy => hG.egs hy
  obtain ⟨h1, h2, h3, h4⟩ := seeL_open (no := no) (n := G.length) (l := egs G x) (s := (s.1, o)) h.len hin (fun y hy => h.inside y (by rw [hx]; simp [hy]))
  have h5 : ∀ {y : Int}, 0 ≤ y → (Is (seeL no (s.1, o) (egs G x)).1 y ↔ Is s.1 y ∨ (y ∈ egs G x ∧ y ≠ no)) := fun {y} hy => seeL_is (no := no) (n := G.length) (s := (s.1, o)) h.len hin hy
  refine ⟨(seeL_len _ _ _).trans h.len, h2, h4 (fun y hy => h.open y (by rw [hx]; simp [hy])), fun y hy hi => ?_, fun y hy hn => ?_, fun y hy hi => ?_⟩
  · rcases (h5 hy).1 hi with h6 | h6
    · exact h.path y hy h6
    · exact .more (h.path x hxin.1 hxis) h6.1 h6.2
  · exact (h5 (hf y hy).1).2 (.inl (h.first y hy hn))
  · rcases h3 y hy hi with h6 | h6
    · rcases h.done y hy h6 with h7 | h7
      · rw [hx, List.mem_append] at h7
        rcases h7 with h7 | h7
        · exact .inl (h1 y h7)
        · rw [List.mem_singleton] at h7
          subst h7
          exact .inr fun z hz hn => (h5 (hin z hz).1).2 (.inr ⟨hz, hn⟩)
      · exact .inr fun z hz hn => (h5 (hG.egs hz).1).2 (.inl (h7 z hz hn))
    · exact .inl h6
theorem FInv.all {G : List (List Int)} {no : Int} {fr : List Int} {s : FS} (hG : GIn G) (hf : ∀ x ∈ fr, 0 ≤ x ∧ x < (G.length : Int)) (h : FInv G no fr s) (ho : s.2 = []) (x : Int) : (0 ≤ x ∧ Is s.1 x) ↔ Path G no fr x := by
  constructor
  · exact fun h1 => h.path x h1.1 h1.2
  · intro hp
    induction hp with
    | start h1 h2 => exact ⟨(hf _ h1).1, h.first _ h1 h2⟩
    | more _ hy hn ih =>
      rcases h.done _ ih.1 ih.2 with h3 | h3
      · rw [ho] at h3; simp at h3
      · exact ⟨(hG.egs hy).1, h3 _ hy hn⟩
open Classical in
noncomputable def foundB (G : List (List Int)) (fr : List Int) (no : Int) : List Bool := (List.range G.length).map (fun x : Nat => decide (Path G no fr (x : Int)))
theorem foundB_len (G : List (List Int)) (fr : List Int) (no : Int) : (foundB G fr no).length = G.length := by simp [foundB]
theorem foundB_at {G : List (List Int)} {fr : List Int} {no : Int} {x : Nat} (hx : x < G.length) : (foundB G fr no)[x]? = some true ↔ Path G no fr (x : Int) := by
  unfold foundB
  rw [List.getElem?_map, List.getElem?_range hx]
  simp
theorem FInv.end {G : List (List Int)} {no : Int} {fr : List Int} {s : FS} (hG : GIn G) (hf : ∀ x ∈ fr, 0 ≤ x ∧ x < (G.length : Int)) (h : FInv G no fr s) (ho : s.2 = []) : s.1 = foundB G fr no := by
  apply List.ext_getElem?
  intro i
  by_cases hi : i < G.length
  · have h1 := h.all hG hf ho (i : Int)
    have h2 := foundB_at (fr := fr) (no := no) hi
    have e1 : s.1[i]? = some (s.1[i]'(by rw [h.len]; exact hi)) := List.getElem?_eq_getElem _
    have e2 : (foundB G fr no)[i]? = some ((foundB G fr no)[i]'(by rw [foundB_len]; exact hi)) := List.getElem?_eq_getElem _
    unfold Is at h1
    rw [Int.toNat_natCast] at h1
    rw [← h2] at h1
    rw [e1, e2] at h1 ⊢
    cases ha : s.1[i]'(by rw [h.len]; exact hi) <;> cases hb : (foundB G fr no)[i]'(by rw [foundB_len]; exact hi) <;> simp_all
  · rw [List.getElem?_eq_none (by rw [h.len]; omega), List.getElem?_eq_none (by rw [foundB_len]; omega)]

/-! ### Turned about -/
def nextG (c : List Ins) : List (List Int) := c.mapIdx (fun k i => next i (k : Int))
theorem nextG_len (c : List Ins) : (nextG c).length = c.length := by simp [nextG]
theorem nextG_at (c : List Ins) (k : Nat) : (nextG c)[k]? = c[k]?.map (fun i => next i (k : Int)) := by simp [nextG]
theorem egs_nextG (c : List Ins) {x : Int} (hx : 0 ≤ x) : egs (nextG c) x = nexts c x := by
  unfold egs nexts
  rw [nextG_at]
  cases h : c[x.toNat]? with
  | none => rfl
  | some i => simp only [Option.map_some]; rw [Int.toNat_of_nonneg hx]
theorem nextG_in {c : List Ins} (h : Closed c) : GIn (nextG c) := by
  intro l hl y hy
  obtain ⟨k, hk⟩ := List.mem_iff_getElem?.1 hl
  have hlt := (List.getElem?_eq_some_iff.1 hk).1
  rw [nextG_len] at hlt ⊢
  have h1 := h (k : Int) ⟨Int.natCast_nonneg _, by omega⟩ y (by rw [← egs_nextG c (Int.natCast_nonneg _), egs_at (by simpa using hk)]; exact hy)
  exact h1
end Go.Proofs.Ytgnpbodhjmappaa.Cd
