/-
  Contract of doppelref09's Without.
-/
import Derived.Test.YtbalbdhbmcdbaaaPNB
import Derived.Test.YtbalbdhbmcdbaaaPND
import Derived.Test.YtbalbdhbmcdbaaaPNA
import Derived.Test.YtbalbdhbmcdbaaaPLast
import Derived.Test.YtbalbdhbmcdbaaaPR7RightA
import Derived.Deep.OwnRows
set_option linter.unusedVariables false
set_option linter.unusedSimpArgs false
namespace Go.Proofs.Ytbalbdhbmcdbaaa
set_option maxRecDepth 100000
open Go.RowKit Cd
theorem drW {B : Nat} {a w : World} (h : Below B a w) : Below B a w.drew := ⟨h.os, h.tape, h.output, h.size, h.block⟩
end Go.Proofs.Ytbalbdhbmcdbaaa
namespace Go.Proofs.Ytbalbdhbmcdbaaa
set_option maxRecDepth 100000
open Go.RowKit Cd
abbrev ints (l : List Int) : List Value := l.map (Value.int .i64)
theorem made_row (z : Value) : ∀ n : Nat, madeCells #[z] n = (List.replicate n z).toArray := fun n => by
  apply Array.ext'
  apply List.ext_getElem?
  intro i
  unfold madeCells
  by_cases hi : i < n
  · simp [hi, Nat.mod_one]
  · simp [hi]
def LiesIn (w : World) (lo : Nat) (a : Option Addr) (cs : List Value) : Prop :=
  0 < cs.length → ∃ b off, a = some ⟨b, off, none⟩ ∧ lo ≤ b ∧ b < w.heap.size ∧ ∀ (j : Nat) (u : Value), cs[j]? = some u → w.cell? ⟨b, off + j, none⟩ = some u
theorem LiesIn.keep {w w' : World} {lo : Nat} {a : Option Addr} {cs : List Value} (h : LiesIn w lo a cs) (hs : w.heap.size ≤ w'.heap.size) (hb : ∀ g, lo ≤ g → g < w.heap.size → w'.heap[g]? = w.heap[g]?) : LiesIn w' lo a cs := fun h0 => by
  obtain ⟨b, off, ha, h1, h2, h3⟩ := h h0
  exact ⟨b, off, ha, h1, by omega, fun j u hu => (World.cell?_of_block (w := w) (hb b h1 h2)).trans (h3 j u hu)⟩
theorem LiesIn.below {w w' : World} {lo : Nat} {a : Option Addr} {cs : List Value} (h : LiesIn w lo a cs) (hb : Below w.heap.size w w') : LiesIn w' lo a cs := h.keep hb.size (fun g _ hg => hb.block g hg)
theorem LiesIn.row {w : World} {lo : Nat} {a : Option Addr} {cs : List Value} (h : LiesIn w lo a cs) : RowAt w w.heap.size a cs := fun h0 => by
  obtain ⟨b, off, ha, h1, h2, h3⟩ := h h0
  exact ⟨b, off, ha, h2, Nat.le_refl _, h3⟩
theorem LiesIn.of_own {w : World} {B n c : Nat} {a : Option Addr} {l : List Int} (h : w.ownsRow B 3 1 (.slice a n c) n (ints l)) : LiesIn w B a (ints l) := fun h0 => by
  rw [List.length_map] at h0
  obtain ⟨x, hx⟩ : ∃ x, l[0]? = some x := ⟨_, List.getElem?_eq_getElem h0⟩
  obtain ⟨g, rfl, h1, hg, _⟩ := own_int h hx
  refine ⟨g, 0, rfl, h1, hg, fun j u hu => ?_⟩
  rw [List.getElem?_map] at hu
  cases hj : l[j]? with
  | none => rw [hj] at hu; cases hu
  | some y =>
    rw [hj] at hu
    injection hu with hu
    obtain ⟨g', hg', _, _, hc⟩ := own_int h hj
    injection hg' with hg'
    injection hg' with hg' _ _
    subst hg' hu
    rw [Nat.zero_add]; exact hc
theorem LiesIn.le {w : World} {lo lo' : Nat} {a : Option Addr} {cs : List Value} (h : LiesIn w lo a cs) (hl : lo' ≤ lo) : LiesIn w lo' a cs := fun h0 => by
  obtain ⟨b, off, ha, h1, h2, h3⟩ := h h0
  exact ⟨b, off, ha, by omega, h2, h3⟩
theorem own_short {w : World} {B n c k : Nat} {e : TypeId} {a : Option Addr} {xs : List Value} (h : w.ownsRow B e 1 (.slice a n c) n xs) (hk : k ≤ n) : w.ownsRow B e 1 (.slice a k c) k (xs.take k) := by
  obtain ⟨hl, ⟨h0, h1⟩ | ⟨g, cap, cur, hv, hg, hh, h1, h2, h3, ht⟩⟩ := h
  · subst h1
    injection h0 with h0 _ h2
    subst h0 h2
    obtain rfl : k = 0 := by omega
    exact ⟨by simp, .inl ⟨rfl, rfl⟩⟩
  · injection hv with hv _ hc
    subst hv hc
    refine ⟨by rw [List.length_take, hl]; omega, .inr ⟨g, c, cur, rfl, hg, hh, by omega, h2, h3, ?_⟩⟩
    rw [← ht, List.take_take]
    congr 1
    omega
theorem own_room {w : World} {B n c : Nat} {e : TypeId} {a : Option Addr} {xs : List Value} (h : w.ownsRow B e 1 (.slice a n c) n xs) : n ≤ c ∧ c ≤ maxLen ∧ (a = none ∨ ∃ g off, a = some ⟨g, off, none⟩) := by
  obtain ⟨hl, ⟨h0, h1⟩ | ⟨g, cap, cur, hv, hg, hh, h1, h2, h3, ht⟩⟩ := h
  · injection h0 with h0 h2 h3
    subst h0 h2 h3
    exact ⟨Nat.le_refl _, by unfold maxLen; omega, .inl rfl⟩
  · injection hv with hv _ hc
    subst hv hc
    exact ⟨h1, h2, .inr ⟨g, 0, rfl⟩⟩
theorem slice_short {a : Option Addr} {n c k : Nat} (ha : a = none ∨ ∃ g off, a = some ⟨g, off, none⟩) (hk : k ≤ c) (hc : c ≤ maxLen) (W : World) :
    (Instr.sliceAt 29 (.slice a n c) none (some (.int .i64 k)) none).run Try.prog W = .ok (.slice a k c) W := by
  unfold maxLen at hc
  have h0 : (0 : Int) ≤ (k : Int) := Int.natCast_nonneg _
  have h1 : (k : Int) ≤ (c : Int) := by omega
  have ht := Try.underlying29
  have hz : ∀ W, (sizeOf 3).run Try.prog W = .ok 1 W := fun W => by kernel_rfl
  have hel : Try.prog.elem 29 = 3 := by simp [Program.elem, ht]
  rcases ha with rfl | ⟨g, off, rfl⟩
  · go_simp
  · go_simp
end Go.Proofs.Ytbalbdhbmcdbaaa
namespace Go.Proofs.Ytbalbdhbmcdbaaa
set_option maxRecDepth 100000
open Go.RowKit Cd
theorem cnext_any (i : Ins) (p : Int) (hp : 0 ≤ p ∧ p ≤ 1000000) (w : World) : Calls Try.prog 97 #[inV i, .int .i64 p] w (ListPost (next i p) w) := by
  obtain ⟨hp0, hp1⟩ := hp
  by_cases h11 : i.kind = 11
  · have e : next i p = [i.dest] := if_pos h11
    rw [e]; clear e
    go_enter Try.func97, Try.ntmps97
    go_wp2
    go_ret
    exact list_one (by simp) rfl
  · by_cases h12 : i.kind = 12
    · have e : next i p = [i.dest, i.els] := by unfold next; rw [if_neg h11, if_pos h12]
      rw [e]; clear e h11
      go_enter Try.func97, Try.ntmps97
      go_wp2
      go_ret
      exact list_two (by simp) rfl
    · by_cases h13 : i.kind = 13
      · have e : next i p = [] := by unfold next; rw [if_neg h11, if_neg h12, if_pos h13]
        rw [e]; clear e h11 h12
        go_enter Try.func97, Try.ntmps97
        go_wp2
        go_ret
        exact list_nil ((Below.refl _ _).alloc (Nat.le_refl _) _)
      · have e : next i p = [p + 1] := by unfold next; rw [if_neg h11, if_neg h12, if_neg h13]
        rw [e]; clear e
        have g11 : ((i.kind : Int) == 11) = false := by simp; omega
        have g12 : ((i.kind : Int) == 12) = false := by simp; omega
        have g13 : ((i.kind : Int) == 13) = false := by simp; omega
        go_enter Try.func97, Try.ntmps97
        go_wp2
        go_ret
        exact list_one (by simp) rfl
end Go.Proofs.Ytbalbdhbmcdbaaa
namespace Go.Proofs.Ytbalbdhbmcdbaaa.Cd
def lacks (l : List Bool) : Nat := l.countP (fun b => !b)
theorem lacks_set : ∀ (l : List Bool) (k : Nat), l[k]? = some false → lacks (l.set k true) + 1 = lacks l
  | [], k, h => by simp at h
  | b :: l, 0, h => by
    have : b = false := by simpa using h
    subst this
    simp [lacks]
  | b :: l, k + 1, h => by
    have := lacks_set l k (by simpa using h)
    unfold lacks at this ⊢
    rw [List.set_cons_succ, List.countP_cons, List.countP_cons]
    omega
end Go.Proofs.Ytbalbdhbmcdbaaa.Cd
