/-
  GraphEdges: where edges come from, what is reached, and in which order, are the document's.
-/
import Derived.Test.YtaccaeelembboaaQGraphLine
import Derived.Test.YtaccaeelembboaaQG9Same
import Derived.Test.YtaccaeelembboaaQR9Leave
import Derived.Deep.RegionWith
namespace Go.Proofs.Ytaccaeelembboaa
open Go.RowKit Cd Go.Maps
set_option linter.unusedVariables false
set_option linter.unusedSimpArgs false

theorem followG_yes {f : Fnc} (h : RightF f) : followG f = nextG f.code := by unfold followG; rw [if_pos (rightF_iff.2 h)]
theorem followG_no {f : Fnc} (h : rightF f = false) : followG f = [] := by unfold followG; rw [if_neg (by rw [h]; simp)]
theorem reachL_at2 {c : List Ins} (hc : Closed c) (h0 : 0 < c.length) {n : Nat} (hn : n < c.length) : (reachL (nextG c))[n]? = some (reachedB c (n : Int)) := by
  have h9 : nextG c ≠ [] := fun q => by have := nextG_len c; rw [q] at this; simp at this; omega
  have hl : n < (nextG c).length := by rw [nextG_len]; exact hn
  have e0 : reachL (nextG c) = foundB (nextG c) [0] (-1) := if_neg h9
  obtain ⟨b, hb⟩ : ∃ b, (reachL (nextG c))[n]? = some b := ⟨_, List.getElem?_eq_getElem (by rw [e0, foundB_len]; exact hl)⟩
  rw [hb]
  rw [e0] at hb
  have hv := foundB_v hl hb
  congr 1
  rw [Bool.eq_iff_iff, hv, reachedB_iff hc h0]
  exact path_reach hc h0
theorem reachL_len2 {c : List Ins} (h0 : 0 < c.length) : (reachL (nextG c)).length = c.length := by
  have h9 : nextG c ≠ [] := fun q => by have := nextG_len c; rw [q] at this; simp at this; omega
  rw [show reachL (nextG c) = foundB (nextG c) [0] (-1) from if_neg h9, foundB_len, nextG_len]
theorem ord_order {c : List Ins} (hc : Closed c) (h0 : 0 < c.length) {o : List Int} (h : OrdOf (nextG c) o) : o = orderN c := by
  obtain ⟨s, hs, hp, rfl⟩ := h
  rcases hs with ⟨h9, _⟩ | ⟨_, hs⟩
  · exact absurd h9 (fun q => by have := nextG_len c; rw [q] at this; simp at this; omega)
  · obtain ⟨par, tri, h1⟩ := dfs_end hc h0
    rw [nextG_len] at hs
    have := DSteps.end hs h1 hp rfl
    subst this
    rfl
theorem ord_nil {o : List Int} (h : OrdOf [] o) : o = [] := by
  obtain ⟨s, hs, hp, rfl⟩ := h
  rcases hs with ⟨_, rfl⟩ | ⟨h0, _⟩
  · rfl
  · exact absurd h0 (by simp)
def LPost (l : List Int) (w : World) (e : Ending) (w' : World) : Prop := ∃ a c, e = .returned (.slice a l.length c) ∧ IntsAt w' a l ∧ Below w.heap.size w w'
theorem lpost_of {l : List Int} {w w' : World} {e : Ending} (h : ListPost l w e w') : LPost l w e w' := by
  obtain ⟨v, rfl, ho, hb⟩ := h
  obtain ⟨a, c, rfl⟩ := row_slice ho
  exact ⟨a, c, rfl, IntsAt.of_own ho, hb⟩
theorem order_l (r : FnR) (w : World) (h : FnOk w r) (hf : RightF r.f) (o : List Int) (ho : orderN r.f.code = o) : Calls Try.prog 13 #[fnV r] w (LPost o w) := by
  refine (order_g r w h _ (followG_yes hf)).mono ?_
  rintro e w' ⟨o, h1, h2, h3⟩
  rw [← ho, ← ord_order (closed_of hf) hf.code.1 h1]
  exact lpost_of h3
theorem order_no (r : FnR) (w : World) (h : FnOk w r) (hf : rightF r.f = false) : Calls Try.prog 13 #[fnV r] w (LPost [] w) := by
  refine (order_g r w h _ (followG_no hf)).mono ?_
  rintro e w' ⟨o, h1, h2, h3⟩
  rw [ord_nil h1] at h3
  exact lpost_of h3
theorem reforder_l (r : FnR) (w : World) (h : FnOk w r) (hf : RightF r.f) (o : List Int) (ho : orderN r.f.code = o) : Calls Try.prog 16 #[fnV r] w (LPost o w) := by
  subst ho
  exact (order_any r w.heap.size w h.code hf (Nat.le_refl _)).mono fun e w' h => lpost_of h
theorem refbefore_l (r : FnR) (n : Int) (w : World) (h : FnOk w r) (hf : RightF r.f) (l : List Int) (hl : beforeN r.f.code n = l) : Calls Try.prog 17 #[fnV r, .int .i64 n] w (LPost l w) := by
  subst hl
  exact (before_any r n w.heap.size w h.code hf (Nat.le_refl _)).mono fun e w' h => lpost_of h
def BeforePost (n : Nat) (c : List Ins) (w : World) (e : Ending) (w' : World) : Prop := ∃ a cap, e = .returned (.slice a n cap) ∧ RowsAt w' w'.heap.size a (turned (nextG c)) ∧ Below w.heap.size w w'
theorem before_l (r : FnR) (w : World) (h : FnOk w r) (hf : RightF r.f) (n : Nat) (hn : r.f.code.length = n) : Calls Try.prog 11 #[fnV r] w (BeforePost n r.f.code w) := by
  refine (before_g r w h _ (followG_yes hf)).mono ?_
  rintro e w' ⟨a, c, rfl, h1, h2⟩
  exact ⟨a, c, by rw [turned_len, nextG_len, hn], h1, h2⟩
theorem before_no (r : FnR) (w : World) (h : FnOk w r) (hf : rightF r.f = false) : Calls Try.prog 11 #[fnV r] w (fun e w' => ∃ a c, e = .returned (.slice a 0 c) ∧ Below w.heap.size w w') := by
  refine (before_g r w h _ (followG_no hf)).mono ?_
  rintro e w' ⟨a, c, rfl, h1, h2⟩
  exact ⟨a, c, rfl, h2⟩
def ReachPost (n : Nat) (c : List Ins) (w : World) (e : Ending) (w' : World) : Prop := ∃ a cap, e = .returned (.slice a n cap) ∧ LiesIn w' w.heap.size a (bools (reachL (nextG c))) ∧ Below w.heap.size w w'
theorem reached_l (r : FnR) (w : World) (h : FnOk w r) (hf : RightF r.f) (n : Nat) (hn : r.f.code.length = n) : Calls Try.prog 12 #[fnV r] w (ReachPost n r.f.code w) := by
  refine (reached_g r w h _ (followG_yes hf)).mono ?_
  rintro e w' ⟨a, c, rfl, h1, h2⟩
  exact ⟨a, c, by rw [reachL_len2 hf.code.1, hn], h1, h2⟩
theorem reached_no (r : FnR) (w : World) (h : FnOk w r) (hf : rightF r.f = false) : Calls Try.prog 12 #[fnV r] w (fun e w' => ∃ a c, e = .returned (.slice a 0 c) ∧ Below w.heap.size w w') := by
  refine (reached_g r w h _ (followG_no hf)).mono ?_
  rintro e w' ⟨a, c, rfl, h1, h2⟩
  exact ⟨a, c, rfl, h2⟩
theorem refreached_l (r : FnR) (n : Int) (w : World) (h : FnOk w r) (hf : RightF r.f) (b : Bool) (hb : reachedB r.f.code n = b) : Calls Try.prog 18 #[fnV r, .int .i64 n] w (RPost (.bool b) w) :=
  reached_any r n b w.heap.size w h.code hf (Nat.le_refl _) hb
theorem rightc_l (r : FnR) (w : World) (h : FnOk w r) (b : Bool) (hb : rightF r.f = b) : Calls Try.prog 14 #[fnV r] w (RPost (.bool b) w) := by
  subst hb
  exact rightFunc_any r w.heap.size w h.code h.len
set_option maxRecDepth 100000 in
set_option maxHeartbeats 8000000 in
theorem edges_few (r : FnR) (W : World) (h : FnOk W r) (hf : few9 r.f = false) : Calls Try.prog 3 #[fnV r] W (RPost (.bool true) W) := by
  have H := Lib.hid (h.below (bx1_below W r)); have HF := Lib.hid hf
  clear h hf
  obtain ⟨x0, x1, x2, x3, x4⟩ := nv5 (heap_alloc_new W (fnO r))
  go_enter Try.func3, Try.ntmps3
  go_wp2_with (first | ((with_reducible refine (few_c r _ H.out false HF.out).mono ?_); rintro e w1 ⟨rfl, hb1⟩; have HB1 := Lib.hid ((bx1_below W r).trans (hb1.mono (by simp))); clear hb1) | ((with_reducible refine (awake9_any _).mono ?_); rintro e w2 ⟨rfl, hb2⟩; have HB2 := Lib.hid (HB1.out.trans (hb2.mono HB1.out.size)); clear hb2))
  go_ret
  exact ⟨rfl, HB2.out⟩
end Go.Proofs.Ytaccaeelembboaa
