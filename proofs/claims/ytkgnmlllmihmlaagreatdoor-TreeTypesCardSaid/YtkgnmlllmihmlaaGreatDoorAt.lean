/-
  Where a parser stands in the midst of a method: what has come since it began, and the method's own variables.
-/
import Derived.Test.YtkgnmlllmihmlaaGreatDoorNumd
namespace Go.Proofs.YtkgnmlllmihmlaaGreatDoor
open Go.RowKit Sp Tr
set_option linter.unusedVariables false

/-- Since w0 the parser has come to s; L: the method's own variables, block by block. -/
def At (w0 : World) (c : PC) (v u : Value) (E : PE) (s : S) (L : List (Nat × Obj)) (w : World) : Prop :=
  ∃ vn vt, PIn w c vn vt E s ∧ Turn c.p v u vn vt w0 w ∧ (∀ x ∈ L, w.heap[x.1]? = some x.2 ∧ Out c vn vt x.1 ∧ w0.heap.size ≤ x.1) ∧ (L.map (·.1)).Nodup
/-- The answer of a method, and where the parser stands then. -/
def Ans (w0 : World) (c : PC) (v u : Value) (E : PE) (s : S) (L : List (Nat × Obj)) (r : Value) (e : Ending) (w : World) : Prop := e = .returned r ∧ At w0 c v u E s L w

section
variable {w0 w : World} {c : PC} {v u : Value} {E : PE} {s s' : S} {L : List (Nat × Obj)}

theorem At.start (h : PIn w c v u E s) : At w c v u E s [] w := ⟨v, u, h, Turn.refl _ _ _ _, fun x hx => by simp at hx, by simp⟩
theorem At.below {w' : World} (h : At w0 c v u E s L w) (hb : Below w.heap.size w w') : At w0 c v u E s L w' := by
  obtain ⟨vn, vt, h1, h2, h3, h4⟩ := h
  exact ⟨vn, vt, h1.below hb, h2.below hb, fun x hx => ⟨(hb.block _ (lt_heap (h3 x hx).1)).trans (h3 x hx).1, (h3 x hx).2⟩, h4⟩
theorem At.alloc (h : At w0 c v u E s L w) (o : Obj) : At w0 c v u E s ((w.heap.size, o) :: L) (w.alloc o) := by
  obtain ⟨vn, vt, h1, h2, h3, h4⟩ := h
  refine ⟨vn, vt, h1.alloc o, h2.alloc o, fun x hx => ?_, ?_⟩
  · rcases List.mem_cons.1 hx with rfl | hx
    · exact ⟨heap_alloc_new w o, h1.fresh (Nat.le_refl _), h2.size⟩
    · exact ⟨(Below.heap_alloc w o _ (lt_heap (h3 x hx).1)).trans (h3 x hx).1, (h3 x hx).2⟩
  · rw [List.map_cons, List.nodup_cons]
    refine ⟨fun hm => ?_, h4⟩
    obtain ⟨x, hx, he⟩ := List.mem_map.1 hm
    have := lt_heap (h3 x hx).1
    simp at he
    omega
theorem At.drop {x : Nat × Obj} (h : At w0 c v u E s (x :: L) w) : At w0 c v u E s L w := by
  obtain ⟨vn, vt, h1, h2, h3, h4⟩ := h
  exact ⟨vn, vt, h1, h2, fun y hy => h3 y (List.mem_cons_of_mem _ hy), (List.nodup_cons.1 h4).2⟩
theorem At.perm {L' : List (Nat × Obj)} (h : At w0 c v u E s L w) (hp : L.Perm L') : At w0 c v u E s L' w := by
  obtain ⟨vn, vt, h1, h2, h3, h4⟩ := h
  exact ⟨vn, vt, h1, h2, fun y hy => h3 y (hp.mem_iff.2 hy), (hp.map (·.1)).nodup_iff.1 h4⟩
theorem At.mem {x : Nat × Obj} (h : At w0 c v u E s L w) (hx : x ∈ L) : w.heap[x.1]? = some x.2 := by
  obtain ⟨vn, vt, h1, h2, h3, h4⟩ := h
  exact (h3 x hx).1
theorem At.loc {b : Nat} {o : Obj} (h : At w0 c v u E s ((b, o) :: L) w) : w.heap[b]? = some o := h.mem (x := (b, o)) (List.mem_cons_self ..)
theorem At.put {b : Nat} {o o' : Obj} (h : At w0 c v u E s ((b, o) :: L) w) {w' : World} (hb : w'.heap[b]? = some o') (hk : ∀ k, k ≠ b → w'.heap[k]? = w.heap[k]?) (hz : w'.heap.size = w.heap.size) (hos : w'.os = w.os) (htp : w'.tape = w.tape) (hou : w'.output = w.output) : At w0 c v u E s ((b, o') :: L) w' := by
  obtain ⟨vn, vt, h1, h2, h3, h4⟩ := h
  obtain ⟨k1, k2, k3⟩ := h3 _ (List.mem_cons_self ..)
  refine ⟨vn, vt, h1.keep fun k _ hh => hk k ?_, ⟨hos.trans h2.os, htp.trans h2.tape, hou.trans h2.output, by rw [hz]; exact h2.size, fun k hh hp hn ht => (hk k (by have : w0.heap.size ≤ b := k3; omega)).trans (h2.block k hh hp hn ht), h2.ownN, h2.ownT⟩, fun y hy => ?_, h4⟩
  · rintro rfl
    rcases hh with e | e | e | e | e
    · exact k2.p e
    · exact k2.g e
    · exact k2.n e
    · exact k2.t e
    · exact k2.z e
  · rcases List.mem_cons.1 hy with rfl | hy2
    · exact ⟨hb, k2, k3⟩
    · refine ⟨(hk y.1 ?_).trans (h3 y (List.mem_cons_of_mem _ hy2)).1, (h3 y (List.mem_cons_of_mem _ hy2)).2⟩
      rintro rfl
      exact (List.nodup_cons.1 h4).1 (List.mem_map.2 ⟨y, hy2, rfl⟩)
theorem At.set {b : Nat} {cs : Array Value} {t : TypeId} {fr : Nat × Nat} (h : At w0 c v u E s ((b, .cells cs t fr) :: L) w) (j : Nat) (x : Value) : At w0 c v u E s ((b, .cells (cs.setIfInBounds j x) t fr) :: L) (w.setCell ⟨b, j, none⟩ x) :=
  h.put (cells_set h.loc j x) (fun k hk => Below.heap_setCell _ _ _ _ (by simpa using hk)) (by simp [World.setCell]) rfl rfl rfl
theorem At.drew (h : At w0 c v u E s L w) : At w0 c v u E s L w.drew := h.below (Below.refl _ _).drew
theorem At.done {r : Value} {e : Ending} (h : At w0 c v u E s L w) (he : e = .returned r) : Post c v u E r s w0 e w := by
  obtain ⟨vn, vt, h1, h2, h3, h4⟩ := h
  exact ⟨vn, vt, he, h1, h2⟩
theorem At.size (h : At w0 c v u E s L w) : w0.heap.size ≤ w.heap.size := by
  obtain ⟨vn, vt, h1, h2, h3, h4⟩ := h
  exact h2.size
/-- What only reads. -/
theorem At.quiet {f : FuncId} {args : Array Value} {r : Value} (h : At w0 c v u E s L w) (k : ∀ vn vt, PIn w c vn vt E s → Calls Tryz.prog f args w (RPost r w)) : Calls Tryz.prog f args w (Ans w0 c v u E s L r) := by
  obtain ⟨vn, vt, h1, h2, h3, h5⟩ := h
  refine (k vn vt h1).mono ?_
  rintro e w' ⟨rfl, hb⟩
  exact ⟨rfl, At.below ⟨vn, vt, h1, h2, h3, h5⟩ hb⟩
/-- What reads on. -/
theorem At.lift {f : FuncId} {args : Array Value} {r : Value} (h : At w0 c v u E s L w) (k : ∀ vn vt, PIn w c vn vt E s → Calls Tryz.prog f args w (Post c vn vt E r s' w)) : Calls Tryz.prog f args w (Ans w0 c v u E s' L r) := by
  obtain ⟨vn, vt, h1, h2, h3, h5⟩ := h
  refine (k vn vt h1).mono ?_
  rintro e w' ⟨vn', vt', rfl, h4, t4⟩
  exact ⟨rfl, vn', vt', h4, h2.trans t4, fun x hx => ⟨(t4.kept (h3 x hx).2.1 (lt_heap (h3 x hx).1)).trans (h3 x hx).1, (h3 x hx).2.1.turn (lt_heap (h3 x hx).1) t4, (h3 x hx).2.2⟩, h5⟩

theorem now_a {t : Tok} (h : At w0 c v u E s L w) (ht : nowT E s = t) : Calls Tryz.prog 27 #[.pointer (some ⟨c.p, 0, none⟩)] w (Ans w0 c v u E s L (tkV t)) := h.quiet fun _ _ h => ht ▸ now_any h
theorem ahead_a {k : Nat} {t : Tok} (h : At w0 c v u E s L w) (hk : k ≤ 2) (ht : ahd E s k = t) : Calls Tryz.prog 51 #[.pointer (some ⟨c.p, 0, none⟩), .int .i64 k] w (Ans w0 c v u E s L (tkV t)) := h.quiet fun _ _ h => ht ▸ ahead_at h k hk
theorem ahead1_a {t : Tok} (h : At w0 c v u E s L w) (ht : ahd E s 1 = t) : Calls Tryz.prog 51 #[.pointer (some ⟨c.p, 0, none⟩), .int .i64 1] w (Ans w0 c v u E s L (tkV t)) := h.quiet fun _ _ h => ht ▸ ahead_1 h
theorem ahead2_a {t : Tok} (h : At w0 c v u E s L w) (ht : ahd E s 2 = t) : Calls Tryz.prog 51 #[.pointer (some ⟨c.p, 0, none⟩), .int .i64 2] w (Ans w0 c v u E s L (tkV t)) := h.quiet fun _ _ h => ht ▸ ahead_2 h
theorem is_a {x : List UInt8} {b : Bool} (h : At w0 c v u E s L w) (hx : isT E s x = b) : Calls Tryz.prog 94 #[.pointer (some ⟨c.p, 0, none⟩), .string (bt x)] w (Ans w0 c v u E s L (.bool b)) := h.quiet fun _ _ h => hx ▸ is_p h x
theorem sign_a {x : List UInt8} (h : At w0 c v u E s L w) (hx : sgn E s = x) : Calls Tryz.prog 152 #[.pointer (some ⟨c.p, 0, none⟩)] w (Ans w0 c v u E s L (.string (bt x))) := h.quiet fun _ _ h => hx ▸ sign_p h
theorem node_a {k : Int} {n : Nd} (h : At w0 c v u E s L w) (hx : nodeAt E s k = n) : Calls Tryz.prog 70 #[.pointer (some ⟨c.p, 0, none⟩), .int .i64 k] w (Ans w0 c v u E s L (ndV n)) := h.quiet fun _ _ h => hx ▸ node_p h k
theorem same_a {t : Tok} {x : List UInt8} {b : Bool} (h : At w0 c v u E s L w) (hx : sameT t x = b) : Calls Tryz.prog 95 #[tkV t, .string (bt x)] w (Ans w0 c v u E s L (.bool b)) := h.quiet fun _ _ _ => hx ▸ same_any t x w
theorem begins_a {t : Tok} (h : At w0 c v u E s L w) (hx : t.k ≠ 2) : Calls Tryz.prog 149 #[tkV t] w (Ans w0 c v u E s L (.bool false)) := h.quiet fun _ _ _ => begins_no hx w
theorem took_n {x : List UInt8} (h : At w0 c v u E s L w) (hx : isT E s x = false) : Calls Tryz.prog 99 #[.pointer (some ⟨c.p, 0, none⟩), .string (bt x)] w (Ans w0 c v u E s L (.bool false)) := h.quiet fun _ _ h => took_no h hx
theorem took_y {x : List UInt8} (h : At w0 c v u E s L w) (hx : isT E s x = true) (hs : takeT s = some s') : Calls Tryz.prog 99 #[.pointer (some ⟨c.p, 0, none⟩), .string (bt x)] w (Ans w0 c v u E s' L (.bool true)) := h.lift fun _ _ h => took_yes h hx hs
theorem take_a {t : Tok} (h : At w0 c v u E s L w) (ht : nowT E s = t) (hs : takeT s = some s') : Calls Tryz.prog 127 #[.pointer (some ⟨c.p, 0, none⟩)] w (Ans w0 c v u E s' L (tkV t)) := h.lift fun _ _ h => ht ▸ take_p h hs
theorem need_a {x : List UInt8} (h : At w0 c v u E s L w) (hs : needT E x s = some s') : Calls Tryz.prog 102 #[.pointer (some ⟨c.p, 0, none⟩), .string (bt x)] w (Ans w0 c v u E s' L (.tuple #[])) := h.lift fun _ _ h => need_p h hs
theorem name_a {t : Tok} (h : At w0 c v u E s L w) (hs : kindT E 1 s = some (t, s')) : Calls Tryz.prog 98 #[.pointer (some ⟨c.p, 0, none⟩)] w (Ans w0 c v u E s' L (.string (bt t.text))) := h.lift fun _ _ h => name_p h hs
theorem number_a {t : Tok} (h : At w0 c v u E s L w) (hs : kindT E 3 s = some (t, s')) : Calls Tryz.prog 130 #[.pointer (some ⟨c.p, 0, none⟩)] w (Ans w0 c v u E s' L (.int .i64 t.n)) := h.lift fun _ _ h => number_p h hs
theorem add_a {nd : Nd} {r : Int} (h : At w0 c v u E s L w) (hs : addT nd s = some (r, s')) : Calls Tryz.prog 71 #[.pointer (some ⟨c.p, 0, none⟩), ndV nd] w (Ans w0 c v u E s' L (.int .i64 r)) := h.lift fun _ _ h => add_p h hs
theorem numbered_a {x : Ty} {r : Int} (h : At w0 c v u E s L w) (hs : numbered x s = some (r, s')) : Calls Tryz.prog 125 #[.pointer (some ⟨c.p, 0, none⟩), tyV x] w (Ans w0 c v u E s' L (.int .i64 r)) := h.lift fun _ _ h => numbered_p h hs
theorem At.names (h : At w0 c v u E s L w) : w.cell? ⟨0, 0, none⟩ = some (.string (bt wVoid)) ∧ w.cell? ⟨0, 1, none⟩ = some (.string (bt wInt)) ∧ w.cell? ⟨0, 2, none⟩ = some (.string (bt wUnsigned)) ∧ w.cell? ⟨0, 3, none⟩ = some (.string (bt wChar)) := by
  obtain ⟨vn, vt, h1, h2, h3, h4⟩ := h
  obtain ⟨ty, fr, hn⟩ := h1.names
  refine ⟨?_, ?_, ?_, ?_⟩ <;> (rw [cell_of_row w _ _ _ _ _ hn]; rfl)
end
end Go.Proofs.YtkgnmlllmihmlaaGreatDoor
