/-
  Contracts of Parse and Read.
-/
import Derived.Test.YtkgnmlllmihmlaaGreatDoorNewp
import Derived.Test.YtkgnmlllmihmlaaGreatDoorUse
import Derived.Test.YtkgnmlllmihmlaaGreatDoorPlaced
namespace Go.Proofs.YtkgnmlllmihmlaaGreatDoor
open Go.RowKit Sp Tr Go.Shelf
set_option linter.unusedVariables false

/-- A tree in memory. -/
structure TreeIn (w : World) (B : Nat) (vn vt : Value) (T : Tr.Tree) : Prop where
  nodes : w.ownsRow B 33 9 vn T.nodes.length (T.nodes.flatMap ndCells)
  types : w.ownsRow B 36 4 vt T.types.length (T.types.flatMap tyCells)
  ln : T.nodes.length ≤ 8192
  lt : T.types.length ≤ 256
theorem TreeIn.below {w w' : World} {B : Nat} {vn vt : Value} {T : Tr.Tree} (h : TreeIn w B vn vt T) (hb : Below w.heap.size w w') : TreeIn w' B vn vt T :=
  ⟨own_keep h.nodes fun g hg => hb.block g (h.nodes.lt g hg).2, own_keep h.types fun g hg => hb.block g (h.types.lt g hg).2, h.ln, h.lt⟩
theorem TreeIn.set {w : World} {B b j : Nat} {vn vt x : Value} {T : Tr.Tree} (h : TreeIn w B vn vt T) (hb : b < B) : TreeIn (w.setCell ⟨b, j, none⟩ x) B vn vt T :=
  ⟨own_keep h.nodes fun g hg => Below.heap_setCell _ _ _ _ (by have := (h.nodes.lt g hg).1; simp; omega), own_keep h.types fun g hg => Below.heap_setCell _ _ _ _ (by have := (h.types.lt g hg).1; simp; omega), h.ln, h.lt⟩
theorem TreeIn.mono {w : World} {B B' : Nat} {vn vt : Value} {T : Tr.Tree} (h : TreeIn w B vn vt T) (hb : B' ≤ B) : TreeIn w B' vn vt T := by
  refine ⟨?_, ?_, h.ln, h.lt⟩
  · obtain ⟨h1, h2⟩ := h.nodes
    exact ⟨h1, h2.imp id fun ⟨g, cap, cur, hv, hg, r⟩ => ⟨g, cap, cur, hv, Nat.le_trans hb hg, r⟩⟩
  · obtain ⟨h1, h2⟩ := h.types
    exact ⟨h1, h2.imp id fun ⟨g, cap, cur, hv, hg, r⟩ => ⟨g, cap, cur, hv, Nat.le_trans hb hg, r⟩⟩
theorem nv3 {w : World} {b : Nat} {x0 x1 x2 : Value} {t : TypeId} (h : w.heap[b]? = some (.cells #[x0, x1, x2] t (0, 0))) :
    w.cell? ⟨b, 0, none⟩ = some x0 ∧ w.cell? ⟨b, 1, none⟩ = some x1 ∧ w.cell? ⟨b, 2, none⟩ = some x2 ∧ w.frozen? ⟨b, 0, none⟩ = false ∧ w.frozen? ⟨b, 1, none⟩ = false ∧ w.frozen? ⟨b, 2, none⟩ = false := by
  refine ⟨?_, ?_, ?_, ?_, ?_, ?_⟩ <;> first | (rw [cell_of_row w b _ _ _ _ h]; rfl) | simp [World.frozen?, h]
def ParsePost (T : Tr.Tree) (w : World) (e : Ending) (w' : World) : Prop :=
  ∃ vn vt, e = .returned (.tuple #[.agg #[vn, vt, .int .i64 T.top], .int .i64 0, .int .i64 0]) ∧ TreeIn w' w.heap.size vn vt T ∧ Below w.heap.size w w'
/-- A list of tokens in memory that a parser can be made of. -/
structure ToksIn (w : World) (g cap : Nat) (ts : List Tok) (fin : Tok) : Prop where
  hg : 0 < g
  hf : fin.k = 0
  hl : ts.length ≤ 32768
  hc : ts.length + 1 ≤ cap
  hm : cap ≤ maxLen
  cells : ∃ cs ty, w.heap[g]? = some (.cells cs ty (0, 0)) ∧ ∀ i t, (ts ++ [fin])[i]? = some t → ∀ j, j < 4 → cs[i * 4 + j]? = (tkCells t)[j]?
  names : ∃ ty fr, w.heap[0]? = some (.cells namesV ty fr)
  kn : ∀ t, t ∈ fin :: ts → 0 ≤ t.k ∧ t.k ≤ 4 ∧ (t.n : Int) ≤ 4294967295 ∧ (t.pos : Int) ≤ 32768 ∧ t.text.length ≤ 32768
theorem ToksIn.below {w w' : World} {g cap : Nat} {ts : List Tok} {fin : Tok} (h : ToksIn w g cap ts fin) (hb : Below w.heap.size w w') : ToksIn w' g cap ts fin := by
  obtain ⟨cs, ty, hg, hc⟩ := h.cells
  obtain ⟨ty2, fr2, hn⟩ := h.names
  exact ⟨h.hg, h.hf, h.hl, h.hc, h.hm, ⟨cs, ty, (hb.block _ (lt_heap hg)).trans hg, hc⟩, ⟨ty2, fr2, (hb.block _ (lt_heap hn)).trans hn⟩, h.kn⟩
set_option maxHeartbeats 1000000 in
theorem parse_p {w : World} {g cap f : Nat} {ts : List Tok} {fin : Tok} {T : Tr.Tree} (hf : f ≤ 1000000) (h : ToksIn w g cap ts fin) (hT : parseT f ⟨ts, fin⟩ = some T) :
    Calls Tryz.prog 13 #[.slice (some ⟨g, 0, none⟩) (ts.length + 1) cap] w (ParsePost T w) := by
  unfold parseT at hT
  obtain ⟨⟨xs, s1⟩, h1, h2⟩ := Option.bind_eq_some_iff.1 hT
  obtain ⟨⟨q, s2⟩, h3, h4⟩ := Option.bind_eq_some_iff.1 h2
  injection h4 with h4
  subst h4
  have HT := Lib.hid h; clear h
  have H1 := Lib.hid h1
  have H3 := Lib.hid h3
  clear hT h1 h2 h3
  have hN : ∀ {w}, ToksIn w g cap ts fin → Calls Tryz.prog 25 #[.slice (some ⟨g, 0, none⟩) (ts.length + 1) cap] w _ := fun h => newParser_p h.hg h.hf h.hl h.hc h.hm h.cells h.names h.kn
  go_enter Tryz.func13, Tryz.ntmps13
  go_wp2_with (first | ((with_reducible refine (hN (HT.out.below ((Below.refl _ _).alloc (Nat.le_refl _) _))).mono ?_); rintro e v1 ⟨vt, rfl, hp, hb⟩; rw [World.size_alloc] at hp; have HP := Lib.hid hp; have HB := Lib.hid hb; clear hp hb) | ((with_reducible refine (program_p hf HP.out H1.out H3.out).mono ?_); rintro e v2 ⟨rfl, vn', vt', ht, hb⟩; obtain ⟨an, cn, rfl⟩ := row_slice ht.nodes; obtain ⟨ay, cy, rfl⟩ := row_slice ht.types; have c7 := ht.c7; have c8 := ht.c8; have c9 := ht.c9; obtain ⟨r0, r1, r2, z0, z1, z2⟩ := nv3 ((hb.block _ (by simp)).trans (new_at HB.out)); have HT2 := Lib.hid ht; have HB2 := Lib.hid hb; clear ht hb))
  refine bodyPost_ret (v := .tuple #[.agg #[.slice an s2.nodes.length cn, .slice ay s2.types.length cy, .int .i64 q], .int .i64 0, .int .i64 0]) (by simp [results, Tryz.results13, go_sem, r0, r1, r2] <;> rfl) rfl ⟨_, _, rfl, ?_, ?_⟩
  · have h0 : TreeIn v2 (w.heap.size + 1) (.slice an s2.nodes.length cn) (.slice ay s2.types.length cy) ⟨s2.nodes, s2.types, q⟩ := ⟨HT2.out.nodes, HT2.out.types, HT2.out.ln, HT2.out.lt⟩
    exact (((h0.set (by omega)).set (by omega)).set (by omega)).mono (by omega)
  · exact ((((((Below.refl _ _).alloc (Nat.le_refl _) _).trans (HB.out.mono (by simp))).trans (HB2.out.mono (by simp))).setCell (Nat.le_refl _) _).setCell (Nat.le_refl _) _).setCell (Nat.le_refl _) _
/-- What holds of the listed variables, tree's names too. -/
structure EnvT (w : World) : Prop where
  lex : Env w
  names : ∃ ty fr, w.heap[0]? = some (.cells namesV ty fr)
theorem EnvT.below {w w' : World} {B : Nat} (h : EnvT w) (hb : Below B w w') (hB : 11 ≤ B) : EnvT w' := by
  obtain ⟨ty, fr, hn⟩ := h.names
  exact ⟨h.lex.below hb hB, ty, fr, (hb.block _ (by omega)).trans hn⟩
theorem cellsOf_tk (ts : List Tok) : cellsOf ts = ts.flatMap tkCells := rfl
theorem Pl.mem {l : List UInt8} : ∀ {ts : List Tok} {a : Nat}, Sp.Pl l a ts → l.length ≤ 32768 → (∀ t ∈ ts, t.k ≤ 4) → ∀ t ∈ ts, 0 ≤ t.k ∧ t.k ≤ 4 ∧ (t.n : Int) ≤ 4294967295 ∧ (t.pos : Int) ≤ 32768 ∧ t.text.length ≤ 32768
  | [], _, h, _, _ => by simp [Sp.Pl] at h
  | [t], a, ⟨h1, h2, h3, h4, h5⟩, hl, hk => by
    intro x hx
    obtain rfl : x = t := by simpa using hx
    rw [h1, h2, h3]
    exact ⟨by omega, by omega, by omega, by omega, by simp⟩
  | t :: u :: r, a, ⟨h1, h2, h3, h4, h5, h6, h7⟩, hl, hk => by
    intro x hx
    rcases List.mem_cons.1 hx with rfl | hx
    · exact ⟨by omega, hk x (by simp), by omega, by omega, by omega⟩
    · exact Pl.mem h7 hl (fun t ht => hk t (List.mem_cons_of_mem _ ht)) x hx
end Go.Proofs.YtkgnmlllmihmlaaGreatDoor
