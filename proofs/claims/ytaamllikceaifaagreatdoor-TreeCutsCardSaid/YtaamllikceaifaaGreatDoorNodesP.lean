/-
  What is read of a source: for TreeNodes; on lists, of no program.
-/
import Derived.Test.YtaamllikceaifaaGreatDoorFine
import Derived.Test.YtaamllikceaifaaGreatDoorProR
import Derived.Test.YtaamllikceaifaaGreatDoorRead
namespace Go.Proofs.YtaamllikceaifaaGreatDoor
open Go.RowKit Sp Tr Go.Shelf
set_option linter.unusedVariables false

theorem scan_code {l : List UInt8} {p : Nat} {x : Int} (h : Sp.scan l = .error (p, x)) : x ≠ 0 := by
  rw [scan_eq] at h
  split at h
  · injection h with h; injection h with _ h; omega
  · have := scanR_code l l.length 0 0 (p, x) (by omega) (by omega) (by simpa using h)
    simp only at this
    omega
theorem Pl.count {l : List UInt8} : ∀ {ts : List Tok} {a : Nat}, Sp.Pl l a ts → a + ts.length ≤ l.length + 1
  | [], _, h => by simp [Sp.Pl] at h
  | [t], a, ⟨h1, h2, h3, h4, h5⟩ => by simp; omega
  | t :: u :: r, a, ⟨h1, h2, h3, h4, h5, h6, h7⟩ => by
    have h := Pl.count h7
    have : 1 ≤ t.text.length := List.length_pos_iff.2 h5
    simp only [List.length_cons] at h ⊢
    omega
theorem Pl.poss {l : List UInt8} : ∀ {ts : List Tok} {a : Nat}, Sp.Pl l a ts → ∀ t ∈ ts, t.pos ≤ l.length
  | [], _, h => by simp [Sp.Pl] at h
  | [t], a, ⟨h1, h2, h3, h4, h5⟩ => by intro u hu; simp at hu; subst hu; omega
  | t :: u :: r, a, ⟨h1, h2, h3, h4, h5, h6, h7⟩ => by
    intro x hx
    rcases List.mem_cons.1 hx with rfl | hx
    · omega
    · exact Pl.poss h7 x hx
theorem peok_of {l : List UInt8} {ts : List Tok} (hl : l.length ≤ 32768) (h : Sp.scan l = .ok ts) : ∃ E, envOf ts = some E ∧ PEOk E l.length ∧ E.toks.length ≤ l.length := by
  have hp := scan_placed h
  have hc := Pl.count hp
  have hpos := Pl.poss hp
  obtain ⟨t, ht, hk⟩ : ∃ t, ts.getLast? = some t ∧ t.k = 0 := by
    clear hc hpos h
    revert hp
    generalize (0 : Nat) = a
    induction ts generalizing a with
    | nil => intro hp; simp [Sp.Pl] at hp
    | cons t r ih =>
      intro hp
      cases r with
      | nil => exact ⟨t, rfl, hp.1⟩
      | cons u r =>
        obtain ⟨x, hx, hk⟩ := ih _ hp.2.2.2.2.2.2
        exact ⟨x, by rw [List.getLast?_cons_cons]; exact hx, hk⟩
  have hE : envOf ts = some ⟨ts.dropLast, t⟩ := by unfold envOf; rw [ht]; dsimp only; rw [if_pos hk]
  have hd : ts.dropLast.length ≤ l.length := by rw [List.length_dropLast]; omega
  refine ⟨_, hE, ⟨hk, fun s => ?_, by show ts.dropLast.length < big; unfold big; omega⟩, hd⟩
  have hm : nowT ⟨ts.dropLast, t⟩ s ∈ ts := by
    unfold nowT ahd
    rw [List.getD_eq_getElem?_getD]
    cases hq : ts.dropLast[s.read + 0]? with
    | none => exact List.mem_of_getLast? ht
    | some x => exact (List.dropLast_sublist ts).subset (List.mem_of_getElem? hq)
  have := hpos _ hm
  show (0 : Int) ≤ ((nowT ⟨ts.dropLast, t⟩ s).pos : Int) ∧ ((nowT ⟨ts.dropLast, t⟩ s).pos : Int) ≤ l.length
  omega
theorem itemsF_len : ∀ (f : Nat) (T : Tr.Tree) (n : Int) (k : Nat), k ≤ T.nodes.length → k + (itemsF f T n k).length ≤ T.nodes.length
  | 0, T, n, k, h => by simp [itemsF]; omega
  | f + 1, T, n, k, h => by
    unfold itemsF
    split
    · rename_i hc
      have hk : k < T.nodes.length := by simp at hc; exact hc.2
      split
      · simp only [List.length_cons]
        rename_i x hx
        have := itemsF_len f T x.b (k + 1) (by omega)
        omega
      · simpa using h
    · simpa using h
/-- What holds of a tree that is read. -/
structure Nice (P : Int) (T : Tr.Tree) : Prop where
  nodes : ∀ (i : Nat) (x : Nd), T.nodes[i]? = some x → NdOk P T.types.length i x
  first : T.types.take 4 = start0.types
  types : ∀ (i : Nat) (x : Ty), T.types[i]? = some x → 4 ≤ i → x.elem < (i : Int)
  top : -1 ≤ T.top ∧ T.top < (T.nodes.length : Int)
  base : 4 ≤ T.types.length
theorem read_N {s : ByteArray} (hs : s.size ≤ 3000) :
    (∃ T, Nice s.size T ∧ ∀ w, EnvT w → Calls Tryz.prog 9 #[.string s] w (ParsePost T w)) ∨
      (∃ p x : Int, x ≠ 0 ∧ ∀ w, EnvT w → Calls Tryz.prog 9 #[.string s] w fun e w' => e = .returned (.tuple #[.agg #[.slice none 0 0, .slice none 0 0, .int .i64 0], .int .i64 p, .int .i64 x]) ∧ Below w.heap.size w w') := by
  have hm : s.size ≤ maxLen := by unfold maxLen; omega
  have hl : s.data.toList.length = s.size := by rw [Array.length_toList]; rfl
  cases h : Sp.scan s.data.toList with
  | error pe =>
    obtain ⟨p, x⟩ := pe
    exact .inr ⟨p, x, scan_code h, fun w henv => read_err henv hm h (scan_code h)⟩
  | ok ts =>
    obtain ⟨E, hE, hP, hn⟩ := peok_of (by omega) h
    rw [hl] at hP hn
    have hf := program_f (f := 100000) hP (by omega) (by unfold big; omega)
    have hN : programM 100000 E ≠ .out := by intro h0; rw [h0] at hf; exact hf
    have hne : ∀ er s, programM 100000 E = .bad er s → er ≠ 0 := by intro er s h0; rw [h0] at hf; exact hf.1
    have hq := fun w henv => read_q (w := w) (by omega) henv hm h (scan_kinds h) hE hN hne
    cases hr : programM 100000 E with
    | ok q s2 =>
      rw [hr] at hf hq
      obtain ⟨hmv, hq2⟩ := hf
      exact .inl ⟨⟨s2.nodes, s2.types, q⟩, ⟨hmv.st.nodes, hmv.st.first, hmv.st.types, hq2, hmv.st.base⟩, fun w henv => hq w henv⟩
    | bad er s2 =>
      rw [hr] at hf hq
      exact .inr ⟨_, er, hf.1, fun w henv => hq w henv⟩
    | out => exact absurd hr hN
end Go.Proofs.YtaamllikceaifaaGreatDoor
