/-
  The contract of Read.
-/
import Derived.Test.YtkgnmlllmihmlaaGreatDoorRead
namespace Go.Proofs.YtkgnmlllmihmlaaGreatDoor
open Go.RowKit Sp Tr Go.Shelf
set_option linter.unusedVariables false

theorem envOf_eq {l : List Tok} {E : PE} (h : envOf l = some E) : l = E.toks ++ [E.fin] ∧ E.fin.k = 0 := by
  unfold envOf at h
  cases hg : l.getLast? with
  | none => rw [hg] at h; cases h
  | some t =>
    rw [hg] at h
    dsimp only at h
    split at h
    · rename_i hk
      injection h with h
      subst h
      refine ⟨?_, hk⟩
      have hne : l ≠ [] := by rintro rfl; simp at hg
      have := List.dropLast_concat_getLast hne
      rw [List.getLast?_eq_some_getLast hne] at hg
      injection hg with hg
      rw [hg] at this
      exact this.symm
    · cases h
theorem toksIn_of {w : World} {g cap base : Nat} {l : List Tok} {E : PE} {src : List UInt8} (h : Toks g cap base l w) (hb : 0 < base) (hn : ∃ ty fr, w.heap[0]? = some (.cells namesV ty fr)) (hs : Sp.scan src = .ok l) (hk : ∀ t ∈ l, t.k ≤ 4) (hE : envOf l = some E) :
    ToksIn w g cap E.toks E.fin := by
  obtain ⟨he, hf⟩ := envOf_eq hE
  have hsl : src.length ≤ 32768 := by
    unfold Sp.scan at hs
    split at hs
    · cases hs
    · omega
  have hpl := Pl.mem (Sp.scan_placed hs) hsl hk
  have hfew := Sp.scan_few hs
  have hlen : l.length = E.toks.length + 1 := by rw [he]; simp
  obtain ⟨h1, h2⟩ := h.own
  rcases h2 with ⟨e, _⟩ | ⟨g', cap', cur, hv, hge, hh, hle, hcm, hcs, htk⟩
  · cases e
  simp only [Value.slice.injEq, Option.some.injEq, Addr.mk.injEq] at hv
  obtain ⟨⟨rfl, _⟩, _, rfl⟩ := hv
  refine ⟨by omega, hf, by omega, by omega, hcm, ⟨cur, _, hh, fun i t hi j hj => ?_⟩, hn, fun t ht => hpl t ?_⟩
  · rw [← he] at hi
    have hil := (List.getElem?_eq_some_iff.1 hi).1
    have h3 := flat_at tkCells 4 (fun _ => rfl) l i j t hi hj
    rw [← h3, ← cellsOf_tk, ← htk, List.getElem?_take, if_pos (by omega)]
    simp
  · rw [he]
    rcases List.mem_cons.1 ht with rfl | ht
    · simp
    · simp [ht]
set_option maxHeartbeats 1000000 in
theorem read_p {w : World} {s : ByteArray} {f : Nat} {l : List Tok} {E : PE} {T : Tr.Tree} (hf : f ≤ 1000000) (henv : EnvT w) (hs : s.size ≤ maxLen) (hl : Sp.scan s.data.toList = .ok l) (hk : ∀ t ∈ l, t.k ≤ 4) (hE : envOf l = some E) (hT : parseT f E = some T) :
    Calls Tryz.prog 9 #[.string s] w (ParsePost T w) := by
  have hz := henv.lex.sz
  have HE := Lib.hid henv; clear henv
  have hlen : l.length = E.toks.length + 1 := by rw [(envOf_eq hE).1]; simp
  have HL := Lib.hid hl
  have HF := Lib.hid hE
  have HK := Lib.hid hk
  have HTT := Lib.hid hT
  clear hl hE hk hT
  have HA : Hid (EnvT (w.alloc (.cells #[.slice none 0 0, .slice none 0 0, .int .i64 0] 26))) := Lib.hid (HE.out.below ((Below.refl _ _).alloc (Nat.le_refl _) _) hz)
  go_enter Tryz.func9, Tryz.ntmps9
  go_wp2_with (first | ((with_reducible refine (scan_ok s l _ HA.out.lex hs HL.out).mono ?_); rintro e v1 ⟨g, cap, rfl, ht, hb⟩; have hb1 := hb.size; rw [World.size_alloc] at hb1; have HT := Lib.hid (toksIn_of ht (by simp) (HA.out.below hb (by simp; omega)).names HL.out HK.out HF.out); have HB := Lib.hid hb; rw [hlen]; clear ht hb) | ((with_reducible refine (parse_p hf HT.out HTT.out).mono ?_); rintro e v2 ⟨vn', vt', rfl, ht, hb⟩; obtain ⟨an, cn, rfl⟩ := row_slice ht.nodes; obtain ⟨ay, cy, rfl⟩ := row_slice ht.types; obtain ⟨r0, r1, r2, z0, z1, z2⟩ := nv3 ((hb.block _ (by omega)).trans (new_at HB.out)); have HT2 := Lib.hid ht; have HB2 := Lib.hid hb; clear ht hb))
  refine bodyPost_ret (v := .tuple #[.agg #[.slice an T.nodes.length cn, .slice ay T.types.length cy, .int .i64 T.top], .int .i64 0, .int .i64 0]) (by simp [results, Tryz.results9, go_sem, r0, r1, r2] <;> rfl) rfl ⟨_, _, rfl, ?_, ?_⟩
  · exact (((HT2.out.set (by omega)).set (by omega)).set (by omega)).mono (by omega)
  · exact ((((((Below.refl _ _).alloc (Nat.le_refl _) _).trans (HB.out.mono (by simp))).trans (HB2.out.mono (by omega))).setCell (Nat.le_refl _) _).setCell (Nat.le_refl _) _).setCell (Nat.le_refl _) _
end Go.Proofs.YtkgnmlllmihmlaaGreatDoor
