/-
  What holds of a source of which the last token is taken away; Parse of it.
-/
import Derived.Test.YtaamllikceaifaaGreatDoorCut
import Derived.Test.YtaamllikceaifaaGreatDoorNodesP
import Derived.Test.YtaamllikceaifaaGreatDoorNewc
namespace Go.Proofs.YtaamllikceaifaaGreatDoor
open Go.RowKit Sp Tr Go.Shelf
set_option linter.unusedVariables false

theorem Pl.inner {l : List UInt8} : ∀ {ts : List Tok} {a : Nat}, Sp.Pl l a ts → ∀ t ∈ ts.dropLast, 1 ≤ t.k ∧ t.pos + t.text.length ≤ l.length
  | [], _, h => by simp [Sp.Pl] at h
  | [t], a, h => by intro x hx; simp at hx
  | t :: u :: r, a, ⟨h1, h2, h3, h4, h5, h6, h7⟩ => by
    intro x hx
    rw [List.dropLast_cons_cons] at hx
    rcases List.mem_cons.1 hx with rfl | hx
    · exact ⟨h4, h2⟩
    · exact Pl.inner h7 x hx
theorem program_one {E E' : PE} (C : Tr.Cut E E' 0) (f : Nat) (q : Int) (s : S) : programM f E ≠ .ok q s := by
  intro h
  unfold programM at h
  cases f with
  | zero => cases h
  | succ f =>
    unfold wholesM at h
    rw [if_pos (by rw [C.lenE]; exact Nat.zero_lt_one)] at h
    cases hr : wholeM (f + 1) E start0 with
    | ok a s1 => exact whole_last C rfl a s1 hr
    | bad e s1 => rw [hr] at h; cases h
    | out => rw [hr] at h; cases h
theorem cut_facts {l : List UInt8} {ts : List Tok} {E : PE} (hl : l.length ≤ 3000) (h : Sp.scan l = .ok ts) (hE : envOf ts = some E) (h1 : 1 ≤ E.toks.length) {q : Int} {s2 : S} (hok : programM 100000 E = .ok q s2) :
    ∃ (m : Nat) (t : Tok) (s3 : S), E.toks.length = m + 2 ∧ E.toks[m]? = some t ∧ t.k ≠ 0 ∧ t.pos + t.text.length ≤ 32768 ∧ programM 100000 ⟨E.toks.dropLast, ⟨0, [], 0, t.pos + t.text.length⟩⟩ = .bad 5 s3 := by
  have hp := scan_placed h
  have hc := Pl.count hp
  have hin := Pl.inner hp
  have hpos := Pl.poss hp
  obtain ⟨he, hf⟩ := envOf_eq hE
  have hlen : ts.length = E.toks.length + 1 := by rw [he]; simp
  have hd : ts.dropLast = E.toks := by rw [he]; simp
  rw [hd] at hin
  have htoks : ∀ F : PE, F.toks = E.toks.dropLast → ∃ t, E.toks = F.toks ++ [t] := by
    intro F hF
    rw [hF]
    have hne : E.toks ≠ [] := by intro h0; rw [h0] at h1; simp at h1
    exact ⟨E.toks.getLast hne, (List.dropLast_concat_getLast hne).symm⟩
  have h2 : E.toks.length ≠ 1 := by
    intro h2
    exact program_one (E' := ⟨E.toks.dropLast, ⟨0, [], 0, 0⟩⟩) ⟨htoks _ rfl, by simp [h2], hf, rfl⟩ _ _ _ hok
  obtain ⟨m, hm⟩ : ∃ m, E.toks.length = m + 2 := ⟨E.toks.length - 2, by omega⟩
  obtain ⟨t, ht⟩ : ∃ t, E.toks[m]? = some t := ⟨_, List.getElem?_eq_getElem (by omega)⟩
  obtain ⟨hk, htp⟩ := hin t (List.mem_of_getElem? ht)
  have hC : Tr.Cut E ⟨E.toks.dropLast, ⟨0, [], 0, t.pos + t.text.length⟩⟩ (m + 1) := ⟨htoks _ rfl, by simp [hm], hf, rfl⟩
  have hD := program_cut hC hok
  have hP : PEOk ⟨E.toks.dropLast, ⟨0, [], 0, t.pos + t.text.length⟩⟩ l.length := by
    refine ⟨rfl, fun s => ?_, by show E.toks.dropLast.length < big; rw [List.length_dropLast]; unfold big; omega⟩
    show (0 : Int) ≤ ((nowT ⟨E.toks.dropLast, ⟨0, [], 0, t.pos + t.text.length⟩⟩ s).pos : Int) ∧ ((nowT ⟨E.toks.dropLast, ⟨0, [], 0, t.pos + t.text.length⟩⟩ s).pos : Int) ≤ l.length
    unfold nowT ahd
    rw [List.getD_eq_getElem?_getD]
    cases hq : E.toks.dropLast[s.read + 0]? with
    | none => simp only [Option.getD_none]; omega
    | some x =>
      have := hpos x (by rw [he]; exact List.mem_append_left _ ((List.dropLast_sublist _).subset (List.mem_of_getElem? hq)))
      simp only [Option.getD_some]; omega
  have hF := program_f (f := 100000) hP (by show 5 * E.toks.dropLast.length + 1 ≤ _; rw [List.length_dropLast]; omega) (by unfold big; omega)
  rcases hD with hD | ⟨s3, hD⟩
  · rw [hD] at hF; exact absurd hF (by intro h; exact h)
  · exact ⟨m, t, s3, hm, ht, by omega, by omega, hD⟩
theorem drop_get {l : List Tok} {i : Nat} {x y : Tok} (h : l.dropLast[i]? = some x) : (l ++ [y])[i]? = some x := by
  rw [List.getElem?_dropLast] at h
  split at h
  · rw [List.getElem?_append_left (by omega)]; exact h
  · cases h
set_option maxHeartbeats 1000000 in
theorem parse_c {w : World} {g cap K m : Nat} {E : PE} {t : Tok} {s3 : S} (h : ToksIn w g cap E.toks E.fin) (hK : K = m + 1) (hm : E.toks.length = m + 2) (ht : E.toks[m]? = some t) (hk : t.k ≠ 0) (htp : t.pos + t.text.length ≤ 32768)
    (hB : programM 100000 ⟨E.toks.dropLast, ⟨0, [], 0, t.pos + t.text.length⟩⟩ = .bad 5 s3) :
    Calls Tryz.prog 13 #[.slice (some ⟨g, 0, none⟩) K cap] w fun e w' => ∃ p : Int, e = .returned (.tuple #[.agg #[.slice none 0 0, .slice none 0 0, .int .i64 0], .int .i64 p, .int .i64 5]) ∧ Below w.heap.size w w' := by
  subst hK
  have htd : E.toks.dropLast[m]? = some t := by rw [List.getElem?_dropLast, if_pos (by omega)]; exact ht
  have HT := Lib.hid h; clear h
  have hNp : ∀ {w}, ToksIn w g cap E.toks E.fin → Calls Tryz.prog 25 #[.slice (some ⟨g, 0, none⟩) (m + 1) cap] w _ := fun {w} h => newParser_c (w := w) (ts := E.toks.dropLast) h.hg (by simp [hm]) htd hk (by have := h.hl; simp; omega) (by have := h.hc; simp; omega) h.hm htp
    (by obtain ⟨cs, ty, h1, h2⟩ := h.cells; exact ⟨cs, ty, h1, fun i x hx j hj => h2 i x (drop_get hx) j hj⟩) h.names (fun x hx => h.kn x (List.mem_cons_of_mem _ ((List.dropLast_sublist _).subset hx)))
  have hP := fun {w : World} {c : PC} {vn vt : Value} (h : PIn w c vn vt ⟨E.toks.dropLast, ⟨0, [], 0, t.pos + t.text.length⟩⟩ start0) => program_q (f := 100000) (by omega) h (by unfold programM at hB; rw [hB]; intro h; cases h)
  unfold programM at hB
  rw [hB] at hP
  clear hB
  have e1 : ((5 : Int) != 0) = true := by decide
  have y3 := fld3
  go_enter Tryz.func13, Tryz.ntmps13
  go_wp2_with (first | ((with_reducible refine (hNp (HT.out.below ((Below.refl _ _).alloc (Nat.le_refl _) _))).mono ?_); rintro e v1 ⟨vt, rfl, hp, hb⟩; rw [World.size_alloc] at hp; have HP := Lib.hid hp; have HB := Lib.hid hb; clear hp hb) | ((with_reducible refine (hP HP.out).mono ?_); rintro e v2 ⟨rfl, ⟨vn', vt', ht⟩, hb⟩; have hh2 := (hb.block _ (by simp)).trans (new_at HB.out); obtain ⟨r0, r1, r2, z0, z1, z2⟩ := nv3 hh2; have HH2 := Lib.hid hh2; have HT2 := Lib.hid ht; have HB2 := Lib.hid hb; clear ht hb hh2) | ((with_reducible refine (now_bad HT2.out).mono ?_); rintro e v3 ⟨rfl, hb⟩; have hh3 := (hb.block _ (lt_heap HH2.out)).trans HH2.out; obtain ⟨k0, k1, k2, l0, l1, l2⟩ := nv3 hh3; have hz3 := lt_heap hh3; have HB3 := Lib.hid hb; clear hb hh3))
  refine bodyPost_ret (v := .tuple #[.agg #[.slice none 0 0, .slice none 0 0, .int .i64 0], .int .i64 (here ⟨E.toks.dropLast, ⟨0, [], 0, t.pos + t.text.length⟩⟩ s3), .int .i64 5]) (by simp [results, Tryz.results13, go_sem, here, k0, k1, k2] <;> rfl) rfl ⟨_, rfl, ?_⟩
  exact (((((((Below.refl _ _).alloc (Nat.le_refl _) _).trans (HB.out.mono (by simp))).trans (HB2.out.mono (by simp))).trans (HB3.out.mono (by have := lt_heap HH2.out; omega))).setCell (Nat.le_refl _) _).setCell (Nat.le_refl _) _).setCell (Nat.le_refl _) _
end Go.Proofs.YtaamllikceaifaaGreatDoor
