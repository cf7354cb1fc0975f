/-
  The parser's iterators.
-/
import Derived.Test.YtkgnmlllmihmlaaGreatDoorIter
import Derived.Sort.LoopGhostIn
namespace Go.Proofs.YtkgnmlllmihmlaaGreatDoor
open Go.RowKit Sp Tr Go.Shelf
set_option linter.unusedVariables false

section
variable {w0 w : World} {c : PC} {v u : Value} {E : PE} {s s' : S} {L : List (Nat × Obj)}

theorem wide_no (n : Nat) : Fence.wide.depth.isSome = true → 1 ≤ n := fun h => by simp [Fence.wide] at h
theorem in_wide {n m f : Nat} {args : Array Value} {w : World} {R R' : Ending → World → Prop} (h : Calls Tryz.prog f args w R) (hr : ∀ e w', R e w' → R' e w') : Fence.wide.fn f ∧ (Fence.wide.depth.isSome = true → 1 ≤ m) ∧ CallsIn Fence.wide n Tryz.prog f args w R' :=
  ⟨trivial, wide_no _, (callsIn_wide.2 h).mono hr⟩
theorem stsF_len {m : S → Option (Int × S)} (k : Nat) : ∀ (s s' : S) (xs : List Int), stsF k m E s = some (xs, s') → xs.length < k := by
  induction k with
  | zero => intro s s' xs h; simp [stsF] at h
  | succ k ih =>
    intro s s' xs h
    unfold stsF at h
    split at h
    · injection h with h; injection h with h1 h2; subst h1; simp
    · obtain ⟨r, _, h2⟩ := Option.bind_eq_some_iff.1 h
      obtain ⟨⟨q1, q2⟩, h3, h4⟩ := Option.bind_eq_some_iff.1 h2
      injection h4 with h4; injection h4 with h5 h6; subst h5
      have := ih _ _ _ h3
      simp; omega
theorem wholesF_len {m : S → Option (Int × S)} (k : Nat) : ∀ (s s' : S) (xs : List Int), wholesF k m E s = some (xs, s') → xs.length < k := by
  induction k with
  | zero => intro s s' xs h; simp [wholesF] at h
  | succ k ih =>
    intro s s' xs h
    unfold wholesF at h
    split at h
    · obtain ⟨r, _, h2⟩ := Option.bind_eq_some_iff.1 h
      obtain ⟨⟨q1, q2⟩, h3, h4⟩ := Option.bind_eq_some_iff.1 h2
      injection h4 with h4; injection h4 with h5 h6; subst h5
      have := ih _ _ _ h3
      simp; omega
    · injection h with h; injection h with h1 h2; subst h1; simp
theorem statements_iter {k : Nat} {m : S → Option (Int × S)} {xs : List Int} (h0 : Reads c E 140 m) (hk : k ≤ 1000000) (hs : stsF k m E s = some (xs, s')) : IterOK w0 c v u E 129 #[.pointer (some ⟨c.p, 0, none⟩)] #[] s s' xs := by
  intro n l J L W hY hJ hA
  have hlen := stsF_len k s s' xs hs
  have eg : ∀ args w, (callFunc 140 args).run Tryz.prog w = .ok (.enter 140 args) w := enters_of Tryz.func140 (by kernel_rfl) rfl
  have HS := Lib.hid hs; clear hs
  have HA := Lib.hid hA; clear hA
  have HY := Lib.hid hY; clear hY
  have hw : ∀ f, Fence.wide.fn f := fun _ => trivial
  have hd : Fence.wide.depth = none := rfl
  refine callsIn_of_wp Tryz.func129 rfl trivial ?_ rfl
  simp only [Tryz.ntmps129, List.size_toArray, List.length_cons, List.length_nil, Nat.reduceAdd, Nat.reduceSub, Array.replicate_succ, Array.replicate_zero, List.push_toArray, List.append_toArray, List.nil_append, List.cons_append]
  gi_wp2
  gi_loopg [] k (fun g wr => ∃ (pre rest : List Int) (s1 : S) (L1 : List (Nat × Obj)), xs = pre ++ rest ∧ Hid (stsF g m E s1 = some (rest, s')) ∧ Hid (J pre L1) ∧ Hid (At w0 c v u E s1 L1 wr))
  case atStart => exact ⟨[], xs, s, L, rfl, HS, Lib.hid hJ, HA⟩
  case round =>
    clear HA HS hJ
    obtain ⟨pre, rest, s1, L1, rfl, HS, HJ, A0⟩ := hrel
    cases gk with
    | zero => exact absurd HS.out (by simp [stsF])
    | succ g =>
      have hs := HS.out
      unfold stsF at hs
      by_cases hb : isT E s1 [125] = true
      · rw [if_pos hb] at hs
        injection hs with h1
        injection h1 with h2 h3
        subst h2 h3
        have HB := Lib.hid hb; clear hb HS
        gi_wp2_with (gi_at_call 94; refine (callsIn_wide.2 (is_a (Hid.out (by assumption)) HB.out)).mono ?_; rintro e v1 ⟨rfl, ha⟩; have B1 := Lib.hid ha; clear ha)
        go_end0
        exact ⟨⟨_, rfl⟩, L1, by rw [List.append_nil]; exact HJ.out, B1.out⟩
      · rw [if_neg hb] at hs
        obtain ⟨⟨x, s2⟩, h1, h2⟩ := Option.bind_eq_some_iff.1 hs
        obtain ⟨⟨q1, q2⟩, h3, h4⟩ := Option.bind_eq_some_iff.1 h2
        injection h4 with h4
        injection h4 with h5 h6
        subst h5 h6
        have HB := Lib.hid (bfalse hb)
        have H1 := Lib.hid h1
        have H3 := Lib.hid h3
        have hl : pre.length < 1000000 := by simp at hlen; omega
        clear hb HS hs h1 h2 h3
        gi_wp2_with (first | (gi_at_call 94; refine (callsIn_wide.2 (is_a (Hid.out (by assumption)) HB.out)).mono ?_; rintro e v1 ⟨rfl, ha⟩; have B1 := Lib.hid ha; clear ha) | (gi_at_call 139; refine (callsIn_wide.2 (deeper_a h0 eg (Hid.out (by assumption)) H1.out)).mono ?_; rintro e v2 ⟨rfl, ha⟩; have B2 := Lib.hid ha; obtain ⟨fy, tmpsy, asy, boy, hy, hR⟩ := HY.out pre x L1 v2 s2 HJ.out hl ha; clear ha))
        refine hR.mono ?_
        rintro e W2 ⟨rfl, L2, hj, ha⟩
        have B3 := Lib.hid ha
        have HJ2 := Lib.hid hj
        clear ha hj hy
        gi_wp2
        gi_roundg g
        case rel => exact ⟨pre ++ [x], q1, s2, L2, by simp, H3, HJ2, B3⟩
        case measure => omega
theorem wholes_iter {k : Nat} {m : S → Option (Int × S)} {xs : List Int} (h0 : Reads c E 72 m) (hk : k ≤ 1000000) (hs : wholesF k m E s = some (xs, s')) : IterOK w0 c v u E 50 #[.pointer (some ⟨c.p, 0, none⟩)] #[] s s' xs := by
  intro n l J L W hY hJ hA
  have hlen := wholesF_len k s s' xs hs
  have HS := Lib.hid hs; clear hs
  have HA := Lib.hid hA; clear hA
  have HY := Lib.hid hY; clear hY
  have hw : ∀ f, Fence.wide.fn f := fun _ => trivial
  have hd : Fence.wide.depth = none := rfl
  have hmix : Tryz.prog.follows .mixedOrders = true := by kernel_rfl
  refine callsIn_of_wp Tryz.func50 rfl trivial ?_ rfl
  simp only [Tryz.ntmps50, List.size_toArray, List.length_cons, List.length_nil, Nat.reduceAdd, Nat.reduceSub, Array.replicate_succ, Array.replicate_zero, List.push_toArray, List.append_toArray, List.nil_append, List.cons_append]
  gi_wp2
  gi_loopg [] k (fun g wr => ∃ (pre rest : List Int) (s1 : S) (L1 : List (Nat × Obj)), xs = pre ++ rest ∧ Hid (wholesF g m E s1 = some (rest, s')) ∧ Hid (J pre L1) ∧ Hid (At w0 c v u E s1 L1 wr))
  case atStart => exact ⟨[], xs, s, L, rfl, HS, Lib.hid hJ, HA⟩
  case round =>
    clear HA HS hJ
    obtain ⟨pre, rest, s1, L1, rfl, HS, HJ, A0⟩ := hrel
    have A0' := A0.out
    obtain ⟨vn, vt, hP, _⟩ := A0'
    obtain ⟨d0, _, _, _, _, d5, _, _, _, _⟩ := hP.cells
    have htl := hP.tl
    have hrd := hP.rd
    unfold big at hrd
    clear hP
    cases gk with
    | zero => exact absurd HS.out (by simp [wholesF])
    | succ g =>
      have hs := HS.out
      unfold wholesF at hs
      by_cases hb : s1.read < E.toks.length
      · rw [if_pos hb] at hs
        obtain ⟨⟨x, s2⟩, h1, h2⟩ := Option.bind_eq_some_iff.1 hs
        obtain ⟨⟨q1, q2⟩, h3, h4⟩ := Option.bind_eq_some_iff.1 h2
        injection h4 with h4
        injection h4 with h5 h6
        subst h5 h6
        have e1 : decide ((s1.read : Int) < (E.toks.length : Int)) = true := by simpa using hb
        have e2 : (s1.read : Int) < (E.toks.length : Int) := by omega
        have H1 := Lib.hid h1
        have H3 := Lib.hid h3
        have hl : pre.length < 1000000 := by simp at hlen; omega
        clear hb HS hs h1 h2 h3
        have A0d := Lib.hid A0.out.drew
        gi_wp2
        gi_region_with_o (first | (gi_at_call 72; refine (callsIn_wide.2 (h0.a (Hid.out (by assumption)) H1.out)).mono ?_; rintro e v2 ⟨rfl, ha⟩; have B2 := Lib.hid ha; obtain ⟨fy, tmpsy, asy, boy, hy, hR⟩ := HY.out pre x L1 v2 s2 HJ.out hl ha; clear ha) | (refine hR.mono ?_; rintro e W2 ⟨rfl, L2, hj, ha⟩; have B3 := Lib.hid ha; have HJ2 := Lib.hid hj; clear ha hj hy hR))
        all_goals
          gi_wp2
          gi_roundg g
          case rel => exact ⟨pre ++ [x], q1, s2, L2, by simp, H3, HJ2, B3⟩
          case measure => omega
      · rw [if_neg hb] at hs
        injection hs with h1
        injection h1 with h2 h3
        subst h2 h3
        have e1 : decide ((s1.read : Int) < (E.toks.length : Int)) = false := by simpa using hb
        have e2 : decide (s1.read < E.toks.length) = false := by simpa using hb
        have A0d := Lib.hid A0.out.drew
        clear hb HS
        gi_wp2
        refine wpIn_wide.2 ?_
        go_quiet (fail)
        gi_wp2
        go_end0
        exact ⟨⟨_, rfl⟩, L1, by rw [List.append_nil]; exact HJ.out, A0.out.below (drN (Below.refl _ _) _)⟩
end
end Go.Proofs.YtkgnmlllmihmlaaGreatDoor
