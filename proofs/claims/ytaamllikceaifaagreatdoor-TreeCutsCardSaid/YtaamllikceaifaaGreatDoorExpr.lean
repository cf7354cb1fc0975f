/-
  Contracts of the parser's methods on expressions.
-/
import Derived.Test.YtaamllikceaifaaGreatDoorTake
import Derived.Shelf.Abstract
namespace Go.Proofs.YtaamllikceaifaaGreatDoor
open Go.RowKit Sp Tr
set_option linter.unusedVariables false

set_option maxHeartbeats 8000000 in
theorem strength_any (o : List UInt8) (w : World) : Calls Tryz.prog 79 #[.string (bt o)] w (RPost (.int .i64 (strength o)) w) := by
  go_enter Tryz.func79, Tryz.ntmps79
  go_wp2
  all_goals (go_ret; exact ⟨ret_int (by unfold strength; simp_all), Below.refl _ _⟩)
theorem assigns_any (o : List UInt8) (w : World) : Calls Tryz.prog 151 #[.string (bt o)] w (RPost (.bool (assignsL.contains o)) w) := by
  go_enter Tryz.func151, Tryz.ntmps151
  go_wp2
  all_goals (go_ret; exact ⟨ret_bool (by unfold assignsL; simp_all), Below.refl _ _⟩)
theorem strength_le (o : List UInt8) : 0 ≤ strength o ∧ strength o ≤ 11 := by unfold strength; repeat' split; all_goals omega
theorem strength_a {w0 w : World} {c : PC} {v u : Value} {E : PE} {s : S} {L : List (Nat × Obj)} {o : List UInt8} {k : Int} (h : At w0 c v u E s L w) (hk : strength o = k) :
    Calls Tryz.prog 79 #[.string (bt o)] w (Ans w0 c v u E s L (.int .i64 k)) := h.quiet fun _ _ _ => hk ▸ strength_any o w
theorem assigns_a {w0 w : World} {c : PC} {v u : Value} {E : PE} {s : S} {L : List (Nat × Obj)} {o : List UInt8} {b : Bool} (h : At w0 c v u E s L w) (hk : assignsL.contains o = b) :
    Calls Tryz.prog 151 #[.string (bt o)] w (Ans w0 c v u E s L (.bool b)) := h.quiet fun _ _ _ => hk ▸ assigns_any o w
/-- binary, as what reads on. -/
def ReadsB (c : PC) (E : PE) (l : Int) (m : S → Option (Int × S)) : Prop :=
  ∀ w1 vn1 vt1 s r s1, m s = some (r, s1) → PIn w1 c vn1 vt1 E s → Calls Tryz.prog 154 #[.pointer (some ⟨c.p, 0, none⟩), .int .i64 l] w1 (Post c vn1 vt1 E (.int .i64 r) s1 w1)
theorem ReadsB.a {w0 w : World} {c : PC} {v u : Value} {E : PE} {s s' : S} {L : List (Nat × Obj)} {l : Int} {m : S → Option (Int × S)} {r : Int} (hm : ReadsB c E l m) (h : At w0 c v u E s L w) (hs : m s = some (r, s')) :
    Calls Tryz.prog 154 #[.pointer (some ⟨c.p, 0, none⟩), .int .i64 l] w (Ans w0 c v u E s' L (.int .i64 r)) := h.lift fun _ _ h => hm _ _ _ _ _ _ hs h
abbrev ndO (n : Nd) : Obj := .cells #[.int .i64 n.kind, .int .i64 n.a, .int .i64 n.b, .int .i64 n.c, .int .i64 n.d, .string (bt n.text), .int .i64 n.n, .int .i64 n.ty, .int .i64 n.pos] 33
variable {c : PC} {E : PE} {rec : NT → S → Option (Int × S)}

theorem ex_p (h0 : Reads c E 150 (rec .ch)) : Reads c E 148 (exF rec E) := by
  intro w vn vt s r s' hs h
  have A0 := Lib.hid (At.start h); clear h
  unfold exF at hs
  obtain ⟨⟨q, s1⟩, h1, h2⟩ := Option.bind_eq_some_iff.1 hs
  dsimp only at h2
  by_cases hb : assignsL.contains (sgn E s1) = true
  case pos => rw [if_pos hb] at h2; cases h2
  rw [if_neg hb] at h2
  injection h2 with h3
  injection h3 with h4 h5
  subst h4 h5
  have H1 := Lib.hid h1
  have HB := Lib.hid (bfalse hb)
  clear hs h1 hb
  go_enter Tryz.func148, Tryz.ntmps148
  go_wp2_with (first | ((with_reducible refine (h0.a (Hid.out (by assumption)) H1.out).mono ?_); rintro e v1 ⟨rfl, ha⟩; have B1 := Lib.hid ha; clear ha) | ((with_reducible refine (sign_a (Hid.out (by assumption)) rfl).mono ?_); rintro e v2 ⟨rfl, ha⟩; have B2 := Lib.hid ha; clear ha) | ((with_reducible refine (assigns_a (Hid.out (by assumption)) HB.out).mono ?_); rintro e v3 ⟨rfl, ha⟩; have B3 := Lib.hid ha; clear ha))
  go_ret
  exact B3.out.done rfl
theorem ch_p (h0 : ReadsB c E 2 (rec (.bi 2))) : Reads c E 150 (chF rec E) := by
  intro w vn vt s r s' hs h
  have A0 := Lib.hid (At.start h); clear h
  unfold chF at hs
  obtain ⟨⟨q, s1⟩, h1, h2⟩ := Option.bind_eq_some_iff.1 hs
  dsimp only at h2
  by_cases hb : isT E s1 [63] = true
  case pos => rw [if_pos hb] at h2; cases h2
  rw [if_neg hb] at h2
  injection h2 with h3
  injection h3 with h4 h5
  subst h4 h5
  have H1 := Lib.hid h1
  have HB := Lib.hid (bfalse hb)
  clear hs h1 hb
  go_enter Tryz.func150, Tryz.ntmps150
  go_wp2_with (first | ((with_reducible refine (h0.a (Hid.out (by assumption)) H1.out).mono ?_); rintro e v1 ⟨rfl, ha⟩; have B1 := Lib.hid ha; clear ha) | ((with_reducible refine (is_a (Hid.out (by assumption)) HB.out).mono ?_); rintro e v2 ⟨rfl, ha⟩; have B2 := Lib.hid ha; clear ha))
  go_ret
  exact B2.out.done rfl
theorem bracket_p (h0 : Reads c E 148 (rec .ex)) : Reads c E 144 (bracketF rec E) := by
  intro w vn vt s r s' hs h
  have A0 := Lib.hid (At.start h); clear h
  unfold bracketF at hs
  obtain ⟨s1, h1, h2⟩ := Option.bind_eq_some_iff.1 hs
  obtain ⟨⟨q, s2⟩, h3, h4⟩ := Option.bind_eq_some_iff.1 h2
  obtain ⟨s3, h5, h6⟩ := Option.bind_eq_some_iff.1 h4
  injection h6 with h6
  injection h6 with h7 h8
  subst h7 h8
  have H1 := Lib.hid h1
  have H3 := Lib.hid h3
  have H5 := Lib.hid h5
  clear hs h1 h2 h3 h4 h5
  have eg : ∀ args w, (callFunc 148 args).run Tryz.prog w = .ok (.enter 148 args) w := enters_of Tryz.func148 (by kernel_rfl) rfl
  go_enter Tryz.func144, Tryz.ntmps144
  go_wp2_with (first | ((with_reducible refine (need_a (Hid.out (by assumption)) H1.out).mono ?_); rintro e v1 ⟨rfl, ha⟩; have B1 := Lib.hid ha; clear ha) | ((with_reducible refine (deeper_a h0 eg (Hid.out (by assumption)) H3.out).mono ?_); rintro e v2 ⟨rfl, ha⟩; have B2 := Lib.hid ha; clear ha) | ((with_reducible refine (need_a (Hid.out (by assumption)) H5.out).mono ?_); rintro e v3 ⟨rfl, ha⟩; have B3 := Lib.hid ha; clear ha))
  go_ret
  exact B3.out.done rfl
theorem prim_p (h0 : Reads c E 144 (bracketF rec E)) : Reads c E 159 (primF rec E) := by
  intro w vn vt s r s' hs h
  have A0 := Lib.hid (At.start h); clear h
  unfold primF at hs
  obtain ⟨n, hn⟩ : ∃ n, nodeAt E s 1 = n := ⟨_, rfl⟩
  have HN := Lib.hid hn; clear hn
  by_cases hb : isT E s [40] = true
  · rw [if_pos hb] at hs
    have H1 := Lib.hid hs
    have HB := Lib.hid hb
    clear hs hb
    go_enter Tryz.func159, Tryz.ntmps159
    go_wp2_with (first | ((with_reducible refine (node_a (Hid.out (by assumption)) HN.out).mono ?_); rintro e v1 ⟨rfl, ha⟩; have B1 := Lib.hid ha; have C1 := Lib.hid (ha.alloc (ndO n)); dsimp only [ndV]; clear ha) | ((with_reducible refine (is_a (Hid.out (by assumption)) HB.out).mono ?_); rintro e v2 ⟨rfl, ha⟩; have B2 := Lib.hid ha; clear ha) | ((with_reducible refine (h0.a (Hid.out (by assumption)) H1.out).mono ?_); rintro e v3 ⟨rfl, ha⟩; have B3 := Lib.hid ha; clear ha))
    go_ret
    exact B3.out.done rfl
  · rw [if_neg hb] at hs
    obtain ⟨⟨tk, s1⟩, h1, h2⟩ := Option.bind_eq_some_iff.1 hs
    have h2' : addT { n with n := tk.n } s1 = some (r, s') := by rw [← HN.out]; exact h2
    have e3 : (nowT E s).k = 3 := by
      unfold kindT at h1
      by_cases hk : (nowT E s).k = 3
      · exact hk
      · rw [if_neg hk] at h1; cases h1
    obtain ⟨tn, htn⟩ : ∃ tn, nowT E s = tn := ⟨_, rfl⟩
    rw [htn] at e3
    have y0 := fld0
    have q3 : (tn.k == 3) = true := by simp [e3]
    have H1 := Lib.hid h1
    have H2 := Lib.hid h2'
    have HT := Lib.hid htn
    have HB := Lib.hid (bfalse hb)
    clear hs hb h1 h2 h2' htn e3
    go_enter Tryz.func159, Tryz.ntmps159
    go_wp2_with (first | ((with_reducible refine (node_a (Hid.out (by assumption)) HN.out).mono ?_); rintro e v1 ⟨rfl, ha⟩; have B1 := Lib.hid ha; have C1 := Lib.hid (ha.alloc (ndO n)); dsimp only [ndV]; clear ha) | ((with_reducible refine (is_a (Hid.out (by assumption)) HB.out).mono ?_); rintro e v2 ⟨rfl, ha⟩; have B2 := Lib.hid ha; clear ha) | ((with_reducible refine (now_a (Hid.out (by assumption)) HT.out).mono ?_); rintro e v3 ⟨rfl, ha⟩; have B3 := Lib.hid ha; clear ha) | ((with_reducible refine (number_a (Hid.out (by assumption)) H1.out).mono ?_); rintro e v4 ⟨rfl, ha⟩; have B4 := Lib.hid ha; obtain ⟨f0, f1, f2, f3, f4, f5, f6, f7, f8, g0, g1, g2, g3, g4, g5, g6, g7, g8⟩ := nv9 ha.loc; have C4 := Lib.hid (ha.set 6 (.int .i64 tk.n)); clear ha) | ((with_reducible refine (add_a (nd := { n with n := tk.n }) (Hid.out (by assumption)) H2.out).mono ?_); rintro e v5 ⟨rfl, ha⟩; have B5 := Lib.hid ha; clear ha))
    go_ret
    exact B5.out.done rfl
theorem post_p (h0 : Reads c E 159 (primF rec E)) : Reads c E 158 (postF rec E) := by
  intro w vn vt s r s' hs h
  have A0 := Lib.hid (At.start h); clear h
  unfold postF at hs
  obtain ⟨⟨q, s1⟩, h1, h2⟩ := Option.bind_eq_some_iff.1 hs
  dsimp only at h2
  by_cases hb : behinds.contains (sgn E s1) = true
  case pos => rw [if_pos hb] at h2; cases h2
  rw [if_neg hb] at h2
  injection h2 with h3
  injection h3 with h4 h5
  subst h4 h5
  obtain ⟨n, hn⟩ : ∃ n, nodeAt E s1 8 = n := ⟨_, rfl⟩
  obtain ⟨o, ho⟩ : ∃ o, sgn E s1 = o := ⟨_, rfl⟩
  rw [ho] at hb
  have hb' := bfalse hb
  unfold behinds at hb'
  simp at hb'
  obtain ⟨b0, b1, b2, b3, b4⟩ := hb'
  have H1 := Lib.hid h1
  have HN := Lib.hid hn
  have HO := Lib.hid ho
  have e0 : (o == [91]) = false := by simpa using b0
  have e1 : (o == [46]) = false := by simpa using b1
  have e2 : (o == [45, 62]) = false := by simpa using b2
  have e3 : (o == [43, 43]) = false := by simpa using b3
  have e4 : (o == [45, 45]) = false := by simpa using b4
  clear hs h1 hn ho hb b0 b1 b2 b3 b4
  go_enter Tryz.func158, Tryz.ntmps158
  go_wp2_with ((with_reducible refine (h0.a (Hid.out (by assumption)) H1.out).mono ?_); rintro e v1 ⟨rfl, ha⟩; have B1 := Lib.hid ha; clear ha)
  refine wp_loop_rounds 1 ?_
  rw [rounds_succ]
  go_wp2_with (first | ((with_reducible refine (node_a (Hid.out (by assumption)) HN.out).mono ?_); rintro e v2 ⟨rfl, ha⟩; have B2 := Lib.hid ha; have D1 := Lib.hid (ha.alloc (ndO ⟨n.kind, q, n.b, n.c, n.d, n.text, n.n, n.ty, n.pos⟩)); dsimp only [ndV]; clear ha) | ((with_reducible refine (sign_a (Hid.out (by assumption)) HO.out).mono ?_); rintro e v3 ⟨rfl, ha⟩; have B3 := Lib.hid ha; clear ha))
  go_ret
  exact B3.out.done rfl
theorem pr_p (h0 : Reads c E 158 (postF rec E)) : Reads c E 156 (prF rec E) := by
  intro w vn vt s r s' hs h
  have A0 := Lib.hid (At.start h); clear h
  unfold prF at hs
  by_cases hz : isT E s wSizeof = true
  case pos => rw [if_pos hz] at hs; cases hs
  rw [if_neg hz] at hs
  by_cases hb : fronts.contains (sgn E s) = true
  case pos => rw [if_pos hb] at hs; cases hs
  rw [if_neg hb] at hs
  obtain ⟨n, hn⟩ : ∃ n, nodeAt E s 3 = n := ⟨_, rfl⟩
  obtain ⟨o, ho⟩ : ∃ o, sgn E s = o := ⟨_, rfl⟩
  obtain ⟨tk, htk⟩ : ∃ tk, ahd E s 1 = tk := ⟨_, rfl⟩
  rw [ho] at hb hs
  rw [htk] at hs
  have hb' := bfalse hb
  unfold fronts at hb'
  simp at hb'
  obtain ⟨b0, b1, b2, b3, b4, b5, b6⟩ := hb'
  have e0 : (o == [45]) = false := by simpa using b0
  have e1 : (o == [33]) = false := by simpa using b1
  have e2 : (o == [126]) = false := by simpa using b2
  have e3 : (o == [42]) = false := by simpa using b3
  have e4 : (o == [38]) = false := by simpa using b4
  have e5 : (o == [43, 43]) = false := by simpa using b5
  have e6 : (o == [45, 45]) = false := by simpa using b6
  have HZ := Lib.hid (bfalse hz)
  have HN := Lib.hid hn
  have HO := Lib.hid ho
  have HK := Lib.hid htk
  clear hn ho hb b0 b1 b2 b3 b4 b5 b6 htk hz
  by_cases hp : o = [40]
  · by_cases hk : tk.k = 2
    case pos => rw [if_pos ⟨hp, hk⟩] at hs; cases hs
    rw [if_neg (fun e => hk e.2)] at hs
    have HS := Lib.hid hs
    have HKK := Lib.hid hk
    have e7 : (o == [40]) = true := by simp [hp]
    clear hs hk hp
    go_enter Tryz.func156, Tryz.ntmps156
    go_wp2_with (first | ((with_reducible refine (is_a (Hid.out (by assumption)) HZ.out).mono ?_); rintro e v1 ⟨rfl, ha⟩; have B1 := Lib.hid ha; clear ha) | ((with_reducible refine (node_a (Hid.out (by assumption)) HN.out).mono ?_); rintro e v2 ⟨rfl, ha⟩; have B2 := Lib.hid ha; have C1 := Lib.hid (ha.alloc (ndO n)); dsimp only [ndV]; clear ha) | ((with_reducible refine (sign_a (Hid.out (by assumption)) HO.out).mono ?_); rintro e v3 ⟨rfl, ha⟩; have B3 := Lib.hid ha; clear ha) | ((with_reducible refine (ahead1_a (Hid.out (by assumption)) HK.out).mono ?_); rintro e v4 ⟨rfl, ha⟩; have B4 := Lib.hid ha; clear ha) | ((with_reducible refine (begins_a (Hid.out (by assumption)) HKK.out).mono ?_); rintro e v5 ⟨rfl, ha⟩; have B5 := Lib.hid ha; clear ha) | ((with_reducible refine (h0.a (Hid.out (by assumption)) HS.out).mono ?_); rintro e v6 ⟨rfl, ha⟩; have B6 := Lib.hid ha; clear ha))
    go_ret
    exact B6.out.done rfl
  · rw [if_neg (fun e => hp e.1)] at hs
    have HS := Lib.hid hs
    have e7 : (o == [40]) = false := by simpa using hp
    clear hs hp
    go_enter Tryz.func156, Tryz.ntmps156
    go_wp2_with (first | ((with_reducible refine (is_a (Hid.out (by assumption)) HZ.out).mono ?_); rintro e v1 ⟨rfl, ha⟩; have B1 := Lib.hid ha; clear ha) | ((with_reducible refine (node_a (Hid.out (by assumption)) HN.out).mono ?_); rintro e v2 ⟨rfl, ha⟩; have B2 := Lib.hid ha; have C1 := Lib.hid (ha.alloc (ndO n)); dsimp only [ndV]; clear ha) | ((with_reducible refine (sign_a (Hid.out (by assumption)) HO.out).mono ?_); rintro e v3 ⟨rfl, ha⟩; have B3 := Lib.hid ha; clear ha) | ((with_reducible refine (h0.a (Hid.out (by assumption)) HS.out).mono ?_); rintro e v6 ⟨rfl, ha⟩; have B6 := Lib.hid ha; clear ha))
    go_ret
    exact B6.out.done rfl
set_option maxHeartbeats 1000000 in
theorem bi_p {f : Nat} {l : Int} (h0 : Reads c E 156 (rec .pr)) (hbi : ∀ l, ReadsB c E l (rec (.bi l))) : ReadsB c E l (biF f rec E l) := by
  intro w vn vt s r s' hs h
  have A0 := Lib.hid (At.start h); clear h
  unfold biF at hs
  obtain ⟨⟨q, s1⟩, h1, h2⟩ := Option.bind_eq_some_iff.1 hs
  have H1 := Lib.hid h1
  have H2 := Lib.hid h2
  clear hs h1 h2
  go_enter Tryz.func154, Tryz.ntmps154
  go_wp2_with ((with_reducible refine (h0.a (Hid.out (by assumption)) H1.out).mono ?_); rintro e v1 ⟨rfl, ha⟩; have B1 := Lib.hid ha; clear ha)
  go_loopg [5] f (fun g o wr => ∃ (q : Int) (s1 : S), o = .int .i64 q ∧ Hid (biL g rec E l q s1 = some (r, s')) ∧ Hid (At w c vn vt E s1 [] wr))
  case atStart => exact ⟨q, s1, rfl, H2, B1⟩
  case round =>
    clear B1 H1 H2
    obtain ⟨q, s1, rfl, HS, B1⟩ := hrel
    cases gk with
    | zero => exact absurd HS.out (by simp [biL])
    | succ g =>
      have hs := HS.out
      unfold biL at hs
      obtain ⟨k, hk⟩ : ∃ k, strength (sgn E s1) = k := ⟨_, rfl⟩
      have hk1 := strength_le (sgn E s1)
      rw [hk] at hs hk1
      obtain ⟨hk0, hk11⟩ := hk1
      have HK := Lib.hid hk; clear hk
      by_cases hl : k < l
      · rw [if_pos hl] at hs
        injection hs with h3
        injection h3 with h4 h5
        subst h4 h5
        clear HS
        go_wp2_with (first | ((with_reducible refine (sign_a (Hid.out (by assumption)) rfl).mono ?_); rintro e v2 ⟨rfl, ha⟩; have B2 := Lib.hid ha; clear ha) | ((with_reducible refine (strength_a (Hid.out (by assumption)) HK.out).mono ?_); rintro e v3 ⟨rfl, ha⟩; have B3 := Lib.hid ha; clear ha))
        go_ret
        exact B3.out.done rfl
      · rw [if_neg hl] at hs
        obtain ⟨s2, h2, h3⟩ := Option.bind_eq_some_iff.1 hs
        obtain ⟨⟨q2, s3⟩, h4, h5⟩ := Option.bind_eq_some_iff.1 h3
        obtain ⟨⟨q3, s4⟩, h6, h7⟩ := Option.bind_eq_some_iff.1 h5
        obtain ⟨n, hn⟩ : ∃ n, nodeAt E s1 4 = n := ⟨_, rfl⟩
        obtain ⟨tk, htk⟩ : ∃ tk, nowT E s1 = tk := ⟨_, rfl⟩
        rw [hn, htk] at h6
        have H2 := Lib.hid h2
        have H4 := Lib.hid h4
        have H6 := Lib.hid h6
        have H7 := Lib.hid h7
        have HN := Lib.hid hn
        have HT := Lib.hid htk
        have y1 := fld1
        clear hs h2 h3 h4 h5 h6 h7 hn htk HS
        go_wp2_with (first | ((with_reducible refine (sign_a (Hid.out (by assumption)) rfl).mono ?_); rintro e v2 ⟨rfl, ha⟩; have B2 := Lib.hid ha; clear ha) | ((with_reducible refine (strength_a (Hid.out (by assumption)) HK.out).mono ?_); rintro e v3 ⟨rfl, ha⟩; have B3 := Lib.hid ha; clear ha) | ((with_reducible refine (node_a (Hid.out (by assumption)) HN.out).mono ?_); rintro e v4 ⟨rfl, ha⟩; have B4 := Lib.hid ha; have C1 := Lib.hid (ha.alloc (ndO n)); dsimp only [ndV]; clear ha) | ((with_reducible refine (take_a (Hid.out (by assumption)) HT.out H2.out).mono ?_); rintro e v5 ⟨rfl, ha⟩; have B5 := Lib.hid ha; obtain ⟨f0, f1, f2, f3, f4, f5, f6, f7, f8, g0, g1, g2, g3, g4, g5, g6, g7, g8⟩ := nv9 ha.loc; have D1 := Lib.hid (ha.set 5 (.string (bt tk.text))); clear ha) | ((with_reducible refine ((hbi _).a (Hid.out (by assumption)) H4.out).mono ?_); rintro e v6 ⟨rfl, ha⟩; have B6 := Lib.hid ha; obtain ⟨f0, f1, f2, f3, f4, f5, f6, f7, f8, g0, g1, g2, g3, g4, g5, g6, g7, g8⟩ := nv9 ha.loc; have D2 := Lib.hid ((ha.set 1 (.int .i64 q)).set 2 (.int .i64 q2)); clear ha) | ((with_reducible refine (add_a (nd := { n with text := tk.text, a := q, b := q2 }) (Hid.out (by assumption)) H6.out).mono ?_); rintro e v7 ⟨rfl, ha⟩; have B7 := Lib.hid ha; clear ha))
        go_roundg g
        case rel => exact ⟨q3, s4, rfl, H7, Lib.hid B7.out.drop⟩
        case measure => omega
theorem go_ok (c : PC) (E : PE) : ∀ f, Reads c E 148 (go f E .ex) ∧ Reads c E 150 (go f E .ch) ∧ (∀ l, ReadsB c E l (go f E (.bi l))) ∧ Reads c E 156 (go f E .pr)
  | 0 => ⟨fun _ _ _ _ _ _ h => by simp [go] at h, fun _ _ _ _ _ _ h => by simp [go] at h, fun _ _ _ _ _ _ _ h => by simp [go] at h, fun _ _ _ _ _ _ h => by simp [go] at h⟩
  | f + 1 => by
    obtain ⟨h1, h2, h3, h4⟩ := go_ok c E f
    exact ⟨ex_p h2, ch_p (h3 2), fun l => bi_p h4 h3, pr_p (post_p (prim_p (bracket_p h1)))⟩
end Go.Proofs.YtaamllikceaifaaGreatDoor
