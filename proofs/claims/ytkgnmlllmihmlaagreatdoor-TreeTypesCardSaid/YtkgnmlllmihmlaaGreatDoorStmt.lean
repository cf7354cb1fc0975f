/-
  Contracts of simple, statement and block.
-/
import Derived.Test.YtkgnmlllmihmlaaGreatDoorList
namespace Go.Proofs.YtkgnmlllmihmlaaGreatDoor
open Go.RowKit Sp Tr
set_option linter.unusedVariables false

abbrev ndZ : Nd := ⟨0, 0, 0, 0, 0, [], 0, 0, 0⟩
theorem At.set9 {w0 w : World} {c : PC} {v u : Value} {E : PE} {s : S} {L : List (Nat × Obj)} {b : Nat} {cs : Array Value} {t : TypeId} {fr : Nat × Nat} {x0 x1 x2 x3 x4 x5 x6 x7 x8 : Value} (h : At w0 c v u E s ((b, .cells cs t fr) :: L) w) :
    ∃ L', At w0 c v u E s L' (((((((((w.setCell ⟨b, 0, none⟩ x0).setCell ⟨b, 1, none⟩ x1).setCell ⟨b, 2, none⟩ x2).setCell ⟨b, 3, none⟩ x3).setCell ⟨b, 4, none⟩ x4).setCell ⟨b, 5, none⟩ x5).setCell ⟨b, 6, none⟩ x6).setCell ⟨b, 7, none⟩ x7).setCell ⟨b, 8, none⟩ x8) :=
  ⟨_, ((((((((h.set 0 x0).set 1 x1).set 2 x2).set 3 x3).set 4 x4).set 5 x5).set 6 x6).set 7 x7).set 8 x8⟩
theorem At.setN {w0 w : World} {c : PC} {v u : Value} {E : PE} {s : S} {L : List (Nat × Obj)} {b : Nat} {t : TypeId} {fr : Nat × Nat} {y0 y1 y2 y3 y4 y5 y6 y7 y8 : Value} (x0 x1 x2 x3 x4 x5 x6 x7 x8 : Value) (h : At w0 c v u E s ((b, .cells #[y0, y1, y2, y3, y4, y5, y6, y7, y8] t fr) :: L) w) :
    At w0 c v u E s ((b, .cells #[x0, x1, x2, x3, x4, x5, x6, x7, x8] t fr) :: L) (((((((((w.setCell ⟨b, 0, none⟩ x0).setCell ⟨b, 1, none⟩ x1).setCell ⟨b, 2, none⟩ x2).setCell ⟨b, 3, none⟩ x3).setCell ⟨b, 4, none⟩ x4).setCell ⟨b, 5, none⟩ x5).setCell ⟨b, 6, none⟩ x6).setCell ⟨b, 7, none⟩ x7).setCell ⟨b, 8, none⟩ x8) := by
  have := ((((((((h.set 0 x0).set 1 x1).set 2 x2).set 3 x3).set 4 x4).set 5 x5).set 6 x6).set 7 x7).set 8 x8
  simpa using this
variable {c : PC} {E : PE}
set_option maxHeartbeats 1000000 in
theorem simple_p {w : World} {vn vt : Value} {f : Nat} {s s' : S} {n n' : Nd} (h : PIn w c vn vt E s) (hs : simpF f E n s = some (n', s')) :
    Calls Tryz.prog 147 #[.pointer (some ⟨c.p, 0, none⟩), ndV n] w (Post c vn vt E (ndV n') s' w) := by
  have A0 := Lib.hid (At.start h)
  have A1 : Hid (At w c vn vt E s [(w.heap.size, ndO n), (w.heap.size + 1, ndO ndZ)] ((w.alloc (ndO n)).alloc (ndO ndZ))) := by
    have := (A0.out.alloc (ndO n)).alloc (ndO ndZ)
    rw [World.size_alloc] at this
    exact Lib.hid (this.perm (List.Perm.swap ..))
  clear h
  unfold simpF at hs
  dsimp only [ndV]
  by_cases hb : isT E s [59] = true
  · rw [if_pos hb] at hs
    injection hs with h1
    injection h1 with h2 h3
    subst h2 h3
    have HB := Lib.hid hb
    clear hb
    go_enter Tryz.func147, Tryz.ntmps147
    go_wp2_with ((with_reducible refine (is_a (Hid.out (by assumption)) HB.out).mono ?_); rintro e v1 ⟨rfl, ha⟩; have B1 := Lib.hid ha; obtain ⟨f0, f1, f2, f3, f4, f5, f6, f7, f8, g0, g1, g2, g3, g4, g5, g6, g7, g8⟩ := nv9 ha.loc; obtain ⟨k0, k1, k2, k3, k4, k5, k6, k7, k8, m0, m1, m2, m3, m4, m5, m6, m7, m8⟩ := nv9 (ha.perm (List.Perm.swap ..)).loc; clear ha)
    obtain ⟨L9, hL9⟩ := ((B1.out.set 0 (.int .i64 44)).perm (List.Perm.swap ..)).set9 (x0 := .int .i64 44) (x1 := .int .i64 n.a) (x2 := .int .i64 n.b) (x3 := .int .i64 n.c) (x4 := .int .i64 n.d) (x5 := .string (bt n.text)) (x6 := .int .i64 n.n) (x7 := .int .i64 n.ty) (x8 := .int .i64 n.pos)
    exact bodyPost_ret (v := ndV { n with kind := 44 }) (by simp [results, Tryz.results147, go_sem, k0, k1, k2, k3, k4, k5, k6, k7, k8] <;> rfl) rfl (hL9.done rfl)
  · rw [if_neg hb] at hs
    by_cases hw : siWords.any (isT E s) = true
    case pos => rw [if_pos hw] at hs; cases hs
    rw [if_neg hw] at hs
    simp only [siWords, List.any_cons, List.any_nil, Bool.or_false, Bool.or_eq_true, not_or] at hw
    obtain ⟨x0, x1, x2⟩ := hw
    obtain ⟨s1, h1, h2⟩ := Option.bind_eq_some_iff.1 hs
    have hr : isT E s wReturn = true ∧ takeT s = some s1 := by
      unfold needT at h1
      by_cases hx : isT E s wReturn = true
      · rw [if_pos hx] at h1; exact ⟨hx, h1⟩
      · rw [if_neg hx] at h1; cases h1
    by_cases hc : isT E s1 [59] = true
    case pos => rw [if_pos hc] at h2; cases h2
    rw [if_neg hc] at h2
    obtain ⟨⟨q, s2⟩, h3, h4⟩ := Option.bind_eq_some_iff.1 h2
    injection h4 with h4
    injection h4 with h5 h6
    subst h5 h6
    have HB := Lib.hid (bfalse hb)
    have X0 := Lib.hid (bfalse x0)
    have X1 := Lib.hid (bfalse x1)
    have X2 := Lib.hid (bfalse x2)
    have HR := Lib.hid hr.1
    have HT := Lib.hid hr.2
    have HC := Lib.hid (bfalse hc)
    have H3 := Lib.hid h3
    have hex := (go_ok c E f).1
    have eg : ∀ args w, (callFunc 148 args).run Tryz.prog w = .ok (.enter 148 args) w := enters_of Tryz.func148 (by kernel_rfl) rfl
    clear hs hb x0 x1 x2 h1 h2 hr hc h3
    go_enter Tryz.func147, Tryz.ntmps147
    go_wp2_with (first | ((with_reducible refine (is_a (Hid.out (by assumption)) HB.out).mono ?_); rintro e v1 ⟨rfl, ha⟩; have B1 := Lib.hid ha; clear ha) | ((with_reducible refine (took_n (Hid.out (by assumption)) X0.out).mono ?_); rintro e v2 ⟨rfl, ha⟩; have B2 := Lib.hid ha; clear ha) | ((with_reducible refine (took_n (Hid.out (by assumption)) X1.out).mono ?_); rintro e v3 ⟨rfl, ha⟩; have B3 := Lib.hid ha; clear ha) | ((with_reducible refine (took_n (Hid.out (by assumption)) X2.out).mono ?_); rintro e v4 ⟨rfl, ha⟩; have B4 := Lib.hid ha; clear ha) | ((with_reducible refine (took_y (Hid.out (by assumption)) HR.out HT.out).mono ?_); rintro e v5 ⟨rfl, ha⟩; have B5 := Lib.hid ha; obtain ⟨f0, f1, f2, f3, f4, f5, f6, f7, f8, g0, g1, g2, g3, g4, g5, g6, g7, g8⟩ := nv9 ha.loc; have C5 := Lib.hid (ha.set 0 (.int .i64 37)); clear ha) | ((with_reducible refine (is_a (Hid.out (by assumption)) HC.out).mono ?_); rintro e v6 ⟨rfl, ha⟩; have B6 := Lib.hid ha; clear ha) | ((with_reducible refine (deeper_a hex eg (Hid.out (by assumption)) H3.out).mono ?_); rintro e v7 ⟨rfl, ha⟩; have B7 := Lib.hid ha; obtain ⟨p0, p1, p2, p3, p4, p5, p6, p7, p8, q0, q1, q2, q3, q4, q5, q6, q7, q8⟩ := nv9 ha.loc; obtain ⟨k0, k1, k2, k3, k4, k5, k6, k7, k8, m0, m1, m2, m3, m4, m5, m6, m7, m8⟩ := nv9 (ha.perm (List.Perm.swap ..)).loc; clear ha))
    obtain ⟨L9, hL9⟩ := ((B7.out.set 1 (.int .i64 q)).perm (List.Perm.swap ..)).set9 (x0 := .int .i64 37) (x1 := .int .i64 q) (x2 := .int .i64 n.b) (x3 := .int .i64 n.c) (x4 := .int .i64 n.d) (x5 := .string (bt n.text)) (x6 := .int .i64 n.n) (x7 := .int .i64 n.ty) (x8 := .int .i64 n.pos)
    exact bodyPost_ret (v := ndV { n with kind := 37, a := q }) (by simp [results, Tryz.results147, go_sem, k0, k1, k2, k3, k4, k5, k6, k7, k8] <;> rfl) rfl (hL9.done rfl)
theorem simple_a {w0 w : World} {v u : Value} {f : Nat} {s s' : S} {n n' : Nd} {L : List (Nat × Obj)} (h : At w0 c v u E s L w) (hs : simpF f E n s = some (n', s')) :
    Calls Tryz.prog 147 #[.pointer (some ⟨c.p, 0, none⟩), ndV n] w (Ans w0 c v u E s' L (ndV n')) := h.lift fun _ _ h => simple_p h hs
set_option maxHeartbeats 4000000 in
theorem statement_p (f : Nat) : Reads c E 140 (stF f E) := by
  intro w vn vt s r s' hs h
  have A0 := Lib.hid (At.start h); clear h
  unfold stF at hs
  by_cases hb : isT E s [123] = true
  case pos => rw [if_pos hb] at hs; cases hs
  rw [if_neg hb] at hs
  by_cases hw : stWords.any (isT E s) = true
  case pos => rw [if_pos hw] at hs; cases hs
  rw [if_neg hw] at hs
  simp only [stWords, List.any_cons, List.any_nil, Bool.or_false, Bool.or_eq_true, not_or] at hw
  obtain ⟨x0, x1, x2, x3, x4, x5⟩ := hw
  by_cases hk : (nowT E s).k = 1
  case pos => rw [if_pos hk] at hs; cases hs
  rw [if_neg hk] at hs
  obtain ⟨⟨n', s1⟩, h1, h2⟩ := Option.bind_eq_some_iff.1 hs
  obtain ⟨s2, h3, h4⟩ := Option.bind_eq_some_iff.1 h2
  obtain ⟨n, hn⟩ : ∃ n, nodeAt E s 30 = n := ⟨_, rfl⟩
  obtain ⟨tn, htn⟩ : ∃ tn, nowT E s = tn := ⟨_, rfl⟩
  rw [hn] at h1
  rw [htn] at hk
  have y0 := fld0
  have q1 : (tn.k == 1) = false := by simpa using hk
  have HB := Lib.hid (bfalse hb)
  have X0 := Lib.hid (bfalse x0)
  have X1 := Lib.hid (bfalse x1)
  have X2 := Lib.hid (bfalse x2)
  have X3 := Lib.hid (bfalse x3)
  have X4 := Lib.hid (bfalse x4)
  have X5 := Lib.hid (bfalse x5)
  have HN := Lib.hid hn
  have HT := Lib.hid htn
  have H1 := Lib.hid h1
  have H3 := Lib.hid h3
  have H4 := Lib.hid h4
  clear hs hb x0 x1 x2 x3 x4 x5 hk h1 h2 h3 h4 hn htn
  go_enter Tryz.func140, Tryz.ntmps140
  go_wp2_with (first | ((with_reducible refine (node_a (Hid.out (by assumption)) HN.out).mono ?_); rintro e v1 ⟨rfl, ha⟩; have B1 := Lib.hid ha; have C1 := Lib.hid (ha.alloc (ndO n)); dsimp only [ndV]; clear ha) | ((with_reducible refine (is_a (Hid.out (by assumption)) HB.out).mono ?_); rintro e v2 ⟨rfl, ha⟩; have B2 := Lib.hid ha; clear ha) | ((with_reducible refine (took_n (Hid.out (by assumption)) X0.out).mono ?_); rintro e v3 ⟨rfl, ha⟩; have B3 := Lib.hid ha; clear ha) | ((with_reducible refine (took_n (Hid.out (by assumption)) X1.out).mono ?_); rintro e v4 ⟨rfl, ha⟩; have B4 := Lib.hid ha; clear ha) | ((with_reducible refine (took_n (Hid.out (by assumption)) X2.out).mono ?_); rintro e v5 ⟨rfl, ha⟩; have B5 := Lib.hid ha; clear ha) | ((with_reducible refine (took_n (Hid.out (by assumption)) X3.out).mono ?_); rintro e v6 ⟨rfl, ha⟩; have B6 := Lib.hid ha; clear ha) | ((with_reducible refine (took_n (Hid.out (by assumption)) X4.out).mono ?_); rintro e v7 ⟨rfl, ha⟩; have B7 := Lib.hid ha; clear ha) | ((with_reducible refine (took_n (Hid.out (by assumption)) X5.out).mono ?_); rintro e v8 ⟨rfl, ha⟩; have B8 := Lib.hid ha; clear ha) | ((with_reducible refine (now_a (Hid.out (by assumption)) HT.out).mono ?_); rintro e v9 ⟨rfl, ha⟩; have B9 := Lib.hid ha; obtain ⟨r0, r1, r2, r3, r4, r5, r6, r7, r8, t0, t1, t2, t3, t4, t5, t6, t7, t8⟩ := nv9 ha.loc; clear ha) | ((with_reducible refine (simple_a (n := n) (Hid.out (by assumption)) H1.out).mono ?_); rintro e v10 ⟨rfl, ha⟩; have B10 := Lib.hid ha; obtain ⟨f0, f1, f2, f3, f4, f5, f6, f7, f8, g0, g1, g2, g3, g4, g5, g6, g7, g8⟩ := nv9 ha.loc; have C10 := Lib.hid (At.setN (.int .i64 n'.kind) (.int .i64 n'.a) (.int .i64 n'.b) (.int .i64 n'.c) (.int .i64 n'.d) (.string (bt n'.text)) (.int .i64 n'.n) (.int .i64 n'.ty) (.int .i64 n'.pos) ha); dsimp only [ndV]; clear ha) | ((with_reducible refine (need_a (Hid.out (by assumption)) H3.out).mono ?_); rintro e v11 ⟨rfl, ha⟩; have B11 := Lib.hid ha; obtain ⟨p0, p1, p2, p3, p4, p5, p6, p7, p8, q0, q1, q2, q3, q4, q5, q6, q7, q8⟩ := nv9 ha.loc; clear ha) | ((with_reducible refine (add_a (nd := n') (Hid.out (by assumption)) H4.out).mono ?_); rintro e v12 ⟨rfl, ha⟩; have B12 := Lib.hid ha; clear ha))
  go_ret
  exact B12.out.done rfl
set_option maxHeartbeats 1000000 in
theorem list_a {w0 w : World} {v u : Value} {s s1 s' : S} {fn : Nat} {first cap : Array Value} {xs : List Int} {r : Int} {L : List (Nat × Obj)} (h : At w0 c v u E s L w) (eg : ∀ args w, (callFunc fn args).run Tryz.prog w = .ok (.enter fn args) w)
    (hi : ∀ w v u, IterOK w c v u E fn first cap s s1 xs) (hlen : xs.length ≤ 1000000) (hs : listOf xs s1 = some (r, s')) :
    Calls Tryz.prog 49 #[.pointer (some ⟨c.p, 0, none⟩), .func (.func fn) first cap] w (Ans w0 c v u E s' L (.int .i64 r)) := h.lift fun _ _ h => list_p eg (hi _ _ _) hlen h hs
theorem block_p {f : Nat} (hf : f ≤ 1000000) : Reads c E 103 (blockF f E) := by
  intro w vn vt s r s' hs h
  have A0 := Lib.hid (At.start h); clear h
  unfold blockF at hs
  obtain ⟨s1, h1, h2⟩ := Option.bind_eq_some_iff.1 hs
  obtain ⟨⟨xs, s2⟩, h3, h4⟩ := Option.bind_eq_some_iff.1 h2
  obtain ⟨⟨q, s3⟩, h5, h6⟩ := Option.bind_eq_some_iff.1 h4
  obtain ⟨s4, h7, h8⟩ := Option.bind_eq_some_iff.1 h6
  obtain ⟨n, hn⟩ : ∃ n, nodeAt E s 43 = n := ⟨_, rfl⟩
  have h8' : addT { n with a := q } s4 = some (r, s') := by rw [← hn]; exact h8
  have hl := stsF_len f _ _ _ h3
  have hi : ∀ w v u, IterOK w c v u E 129 #[.pointer (some ⟨c.p, 0, none⟩)] #[] s1 s2 xs := fun w v u => statements_iter (statement_p f) hf h3
  have eg : ∀ args w, (callFunc 129 args).run Tryz.prog w = .ok (.enter 129 args) w := enters_of Tryz.func129 (by kernel_rfl) rfl
  have hl2 : xs.length ≤ 1000000 := by omega
  have HN := Lib.hid hn
  have H1 := Lib.hid h1
  have H5 := Lib.hid h5
  have H7 := Lib.hid h7
  have H8 := Lib.hid h8'
  clear hs h1 h2 h3 h4 h5 h6 h7 h8 h8' hn hl
  go_enter Tryz.func103, Tryz.ntmps103
  go_wp2_with (first | ((with_reducible refine (node_a (Hid.out (by assumption)) HN.out).mono ?_); rintro e v1 ⟨rfl, ha⟩; have B1 := Lib.hid ha; have C1 := Lib.hid (ha.alloc (ndO n)); dsimp only [ndV]; clear ha) | ((with_reducible refine (need_a (Hid.out (by assumption)) H1.out).mono ?_); rintro e v2 ⟨rfl, ha⟩; have B2 := Lib.hid ha; clear ha) | ((with_reducible refine (list_a (Hid.out (by assumption)) eg hi hl2 H5.out).mono ?_); rintro e v3 ⟨rfl, ha⟩; have B3 := Lib.hid ha; obtain ⟨f0, f1, f2, f3, f4, f5, f6, f7, f8, g0, g1, g2, g3, g4, g5, g6, g7, g8⟩ := nv9 ha.loc; have C3 := Lib.hid (ha.set 1 (.int .i64 q)); clear ha) | ((with_reducible refine (need_a (Hid.out (by assumption)) H7.out).mono ?_); rintro e v4 ⟨rfl, ha⟩; have B4 := Lib.hid ha; obtain ⟨p0, p1, p2, p3, p4, p5, p6, p7, p8, q0, q1, q2, q3, q4, q5, q6, q7, q8⟩ := nv9 ha.loc; clear ha) | ((with_reducible refine (add_a (nd := { n with a := q }) (Hid.out (by assumption)) H8.out).mono ?_); rintro e v5 ⟨rfl, ha⟩; have B5 := Lib.hid ha; clear ha))
  go_ret
  exact B5.out.done rfl
end Go.Proofs.YtkgnmlllmihmlaaGreatDoor
