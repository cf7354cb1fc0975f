/-
  list of each iterator for callers, and primary, with their errors.
-/
import Derived.Test.YtaamllikceaifaaGreatDoorIterR
import Derived.Test.YtaamllikceaifaaGreatDoorExpR
namespace Go.Proofs.YtaamllikceaifaaGreatDoor
open Go.RowKit Sp Tr Go.Shelf
set_option linter.unusedVariables false

section
variable {α β : Type} {w0 w : World} {c : PC} {v u : Value} {E : PE} {s s' : S} {L : List (Nat × Obj)}
theorem Res.bind_ok_iff {r : Tr.Res α} {k : α → S → Tr.Res β} {b : β} {s1 : S} (h : r.bind k = .ok b s1) : ∃ a s2, r = .ok a s2 ∧ k a s2 = .ok b s1 := by
  cases r with
  | ok a s2 => exact ⟨a, s2, rfl, h⟩
  | bad e s2 => cases h
  | out => cases h
theorem stsM_len {m : S → Tr.Res Int} (k : Nat) : ∀ (s s1 : S) (xs : List Int), stsM k m E s = .ok xs s1 → xs.length ≤ k := by
  induction k with
  | zero => intro s s1 xs h; cases h
  | succ k ih =>
    intro s s1 xs h
    unfold stsM at h
    split at h
    · injection h with h1 h2; subst h1; simp
    · obtain ⟨x, s2, _, h2⟩ := Res.bind_ok_iff h
      obtain ⟨ys, s3, h3, h4⟩ := Res.bind_ok_iff h2
      injection h4 with h5 h6; subst h5
      have := ih _ _ _ h3; simp; omega
theorem wholesM_len {m : S → Tr.Res Int} (k : Nat) : ∀ (s s1 : S) (xs : List Int), wholesM k m E s = .ok xs s1 → xs.length ≤ k := by
  induction k with
  | zero => intro s s1 xs h; cases h
  | succ k ih =>
    intro s s1 xs h
    unfold wholesM at h
    split at h
    · obtain ⟨x, s2, _, h2⟩ := Res.bind_ok_iff h
      obtain ⟨ys, s3, h3, h4⟩ := Res.bind_ok_iff h2
      injection h4 with h5 h6; subst h5
      have := ih _ _ _ h3; simp; omega
    · injection h with h1 h2; subst h1; simp
theorem fieldsM_len {m : S → Tr.Res Int} (k : Nat) : ∀ (s s1 : S) (xs : List Int), fieldsM k m E s = .ok xs s1 → xs.length ≤ k := by
  induction k with
  | zero => intro s s1 xs h; cases h
  | succ k ih =>
    intro s s1 xs h
    unfold fieldsM at h
    obtain ⟨x, s2, _, h2⟩ := Res.bind_ok_iff h
    split at h2
    · injection h2 with h3 h4; subst h3; simp
    · obtain ⟨ys, s3, h3, h4⟩ := Res.bind_ok_iff h2
      injection h4 with h5 h6; subst h5
      have := ih _ _ _ h3; simp; omega
theorem commasM_len {m : S → Tr.Res Int} (k : Nat) : ∀ (b : Bool) (s s1 : S) (xs : List Int), commasM k b m E s = .ok xs s1 → xs.length ≤ k := by
  induction k with
  | zero => intro b s s1 xs h; cases h
  | succ k ih =>
    intro b s s1 xs h
    unfold commasM at h
    split at h
    · obtain ⟨x, s2, _, h2⟩ := Res.bind_ok_iff h
      obtain ⟨b2, s3, _, h3⟩ := Res.bind_ok_iff h2
      obtain ⟨ys, s4, h4, h5⟩ := Res.bind_ok_iff h3
      injection h5 with h6 h7; subst h6
      have := ih _ _ _ _ h4; simp; omega
    · injection h with h1 h2; subst h1; simp
theorem list_sts {k : Nat} {m : S → Tr.Res Int} (h0 : ReadsR c E 140 m) (hk : k ≤ 1000000) (h : At w0 c v u E s L w) (hN : (stsM k m E s).bind listM ≠ .out) :
    Calls Tryz.prog 49 #[.pointer (some ⟨c.p, 0, none⟩), .func (.func 129) #[.pointer (some ⟨c.p, 0, none⟩)] #[]] w (AnsR w0 c v u E L ((stsM k m E s).bind listM) iV) := by
  have eg : ∀ args w, (callFunc 129 args).run Tryz.prog w = .ok (.enter 129 args) w := enters_of Tryz.func129 (by kernel_rfl) rfl
  exact h.liftR fun vn vt hq => list_q0 eg (statements_iterR h0 hk (Tr.Res.bind_ne hN)) (fun xs s1 hs => by have := stsM_len _ _ _ _ hs; omega) hq hN
theorem list_wholes {k : Nat} {m : S → Tr.Res Int} (h0 : ReadsR c E 72 m) (hk : k ≤ 1000000) (h : At w0 c v u E s L w) (hN : (wholesM k m E s).bind listM ≠ .out) :
    Calls Tryz.prog 49 #[.pointer (some ⟨c.p, 0, none⟩), .func (.func 50) #[.pointer (some ⟨c.p, 0, none⟩)] #[]] w (AnsR w0 c v u E L ((wholesM k m E s).bind listM) iV) := by
  have eg : ∀ args w, (callFunc 50 args).run Tryz.prog w = .ok (.enter 50 args) w := enters_of Tryz.func50 (by kernel_rfl) rfl
  exact h.liftR fun vn vt hq => list_q0 eg (wholes_iterR h0 hk (Tr.Res.bind_ne hN)) (fun xs s1 hs => by have := wholesM_len _ _ _ _ hs; omega) hq hN
theorem list_fields {k : Nat} {m : S → Tr.Res Int} (h0 : ReadsR c E 137 m) (hk : k ≤ 1000000) (h : At w0 c v u E s L w) (hN : (fieldsM k m E s).bind listM ≠ .out) :
    Calls Tryz.prog 49 #[.pointer (some ⟨c.p, 0, none⟩), .func (.func 123) #[.pointer (some ⟨c.p, 0, none⟩)] #[]] w (AnsR w0 c v u E L ((fieldsM k m E s).bind listM) iV) := by
  have eg : ∀ args w, (callFunc 123 args).run Tryz.prog w = .ok (.enter 123 args) w := enters_of Tryz.func123 (by kernel_rfl) rfl
  exact h.liftR fun vn vt hq => list_q0 eg (fields_iterR h0 hk (Tr.Res.bind_ne hN)) (fun xs s1 hs => by have := fieldsM_len _ _ _ _ hs; omega) hq hN
theorem At.liftRL {r : Tr.Res α} {val : α → Value} {f : FuncId} {args : Array Value} (h : At w0 c v u E s L w) (m : ∀ vn vt, PIn w c vn vt E s → (∀ x ∈ L, w.heap[x.1]? = some x.2 ∧ Out c vn vt x.1) → Calls Tryz.prog f args w (AnsR w c vn vt E [] r val)) : Calls Tryz.prog f args w (AnsR w0 c v u E L r val) := by
  obtain ⟨vn, vt, h1, h2, h3, h5⟩ := id h
  refine At.liftR (s := s) ⟨vn, vt, h1, h2, h3, h5⟩ fun vn' vt' hq => ?_
  obtain ⟨vn2, vt2, k1, k2, k3, k5⟩ := h
  have e1 : vn' = vn := by
    have a := hq.cells.2.2.2.2.2.2.2.1
    rw [h1.cells.2.2.2.2.2.2.2.1] at a
    injection a with a
    exact a.symm
  have e2 : vt' = vt := by
    have a := hq.cells.2.2.2.2.2.2.2.2.1
    rw [h1.cells.2.2.2.2.2.2.2.2.1] at a
    injection a with a
    exact a.symm
  subst e1 e2
  exact m _ _ hq fun x hx => ⟨(h3 x hx).1, (h3 x hx).2.1⟩
theorem list_commasR {k : Nat} {m : S → Tr.Res Int} {fn bp bq : Nat} (h0 : ReadsR c E fn m) (egf : ∀ args w, (callFunc fn args).run Tryz.prog w = .ok (.enter fn args) w) (hk : k ≤ 1000000)
    (h : At w0 c v u E s L w) (hm : (bp, bxO c) ∈ L) (hm2 : (bq, fnO (.func (.func fn) #[.pointer (some ⟨c.p, 0, none⟩)] #[])) ∈ L) (hN : (commasM k (!isT E s [41]) m E s).bind listM ≠ .out) :
    Calls Tryz.prog 49 #[.pointer (some ⟨c.p, 0, none⟩), .func (.func 128) #[] #[.pointer (some ⟨bp, 0, none⟩), .pointer (some ⟨bq, 0, none⟩)]] w (AnsR w0 c v u E L ((commasM k (!isT E s [41]) m E s).bind listM) iV) := by
  have eg : ∀ args w, (callFunc 128 args).run Tryz.prog w = .ok (.enter 128 args) w := enters_of Tryz.func128 (by kernel_rfl) rfl
  exact h.liftRL fun vn vt hq hL => list_q0 eg (commas_iterR h0 egf hk (hL _ hm).1 (hL _ hm).2 (hL _ hm2).1 (hL _ hm2).2 (Tr.Res.bind_ne hN)) (fun xs s1 hs => by have := commasM_len _ _ _ _ _ hs; omega) hq hN
/-! ### A test that is known -/
theorem tookM_T {x : List UInt8} (h : isT E s x = true) (k : Bool → S → Tr.Res β) : (tookM E x s).bind k = (takeM E s).bind fun _ s1 => k true s1 := by
  unfold tookM
  rw [if_pos h]
  cases takeM E s <;> rfl
theorem tookM_F {x : List UInt8} (h : isT E s x = false) (k : Bool → S → Tr.Res β) : (tookM E x s).bind k = k false s := by
  unfold tookM
  rw [if_neg (by rw [h]; decide)]
  rfl
theorem took_t {x : List UInt8} (h : At w0 c v u E s L w) (hx : isT E s x = true) (hN : takeM E s ≠ .out) : Calls Tryz.prog 99 #[.pointer (some ⟨c.p, 0, none⟩), .string (bt x)] w (AnsR w0 c v u E L (takeM E s) fun _ => .bool true) := by
  have hr : tookM E x s = (takeM E s).bind fun _ s1 => .ok true s1 := by unfold tookM; rw [if_pos hx]
  have hN2 : tookM E x s ≠ .out := by rw [hr]; cases hk : takeM E s <;> simp_all [Tr.Res.bind]
  refine (took_q h hN2).mono ?_
  intro e w' ha
  rw [hr] at ha
  cases hk : takeM E s with
  | ok a s1 => rw [hk] at ha; exact ha
  | bad er s1 => rw [hk] at ha; exact ha
  | out => exact absurd hk hN
end
variable {c : PC} {E : PE} {rec : NTm → S → Tr.Res Int}
set_option maxHeartbeats 4000000 in
theorem prim_q {f : Nat} (hf : f ≤ 1000000) (hbr : ReadsR c E 144 (bracketM rec E)) (har : ReadsR c E 160 (deepM (rec .ex))) : ReadsR c E 159 (primM f rec E) := by
  intro w vn vt s hN hq
  have A0 := Lib.hid (At.start hq); clear hq
  have HN := Lib.hid hN; clear hN
  obtain ⟨R, hR⟩ : ∃ R, primM f rec E s = R := ⟨_, rfl⟩
  rw [hR] at HN ⊢
  unfold primM at hR
  have ega : ∀ args w, (callFunc 160 args).run Tryz.prog w = .ok (.enter 160 args) w := enters_of Tryz.func160 (by kernel_rfl) rfl
  by_cases hb : isT E s [40] = true
  · rw [if_pos hb] at hR
    have HR := Lib.hid hR
    have HB := Lib.hid hb
    clear hR hb
    go_enter Tryz.func159, Tryz.ntmps159
    go_wp2_with (first | ((with_reducible refine (node_q (Hid.out (by assumption))).mono ?_); rintro e v1 ⟨rfl, ha, hc⟩; have B1 := Lib.hid ha; have C1 := Lib.hid hc; dsimp only [ndV]; clear ha hc) | ((with_reducible refine (is_a (Hid.out (by assumption)) HB.out).mono ?_); rintro e v2 ⟨rfl, ha⟩; have B2 := Lib.hid ha; (try (obtain ⟨f0, f1, f2, f3, f4, f5, f6, f7, f8, g0, g1, g2, g3, g4, g5, g6, g7, g8⟩ := nv9 ha.loc)); clear ha) | ((with_reducible refine (hbr.q (Hid.out (by assumption)) (ne_out1 HR HN)).mono ?_); rintro e v3 hz; rcases hz.split1 HR with ⟨a3, s3, rfl, rfl, ha⟩ | ⟨er, sx, rfl, rfl, hb⟩; rotate_left; (exact ⟨rfl, AnsR.err hb⟩); clear HR hz; have B3 := Lib.hid ha; clear ha))
    all_goals (go_ret; first | exact AnsR.end1 HR (Hid.out (by assumption)) | exact AnsR.ret (Hid.out (by assumption)))
  rw [if_neg hb] at hR
  have HB := Lib.hid (bfalse hb); clear hb
  obtain ⟨tn, htn⟩ : ∃ tn, nowT E s = tn := ⟨_, rfl⟩
  rw [htn] at hR
  have HT := Lib.hid htn; clear htn
  have y0 := fld0
  by_cases hk : tn.k = 3
  · rw [if_pos hk] at hR
    have HR := Lib.hid hR
    have q3 : (tn.k == 3) = true := by simp [hk]
    clear hR hk
    go_enter Tryz.func159, Tryz.ntmps159
    go_wp2_with (first | ((with_reducible refine (node_q (Hid.out (by assumption))).mono ?_); rintro e v1 ⟨rfl, ha, hc⟩; have B1 := Lib.hid ha; have C1 := Lib.hid hc; dsimp only [ndV]; clear ha hc) | ((with_reducible refine (is_a (Hid.out (by assumption)) HB.out).mono ?_); rintro e v2 ⟨rfl, ha⟩; have B2 := Lib.hid ha; (try (obtain ⟨f0, f1, f2, f3, f4, f5, f6, f7, f8, g0, g1, g2, g3, g4, g5, g6, g7, g8⟩ := nv9 ha.loc)); clear ha) | ((with_reducible refine (now_a (Hid.out (by assumption)) HT.out).mono ?_); rintro e v3 ⟨rfl, ha⟩; have B3 := Lib.hid ha; (try (obtain ⟨f0, f1, f2, f3, f4, f5, f6, f7, f8, g0, g1, g2, g3, g4, g5, g6, g7, g8⟩ := nv9 ha.loc)); clear ha) | ((with_reducible refine (number_q (Hid.out (by assumption)) (ne_out HR HN)).mono ?_); rintro e v4 hz; rcases hz.split HR with ⟨a4, s4, rfl, K4, HQ, ha⟩ | ⟨er, sx, rfl, rfl, hb⟩; rotate_left; (exact ⟨rfl, AnsR.err hb⟩); clear HR hz; have HR := HQ; clear HQ; have B4 := Lib.hid ha; (try (obtain ⟨f0, f1, f2, f3, f4, f5, f6, f7, f8, g0, g1, g2, g3, g4, g5, g6, g7, g8⟩ := nv9 ha.loc)); have D := Lib.hid (ha.set 6 (.int .i64 a4)); clear ha) | ((with_reducible refine (add_q (Hid.out (by assumption)) (ne_out1 HR HN)).mono ?_); rintro e v5 hz; rcases hz.split1 HR with ⟨a5, s5, rfl, rfl, ha⟩ | ⟨er, sx, rfl, rfl, hb⟩; rotate_left; (exact ⟨rfl, AnsR.err hb⟩); clear HR hz; have B5 := Lib.hid ha; clear ha))
    all_goals (go_ret; first | exact AnsR.end1 HR (Hid.out (by assumption)) | exact AnsR.ret (Hid.out (by assumption)))
  rw [if_neg hk] at hR
  have HR := Lib.hid hR
  have q3 : (tn.k == 3) = false := by simpa using hk
  clear hR hk
  go_enter Tryz.func159, Tryz.ntmps159
  go_wp2_with (first | ((with_reducible refine (node_q (Hid.out (by assumption))).mono ?_); rintro e v1 ⟨rfl, ha, hc⟩; have B1 := Lib.hid ha; have C1 := Lib.hid hc; dsimp only [ndV]; clear ha hc) | ((with_reducible refine (is_a (Hid.out (by assumption)) HB.out).mono ?_); rintro e v2 ⟨rfl, ha⟩; have B2 := Lib.hid ha; (try (obtain ⟨f0, f1, f2, f3, f4, f5, f6, f7, f8, g0, g1, g2, g3, g4, g5, g6, g7, g8⟩ := nv9 ha.loc)); clear ha) | ((with_reducible refine (now_a (Hid.out (by assumption)) HT.out).mono ?_); rintro e v3 ⟨rfl, ha⟩; have B3 := Lib.hid ha; (try (obtain ⟨f0, f1, f2, f3, f4, f5, f6, f7, f8, g0, g1, g2, g3, g4, g5, g6, g7, g8⟩ := nv9 ha.loc)); clear ha) | ((with_reducible refine (took_q (Hid.out (by assumption)) (ne_out HR HN)).mono ?_); rintro e v4 hz; rcases hz.split HR with ⟨a4, s4, rfl, K4, HQ, ha⟩ | ⟨er, sx, rfl, rfl, hb⟩; rotate_left; (exact ⟨rfl, AnsR.err hb⟩); clear HR hz; cases a4; all_goals ((first | (have HR := ite_T HQ rfl) | (have HR := ite_F HQ (by decide))); clear HQ; have B4 := Lib.hid ha; (try (obtain ⟨f0, f1, f2, f3, f4, f5, f6, f7, f8, g0, g1, g2, g3, g4, g5, g6, g7, g8⟩ := nv9 ha.loc)); have D4 := Lib.hid (ha.set 0 (.int .i64 14)); clear ha)) | ((with_reducible refine (need_q (Hid.out (by assumption)) (ne_out HR HN)).mono ?_); rintro e v5 hz; rcases hz.split HR with ⟨a5, s5, rfl, K5, HQ, ha⟩ | ⟨er, sx, rfl, rfl, hb⟩; rotate_left; (exact ⟨rfl, AnsR.err hb⟩); clear HR hz; have HR := HQ; clear HQ; have B5 := Lib.hid ha; (try (obtain ⟨f0, f1, f2, f3, f4, f5, f6, f7, f8, g0, g1, g2, g3, g4, g5, g6, g7, g8⟩ := nv9 ha.loc)); clear ha) | ((with_reducible refine (hbr.q (Hid.out (by assumption)) (ne_out HR HN)).mono ?_); rintro e v6 hz; rcases hz.split HR with ⟨a6, s6, rfl, K6, HQ, ha⟩ | ⟨er, sx, rfl, rfl, hb⟩; rotate_left; (exact ⟨rfl, AnsR.err hb⟩); clear HR hz; have HR := HQ; clear HQ; have B6 := Lib.hid ha; (try (obtain ⟨f0, f1, f2, f3, f4, f5, f6, f7, f8, g0, g1, g2, g3, g4, g5, g6, g7, g8⟩ := nv9 ha.loc)); have D := Lib.hid ((ha.set 0 (.int .i64 15)).set 1 (.int .i64 a6)); clear ha) | ((with_reducible refine (name_q (Hid.out (by assumption)) (ne_out HR HN)).mono ?_); rintro e v7 hz; rcases hz.split HR with ⟨a7, s7, rfl, K7, HQ, ha⟩ | ⟨er, sx, rfl, rfl, hb⟩; rotate_left; (exact ⟨rfl, AnsR.err hb⟩); clear HR hz; have HR := HQ; clear HQ; have B7 := Lib.hid ha; (try (obtain ⟨f0, f1, f2, f3, f4, f5, f6, f7, f8, g0, g1, g2, g3, g4, g5, g6, g7, g8⟩ := nv9 ha.loc)); have D := Lib.hid ((ha.set 0 (.int .i64 2)).set 5 (.string (bt a7))); clear ha) | ((with_reducible refine (commas_new _ _ _ _ _).mono ?_); rintro e v8 ⟨rfl, rfl⟩; have hB4 := B4.out; have C5 := (hB4.alloc (bxO c)).alloc (fnO (.func (.func 160) #[.pointer (some ⟨c.p, 0, none⟩)] #[])); rw [World.size_alloc] at C5; have D5 := Lib.hid C5; clear C5 hB4) | ((with_reducible refine (list_commasR har ega hf D5.out (by simp) (by simp) (ne_out HR HN)).mono ?_); rintro e v9 hz; rcases hz.split HR with ⟨a9, s9, rfl, K9, HQ, ha⟩ | ⟨er, sx, rfl, rfl, hb⟩; rotate_left; (exact ⟨rfl, AnsR.err hb⟩); clear HR hz; have HR := HQ; clear HQ; have B9 := Lib.hid ha; (try (obtain ⟨f0, f1, f2, f3, f4, f5, f6, f7, f8, g0, g1, g2, g3, g4, g5, g6, g7, g8⟩ := nv9 ha.loc)); obtain ⟨f0, f1, f2, f3, f4, f5, f6, f7, f8, g0, g1, g2, g3, g4, g5, g6, g7, g8⟩ := nv9 ha.drop.drop.loc; have D9 := Lib.hid ((ha.drop.drop.set 0 (.int .i64 9)).set 1 (.int .i64 a9)); clear ha) | ((with_reducible refine (add_q (Hid.out (by assumption)) (ne_out1 HR HN)).mono ?_); rintro e v10 hz; rcases hz.split1 HR with ⟨a10, s10, rfl, rfl, ha⟩ | ⟨er, sx, rfl, rfl, hb⟩; rotate_left; (exact ⟨rfl, AnsR.err hb⟩); clear HR hz; have B10 := Lib.hid ha; clear ha))
  all_goals (go_ret; first | exact AnsR.end1 HR (Hid.out (by assumption)) | exact AnsR.ret (Hid.out (by assumption)))
end Go.Proofs.YtaamllikceaifaaGreatDoor
