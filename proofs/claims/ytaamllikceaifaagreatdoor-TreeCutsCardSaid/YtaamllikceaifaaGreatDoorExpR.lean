/-
  The contract of begins, of any token.
  Contracts of the parser's methods on expressions, with their errors.
  Contracts of prefix and postfix, with their errors.
-/
import Derived.Test.YtaamllikceaifaaGreatDoorTok
import Derived.LoopN
import Derived.Lib.QuietBelow
import Derived.Test.YtaamllikceaifaaGreatDoorExpr
import Derived.Deep.LoopGhost
namespace Go.Proofs.YtaamllikceaifaaGreatDoor
open Go.RowKit Sp Tr
set_option linter.unusedVariables false

section
variable {w0 w : World} {c : PC} {v u : Value} {E : PE} {s s' : S} {L : List (Nat × Obj)}
theorem index_names {w : World} {ty : TypeId} {fr : Nat × Nat} (hn : w.heap[0]? = some (.cells namesV ty fr)) (x : List UInt8) :
    Calls Tryz.prog 155 #[.slice (some ⟨0, 0, none⟩) 4 4, .string (bt x)] w fun e w' => ∃ i : Int, e = .returned (.int .i64 i) ∧ w' = w ∧ (0 ≤ i ↔ x ∈ namesL) ∧ -1 ≤ i ∧ i ≤ 3 := by
  have c0 : w.cell? ⟨0, 0, none⟩ = some (.string (bt wVoid)) := by rw [cell_of_row w _ _ _ _ _ hn]; rfl
  have c1 : w.cell? ⟨0, 1, none⟩ = some (.string (bt wInt)) := by rw [cell_of_row w _ _ _ _ _ hn]; rfl
  have c2 : w.cell? ⟨0, 2, none⟩ = some (.string (bt wUnsigned)) := by rw [cell_of_row w _ _ _ _ _ hn]; rfl
  have c3 : w.cell? ⟨0, 3, none⟩ = some (.string (bt wChar)) := by rw [cell_of_row w _ _ _ _ _ hn]; rfl
  have hz := lt_heap hn
  go_enter Tryz.func155, Tryz.ntmps155
  go_wp2
  refine wp_loop_rounds 5 ?_
  rw [rounds_succ]
  go_wp2
  · go_ret
    exact ⟨_, rfl, rfl, by simp_all [namesL], by omega, by omega⟩
  rw [rounds_succ]
  go_wp2
  · go_ret
    exact ⟨_, rfl, rfl, by simp_all [namesL], by omega, by omega⟩
  rw [rounds_succ]
  go_wp2
  · go_ret
    exact ⟨_, rfl, rfl, by simp_all [namesL], by omega, by omega⟩
  rw [rounds_succ]
  go_wp2
  · go_ret
    exact ⟨_, rfl, rfl, by simp_all [namesL], by omega, by omega⟩
  rw [rounds_succ]
  go_wp2
  go_ret
  exact ⟨_, rfl, rfl, by simp_all [namesL], by omega, by omega⟩
theorem contains_names {w : World} {ty : TypeId} {fr : Nat × Nat} (hn : w.heap[0]? = some (.cells namesV ty fr)) (x : List UInt8) :
    Calls Tryz.prog 153 #[.slice (some ⟨0, 0, none⟩) 4 4, .string (bt x)] w (RPost (.bool (namesL.contains x)) w) := by
  have HN := Lib.hid hn; clear hn
  go_enter Tryz.func153, Tryz.ntmps153
  go_wp2_with ((with_reducible refine (index_names HN.out x).mono ?_); rintro e w1 ⟨i, rfl, rfl, hi, h0, h1⟩)
  go_ret
  exact ⟨ret_bool (by rw [Bool.eq_iff_iff]; simp), Below.refl _ _⟩
theorem begins_any {w : World} {ty : TypeId} {fr : Nat × Nat} (hn : w.heap[0]? = some (.cells namesV ty fr)) (t : Tok) :
    Calls Tryz.prog 149 #[tkV t] w (RPost (.bool (beginsT t)) w) := by
  by_cases hk : t.k = 2
  case neg =>
    have e : beginsT t = false := by unfold beginsT; simp [hk]
    rw [e]
    exact begins_no hk w
  by_cases hs : t.text = wStruct
  · have e : beginsT t = true := by unfold beginsT; simp [hk, hs]
    rw [e]
    have e1 : (t.k == 2) = true := by simp [hk]
    have e2 : (t.text == wStruct) = true := by simp [hs]
    clear hk hs e
    go_enter Tryz.func149, Tryz.ntmps149
    go_wp2
    go_quiet (fail)
    go_wp2
    go_ret
    exact ⟨rfl, drN ((Below.refl _ _).alloc (Nat.le_refl _) _) _⟩
  · have e : beginsT t = namesL.contains t.text := by unfold beginsT; simp [hk, hs]
    rw [e]
    have e1 : (t.k == 2) = true := by simp [hk]
    have e2 : (t.text == wStruct) = false := by simpa using hs
    clear hk hs e
    go_enter Tryz.func149, Tryz.ntmps149
    go_wp2
    obtain ⟨wr, hwr⟩ : ∃ wr : World, w.alloc (.cells #[.int .i64 t.k, .string (bt t.text), .int .i64 t.n, .int .i64 t.pos] 65) = wr := ⟨_, rfl⟩
    have hbr : Below w.heap.size w wr := hwr ▸ (Below.refl _ _).alloc (Nat.le_refl _) _
    have hh : wr.heap[w.heap.size]? = some (.cells #[.int .i64 t.k, .string (bt t.text), .int .i64 t.n, .int .i64 t.pos] 65 (0, 0)) := by rw [← hwr]; exact heap_alloc_new w _
    obtain ⟨f0, f1, f2, f3, _, _, _, _⟩ := nv4 hh
    have hn1 := (hbr.block _ (lt_heap hn)).trans hn
    rw [hwr]
    have HB := Lib.hid hbr
    have k0 := fun d os => cell_regrown f0 d os
    have k1 := fun d os => cell_regrown f1 d os
    have k2 := fun d os => cell_regrown f2 d os
    have k3 := fun d os => cell_regrown f3 d os
    have HC : Hid (∀ d os, Calls Tryz.prog 153 #[.slice (some ⟨0, 0, none⟩) 4 4, .string (bt t.text)] (Go.Sort.grow (redrawn wr d) os) fun e w' => e = .returned (.bool (namesL.contains t.text)) ∧ Below (Go.Sort.grow (redrawn wr d) os).heap.size (Go.Sort.grow (redrawn wr d) os) w') := Lib.hid fun d os => contains_names (((below_regrown wr d os).block _ (lt_heap hn1)).trans hn1) t.text
    clear hh hwr hbr f0 f1 f2 f3 hn hn1
    refine wp_region_quiet_below (by kernel_rfl) (by kernel_rfl) ?_
    repeat (any_goals (first | go_big_quiet_step ((go_at_call 153; exact Calls.regrown_of (HC.out _ _))) | quiet_step ((go_at_call 153; exact Calls.regrown_of (HC.out _ _)))))
    refine wpQuiet_nil ?_
    intro _ hw'
    obtain ⟨⟨dq, osq⟩, hw''⟩ := hw'
    subst hw''
    have HB4 : Hid (Below w.heap.size w (Go.Sort.grow (redrawn wr dq) osq)) := Lib.hid (HB.out.trans ((below_regrown wr dq osq).mono HB.out.size))
    clear k0 k1 k2 k3
    generalize Go.Sort.grow (redrawn wr dq) osq = w4 at *
    go_wp2
    go_ret
    exact ⟨ret_bool (by simp), HB4.out⟩
theorem begins_q {t : Tok} (h : At w0 c v u E s L w) : Calls Tryz.prog 149 #[tkV t] w fun e w' => ∃ b, e = .returned (.bool b) ∧ beginsT t = b ∧ At w0 c v u E s L w' := by
  obtain ⟨ty, fr, hn⟩ : ∃ ty fr, w.heap[0]? = some (.cells namesV ty fr) := by
    obtain ⟨_, _, h1, _⟩ := id h
    exact h1.names
  refine (begins_any hn t).mono ?_
  rintro e w' ⟨rfl, hb⟩
  exact ⟨_, rfl, rfl, h.below hb⟩
end
end Go.Proofs.YtaamllikceaifaaGreatDoor
namespace Go.Proofs.YtaamllikceaifaaGreatDoor
open Go.RowKit Sp Tr
set_option linter.unusedVariables false

section
variable {α β : Type} {w0 w : World} {c : PC} {v u : Value} {E : PE} {s s' : S} {L : List (Nat × Obj)}
theorem assigns_q {o : List UInt8} (h : At w0 c v u E s L w) : Calls Tryz.prog 151 #[.string (bt o)] w fun e w' => ∃ b, e = .returned (.bool b) ∧ assignsL.contains o = b ∧ At w0 c v u E s L w' :=
  (assigns_a h rfl).mono fun _ _ ⟨he, ha⟩ => ⟨_, he, rfl, ha⟩
/-- binary, as what reads, errors too. -/
def ReadsBR (c : PC) (E : PE) (l : Int) (m : S → Tr.Res Int) : Prop :=
  ∀ w vn vt s, m s ≠ .out → PIn w c vn vt E s → Calls Tryz.prog 154 #[.pointer (some ⟨c.p, 0, none⟩), .int .i64 l] w (AnsR w c vn vt E [] (m s) iV)
theorem ReadsBR.q {l : Int} {m : S → Tr.Res Int} (hm : ReadsBR c E l m) (h : At w0 c v u E s L w) (hN : m s ≠ .out) :
    Calls Tryz.prog 154 #[.pointer (some ⟨c.p, 0, none⟩), .int .i64 l] w (AnsR w0 c v u E L (m s) iV) := h.liftR fun _ _ h => hm _ _ _ _ hN h
end
variable {c : PC} {E : PE} {rec : NTm → S → Tr.Res Int}

set_option maxHeartbeats 2000000 in
theorem ex_q (hex : ReadsR c E 148 (rec .ex)) (hch : ReadsR c E 150 (rec .ch)) : ReadsR c E 148 (exM rec E) := by
  intro w vn vt s hN hq
  have A0 := Lib.hid (At.start hq); clear hq
  have HN := Lib.hid hN; clear hN
  obtain ⟨R, hR⟩ : ∃ R, exM rec E s = R := ⟨_, rfl⟩
  rw [hR] at HN ⊢
  unfold exM at hR
  have HR := Lib.hid hR; clear hR
  have egx : ∀ args w, (callFunc 148 args).run Tryz.prog w = .ok (.enter 148 args) w := enters_of Tryz.func148 (by kernel_rfl) rfl
  have y1 := fld1
  go_enter Tryz.func148, Tryz.ntmps148
  go_wp2_with (first | ((with_reducible refine (hch.q (Hid.out (by assumption)) (ne_out HR HN)).mono ?_); rintro e v1 hz; rcases hz.split HR with ⟨a1, s1, rfl, K1, HQ, ha⟩ | ⟨er, sx, rfl, rfl, hb⟩; rotate_left; (exact ⟨rfl, AnsR.err hb⟩); clear HR hz; have HR := HQ; clear HQ; have B1 := Lib.hid ha; (try (obtain ⟨f0, f1, f2, f3, f4, f5, f6, f7, f8, g0, g1, g2, g3, g4, g5, g6, g7, g8⟩ := nv9 ha.loc)); clear ha) | ((with_reducible refine (sign_q (Hid.out (by assumption))).mono ?_); rintro e v2 ⟨rfl, ha⟩; have B2 := Lib.hid ha; (try (obtain ⟨f0, f1, f2, f3, f4, f5, f6, f7, f8, g0, g1, g2, g3, g4, g5, g6, g7, g8⟩ := nv9 ha.loc)); clear ha) | ((with_reducible refine (assigns_q (Hid.out (by assumption))).mono ?_); rintro e v3 ⟨b, rfl, hx, ha⟩; cases b; all_goals ((first | (have HQ := ite_T HR hx) | (have HQ := ite_F HR (ne_true_of_eq_false hx))); clear HR; have HR := HQ; clear HQ hx; have B3 := Lib.hid ha; (try (obtain ⟨f0, f1, f2, f3, f4, f5, f6, f7, f8, g0, g1, g2, g3, g4, g5, g6, g7, g8⟩ := nv9 ha.loc)); clear ha)) | ((with_reducible refine (node_q (Hid.out (by assumption))).mono ?_); rintro e v4 ⟨rfl, ha, hc⟩; have B4 := Lib.hid ha; have C4 := Lib.hid hc; dsimp only [ndV]; clear ha hc) | ((with_reducible refine (take_q (Hid.out (by assumption)) (ne_out HR HN)).mono ?_); rintro e v5 hz; rcases hz.split HR with ⟨a5, s5, rfl, K5, HQ, ha⟩ | ⟨er, sx, rfl, rfl, hb⟩; rotate_left; (exact ⟨rfl, AnsR.err hb⟩); clear HR hz; have HR := HQ; clear HQ; have B5 := Lib.hid ha; (try (obtain ⟨f0, f1, f2, f3, f4, f5, f6, f7, f8, g0, g1, g2, g3, g4, g5, g6, g7, g8⟩ := nv9 ha.loc)); have D := Lib.hid (ha.set 5 (.string (bt a5.text))); clear ha) | ((with_reducible refine (deeper_q hex egx (Hid.out (by assumption)) (ne_out HR HN)).mono ?_); rintro e v6 hz; rcases hz.split HR with ⟨a6, s6, rfl, K6, HQ, ha⟩ | ⟨er, sx, rfl, rfl, hb⟩; rotate_left; (exact ⟨rfl, AnsR.err hb⟩); clear HR hz; have HR := HQ; clear HQ; have B6 := Lib.hid ha; (try (obtain ⟨f0, f1, f2, f3, f4, f5, f6, f7, f8, g0, g1, g2, g3, g4, g5, g6, g7, g8⟩ := nv9 ha.loc)); have D := Lib.hid ((ha.set 1 (.int .i64 a1)).set 2 (.int .i64 a6)); clear ha) | ((with_reducible refine (add_q (Hid.out (by assumption)) (ne_out1 HR HN)).mono ?_); rintro e v7 hz; rcases hz.split1 HR with ⟨a7, s7, rfl, rfl, ha⟩ | ⟨er, sx, rfl, rfl, hb⟩; rotate_left; (exact ⟨rfl, AnsR.err hb⟩); clear HR hz; have B7 := Lib.hid ha; clear ha))
  all_goals (go_ret; first | exact AnsR.end1 HR (Hid.out (by assumption)) | exact AnsR.ret (Hid.out (by assumption)))
set_option maxHeartbeats 2000000 in
theorem ch_q (hex : ReadsR c E 148 (rec .ex)) (hch : ReadsR c E 150 (rec .ch)) (hbi : ReadsBR c E 2 (rec (.bi 2))) : ReadsR c E 150 (chM rec E) := by
  intro w vn vt s hN hq
  have A0 := Lib.hid (At.start hq); clear hq
  have HN := Lib.hid hN; clear hN
  obtain ⟨R, hR⟩ : ∃ R, chM rec E s = R := ⟨_, rfl⟩
  rw [hR] at HN ⊢
  unfold chM at hR
  have HR := Lib.hid hR; clear hR
  have egx : ∀ args w, (callFunc 148 args).run Tryz.prog w = .ok (.enter 148 args) w := enters_of Tryz.func148 (by kernel_rfl) rfl
  have egc : ∀ args w, (callFunc 150 args).run Tryz.prog w = .ok (.enter 150 args) w := enters_of Tryz.func150 (by kernel_rfl) rfl
  go_enter Tryz.func150, Tryz.ntmps150
  go_wp2_with (first | ((with_reducible refine (hbi.q (Hid.out (by assumption)) (ne_out HR HN)).mono ?_); rintro e v1 hz; rcases hz.split HR with ⟨a1, s1, rfl, K1, HQ, ha⟩ | ⟨er, sx, rfl, rfl, hb⟩; rotate_left; (exact ⟨rfl, AnsR.err hb⟩); clear HR hz; have HR := HQ; clear HQ; have B1 := Lib.hid ha; (try (obtain ⟨f0, f1, f2, f3, f4, f5, f6, f7, f8, g0, g1, g2, g3, g4, g5, g6, g7, g8⟩ := nv9 ha.loc)); clear ha) | ((with_reducible refine (is_q (Hid.out (by assumption))).mono ?_); rintro e v2 ⟨b, rfl, hx, ha⟩; cases b; all_goals ((first | (have HQ := ite_T HR hx) | (have HQ := ite_F HR (ne_true_of_eq_false hx))); clear HR; have HR := HQ; clear HQ hx; have B2 := Lib.hid ha; (try (obtain ⟨f0, f1, f2, f3, f4, f5, f6, f7, f8, g0, g1, g2, g3, g4, g5, g6, g7, g8⟩ := nv9 ha.loc)); clear ha)) | ((with_reducible refine (node_q (Hid.out (by assumption))).mono ?_); rintro e v4 ⟨rfl, ha, hc⟩; have B4 := Lib.hid ha; have C4 := Lib.hid hc; dsimp only [ndV]; clear ha hc) | ((with_reducible refine (take_q (Hid.out (by assumption)) (ne_out HR HN)).mono ?_); rintro e v5 hz; rcases hz.split HR with ⟨a5, s5, rfl, K5, HQ, ha⟩ | ⟨er, sx, rfl, rfl, hb⟩; rotate_left; (exact ⟨rfl, AnsR.err hb⟩); clear HR hz; have HR := HQ; clear HQ; have B5 := Lib.hid ha; (try (obtain ⟨f0, f1, f2, f3, f4, f5, f6, f7, f8, g0, g1, g2, g3, g4, g5, g6, g7, g8⟩ := nv9 ha.loc)); clear ha) | ((with_reducible refine (deeper_q hex egx (Hid.out (by assumption)) (ne_out HR HN)).mono ?_); rintro e v6 hz; rcases hz.split HR with ⟨a6, s6, rfl, K6, HQ, ha⟩ | ⟨er, sx, rfl, rfl, hb⟩; rotate_left; (exact ⟨rfl, AnsR.err hb⟩); clear HR hz; have HR := HQ; clear HQ; have B6 := Lib.hid ha; (try (obtain ⟨f0, f1, f2, f3, f4, f5, f6, f7, f8, g0, g1, g2, g3, g4, g5, g6, g7, g8⟩ := nv9 ha.loc)); have D := Lib.hid ((ha.set 1 (.int .i64 a1)).set 2 (.int .i64 a6)); clear ha) | ((with_reducible refine (need_q (Hid.out (by assumption)) (ne_out HR HN)).mono ?_); rintro e v7 hz; rcases hz.split HR with ⟨a7, s7, rfl, K7, HQ, ha⟩ | ⟨er, sx, rfl, rfl, hb⟩; rotate_left; (exact ⟨rfl, AnsR.err hb⟩); clear HR hz; have HR := HQ; clear HQ; have B7 := Lib.hid ha; (try (obtain ⟨f0, f1, f2, f3, f4, f5, f6, f7, f8, g0, g1, g2, g3, g4, g5, g6, g7, g8⟩ := nv9 ha.loc)); clear ha) | ((with_reducible refine (deeper_q hch egc (Hid.out (by assumption)) (ne_out HR HN)).mono ?_); rintro e v8 hz; rcases hz.split HR with ⟨a8, s8, rfl, K8, HQ, ha⟩ | ⟨er, sx, rfl, rfl, hb⟩; rotate_left; (exact ⟨rfl, AnsR.err hb⟩); clear HR hz; have HR := HQ; clear HQ; have B8 := Lib.hid ha; (try (obtain ⟨f0, f1, f2, f3, f4, f5, f6, f7, f8, g0, g1, g2, g3, g4, g5, g6, g7, g8⟩ := nv9 ha.loc)); have D := Lib.hid (ha.set 3 (.int .i64 a8)); clear ha) | ((with_reducible refine (add_q (Hid.out (by assumption)) (ne_out1 HR HN)).mono ?_); rintro e v9 hz; rcases hz.split1 HR with ⟨a9, s9, rfl, rfl, ha⟩ | ⟨er, sx, rfl, rfl, hb⟩; rotate_left; (exact ⟨rfl, AnsR.err hb⟩); clear HR hz; have B9 := Lib.hid ha; clear ha))
  all_goals (go_ret; first | exact AnsR.end1 HR (Hid.out (by assumption)) | exact AnsR.ret (Hid.out (by assumption)))
theorem bracket_q (hex : ReadsR c E 148 (rec .ex)) : ReadsR c E 144 (bracketM rec E) := by
  intro w vn vt s hN hq
  have A0 := Lib.hid (At.start hq); clear hq
  have HN := Lib.hid hN; clear hN
  obtain ⟨R, hR⟩ : ∃ R, bracketM rec E s = R := ⟨_, rfl⟩
  rw [hR] at HN ⊢
  unfold bracketM at hR
  have HR := Lib.hid hR; clear hR
  have egx : ∀ args w, (callFunc 148 args).run Tryz.prog w = .ok (.enter 148 args) w := enters_of Tryz.func148 (by kernel_rfl) rfl
  go_enter Tryz.func144, Tryz.ntmps144
  go_wp2_with (first | ((with_reducible refine (need_q (Hid.out (by assumption)) (ne_out HR HN)).mono ?_); rintro e v1 hz; rcases hz.split HR with ⟨a1, s1, rfl, K1, HQ, ha⟩ | ⟨er, sx, rfl, rfl, hb⟩; rotate_left; (exact ⟨rfl, AnsR.err hb⟩); clear HR hz; have HR := HQ; clear HQ; have B1 := Lib.hid ha; (try (obtain ⟨f0, f1, f2, f3, f4, f5, f6, f7, f8, g0, g1, g2, g3, g4, g5, g6, g7, g8⟩ := nv9 ha.loc)); clear ha) | ((with_reducible refine (deeper_q hex egx (Hid.out (by assumption)) (ne_out HR HN)).mono ?_); rintro e v2 hz; rcases hz.split HR with ⟨a2, s2, rfl, K2, HQ, ha⟩ | ⟨er, sx, rfl, rfl, hb⟩; rotate_left; (exact ⟨rfl, AnsR.err hb⟩); clear HR hz; have HR := HQ; clear HQ; have B2 := Lib.hid ha; (try (obtain ⟨f0, f1, f2, f3, f4, f5, f6, f7, f8, g0, g1, g2, g3, g4, g5, g6, g7, g8⟩ := nv9 ha.loc)); clear ha))
  all_goals (go_ret; first | exact AnsR.end1 HR (Hid.out (by assumption)) | exact AnsR.ret (Hid.out (by assumption)))
theorem arg_q (hex : ReadsR c E 148 (rec .ex)) : ReadsR c E 160 (deepM (rec .ex)) := by
  intro w vn vt s hN hq
  have A0 := Lib.hid (At.start hq); clear hq
  have HN := Lib.hid hN; clear hN
  obtain ⟨R, hR⟩ : ∃ R, deepM (rec .ex) s = R := ⟨_, rfl⟩
  rw [hR] at HN ⊢
  have HR := Lib.hid hR; clear hR
  have egx : ∀ args w, (callFunc 148 args).run Tryz.prog w = .ok (.enter 148 args) w := enters_of Tryz.func148 (by kernel_rfl) rfl
  go_enter Tryz.func160, Tryz.ntmps160
  go_wp2_with ((with_reducible refine (deeper_q hex egx (Hid.out (by assumption)) (ne_out1 HR HN)).mono ?_); rintro e v1 hz; rcases hz.split1 HR with ⟨a1, s1, rfl, rfl, ha⟩ | ⟨er, sx, rfl, rfl, hb⟩; rotate_left; (exact ⟨rfl, AnsR.err hb⟩); clear HR hz; have B1 := Lib.hid ha; clear ha)
  all_goals (go_ret; first | exact AnsR.end1 HR (Hid.out (by assumption)) | exact AnsR.ret (Hid.out (by assumption)))
set_option maxHeartbeats 2000000 in
theorem size_q {f : Nat} : ReadsR c E 157 (sizeM f E) := by
  intro w vn vt s hN hq
  have A0 := Lib.hid (At.start hq); clear hq
  have HN := Lib.hid hN; clear hN
  obtain ⟨R, hR⟩ : ∃ R, sizeM f E s = R := ⟨_, rfl⟩
  rw [hR] at HN ⊢
  unfold sizeM at hR
  have HR := Lib.hid hR; clear hR
  go_enter Tryz.func157, Tryz.ntmps157
  go_wp2_with (first | ((with_reducible refine (node_q (Hid.out (by assumption))).mono ?_); rintro e v1 ⟨rfl, ha, hc⟩; have B1 := Lib.hid ha; have C1 := Lib.hid hc; dsimp only [ndV]; clear ha hc) | ((with_reducible refine (need_q (Hid.out (by assumption)) (ne_out HR HN)).mono ?_); rintro e v2 hz; rcases hz.split HR with ⟨a2, s2, rfl, K2, HQ, ha⟩ | ⟨er, sx, rfl, rfl, hb⟩; rotate_left; (exact ⟨rfl, AnsR.err hb⟩); clear HR hz; have HR := HQ; clear HQ; have B2 := Lib.hid ha; (try (obtain ⟨f0, f1, f2, f3, f4, f5, f6, f7, f8, g0, g1, g2, g3, g4, g5, g6, g7, g8⟩ := nv9 ha.loc)); clear ha) | ((with_reducible refine (typed_q (Hid.out (by assumption)) (ne_out HR HN)).mono ?_); rintro e v4 hz; rcases hz.split HR with ⟨a4, s4, rfl, K4, HQ, ha⟩ | ⟨er, sx, rfl, rfl, hb⟩; rotate_left; (exact ⟨rfl, AnsR.err hb⟩); clear HR hz; have HR := HQ; clear HQ; have B4 := Lib.hid ha; (try (obtain ⟨f0, f1, f2, f3, f4, f5, f6, f7, f8, g0, g1, g2, g3, g4, g5, g6, g7, g8⟩ := nv9 ha.loc)); have D := Lib.hid (ha.set 7 (.int .i64 a4)); clear ha) | ((with_reducible refine (counted_q (Hid.out (by assumption)) (ne_out HR HN)).mono ?_); rintro e v5 hz; rcases hz.split HR with ⟨a5, s5, rfl, K5, HQ, ha⟩ | ⟨er, sx, rfl, rfl, hb⟩; rotate_left; (exact ⟨rfl, AnsR.err hb⟩); clear HR hz; have HR := HQ; clear HQ; have B5 := Lib.hid ha; (try (obtain ⟨f0, f1, f2, f3, f4, f5, f6, f7, f8, g0, g1, g2, g3, g4, g5, g6, g7, g8⟩ := nv9 ha.loc)); have D := Lib.hid (ha.set 7 (.int .i64 a5)); clear ha) | ((with_reducible refine (add_q (Hid.out (by assumption)) (ne_out1 HR HN)).mono ?_); rintro e v7 hz; rcases hz.split1 HR with ⟨a7, s7, rfl, rfl, ha⟩ | ⟨er, sx, rfl, rfl, hb⟩; rotate_left; (exact ⟨rfl, AnsR.err hb⟩); clear HR hz; have B7 := Lib.hid ha; clear ha))
  all_goals (go_ret; first | exact AnsR.end1 HR (Hid.out (by assumption)) | exact AnsR.ret (Hid.out (by assumption)))
set_option maxHeartbeats 2000000 in
theorem bi_q {f : Nat} {l : Int} (hpr : ReadsR c E 156 (rec .pr)) (hbi : ∀ l, ReadsBR c E l (rec (.bi l))) : ReadsBR c E l (biM f rec E l) := by
  intro w vn vt s hN hq
  have A0 := Lib.hid (At.start hq); clear hq
  have HN := Lib.hid hN; clear hN
  obtain ⟨R, hR⟩ : ∃ R, biM f rec E l s = R := ⟨_, rfl⟩
  rw [hR] at HN ⊢
  unfold biM at hR
  have HR := Lib.hid hR; clear hR
  have y1 := fld1
  go_enter Tryz.func154, Tryz.ntmps154
  go_wp2_with ((with_reducible refine (hpr.q (Hid.out (by assumption)) (ne_out HR HN)).mono ?_); rintro e v1 hz; rcases hz.split HR with ⟨a1, s1, rfl, K1, HQ, ha⟩ | ⟨er, sx, rfl, rfl, hb⟩; rotate_left; (exact ⟨rfl, AnsR.err hb⟩); clear HR hz; have HR := HQ; clear HQ; have B1 := Lib.hid ha; (try (obtain ⟨f0, f1, f2, f3, f4, f5, f6, f7, f8, g0, g1, g2, g3, g4, g5, g6, g7, g8⟩ := nv9 ha.loc)); clear ha)
  go_loopg [5] f (fun g o wr => ∃ (q : Int) (s1 : S), o = .int .i64 q ∧ Hid (biML rec E g l q s1 = R) ∧ Hid (At w c vn vt E s1 [] wr))
  case atStart => exact ⟨_, _, rfl, HR, B1⟩
  case round =>
    clear B1 HR
    obtain ⟨q, s1, rfl, HS, B1⟩ := hrel
    cases gk with
    | zero => exact absurd HS.out.symm HN.out
    | succ g =>
      have hs := HS.out
      unfold biML at hs
      obtain ⟨k, hk⟩ : ∃ k, strength (sgn E s1) = k := ⟨_, rfl⟩
      have hk1 := strength_le (sgn E s1)
      rw [hk] at hs hk1
      obtain ⟨hk0, hk11⟩ := hk1
      have HK := Lib.hid hk; clear hk HS
      by_cases hl : k < l
      · rw [if_pos hl] at hs
        have HR := Lib.hid hs; clear hs
        go_wp2_with (first | ((with_reducible refine (sign_q (Hid.out (by assumption))).mono ?_); rintro e v2 ⟨rfl, ha⟩; have B2 := Lib.hid ha; (try (obtain ⟨f0, f1, f2, f3, f4, f5, f6, f7, f8, g0, g1, g2, g3, g4, g5, g6, g7, g8⟩ := nv9 ha.loc)); clear ha) | ((with_reducible refine (strength_a (Hid.out (by assumption)) HK.out).mono ?_); rintro e v3 ⟨rfl, ha⟩; have B3 := Lib.hid ha; (try (obtain ⟨f0, f1, f2, f3, f4, f5, f6, f7, f8, g0, g1, g2, g3, g4, g5, g6, g7, g8⟩ := nv9 ha.loc)); clear ha))
        all_goals (go_ret; first | exact AnsR.end1 HR (Hid.out (by assumption)) | exact AnsR.ret (Hid.out (by assumption)))
      · rw [if_neg hl] at hs
        have HR := Lib.hid hs; clear hs
        go_wp2_with (first | ((with_reducible refine (sign_q (Hid.out (by assumption))).mono ?_); rintro e v2 ⟨rfl, ha⟩; have B2 := Lib.hid ha; (try (obtain ⟨f0, f1, f2, f3, f4, f5, f6, f7, f8, g0, g1, g2, g3, g4, g5, g6, g7, g8⟩ := nv9 ha.loc)); clear ha) | ((with_reducible refine (strength_a (Hid.out (by assumption)) HK.out).mono ?_); rintro e v3 ⟨rfl, ha⟩; have B3 := Lib.hid ha; (try (obtain ⟨f0, f1, f2, f3, f4, f5, f6, f7, f8, g0, g1, g2, g3, g4, g5, g6, g7, g8⟩ := nv9 ha.loc)); clear ha) | ((with_reducible refine (node_q (Hid.out (by assumption))).mono ?_); rintro e v4 ⟨rfl, ha, hc⟩; have B4 := Lib.hid ha; have C4 := Lib.hid hc; dsimp only [ndV]; clear ha hc) | ((with_reducible refine (take_q (Hid.out (by assumption)) (ne_out HR HN)).mono ?_); rintro e v5 hz; rcases hz.split HR with ⟨a5, s5, rfl, K5, HQ, ha⟩ | ⟨er, sx, rfl, rfl, hb⟩; rotate_left; (exact ⟨rfl, AnsR.err hb⟩); clear HR hz; have HR := HQ; clear HQ; have B5 := Lib.hid ha; (try (obtain ⟨f0, f1, f2, f3, f4, f5, f6, f7, f8, g0, g1, g2, g3, g4, g5, g6, g7, g8⟩ := nv9 ha.loc)); have D := Lib.hid (ha.set 5 (.string (bt a5.text))); clear ha) | ((with_reducible refine ((hbi _).q (Hid.out (by assumption)) (ne_out HR HN)).mono ?_); rintro e v6 hz; rcases hz.split HR with ⟨a6, s6, rfl, K6, HQ, ha⟩ | ⟨er, sx, rfl, rfl, hb⟩; rotate_left; (exact ⟨rfl, AnsR.err hb⟩); clear HR hz; have HR := HQ; clear HQ; have B6 := Lib.hid ha; (try (obtain ⟨f0, f1, f2, f3, f4, f5, f6, f7, f8, g0, g1, g2, g3, g4, g5, g6, g7, g8⟩ := nv9 ha.loc)); have D := Lib.hid ((ha.set 1 (.int .i64 q)).set 2 (.int .i64 a6)); clear ha) | ((with_reducible refine (add_q (Hid.out (by assumption)) (ne_out HR HN)).mono ?_); rintro e v7 hz; rcases hz.split HR with ⟨a7, s7, rfl, K7, HQ, ha⟩ | ⟨er, sx, rfl, rfl, hb⟩; rotate_left; (exact ⟨rfl, AnsR.err hb⟩); clear HR hz; have HR := HQ; clear HQ; have B7 := Lib.hid ha; (try (obtain ⟨f0, f1, f2, f3, f4, f5, f6, f7, f8, g0, g1, g2, g3, g4, g5, g6, g7, g8⟩ := nv9 ha.loc)); clear ha))
        go_roundg g
        case rel => exact ⟨_, _, rfl, HR, Lib.hid B7.out.nil⟩
        case measure => omega
end Go.Proofs.YtaamllikceaifaaGreatDoor
namespace Go.Proofs.YtaamllikceaifaaGreatDoor
open Go.RowKit Sp Tr
set_option linter.unusedVariables false

variable {c : PC} {E : PE} {rec : NTm → S → Tr.Res Int}
set_option maxHeartbeats 2000000 in
theorem pr_q {f : Nat} (hpr : ReadsR c E 156 (rec .pr)) (hsz : ReadsR c E 157 (sizeM f E)) (hpo : ReadsR c E 158 (postM f rec E)) : ReadsR c E 156 (prM f rec E) := by
  intro w vn vt s hN hq
  have A0 := Lib.hid (At.start hq); clear hq
  have HN := Lib.hid hN; clear hN
  obtain ⟨R, hR⟩ : ∃ R, prM f rec E s = R := ⟨_, rfl⟩
  rw [hR] at HN ⊢
  unfold prM at hR
  have egp : ∀ args w, (callFunc 156 args).run Tryz.prog w = .ok (.enter 156 args) w := enters_of Tryz.func156 (by kernel_rfl) rfl
  have y1 := fld1
  obtain ⟨o, ho⟩ : ∃ o, sgn E s = o := ⟨_, rfl⟩
  rw [ho] at hR
  have HO := Lib.hid ho; clear ho
  by_cases hz : isT E s wSizeof = true
  · rw [if_pos hz] at hR
    have HR := Lib.hid hR
    have HZ := Lib.hid hz
    clear hR hz
    go_enter Tryz.func156, Tryz.ntmps156
    go_wp2_with (first | ((with_reducible refine (is_a (Hid.out (by assumption)) HZ.out).mono ?_); rintro e v1 ⟨rfl, ha⟩; have B1 := Lib.hid ha; (try (obtain ⟨f0, f1, f2, f3, f4, f5, f6, f7, f8, g0, g1, g2, g3, g4, g5, g6, g7, g8⟩ := nv9 ha.loc)); clear ha) | ((with_reducible refine (hsz.q (Hid.out (by assumption)) (ne_out1 HR HN)).mono ?_); rintro e v2 hz; rcases hz.split1 HR with ⟨a2, s2, rfl, rfl, ha⟩ | ⟨er, sx, rfl, rfl, hb⟩; rotate_left; (exact ⟨rfl, AnsR.err hb⟩); clear HR hz; have B2 := Lib.hid ha; clear ha))
    all_goals (go_ret; first | exact AnsR.end1 HR (Hid.out (by assumption)) | exact AnsR.ret (Hid.out (by assumption)))
  rw [if_neg hz] at hR
  have HZ := Lib.hid (bfalse hz); clear hz
  by_cases hb : frontsA.contains o = true
  · rw [if_pos hb] at hR
    have HR := Lib.hid hR; clear hR
    simp [frontsA] at hb
    rcases hb with rfl | rfl | rfl | rfl | rfl
    all_goals
      go_enter Tryz.func156, Tryz.ntmps156
      go_wp2_with (first | ((with_reducible refine (is_a (Hid.out (by assumption)) HZ.out).mono ?_); rintro e v1 ⟨rfl, ha⟩; have B1 := Lib.hid ha; (try (obtain ⟨f0, f1, f2, f3, f4, f5, f6, f7, f8, g0, g1, g2, g3, g4, g5, g6, g7, g8⟩ := nv9 ha.loc)); clear ha) | ((with_reducible refine (node_q (Hid.out (by assumption))).mono ?_); rintro e v2 ⟨rfl, ha, hc⟩; have B2 := Lib.hid ha; have C2 := Lib.hid hc; dsimp only [ndV]; clear ha hc) | ((with_reducible refine (sign_a (Hid.out (by assumption)) HO.out).mono ?_); rintro e v3 ⟨rfl, ha⟩; have B3 := Lib.hid ha; (try (obtain ⟨f0, f1, f2, f3, f4, f5, f6, f7, f8, g0, g1, g2, g3, g4, g5, g6, g7, g8⟩ := nv9 ha.loc)); clear ha) | ((with_reducible refine (take_q (Hid.out (by assumption)) (ne_out HR HN)).mono ?_); rintro e v5 hz; rcases hz.split HR with ⟨a5, s5, rfl, K5, HQ, ha⟩ | ⟨er, sx, rfl, rfl, hb⟩; rotate_left; (exact ⟨rfl, AnsR.err hb⟩); clear HR hz; have HR := HQ; clear HQ; have B5 := Lib.hid ha; (try (obtain ⟨f0, f1, f2, f3, f4, f5, f6, f7, f8, g0, g1, g2, g3, g4, g5, g6, g7, g8⟩ := nv9 ha.loc)); have D := Lib.hid (ha.set 5 (.string (bt a5.text))); clear ha) | ((with_reducible refine (deeper_q hpr egp (Hid.out (by assumption)) (ne_out HR HN)).mono ?_); rintro e v6 hz; rcases hz.split HR with ⟨a6, s6, rfl, K6, HQ, ha⟩ | ⟨er, sx, rfl, rfl, hb⟩; rotate_left; (exact ⟨rfl, AnsR.err hb⟩); clear HR hz; have HR := HQ; clear HQ; have B6 := Lib.hid ha; (try (obtain ⟨f0, f1, f2, f3, f4, f5, f6, f7, f8, g0, g1, g2, g3, g4, g5, g6, g7, g8⟩ := nv9 ha.loc)); have D := Lib.hid (ha.set 1 (.int .i64 a6)); clear ha) | ((with_reducible refine (add_q (Hid.out (by assumption)) (ne_out1 HR HN)).mono ?_); rintro e v7 hz; rcases hz.split1 HR with ⟨a7, s7, rfl, rfl, ha⟩ | ⟨er, sx, rfl, rfl, hb⟩; rotate_left; (exact ⟨rfl, AnsR.err hb⟩); clear HR hz; have B7 := Lib.hid ha; clear ha))
      all_goals (go_ret; first | exact AnsR.end1 HR (Hid.out (by assumption)) | exact AnsR.ret (Hid.out (by assumption)))
  rw [if_neg hb] at hR
  have hb' := bfalse hb
  simp [frontsA] at hb'
  obtain ⟨b0, b1, b2, b3, b4⟩ := hb'
  clear hb
  by_cases hi : o = [43, 43] ∨ o = [45, 45]
  · rw [if_pos hi] at hR
    have HR := Lib.hid hR; clear hR b0 b1 b2 b3 b4
    rcases hi with rfl | rfl
    all_goals
      go_enter Tryz.func156, Tryz.ntmps156
      go_wp2_with (first | ((with_reducible refine (is_a (Hid.out (by assumption)) HZ.out).mono ?_); rintro e v1 ⟨rfl, ha⟩; have B1 := Lib.hid ha; (try (obtain ⟨f0, f1, f2, f3, f4, f5, f6, f7, f8, g0, g1, g2, g3, g4, g5, g6, g7, g8⟩ := nv9 ha.loc)); clear ha) | ((with_reducible refine (node_q (Hid.out (by assumption))).mono ?_); rintro e v2 ⟨rfl, ha, hc⟩; have B2 := Lib.hid ha; have C2 := Lib.hid hc; dsimp only [ndV]; clear ha hc) | ((with_reducible refine (sign_a (Hid.out (by assumption)) HO.out).mono ?_); rintro e v3 ⟨rfl, ha⟩; have B3 := Lib.hid ha; (try (obtain ⟨f0, f1, f2, f3, f4, f5, f6, f7, f8, g0, g1, g2, g3, g4, g5, g6, g7, g8⟩ := nv9 ha.loc)); clear ha) | ((with_reducible refine (take_q (Hid.out (by assumption)) (ne_out HR HN)).mono ?_); rintro e v5 hz; rcases hz.split HR with ⟨a5, s5, rfl, K5, HQ, ha⟩ | ⟨er, sx, rfl, rfl, hb⟩; rotate_left; (exact ⟨rfl, AnsR.err hb⟩); clear HR hz; have HR := HQ; clear HQ; have B5 := Lib.hid ha; (try (obtain ⟨f0, f1, f2, f3, f4, f5, f6, f7, f8, g0, g1, g2, g3, g4, g5, g6, g7, g8⟩ := nv9 ha.loc)); have D := Lib.hid ((ha.set 0 (.int .i64 12)).set 5 (.string (bt a5.text))); clear ha) | ((with_reducible refine (deeper_q hpr egp (Hid.out (by assumption)) (ne_out HR HN)).mono ?_); rintro e v6 hz; rcases hz.split HR with ⟨a6, s6, rfl, K6, HQ, ha⟩ | ⟨er, sx, rfl, rfl, hb⟩; rotate_left; (exact ⟨rfl, AnsR.err hb⟩); clear HR hz; have HR := HQ; clear HQ; have B6 := Lib.hid ha; (try (obtain ⟨f0, f1, f2, f3, f4, f5, f6, f7, f8, g0, g1, g2, g3, g4, g5, g6, g7, g8⟩ := nv9 ha.loc)); have D := Lib.hid (ha.set 1 (.int .i64 a6)); clear ha) | ((with_reducible refine (add_q (Hid.out (by assumption)) (ne_out1 HR HN)).mono ?_); rintro e v7 hz; rcases hz.split1 HR with ⟨a7, s7, rfl, rfl, ha⟩ | ⟨er, sx, rfl, rfl, hb⟩; rotate_left; (exact ⟨rfl, AnsR.err hb⟩); clear HR hz; have B7 := Lib.hid ha; clear ha))
      all_goals (go_ret; first | exact AnsR.end1 HR (Hid.out (by assumption)) | exact AnsR.ret (Hid.out (by assumption)))
  rw [if_neg hi] at hR
  obtain ⟨b5, b6⟩ := not_or.1 hi
  clear hi
  by_cases hp : o = [40]
  · rw [if_pos hp] at hR
    subst hp
    obtain ⟨tk, htk⟩ : ∃ tk, ahd E s 1 = tk := ⟨_, rfl⟩
    rw [htk] at hR
    have HK := Lib.hid htk
    have HR := Lib.hid hR; clear hR b0 b1 b2 b3 b4 b5 b6 htk
    go_enter Tryz.func156, Tryz.ntmps156
    go_wp2_with (first | ((with_reducible refine (is_a (Hid.out (by assumption)) HZ.out).mono ?_); rintro e v1 ⟨rfl, ha⟩; have B1 := Lib.hid ha; (try (obtain ⟨f0, f1, f2, f3, f4, f5, f6, f7, f8, g0, g1, g2, g3, g4, g5, g6, g7, g8⟩ := nv9 ha.loc)); clear ha) | ((with_reducible refine (node_q (Hid.out (by assumption))).mono ?_); rintro e v2 ⟨rfl, ha, hc⟩; have B2 := Lib.hid ha; have C2 := Lib.hid hc; dsimp only [ndV]; clear ha hc) | ((with_reducible refine (sign_a (Hid.out (by assumption)) HO.out).mono ?_); rintro e v3 ⟨rfl, ha⟩; have B3 := Lib.hid ha; (try (obtain ⟨f0, f1, f2, f3, f4, f5, f6, f7, f8, g0, g1, g2, g3, g4, g5, g6, g7, g8⟩ := nv9 ha.loc)); clear ha) | ((with_reducible refine (ahead1_a (Hid.out (by assumption)) HK.out).mono ?_); rintro e v4 ⟨rfl, ha⟩; have B4 := Lib.hid ha; (try (obtain ⟨f0, f1, f2, f3, f4, f5, f6, f7, f8, g0, g1, g2, g3, g4, g5, g6, g7, g8⟩ := nv9 ha.loc)); clear ha) | ((with_reducible refine (begins_q (Hid.out (by assumption))).mono ?_); rintro e v5 ⟨b, rfl, hx, ha⟩; cases b; all_goals ((first | (have HQ := ite_T HR hx) | (have HQ := ite_F HR (ne_true_of_eq_false hx))); clear HR; have HR := HQ; clear HQ hx; have B5 := Lib.hid ha; (try (obtain ⟨f0, f1, f2, f3, f4, f5, f6, f7, f8, g0, g1, g2, g3, g4, g5, g6, g7, g8⟩ := nv9 ha.loc)); clear ha)) | ((with_reducible refine (take_q (Hid.out (by assumption)) (ne_out HR HN)).mono ?_); rintro e v6 hz; rcases hz.split HR with ⟨a6, s6, rfl, K6, HQ, ha⟩ | ⟨er, sx, rfl, rfl, hb⟩; rotate_left; (exact ⟨rfl, AnsR.err hb⟩); clear HR hz; have HR := HQ; clear HQ; have B6 := Lib.hid ha; (try (obtain ⟨f0, f1, f2, f3, f4, f5, f6, f7, f8, g0, g1, g2, g3, g4, g5, g6, g7, g8⟩ := nv9 ha.loc)); clear ha) | ((with_reducible refine (typed_q (Hid.out (by assumption)) (ne_out HR HN)).mono ?_); rintro e v7 hz; rcases hz.split HR with ⟨a7, s7, rfl, K7, HQ, ha⟩ | ⟨er, sx, rfl, rfl, hb⟩; rotate_left; (exact ⟨rfl, AnsR.err hb⟩); clear HR hz; have HR := HQ; clear HQ; have B7 := Lib.hid ha; (try (obtain ⟨f0, f1, f2, f3, f4, f5, f6, f7, f8, g0, g1, g2, g3, g4, g5, g6, g7, g8⟩ := nv9 ha.loc)); have D := Lib.hid ((ha.set 0 (.int .i64 10)).set 7 (.int .i64 a7)); clear ha) | ((with_reducible refine (need_q (Hid.out (by assumption)) (ne_out HR HN)).mono ?_); rintro e v8 hz; rcases hz.split HR with ⟨a8, s8, rfl, K8, HQ, ha⟩ | ⟨er, sx, rfl, rfl, hb⟩; rotate_left; (exact ⟨rfl, AnsR.err hb⟩); clear HR hz; have HR := HQ; clear HQ; have B8 := Lib.hid ha; (try (obtain ⟨f0, f1, f2, f3, f4, f5, f6, f7, f8, g0, g1, g2, g3, g4, g5, g6, g7, g8⟩ := nv9 ha.loc)); clear ha) | ((with_reducible refine (deeper_q hpr egp (Hid.out (by assumption)) (ne_out HR HN)).mono ?_); rintro e v9 hz; rcases hz.split HR with ⟨a9, s9, rfl, K9, HQ, ha⟩ | ⟨er, sx, rfl, rfl, hb⟩; rotate_left; (exact ⟨rfl, AnsR.err hb⟩); clear HR hz; have HR := HQ; clear HQ; have B9 := Lib.hid ha; (try (obtain ⟨f0, f1, f2, f3, f4, f5, f6, f7, f8, g0, g1, g2, g3, g4, g5, g6, g7, g8⟩ := nv9 ha.loc)); have D := Lib.hid (ha.set 1 (.int .i64 a9)); clear ha) | ((with_reducible refine (add_q (Hid.out (by assumption)) (ne_out1 HR HN)).mono ?_); rintro e v10 hz; rcases hz.split1 HR with ⟨a10, s10, rfl, rfl, ha⟩ | ⟨er, sx, rfl, rfl, hb⟩; rotate_left; (exact ⟨rfl, AnsR.err hb⟩); clear HR hz; have B10 := Lib.hid ha; clear ha) | ((with_reducible refine (hpo.q (Hid.out (by assumption)) (ne_out1 HR HN)).mono ?_); rintro e v11 hz; rcases hz.split1 HR with ⟨a11, s11, rfl, rfl, ha⟩ | ⟨er, sx, rfl, rfl, hb⟩; rotate_left; (exact ⟨rfl, AnsR.err hb⟩); clear HR hz; have B11 := Lib.hid ha; clear ha))
    all_goals (go_ret; first | exact AnsR.end1 HR (Hid.out (by assumption)) | exact AnsR.ret (Hid.out (by assumption)))
  rw [if_neg hp] at hR
  have HR := Lib.hid hR
  have e0 : (o == [45]) = false := by simpa using b0
  have e1 : (o == [33]) = false := by simpa using b1
  have e2 : (o == [126]) = false := by simpa using b2
  have e3 : (o == [42]) = false := by simpa using b3
  have e4 : (o == [38]) = false := by simpa using b4
  have e5 : (o == [43, 43]) = false := by simpa using b5
  have e6 : (o == [45, 45]) = false := by simpa using b6
  have e7 : (o == [40]) = false := by simpa using hp
  clear hR b0 b1 b2 b3 b4 b5 b6 hp
  go_enter Tryz.func156, Tryz.ntmps156
  go_wp2_with (first | ((with_reducible refine (is_a (Hid.out (by assumption)) HZ.out).mono ?_); rintro e v1 ⟨rfl, ha⟩; have B1 := Lib.hid ha; (try (obtain ⟨f0, f1, f2, f3, f4, f5, f6, f7, f8, g0, g1, g2, g3, g4, g5, g6, g7, g8⟩ := nv9 ha.loc)); clear ha) | ((with_reducible refine (node_q (Hid.out (by assumption))).mono ?_); rintro e v2 ⟨rfl, ha, hc⟩; have B2 := Lib.hid ha; have C2 := Lib.hid hc; dsimp only [ndV]; clear ha hc) | ((with_reducible refine (sign_a (Hid.out (by assumption)) HO.out).mono ?_); rintro e v3 ⟨rfl, ha⟩; have B3 := Lib.hid ha; (try (obtain ⟨f0, f1, f2, f3, f4, f5, f6, f7, f8, g0, g1, g2, g3, g4, g5, g6, g7, g8⟩ := nv9 ha.loc)); clear ha) | ((with_reducible refine (hpo.q (Hid.out (by assumption)) (ne_out1 HR HN)).mono ?_); rintro e v4 hz; rcases hz.split1 HR with ⟨a4, s4, rfl, rfl, ha⟩ | ⟨er, sx, rfl, rfl, hb⟩; rotate_left; (exact ⟨rfl, AnsR.err hb⟩); clear HR hz; have B4 := Lib.hid ha; clear ha))
  all_goals (go_ret; first | exact AnsR.end1 HR (Hid.out (by assumption)) | exact AnsR.ret (Hid.out (by assumption)))
set_option maxHeartbeats 2000000 in
theorem post_q {f : Nat} (hex : ReadsR c E 148 (rec .ex)) (hpm : ReadsR c E 159 (primM f rec E)) : ReadsR c E 158 (postM f rec E) := by
  intro w vn vt s hN hq
  have A0 := Lib.hid (At.start hq); clear hq
  have HN := Lib.hid hN; clear hN
  obtain ⟨R, hR⟩ : ∃ R, postM f rec E s = R := ⟨_, rfl⟩
  rw [hR] at HN ⊢
  unfold postM at hR
  have HR := Lib.hid hR; clear hR
  have egx : ∀ args w, (callFunc 148 args).run Tryz.prog w = .ok (.enter 148 args) w := enters_of Tryz.func148 (by kernel_rfl) rfl
  have y1 := fld1
  go_enter Tryz.func158, Tryz.ntmps158
  go_wp2_with ((with_reducible refine (hpm.q (Hid.out (by assumption)) (ne_out HR HN)).mono ?_); rintro e v1 hz; rcases hz.split HR with ⟨a1, s1, rfl, K1, HQ, ha⟩ | ⟨er, sx, rfl, rfl, hb⟩; rotate_left; (exact ⟨rfl, AnsR.err hb⟩); clear HR hz; have HR := HQ; clear HQ; have B1 := Lib.hid ha; (try (obtain ⟨f0, f1, f2, f3, f4, f5, f6, f7, f8, g0, g1, g2, g3, g4, g5, g6, g7, g8⟩ := nv9 ha.loc)); clear ha)
  go_loopg [3] f (fun g o wr => ∃ (q : Int) (s1 : S), o = .int .i64 q ∧ Hid (postML rec E g q s1 = R) ∧ Hid (At w c vn vt E s1 [] wr))
  case atStart => exact ⟨_, _, rfl, HR, B1⟩
  case round =>
    clear B1 HR
    obtain ⟨q, s1, rfl, HS, B1⟩ := hrel
    cases gk with
    | zero => exact absurd HS.out.symm HN.out
    | succ g =>
      have hs := HS.out
      unfold postML at hs
      obtain ⟨o, ho⟩ : ∃ o, sgn E s1 = o := ⟨_, rfl⟩
      rw [ho] at hs
      have HO := Lib.hid ho; clear ho HS
      by_cases b0 : o = [91]
      · rw [if_pos b0] at hs
        subst b0
        have HR := Lib.hid hs; clear hs
        go_wp2_with (first | ((with_reducible refine (node_q (Hid.out (by assumption))).mono ?_); rintro e v2 ⟨rfl, ha, hc⟩; have B2 := Lib.hid ha; have C2 := Lib.hid (ha.alloc (ndC ⟨8, q, -1, -1, -1, [], 0, 0, here E s1⟩)); dsimp only [ndV]; clear ha hc) | ((with_reducible refine (sign_a (Hid.out (by assumption)) HO.out).mono ?_); rintro e v3 ⟨rfl, ha⟩; have B3 := Lib.hid ha; (try (obtain ⟨f0, f1, f2, f3, f4, f5, f6, f7, f8, g0, g1, g2, g3, g4, g5, g6, g7, g8⟩ := nv9 ha.loc)); clear ha) | ((with_reducible refine (take_q (Hid.out (by assumption)) (ne_out HR HN)).mono ?_); rintro e v5 hz; rcases hz.split HR with ⟨a5, s5, rfl, K5, HQ, ha⟩ | ⟨er, sx, rfl, rfl, hb⟩; rotate_left; (exact ⟨rfl, AnsR.err hb⟩); clear HR hz; have HR := HQ; clear HQ; have B5 := Lib.hid ha; (try (obtain ⟨f0, f1, f2, f3, f4, f5, f6, f7, f8, g0, g1, g2, g3, g4, g5, g6, g7, g8⟩ := nv9 ha.loc)); clear ha) | ((with_reducible refine (deeper_q hex egx (Hid.out (by assumption)) (ne_out HR HN)).mono ?_); rintro e v6 hz; rcases hz.split HR with ⟨a6, s6, rfl, K6, HQ, ha⟩ | ⟨er, sx, rfl, rfl, hb⟩; rotate_left; (exact ⟨rfl, AnsR.err hb⟩); clear HR hz; have HR := HQ; clear HQ; have B6 := Lib.hid ha; (try (obtain ⟨f0, f1, f2, f3, f4, f5, f6, f7, f8, g0, g1, g2, g3, g4, g5, g6, g7, g8⟩ := nv9 ha.loc)); have D := Lib.hid ((ha.set 0 (.int .i64 7)).set 2 (.int .i64 a6)); clear ha) | ((with_reducible refine (need_q (Hid.out (by assumption)) (ne_out HR HN)).mono ?_); rintro e v7 hz; rcases hz.split HR with ⟨a7, s7, rfl, K7, HQ, ha⟩ | ⟨er, sx, rfl, rfl, hb⟩; rotate_left; (exact ⟨rfl, AnsR.err hb⟩); clear HR hz; have HR := HQ; clear HQ; have B7 := Lib.hid ha; (try (obtain ⟨f0, f1, f2, f3, f4, f5, f6, f7, f8, g0, g1, g2, g3, g4, g5, g6, g7, g8⟩ := nv9 ha.loc)); clear ha) | ((with_reducible refine (add_q (Hid.out (by assumption)) (ne_out HR HN)).mono ?_); rintro e v8 hz; rcases hz.split HR with ⟨a8, s8, rfl, K8, HQ, ha⟩ | ⟨er, sx, rfl, rfl, hb⟩; rotate_left; (exact ⟨rfl, AnsR.err hb⟩); clear HR hz; have HR := HQ; clear HQ; have B8 := Lib.hid ha; (try (obtain ⟨f0, f1, f2, f3, f4, f5, f6, f7, f8, g0, g1, g2, g3, g4, g5, g6, g7, g8⟩ := nv9 ha.loc)); clear ha))
        go_roundg g
        case rel => exact ⟨_, _, rfl, HR, Lib.hid B8.out.nil⟩
        case measure => omega
      rw [if_neg b0] at hs
      by_cases b1 : o = [46]
      · rw [if_pos b1] at hs
        subst b1
        have HR := Lib.hid hs; clear hs
        go_wp2_with (first | ((with_reducible refine (node_q (Hid.out (by assumption))).mono ?_); rintro e v2 ⟨rfl, ha, hc⟩; have B2 := Lib.hid ha; have C2 := Lib.hid (ha.alloc (ndC ⟨8, q, -1, -1, -1, [], 0, 0, here E s1⟩)); dsimp only [ndV]; clear ha hc) | ((with_reducible refine (sign_a (Hid.out (by assumption)) HO.out).mono ?_); rintro e v3 ⟨rfl, ha⟩; have B3 := Lib.hid ha; (try (obtain ⟨f0, f1, f2, f3, f4, f5, f6, f7, f8, g0, g1, g2, g3, g4, g5, g6, g7, g8⟩ := nv9 ha.loc)); clear ha) | ((with_reducible refine (take_q (Hid.out (by assumption)) (ne_out HR HN)).mono ?_); rintro e v5 hz; rcases hz.split HR with ⟨a5, s5, rfl, K5, HQ, ha⟩ | ⟨er, sx, rfl, rfl, hb⟩; rotate_left; (exact ⟨rfl, AnsR.err hb⟩); clear HR hz; have HR := HQ; clear HQ; have B5 := Lib.hid ha; (try (obtain ⟨f0, f1, f2, f3, f4, f5, f6, f7, f8, g0, g1, g2, g3, g4, g5, g6, g7, g8⟩ := nv9 ha.loc)); clear ha) | ((with_reducible refine (name_q (Hid.out (by assumption)) (ne_out HR HN)).mono ?_); rintro e v6 hz; rcases hz.split HR with ⟨a6, s6, rfl, K6, HQ, ha⟩ | ⟨er, sx, rfl, rfl, hb⟩; rotate_left; (exact ⟨rfl, AnsR.err hb⟩); clear HR hz; have HR := HQ; clear HQ; have B6 := Lib.hid ha; (try (obtain ⟨f0, f1, f2, f3, f4, f5, f6, f7, f8, g0, g1, g2, g3, g4, g5, g6, g7, g8⟩ := nv9 ha.loc)); have D := Lib.hid (ha.set 5 (.string (bt a6))); clear ha) | ((with_reducible refine (add_q (Hid.out (by assumption)) (ne_out HR HN)).mono ?_); rintro e v8 hz; rcases hz.split HR with ⟨a8, s8, rfl, K8, HQ, ha⟩ | ⟨er, sx, rfl, rfl, hb⟩; rotate_left; (exact ⟨rfl, AnsR.err hb⟩); clear HR hz; have HR := HQ; clear HQ; have B8 := Lib.hid ha; (try (obtain ⟨f0, f1, f2, f3, f4, f5, f6, f7, f8, g0, g1, g2, g3, g4, g5, g6, g7, g8⟩ := nv9 ha.loc)); clear ha))
        go_roundg g
        case rel => exact ⟨_, _, rfl, HR, Lib.hid B8.out.nil⟩
        case measure => omega
      rw [if_neg b1] at hs
      by_cases b2 : o = [45, 62]
      · rw [if_pos b2] at hs
        subst b2
        have HR := Lib.hid hs; clear hs
        go_wp2_with (first | ((with_reducible refine (node_q (Hid.out (by assumption))).mono ?_); rintro e v2 ⟨rfl, ha, hc⟩; have B2 := Lib.hid ha; have C2 := Lib.hid (ha.alloc (ndC ⟨8, q, -1, -1, -1, [], 0, 0, here E s1⟩)); dsimp only [ndV]; clear ha hc) | ((with_reducible refine (sign_a (Hid.out (by assumption)) HO.out).mono ?_); rintro e v3 ⟨rfl, ha⟩; have B3 := Lib.hid ha; (try (obtain ⟨f0, f1, f2, f3, f4, f5, f6, f7, f8, g0, g1, g2, g3, g4, g5, g6, g7, g8⟩ := nv9 ha.loc)); clear ha) | ((with_reducible refine (take_q (Hid.out (by assumption)) (ne_out HR HN)).mono ?_); rintro e v5 hz; rcases hz.split HR with ⟨a5, s5, rfl, K5, HQ, ha⟩ | ⟨er, sx, rfl, rfl, hb⟩; rotate_left; (exact ⟨rfl, AnsR.err hb⟩); clear HR hz; have HR := HQ; clear HQ; have B5 := Lib.hid ha; (try (obtain ⟨f0, f1, f2, f3, f4, f5, f6, f7, f8, g0, g1, g2, g3, g4, g5, g6, g7, g8⟩ := nv9 ha.loc)); clear ha) | ((with_reducible refine (name_q (Hid.out (by assumption)) (ne_out HR HN)).mono ?_); rintro e v6 hz; rcases hz.split HR with ⟨a6, s6, rfl, K6, HQ, ha⟩ | ⟨er, sx, rfl, rfl, hb⟩; rotate_left; (exact ⟨rfl, AnsR.err hb⟩); clear HR hz; have HR := HQ; clear HQ; have B6 := Lib.hid ha; (try (obtain ⟨f0, f1, f2, f3, f4, f5, f6, f7, f8, g0, g1, g2, g3, g4, g5, g6, g7, g8⟩ := nv9 ha.loc)); have D := Lib.hid ((ha.set 6 (.int .i64 1)).set 5 (.string (bt a6))); clear ha) | ((with_reducible refine (add_q (Hid.out (by assumption)) (ne_out HR HN)).mono ?_); rintro e v8 hz; rcases hz.split HR with ⟨a8, s8, rfl, K8, HQ, ha⟩ | ⟨er, sx, rfl, rfl, hb⟩; rotate_left; (exact ⟨rfl, AnsR.err hb⟩); clear HR hz; have HR := HQ; clear HQ; have B8 := Lib.hid ha; (try (obtain ⟨f0, f1, f2, f3, f4, f5, f6, f7, f8, g0, g1, g2, g3, g4, g5, g6, g7, g8⟩ := nv9 ha.loc)); clear ha))
        go_roundg g
        case rel => exact ⟨_, _, rfl, HR, Lib.hid B8.out.nil⟩
        case measure => omega
      rw [if_neg b2] at hs
      by_cases b3 : o = [43, 43] ∨ o = [45, 45]
      · rw [if_pos b3] at hs
        have HR := Lib.hid hs; clear hs b0 b1 b2
        rcases b3 with rfl | rfl
        · go_wp2_with (first | ((with_reducible refine (node_q (Hid.out (by assumption))).mono ?_); rintro e v2 ⟨rfl, ha, hc⟩; have B2 := Lib.hid ha; have C2 := Lib.hid (ha.alloc (ndC ⟨8, q, -1, -1, -1, [], 0, 0, here E s1⟩)); dsimp only [ndV]; clear ha hc) | ((with_reducible refine (sign_a (Hid.out (by assumption)) HO.out).mono ?_); rintro e v3 ⟨rfl, ha⟩; have B3 := Lib.hid ha; (try (obtain ⟨f0, f1, f2, f3, f4, f5, f6, f7, f8, g0, g1, g2, g3, g4, g5, g6, g7, g8⟩ := nv9 ha.loc)); clear ha) | ((with_reducible refine (take_q (Hid.out (by assumption)) (ne_out HR HN)).mono ?_); rintro e v5 hz; rcases hz.split HR with ⟨a5, s5, rfl, K5, HQ, ha⟩ | ⟨er, sx, rfl, rfl, hb⟩; rotate_left; (exact ⟨rfl, AnsR.err hb⟩); clear HR hz; have HR := HQ; clear HQ; have B5 := Lib.hid ha; (try (obtain ⟨f0, f1, f2, f3, f4, f5, f6, f7, f8, g0, g1, g2, g3, g4, g5, g6, g7, g8⟩ := nv9 ha.loc)); have D := Lib.hid ((ha.set 0 (.int .i64 13)).set 5 (.string (bt a5.text))); clear ha) | ((with_reducible refine (add_q (Hid.out (by assumption)) (ne_out HR HN)).mono ?_); rintro e v8 hz; rcases hz.split HR with ⟨a8, s8, rfl, K8, HQ, ha⟩ | ⟨er, sx, rfl, rfl, hb⟩; rotate_left; (exact ⟨rfl, AnsR.err hb⟩); clear HR hz; have HR := HQ; clear HQ; have B8 := Lib.hid ha; (try (obtain ⟨f0, f1, f2, f3, f4, f5, f6, f7, f8, g0, g1, g2, g3, g4, g5, g6, g7, g8⟩ := nv9 ha.loc)); clear ha))
          go_roundg g
          case rel => exact ⟨_, _, rfl, HR, Lib.hid B8.out.nil⟩
          case measure => omega
        · go_wp2_with (first | ((with_reducible refine (node_q (Hid.out (by assumption))).mono ?_); rintro e v2 ⟨rfl, ha, hc⟩; have B2 := Lib.hid ha; have C2 := Lib.hid (ha.alloc (ndC ⟨8, q, -1, -1, -1, [], 0, 0, here E s1⟩)); dsimp only [ndV]; clear ha hc) | ((with_reducible refine (sign_a (Hid.out (by assumption)) HO.out).mono ?_); rintro e v3 ⟨rfl, ha⟩; have B3 := Lib.hid ha; (try (obtain ⟨f0, f1, f2, f3, f4, f5, f6, f7, f8, g0, g1, g2, g3, g4, g5, g6, g7, g8⟩ := nv9 ha.loc)); clear ha) | ((with_reducible refine (take_q (Hid.out (by assumption)) (ne_out HR HN)).mono ?_); rintro e v5 hz; rcases hz.split HR with ⟨a5, s5, rfl, K5, HQ, ha⟩ | ⟨er, sx, rfl, rfl, hb⟩; rotate_left; (exact ⟨rfl, AnsR.err hb⟩); clear HR hz; have HR := HQ; clear HQ; have B5 := Lib.hid ha; (try (obtain ⟨f0, f1, f2, f3, f4, f5, f6, f7, f8, g0, g1, g2, g3, g4, g5, g6, g7, g8⟩ := nv9 ha.loc)); have D := Lib.hid ((ha.set 0 (.int .i64 13)).set 5 (.string (bt a5.text))); clear ha) | ((with_reducible refine (add_q (Hid.out (by assumption)) (ne_out HR HN)).mono ?_); rintro e v8 hz; rcases hz.split HR with ⟨a8, s8, rfl, K8, HQ, ha⟩ | ⟨er, sx, rfl, rfl, hb⟩; rotate_left; (exact ⟨rfl, AnsR.err hb⟩); clear HR hz; have HR := HQ; clear HQ; have B8 := Lib.hid ha; (try (obtain ⟨f0, f1, f2, f3, f4, f5, f6, f7, f8, g0, g1, g2, g3, g4, g5, g6, g7, g8⟩ := nv9 ha.loc)); clear ha))
          go_roundg g
          case rel => exact ⟨_, _, rfl, HR, Lib.hid B8.out.nil⟩
          case measure => omega
      rw [if_neg b3] at hs
      obtain ⟨b4, b5⟩ := not_or.1 b3
      have HR := Lib.hid hs
      have e0 : (o == [91]) = false := by simpa using b0
      have e1 : (o == [46]) = false := by simpa using b1
      have e2 : (o == [45, 62]) = false := by simpa using b2
      have e3 : (o == [43, 43]) = false := by simpa using b4
      have e4 : (o == [45, 45]) = false := by simpa using b5
      clear hs b0 b1 b2 b3 b4 b5
      go_wp2_with (first | ((with_reducible refine (node_q (Hid.out (by assumption))).mono ?_); rintro e v2 ⟨rfl, ha, hc⟩; have B2 := Lib.hid ha; have C2 := Lib.hid (ha.alloc (ndC ⟨8, q, -1, -1, -1, [], 0, 0, here E s1⟩)); dsimp only [ndV]; clear ha hc) | ((with_reducible refine (sign_a (Hid.out (by assumption)) HO.out).mono ?_); rintro e v3 ⟨rfl, ha⟩; have B3 := Lib.hid ha; (try (obtain ⟨f0, f1, f2, f3, f4, f5, f6, f7, f8, g0, g1, g2, g3, g4, g5, g6, g7, g8⟩ := nv9 ha.loc)); clear ha))
      all_goals (go_ret; first | exact AnsR.end1 HR (Hid.out (by assumption)) | exact AnsR.ret (Hid.out (by assumption)))
end Go.Proofs.YtaamllikceaifaaGreatDoor
