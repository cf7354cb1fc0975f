/-
  Contracts of plain, typed and counted.
-/
import Derived.Test.YtkgnmlllmihmlaaGreatDoorAt
import Derived.LoopN
namespace Go.Proofs.YtkgnmlllmihmlaaGreatDoor
open Go.RowKit Sp Tr
set_option linter.unusedVariables false

theorem bfalse {b : Bool} (h : ¬ b = true) : b = false := by simpa using h
theorem nm0 (w : World) : (Instr.index 99 (.agg namesV) (.int .i64 0)).run Tryz.prog w = .ok (.string (bt wVoid)) w := by kernel_rfl
theorem nm1 (w : World) : (Instr.index 99 (.agg namesV) (.int .i64 1)).run Tryz.prog w = .ok (.string (bt wInt)) w := by kernel_rfl
theorem nm2 (w : World) : (Instr.index 99 (.agg namesV) (.int .i64 2)).run Tryz.prog w = .ok (.string (bt wUnsigned)) w := by kernel_rfl
theorem nm3 (w : World) : (Instr.index 99 (.agg namesV) (.int .i64 3)).run Tryz.prog w = .ok (.string (bt wChar)) w := by kernel_rfl
set_option maxHeartbeats 1000000 in
theorem plain_0 {w : World} {c : PC} {vn vt : Value} {E : PE} {s s' : S} (h : PIn w c vn vt E s) (x0 : isT E s wVoid = true) (hs : takeT s = some s') :
    Calls Tryz.prog 124 #[.pointer (some ⟨c.p, 0, none⟩)] w (Post c vn vt E (.int .i64 0) s' w) := by
  obtain ⟨ty, fr, hn⟩ := h.names
  have A0 := Lib.hid (At.start h); clear h
  have X0 := Lib.hid x0; clear x0
  have HS := Lib.hid hs; clear hs
  have i0 := nm0
  have i1 := nm1
  have i2 := nm2
  have i3 := nm3
  go_enter Tryz.func124, Tryz.ntmps124
  go_wp2_with (refine wpList_load_row rfl 99 _ rfl 0 rfl ty namesV fr _ hn Tryz.underlying99 rfl (by kernel_rfl) ?_)
  refine wp_loop_rounds 5 ?_
  rw [rounds_succ]
  go_wp2_with ((with_reducible refine (took_y (Hid.out (by assumption)) X0.out HS.out).mono ?_); rintro e w0 ⟨rfl, ha⟩; have A1 := Lib.hid ha; clear ha)
  go_ret
  exact A1.out.done rfl
set_option maxHeartbeats 1000000 in
theorem plain_1 {w : World} {c : PC} {vn vt : Value} {E : PE} {s s' : S} (h : PIn w c vn vt E s) (x0 : isT E s wVoid = false) (x1 : isT E s wInt = true) (hs : takeT s = some s') :
    Calls Tryz.prog 124 #[.pointer (some ⟨c.p, 0, none⟩)] w (Post c vn vt E (.int .i64 1) s' w) := by
  obtain ⟨ty, fr, hn⟩ := h.names
  have A0 := Lib.hid (At.start h); clear h
  have X0 := Lib.hid x0; clear x0
  have X1 := Lib.hid x1; clear x1
  have HS := Lib.hid hs; clear hs
  have i0 := nm0
  have i1 := nm1
  have i2 := nm2
  have i3 := nm3
  go_enter Tryz.func124, Tryz.ntmps124
  go_wp2_with (refine wpList_load_row rfl 99 _ rfl 0 rfl ty namesV fr _ hn Tryz.underlying99 rfl (by kernel_rfl) ?_)
  refine wp_loop_rounds 5 ?_
  rw [rounds_succ]
  go_wp2_with ((with_reducible refine (took_n (Hid.out (by assumption)) X0.out).mono ?_); rintro e w0 ⟨rfl, ha⟩; have A1 := Lib.hid ha; clear ha)
  rw [rounds_succ]
  go_wp2_with ((with_reducible refine (took_y (Hid.out (by assumption)) X1.out HS.out).mono ?_); rintro e w1 ⟨rfl, ha⟩; have A2 := Lib.hid ha; clear ha)
  go_ret
  exact A2.out.done rfl
set_option maxHeartbeats 1000000 in
theorem plain_2 {w : World} {c : PC} {vn vt : Value} {E : PE} {s s' : S} (h : PIn w c vn vt E s) (x0 : isT E s wVoid = false) (x1 : isT E s wInt = false) (x2 : isT E s wUnsigned = true) (hs : takeT s = some s') :
    Calls Tryz.prog 124 #[.pointer (some ⟨c.p, 0, none⟩)] w (Post c vn vt E (.int .i64 2) s' w) := by
  obtain ⟨ty, fr, hn⟩ := h.names
  have A0 := Lib.hid (At.start h); clear h
  have X0 := Lib.hid x0; clear x0
  have X1 := Lib.hid x1; clear x1
  have X2 := Lib.hid x2; clear x2
  have HS := Lib.hid hs; clear hs
  have i0 := nm0
  have i1 := nm1
  have i2 := nm2
  have i3 := nm3
  go_enter Tryz.func124, Tryz.ntmps124
  go_wp2_with (refine wpList_load_row rfl 99 _ rfl 0 rfl ty namesV fr _ hn Tryz.underlying99 rfl (by kernel_rfl) ?_)
  refine wp_loop_rounds 5 ?_
  rw [rounds_succ]
  go_wp2_with ((with_reducible refine (took_n (Hid.out (by assumption)) X0.out).mono ?_); rintro e w0 ⟨rfl, ha⟩; have A1 := Lib.hid ha; clear ha)
  rw [rounds_succ]
  go_wp2_with ((with_reducible refine (took_n (Hid.out (by assumption)) X1.out).mono ?_); rintro e w1 ⟨rfl, ha⟩; have A2 := Lib.hid ha; clear ha)
  rw [rounds_succ]
  go_wp2_with ((with_reducible refine (took_y (Hid.out (by assumption)) X2.out HS.out).mono ?_); rintro e w2 ⟨rfl, ha⟩; have A3 := Lib.hid ha; clear ha)
  go_ret
  exact A3.out.done rfl
set_option maxHeartbeats 1000000 in
theorem plain_3 {w : World} {c : PC} {vn vt : Value} {E : PE} {s s' : S} (h : PIn w c vn vt E s) (x0 : isT E s wVoid = false) (x1 : isT E s wInt = false) (x2 : isT E s wUnsigned = false) (x3 : isT E s wChar = true) (hs : takeT s = some s') :
    Calls Tryz.prog 124 #[.pointer (some ⟨c.p, 0, none⟩)] w (Post c vn vt E (.int .i64 3) s' w) := by
  obtain ⟨ty, fr, hn⟩ := h.names
  have A0 := Lib.hid (At.start h); clear h
  have X0 := Lib.hid x0; clear x0
  have X1 := Lib.hid x1; clear x1
  have X2 := Lib.hid x2; clear x2
  have X3 := Lib.hid x3; clear x3
  have HS := Lib.hid hs; clear hs
  have i0 := nm0
  have i1 := nm1
  have i2 := nm2
  have i3 := nm3
  go_enter Tryz.func124, Tryz.ntmps124
  go_wp2_with (refine wpList_load_row rfl 99 _ rfl 0 rfl ty namesV fr _ hn Tryz.underlying99 rfl (by kernel_rfl) ?_)
  refine wp_loop_rounds 5 ?_
  rw [rounds_succ]
  go_wp2_with ((with_reducible refine (took_n (Hid.out (by assumption)) X0.out).mono ?_); rintro e w0 ⟨rfl, ha⟩; have A1 := Lib.hid ha; clear ha)
  rw [rounds_succ]
  go_wp2_with ((with_reducible refine (took_n (Hid.out (by assumption)) X1.out).mono ?_); rintro e w1 ⟨rfl, ha⟩; have A2 := Lib.hid ha; clear ha)
  rw [rounds_succ]
  go_wp2_with ((with_reducible refine (took_n (Hid.out (by assumption)) X2.out).mono ?_); rintro e w2 ⟨rfl, ha⟩; have A3 := Lib.hid ha; clear ha)
  rw [rounds_succ]
  go_wp2_with ((with_reducible refine (took_y (Hid.out (by assumption)) X3.out HS.out).mono ?_); rintro e w3 ⟨rfl, ha⟩; have A4 := Lib.hid ha; clear ha)
  go_ret
  exact A4.out.done rfl
set_option maxHeartbeats 1000000 in
theorem plain_s {w : World} {c : PC} {vn vt : Value} {E : PE} {s s' : S} {s1 s2 : S} {t : Tok} {r : Int} (h : PIn w c vn vt E s) (x0 : isT E s wVoid = false) (x1 : isT E s wInt = false) (x2 : isT E s wUnsigned = false) (x3 : isT E s wChar = false) (hs1 : needT E wStruct s = some s1) (hs2 : kindT E 1 s1 = some (t, s2)) (hs3 : numbered ⟨6, 0, 0, t.text⟩ s2 = some (r, s')) :
    Calls Tryz.prog 124 #[.pointer (some ⟨c.p, 0, none⟩)] w (Post c vn vt E (.int .i64 r) s' w) := by
  obtain ⟨ty, fr, hn⟩ := h.names
  have A0 := Lib.hid (At.start h); clear h
  have X0 := Lib.hid x0; clear x0
  have X1 := Lib.hid x1; clear x1
  have X2 := Lib.hid x2; clear x2
  have X3 := Lib.hid x3; clear x3
  have H1 := Lib.hid hs1; clear hs1
  have H2 := Lib.hid hs2; clear hs2
  have H3 := Lib.hid hs3; clear hs3
  have i0 := nm0
  have i1 := nm1
  have i2 := nm2
  have i3 := nm3
  go_enter Tryz.func124, Tryz.ntmps124
  go_wp2_with (refine wpList_load_row rfl 99 _ rfl 0 rfl ty namesV fr _ hn Tryz.underlying99 rfl (by kernel_rfl) ?_)
  refine wp_loop_rounds 5 ?_
  rw [rounds_succ]
  go_wp2_with ((with_reducible refine (took_n (Hid.out (by assumption)) X0.out).mono ?_); rintro e w0 ⟨rfl, ha⟩; have A1 := Lib.hid ha; clear ha)
  rw [rounds_succ]
  go_wp2_with ((with_reducible refine (took_n (Hid.out (by assumption)) X1.out).mono ?_); rintro e w1 ⟨rfl, ha⟩; have A2 := Lib.hid ha; clear ha)
  rw [rounds_succ]
  go_wp2_with ((with_reducible refine (took_n (Hid.out (by assumption)) X2.out).mono ?_); rintro e w2 ⟨rfl, ha⟩; have A3 := Lib.hid ha; clear ha)
  rw [rounds_succ]
  go_wp2_with ((with_reducible refine (took_n (Hid.out (by assumption)) X3.out).mono ?_); rintro e w3 ⟨rfl, ha⟩; have A4 := Lib.hid ha; clear ha)
  rw [rounds_succ]
  go_wp2_with (first | ((with_reducible refine (need_a (Hid.out (by assumption)) H1.out).mono ?_); rintro e v1 ⟨rfl, ha⟩; have B1 := Lib.hid ha; clear ha) | ((with_reducible refine (name_a (Hid.out (by assumption)) H2.out).mono ?_); rintro e v2 ⟨rfl, ha⟩; have B2 := Lib.hid ha; clear ha) | ((with_reducible refine (numbered_a (Hid.out (by assumption)) H3.out).mono ?_); rintro e v3 ⟨rfl, ha⟩; have B3 := Lib.hid ha; clear ha))
  go_ret
  exact B3.out.done rfl
theorem plain_p {w : World} {c : PC} {vn vt : Value} {E : PE} {s s' : S} {r : Int} (h : PIn w c vn vt E s) (hs : plainF E s = some (r, s')) :
    Calls Tryz.prog 124 #[.pointer (some ⟨c.p, 0, none⟩)] w (Post c vn vt E (.int .i64 r) s' w) := by
  unfold plainF at hs
  by_cases x0 : isT E s wVoid = true
  · rw [if_pos x0] at hs
    obtain ⟨s1, hs1, hs2⟩ := Option.map_eq_some_iff.1 hs
    injection hs2 with hr hs2
    subst hr hs2
    exact plain_0 h  x0 hs1
  rw [if_neg x0] at hs
  by_cases x1 : isT E s wInt = true
  · rw [if_pos x1] at hs
    obtain ⟨s1, hs1, hs2⟩ := Option.map_eq_some_iff.1 hs
    injection hs2 with hr hs2
    subst hr hs2
    exact plain_1 h (bfalse x0) x1 hs1
  rw [if_neg x1] at hs
  by_cases x2 : isT E s wUnsigned = true
  · rw [if_pos x2] at hs
    obtain ⟨s1, hs1, hs2⟩ := Option.map_eq_some_iff.1 hs
    injection hs2 with hr hs2
    subst hr hs2
    exact plain_2 h (bfalse x0) (bfalse x1) x2 hs1
  rw [if_neg x2] at hs
  by_cases x3 : isT E s wChar = true
  · rw [if_pos x3] at hs
    obtain ⟨s1, hs1, hs2⟩ := Option.map_eq_some_iff.1 hs
    injection hs2 with hr hs2
    subst hr hs2
    exact plain_3 h (bfalse x0) (bfalse x1) (bfalse x2) x3 hs1
  rw [if_neg x3] at hs
  obtain ⟨s1, h1, hs⟩ := Option.bind_eq_some_iff.1 hs
  obtain ⟨⟨t, s2⟩, h2, hs⟩ := Option.bind_eq_some_iff.1 hs
  exact plain_s h (bfalse x0) (bfalse x1) (bfalse x2) (bfalse x3) h1 h2 hs
theorem plain_a {w0 w : World} {c : PC} {v u : Value} {E : PE} {s s' : S} {L : List (Nat × Obj)} {r : Int} (h : At w0 c v u E s L w) (hs : plainF E s = some (r, s')) :
    Calls Tryz.prog 124 #[.pointer (some ⟨c.p, 0, none⟩)] w (Ans w0 c v u E s' L (.int .i64 r)) := h.lift fun _ _ h => plain_p h hs
theorem counted_p {w : World} {c : PC} {vn vt : Value} {E : PE} {s s' : S} {q r : Int} (h : PIn w c vn vt E s) (hs : countedF E q s = some (r, s')) :
    Calls Tryz.prog 104 #[.pointer (some ⟨c.p, 0, none⟩), .int .i64 q] w (Post c vn vt E (.int .i64 r) s' w) := by
  have A0 := Lib.hid (At.start h); clear h
  unfold countedF at hs
  by_cases x0 : isT E s [91] = true
  · rw [if_pos x0] at hs
    obtain ⟨s1, h1, hs⟩ := Option.bind_eq_some_iff.1 hs
    obtain ⟨⟨t, s2⟩, h2, hs⟩ := Option.bind_eq_some_iff.1 hs
    obtain ⟨s3, h3, hs⟩ := Option.bind_eq_some_iff.1 hs
    have X0 := Lib.hid x0; clear x0
    have H1 := Lib.hid h1; clear h1
    have H2 := Lib.hid h2; clear h2
    have H3 := Lib.hid h3; clear h3
    have H4 := Lib.hid hs; clear hs
    go_enter Tryz.func104, Tryz.ntmps104
    go_wp2_with (first | ((with_reducible refine (took_y (Hid.out (by assumption)) X0.out H1.out).mono ?_); rintro e v1 ⟨rfl, ha⟩; have B1 := Lib.hid ha; clear ha) | ((with_reducible refine (number_a (Hid.out (by assumption)) H2.out).mono ?_); rintro e v2 ⟨rfl, ha⟩; have B2 := Lib.hid ha; clear ha) | ((with_reducible refine (need_a (Hid.out (by assumption)) H3.out).mono ?_); rintro e v3 ⟨rfl, ha⟩; have B3 := Lib.hid ha; clear ha) | ((with_reducible refine (numbered_a (Hid.out (by assumption)) H4.out).mono ?_); rintro e v4 ⟨rfl, ha⟩; have B4 := Lib.hid ha; clear ha))
    go_ret
    exact B4.out.done rfl
  · rw [if_neg x0] at hs
    injection hs with hs
    injection hs with hr hs
    subst hr hs
    have X0 := Lib.hid (bfalse x0); clear x0
    go_enter Tryz.func104, Tryz.ntmps104
    go_wp2_with ((with_reducible refine (took_n (Hid.out (by assumption)) X0.out).mono ?_); rintro e v1 ⟨rfl, ha⟩; have B1 := Lib.hid ha; clear ha)
    go_ret
    exact B1.out.done rfl
theorem counted_a {w0 w : World} {c : PC} {v u : Value} {E : PE} {s s' : S} {L : List (Nat × Obj)} {q r : Int} (h : At w0 c v u E s L w) (hs : countedF E q s = some (r, s')) :
    Calls Tryz.prog 104 #[.pointer (some ⟨c.p, 0, none⟩), .int .i64 q] w (Ans w0 c v u E s' L (.int .i64 r)) := h.lift fun _ _ h => counted_p h hs
end Go.Proofs.YtkgnmlllmihmlaaGreatDoor
