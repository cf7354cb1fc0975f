/-
  Contracts of commas and whole.
-/
import Derived.Test.YtkgnmlllmihmlaaGreatDoorStmt
namespace Go.Proofs.YtkgnmlllmihmlaaGreatDoor
open Go.RowKit Sp Tr Go.Shelf
set_option linter.unusedVariables false

abbrev fnO (f : Value) : Obj := .cells #[f] 86
theorem commas_new (p : Option Addr) (fn : Fn) (first cap : Array Value) (w : World) : Calls Tryz.prog 100 #[.pointer p, .func fn first cap] w fun e w' =>
    e = .returned (.func (.func 128) #[] #[.pointer (some ⟨w.heap.size, 0, none⟩), .pointer (some ⟨w.heap.size + 1, 0, none⟩)]) ∧ w' = (w.alloc (.cells #[.pointer p] 71)).alloc (fnO (.func fn first cap)) := by
  have hmf : ∀ (fn : Fn) (first cap : Array Value) (w : World), (Instr.makeFunc fn first cap).run Tryz.prog w = .ok (.func fn first cap) w := fun _ _ _ _ => rfl
  go_enter Tryz.func100, Tryz.ntmps100
  go_wp2
  go_ret
  exact ⟨rfl, rfl⟩
section
variable {c : PC} {E : PE}
theorem commas_iter {w0 : World} {v u : Value} {s : S} {bp bq : Nat} (hb : w0.heap[bp]? = some (bxO c)) (ho : Out c v u bp) (hx : isT E s [41] = true) : IterOK w0 c v u E 128 #[] #[.pointer (some ⟨bp, 0, none⟩), .pointer (some ⟨bq, 0, none⟩)] s s [] := by
  intro n l J L W hY hJ hA
  have cb := (nv1 (hA.old hb ho)).1
  have HA := Lib.hid hA; clear hA
  have HJ := Lib.hid hJ; clear hJ
  have HX := Lib.hid hx; clear hx hY
  have hw : ∀ f, Fence.wide.fn f := fun _ => trivial
  have hd : Fence.wide.depth = none := rfl
  refine callsIn_of_wp Tryz.func128 rfl trivial ?_ rfl
  simp only [Tryz.ntmps128, List.size_toArray, List.length_cons, List.length_nil, Nat.reduceAdd, Nat.reduceSub, Array.replicate_succ, Array.replicate_zero, List.push_toArray, List.append_toArray, List.nil_append, List.cons_append]
  gi_wp2_with (gi_at_call 94; refine (callsIn_wide.2 (is_a HA.out HX.out)).mono ?_; rintro e v1 ⟨rfl, ha⟩; have B1 := Lib.hid ha; clear ha)
  refine wpIn_loop_rounds 1 ?_
  rw [roundsIn_succ]
  gi_wp2
  go_end0
  exact ⟨⟨_, rfl⟩, L, HJ.out, B1.out⟩
theorem At.liftL {w0 w : World} {v u : Value} {s s' : S} {L : List (Nat × Obj)} {f : FuncId} {args : Array Value} {r : Value} (h : At w0 c v u E s L w)
    (k : ∀ vn vt, PIn w c vn vt E s → (∀ x ∈ L, w.heap[x.1]? = some x.2 ∧ Out c vn vt x.1) → Calls Tryz.prog f args w (Post c vn vt E r s' w)) : Calls Tryz.prog f args w (Ans w0 c v u E s' L r) := by
  obtain ⟨vn, vt, h1, h2, h3, h5⟩ := h
  refine (k vn vt h1 fun x hx => ⟨(h3 x hx).1, (h3 x hx).2.1⟩).mono ?_
  rintro e w' ⟨vn', vt', rfl, h4, t4⟩
  exact ⟨rfl, vn', vt', h4, h2.trans t4, fun x hx => ⟨(t4.kept (h3 x hx).2.1 (lt_heap (h3 x hx).1)).trans (h3 x hx).1, (h3 x hx).2.1.turn (lt_heap (h3 x hx).1) t4, (h3 x hx).2.2⟩, h5⟩
theorem list_commas {w0 w : World} {v u : Value} {s : S} {L : List (Nat × Obj)} {bp bq : Nat} (h : At w0 c v u E s L w) (hm : (bp, bxO c) ∈ L) (hx : isT E s [41] = true) :
    Calls Tryz.prog 49 #[.pointer (some ⟨c.p, 0, none⟩), .func (.func 128) #[] #[.pointer (some ⟨bp, 0, none⟩), .pointer (some ⟨bq, 0, none⟩)]] w (Ans w0 c v u E s L (.int .i64 (-1))) := by
  have eg : ∀ args w, (callFunc 128 args).run Tryz.prog w = .ok (.enter 128 args) w := enters_of Tryz.func128 (by kernel_rfl) rfl
  exact h.liftL fun vn vt h1 h2 => list_p eg (commas_iter (h2 _ hm).1 (h2 _ hm).2 hx) (by simp) h1 rfl
set_option maxHeartbeats 2000000 in
theorem whole_fn0 {f : Nat} (hf : f ≤ 1000000) {w : World} {vn vt : Value} {s s1 s2 s3 s4 s5 s' : S} {q z r : Int} {tk : Tok} (h : PIn w c vn vt E s) (x0 : isT E s wStruct = false)
    (h1 : typedF f E s = some (q, s1)) (h2 : kindT E 1 s1 = some (tk, s2)) (x3 : isT E s2 [40] = true) (h3 : takeT s2 = some s3) (x4 : isT E s3 [41] = true) (h4 : takeT s3 = some s4) (h5 : blockF f E s4 = some (z, s5))
    (h6 : addT { nodeAt E s 50 with ty := q, text := tk.text, b := z } s5 = some (r, s')) : Calls Tryz.prog 72 #[.pointer (some ⟨c.p, 0, none⟩)] w (Post c vn vt E (.int .i64 r) s' w) := by
  have A0 := Lib.hid (At.start h); clear h
  obtain ⟨n, hn⟩ : ∃ n, nodeAt E s 52 = n := ⟨_, rfl⟩
  have h6' : addT ⟨50, -1, z, n.c, n.d, tk.text, n.n, q, n.pos⟩ s5 = some (r, s') := by rw [← hn]; exact h6
  have h4' : needT E [41] s3 = some s4 := by unfold needT; rw [if_pos x4]; exact h4
  have HN := Lib.hid hn
  have H1 := Lib.hid h1
  have H2 := Lib.hid h2
  have X3 := Lib.hid x3
  have H3 := Lib.hid h3
  have X4 := Lib.hid x4
  have H4 := Lib.hid h4'
  have H5 := Lib.hid h5
  have H6 := Lib.hid h6'
  have hbl := block_p (c := c) (E := E) hf
  clear hn h1 h2 x3 h3 x4 h4 h5 h6 h6' h4'
  have X0 := Lib.hid x0; clear x0
  go_enter Tryz.func72, Tryz.ntmps72
  go_wp2_with (first | ((with_reducible refine (is_a (Hid.out (by assumption)) X0.out).mono ?_); rintro e v11 ⟨rfl, ha⟩; have B11 := Lib.hid ha; clear ha) | ((with_reducible refine (node_a (Hid.out (by assumption)) HN.out).mono ?_); rintro e v1 ⟨rfl, ha⟩; have B1 := Lib.hid ha; have C1 := Lib.hid (ha.alloc (ndO n)); dsimp only [ndV]; clear ha) | ((with_reducible refine (typed_a (Hid.out (by assumption)) H1.out).mono ?_); rintro e v2 ⟨rfl, ha⟩; have B2 := Lib.hid ha; clear ha) | ((with_reducible refine (name_a (Hid.out (by assumption)) H2.out).mono ?_); rintro e v3 ⟨rfl, ha⟩; have B3 := Lib.hid ha; obtain ⟨f0, f1, f2, f3, f4, f5, f6, f7, f8, g0, g1, g2, g3, g4, g5, g6, g7, g8⟩ := nv9 ha.loc; have C4 := Lib.hid ((ha.set 7 (.int .i64 q)).set 5 (.string (bt tk.text))); clear ha) | ((with_reducible refine (took_y (Hid.out (by assumption)) X3.out H3.out).mono ?_); rintro e v4 ⟨rfl, ha⟩; have B4 := Lib.hid ha; clear ha) | ((with_reducible refine (commas_new _ _ _ _ _).mono ?_); rintro e v5 ⟨rfl, rfl⟩; have hB4 := B4.out; have C5 := (hB4.alloc (bxO c)).alloc (fnO (.func (.func 101) #[.pointer (some ⟨c.p, 0, none⟩)] #[])); rw [World.size_alloc] at C5; have D5 := Lib.hid C5; clear C5 hB4) | ((with_reducible refine (list_commas D5.out (by simp) X4.out).mono ?_); rintro e v6 ⟨rfl, ha⟩; obtain ⟨f0, f1, f2, f3, f4, f5, f6, f7, f8, g0, g1, g2, g3, g4, g5, g6, g7, g8⟩ := nv9 ha.drop.drop.loc; have C6 := Lib.hid ((ha.drop.drop.set 0 (.int .i64 50)).set 1 (.int .i64 (-1))); clear ha) | ((with_reducible refine (need_a (Hid.out (by assumption)) H4.out).mono ?_); rintro e v7 ⟨rfl, ha⟩; have B7 := Lib.hid ha; clear ha) | ((with_reducible refine (hbl.a (Hid.out (by assumption)) H5.out).mono ?_); rintro e v8 ⟨rfl, ha⟩; have B8 := Lib.hid ha; obtain ⟨p0, p1, p2, p3, p4, p5, p6, p7, p8, o0, o1, o2, o3, o4, o5, o6, o7, o8⟩ := nv9 ha.loc; have C8 := Lib.hid (ha.set 2 (.int .i64 z)); clear ha) | ((with_reducible refine (add_a (nd := ⟨50, -1, z, n.c, n.d, tk.text, n.n, q, n.pos⟩) (Hid.out (by assumption)) H6.out).mono ?_); rintro e v9 ⟨rfl, ha⟩; have B9 := Lib.hid ha; clear ha))
  go_ret
  exact B9.out.done rfl
set_option maxHeartbeats 2000000 in
theorem whole_gl0 {f : Nat} {w : World} {vn vt : Value} {s s1 s2 s3 s4 s' : S} {q z r : Int} {tk : Tok} (h : PIn w c vn vt E s) (x0 : isT E s wStruct = false)
    (h1 : typedF f E s = some (q, s1)) (h2 : kindT E 1 s1 = some (tk, s2)) (x3 : isT E s2 [40] = false) (h3 : countedF E q s2 = some (z, s3)) (x4 : isT E s3 [61] = false) (h4 : needT E [59] s3 = some s4)
    (h6 : addT { nodeAt E s 52 with ty := z, text := tk.text } s4 = some (r, s')) : Calls Tryz.prog 72 #[.pointer (some ⟨c.p, 0, none⟩)] w (Post c vn vt E (.int .i64 r) s' w) := by
  have A0 := Lib.hid (At.start h); clear h
  obtain ⟨n, hn⟩ : ∃ n, nodeAt E s 52 = n := ⟨_, rfl⟩
  have h6' : addT ⟨n.kind, n.a, n.b, n.c, n.d, tk.text, n.n, z, n.pos⟩ s4 = some (r, s') := by rw [← hn]; exact h6
  have HN := Lib.hid hn
  have H1 := Lib.hid h1
  have H2 := Lib.hid h2
  have X3 := Lib.hid x3
  have H3 := Lib.hid h3
  have X4 := Lib.hid x4
  have H4 := Lib.hid h4
  have H6 := Lib.hid h6'
  clear hn h1 h2 x3 h3 x4 h4 h6 h6'
  have X0 := Lib.hid x0; clear x0
  go_enter Tryz.func72, Tryz.ntmps72
  go_wp2_with (first | ((with_reducible refine (is_a (Hid.out (by assumption)) X0.out).mono ?_); rintro e v11 ⟨rfl, ha⟩; have B11 := Lib.hid ha; clear ha) | ((with_reducible refine (node_a (Hid.out (by assumption)) HN.out).mono ?_); rintro e v1 ⟨rfl, ha⟩; have B1 := Lib.hid ha; have C1 := Lib.hid (ha.alloc (ndO n)); dsimp only [ndV]; clear ha) | ((with_reducible refine (typed_a (Hid.out (by assumption)) H1.out).mono ?_); rintro e v2 ⟨rfl, ha⟩; have B2 := Lib.hid ha; clear ha) | ((with_reducible refine (name_a (Hid.out (by assumption)) H2.out).mono ?_); rintro e v3 ⟨rfl, ha⟩; have B3 := Lib.hid ha; obtain ⟨f0, f1, f2, f3, f4, f5, f6, f7, f8, g0, g1, g2, g3, g4, g5, g6, g7, g8⟩ := nv9 ha.loc; have C4 := Lib.hid ((ha.set 7 (.int .i64 q)).set 5 (.string (bt tk.text))); clear ha) | ((with_reducible refine (took_n (Hid.out (by assumption)) X3.out).mono ?_); rintro e v4 ⟨rfl, ha⟩; have B4 := Lib.hid ha; obtain ⟨p0, p1, p2, p3, p4, p5, p6, p7, p8, o0, o1, o2, o3, o4, o5, o6, o7, o8⟩ := nv9 ha.loc; clear ha) | ((with_reducible refine (counted_a (Hid.out (by assumption)) H3.out).mono ?_); rintro e v5 ⟨rfl, ha⟩; have B5 := Lib.hid ha; obtain ⟨k0, k1, k2, k3, k4, k5, k6, k7, k8, m0, m1, m2, m3, m4, m5, m6, m7, m8⟩ := nv9 ha.loc; have C5 := Lib.hid (ha.set 7 (.int .i64 z)); clear ha) | ((with_reducible refine (took_n (Hid.out (by assumption)) X4.out).mono ?_); rintro e v6 ⟨rfl, ha⟩; have B6 := Lib.hid ha; clear ha) | ((with_reducible refine (need_a (Hid.out (by assumption)) H4.out).mono ?_); rintro e v7 ⟨rfl, ha⟩; have B7 := Lib.hid ha; obtain ⟨r0, r1, r2, r3, r4, r5, r6, r7, r8, t0, t1, t2, t3, t4, t5, t6, t7, t8⟩ := nv9 ha.loc; clear ha) | ((with_reducible refine (add_a (nd := ⟨n.kind, n.a, n.b, n.c, n.d, tk.text, n.n, z, n.pos⟩) (Hid.out (by assumption)) H6.out).mono ?_); rintro e v8 ⟨rfl, ha⟩; have B8 := Lib.hid ha; clear ha))
  go_ret
  exact B8.out.done rfl
set_option maxHeartbeats 2000000 in
theorem whole_fn1 {f : Nat} (hf : f ≤ 1000000) {w : World} {vn vt : Value} {s s1 s2 s3 s4 s5 s' : S} {q z r : Int} {tk : Tok} (h : PIn w c vn vt E s) (x0 : isT E s wStruct = true) (x1 : (ahd E s 1).k ≠ 1)
    (h1 : typedF f E s = some (q, s1)) (h2 : kindT E 1 s1 = some (tk, s2)) (x3 : isT E s2 [40] = true) (h3 : takeT s2 = some s3) (x4 : isT E s3 [41] = true) (h4 : takeT s3 = some s4) (h5 : blockF f E s4 = some (z, s5))
    (h6 : addT { nodeAt E s 50 with ty := q, text := tk.text, b := z } s5 = some (r, s')) : Calls Tryz.prog 72 #[.pointer (some ⟨c.p, 0, none⟩)] w (Post c vn vt E (.int .i64 r) s' w) := by
  have A0 := Lib.hid (At.start h); clear h
  obtain ⟨n, hn⟩ : ∃ n, nodeAt E s 52 = n := ⟨_, rfl⟩
  have h6' : addT ⟨50, -1, z, n.c, n.d, tk.text, n.n, q, n.pos⟩ s5 = some (r, s') := by rw [← hn]; exact h6
  have h4' : needT E [41] s3 = some s4 := by unfold needT; rw [if_pos x4]; exact h4
  have HN := Lib.hid hn
  have H1 := Lib.hid h1
  have H2 := Lib.hid h2
  have X3 := Lib.hid x3
  have H3 := Lib.hid h3
  have X4 := Lib.hid x4
  have H4 := Lib.hid h4'
  have H5 := Lib.hid h5
  have H6 := Lib.hid h6'
  have hbl := block_p (c := c) (E := E) hf
  clear hn h1 h2 x3 h3 x4 h4 h5 h6 h6' h4'
  have X0 := Lib.hid x0; clear x0
  obtain ⟨t1, ht1⟩ : ∃ t, ahd E s 1 = t := ⟨_, rfl⟩
  rw [ht1] at x1
  have y0 := fld0
  have T1 := Lib.hid ht1; clear ht1
  have z1 : (t1.k == 1) = false := by simpa using x1
  clear x1
  go_enter Tryz.func72, Tryz.ntmps72
  go_wp2_with (first | ((with_reducible refine (is_a (Hid.out (by assumption)) X0.out).mono ?_); rintro e v11 ⟨rfl, ha⟩; have B11 := Lib.hid ha; clear ha) | ((with_reducible refine (ahead1_a (Hid.out (by assumption)) T1.out).mono ?_); rintro e v12 ⟨rfl, ha⟩; have B12 := Lib.hid ha; clear ha) | ((with_reducible refine (node_a (Hid.out (by assumption)) HN.out).mono ?_); rintro e v1 ⟨rfl, ha⟩; have B1 := Lib.hid ha; have C1 := Lib.hid (ha.alloc (ndO n)); dsimp only [ndV]; clear ha) | ((with_reducible refine (typed_a (Hid.out (by assumption)) H1.out).mono ?_); rintro e v2 ⟨rfl, ha⟩; have B2 := Lib.hid ha; clear ha) | ((with_reducible refine (name_a (Hid.out (by assumption)) H2.out).mono ?_); rintro e v3 ⟨rfl, ha⟩; have B3 := Lib.hid ha; obtain ⟨f0, f1, f2, f3, f4, f5, f6, f7, f8, g0, g1, g2, g3, g4, g5, g6, g7, g8⟩ := nv9 ha.loc; have C4 := Lib.hid ((ha.set 7 (.int .i64 q)).set 5 (.string (bt tk.text))); clear ha) | ((with_reducible refine (took_y (Hid.out (by assumption)) X3.out H3.out).mono ?_); rintro e v4 ⟨rfl, ha⟩; have B4 := Lib.hid ha; clear ha) | ((with_reducible refine (commas_new _ _ _ _ _).mono ?_); rintro e v5 ⟨rfl, rfl⟩; have hB4 := B4.out; have C5 := (hB4.alloc (bxO c)).alloc (fnO (.func (.func 101) #[.pointer (some ⟨c.p, 0, none⟩)] #[])); rw [World.size_alloc] at C5; have D5 := Lib.hid C5; clear C5 hB4) | ((with_reducible refine (list_commas D5.out (by simp) X4.out).mono ?_); rintro e v6 ⟨rfl, ha⟩; obtain ⟨f0, f1, f2, f3, f4, f5, f6, f7, f8, g0, g1, g2, g3, g4, g5, g6, g7, g8⟩ := nv9 ha.drop.drop.loc; have C6 := Lib.hid ((ha.drop.drop.set 0 (.int .i64 50)).set 1 (.int .i64 (-1))); clear ha) | ((with_reducible refine (need_a (Hid.out (by assumption)) H4.out).mono ?_); rintro e v7 ⟨rfl, ha⟩; have B7 := Lib.hid ha; clear ha) | ((with_reducible refine (hbl.a (Hid.out (by assumption)) H5.out).mono ?_); rintro e v8 ⟨rfl, ha⟩; have B8 := Lib.hid ha; obtain ⟨p0, p1, p2, p3, p4, p5, p6, p7, p8, o0, o1, o2, o3, o4, o5, o6, o7, o8⟩ := nv9 ha.loc; have C8 := Lib.hid (ha.set 2 (.int .i64 z)); clear ha) | ((with_reducible refine (add_a (nd := ⟨50, -1, z, n.c, n.d, tk.text, n.n, q, n.pos⟩) (Hid.out (by assumption)) H6.out).mono ?_); rintro e v9 ⟨rfl, ha⟩; have B9 := Lib.hid ha; clear ha))
  go_ret
  exact B9.out.done rfl
set_option maxHeartbeats 2000000 in
theorem whole_gl1 {f : Nat} {w : World} {vn vt : Value} {s s1 s2 s3 s4 s' : S} {q z r : Int} {tk : Tok} (h : PIn w c vn vt E s) (x0 : isT E s wStruct = true) (x1 : (ahd E s 1).k ≠ 1)
    (h1 : typedF f E s = some (q, s1)) (h2 : kindT E 1 s1 = some (tk, s2)) (x3 : isT E s2 [40] = false) (h3 : countedF E q s2 = some (z, s3)) (x4 : isT E s3 [61] = false) (h4 : needT E [59] s3 = some s4)
    (h6 : addT { nodeAt E s 52 with ty := z, text := tk.text } s4 = some (r, s')) : Calls Tryz.prog 72 #[.pointer (some ⟨c.p, 0, none⟩)] w (Post c vn vt E (.int .i64 r) s' w) := by
  have A0 := Lib.hid (At.start h); clear h
  obtain ⟨n, hn⟩ : ∃ n, nodeAt E s 52 = n := ⟨_, rfl⟩
  have h6' : addT ⟨n.kind, n.a, n.b, n.c, n.d, tk.text, n.n, z, n.pos⟩ s4 = some (r, s') := by rw [← hn]; exact h6
  have HN := Lib.hid hn
  have H1 := Lib.hid h1
  have H2 := Lib.hid h2
  have X3 := Lib.hid x3
  have H3 := Lib.hid h3
  have X4 := Lib.hid x4
  have H4 := Lib.hid h4
  have H6 := Lib.hid h6'
  clear hn h1 h2 x3 h3 x4 h4 h6 h6'
  have X0 := Lib.hid x0; clear x0
  obtain ⟨t1, ht1⟩ : ∃ t, ahd E s 1 = t := ⟨_, rfl⟩
  rw [ht1] at x1
  have y0 := fld0
  have T1 := Lib.hid ht1; clear ht1
  have z1 : (t1.k == 1) = false := by simpa using x1
  clear x1
  go_enter Tryz.func72, Tryz.ntmps72
  go_wp2_with (first | ((with_reducible refine (is_a (Hid.out (by assumption)) X0.out).mono ?_); rintro e v11 ⟨rfl, ha⟩; have B11 := Lib.hid ha; clear ha) | ((with_reducible refine (ahead1_a (Hid.out (by assumption)) T1.out).mono ?_); rintro e v12 ⟨rfl, ha⟩; have B12 := Lib.hid ha; clear ha) | ((with_reducible refine (node_a (Hid.out (by assumption)) HN.out).mono ?_); rintro e v1 ⟨rfl, ha⟩; have B1 := Lib.hid ha; have C1 := Lib.hid (ha.alloc (ndO n)); dsimp only [ndV]; clear ha) | ((with_reducible refine (typed_a (Hid.out (by assumption)) H1.out).mono ?_); rintro e v2 ⟨rfl, ha⟩; have B2 := Lib.hid ha; clear ha) | ((with_reducible refine (name_a (Hid.out (by assumption)) H2.out).mono ?_); rintro e v3 ⟨rfl, ha⟩; have B3 := Lib.hid ha; obtain ⟨f0, f1, f2, f3, f4, f5, f6, f7, f8, g0, g1, g2, g3, g4, g5, g6, g7, g8⟩ := nv9 ha.loc; have C4 := Lib.hid ((ha.set 7 (.int .i64 q)).set 5 (.string (bt tk.text))); clear ha) | ((with_reducible refine (took_n (Hid.out (by assumption)) X3.out).mono ?_); rintro e v4 ⟨rfl, ha⟩; have B4 := Lib.hid ha; obtain ⟨p0, p1, p2, p3, p4, p5, p6, p7, p8, o0, o1, o2, o3, o4, o5, o6, o7, o8⟩ := nv9 ha.loc; clear ha) | ((with_reducible refine (counted_a (Hid.out (by assumption)) H3.out).mono ?_); rintro e v5 ⟨rfl, ha⟩; have B5 := Lib.hid ha; obtain ⟨k0, k1, k2, k3, k4, k5, k6, k7, k8, m0, m1, m2, m3, m4, m5, m6, m7, m8⟩ := nv9 ha.loc; have C5 := Lib.hid (ha.set 7 (.int .i64 z)); clear ha) | ((with_reducible refine (took_n (Hid.out (by assumption)) X4.out).mono ?_); rintro e v6 ⟨rfl, ha⟩; have B6 := Lib.hid ha; clear ha) | ((with_reducible refine (need_a (Hid.out (by assumption)) H4.out).mono ?_); rintro e v7 ⟨rfl, ha⟩; have B7 := Lib.hid ha; obtain ⟨r0, r1, r2, r3, r4, r5, r6, r7, r8, t0, t1, t2, t3, t4, t5, t6, t7, t8⟩ := nv9 ha.loc; clear ha) | ((with_reducible refine (add_a (nd := ⟨n.kind, n.a, n.b, n.c, n.d, tk.text, n.n, z, n.pos⟩) (Hid.out (by assumption)) H6.out).mono ?_); rintro e v8 ⟨rfl, ha⟩; have B8 := Lib.hid ha; clear ha))
  go_ret
  exact B8.out.done rfl
set_option maxHeartbeats 2000000 in
theorem whole_fn2 {f : Nat} (hf : f ≤ 1000000) {w : World} {vn vt : Value} {s s1 s2 s3 s4 s5 s' : S} {q z r : Int} {tk : Tok} (h : PIn w c vn vt E s) (x0 : isT E s wStruct = true) (x1 : (ahd E s 1).k = 1) (x2 : sameT (ahd E s 2) [123] = false)
    (h1 : typedF f E s = some (q, s1)) (h2 : kindT E 1 s1 = some (tk, s2)) (x3 : isT E s2 [40] = true) (h3 : takeT s2 = some s3) (x4 : isT E s3 [41] = true) (h4 : takeT s3 = some s4) (h5 : blockF f E s4 = some (z, s5))
    (h6 : addT { nodeAt E s 50 with ty := q, text := tk.text, b := z } s5 = some (r, s')) : Calls Tryz.prog 72 #[.pointer (some ⟨c.p, 0, none⟩)] w (Post c vn vt E (.int .i64 r) s' w) := by
  have A0 := Lib.hid (At.start h); clear h
  obtain ⟨n, hn⟩ : ∃ n, nodeAt E s 52 = n := ⟨_, rfl⟩
  have h6' : addT ⟨50, -1, z, n.c, n.d, tk.text, n.n, q, n.pos⟩ s5 = some (r, s') := by rw [← hn]; exact h6
  have h4' : needT E [41] s3 = some s4 := by unfold needT; rw [if_pos x4]; exact h4
  have HN := Lib.hid hn
  have H1 := Lib.hid h1
  have H2 := Lib.hid h2
  have X3 := Lib.hid x3
  have H3 := Lib.hid h3
  have X4 := Lib.hid x4
  have H4 := Lib.hid h4'
  have H5 := Lib.hid h5
  have H6 := Lib.hid h6'
  have hbl := block_p (c := c) (E := E) hf
  clear hn h1 h2 x3 h3 x4 h4 h5 h6 h6' h4'
  have X0 := Lib.hid x0; clear x0
  obtain ⟨t1, ht1⟩ : ∃ t, ahd E s 1 = t := ⟨_, rfl⟩
  rw [ht1] at x1
  have y0 := fld0
  have T1 := Lib.hid ht1; clear ht1
  have z1 : (t1.k == 1) = true := by simpa using x1
  clear x1
  obtain ⟨t2, ht2⟩ : ∃ t, ahd E s 2 = t := ⟨_, rfl⟩
  rw [ht2] at x2
  have T2 := Lib.hid ht2; clear ht2
  have X2 := Lib.hid x2; clear x2
  go_enter Tryz.func72, Tryz.ntmps72
  go_wp2_with (first | ((with_reducible refine (is_a (Hid.out (by assumption)) X0.out).mono ?_); rintro e v11 ⟨rfl, ha⟩; have B11 := Lib.hid ha; clear ha) | ((with_reducible refine (ahead1_a (Hid.out (by assumption)) T1.out).mono ?_); rintro e v12 ⟨rfl, ha⟩; have B12 := Lib.hid ha; clear ha) | ((with_reducible refine (ahead2_a (Hid.out (by assumption)) T2.out).mono ?_); rintro e v13 ⟨rfl, ha⟩; have B13 := Lib.hid ha; clear ha) | ((with_reducible refine (same_a (Hid.out (by assumption)) X2.out).mono ?_); rintro e v14 ⟨rfl, ha⟩; have B14 := Lib.hid ha; clear ha) | ((with_reducible refine (node_a (Hid.out (by assumption)) HN.out).mono ?_); rintro e v1 ⟨rfl, ha⟩; have B1 := Lib.hid ha; have C1 := Lib.hid (ha.alloc (ndO n)); dsimp only [ndV]; clear ha) | ((with_reducible refine (typed_a (Hid.out (by assumption)) H1.out).mono ?_); rintro e v2 ⟨rfl, ha⟩; have B2 := Lib.hid ha; clear ha) | ((with_reducible refine (name_a (Hid.out (by assumption)) H2.out).mono ?_); rintro e v3 ⟨rfl, ha⟩; have B3 := Lib.hid ha; obtain ⟨f0, f1, f2, f3, f4, f5, f6, f7, f8, g0, g1, g2, g3, g4, g5, g6, g7, g8⟩ := nv9 ha.loc; have C4 := Lib.hid ((ha.set 7 (.int .i64 q)).set 5 (.string (bt tk.text))); clear ha) | ((with_reducible refine (took_y (Hid.out (by assumption)) X3.out H3.out).mono ?_); rintro e v4 ⟨rfl, ha⟩; have B4 := Lib.hid ha; clear ha) | ((with_reducible refine (commas_new _ _ _ _ _).mono ?_); rintro e v5 ⟨rfl, rfl⟩; have hB4 := B4.out; have C5 := (hB4.alloc (bxO c)).alloc (fnO (.func (.func 101) #[.pointer (some ⟨c.p, 0, none⟩)] #[])); rw [World.size_alloc] at C5; have D5 := Lib.hid C5; clear C5 hB4) | ((with_reducible refine (list_commas D5.out (by simp) X4.out).mono ?_); rintro e v6 ⟨rfl, ha⟩; obtain ⟨f0, f1, f2, f3, f4, f5, f6, f7, f8, g0, g1, g2, g3, g4, g5, g6, g7, g8⟩ := nv9 ha.drop.drop.loc; have C6 := Lib.hid ((ha.drop.drop.set 0 (.int .i64 50)).set 1 (.int .i64 (-1))); clear ha) | ((with_reducible refine (need_a (Hid.out (by assumption)) H4.out).mono ?_); rintro e v7 ⟨rfl, ha⟩; have B7 := Lib.hid ha; clear ha) | ((with_reducible refine (hbl.a (Hid.out (by assumption)) H5.out).mono ?_); rintro e v8 ⟨rfl, ha⟩; have B8 := Lib.hid ha; obtain ⟨p0, p1, p2, p3, p4, p5, p6, p7, p8, o0, o1, o2, o3, o4, o5, o6, o7, o8⟩ := nv9 ha.loc; have C8 := Lib.hid (ha.set 2 (.int .i64 z)); clear ha) | ((with_reducible refine (add_a (nd := ⟨50, -1, z, n.c, n.d, tk.text, n.n, q, n.pos⟩) (Hid.out (by assumption)) H6.out).mono ?_); rintro e v9 ⟨rfl, ha⟩; have B9 := Lib.hid ha; clear ha))
  go_ret
  exact B9.out.done rfl
set_option maxHeartbeats 2000000 in
theorem whole_gl2 {f : Nat} {w : World} {vn vt : Value} {s s1 s2 s3 s4 s' : S} {q z r : Int} {tk : Tok} (h : PIn w c vn vt E s) (x0 : isT E s wStruct = true) (x1 : (ahd E s 1).k = 1) (x2 : sameT (ahd E s 2) [123] = false)
    (h1 : typedF f E s = some (q, s1)) (h2 : kindT E 1 s1 = some (tk, s2)) (x3 : isT E s2 [40] = false) (h3 : countedF E q s2 = some (z, s3)) (x4 : isT E s3 [61] = false) (h4 : needT E [59] s3 = some s4)
    (h6 : addT { nodeAt E s 52 with ty := z, text := tk.text } s4 = some (r, s')) : Calls Tryz.prog 72 #[.pointer (some ⟨c.p, 0, none⟩)] w (Post c vn vt E (.int .i64 r) s' w) := by
  have A0 := Lib.hid (At.start h); clear h
  obtain ⟨n, hn⟩ : ∃ n, nodeAt E s 52 = n := ⟨_, rfl⟩
  have h6' : addT ⟨n.kind, n.a, n.b, n.c, n.d, tk.text, n.n, z, n.pos⟩ s4 = some (r, s') := by rw [← hn]; exact h6
  have HN := Lib.hid hn
  have H1 := Lib.hid h1
  have H2 := Lib.hid h2
  have X3 := Lib.hid x3
  have H3 := Lib.hid h3
  have X4 := Lib.hid x4
  have H4 := Lib.hid h4
  have H6 := Lib.hid h6'
  clear hn h1 h2 x3 h3 x4 h4 h6 h6'
  have X0 := Lib.hid x0; clear x0
  obtain ⟨t1, ht1⟩ : ∃ t, ahd E s 1 = t := ⟨_, rfl⟩
  rw [ht1] at x1
  have y0 := fld0
  have T1 := Lib.hid ht1; clear ht1
  have z1 : (t1.k == 1) = true := by simpa using x1
  clear x1
  obtain ⟨t2, ht2⟩ : ∃ t, ahd E s 2 = t := ⟨_, rfl⟩
  rw [ht2] at x2
  have T2 := Lib.hid ht2; clear ht2
  have X2 := Lib.hid x2; clear x2
  go_enter Tryz.func72, Tryz.ntmps72
  go_wp2_with (first | ((with_reducible refine (is_a (Hid.out (by assumption)) X0.out).mono ?_); rintro e v11 ⟨rfl, ha⟩; have B11 := Lib.hid ha; clear ha) | ((with_reducible refine (ahead1_a (Hid.out (by assumption)) T1.out).mono ?_); rintro e v12 ⟨rfl, ha⟩; have B12 := Lib.hid ha; clear ha) | ((with_reducible refine (ahead2_a (Hid.out (by assumption)) T2.out).mono ?_); rintro e v13 ⟨rfl, ha⟩; have B13 := Lib.hid ha; clear ha) | ((with_reducible refine (same_a (Hid.out (by assumption)) X2.out).mono ?_); rintro e v14 ⟨rfl, ha⟩; have B14 := Lib.hid ha; clear ha) | ((with_reducible refine (node_a (Hid.out (by assumption)) HN.out).mono ?_); rintro e v1 ⟨rfl, ha⟩; have B1 := Lib.hid ha; have C1 := Lib.hid (ha.alloc (ndO n)); dsimp only [ndV]; clear ha) | ((with_reducible refine (typed_a (Hid.out (by assumption)) H1.out).mono ?_); rintro e v2 ⟨rfl, ha⟩; have B2 := Lib.hid ha; clear ha) | ((with_reducible refine (name_a (Hid.out (by assumption)) H2.out).mono ?_); rintro e v3 ⟨rfl, ha⟩; have B3 := Lib.hid ha; obtain ⟨f0, f1, f2, f3, f4, f5, f6, f7, f8, g0, g1, g2, g3, g4, g5, g6, g7, g8⟩ := nv9 ha.loc; have C4 := Lib.hid ((ha.set 7 (.int .i64 q)).set 5 (.string (bt tk.text))); clear ha) | ((with_reducible refine (took_n (Hid.out (by assumption)) X3.out).mono ?_); rintro e v4 ⟨rfl, ha⟩; have B4 := Lib.hid ha; obtain ⟨p0, p1, p2, p3, p4, p5, p6, p7, p8, o0, o1, o2, o3, o4, o5, o6, o7, o8⟩ := nv9 ha.loc; clear ha) | ((with_reducible refine (counted_a (Hid.out (by assumption)) H3.out).mono ?_); rintro e v5 ⟨rfl, ha⟩; have B5 := Lib.hid ha; obtain ⟨k0, k1, k2, k3, k4, k5, k6, k7, k8, m0, m1, m2, m3, m4, m5, m6, m7, m8⟩ := nv9 ha.loc; have C5 := Lib.hid (ha.set 7 (.int .i64 z)); clear ha) | ((with_reducible refine (took_n (Hid.out (by assumption)) X4.out).mono ?_); rintro e v6 ⟨rfl, ha⟩; have B6 := Lib.hid ha; clear ha) | ((with_reducible refine (need_a (Hid.out (by assumption)) H4.out).mono ?_); rintro e v7 ⟨rfl, ha⟩; have B7 := Lib.hid ha; obtain ⟨r0, r1, r2, r3, r4, r5, r6, r7, r8, t0, t1, t2, t3, t4, t5, t6, t7, t8⟩ := nv9 ha.loc; clear ha) | ((with_reducible refine (add_a (nd := ⟨n.kind, n.a, n.b, n.c, n.d, tk.text, n.n, z, n.pos⟩) (Hid.out (by assumption)) H6.out).mono ?_); rintro e v8 ⟨rfl, ha⟩; have B8 := Lib.hid ha; clear ha))
  go_ret
  exact B8.out.done rfl
theorem whole_p {f : Nat} (hf : f ≤ 1000000) : Reads c E 72 (wholeF f E) := by
  intro w vn vt s r s' hs h
  unfold wholeF at hs
  by_cases hx : isT E s wStruct ∧ (ahd E s 1).k = 1 ∧ sameT (ahd E s 2) [123] = true
  case pos => rw [if_pos hx] at hs; cases hs
  rw [if_neg hx] at hs
  obtain ⟨⟨q, s1⟩, h1, hs⟩ := Option.bind_eq_some_iff.1 hs
  obtain ⟨⟨tk, s2⟩, h2, hs⟩ := Option.bind_eq_some_iff.1 hs
  dsimp only at h2 hs
  by_cases x3 : isT E s2 [40] = true
  · rw [if_pos x3] at hs
    obtain ⟨s3, h3, hs⟩ := Option.bind_eq_some_iff.1 hs
    by_cases x4 : isT E s3 [41] = true
    case neg => rw [if_neg x4] at hs; cases hs
    rw [if_pos x4] at hs
    obtain ⟨s4, h4, hs⟩ := Option.bind_eq_some_iff.1 hs
    obtain ⟨⟨z, s5⟩, h5, h6⟩ := Option.bind_eq_some_iff.1 hs
    by_cases y0 : isT E s wStruct = true
    · by_cases y1 : (ahd E s 1).k = 1
      · exact whole_fn2 hf h y0 y1 (bfalse fun e => hx ⟨y0, y1, e⟩) h1 h2 x3 h3 x4 h4 h5 h6
      · exact whole_fn1 hf h y0 y1 h1 h2 x3 h3 x4 h4 h5 h6
    · exact whole_fn0 hf h (bfalse y0) h1 h2 x3 h3 x4 h4 h5 h6
  · rw [if_neg x3] at hs
    obtain ⟨⟨z, s3⟩, h3, hs⟩ := Option.bind_eq_some_iff.1 hs
    dsimp only at hs
    by_cases x4 : isT E s3 [61] = true
    case pos => rw [if_pos x4] at hs; cases hs
    rw [if_neg x4] at hs
    obtain ⟨s4, h4, h6⟩ := Option.bind_eq_some_iff.1 hs
    by_cases y0 : isT E s wStruct = true
    · by_cases y1 : (ahd E s 1).k = 1
      · exact whole_gl2 h y0 y1 (bfalse fun e => hx ⟨y0, y1, e⟩) h1 h2 (bfalse x3) h3 (bfalse x4) h4 h6
      · exact whole_gl1 h y0 y1 h1 h2 (bfalse x3) h3 (bfalse x4) h4 h6
    · exact whole_gl0 h (bfalse y0) h1 h2 (bfalse x3) h3 (bfalse x4) h4 h6
end
end Go.Proofs.YtkgnmlllmihmlaaGreatDoor
