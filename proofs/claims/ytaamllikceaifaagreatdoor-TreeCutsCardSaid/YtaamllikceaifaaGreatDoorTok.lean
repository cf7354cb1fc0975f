/-
  Contracts of the parser's methods on tokens, with their errors.
  Contracts of the parser's methods that add nodes and types, with their errors.
  The contract of deeper, errors too.
-/
import Derived.Test.YtaamllikceaifaaGreatDoorErr
import Derived.Deep.LoopGhost
import Derived.LoopN
import Derived.Lib.QuietBelow
import Derived.Defers
namespace Go.Proofs.YtaamllikceaifaaGreatDoor
open Go.RowKit Sp Tr
set_option linter.unusedVariables false

section
variable {α β : Type} {w0 w : World} {c : PC} {v u : Value} {E : PE} {s s' : S} {L : List (Nat × Obj)}
theorem AnsR.err1 {R : Tr.Res α} {val : α → Value} {er : Int} (hR : Hid (.bad er s = R)) (h : Bad w0 c v u E s er L w) : AnsR w0 c v u E [] R val (.panicked (chV er)) w := by
  rw [← hR.out]; exact ⟨rfl, h.nil⟩
theorem tk_eta (t : Tok) : ∀ k x n p, t.k = k → t.text = x → t.n = n → t.pos = p → tkV t = .agg #[.int .i64 k, .string (bt x), .int .i64 n, .int .i64 p] := by rintro _ _ _ _ rfl rfl rfl rfl; rfl
theorem took_q {x : List UInt8} (h : At w0 c v u E s L w) (hN : tookM E x s ≠ .out) : Calls Tryz.prog 99 #[.pointer (some ⟨c.p, 0, none⟩), .string (bt x)] w (AnsR w0 c v u E L (tookM E x s) Value.bool) := by
  refine h.liftR fun vn vt hq => ?_
  clear h
  have A0 := Lib.hid (At.start hq); clear hq
  have HN := Lib.hid hN; clear hN
  obtain ⟨R, hR⟩ : ∃ R, tookM E x s = R := ⟨_, rfl⟩
  rw [hR] at HN ⊢
  unfold tookM at hR
  have HR := Lib.hid hR; clear hR
  go_enter Tryz.func99, Tryz.ntmps99
  go_wp2_with (first | ((with_reducible refine (is_q (Hid.out (by assumption))).mono ?_); rintro e v1 ⟨b, rfl, hx, ha⟩; cases b; all_goals ((first | (have HQ := ite_T HR hx) | (have HQ := ite_F HR (ne_true_of_eq_false hx))); clear HR; have HR := HQ; clear HQ hx; have B1 := Lib.hid ha; (try (obtain ⟨f0, f1, f2, f3, f4, f5, f6, f7, f8, g0, g1, g2, g3, g4, g5, g6, g7, g8⟩ := nv9 ha.loc)); clear ha)) | ((with_reducible refine (take_q (Hid.out (by assumption)) (ne_out HR HN)).mono ?_); rintro e v2 hz; rcases hz.split HR with ⟨a2, s2, rfl, K2, HQ, ha⟩ | ⟨er, sx, rfl, rfl, hb⟩; rotate_left; (exact ⟨rfl, AnsR.err hb⟩); clear HR hz; have HR := HQ; clear HQ; have B2 := Lib.hid ha; (try (obtain ⟨f0, f1, f2, f3, f4, f5, f6, f7, f8, g0, g1, g2, g3, g4, g5, g6, g7, g8⟩ := nv9 ha.loc)); clear ha))
  all_goals (go_ret; exact AnsR.end1 HR (Hid.out (by assumption)))
theorem need_q {x : List UInt8} (h : At w0 c v u E s L w) (hN : needM E x s ≠ .out) : Calls Tryz.prog 102 #[.pointer (some ⟨c.p, 0, none⟩), .string (bt x)] w (AnsR w0 c v u E L (needM E x s) uV) := by
  refine h.liftR fun vn vt hq => ?_
  clear h
  have A0 := Lib.hid (At.start hq); clear hq
  have HN := Lib.hid hN; clear hN
  obtain ⟨R, hR⟩ : ∃ R, needM E x s = R := ⟨_, rfl⟩
  rw [hR] at HN ⊢
  unfold needM at hR
  have HR := Lib.hid hR; clear hR
  go_enter Tryz.func102, Tryz.ntmps102
  go_wp2_with (first | ((with_reducible refine (took_q (Hid.out (by assumption)) (ne_out HR HN)).mono ?_); rintro e v1 hz; rcases hz.split HR with ⟨a1, s1, rfl, K1, HQ, ha⟩ | ⟨er, sx, rfl, rfl, hb⟩; rotate_left; (exact ⟨rfl, AnsR.err hb⟩); clear HR hz; cases a1; all_goals ((first | (have HR := ite_T HQ rfl) | (have HR := ite_F HQ (by decide))); clear HQ; have B1 := Lib.hid ha; (try (obtain ⟨f0, f1, f2, f3, f4, f5, f6, f7, f8, g0, g1, g2, g3, g4, g5, g6, g7, g8⟩ := nv9 ha.loc)); clear ha)) | ((with_reducible refine (fail_a (Hid.out (by assumption)) _).mono ?_); rintro e vx ⟨rfl, hb⟩; exact ⟨rfl, AnsR.err1 HR hb⟩))
  all_goals (go_end0; exact AnsR.end1 HR (Hid.out (by assumption)))
theorem kind_q {k : Int} (h : At w0 c v u E s L w) (hN : kindM E k s ≠ .out) : Calls Tryz.prog 126 #[.pointer (some ⟨c.p, 0, none⟩), .int .i64 k] w (AnsR w0 c v u E L (kindM E k s) tkV) := by
  refine h.liftR fun vn vt hq => ?_
  clear h
  have A0 := Lib.hid (At.start hq); clear hq
  have HN := Lib.hid hN; clear hN
  obtain ⟨R, hR⟩ : ∃ R, kindM E k s = R := ⟨_, rfl⟩
  rw [hR] at HN ⊢
  obtain ⟨t, ht⟩ : ∃ t, nowT E s = t := ⟨_, rfl⟩
  unfold kindM at hR
  have y0 := fld0
  have HT := Lib.hid ht
  by_cases hk : t.k = k
  · rw [ht, if_pos hk] at hR
    have e1 : (t.k != k) = false := by simp [hk]
    have HR := Lib.hid hR; clear hR hk ht
    go_enter Tryz.func126, Tryz.ntmps126
    go_wp2_with (first | ((with_reducible refine (now_a (A0.out.alloc _) HT.out).mono ?_); rintro e v1 ⟨rfl, ha⟩; have B1 := Lib.hid ha; clear ha) | ((with_reducible refine (take_q B1.out (ne_out1 HR HN)).mono ?_); rintro e v2 hz; rcases hz.split1 HR with ⟨a2, s2, rfl, rfl, ha⟩ | ⟨er, sx, rfl, rfl, hb⟩; rotate_left; (exact ⟨rfl, AnsR.err hb⟩); clear HR hz; have B2 := Lib.hid ha; obtain ⟨f0, f1, f2, f3, _⟩ := nv4 ha.loc; clear ha))
    exact bodyPost_ret (v := tkV a2) (by simp [results, Tryz.results126, go_sem, f0, f1, f2, f3] <;> rfl) rfl (AnsR.ret ((((B2.out.set 0 _).set 1 _).set 2 _).set 3 _))
  · rw [ht, if_neg hk] at hR
    have e1 : (t.k != k) = true := by simp [hk]
    have HR := Lib.hid hR; clear hR hk ht
    go_enter Tryz.func126, Tryz.ntmps126
    go_wp2_with (first | ((with_reducible refine (now_a (A0.out.alloc _) HT.out).mono ?_); rintro e v1 ⟨rfl, ha⟩; have B1 := Lib.hid ha; clear ha) | ((with_reducible refine (fail_a (Hid.out (by assumption)) _).mono ?_); rintro e vx ⟨rfl, hb⟩; exact ⟨rfl, AnsR.err1 HR hb⟩))
theorem name_q (h : At w0 c v u E s L w) (hN : nameM E s ≠ .out) : Calls Tryz.prog 98 #[.pointer (some ⟨c.p, 0, none⟩)] w (AnsR w0 c v u E L (nameM E s) sV) := by
  refine h.liftR fun vn vt hq => ?_
  clear h
  have A0 := Lib.hid (At.start hq); clear hq
  have HN := Lib.hid hN; clear hN
  obtain ⟨R, hR⟩ : ∃ R, nameM E s = R := ⟨_, rfl⟩
  rw [hR] at HN ⊢
  unfold nameM at hR
  have HR := Lib.hid hR; clear hR
  have y1 := fld1
  go_enter Tryz.func98, Tryz.ntmps98
  go_wp2_with ((with_reducible refine (kind_q (Hid.out (by assumption)) (ne_out HR HN)).mono ?_); rintro e v1 hz; rcases hz.split HR with ⟨a1, s1, rfl, K1, HQ, ha⟩ | ⟨er, sx, rfl, rfl, hb⟩; rotate_left; (exact ⟨rfl, AnsR.err hb⟩); clear HR hz; have HR := HQ; clear HQ; have B1 := Lib.hid ha; (try (obtain ⟨f0, f1, f2, f3, f4, f5, f6, f7, f8, g0, g1, g2, g3, g4, g5, g6, g7, g8⟩ := nv9 ha.loc)); clear ha)
  go_ret
  exact AnsR.end1 HR (Hid.out (by assumption))
theorem number_q (h : At w0 c v u E s L w) (hN : numberM E s ≠ .out) : Calls Tryz.prog 130 #[.pointer (some ⟨c.p, 0, none⟩)] w (AnsR w0 c v u E L (numberM E s) iV) := by
  refine h.liftR fun vn vt hq => ?_
  clear h
  have A0 := Lib.hid (At.start hq); clear hq
  have HN := Lib.hid hN; clear hN
  obtain ⟨R, hR⟩ : ∃ R, numberM E s = R := ⟨_, rfl⟩
  rw [hR] at HN ⊢
  unfold numberM at hR
  have HR := Lib.hid hR; clear hR
  have y2 := fld2
  go_enter Tryz.func130, Tryz.ntmps130
  go_wp2_with ((with_reducible refine (kind_q (Hid.out (by assumption)) (ne_out HR HN)).mono ?_); rintro e v1 hz; rcases hz.split HR with ⟨a1, s1, rfl, K1, HQ, ha⟩ | ⟨er, sx, rfl, rfl, hb⟩; rotate_left; (exact ⟨rfl, AnsR.err hb⟩); clear HR hz; have HR := HQ; clear HQ; have B1 := Lib.hid ha; (try (obtain ⟨f0, f1, f2, f3, f4, f5, f6, f7, f8, g0, g1, g2, g3, g4, g5, g6, g7, g8⟩ := nv9 ha.loc)); clear ha)
  go_ret
  exact AnsR.end1 HR (Hid.out (by assumption))
theorem At.kn (h : At w0 c v u E s L w) : 0 ≤ (nowT E s).k ∧ (nowT E s).k ≤ 4 ∧ ((nowT E s).n : Int) ≤ 4294967295 ∧ ((nowT E s).pos : Int) ≤ 32768 ∧ (nowT E s).text.length ≤ 32768 := by
  obtain ⟨vn, vt, h1, _⟩ := h
  refine h1.kn _ ?_
  unfold nowT ahd
  rw [List.getD_eq_getElem?_getD]
  cases hx : E.toks[s.read + 0]? with
  | none => simp
  | some t => simp; exact .inr (List.mem_of_getElem? hx)
theorem numberM_le {n : Int} {s1 : S} (h : At w0 c v u E s L w) (hs : numberM E s = .ok n s1) : 0 ≤ n ∧ n ≤ 4294967295 := by
  have hk := h.kn
  unfold numberM kindM takeM at hs
  split at hs
  · split at hs
    · cases hs
    · split at hs
      · simp only [Tr.Res.bind] at hs
        injection hs with h1 h2
        omega
      · cases hs
  · cases hs
theorem signed_q (h : At w0 c v u E s L w) (hN : signedM E s ≠ .out) : Calls Tryz.prog 105 #[.pointer (some ⟨c.p, 0, none⟩)] w (AnsR w0 c v u E L (signedM E s) iV) := by
  refine h.liftR fun vn vt hq => ?_
  clear h
  have A0 := Lib.hid (At.start hq); clear hq
  have HN := Lib.hid hN; clear hN
  obtain ⟨R, hR⟩ : ∃ R, signedM E s = R := ⟨_, rfl⟩
  rw [hR] at HN ⊢
  unfold signedM at hR
  have HR := Lib.hid hR; clear hR
  have hle := fun {w : World} {s s1 : S} {n : Int} (h : At w c vn vt E s [] w) (hs : numberM E s = .ok n s1) => numberM_le h hs
  go_enter Tryz.func105, Tryz.ntmps105
  go_wp2_with (first | ((with_reducible refine (took_q (Hid.out (by assumption)) (ne_out HR HN)).mono ?_); rintro e v1 hz; rcases hz.split HR with ⟨a1, s1, rfl, K1, HQ, ha⟩ | ⟨er, sx, rfl, rfl, hb⟩; rotate_left; (exact ⟨rfl, AnsR.err hb⟩); clear HR hz; cases a1; all_goals ((first | (have HR := ite_T HQ rfl) | (have HR := ite_F HQ (by decide))); clear HQ; have B1 := Lib.hid ha; have Q1 := Lib.hid (fun n s1 hs => numberM_le (n := n) (s1 := s1) ha hs); clear ha)) | ((with_reducible refine (number_q (Hid.out (by assumption)) (ne_out HR HN)).mono ?_); rintro e v2 hz; rcases hz.split HR with ⟨a2, s2, rfl, K2, HQ, ha⟩ | ⟨er, sx, rfl, rfl, hb⟩; rotate_left; (exact ⟨rfl, AnsR.err hb⟩); clear HR hz; have HR := HQ; clear HQ; have B2 := Lib.hid ha; (try (obtain ⟨f0, f1, f2, f3, f4, f5, f6, f7, f8, g0, g1, g2, g3, g4, g5, g6, g7, g8⟩ := nv9 ha.loc)); obtain ⟨z0, z1⟩ := Q1.out _ _ K2.out; clear ha) | ((with_reducible refine (number_q (Hid.out (by assumption)) (ne_out1 HR HN)).mono ?_); rintro e v3 hz; rcases hz.split1 HR with ⟨a3, s3, rfl, rfl, ha⟩ | ⟨er, sx, rfl, rfl, hb⟩; rotate_left; (exact ⟨rfl, AnsR.err hb⟩); clear HR hz; have B3 := Lib.hid ha; clear ha))
  · go_ret
    exact AnsR.ret B3.out
  · go_ret
    exact AnsR.end1 HR (Hid.out (by assumption))
end
end Go.Proofs.YtaamllikceaifaaGreatDoor
namespace Go.Proofs.YtaamllikceaifaaGreatDoor
open Go.RowKit Sp Tr
set_option linter.unusedVariables false

section
variable {α β : Type} {w0 w : World} {c : PC} {v u : Value} {E : PE} {s s' : S} {L : List (Nat × Obj)}
theorem Post.ans {vn vt : Value} {r : Int} {e : Ending} {w' : World} (h : Post c vn vt E (.int .i64 r) s' w e w') : AnsR w c vn vt E [] (.ok r s') iV e w' := by
  obtain ⟨vn', vt', rfl, h2, t2⟩ := h
  exact ⟨rfl, vn', vt', h2, t2, fun x hx => by simp at hx, by simp⟩
theorem add_q {nd : Nd} (h : At w0 c v u E s L w) (_hN : addM nd s ≠ .out) : Calls Tryz.prog 71 #[.pointer (some ⟨c.p, 0, none⟩), ndV nd] w (AnsR w0 c v u E L (addM nd s) iV) := by
  refine h.liftR fun vn vt hq => ?_
  clear h
  unfold addM
  by_cases hl : s.nodes.length < 8192
  · rw [if_pos hl]
    refine (add_p hq (nd := nd) (s' := { s with nodes := s.nodes ++ [nd] }) (r := s.nodes.length) (by unfold addT; rw [if_pos hl])).mono ?_
    exact fun e w' hp => hp.ans
  · rw [if_neg hl]
    have hln := hq.ln
    have e1 : ((s.nodes.length : Int) == 8192) = true := by simp; omega
    have hp := lt_heap hq.head
    obtain ⟨_, _, _, _, _, _, _, d7, _, _⟩ := hq.cells
    obtain ⟨a, cap, rfl⟩ := row_slice hq.nodes
    have A0 := Lib.hid (At.start hq); clear hq
    dsimp only [ndV]
    go_enter Tryz.func71, Tryz.ntmps71
    go_wp2_with ((with_reducible refine (fail_a (A0.out.alloc _) _).mono ?_); rintro e vx ⟨rfl, hb⟩; exact ⟨rfl, AnsR.err hb⟩)
theorem numbered_q {x : Ty} (h : At w0 c v u E s L w) (_hN : numberedM x s ≠ .out) : Calls Tryz.prog 125 #[.pointer (some ⟨c.p, 0, none⟩), tyV x] w (AnsR w0 c v u E L (numberedM x s) iV) := by
  refine h.liftR fun vn vt h => ?_
  unfold numberedM
  cases hf : findT s.types x with
  | some i => exact (numbered_p h (x := x) (s' := s) (r := i) (by unfold numbered; rw [hf])).mono fun e w' hp => hp.ans
  | none =>
    dsimp only
    by_cases hl : s.types.length < 256
    · rw [if_pos hl]
      exact (numbered_p h (x := x) (s' := { s with types := s.types ++ [x] }) (r := s.types.length) (by unfold numbered; rw [hf]; dsimp only; rw [if_pos hl])).mono fun e w' hp => hp.ans
    rw [if_neg hl]
    have hlt := h.lt
    have hp := lt_heap h.head
    obtain ⟨_, _, _, _, _, _, _, _, d8, _⟩ := h.cells
    have HX := fun {w} (h : PIn w c vn vt E s) => index_any h x
    rw [hf] at HX
    obtain ⟨a, cap, rfl⟩ := row_slice h.types
    have e1 : ((s.types.length : Int) == 256) = true := by simp; omega
    have H := Lib.hid h; clear h hf
    dsimp only [tyV, idx] at HX ⊢
    go_enter Tryz.func125, Tryz.ntmps125
    go_wp2
    obtain ⟨wr, hwr⟩ : ∃ wr : World, w.alloc (.cells #[.int .i64 x.kind, .int .i64 x.elem, .int .i64 x.n, .string (bt x.name)] 36) = wr := ⟨_, rfl⟩
    have HR : Hid (PIn wr c _ _ E s) := Lib.hid (hwr ▸ H.out.alloc _)
    have hbr : Below w.heap.size w wr := hwr ▸ (Below.refl _ _).alloc (Nat.le_refl _) _
    have hh : wr.heap[w.heap.size]? = some (.cells #[.int .i64 x.kind, .int .i64 x.elem, .int .i64 x.n, .string (bt x.name)] 36 (0, 0)) := by rw [← hwr]; exact heap_alloc_new w _
    obtain ⟨f0, f1, f2, f3, _, _, _, _⟩ := nv4 hh
    rw [hwr]
    have d8r := HR.out.cells.2.2.2.2.2.2.2.2.1
    have HB := Lib.hid hbr
    have k8 := fun d os => cell_regrown d8r d os
    have k0 := fun d os => cell_regrown f0 d os
    have k1 := fun d os => cell_regrown f1 d os
    have k2 := fun d os => cell_regrown f2 d os
    have k3 := fun d os => cell_regrown f3 d os
    have HC : Hid (∀ d os, Calls Tryz.prog 138 #[.slice a s.types.length cap, .agg #[.int .i64 x.kind, .int .i64 x.elem, .int .i64 x.n, .string (bt x.name)]] (Go.Sort.grow (redrawn wr d) os) fun e w' => e = .returned (.int .i64 (-1)) ∧ Below (Go.Sort.grow (redrawn wr d) os).heap.size (Go.Sort.grow (redrawn wr d) os) w') := Lib.hid fun d os => HX (HR.out.below (below_regrown wr d os))
    clear hh d8 hwr hbr f0 f1 f2 f3 d8r HX
    refine wp_region_quiet_below (by kernel_rfl) (by kernel_rfl) ?_
    repeat (any_goals (first | go_big_quiet_step ((go_at_call 138; exact Calls.regrown_of (HC.out _ _))) | quiet_step ((go_at_call 138; exact Calls.regrown_of (HC.out _ _)))))
    refine wpQuiet_nil ?_
    intro _ hw'
    obtain ⟨⟨dq, osq⟩, hw''⟩ := hw'
    subst hw''
    have HB4 : Hid (Below w.heap.size w (Go.Sort.grow (redrawn wr dq) osq)) := Lib.hid (HB.out.trans ((below_regrown wr dq osq).mono HB.out.size))
    clear k8 k0 k1 k2 k3
    have d8r := (HR.out.below (below_regrown wr dq osq)).cells.2.2.2.2.2.2.2.2.1
    have hpr := lt_heap (HR.out.below (below_regrown wr dq osq)).head
    generalize Go.Sort.grow (redrawn wr dq) osq = w4 at *
    have A4 := Lib.hid ((At.start H.out).below HB4.out)
    go_wp2_with ((with_reducible refine (fail_a A4.out _).mono ?_); rintro e vx ⟨rfl, hb⟩; exact ⟨rfl, AnsR.err hb⟩)
set_option maxHeartbeats 2000000 in
theorem plain_q (h : At w0 c v u E s L w) (hN : plainM E s ≠ .out) : Calls Tryz.prog 124 #[.pointer (some ⟨c.p, 0, none⟩)] w (AnsR w0 c v u E L (plainM E s) iV) := by
  refine h.liftR fun vn vt hq => ?_
  clear h
  have A0 := Lib.hid (At.start hq); clear hq
  have HN := Lib.hid hN; clear hN
  obtain ⟨R, hR⟩ : ∃ R, plainM E s = R := ⟨_, rfl⟩
  rw [hR] at HN ⊢
  unfold plainM at hR
  have HR := Lib.hid hR; clear hR
  obtain ⟨ty, fr, hn⟩ : ∃ ty fr, w.heap[0]? = some (.cells namesV ty fr) := by
    obtain ⟨_, _, h1, _⟩ := A0.out
    exact h1.names
  have i0 := nm0
  have i1 := nm1
  have i2 := nm2
  have i3 := nm3
  go_enter Tryz.func124, Tryz.ntmps124
  go_wp2_with (refine wpList_load_row rfl 99 _ rfl 0 rfl ty namesV fr _ hn Tryz.underlying99 rfl (by kernel_rfl) ?_)
  refine wp_loop_rounds 5 ?_
  rw [rounds_succ]
  go_wp2_with ((with_reducible refine (took_q (Hid.out (by assumption)) (ne_out HR HN)).mono ?_); rintro e v0 hz; rcases hz.split HR with ⟨a0, s0, rfl, K0, HQ, ha⟩ | ⟨er, sx, rfl, rfl, hb⟩; rotate_left; (exact ⟨rfl, AnsR.err hb⟩); clear HR hz; cases a0; all_goals ((first | (have HR := ite_T HQ rfl) | (have HR := ite_F HQ (by decide))); clear HQ; have B0 := Lib.hid ha; (try (obtain ⟨f0, f1, f2, f3, f4, f5, f6, f7, f8, g0, g1, g2, g3, g4, g5, g6, g7, g8⟩ := nv9 ha.loc)); clear ha))
  rotate_left
  · go_ret
    exact AnsR.end1 HR (Hid.out (by assumption))
  rw [rounds_succ]
  go_wp2_with ((with_reducible refine (took_q (Hid.out (by assumption)) (ne_out HR HN)).mono ?_); rintro e v1 hz; rcases hz.split HR with ⟨a1, s1, rfl, K1, HQ, ha⟩ | ⟨er, sx, rfl, rfl, hb⟩; rotate_left; (exact ⟨rfl, AnsR.err hb⟩); clear HR hz; cases a1; all_goals ((first | (have HR := ite_T HQ rfl) | (have HR := ite_F HQ (by decide))); clear HQ; have B1 := Lib.hid ha; (try (obtain ⟨f0, f1, f2, f3, f4, f5, f6, f7, f8, g0, g1, g2, g3, g4, g5, g6, g7, g8⟩ := nv9 ha.loc)); clear ha))
  rotate_left
  · go_ret
    exact AnsR.end1 HR (Hid.out (by assumption))
  rw [rounds_succ]
  go_wp2_with ((with_reducible refine (took_q (Hid.out (by assumption)) (ne_out HR HN)).mono ?_); rintro e v2 hz; rcases hz.split HR with ⟨a2, s2, rfl, K2, HQ, ha⟩ | ⟨er, sx, rfl, rfl, hb⟩; rotate_left; (exact ⟨rfl, AnsR.err hb⟩); clear HR hz; cases a2; all_goals ((first | (have HR := ite_T HQ rfl) | (have HR := ite_F HQ (by decide))); clear HQ; have B2 := Lib.hid ha; (try (obtain ⟨f0, f1, f2, f3, f4, f5, f6, f7, f8, g0, g1, g2, g3, g4, g5, g6, g7, g8⟩ := nv9 ha.loc)); clear ha))
  rotate_left
  · go_ret
    exact AnsR.end1 HR (Hid.out (by assumption))
  rw [rounds_succ]
  go_wp2_with ((with_reducible refine (took_q (Hid.out (by assumption)) (ne_out HR HN)).mono ?_); rintro e v3 hz; rcases hz.split HR with ⟨a3, s3, rfl, K3, HQ, ha⟩ | ⟨er, sx, rfl, rfl, hb⟩; rotate_left; (exact ⟨rfl, AnsR.err hb⟩); clear HR hz; cases a3; all_goals ((first | (have HR := ite_T HQ rfl) | (have HR := ite_F HQ (by decide))); clear HQ; have B3 := Lib.hid ha; (try (obtain ⟨f0, f1, f2, f3, f4, f5, f6, f7, f8, g0, g1, g2, g3, g4, g5, g6, g7, g8⟩ := nv9 ha.loc)); clear ha))
  rotate_left
  · go_ret
    exact AnsR.end1 HR (Hid.out (by assumption))
  rw [rounds_succ]
  have hs := HR.out
  unfold structM at hs
  clear HR
  have HR := Lib.hid hs
  clear hs
  go_wp2_with (first | ((with_reducible refine (need_q (Hid.out (by assumption)) (ne_out HR HN)).mono ?_); rintro e v5 hz; rcases hz.split HR with ⟨a5, s5, rfl, K5, HQ, ha⟩ | ⟨er, sx, rfl, rfl, hb⟩; rotate_left; (exact ⟨rfl, AnsR.err hb⟩); clear HR hz; have HR := HQ; clear HQ; have B5 := Lib.hid ha; (try (obtain ⟨f0, f1, f2, f3, f4, f5, f6, f7, f8, g0, g1, g2, g3, g4, g5, g6, g7, g8⟩ := nv9 ha.loc)); clear ha) | ((with_reducible refine (name_q (Hid.out (by assumption)) (ne_out HR HN)).mono ?_); rintro e v6 hz; rcases hz.split HR with ⟨a6, s6, rfl, K6, HQ, ha⟩ | ⟨er, sx, rfl, rfl, hb⟩; rotate_left; (exact ⟨rfl, AnsR.err hb⟩); clear HR hz; have HR := HQ; clear HQ; have B6 := Lib.hid ha; (try (obtain ⟨f0, f1, f2, f3, f4, f5, f6, f7, f8, g0, g1, g2, g3, g4, g5, g6, g7, g8⟩ := nv9 ha.loc)); clear ha) | ((with_reducible refine (numbered_q (Hid.out (by assumption)) (ne_out1 HR HN)).mono ?_); rintro e v7 hz; rcases hz.split1 HR with ⟨a7, s7, rfl, rfl, ha⟩ | ⟨er, sx, rfl, rfl, hb⟩; rotate_left; (exact ⟨rfl, AnsR.err hb⟩); clear HR hz; have B7 := Lib.hid ha; clear ha))
  go_ret
  exact AnsR.ret B7.out
set_option maxHeartbeats 2000000 in
theorem typed_q {f : Nat} (h : At w0 c v u E s L w) (hN : typedM f E s ≠ .out) : Calls Tryz.prog 97 #[.pointer (some ⟨c.p, 0, none⟩)] w (AnsR w0 c v u E L (typedM f E s) iV) := by
  refine h.liftR fun vn vt hq => ?_
  clear h
  have A0 := Lib.hid (At.start hq); clear hq
  have HN := Lib.hid hN; clear hN
  obtain ⟨R, hR⟩ : ∃ R, typedM f E s = R := ⟨_, rfl⟩
  rw [hR] at HN ⊢
  unfold typedM at hR
  have HR := Lib.hid hR; clear hR
  go_enter Tryz.func97, Tryz.ntmps97
  go_wp2_with ((with_reducible refine (plain_q (Hid.out (by assumption)) (ne_out HR HN)).mono ?_); rintro e v1 hz; rcases hz.split HR with ⟨a1, s1, rfl, K1, HQ, ha⟩ | ⟨er, sx, rfl, rfl, hb⟩; rotate_left; (exact ⟨rfl, AnsR.err hb⟩); clear HR hz; have HR := HQ; clear HQ; have B1 := Lib.hid ha; (try (obtain ⟨f0, f1, f2, f3, f4, f5, f6, f7, f8, g0, g1, g2, g3, g4, g5, g6, g7, g8⟩ := nv9 ha.loc)); clear ha)
  go_loopg [3] f (fun g o wr => ∃ (q : Int) (s1 : S), o = .int .i64 q ∧ Hid (starsM g E q s1 = R) ∧ Hid (At w c vn vt E s1 [] wr))
  case atStart => exact ⟨a1, s1, rfl, HR, B1⟩
  case round =>
    clear B1 HR
    obtain ⟨q, s1, rfl, HS, B1⟩ := hrel
    cases gk with
    | zero => exact absurd HS.out.symm HN.out
    | succ g =>
      have hs := HS.out
      unfold starsM at hs
      have HR := Lib.hid hs
      clear hs HS
      go_wp2_with (first | ((with_reducible refine (took_q (Hid.out (by assumption)) (ne_out HR HN)).mono ?_); rintro e v2 hz; rcases hz.split HR with ⟨a2, s2, rfl, K2, HQ, ha⟩ | ⟨er, sx, rfl, rfl, hb⟩; rotate_left; (exact ⟨rfl, AnsR.err hb⟩); clear HR hz; cases a2; all_goals ((first | (have HR := ite_T HQ rfl) | (have HR := ite_F HQ (by decide))); clear HQ; have B2 := Lib.hid ha; (try (obtain ⟨f0, f1, f2, f3, f4, f5, f6, f7, f8, g0, g1, g2, g3, g4, g5, g6, g7, g8⟩ := nv9 ha.loc)); clear ha)) | ((with_reducible refine (numbered_q (Hid.out (by assumption)) (ne_out HR HN)).mono ?_); rintro e v3 hz; rcases hz.split HR with ⟨a3, s3, rfl, K3, HQ, ha⟩ | ⟨er, sx, rfl, rfl, hb⟩; rotate_left; (exact ⟨rfl, AnsR.err hb⟩); clear HR hz; have HR := HQ; clear HQ; have B3 := Lib.hid ha; (try (obtain ⟨f0, f1, f2, f3, f4, f5, f6, f7, f8, g0, g1, g2, g3, g4, g5, g6, g7, g8⟩ := nv9 ha.loc)); clear ha))
      · go_ret
        exact AnsR.end1 HR (Hid.out (by assumption))
      · go_roundg g
        case rel => exact ⟨_, _, rfl, HR, B3⟩
        case measure => omega
theorem counted_q {q : Int} (h : At w0 c v u E s L w) (hN : countedM E q s ≠ .out) : Calls Tryz.prog 104 #[.pointer (some ⟨c.p, 0, none⟩), .int .i64 q] w (AnsR w0 c v u E L (countedM E q s) iV) := by
  refine h.liftR fun vn vt hq => ?_
  clear h
  have A0 := Lib.hid (At.start hq); clear hq
  have HN := Lib.hid hN; clear hN
  obtain ⟨R, hR⟩ : ∃ R, countedM E q s = R := ⟨_, rfl⟩
  rw [hR] at HN ⊢
  unfold countedM at hR
  have HR := Lib.hid hR; clear hR
  go_enter Tryz.func104, Tryz.ntmps104
  go_wp2_with (first | ((with_reducible refine (took_q (Hid.out (by assumption)) (ne_out HR HN)).mono ?_); rintro e v1 hz; rcases hz.split HR with ⟨a1, s1, rfl, K1, HQ, ha⟩ | ⟨er, sx, rfl, rfl, hb⟩; rotate_left; (exact ⟨rfl, AnsR.err hb⟩); clear HR hz; cases a1; all_goals ((first | (have HR := ite_T HQ rfl) | (have HR := ite_F HQ (by decide))); clear HQ; have B1 := Lib.hid ha; (try (obtain ⟨f0, f1, f2, f3, f4, f5, f6, f7, f8, g0, g1, g2, g3, g4, g5, g6, g7, g8⟩ := nv9 ha.loc)); clear ha)) | ((with_reducible refine (number_q (Hid.out (by assumption)) (ne_out HR HN)).mono ?_); rintro e v2 hz; rcases hz.split HR with ⟨a2, s2, rfl, K2, HQ, ha⟩ | ⟨er, sx, rfl, rfl, hb⟩; rotate_left; (exact ⟨rfl, AnsR.err hb⟩); clear HR hz; have HR := HQ; clear HQ; have B2 := Lib.hid ha; (try (obtain ⟨f0, f1, f2, f3, f4, f5, f6, f7, f8, g0, g1, g2, g3, g4, g5, g6, g7, g8⟩ := nv9 ha.loc)); clear ha) | ((with_reducible refine (need_q (Hid.out (by assumption)) (ne_out HR HN)).mono ?_); rintro e v3 hz; rcases hz.split HR with ⟨a3, s3, rfl, K3, HQ, ha⟩ | ⟨er, sx, rfl, rfl, hb⟩; rotate_left; (exact ⟨rfl, AnsR.err hb⟩); clear HR hz; have HR := HQ; clear HQ; have B3 := Lib.hid ha; (try (obtain ⟨f0, f1, f2, f3, f4, f5, f6, f7, f8, g0, g1, g2, g3, g4, g5, g6, g7, g8⟩ := nv9 ha.loc)); clear ha) | ((with_reducible refine (numbered_q (Hid.out (by assumption)) (ne_out1 HR HN)).mono ?_); rintro e v4 hz; rcases hz.split1 HR with ⟨a4, s4, rfl, rfl, ha⟩ | ⟨er, sx, rfl, rfl, hb⟩; rotate_left; (exact ⟨rfl, AnsR.err hb⟩); clear HR hz; have B4 := Lib.hid ha; clear ha))
  · go_ret
    exact AnsR.end1 HR (Hid.out (by assumption))
  · go_ret
    exact AnsR.ret B4.out
end
end Go.Proofs.YtaamllikceaifaaGreatDoor
namespace Go.Proofs.YtaamllikceaifaaGreatDoor
open Go.RowKit Sp Tr
set_option linter.unusedVariables false

/-- A method of the parser that reads, errors too. -/
def ReadsR (c : PC) (E : PE) (fn : Nat) (m : S → Tr.Res Int) : Prop :=
  ∀ w vn vt s, m s ≠ .out → PIn w c vn vt E s → Calls Tryz.prog fn #[.pointer (some ⟨c.p, 0, none⟩)] w (AnsR w c vn vt E [] (m s) iV)
section
variable {w0 w : World} {c : PC} {v u : Value} {E : PE} {s s' : S} {L : List (Nat × Obj)}
theorem ReadsR.q {fn : Nat} {m : S → Tr.Res Int} (hm : ReadsR c E fn m) (h : At w0 c v u E s L w) (hN : m s ≠ .out) :
    Calls Tryz.prog fn #[.pointer (some ⟨c.p, 0, none⟩)] w (AnsR w0 c v u E L (m s) iV) := h.liftR fun _ _ h => hm _ _ _ _ hN h
theorem PBad.putDepth {vn vt : Value} {er : Int} (h : PBad w c vn vt E s er) (d : Nat) (hd : d ≤ big) : PBad (w.setCell ⟨c.p, 6, none⟩ (.int .i64 d)) c vn vt E { s with depth := d } er := by
  have hz : ∀ k, k ≠ c.p → (w.setCell ⟨c.p, 6, none⟩ (.int .i64 d)).heap[k]? = w.heap[k]? := fun k hk => Below.heap_setCell _ _ _ _ (by simpa using hk)
  obtain ⟨cs, ty, hg, ht2⟩ := h.toks
  have h1 := h.gB; have h2 := h.ge
  refine ⟨?_, ⟨cs, ty, (hz _ (by omega)).trans hg, ht2⟩, h1, h2, h.rd, hd, h.tl⟩
  rw [cells_set h.head]
  rfl
theorem PBad.depth {vn vt : Value} {er : Int} (h : PBad w c vn vt E s er) : w.cell? ⟨c.p, 6, none⟩ = some (.int .i64 s.depth) ∧ w.frozen? ⟨c.p, 6, none⟩ = false := by
  refine ⟨?_, by simp [World.frozen?, h.head]⟩
  rw [cell_of_row w c.p _ _ _ _ h.head]
  rfl
theorem deeper_q {fn : Nat} {m : S → Tr.Res Int} (hm : ReadsR c E fn m) (eg : ∀ args w, (callFunc fn args).run Tryz.prog w = .ok (.enter fn args) w) (h : At w0 c v u E s L w) (hN : deepM m s ≠ .out) :
    Calls Tryz.prog 139 #[.pointer (some ⟨c.p, 0, none⟩), .func (.func fn) #[.pointer (some ⟨c.p, 0, none⟩)] #[]] w (AnsR w0 c v u E L (deepM m s) iV) := by
  refine h.liftR fun vn vt hq => ?_
  clear h
  have h := hq
  clear hq
  unfold deepM at hN ⊢
  by_cases hd : s.depth < big
  case neg => rw [if_neg hd] at hN; exact absurd rfl hN
  rw [if_pos hd] at hN ⊢
  have hmm := hm (s := { s with depth := s.depth + 1 })
  cases hr : m { s with depth := s.depth + 1 } with
  | out => rw [hr] at hN; exact absurd rfl hN
  | ok a s1 =>
    rw [hr] at hN hmm
    dsimp only at hN ⊢
    by_cases he : s1.depth = s.depth + 1
    case neg => rw [if_neg he] at hN; exact absurd rfl hN
    rw [if_pos he]
    refine (deeper_p eg h hd he (r := a) fun w1 vn1 vt1 hp => ?_).mono fun e w' hp => hp.ans
    refine (hmm w1 vn1 vt1 (by simp) hp).mono ?_
    rintro e w' ⟨rfl, hA⟩
    exact hA.done rfl
  | bad er s1 =>
    rw [hr] at hN hmm
    dsimp only at hN ⊢
    by_cases he : s1.depth = s.depth + 1
    case neg => rw [if_neg he] at hN; exact absurd rfl hN
    rw [if_pos he]
    have d6 := h.cells.2.2.2.2.2.2.1
    have f6 := h.frozen 6
    have hp := lt_heap h.head
    have hdd := hd
    unfold big at hdd
    have HP : Hid (PIn (w.setCell ⟨c.p, 6, none⟩ (.int .i64 ((s.depth : Int) + 1))) c vn vt E { s with depth := s.depth + 1 }) := Lib.hid (h.putDepth (s.depth + 1) (by unfold big; omega))
    have HM := Lib.hid hmm; clear hmm
    have HE := Lib.hid he; clear he
    clear h hN hr
    go_enter_defers Tryz.func139, Tryz.ntmps139
    go_wp2_with ((with_reducible refine (HM.out _ _ _ (by simp) HP.out).mono ?_); rintro e w1 ⟨rfl, vn', vt', hb, ht, _⟩; have HB := Lib.hid hb; have HT := Lib.hid ht; clear hb ht)
    have c6 : w1.cell? ⟨c.p, 6, none⟩ = some (.int .i64 ((s.depth + 1 : Nat) : Int)) := by rw [← HE.out]; exact HB.out.depth.1
    refine leaves_cons (f := 143) (args := #[.pointer (some ⟨c.p, 0, none⟩)]) (by simp) (by simp [go_sem]) ?_
    refine (leave_d (.panicking (chV er)) (by simp) c6 HB.out.depth.2 hdd).mono ?_
    rintro e u' w'' ⟨rfl, rfl, rfl⟩
    exact ⟨rfl, _, _, HB.out.putDepth s.depth (by unfold big; omega), (((Turn.refl _ _ _ _).setP 6 _).trans HT.out).setP 6 _, fun x hx => by simp at hx⟩
end
end Go.Proofs.YtaamllikceaifaaGreatDoor
