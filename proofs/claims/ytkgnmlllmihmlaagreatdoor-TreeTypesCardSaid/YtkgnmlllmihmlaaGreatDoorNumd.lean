/-
  The contract of slices.Index at types, and of numbered.
-/
import Derived.Test.YtkgnmlllmihmlaaGreatDoorAddp
import Derived.Laws.StructEq
import Derived.Lib.QuietBelow
namespace Go.Proofs.YtkgnmlllmihmlaaGreatDoor
open Go.RowKit Sp Tr
set_option linter.unusedVariables false

theorem flat_at {α : Type} (f : α → List Value) (k : Nat) (hf : ∀ a, (f a).length = k) : ∀ (X : List α) (i j : Nat) (x : α), X[i]? = some x → j < k → (X.flatMap f)[i * k + j]? = (f x)[j]?
  | [], i, j, t, h, _ => by simp at h
  | a :: ts, 0, j, t, h, hj => by
    simp at h; subst h
    simp only [List.flatMap_cons, Nat.zero_mul, Nat.zero_add]
    rw [List.getElem?_append_left (by rw [hf]; exact hj)]
  | a :: ts, i + 1, j, t, h, hj => by
    simp at h
    have ih := flat_at f k hf ts i j t h hj
    simp only [List.flatMap_cons] at ih ⊢
    rw [List.getElem?_append_right (by rw [hf, Nat.succ_mul]; omega), hf, show (i + 1) * k + j - k = i * k + j by rw [Nat.succ_mul]; omega]
    exact ih
/-- The four cells of a type. -/
theorem PIn.ty {w : World} {c : PC} {vn : Value} {g n cap : Nat} {E : PE} {s : S} (h : PIn w c vn (.slice (some ⟨g, 0, none⟩) n cap) E s) {i : Nat} {t : Ty} (hi : s.types[i]? = some t) :
    w.cell? ⟨g, i * 4, none⟩ = some (.int .i64 t.kind) ∧ w.cell? ⟨g, i * 4 + 1, none⟩ = some (.int .i64 t.elem) ∧ w.cell? ⟨g, i * 4 + 2, none⟩ = some (.int .i64 t.n) ∧ w.cell? ⟨g, i * 4 + 3, none⟩ = some (.string (bt t.name)) := by
  have hc := h.types.cells (g := g) rfl
  have hadd : ∀ j, (⟨g, 0, none⟩ : Addr).add j = ⟨g, j, none⟩ := fun j => by unfold Addr.add; split <;> simp_all
  have c : ∀ j, j < 4 → ∀ u, (tyCells t)[j]? = some u → w.cell? ⟨g, i * 4 + j, none⟩ = some u := fun j hj u hu => by
    have := hc (i * 4 + j) u (by rw [flat_at tyCells 4 (fun _ => rfl) s.types i j t hi hj]; exact hu)
    rwa [hadd] at this
  exact ⟨c 0 (by omega) _ rfl, c 1 (by omega) _ rfl, c 2 (by omega) _ rfl, c 3 (by omega) _ rfl⟩
theorem findT_append : ∀ (A D : List Ty) (x : Ty), findT (A ++ D) x = match findT A x with | some i => some i | none => (findT D x).map (· + A.length)
  | [], D, x => by simp [findT]
  | e :: A, D, x => by
    simp only [List.cons_append, findT]
    by_cases h : e = x
    · simp [h]
    · simp only [h, if_false]
      rw [findT_append A D x]
      cases findT A x with
      | some i => rfl
      | none =>
        cases findT D x with
        | none => rfl
        | some j => simp; omega
theorem take_snocY {T : List Ty} {k : Nat} {e : Ty} (h : T[k]? = some e) : T.take (k + 1) = T.take k ++ [e] := by
  rw [List.take_add_one, h]; rfl
theorem findT_next {T : List Ty} {x : Ty} {k : Nat} {e : Ty} (h : findT (T.take k) x = none) (he : T[k]? = some e) (hne : e ≠ x) : findT (T.take (k + 1)) x = none := by
  rw [take_snocY he, findT_append, h]
  simp [findT, hne]
theorem findT_here {T : List Ty} {x : Ty} {k : Nat} (h : findT (T.take k) x = none) (he : T[k]? = some x) : findT T x = some k := by
  have hk : k < T.length := (List.getElem?_eq_some_iff.1 he).1
  have e1 : T = T.take (k + 1) ++ T.drop (k + 1) := (List.take_append_drop _ _).symm
  rw [e1, findT_append, take_snocY he, findT_append, h]
  simp [findT]
  omega
theorem findT_lt {T : List Ty} {x : Ty} {i : Nat} (h : findT T x = some i) : i < T.length := by
  induction T generalizing i with
  | nil => simp [findT] at h
  | cons e T ih =>
    unfold findT at h
    split at h
    · simp at h; subst h; simp
    · obtain ⟨j, hj, rfl⟩ := Option.map_eq_some_iff.1 h
      have := ih hj
      simp; omega
theorem ty_eql (a b : Ty) (W : World) : (binOp .eql 36 (.agg #[.int .i64 a.kind, .int .i64 a.elem, .int .i64 a.n, .string (bt a.name)]) (.agg #[.int .i64 b.kind, .int .i64 b.elem, .int .i64 b.n, .string (bt b.name)])).run Tryz.prog W = .ok (.bool (decide (a = b))) W := by
  have hS : Tryz.prog.underlying 36 = some (.struct (Tryz.prog.fieldsOf 36)) := by kernel_rfl
  have hp : Tryz.prog.stoodInHeld 36 = false := by kernel_rfl
  rw [run_eql_struct, show (10000 : Nat) = 9999 + 1 from rfl, run_equalIn_agg W 9999 36 _ _ hS hp]
  have e : decide (a = b) = (a.kind == b.kind && a.elem == b.elem && a.n == b.n && a.name == b.name) := by
    rw [Bool.eq_iff_iff]
    simp only [decide_eq_true_eq, Bool.and_eq_true, beq_iff_eq]
    rw [← Ty.ext_iff']
    constructor
    · rintro ⟨h1, h2, h3, h4⟩; exact ⟨⟨⟨h1, h2⟩, h3⟩, h4⟩
    · rintro ⟨⟨⟨h1, h2⟩, h3⟩, h4⟩; exact ⟨h1, h2, h3, h4⟩
  rw [e]
  have u3 := Tryz.underlying3
  have a3 := Tryz.isAgg3
  have z3 := Tryz.sizeOf3
  have u9 := Tryz.underlying9
  have a9 := Tryz.isAgg9
  have z9 := Tryz.sizeOf9
  simp only [Program.fieldsOf, Tryz.underlying36]
  go_simp
  by_cases h1 : a.kind = b.kind <;> by_cases h2 : a.elem = b.elem <;> by_cases h3 : a.n = b.n <;> by_cases h4 : a.name = b.name <;> simp [h1, h2, h3, h4]
def idx (o : Option Nat) : Int := match o with | some i => i | none => -1
set_option maxHeartbeats 1000000 in
theorem index_any {w : World} {c : PC} {vn vt : Value} {E : PE} {s : S} (h : PIn w c vn vt E s) (x : Ty) :
    Calls Tryz.prog 138 #[vt, tyV x] w (RPost (.int .i64 (idx (findT s.types x))) w) := by
  obtain ⟨a, cap, rfl⟩ := row_slice h.types
  have hlt := h.lt
  have H := Lib.hid h; clear h
  dsimp only [tyV]
  go_enter Tryz.func138, Tryz.ntmps138
  go_wp2
  go_loopw [8] (fun i wr => ∃ k : Nat, k ≤ s.types.length ∧ i = .int .i64 k ∧ Hid (findT (s.types.take k) x = none) ∧ Hid (Below (w.heap.size + 1) (w.alloc (.cells #[.int .i64 x.kind, .int .i64 x.elem, .int .i64 x.n, .string (bt x.name)] 36)) wr)) (fun i wr => s.types.length - (intOf i).toNat)
  case atStart => exact ⟨0, Nat.zero_le _, rfl, Lib.hid rfl, Lib.hid (Below.refl _ _)⟩
  case round =>
    obtain ⟨k, hk, rfl, HF, HB⟩ := hrel
    have HW : Hid (Below w.heap.size w wr) := Lib.hid (((Below.refl _ _).alloc (Nat.le_refl _) _).trans (HB.out.mono (by omega)))
    have hh := new_at (HB.out.mono (Nat.le_of_eq (by simp)))
    obtain ⟨f0, f1, f2, f3, _, _, _, _⟩ := nv4 hh
    have hsz : w.heap.size < wr.heap.size := lt_heap hh
    clear hh
    by_cases hlk : k < s.types.length
    · obtain ⟨e, he⟩ : ∃ e, s.types[k]? = some e := ⟨_, List.getElem?_eq_getElem hlk⟩
      have hT2 := H.out.below (w' := wr) HW.out
      obtain ⟨g, cap2, hg, hg2, hg3⟩ := hT2.types.form (by omega)
      simp only [Value.slice.injEq] at hg
      obtain ⟨rfl, _, rfl⟩ := hg
      obtain ⟨c0, c1, c2, c3⟩ := hT2.ty he
      have q0 : (0 : Int) ≤ (k : Int) := Int.natCast_nonneg _
      have q1 : (k : Int) < (s.types.length : Int) := by omega
      clear hT2
      have yq := ty_eql x e
      by_cases hx : x = e
      · have HN := Lib.hid (findT_here HF.out (hx ▸ he))
        rw [decide_eq_true hx] at yq
        clear hx he
        go_wp2
        go_quiet (fail)
        go_wp2
        go_ret
        exact ⟨by rw [HN.out]; rfl, drN HW.out _⟩
      · have HN := Lib.hid (findT_next HF.out he (fun e => hx e.symm))
        rw [decide_eq_false hx] at yq
        clear hx he
        go_wp2
        go_quiet (fail)
        go_wp2
        go_roundw
        case rel => exact ⟨k + 1, by omega, by go_num, HN, Lib.hid (drN HB.out _)⟩
        case measure => simp [intOf]; omega
    · have hkl : k = s.types.length := by omega
      have hnf : findT s.types x = none := by have := HF.out; rwa [hkl, List.take_length] at this
      have HNF := Lib.hid hnf; clear hnf
      have q1 : ¬ (k : Int) < (s.types.length : Int) := by omega
      go_wp2
      go_ret
      exact ⟨by rw [HNF.out]; rfl, HW.out⟩
/-- One type more. -/
theorem PIn.growT {w w2 w1 : World} {c : PC} {vn vt v' : Value} {E : PE} {s : S} {nd : Ty} {H : Nat} (h : PIn w c vn vt E s) (hb : Below w.heap.size w w2) (hg : w2.grownBy w1 vt.ownBlock)
    (hown : w1.ownsRow c.B 36 4 v' (s.types.length + 1) (s.types.flatMap tyCells ++ tyCells nd)) (hat : vt.ownBlock = v'.ownBlock ∨ v'.ownBlock = some H) (hH : w.heap.size ≤ H) (hl : s.types.length < 256) :
    PIn (w1.setCell ⟨c.p, 8, none⟩ v') c vn v' E { s with types := s.types ++ [nd] } ∧ Turn c.p vn vt vn v' w (w1.setCell ⟨c.p, 8, none⟩ v') := by
  have hp := lt_heap h.head
  have h1 := h.gB; have h2 := h.ge; have h3 := h.g0
  have hsz := hb.size
  have hsz1 := hg.size
  have hblock : ∀ k, k < w.heap.size → vt.ownBlock ≠ some k → w1.heap[k]? = w.heap[k]? := fun k hk hn =>
    (hg.block k (Nat.lt_of_lt_of_le hk hsz) (Ne.symm hn)).trans (hb.block k hk)
  have hnl : ∀ k, k < c.B → vt.ownBlock ≠ some k := fun k hk e => by have := (h.types.lt k e).1; omega
  have hz : ∀ k, k ≠ c.p → (w1.setCell ⟨c.p, 8, none⟩ v').heap[k]? = w1.heap[k]? := fun k hk => Below.heap_setCell _ _ _ _ (by simpa using hk)
  have hap : v'.ownBlock ≠ some c.p := by
    rcases hat with e | e
    · rw [← e]; exact h.apt
    · rw [e]; intro e; injection e with e; omega
  obtain ⟨cs, ty, htk, ht2⟩ := h.toks
  obtain ⟨ty2, fr2, hnm⟩ := h.names
  refine ⟨⟨?_, ⟨cs, ty, ?_, ht2⟩, ?_, ?_, ⟨ty2, fr2, ?_⟩, h.g0, h.gB, h.ge, h.apn, hap, ?_, h.rd, h.dp, h.ln, ?_, h.tl, h.kn⟩, ⟨?_, ?_, ?_, ?_, ?_, fun _ e => .inl e, ?_⟩⟩
  · rw [cells_set ((hblock c.p hp h.apt).trans h.head)]; rfl
  · exact (hz _ (by omega)).trans ((hblock _ (by omega) (hnl _ (by omega))).trans htk)
  · refine own_keep h.nodes fun g hgg => ?_
    have hlt := (h.nodes.lt g hgg)
    exact (hz g (fun e => h.apn (by rw [hgg, e]))).trans (hblock g hlt.2 (h.apx g hgg))
  · have e1 : (s.types ++ [nd]).length = s.types.length + 1 := by simp
    have e2 : (s.types ++ [nd]).flatMap tyCells = s.types.flatMap tyCells ++ tyCells nd := by simp
    show World.ownsRow _ _ _ _ _ (s.types ++ [nd]).length ((s.types ++ [nd]).flatMap tyCells)
    rw [e1, e2]
    exact own_keep hown fun g hgg => hz g (fun e => hap (by rw [hgg, e]))
  · exact (hz _ (by omega)).trans ((hblock _ (by omega) (hnl _ (by omega))).trans hnm)
  · intro k hk ht
    rcases hat with e | e
    · exact h.apx k hk (by rw [e]; exact ht)
    · rw [e] at ht; injection ht with ht; have := (h.nodes.lt k hk).2; omega
  · show (s.types ++ [nd]).length ≤ 256
    simp; omega
  · exact hg.os.trans hb.os
  · exact hg.tape.trans hb.tape
  · exact hg.output.trans hb.output
  · simp [World.setCell]; omega
  · intro k hk hn hv ht
    rw [hz k hn]
    exact hblock k hk ht
  · intro g hgg
    rcases hat with e | e
    · left; rw [e]; exact hgg
    · right; rw [e] at hgg; injection hgg with hgg; omega
theorem growT_head {w w2 w1 : World} {c : PC} {vn vt : Value} {E : PE} {s : S} (h : PIn w c vn vt E s) (hb : Below w.heap.size w w2) (hg : w2.grownBy w1 vt.ownBlock) :
    w1.cell? ⟨c.p, 8, none⟩ = some vt ∧ w1.frozen? ⟨c.p, 8, none⟩ = false := by
  have hp := lt_heap h.head
  have hh : w1.heap[c.p]? = _ := (hg.block c.p (Nat.lt_of_lt_of_le hp hb.size) (Ne.symm h.apt)).trans ((hb.block c.p hp).trans h.head)
  exact ⟨by rw [cell_of_row w1 c.p _ _ _ _ hh]; rfl, by simp [World.frozen?, hh]⟩
theorem infoTy : (Tryz.prog.info? 36).map (fun i => (i.zero, i.size, i.bytes)) = some (some (.agg #[.int .i64 0, .int .i64 0, .int .i64 0, .string ⟨#[]⟩]), 4, 40) := by kernel_rfl
set_option maxHeartbeats 2000000 in
theorem numbered_p {w : World} {c : PC} {vn vt : Value} {E : PE} {s s' : S} {x : Ty} {r : Int} (h : PIn w c vn vt E s) (hs : numbered x s = some (r, s')) :
    Calls Tryz.prog 125 #[.pointer (some ⟨c.p, 0, none⟩), tyV x] w (Post c vn vt E (.int .i64 r) s' w) := by
  have hp := lt_heap h.head
  obtain ⟨_, _, _, _, _, _, _, _, d8, _⟩ := h.cells
  have hlt := h.lt
  have HX := fun {w} (h : PIn w c vn vt E s) => index_any h x
  unfold numbered at hs
  cases hf : findT s.types x with
  | some i =>
    rw [hf] at hs
    injection hs with hs
    injection hs with hr hs
    subst hr hs
    rw [hf] at HX
    have hil := findT_lt hf
    have H := Lib.hid h; clear h hf
    dsimp only [tyV, idx] at HX ⊢
    have e0 : (0 : Int) ≤ (i : Int) := Int.natCast_nonneg _
    go_enter Tryz.func125, Tryz.ntmps125
    go_wp2
    obtain ⟨wr, hwr⟩ : ∃ wr : World, w.alloc (.cells #[.int .i64 x.kind, .int .i64 x.elem, .int .i64 x.n, .string (bt x.name)] 36) = wr := ⟨_, rfl⟩
    have HR : Hid (PIn wr c _ _ E s) := Lib.hid (hwr ▸ H.out.alloc _)
    have hbr : Below w.heap.size w wr := hwr ▸ (Below.refl _ _).alloc (Nat.le_refl _) _
    have hh : wr.heap[w.heap.size]? = some (.cells #[.int .i64 x.kind, .int .i64 x.elem, .int .i64 x.n, .string (bt x.name)] 36 (0, 0)) := by rw [← hwr]; exact heap_alloc_new w _
    obtain ⟨f0, f1, f2, f3, _, _, _, _⟩ := nv4 hh
    rw [hwr]
    have d8r := HR.out.cells.2.2.2.2.2.2.2.2.1
    have HB := Lib.hid hbr
    have k8 := fun d os => cell_regrown d8r d os
    have k0 := fun d os => cell_regrown f0 d os
    have k1 := fun d os => cell_regrown f1 d os
    have k2 := fun d os => cell_regrown f2 d os
    have k3 := fun d os => cell_regrown f3 d os
    have HC : Hid (∀ d os, Calls Tryz.prog 138 #[vt, .agg #[.int .i64 x.kind, .int .i64 x.elem, .int .i64 x.n, .string (bt x.name)]] (Go.Sort.grow (redrawn wr d) os) fun e w' => e = .returned (.int .i64 i) ∧ Below (Go.Sort.grow (redrawn wr d) os).heap.size (Go.Sort.grow (redrawn wr d) os) w') := Lib.hid fun d os => HX (HR.out.below (below_regrown wr d os))
    clear hh d8 hwr hbr f0 f1 f2 f3 d8r HX
    refine wp_region_quiet_below (by kernel_rfl) (by kernel_rfl) ?_
    repeat (any_goals (first | go_big_quiet_step ((go_at_call 138; exact Calls.regrown_of (HC.out _ _))) | quiet_step ((go_at_call 138; exact Calls.regrown_of (HC.out _ _)))))
    refine wpQuiet_nil ?_
    intro _ hw'
    obtain ⟨⟨dq, osq⟩, hw''⟩ := hw'
    subst hw''
    have HB4 : Hid (Below w.heap.size w (Go.Sort.grow (redrawn wr dq) osq)) := Lib.hid (HB.out.trans ((below_regrown wr dq osq).mono HB.out.size))
    have HT4 := Lib.hid (HR.out.below (below_regrown wr dq osq))
    clear k8 k0 k1 k2 k3
    generalize Go.Sort.grow (redrawn wr dq) osq = w4 at *
    go_wp2
    go_ret
    exact ⟨_, _, rfl, HT4.out, Turn.of_below HB4.out⟩
  | none =>
    rw [hf] at hs
    dsimp only at hs
    by_cases hl : s.types.length < 256
    case neg => rw [if_neg hl] at hs; cases hs
    rw [if_pos hl] at hs
    injection hs with hs
    injection hs with hr hs
    subst hr hs
    rw [hf] at HX
    obtain ⟨a, cap, rfl⟩ := row_slice h.types
    have e1 : ((s.types.length : Int) == 256) = false := by simp; omega
    have H := Lib.hid h; clear h hf
    dsimp only [tyV, idx] at HX ⊢
    go_enter Tryz.func125, Tryz.ntmps125
    go_wp2
    obtain ⟨wr, hwr⟩ : ∃ wr : World, w.alloc (.cells #[.int .i64 x.kind, .int .i64 x.elem, .int .i64 x.n, .string (bt x.name)] 36) = wr := ⟨_, rfl⟩
    have HR : Hid (PIn wr c _ _ E s) := Lib.hid (hwr ▸ H.out.alloc _)
    have hbr : Below w.heap.size w wr := hwr ▸ (Below.refl _ _).alloc (Nat.le_refl _) _
    have hh : wr.heap[w.heap.size]? = some (.cells #[.int .i64 x.kind, .int .i64 x.elem, .int .i64 x.n, .string (bt x.name)] 36 (0, 0)) := by rw [← hwr]; exact heap_alloc_new w _
    obtain ⟨f0, f1, f2, f3, _, _, _, _⟩ := nv4 hh
    rw [hwr]
    have d8r := HR.out.cells.2.2.2.2.2.2.2.2.1
    have HB := Lib.hid hbr
    have k8 := fun d os => cell_regrown d8r d os
    have k0 := fun d os => cell_regrown f0 d os
    have k1 := fun d os => cell_regrown f1 d os
    have k2 := fun d os => cell_regrown f2 d os
    have k3 := fun d os => cell_regrown f3 d os
    have HC : Hid (∀ d os, Calls Tryz.prog 138 #[.slice a s.types.length cap, .agg #[.int .i64 x.kind, .int .i64 x.elem, .int .i64 x.n, .string (bt x.name)]] (Go.Sort.grow (redrawn wr d) os) fun e w' => e = .returned (.int .i64 (-1)) ∧ Below (Go.Sort.grow (redrawn wr d) os).heap.size (Go.Sort.grow (redrawn wr d) os) w') := Lib.hid fun d os => HX (HR.out.below (below_regrown wr d os))
    have HH := Lib.hid hh
    clear hh d8 hwr hbr f0 f1 f2 f3 d8r HX
    refine wp_region_quiet_below (by kernel_rfl) (by kernel_rfl) ?_
    repeat (any_goals (first | go_big_quiet_step ((go_at_call 138; exact Calls.regrown_of (HC.out _ _))) | quiet_step ((go_at_call 138; exact Calls.regrown_of (HC.out _ _)))))
    refine wpQuiet_nil ?_
    intro _ hw'
    obtain ⟨⟨dq, osq⟩, hw''⟩ := hw'
    subst hw''
    have HB4 : Hid (Below w.heap.size w (Go.Sort.grow (redrawn wr dq) osq)) := Lib.hid (HB.out.trans ((below_regrown wr dq osq).mono HB.out.size))
    have HT4 := Lib.hid (HR.out.below (below_regrown wr dq osq))
    have hh4 := ((below_regrown wr dq osq).block _ (lt_heap HH.out)).trans HH.out
    clear k8 k0 k1 k2 k3
    generalize Go.Sort.grow (redrawn wr dq) osq = w4 at *
    obtain ⟨f0, f1, f2, f3, _, _, _, _⟩ := nv4 hh4
    have hsz4 : w.heap.size < w4.heap.size := lt_heap hh4
    have d8r := HT4.out.cells.2.2.2.2.2.2.2.2.1
    have hpr := lt_heap HT4.out.head
    have hrow := HT4.out.types
    obtain ⟨i0, hi0, hz0, hz1, hz2⟩ := info_parts infoTy
    clear hh4
    go_wp2
    go_region_law ((refine step_append_lies _ (by rfl) (.tmp 30) (.tmp 32) 24 (by rfl) c.B 36 i0 _ 4 40 Tryz.underlying24 hi0 hz0 hz1 hz2 rfl (by omega) _ s.types.length (s.types.flatMap tyCells) (by rfl) (by exact hrow.alloc _) ⟨w4.heap.size, 0, none⟩ 1 1 (tyCells x) (by rfl) (by rfl) (by exact World.news_of_block (cs := #[.int .i64 x.kind, .int .i64 x.elem, .int .i64 x.n, .string (bt x.name)]) (heap_alloc_new w4 _)) (by simp [tyCells, Value.oneCell']) (by omega) (by unfold maxLen; omega) (by omega) (by have := HT4.out.ge; simp; omega) (w4.heap.size + 1) (by simp) ?_); intro g cap2 w1 hown1 hgrow hat hlt1; have hw2 := alloc_belowD w4 (.cells #[.int .i64 x.kind, .int .i64 x.elem, .int .i64 x.n, .string (bt x.name)] 36); obtain ⟨ct1, cf1⟩ := growT_head HT4.out hw2 hgrow; have HS := Lib.hid (PIn.growT (nd := x) (H := w4.heap.size + 1) HT4.out hw2 hgrow hown1 (hat.imp (fun e => e) (fun e => by simp [Value.ownBlock, e])) (by omega) hl); clear hown1 hgrow hat hw2)
    all_goals
      have d8s := HS.out.1.cells.2.2.2.2.2.2.2.2.1
      go_wp2
      go_ret
      exact ⟨_, _, by simp, HS.out.1, (Turn.of_below HB4.out).trans HS.out.2⟩
end Go.Proofs.YtkgnmlllmihmlaaGreatDoor
