/-
  A range over a function of the parser, errors too; the parser's iterators.
  The parser's iterators, with their errors.
  Walks of a frame of which the function is known: a round of a range over a function that ends by a panic. Of no program.
  The contract of list, with its errors.
-/
import Derived.Test.YtaamllikceaifaaGreatDoorTok
import Derived.Test.YtaamllikceaifaaGreatDoorIter
import Derived.Sort.LoopGhostIn
import Derived.RangeFuncIn
import Derived.RangeFuncLeaves
namespace Go.Proofs.YtaamllikceaifaaGreatDoor
open Go.RowKit Sp Tr Go.Shelf
set_option linter.unusedVariables false

section
variable {w0 w : World} {c : PC} {v u : Value} {E : PE} {s s' : S} {L : List (Nat × Obj)}

/-- How an iterator ends that reads R. -/
def IterEnd (w0 : World) (c : PC) (v u : Value) (E : PE) (J : List Int → List (Nat × Obj) → Prop) (R : Tr.Res (List Int)) (e : Ending) (W : World) : Prop := match R with
  | .ok xs s => (∃ r, e = .returned r) ∧ ∃ L, J xs L ∧ At w0 c v u E s L W
  | .bad k s => e = .panicked (chV k) ∧ ∃ pre L, J pre L ∧ Bad w0 c v u E s k L W
  | .out => False
/-- What an iterator owes. -/
def IterR (w0 : World) (c : PC) (v u : Value) (E : PE) (fn : Nat) (first cap : Array Value) (s : S) (R : Tr.Res (List Int)) : Prop :=
  ∀ (n l : Nat) (J : List Int → List (Nat × Obj) → Prop) (L : List (Nat × Obj)) (W : World),
    (∀ pre x L W s1, J pre L → pre.length < 1000000 → At w0 c v u E s1 L W → YieldAt Fence.wide (n - 1) Tryz.prog l #[.int .i64 x] W fun e W' => e = .returned (.bool true) ∧ ∃ L', J (pre ++ [x]) L' ∧ At w0 c v u E s1 L' W') →
    J [] L → At w0 c v u E s L W →
    CallsIn Fence.wide n Tryz.prog fn (first ++ #[.func (.yield l) #[] #[]] ++ cap) W (IterEnd w0 c v u E J R)
theorem rangeR_at {g : Operand} {p : Tmp} {assign body : Code} {Q : Exit → Act → World → Prop} {a : Act} {fn : Nat} {first cap : Array Value} {R : Tr.Res (List Int)}
    (hi : IterR w0 c v u E fn first cap s R) (eg : ∀ args w, (callFunc fn args).run Tryz.prog w = .ok (.enter fn args) w) (hg : a.eval g = .func (.func fn) first cap) (hA : At w0 c v u E s L w)
    (J : List Int → List (Nat × Obj) → Prop) (hJ : J [] L) (a1 : Int → Act)
    (hassign : ∀ (l : Nat) (x : Int) (W : World) (K : Act → World → Prop), K (a1 x) W → assign.wpIn (Fence.wide.inRound l) 0 Tryz.prog (Exit.then K (fun _ _ _ => False)) { tmps := a.tmps.setIfInBounds p (.int .i64 x), defers := [] } W)
    (hbody : ∀ (l : Nat) (pre : List Int) (x : Int) (X L : List (Nat × Obj)) (W : World) (s1 : S), J pre L → pre.length < 1000000 → At w0 c v u E s1 (X ++ L) W → body.wpIn (Fence.wide.inRound l) 0 Tryz.prog (endsOK w0 c v u E s1 fun L' => ∃ L1, L' = X ++ L1 ∧ J (pre ++ [x]) L1) (a1 x) W)
    (hdone : ∀ (D : Nat) (o : Obj) (l : Nat) (xs : List Int) (s' : S) (L : List (Nat × Obj)) (W : World), R = .ok xs s' → J xs L → At w0 c v u E s' ((D, .deferred (some [])) :: (l, o) :: L) W → Q .normal { a with defers := { target := .collected D, args := #[] } :: a.defers } W)
    (hbad : ∀ (D : Nat) (er : Int) (s' : S) (W : World), R = .bad er s' → Bad w0 c v u E s' er [(D, .deferred (some []))] W → w0.heap.size ≤ D → Q (.panic (chV er)) { a with defers := { target := .collected D, args := #[] } :: a.defers } W) :
    (Code.rangeFunc g #[p] assign body).wpIn Fence.wide 0 Tryz.prog Q a w := by
  refine wpIn_rangeFunc ?_
  intro f hf
  obtain ⟨rec, hrec⟩ : ∃ rec : LoopState → Option Code → Loop, rec = fun st pe => { state := st, pending := pe, fn := f, tmps := a.tmps, params := #[p], assign, body, defers := w.heap.size } := ⟨_, rfl⟩
  obtain ⟨W1, hW1⟩ : ∃ W1 : World, (w.alloc (.deferred (some []))).alloc (.loop (rec .ready none)) = W1 := ⟨_, rfl⟩
  have hwz := hA.size
  have hA1 : At w0 c v u E s ((w.heap.size + 1, .loop (rec .ready none)) :: (w.heap.size, .deferred (some [])) :: L) W1 := by
    have := (hA.alloc (.deferred (some []))).alloc (.loop (rec .ready none))
    rw [World.size_alloc, hW1] at this
    exact this
  refine ⟨w.heap.size + 1, [{ target := .collected w.heap.size, args := #[] }], W1, { target := .fn (.func fn) cap, args := first ++ #[.func (.yield (w.heap.size + 1)) #[] #[]] }, W1, fn,
    first ++ #[.func (.yield (w.heap.size + 1)) #[] #[]] ++ cap, W1, ?_, ?_, ?_, ?_, fun h => by simp [Fence.wide] at h, ?_⟩
  · rw [← hW1, hrec]; exact run_enterLoop_outer _ _ _ _ _
  · simp only [resolve, hg]
    simp [go_sem]
  · intro f' hf'; trivial
  · simp [invoke, go_sem, eg]
  · refine (hi (0 - 1) (w.heap.size + 1) (fun pre L' => ∃ L1, L' = (w.heap.size + 1, .loop (rec .ready none)) :: (w.heap.size, .deferred (some [])) :: L1 ∧ J pre L1) _ _ ?_ ⟨L, rfl, hJ⟩ hA1).mono ?_
    · rintro pre x _ W s1 ⟨L1, rfl, hj⟩ hlen hA2
      have hl := hA2.loc
      have hy := run_yield (P := Tryz.prog) (args := #[.int .i64 x]) hl (by rw [hrec]; rfl)
      have hp : (rec .ready none).tmps = a.tmps ∧ (rec .ready none).params = #[p] ∧ (rec .ready none).assign = assign ∧ (rec .ready none).body = body ∧ (rec .ready none).fn = f ∧ (rec .ready none).state = .ready := by rw [hrec]; exact ⟨rfl, rfl, rfl, rfl, rfl, rfl⟩
      obtain ⟨p1, p2, p3, p4, p5, p6⟩ := hp
      rw [p1, p2, p3, p4, p5] at hy
      have hz : (#[p].zip #[(Value.int .i64 x)]).foldl (fun (tmps : Array Value) (t, a) => tmps.setIfInBounds t a) a.tmps = a.tmps.setIfInBounds p (.int .i64 x) := by simp
      rw [hz] at hy
      refine ⟨f, _, assign, body, hy, roundIn_of_wpIn trivial ?_⟩
      refine hassign _ x W _ ?_
      refine ⟨_, run_beginRound hl p6, ?_⟩
      have hA3 := hA2.putObj (.loop { rec .ready none with state := .busy })
      refine wpIn_mono (hbody _ pre x [(w.heap.size + 1, .loop { rec .ready none with state := .busy }), (w.heap.size, .deferred (some []))] L1 _ s1 hj hlen hA3) ?_
      rintro e a3 W3 hp
      cases e with
      | normal =>
        obtain ⟨_, ⟨L2, rfl, hj2⟩, hA4⟩ := hp
        have hl4 : W3.heap[w.heap.size + 1]? = some (.loop { rec .ready none with state := .busy }) := hA4.loc
        refine ⟨_, _, run_endRound none hl4, rfl, _, ⟨L2, rfl, hj2⟩, ?_⟩
        have := At.putObj (L := (w.heap.size, .deferred (some [])) :: L2) hA4 (.loop (rec .ready none))
        rw [hrec] at this ⊢
        exact this
      | ret => exact hp.elim
      | exit id => exact hp.elim
      | goto t => exact hp.elim
      | panic ch => exact hp.elim
      | outgrown => exact hp.elim
    · intro e W2 hE
      cases R with
      | ok xs s1 =>
        obtain ⟨⟨r, rfl⟩, _, ⟨L1, rfl, hj⟩, hA3⟩ := hE
        have hl := hA3.loc
        have hb : (rec .ready none).state ≠ .busy := by rw [hrec]; simp
        have h := run_endLoop (P := Tryz.prog) hl hb
        rw [hrec] at h
        exact ⟨none, _, h, hdone _ _ _ _ _ _ _ rfl hj ((hA3.putObj _).perm (List.Perm.swap ..))⟩
      | bad er s1 =>
        obtain ⟨rfl, pre, _, ⟨L1, rfl, hj⟩, hB⟩ := hE
        exact hbad w.heap.size er s1 W2 rfl (hB.sub (by simp)) hwz
      | out => exact hE.elim

/-- What had come, ahead of what comes. -/
def prep (pre : List Int) (r : Tr.Res (List Int)) : Tr.Res (List Int) := r.bind fun xs s => .ok (pre ++ xs) s
theorem prep_nil (r : Tr.Res (List Int)) : prep [] r = r := by cases r <;> rfl
theorem prep_cons (pre : List Int) (x : Int) (r : Tr.Res (List Int)) : prep pre (r.bind fun xs s => .ok (x :: xs) s) = prep (pre ++ [x]) r := by
  cases r <;> simp [prep, Tr.Res.bind]
theorem prep_bind {α : Type} (pre : List Int) (r : Tr.Res α) (k : α → S → Tr.Res (List Int)) : prep pre (r.bind k) = r.bind fun a s => prep pre (k a s) := by
  cases r <;> rfl
theorem prep_if (pre : List Int) (p : Prop) [Decidable p] (X Y : Tr.Res (List Int)) : prep pre (if p then X else Y) = if p then prep pre X else prep pre Y := by
  split <;> rfl
theorem stsM_prep (pre : List Int) (k : Nat) (m : S → Tr.Res Int) (s : S) : prep pre (stsM (k + 1) m E s) = if isT E s [125] then .ok pre s else (deepM m s).bind fun x s1 => prep (pre ++ [x]) (stsM k m E s1) := by
  conv => lhs; unfold stsM
  rw [prep_if, prep_bind]
  simp only [prep_cons]
  congr 1
  simp [prep, Tr.Res.bind]
theorem wholesM_prep (pre : List Int) (k : Nat) (m : S → Tr.Res Int) (s : S) : prep pre (wholesM (k + 1) m E s) = if s.read < E.toks.length then (m s).bind fun x s1 => prep (pre ++ [x]) (wholesM k m E s1) else .ok pre s := by
  conv => lhs; unfold wholesM
  rw [prep_if, prep_bind]
  simp only [prep_cons]
  congr 1
  simp [prep, Tr.Res.bind]
theorem fieldsM_prep (pre : List Int) (k : Nat) (m : S → Tr.Res Int) (s : S) : prep pre (fieldsM (k + 1) m E s) = (m s).bind fun x s1 => if isT E s1 [125] then .ok (pre ++ [x]) s1 else prep (pre ++ [x]) (fieldsM k m E s1) := by
  conv => lhs; unfold fieldsM
  rw [prep_bind]
  congr 1
  funext x s1
  rw [prep_if, prep_cons]
  congr 1
theorem commasM_prep (pre : List Int) (k : Nat) (more : Bool) (m : S → Tr.Res Int) (s : S) : prep pre (commasM (k + 1) more m E s) = if more then (m s).bind fun x s1 => (tookM E [44] s1).bind fun b s2 => prep (pre ++ [x]) (commasM k b m E s2) else .ok pre s := by
  conv => lhs; unfold commasM
  rw [prep_if]
  split
  · rw [prep_bind]
    congr 1
    funext x s1
    rw [prep_bind]
    congr 1
    funext b s2
    exact prep_cons ..
  · simp [prep, Tr.Res.bind]
end
end Go.Proofs.YtaamllikceaifaaGreatDoor
namespace Go.Proofs.YtaamllikceaifaaGreatDoor
open Go.RowKit Sp Tr Go.Shelf
set_option linter.unusedVariables false

section
variable {w0 w : World} {c : PC} {v u : Value} {E : PE} {s s' : S} {L : List (Nat × Obj)}
theorem IterEnd.ok1 {J : List Int → List (Nat × Obj) → Prop} {R : Tr.Res (List Int)} {xs : List Int} {r : Value} (hR : Hid (.ok xs s = R)) (hj : J xs L) (ha : At w0 c v u E s L w) : IterEnd w0 c v u E J R (.returned r) w := by
  rw [← hR.out]; exact ⟨⟨_, rfl⟩, L, hj, ha⟩
theorem IterEnd.bad1 {J : List Int → List (Nat × Obj) → Prop} {er : Int} {pre : List Int} (hj : J pre L) (hb : Bad w0 c v u E s er L w) : IterEnd w0 c v u E J (.bad er s) (.panicked (chV er)) w := ⟨rfl, pre, L, hj, hb⟩
theorem prep_out {pre : List Int} {r R : Tr.Res (List Int)} (h : r = .out) (hs : Hid (prep pre r = R)) (hN : Hid (R ≠ .out)) : False := by subst h; exact hN.out hs.out.symm
theorem statements_iterR {k : Nat} {m : S → Tr.Res Int} (h0 : ReadsR c E 140 m) (hk : k ≤ 1000000) (hN : stsM k m E s ≠ .out) : IterR w0 c v u E 129 #[.pointer (some ⟨c.p, 0, none⟩)] #[] s (stsM k m E s) := by
  intro n l J L W hY hJ hA
  obtain ⟨R, hR⟩ : ∃ R, stsM k m E s = R := ⟨_, rfl⟩
  rw [hR] at hN ⊢
  have HN := Lib.hid hN; clear hN
  have HS := Lib.hid hR; clear hR
  have HA := Lib.hid hA; clear hA
  have HY := Lib.hid hY; clear hY
  have hw : ∀ f, Fence.wide.fn f := fun _ => trivial
  have hd : Fence.wide.depth = none := rfl
  have egs : ∀ args w, (callFunc 140 args).run Tryz.prog w = .ok (.enter 140 args) w := enters_of Tryz.func140 (by kernel_rfl) rfl
  refine callsIn_of_wp Tryz.func129 rfl trivial ?_ rfl
  simp only [Tryz.ntmps129, List.size_toArray, List.length_cons, List.length_nil, Nat.reduceAdd, Nat.reduceSub, Array.replicate_succ, Array.replicate_zero, List.push_toArray, List.append_toArray, List.nil_append, List.cons_append]
  gi_wp2
  gi_loopg [] k (fun g wr => ∃ (pre : List Int) (s1 : S) (L1 : List (Nat × Obj)), pre.length + g = k ∧ Hid (prep pre (stsM g m E s1) = R) ∧ Hid (J pre L1) ∧ Hid (At w0 c v u E s1 L1 wr))
  case atStart => exact ⟨[], s, L, by simp, Lib.hid (by rw [prep_nil]; exact HS.out), Lib.hid hJ, HA⟩
  case round =>
    clear HA HS hJ
    obtain ⟨pre, s1, L1, hpk, HS, HJ, A0⟩ := hrel
    cases gk with
    | zero => exact (prep_out rfl HS HN).elim
    | succ g =>
      have hs := HS.out
      have hl : pre.length < 1000000 := by omega
      rw [stsM_prep] at hs
      have HR := Lib.hid hs
      clear hs HS
      gi_wp2_with (first | (gi_at_call 94; refine (callsIn_wide.2 (is_q (Hid.out (by assumption)))).mono ?_; rintro e v1 ⟨b, rfl, hx, ha⟩; cases b; all_goals ((first | (have HQ := ite_T HR hx) | (have HQ := ite_F HR (ne_true_of_eq_false hx))); clear HR; have HR := HQ; clear HQ hx; have B1 := Lib.hid ha; clear ha)) | (gi_at_call 139; refine (callsIn_wide.2 (deeper_q h0 egs (Hid.out (by assumption)) (ne_out HR HN))).mono ?_; rintro e v2 hz; rcases hz.split HR with ⟨a2, s2, rfl, K2, HQ, ha⟩ | ⟨er, sx, rfl, rfl, hb⟩; rotate_left; (exact ⟨rfl, IterEnd.bad1 HJ.out hb⟩); clear HR hz; have HR := HQ; clear HQ; have B2 := Lib.hid ha; obtain ⟨fy, tmpsy, asy, boy, hy, hRd⟩ := HY.out pre a2 L1 v2 s2 HJ.out hl ha; clear ha))
      · refine hRd.mono ?_
        rintro e W2 ⟨rfl, L2, hj, ha⟩
        have B3 := Lib.hid ha
        have HJ2 := Lib.hid hj
        clear ha hj hy
        gi_wp2
        gi_roundg g
        case rel => exact ⟨pre ++ [a2], s2, L2, by simp; omega, HR, HJ2, B3⟩
        case measure => omega
      · go_end0
        exact IterEnd.ok1 HR HJ.out B1.out
theorem wholes_iterR {k : Nat} {m : S → Tr.Res Int} (h0 : ReadsR c E 72 m) (hk : k ≤ 1000000) (hN : wholesM k m E s ≠ .out) : IterR w0 c v u E 50 #[.pointer (some ⟨c.p, 0, none⟩)] #[] s (wholesM k m E s) := by
  intro n l J L W hY hJ hA
  obtain ⟨R, hR⟩ : ∃ R, wholesM k m E s = R := ⟨_, rfl⟩
  rw [hR] at hN ⊢
  have HN := Lib.hid hN; clear hN
  have HS := Lib.hid hR; clear hR
  have HA := Lib.hid hA; clear hA
  have HY := Lib.hid hY; clear hY
  have hw : ∀ f, Fence.wide.fn f := fun _ => trivial
  have hd : Fence.wide.depth = none := rfl
  have hmix : Tryz.prog.follows .mixedOrders = true := by kernel_rfl
  refine callsIn_of_wp Tryz.func50 rfl trivial ?_ rfl
  simp only [Tryz.ntmps50, List.size_toArray, List.length_cons, List.length_nil, Nat.reduceAdd, Nat.reduceSub, Array.replicate_succ, Array.replicate_zero, List.push_toArray, List.append_toArray, List.nil_append, List.cons_append]
  gi_wp2
  gi_loopg [] k (fun g wr => ∃ (pre : List Int) (s1 : S) (L1 : List (Nat × Obj)), pre.length + g = k ∧ Hid (prep pre (wholesM g m E s1) = R) ∧ Hid (J pre L1) ∧ Hid (At w0 c v u E s1 L1 wr))
  case atStart => exact ⟨[], s, L, by simp, Lib.hid (by rw [prep_nil]; exact HS.out), Lib.hid hJ, HA⟩
  case round =>
    clear HA HS hJ
    obtain ⟨pre, s1, L1, hpk, HS, HJ, A0⟩ := hrel
    cases gk with
    | zero => exact (prep_out rfl HS HN).elim
    | succ g =>
      have hs := HS.out
      have hl : pre.length < 1000000 := by omega
      rw [wholesM_prep] at hs
      have A0' := A0.out
      obtain ⟨vn, vt, hP, _⟩ := A0'
      obtain ⟨d0, _, _, _, _, d5, _, _, _, _⟩ := hP.cells
      have htl := hP.tl
      have hrd := hP.rd
      unfold big at hrd
      clear hP
      by_cases hb : s1.read < E.toks.length
      · rw [if_pos hb] at hs
        have HR := Lib.hid hs
        have e1 : decide ((s1.read : Int) < (E.toks.length : Int)) = true := by simpa using hb
        have e2 : (s1.read : Int) < (E.toks.length : Int) := by omega
        clear hb hs HS
        have A0d := Lib.hid A0.out.drew
        gi_wp2
        gi_region_with_o (first | (gi_at_call 72; refine (callsIn_wide.2 (h0.q (Hid.out (by assumption)) (ne_out HR HN))).mono ?_; rintro e v2 hz; rcases hz.split HR with ⟨a2, s2, rfl, K2, HQ, ha⟩ | ⟨er, sx, rfl, rfl, hb⟩; rotate_left; (exact ⟨rfl, IterEnd.bad1 HJ.out hb⟩); clear HR hz; have HR := HQ; clear HQ; have B2 := Lib.hid ha; obtain ⟨fy, tmpsy, asy, boy, hy, hRd⟩ := HY.out pre a2 L1 v2 s2 HJ.out hl ha; clear ha) | (refine hRd.mono ?_; rintro e W2 ⟨rfl, L2, hj, ha⟩; have B3 := Lib.hid ha; have HJ2 := Lib.hid hj; clear ha hj hy hRd))
        all_goals
          gi_wp2
          gi_roundg g
          case rel => exact ⟨pre ++ [a2], s2, L2, by simp; omega, HR, HJ2, B3⟩
          case measure => omega
      · rw [if_neg hb] at hs
        have HR := Lib.hid hs
        have e1 : decide ((s1.read : Int) < (E.toks.length : Int)) = false := by simpa using hb
        have e2 : decide (s1.read < E.toks.length) = false := by simpa using hb
        have A0d := Lib.hid A0.out.drew
        clear hb hs HS
        gi_wp2
        refine wpIn_wide.2 ?_
        go_quiet (fail)
        gi_wp2
        go_end0
        exact IterEnd.ok1 HR HJ.out (A0.out.below (drN (Below.refl _ _) _))
theorem fields_iterR {k : Nat} {m : S → Tr.Res Int} (h0 : ReadsR c E 137 m) (hk : k ≤ 1000000) (hN : fieldsM k m E s ≠ .out) : IterR w0 c v u E 123 #[.pointer (some ⟨c.p, 0, none⟩)] #[] s (fieldsM k m E s) := by
  intro n l J L W hY hJ hA
  obtain ⟨R, hR⟩ : ∃ R, fieldsM k m E s = R := ⟨_, rfl⟩
  rw [hR] at hN ⊢
  have HN := Lib.hid hN; clear hN
  have HS := Lib.hid hR; clear hR
  have HA := Lib.hid hA; clear hA
  have HY := Lib.hid hY; clear hY
  have hw : ∀ f, Fence.wide.fn f := fun _ => trivial
  have hd : Fence.wide.depth = none := rfl
  have hmix : Tryz.prog.follows .mixedOrders = true := by kernel_rfl
  refine callsIn_of_wp Tryz.func123 rfl trivial ?_ rfl
  simp only [Tryz.ntmps123, List.size_toArray, List.length_cons, List.length_nil, Nat.reduceAdd, Nat.reduceSub, Array.replicate_succ, Array.replicate_zero, List.push_toArray, List.append_toArray, List.nil_append, List.cons_append]
  gi_wp2
  gi_loopg [] k (fun g wr => ∃ (pre : List Int) (s1 : S) (L1 : List (Nat × Obj)), pre.length + g = k ∧ Hid (prep pre (fieldsM g m E s1) = R) ∧ Hid (J pre L1) ∧ Hid (At w0 c v u E s1 L1 wr))
  case atStart => exact ⟨[], s, L, by simp, Lib.hid (by rw [prep_nil]; exact HS.out), Lib.hid hJ, HA⟩
  case round =>
    clear HA HS hJ
    obtain ⟨pre, s1, L1, hpk, HS, HJ, A0⟩ := hrel
    cases gk with
    | zero => exact (prep_out rfl HS HN).elim
    | succ g =>
      have hs := HS.out
      have hl : pre.length < 1000000 := by omega
      rw [fieldsM_prep] at hs
      have HR := Lib.hid hs
      clear hs HS
      gi_wp2_with (first | (gi_at_call 137; refine (callsIn_wide.2 (h0.q (Hid.out (by assumption)) (ne_out HR HN))).mono ?_; rintro e v2 hz; rcases hz.split HR with ⟨a2, s2, rfl, K2, HQ, ha⟩ | ⟨er, sx, rfl, rfl, hb⟩; rotate_left; (exact ⟨rfl, IterEnd.bad1 HJ.out hb⟩); clear HR hz; have HR := HQ; clear HQ; have B2 := Lib.hid ha; obtain ⟨fy, tmpsy, asy, boy, hy, hRd⟩ := HY.out pre a2 L1 v2 s2 HJ.out hl ha; clear ha) | (refine hRd.mono ?_; rintro e W2 ⟨rfl, L2, hj, ha⟩; have B3 := Lib.hid ha; have HJ2 := Lib.hid hj; clear ha hj hy hRd) | (gi_at_call 94; refine (callsIn_wide.2 (is_q (Hid.out (by assumption)))).mono ?_; rintro e v4 ⟨b, rfl, hx, ha⟩; cases b; all_goals ((first | (have HQ := ite_T HR hx) | (have HQ := ite_F HR (ne_true_of_eq_false hx))); clear HR; have HR := HQ; clear HQ hx; have B4 := Lib.hid ha; clear ha)))
      · gi_roundg g
        case rel => exact ⟨pre ++ [a2], s2, L2, by simp; omega, HR, HJ2, B4⟩
        case measure => omega
      · go_end0
        exact IterEnd.ok1 HR HJ2.out B4.out
theorem commas_iterR {k : Nat} {m : S → Tr.Res Int} {fn : Nat} {bp bq : Nat} (h0 : ReadsR c E fn m) (egf : ∀ args w, (callFunc fn args).run Tryz.prog w = .ok (.enter fn args) w) (hk : k ≤ 1000000)
    (hb : w0.heap[bp]? = some (bxO c)) (ho : Out c v u bp) (hb2 : w0.heap[bq]? = some (fnO (.func (.func fn) #[.pointer (some ⟨c.p, 0, none⟩)] #[]))) (ho2 : Out c v u bq) (hN : commasM k (!isT E s [41]) m E s ≠ .out) :
    IterR w0 c v u E 128 #[] #[.pointer (some ⟨bp, 0, none⟩), .pointer (some ⟨bq, 0, none⟩)] s (commasM k (!isT E s [41]) m E s) := by
  intro n l J L W hY hJ hA
  obtain ⟨R, hR⟩ : ∃ R, commasM k (!isT E s [41]) m E s = R := ⟨_, rfl⟩
  rw [hR] at hN ⊢
  have HN := Lib.hid hN; clear hN
  have HS := Lib.hid hR; clear hR
  have HA := Lib.hid hA; clear hA
  have HY := Lib.hid hY; clear hY
  have hw : ∀ f, Fence.wide.fn f := fun _ => trivial
  have hd : Fence.wide.depth = none := rfl
  have HB := Lib.hid hb
  have HO := Lib.hid ho
  have HB2 := Lib.hid hb2
  have HO2 := Lib.hid ho2
  have cb := (nv1 (HA.out.old hb ho)).1
  clear hb ho hb2 ho2
  refine callsIn_of_wp Tryz.func128 rfl trivial ?_ rfl
  simp only [Tryz.ntmps128, List.size_toArray, List.length_cons, List.length_nil, Nat.reduceAdd, Nat.reduceSub, Array.replicate_succ, Array.replicate_zero, List.push_toArray, List.append_toArray, List.nil_append, List.cons_append]
  obtain ⟨b, hx⟩ : ∃ b, isT E s [41] = b := ⟨_, rfl⟩
  rw [hx] at HS
  have HX := Lib.hid hx; clear hx
  gi_wp2_with (gi_at_call 94; refine (callsIn_wide.2 (is_a HA.out HX.out)).mono ?_; rintro e v1 ⟨rfl, ha⟩; have B1 := Lib.hid ha; clear ha)
  gi_loopg [4] k (fun g o wr => ∃ (pre : List Int) (s1 : S) (L1 : List (Nat × Obj)) (b : Bool), o = .bool b ∧ pre.length + g = k ∧ Hid (prep pre (commasM g b m E s1) = R) ∧ Hid (J pre L1) ∧ Hid (At w0 c v u E s1 L1 wr))
  case atStart => exact ⟨[], s, L, !b, rfl, by simp, Lib.hid (by rw [prep_nil]; exact HS.out), Lib.hid hJ, B1⟩
  case round =>
    clear HA HS hJ B1 cb HX
    obtain ⟨pre, s1, L1, b, rfl, hpk, HS, HJ, A0⟩ := hrel
    have cb := (nv1 (A0.out.old HB.out HO.out)).1
    have cb2 := (nv1 (A0.out.old HB2.out HO2.out)).1
    cases gk with
    | zero => exact (prep_out rfl HS HN).elim
    | succ g =>
      have hs := HS.out
      have hl : pre.length < 1000000 := by omega
      rw [commasM_prep] at hs
      cases b with
      | false =>
        have HR := ite_F (Lib.hid hs) (by decide)
        gi_wp2
        go_end0
        exact IterEnd.ok1 HR HJ.out A0.out
      | true =>
        have HR := ite_T (Lib.hid hs) rfl
        clear hs HS
        gi_wp2_with (first | ((with_reducible refine (callsIn_wide.2 (h0.q (Hid.out (by assumption)) (ne_out HR HN))).mono ?_); rintro e v2 hz; rcases hz.split HR with ⟨a2, s2, rfl, K2, HQ, ha⟩ | ⟨er, sx, rfl, rfl, hb⟩; rotate_left; (exact ⟨rfl, IterEnd.bad1 HJ.out hb⟩); clear HR hz; have HR := HQ; clear HQ; have B2 := Lib.hid ha; obtain ⟨fy, tmpsy, asy, boy, hy, hRd⟩ := HY.out pre a2 L1 v2 s2 HJ.out hl ha; clear ha) | (refine hRd.mono ?_; rintro e W2 ⟨rfl, L2, hj, ha⟩; have B3 := Lib.hid ha; have HJ2 := Lib.hid hj; have cb3 := (nv1 (ha.old HB.out HO.out)).1; clear ha hj hy hRd) | (gi_at_call 99; refine (callsIn_wide.2 (took_q (Hid.out (by assumption)) (ne_out HR HN))).mono ?_; rintro e v5 hz; rcases hz.split HR with ⟨a5, s5, rfl, K5, HQ, ha⟩ | ⟨er, sx, rfl, rfl, hb⟩; rotate_left; (exact ⟨rfl, IterEnd.bad1 HJ2.out hb⟩); clear HR hz; have HR := HQ; clear HQ; have B5 := Lib.hid ha; clear ha))
        gi_roundg g
        case rel => exact ⟨pre ++ [a2], s5, L2, a5, rfl, by simp; omega, HR, HJ2, B5⟩
        case measure => omega
end
end Go.Proofs.YtaamllikceaifaaGreatDoor
namespace Go.Proofs.YtaamllikceaifaaGreatDoor
open Go

section
variable {P : Program} {f0 : Nat} {Q : Exit → Act → World → Prop} {a : Act} {w : World}
/-- 'wpIn' of the wide fence, in frames of one function. -/
def wpAt (f0 : Nat) (P : Program) (c : Code) (Q : Exit → Act → World → Prop) (a : Act) (w : World) : Prop :=
  ∀ (b : Frame) (k : List Item) (cs : List Frame), b.roundOf = none → b.fn = f0 →
    ∃ e a' w', Q e a' w' ∧ ArrivesIn (Machine.fenced P Fence.wide) P (lone (b.atR a (.code c :: k)) cs w) b k cs e a' w'
theorem wpAt_of_wpIn {n : Nat} {c : Code} (h : c.wpIn Fence.wide n P Q a w) : wpAt f0 P c Q a w := fun b k cs hro _ => h b k cs hro trivial (room_wide _)
theorem wpAt_seq {x y : Code} (h : wpAt f0 P x (Exit.then (wpAt f0 P y Q) Q) a w) : wpAt f0 P (Code.seq x y) Q a w := by
  intro b k cs hro hb
  have h0 : (lone (b.atR a (.code (.seq x y) :: k)) cs w).fenced P Fence.wide := fenced_wide _ _
  obtain ⟨e, a₁, w₁, hq, harr⟩ := h b (.code y :: k) cs hro hb
  cases e with
  | normal =>
    obtain ⟨e₂, a₂, w₂, hq₂, harr₂⟩ := hq b k cs hro hb
    exact ⟨e₂, a₂, w₂, hq₂, .of_steps (.head h0 stepR_seq harr) harr₂⟩
  | exit id => exact ⟨_, a₁, w₁, hq, .of_steps (.one h0 stepR_seq) (.pass (x := .code y) rfl (fun _ _ => .inl (by simp)) harr)⟩
  | goto l => exact ⟨_, a₁, w₁, hq, .of_steps (.one h0 stepR_seq) (.pass (x := .code y) rfl (fun _ _ => .inl (by simp)) harr)⟩
  | ret => exact ⟨_, a₁, w₁, hq, .of_steps (.one h0 stepR_seq) (.pass (x := .code y) rfl (fun _ _ => .inl (by simp)) harr)⟩
  | panic ch => exact ⟨_, a₁, w₁, hq, .of_steps (.one h0 stepR_seq) (.pass (x := .code y) rfl (fun _ _ => .inl (by simp)) harr)⟩
  | outgrown => exact ⟨_, a₁, w₁, hq, .of_steps (.one h0 stepR_seq) (.pass (x := .code y) rfl (fun _ _ => .inl (by simp)) harr)⟩
theorem wpAt_block {id : Nat} {c : Code} (h : wpAt f0 P c (Exit.inBlock id Q) a w) : wpAt f0 P (Code.block id c) Q a w := by
  intro b k cs hro hb
  have h0 : (lone (b.atR a (.code (.block id c) :: k)) cs w).fenced P Fence.wide := fenced_wide _ _
  obtain ⟨e, a₁, w₁, hq, harr⟩ := h b (.inBlock id :: k) cs hro hb
  cases e with
  | normal => exact ⟨.normal, a₁, w₁, hq, .head h0 stepR_block (StepsIn.trans harr (.one (fenced_wide _ _) stepR_inBlock))⟩
  | exit id' =>
    by_cases hid : id' = id
    · simp only [Exit.inBlock, hid, if_true] at hq
      exact ⟨.normal, a₁, w₁, hq, .head h0 stepR_block (harr.1 k (by simp [exitTo, hid]))⟩
    · simp only [Exit.inBlock, hid, if_false] at hq
      have this : (id == id') = false := by simp; exact fun h => hid h.symm
      have hx : exitTo id' (.inBlock id :: k) = exitTo id' k := by simp [exitTo, this]
      exact ⟨.exit id', a₁, w₁, hq, fun k' hk => .head h0 stepR_block (harr.1 k' (by rw [hx]; exact hk)),
        fun hr' hk => let ⟨k₁, h1, h2⟩ := harr.2 hr' (by rw [hx]; exact hk); ⟨k₁, h1, .head h0 stepR_block h2⟩⟩
  | goto l =>
    have hx : gotoIn l (.inBlock id :: k) = gotoIn l k := by simp [gotoIn]
    exact ⟨_, a₁, w₁, hq, fun k' hk => .head h0 stepR_block (harr.1 k' (by rw [hx]; exact hk)),
      fun hr' hk => let ⟨k₁, h1, h2⟩ := harr.2 hr' (by rw [hx]; exact hk); ⟨k₁, h1, .head h0 stepR_block h2⟩⟩
  | ret => exact ⟨_, a₁, w₁, hq, .of_steps (.one h0 stepR_block) harr⟩
  | panic ch => exact ⟨_, a₁, w₁, hq, .of_steps (.one h0 stepR_block) harr⟩
  | outgrown => exact ⟨_, a₁, w₁, hq, .of_steps (.one h0 stepR_block) harr⟩
/-- How a round may end: as ever, or by a panic. -/
def roundPostP (P : Program) (l : Nat) (R : Ending → World → Prop) : Exit → Act → World → Prop
  | .normal, _, w => ∃ v w', (Instr.endRound l none).run P w = .ok v w' ∧ R (.returned v) w'
  | .panic ch, a, w => a.defers = [] ∧ R (.panicked ch) w
  | _, _, _ => False
theorem roundIn_of_wpInP {n l : Nat} {f : FuncId} {fn : Func} {tmps : Array Value} {assign body : Code} {R : Ending → World → Prop} (hf : P.funcs[f]? = some fn)
    (h : assign.wpIn (Fence.wide.inRound l) n P (Exit.then (fun a₁ w₁ => ∃ w₂, (Instr.beginRound l).run P w₁ = .ok () w₂ ∧ body.wpIn (Fence.wide.inRound l) n P (roundPostP P l R) a₁ w₂) (fun _ _ _ => False))
      { tmps := tmps, defers := [] } w) :
    RoundIn Fence.wide n P l f tmps assign body w R := by
  refine ⟨trivial, fun c cs hr => ?_⟩
  let b : Frame := { (default : Frame) with fn := f, kind := .normal, roundOf := some l }
  have hb0 : Frame.round l f tmps assign body .normal = b.atR { tmps := tmps, defers := [] } [.code assign, .beginRound, .code body] := by
    simp [Frame.round, Frame.atR, b]
  have hr' : (Fence.wide.inRound l).room ((c :: cs).length + 1 + n) := hr
  obtain ⟨e, a₁, w₁, hq, harr⟩ := h b [.beginRound, .code body] (c :: cs) rfl trivial hr'
  rw [← hb0] at harr
  cases e with
  | normal =>
    obtain ⟨w₂, hbr, hbody⟩ := hq
    have s1 : StepsIn (Machine.fenced P (Fence.wide.inRound l)) P (lone (b.atR a₁ [.beginRound, .code body]) (c :: cs) w₁) (lone (b.atR a₁ [.code body]) (c :: cs) w₂) :=
      .one (fenced_wide _ _) (stepR_beginRound rfl hbr)
    obtain ⟨e₂, a₂, w₃, hq₂, harr₂⟩ := hbody b [] (c :: cs) rfl trivial hr'
    cases e₂ with
    | normal =>
      obtain ⟨v, w₄, hend, hR⟩ := hq₂
      exact ⟨.returned v, w₄, hR, (StepsIn.trans harr s1).trans (StepsIn.trans harr₂ (.one (fenced_wide _ _) (stepR_round_end rfl rfl hend)))⟩
    | panic chain =>
      obtain ⟨hd, hR⟩ := hq₂
      obtain ⟨todo, hs⟩ := harr₂
      exact ⟨.panicked chain, w₃, hR, (StepsIn.trans harr s1).trans (StepsIn.trans hs (.one (fenced_wide _ _) (step_leave_panicked ⟨rfl, hd, fn, hf⟩)))⟩
    | ret => exact hq₂.elim
    | exit id => exact hq₂.elim
    | goto t => exact hq₂.elim
    | outgrown => exact hq₂.elim
  | exit id => exact hq.elim
  | goto t => exact hq.elim
  | ret => exact hq.elim
  | panic chain => exact hq.elim
  | outgrown => exact hq.elim
theorem wpAt_rangeFunc {n : Nat} {g : Operand} {ps : Array Tmp} {assign body : Code}
    (h : ∃ (l : Nat) (mark : List Deferred) (w₁ : World) (d : Deferred) (w₁' : World) (f : FuncId) (args : Array Value) (w₂ : World),
      (Instr.enterLoop f0 a.tmps ps assign body none).run P w = .ok (l, mark) w₁ ∧
      (resolve a.eval (rangeCall g l) 0).run P w₁ = .ok d w₁' ∧
      (invoke d.target d.args).run P w₁' = .ok (.enter f args) w₂ ∧
      CallsIn Fence.wide n P f args w₂ (rangePost Fence.wide n P l Q { a with defers := mark ++ a.defers })) :
    wpAt f0 P (.rangeFunc g ps assign body) Q a w := by
  intro b k cs hro hb
  obtain ⟨l, mark, w₁, d, w₁', f, args, w₂, he, hres, hinv, hcall⟩ := h
  rw [← hro, ← hb] at he
  have h0 : (lone (b.atR a (.code (.rangeFunc g ps assign body) :: k)) cs w).fenced P Fence.wide := fenced_wide _ _
  have henter := stepR_rangeFunc (P := P) (b := b) (a := a) (k := k) (cs := cs) (w := w) he hres hinv
  obtain ⟨e, w₃, fr, hR, hsteps, hfn, hleave⟩ := hcall.2 (b.atR { a with defers := mark ++ a.defers } (.inRangeFunc l :: k) :: cs) (room_wide _)
  cases e with
  | outgrown =>
    obtain ⟨a₀, w₀, hq⟩ := hR
    exact ⟨.outgrown, a₀, w₀, hq, .inr (Outgrown.of_steps (.one henter) hsteps)⟩
  | returned v =>
    obtain ⟨jump, w₄, hend, hj⟩ := hR
    have sback : StepsIn (Machine.fenced P Fence.wide) P (lone (b.atR a (.code (.rangeFunc g ps assign body) :: k)) cs w) (lone (b.atR { a with defers := mark ++ a.defers } ((jump.map Item.code).toList ++ k)) cs w₄) := by
      refine .head h0 henter (StepsIn.trans hsteps (.head (fenced_wide _ _) ?_ (.one (fenced_wide _ _) (stepR_endRangeFunc hend))))
      rw [← finish_atR_inRangeFunc l v]; exact step_leave_returned hleave
    cases jump with
    | none => exact ⟨.normal, _, w₄, hj, sback⟩
    | some c =>
      obtain ⟨e', a'', w₅, hq, harr⟩ := hj b k cs hro trivial (room_wide _)
      exact ⟨e', a'', w₅, hq, .of_steps sback harr⟩
  | panicked chain =>
    refine ⟨.panic chain, _, w₃, hR, .inRangeFunc l :: k, .head h0 henter (StepsIn.trans hsteps (.one (fenced_wide _ _) ?_))⟩
    rw [← Frame.raise_atR]; exact step_leave_panicked hleave
theorem callsIn_of_wpAt {n : Nat} {fn : Func} {c : Code} {args : Array Value} {R : Ending → World → Prop}
    (hf : P.funcs[f0]? = some fn) (hb : fn.body = some c)
    (h : wpAt f0 P c (bodyPostM Fence.wide n P fn R) { tmps := args ++ Array.replicate (fn.ntmps - args.size) undef, defers := [] } w) : CallsIn Fence.wide n P f0 args w R := by
  refine ⟨trivial, fun cs hr => ?_⟩
  let b : Frame := { (default : Frame) with fn := f0, kind := .normal, roundOf := none }
  have henter : Frame.enter P f0 args .normal =
      b.atR { tmps := args ++ Array.replicate (fn.ntmps - args.size) undef, defers := [] } [.code c] := by
    simp [Frame.enter, Frame.atR, hf, hb, b]
  obtain ⟨e, a', w', hq, harr⟩ := h b [] cs rfl rfl
  rw [← henter] at harr
  cases e with
  | normal =>
    obtain ⟨e', w'', fr', hR, hs, hfn, hl⟩ := leaves_stepsInM a'.defers .returning w' { b.atR a' [] with mode := .returning } cs rfl rfl rfl hf rfl trivial hr hq
    exact ⟨e', w'', fr', hR, ComesIn.of_steps (StepsIn.trans harr (.one (fenced_wide _ _) (stepR_end rfl))) hs, hfn, hl⟩
  | ret =>
    obtain ⟨todo, hs₀⟩ := harr.1 rfl
    obtain ⟨e', w'', fr', hR, hs, hfn, hl⟩ := leaves_stepsInM a'.defers .returning w' { b.atR a' todo with mode := .returning } cs rfl rfl rfl hf rfl trivial hr hq
    exact ⟨e', w'', fr', hR, ComesIn.of_steps hs₀ hs, hfn, hl⟩
  | panic chain =>
    obtain ⟨todo, hs₀⟩ := harr
    obtain ⟨e', w'', fr', hR, hs, hfn, hl⟩ := leaves_stepsInM a'.defers (.panicking chain) w' { b.atR a' todo with mode := .panicking chain } cs rfl rfl rfl hf rfl trivial hr hq
    exact ⟨e', w'', fr', hR, ComesIn.of_steps hs₀ hs, hfn, hl⟩
  | exit id => exact hq.elim
  | goto l => exact hq.elim
  | outgrown => exact ⟨.outgrown, w', b, hq, harr.resolve_left (by simp [b]), rfl, trivial⟩
end
end Go.Proofs.YtaamllikceaifaaGreatDoor
namespace Go.Proofs.YtaamllikceaifaaGreatDoor
open Go.RowKit Sp Tr Go.Shelf
set_option linter.unusedVariables false
attribute [local go_sem] Oper.semAt_some

section
variable {w0 w : World} {c : PC} {v u : Value} {E : PE} {s s' : S} {L : List (Nat × Obj)}
theorem Bad.putObj {er : Int} {D : Nat} {o' : Obj} {L' : List (Nat × Obj)} (h : Bad w0 c v u E s er L w) (hD : w0.heap.size ≤ D) (hp : c.p < w0.heap.size) (hL : ∀ x ∈ L', x ∈ L ∧ x.1 ≠ D) : Bad w0 c v u E s er L' (w.putObj D o') := by
  obtain ⟨vn, vt, h1, h2, h3⟩ := h
  have hz : ∀ k, k ≠ D → (w.putObj D o').heap[k]? = w.heap[k]? := fun k hk => World.putObj_heap_other hk
  obtain ⟨cs, ty, hg, ht2⟩ := h1.toks
  have g1 := h1.gB; have g2 := h1.ge
  refine ⟨vn, vt, ⟨(hz _ (by omega)).trans h1.head, ⟨cs, ty, (hz _ (by omega)).trans hg, ht2⟩, g1, g2, h1.rd, h1.dp, h1.tl⟩, ⟨h2.os, h2.tape, h2.output, by simp; exact h2.size, fun k hk hn hv ht => (hz _ (by omega)).trans (h2.block k hk hn hv ht), h2.ownN, h2.ownT⟩, fun x hx => (hz _ (hL x hx).2).trans (h3 x (hL x hx).1)⟩
set_option maxHeartbeats 1000000 in
theorem back_iterR (KB : Int → S → Prop) (Z : List (Nat × Obj)) {bk : Nat} {sv : Value} {xs : List Int} (n l : Nat) (J : Nat → S → List (Nat × Obj) → Prop) (hM : ∀ j s L, J j s L → BackM w0 bk sv xs L) (W : World)
    (hY : ∀ j (k : Nat) x s1 L W, J j s1 L → k + 1 + j = xs.length → xs[k]? = some x → At w0 c v u E s1 L W → YieldAt Fence.wide (n - 1) Tryz.prog l #[.int .i64 k, .int .i64 x] W fun e W' => (e = .returned (.bool true) ∧ ∃ s2 L', J (j + 1) s2 L' ∧ At w0 c v u E s2 L' W') ∨ ∃ er s2, e = .panicked (chV er) ∧ KB er s2 ∧ Bad w0 c v u E s2 er Z W')
    (hJ : J 0 s L) (hA : At w0 c v u E s L W) (hlen : xs.length ≤ 1000000) :
    CallsIn Fence.wide n Tryz.prog 92 #[.func (.yield l) #[] #[], .pointer (some ⟨bk, 0, none⟩)] W fun e W' => ((∃ r, e = .returned r) ∧ ∃ s2 L', J xs.length s2 L' ∧ At w0 c v u E s2 L' W') ∨ ∃ er s2, e = .panicked (chV er) ∧ KB er s2 ∧ Bad w0 c v u E s2 er Z W' := by
  have hw : ∀ f, Fence.wide.fn f := fun _ => trivial
  have hd : Fence.wide.depth = none := rfl
  obtain ⟨m1, R, hR, hRL⟩ := hM _ _ _ hJ
  have cb := (nv1 (hA.mem m1)).1
  obtain ⟨a, cap, rfl⟩ := row_slice (hA.row hR hRL)
  have HA := Lib.hid hA; clear hA
  have HY := Lib.hid hY; clear hY
  have HJ0 := Lib.hid hJ
  have HM := Lib.hid hM; clear hM
  clear m1 hR hRL hJ
  refine callsIn_of_wp Tryz.func92 rfl trivial ?_ rfl
  simp only [Tryz.ntmps92, List.size_toArray, List.length_cons, List.length_nil, Nat.reduceAdd, Nat.reduceSub, Array.replicate_succ, Array.replicate_zero, List.push_toArray, List.append_toArray, List.nil_append, List.cons_append]
  gi_wp2
  gi_loopg [3] xs.length (fun g i wr => ∃ (j : Nat) (s1 : S) (L1 : List (Nat × Obj)), j + g = xs.length ∧ i = .int .i64 ((g : Int) - 1) ∧ Hid (J j s1 L1) ∧ Hid (At w0 c v u E s1 L1 wr))
  case atStart => exact ⟨0, s, L, by omega, rfl, HJ0, HA⟩
  case round =>
    clear HA HJ0 cb
    obtain ⟨j, s1, L1, hj, rfl, HJ, A0⟩ := hrel
    cases gk with
    | zero =>
      have e0 : decide ((0 : Int) ≤ ((0 : Nat) : Int) - 1) = false := by decide
      gi_wp2
      go_end0
      exact .inl ⟨⟨_, rfl⟩, s1, L1, (show j = xs.length by omega) ▸ HJ.out, A0.out⟩
    | succ k =>
      obtain ⟨m1, R, hR, hRL⟩ := HM.out _ _ _ HJ.out
      have cb := (nv1 (A0.out.mem m1)).1
      obtain ⟨x, hx⟩ : ∃ x, xs[k]? = some x := ⟨_, List.getElem?_eq_getElem (by omega)⟩
      have hrow := A0.out.row hR hRL
      obtain ⟨g0, cap0, hg, _, _⟩ := hrow.form (by omega)
      simp only [Value.slice.injEq] at hg
      obtain ⟨rfl, _, rfl⟩ := hg
      have cx := hrow.cells (g := g0) rfl k (.int .i64 x) (by simp [hx])
      have hadd : (⟨g0, 0, none⟩ : Addr).add k = ⟨g0, k, none⟩ := by unfold Addr.add; split <;> simp_all
      rw [hadd] at cx
      obtain ⟨fy, tmpsy, asy, boy, hy, hRd⟩ := HY.out j k x s1 L1 wr HJ.out (by omega) hx A0.out
      have e0 : (((k + 1 : Nat) : Int) - 1) = (k : Int) := by omega
      rw [e0]
      have q0 : (0 : Int) ≤ (k : Int) := by omega
      have q1 : (k : Int) < (xs.length : Int) := by omega
      clear hrow m1 hR hRL hx hadd
      gi_wp2
      refine hRd.mono ?_
      rintro e W2 (⟨rfl, s2, L2, hj2, ha⟩ | ⟨er, s2, rfl, hkb, hb⟩)
      rotate_left
      · exact ⟨rfl, .inr ⟨er, s2, rfl, hkb, hb⟩⟩
      have HJ2 := Lib.hid hj2
      have A2 := Lib.hid ha
      obtain ⟨m2, _⟩ := HM.out _ _ _ hj2
      have cb2 := (nv1 (ha.mem m2)).1
      clear hj2 ha hy m2
      gi_wp2
      gi_roundg k
      case rel => exact ⟨j + 1, s2, L2, by omega, rfl, HJ2, A2⟩
      case measure => omega
/-- How a round's body may end that reads on, errors too. -/
def ends2R (w0 : World) (c : PC) (v u : Value) (E : PE) (K : S → List (Nat × Obj) → Prop) (KB : Int → S → Prop) (Z : List (Nat × Obj)) : Exit → Act → World → Prop
  | .normal, _, W => ∃ s2 L, K s2 L ∧ At w0 c v u E s2 L W
  | .panic ch, a, W => a.defers = [] ∧ ∃ er s2, ch = chV er ∧ KB er s2 ∧ Bad w0 c v u E s2 er Z W
  | _, _, _ => False
theorem range_backR (KB : Int → S → Prop) (Z : List (Nat × Obj)) {g : Operand} {p1 p2 : Tmp} {assign body : Code} {Q : Exit → Act → World → Prop} {a : Act} {bk : Nat} {sv : Value} {xs : List Int} (hlen : xs.length ≤ 1000000)
    (hg : a.eval g = .func (.func 92) #[] #[.pointer (some ⟨bk, 0, none⟩)]) (hA : At w0 c v u E s L w)
    (J : Nat → S → List (Nat × Obj) → Prop) (hM : ∀ j s L, J j s L → BackM w0 bk sv xs L) (hZ : ∀ x ∈ Z, x ∈ L) (hJ : J 0 s L) (a1 : Nat → Int → Act)
    (hassign : ∀ (l k : Nat) (x : Int) (W : World) (K : Act → World → Prop), K (a1 k x) W → assign.wpIn (Fence.wide.inRound l) 0 Tryz.prog (Exit.then K (fun _ _ _ => False)) { tmps := (a.tmps.setIfInBounds p1 (.int .i64 k)).setIfInBounds p2 (.int .i64 x), defers := [] } W)
    (hbody : ∀ (l j k : Nat) (x : Int) (X L : List (Nat × Obj)) (W : World) (s1 : S), J j s1 L → k + 1 + j = xs.length → xs[k]? = some x → At w0 c v u E s1 (X ++ L) W → body.wpIn (Fence.wide.inRound l) 0 Tryz.prog (ends2R w0 c v u E (fun s2 L' => ∃ L1, L' = X ++ L1 ∧ J (j + 1) s2 L1) KB (X ++ Z)) (a1 k x) W)
    (hdone : ∀ (D : Nat) (o : Obj) (l : Nat) (s2 : S) (L : List (Nat × Obj)) (W : World), J xs.length s2 L → At w0 c v u E s2 ((D, .deferred (some [])) :: (l, o) :: L) W → Q .normal { a with defers := { target := .collected D, args := #[] } :: a.defers } W)
    (hbad : ∀ (D : Nat) (er : Int) (s2 : S) (W : World), w0.heap.size ≤ D → (∀ x ∈ Z, x.1 ≠ D) → KB er s2 → Bad w0 c v u E s2 er ((D, .deferred (some [])) :: Z) W → Q (.panic (chV er)) { a with defers := { target := .collected D, args := #[] } :: a.defers } W) :
    wpAt 49 Tryz.prog (Code.rangeFunc g #[p1, p2] assign body) Q a w := by
  have eg : ∀ args w, (callFunc 92 args).run Tryz.prog w = .ok (.enter 92 args) w := enters_of Tryz.func92 (by kernel_rfl) rfl
  have hwz := hA.size
  have hzz : ∀ x ∈ Z, x.1 ≠ w.heap.size := fun x hx e => by
    have := lt_heap (hA.mem (hZ x hx))
    omega
  refine wpAt_rangeFunc (n := 0 - 1) ?_
  obtain ⟨rec, hrec⟩ : ∃ rec : LoopState → Option Code → Loop, rec = fun st pe => { state := st, pending := pe, fn := 49, tmps := a.tmps, params := #[p1, p2], assign, body, defers := w.heap.size } := ⟨_, rfl⟩
  obtain ⟨W1, hW1⟩ : ∃ W1 : World, (w.alloc (.deferred (some []))).alloc (.loop (rec .ready none)) = W1 := ⟨_, rfl⟩
  have hA1 : At w0 c v u E s ((w.heap.size + 1, .loop (rec .ready none)) :: (w.heap.size, .deferred (some [])) :: L) W1 := by
    have := (hA.alloc (.deferred (some []))).alloc (.loop (rec .ready none))
    rw [World.size_alloc, hW1] at this
    exact this
  refine ⟨w.heap.size + 1, [{ target := .collected w.heap.size, args := #[] }], W1, { target := .fn (.func 92) #[.pointer (some ⟨bk, 0, none⟩)], args := #[.func (.yield (w.heap.size + 1)) #[] #[]] }, W1, 92,
    #[.func (.yield (w.heap.size + 1)) #[] #[], .pointer (some ⟨bk, 0, none⟩)], W1, ?_, ?_, ?_, ?_⟩
  · rw [← hW1, hrec]; exact run_enterLoop_outer _ _ _ _ _
  · simp only [resolve, hg]
    simp [go_sem]
  · simp [invoke, go_sem, eg]
  · refine (back_iterR KB ((w.heap.size, .deferred (some [])) :: Z) (s := s) (L := (w.heap.size + 1, .loop (rec .ready none)) :: (w.heap.size, .deferred (some [])) :: L) (sv := sv) (0 - 1) (w.heap.size + 1) (fun j s' L' => ∃ L1, L' = (w.heap.size + 1, .loop (rec .ready none)) :: (w.heap.size, .deferred (some [])) :: L1 ∧ J j s' L1) ?_ W1 ?_ ⟨L, rfl, hJ⟩ hA1 hlen).mono ?_
    · rintro j s1 _ ⟨L1, rfl, hj⟩
      obtain ⟨m1, R, hR, hRL⟩ := hM _ _ _ hj
      exact ⟨List.mem_cons_of_mem _ (List.mem_cons_of_mem _ m1), R, hR, fun x hx => List.mem_cons_of_mem _ (List.mem_cons_of_mem _ (hRL x hx))⟩
    · rintro j k x s1 _ W ⟨L1, rfl, hj⟩ hk hx hA2
      have hl := hA2.loc
      have hy := run_yield (P := Tryz.prog) (args := #[.int .i64 k, .int .i64 x]) hl (by rw [hrec]; rfl)
      have hp : (rec .ready none).tmps = a.tmps ∧ (rec .ready none).params = #[p1, p2] ∧ (rec .ready none).assign = assign ∧ (rec .ready none).body = body ∧ (rec .ready none).fn = 49 ∧ (rec .ready none).state = .ready := by rw [hrec]; exact ⟨rfl, rfl, rfl, rfl, rfl, rfl⟩
      obtain ⟨q1, q2, q3, q4, q5, q6⟩ := hp
      rw [q1, q2, q3, q4, q5] at hy
      have hz : (#[p1, p2].zip #[(Value.int .i64 k), (Value.int .i64 x)]).foldl (fun (tmps : Array Value) (t, a) => tmps.setIfInBounds t a) a.tmps = (a.tmps.setIfInBounds p1 (.int .i64 k)).setIfInBounds p2 (.int .i64 x) := by simp
      rw [hz] at hy
      refine ⟨49, _, assign, body, hy, roundIn_of_wpInP Tryz.func49 ?_⟩
      refine hassign _ k x W _ ?_
      refine ⟨_, run_beginRound hl q6, ?_⟩
      have hA3 := hA2.putObj (.loop { rec .ready none with state := .busy })
      refine wpIn_mono (hbody _ j k x [(w.heap.size + 1, .loop { rec .ready none with state := .busy }), (w.heap.size, .deferred (some []))] L1 _ s1 hj hk hx hA3) ?_
      rintro e a3 W3 hp
      cases e with
      | normal =>
        obtain ⟨s2, _, ⟨L2, rfl, hj2⟩, hA4⟩ := hp
        have hl4 : W3.heap[w.heap.size + 1]? = some (.loop { rec .ready none with state := .busy }) := hA4.loc
        refine ⟨_, _, run_endRound none hl4, .inl ⟨rfl, s2, _, ⟨L2, rfl, hj2⟩, ?_⟩⟩
        have := At.putObj (L := (w.heap.size, .deferred (some [])) :: L2) hA4 (.loop (rec .ready none))
        rw [hrec] at this ⊢
        exact this
      | ret => exact hp.elim
      | exit id => exact hp.elim
      | goto t => exact hp.elim
      | panic ch =>
        obtain ⟨hd, er, s2, rfl, hkb, hb⟩ := hp
        exact ⟨hd, .inr ⟨er, s2, rfl, hkb, hb.sub (by intro x hx; rcases List.mem_cons.1 hx with rfl | hx <;> simp [*])⟩⟩
      | outgrown => exact hp.elim
    · rintro e W2 (⟨⟨r, rfl⟩, s2, _, ⟨L1, rfl, hj⟩, hA3⟩ | ⟨er, s2, rfl, hkb, hb⟩)
      rotate_left
      · exact hbad _ er s2 W2 hwz hzz hkb hb
      have hl := hA3.loc
      have hb : (rec .ready none).state ≠ .busy := by rw [hrec]; simp
      have h := run_endLoop (P := Tryz.prog) hl hb
      rw [hrec] at h
      exact ⟨none, _, h, hdone _ _ _ _ _ _ hj ((hA3.putObj _).perm (List.Perm.swap ..))⟩
end
set_option maxHeartbeats 4000000 in
theorem list_q0 {w : World} {c : PC} {vn vt : Value} {E : PE} {s : S} {fn : Nat} {first cap : Array Value} {R1 : Tr.Res (List Int)} (eg : ∀ args w, (callFunc fn args).run Tryz.prog w = .ok (.enter fn args) w)
    (hi : IterR w c vn vt E fn first cap s R1) (hlen : ∀ xs s1, R1 = .ok xs s1 → xs.length ≤ 1000000) (h : PIn w c vn vt E s) (hN : R1.bind listM ≠ .out) :
    Calls Tryz.prog 49 #[.pointer (some ⟨c.p, 0, none⟩), .func (.func fn) first cap] w (AnsR w c vn vt E [] (R1.bind listM) iV) := by
  have hpz := lt_heap h.head
  obtain ⟨RR, hRR⟩ : ∃ RR, R1.bind listM = RR := ⟨_, rfl⟩
  rw [hRR] at hN ⊢
  have HNN := Lib.hid hN; clear hN
  have A0 := Lib.hid (At.start h)
  have A1 : Hid (At w c vn vt E s [(w.heap.size + 1, alO (.slice none 0 0)), (w.heap.size, bxO c)] ((w.alloc (bxO c)).alloc (alO (.slice none 0 0)))) := by
    have := (A0.out.alloc (bxO c)).alloc (alO (.slice none 0 0))
    rw [World.size_alloc] at this
    exact Lib.hid this
  have H := Lib.hid h; clear h
  have HI := Lib.hid hi; clear hi
  refine (callsIn_wide (n := 0)).1 ?_
  refine callsIn_of_wpAt (n := 0) Tryz.func49 rfl ?_
  simp only [Tryz.ntmps49, List.size_toArray, List.length_cons, List.length_nil, Nat.reduceAdd, Nat.reduceSub, Array.replicate_succ, Array.replicate_zero, List.push_toArray, List.append_toArray, List.nil_append, List.cons_append]
  refine wpAt_seq (wpAt_of_wpIn (n := 0) ?_)
  gi_wp2
  refine wpAt_seq (wpAt_of_wpIn (n := 0) ?_)
  gi_wp2
  refine wpAt_seq (wpAt_seq (wpAt_of_wpIn (n := 0) ?_))
  gi_wp2
  refine wpAt_block (wpAt_of_wpIn (n := 0) ?_)
  obtain ⟨i0, hi0, hz0, hz1, hz2⟩ := info_parts infoInt
  have hw : ∀ f, Fence.wide.fn f := fun _ => trivial
  have hd : Fence.wide.depth = none := rfl
  have hmix : Tryz.prog.follows .mixedOrders = true := by kernel_rfl
  refine rangeR_at HI.out eg rfl A1.out (JA w c w.heap.size (w.heap.size + 1)) ⟨_, [], rfl, .inl ⟨rfl, rfl, rfl⟩⟩
    (fun x => { tmps := #[.pointer (some ⟨c.p, 0, none⟩), .func (.func fn) first cap, .pointer (some ⟨w.heap.size, 0, none⟩), undef, .int .i64 0, .pointer (some ⟨w.heap.size + 1, 0, none⟩), .int .i64 x, undef, undef, undef, undef, .func (.func fn) first cap, .int .i64 x, undef, undef, undef, undef, undef, undef, undef, undef, undef, undef, undef, undef, undef, undef, undef, undef, undef, undef, undef, undef, undef, undef, undef, undef, undef, undef, undef, undef], defers := [] }) ?assign ?body ?done ?bad1
  case assign =>
    intro l x W K hK
    gi_wp2
    exact hK
  case body =>
    rintro l pre x X _ W s2 ⟨va, R, rfl, hR⟩ hpl hA
    have hA' : At w c vn vt E s2 ((w.heap.size + 1, alO va) :: (R ++ ([(w.heap.size, bxO c)] ++ X))) W := hA.perm (by
      refine List.perm_append_comm.trans ?_
      rw [List.cons_append, List.append_assoc])
    have hrow := hA'.row hR (fun y hy => List.mem_cons_of_mem _ (List.mem_append_left _ hy))
    obtain ⟨ca, cf⟩ := nv1 hA'.loc
    have hsz : w.heap.size + 1 < W.heap.size := lt_heap hA'.loc
    obtain ⟨a, cap', rfl⟩ := row_slice hrow
    have HA := Lib.hid hA'
    clear hA hA'
    gi_wp2_with (gi_at_builtin; refine wpListIn_append_own_at _ rfl _ _ 37 rfl w.heap.size 3 i0 (.int .i64 0) 1 8 Tryz.underlying37 hi0 hz0 hz1 hz2 rfl (by decide) _ _ _ rfl (hrow.alloc _) ⟨W.heap.size, 0, none⟩ 1 1 [.int .i64 x] rfl rfl (cell_one_new _ _ _) (by simp [Value.oneCell']) (by unfold maxLen; omega) (by omega) (by simp; omega) ?_; intro v' w1 hown' hgrow _ hat; obtain ⟨g', cap2, rfl⟩ := ownsRow_succ hown'; obtain ⟨ca1, cf1⟩ := nv1 (HA.out.headKept hR ((Below.refl _ _).alloc (Nat.le_refl _) _) hgrow); have HP := Lib.hid (HA.out.appended hR ((Below.refl _ _).alloc (Nat.le_refl _) _) hgrow hown' (H := W.heap.size + 1) (by rcases hat with e | e; exact .inl e.symm; right; simpa [Value.ownBlock] using e) (by omega)); clear hown' hgrow hat)
    obtain ⟨R', hR', hA2⟩ := HP.out
    refine ⟨X ++ ((w.heap.size + 1, alO _) :: (R' ++ [(w.heap.size, bxO c)])), ⟨_, rfl, _, R', rfl, hR'⟩, hA2.perm ?_⟩
    refine List.Perm.trans ?_ List.perm_append_comm
    simp only [List.cons_append, List.append_assoc, List.nil_append]
    exact List.Perm.refl _
  case done =>
    rintro D o l xs s1 _ W rfl ⟨va, R, rfl, hR⟩ hA
    have hlen := hlen xs s1 rfl
    have hs : listRM xs.reverse (-1) s1 = RR := hRR
    have hca : W.heap[w.heap.size + 1]? = some (alO va) := hA.mem (x := (w.heap.size + 1, alO va)) (by simp)
    obtain ⟨ca, cf⟩ := nv1 hca
    clear hca
    obtain ⟨a, cap', rfl⟩ := row_slice (hA.row hR (fun y hy => by simp [hy]))
    have HA := Lib.hid hA
    have hsz := hA.size
    have hsz1 : w.heap.size + 1 < W.heap.size := lt_heap (hA.mem (x := (w.heap.size + 1, alO (.slice a xs.length cap'))) (by simp))
    clear hA
    refine wpAt_seq (wpAt_of_wpIn (n := 0) ?_)
    gi_wp2
    refine wpAt_seq (wpAt_seq (wpAt_of_wpIn (n := 0) ?_))
    gi_wp2_with (gi_at_call 69; refine (callsIn_wide.2 (back_new _ _ _ _)).mono ?_; rintro e w' ⟨rfl, rfl⟩)
    have A2 : At w c vn vt E s1 ((W.heap.size, .cells #[.int .i64 (-1)] 3 (0, 0)) :: (W.heap.size + 1, alO (.slice a xs.length cap')) :: (D, .deferred (some [])) :: (l, o) :: (w.heap.size + 1, alO (.slice a xs.length cap')) :: (R ++ [(w.heap.size, bxO c)])) ((W.alloc (.cells #[.int .i64 (-1)] 3)).alloc (alO (.slice a xs.length cap'))) := by
      have := (HA.out.alloc (.cells #[.int .i64 (-1)] 3)).alloc (alO (.slice a xs.length cap'))
      rw [World.size_alloc] at this
      exact this.perm (List.Perm.swap ..)
    refine wpAt_block ?_
    refine range_backR (fun er s2 => RR = .bad er s2) [(D, .deferred (some []))] (bk := W.heap.size + 1) (sv := .slice a xs.length cap') hlen rfl A2 (fun j s2 L' => ∃ rest, L' = (W.heap.size, .cells #[.int .i64 rest] 3 (0, 0)) :: (W.heap.size + 1, alO (.slice a xs.length cap')) :: (D, .deferred (some [])) :: (l, o) :: (w.heap.size + 1, alO (.slice a xs.length cap')) :: (R ++ [(w.heap.size, bxO c)]) ∧ Hid (listRM (xs.reverse.drop j) rest s2 = RR))
      ?mem ?hZ ⟨_, rfl, Lib.hid hs⟩
      (fun k x => { tmps := #[.pointer (some ⟨c.p, 0, none⟩), .func (.func fn) first cap, .pointer (some ⟨w.heap.size, 0, none⟩), undef, .int .i64 0, .pointer (some ⟨w.heap.size + 1, 0, none⟩), undef, .pointer (some ⟨W.heap.size, 0, none⟩), undef, .int .i64 x, undef, .func (.func fn) first cap, undef, undef, undef, undef, undef, .slice a xs.length cap', .func (.func 92) #[] #[.pointer (some ⟨W.heap.size + 1, 0, none⟩)], .int .i64 k, .int .i64 x, undef, undef, undef, undef, undef, undef, undef, undef, undef, undef, undef, undef, undef, undef, undef, undef, undef, undef, undef, undef], defers := [] }) ?assign2 ?body2 ?done2 ?bad2
    case hZ => intro x hx; simp at hx; subst hx; simp
    case mem =>
      rintro j s2 _ ⟨rest, rfl, _⟩
      exact ⟨by simp, R, hR, fun x hx => by simp [hx]⟩
    case assign2 =>
      intro l2 k x W2 K hK
      gi_wp2
      exact hK
    case body2 =>
      rintro l2 j k x X _ V s2 ⟨rest, rfl, HL⟩ hk hx hA3
      have hls := HL.out
      rw [drop_rev hk hx] at hls
      unfold listRM at hls
      by_cases hx0 : x < 0
      case pos => rw [if_pos hx0] at hls; exact absurd hls.symm HNN.out
      rw [if_neg hx0] at hls
      obtain ⟨q, rfl⟩ : ∃ q : Nat, x = q := ⟨x.toNat, by omega⟩
      rw [Int.toNat_natCast] at hls
      cases hnd : s2.nodes[q]? with
      | none => rw [hnd] at hls; exact absurd hls.symm HNN.out
      | some nd =>
        rw [hnd] at hls
        have HR := Lib.hid hls
        obtain ⟨n, hn⟩ : ∃ n, nodeAt E s2 20 = n := ⟨_, rfl⟩
        have hn2 : n = ⟨20, -1, -1, -1, -1, [], 0, 0, n.pos⟩ := by rw [← hn]; rfl
        have HN2 := Lib.hid hn2; clear hn2
        have HN := Lib.hid hn
        have HD := Lib.hid hnd
        have hA4 := hA3.perm (List.perm_append_comm)
        simp only [List.cons_append] at hA4
        have HA4 := Lib.hid hA4
        have q0 : (0 : Int) ≤ (q : Int) := Int.natCast_nonneg _
        have q1 : (q : Int) < (s2.nodes.length : Int) := by have := (List.getElem?_eq_some_iff.1 hnd).1; omega
        have hb0 := hA4.mem (x := (w.heap.size, bxO c)) (by simp)
        have cb0 := (nv1 hb0).1
        clear hA4 hA3 hls hnd hn hx HL hb0
        gi_wp2_with (gi_at_call 70; refine (CallsIn.inRound l2 (callsIn_wide.2 (node_a HA4.out HN.out))).mono ?_; rintro e v1 ⟨rfl, ha⟩; obtain ⟨cr, cfr⟩ := nv1 ha.loc; have hb1 := ha.mem (x := (w.heap.size, bxO c)) (by simp); have cb1 := (nv1 hb1).1; obtain ⟨g, cp, c7, cq, zp, zg⟩ := ha.node HD.out; have zr := lt_heap ha.loc; have zb := lt_heap hb1; have B1 := Lib.hid ha; clear ha hb1; dsimp only [ndV])
        refine region_round (fun w' : World => w'.cell? ⟨W.heap.size, 0, none⟩ = some (.int .i64 rest) ∧ w'.cell? ⟨w.heap.size, 0, none⟩ = some (.pointer (some ⟨c.p, 0, none⟩)) ∧ w'.cell? ⟨c.p, 7, none⟩ = some (.slice (some ⟨g, 0, none⟩) s2.nodes.length cp) ∧ w'.cell? ⟨g, q * 9 + 8, none⟩ = some (.int .i64 nd.pos)) 16 hmix (by rintro ⟨a, w, h⟩; exact h) (by kernel_rfl) ?_
        have hHeld : (fun w' : World => w'.cell? ⟨W.heap.size, 0, none⟩ = some (.int .i64 rest) ∧ w'.cell? ⟨w.heap.size, 0, none⟩ = some (.pointer (some ⟨c.p, 0, none⟩)) ∧ w'.cell? ⟨c.p, 7, none⟩ = some (.slice (some ⟨g, 0, none⟩) s2.nodes.length cp) ∧ w'.cell? ⟨g, q * 9 + 8, none⟩ = some (.int .i64 nd.pos)) (v1.alloc (ndO n)).drew := by
          dsimp only
          go_keep
        refine anyL_take (i := 0) (v := ?_) rfl rfl (by kernel_rfl) (by kernel_rfl) (by kernel_rfl) (by kernel_rfl) (fun _ _ _ h => h) (Or.inl ⟨by rfl, ?_⟩) hHeld ?_
        rotate_left
        · (intro w' hSw; (try dsimp only at hSw); go_simp; first | done | with_reducible rfl)
        simp only [Act.put]
        refine anyL_take (i := 1) (v := ?_) rfl rfl (by kernel_rfl) (by kernel_rfl) (by kernel_rfl) (by kernel_rfl) (fun _ _ _ h => h) (Or.inl ⟨by rfl, ?_⟩) hHeld ?_
        rotate_left
        · (intro w' hSw; (try dsimp only at hSw); go_simp; first | done | with_reducible rfl)
        simp only [Act.put]
        refine anyL_take (i := 2) (v := ?_) rfl rfl (by kernel_rfl) (by kernel_rfl) (by kernel_rfl) (by kernel_rfl) (fun _ _ _ h => h) (Or.inl ⟨by rfl, ?_⟩) hHeld ?_
        rotate_left
        · (intro w' hSw; (try dsimp only at hSw); go_simp; first | done | with_reducible rfl)
        simp only [Act.put]
        refine anyL_take (i := 3) (v := ?_) rfl rfl (by kernel_rfl) (by kernel_rfl) (by kernel_rfl) (by kernel_rfl) (fun _ _ _ h => h) (Or.inl ⟨by rfl, ?_⟩) hHeld ?_
        rotate_left
        · (intro w' hSw; (try dsimp only at hSw); go_simp; first | done | with_reducible rfl)
        simp only [Act.put]
        refine anyL_take (i := 4) (v := ?_) rfl rfl (by kernel_rfl) (by kernel_rfl) (by kernel_rfl) (by kernel_rfl) (fun _ _ _ h => h) (Or.inl ⟨by rfl, ?_⟩) hHeld ?_
        rotate_left
        · (intro w' hSw; (try dsimp only at hSw); go_simp; first | done | with_reducible rfl)
        simp only [Act.put]
        refine anyL_take (i := 5) (v := ?_) rfl rfl (by kernel_rfl) (by kernel_rfl) (by kernel_rfl) (by kernel_rfl) (fun _ _ _ h => h) (Or.inl ⟨by rfl, ?_⟩) hHeld ?_
        rotate_left
        · (intro w' hSw; (try dsimp only at hSw); go_simp; first | done | with_reducible rfl)
        simp only [Act.put]
        refine anyL_take (i := 6) (v := ?_) rfl rfl (by kernel_rfl) (by kernel_rfl) (by kernel_rfl) (by kernel_rfl) (fun _ _ _ h => h) (Or.inl ⟨by rfl, ?_⟩) hHeld ?_
        rotate_left
        · (intro w' hSw; (try dsimp only at hSw); go_simp; first | done | with_reducible rfl)
        simp only [Act.put]
        refine anyL_take (i := 7) (v := ?_) rfl rfl (by kernel_rfl) (by kernel_rfl) (by kernel_rfl) (by kernel_rfl) (fun _ _ _ h => h) (Or.inl ⟨by rfl, ?_⟩) hHeld ?_
        rotate_left
        · (intro w' hSw; (try dsimp only at hSw); go_simp; first | done | with_reducible rfl)
        simp only [Act.put]
        refine anyL_take (i := 8) (v := ?_) rfl rfl (by kernel_rfl) (by kernel_rfl) (by kernel_rfl) (by kernel_rfl) (fun _ _ _ h => h) (Or.inl ⟨by rfl, ?_⟩) hHeld ?_
        rotate_left
        · (intro w' hSw; (try dsimp only at hSw); go_simp; first | done | with_reducible rfl)
        simp only [Act.put]
        refine anyL_take (i := 9) (v := ?_) rfl rfl (by kernel_rfl) (by kernel_rfl) (by kernel_rfl) (by kernel_rfl) (fun _ _ _ h => h) (Or.inl ⟨by rfl, ?_⟩) hHeld ?_
        rotate_left
        · (intro w' hSw; (try dsimp only at hSw); go_simp; first | done | with_reducible rfl)
        simp only [Act.put]
        refine anyL_take (i := 10) (v := ?_) rfl rfl (by kernel_rfl) (by kernel_rfl) (by kernel_rfl) (by kernel_rfl) (fun _ _ _ h => h) (Or.inl ⟨by rfl, ?_⟩) hHeld ?_
        rotate_left
        · (intro w' hSw; (try dsimp only at hSw); go_simp; first | done | with_reducible rfl)
        simp only [Act.put]
        refine anyL_take (i := 11) (v := ?_) rfl rfl (by kernel_rfl) (by kernel_rfl) (by kernel_rfl) (by kernel_rfl) (fun _ _ _ h => h) (Or.inl ⟨by rfl, ?_⟩) hHeld ?_
        rotate_left
        · (intro w' hSw; (try dsimp only at hSw); go_simp; first | done | with_reducible rfl)
        simp only [Act.put]
        refine anyL_one (i := 12) (by kernel_rfl) rfl (fun K1 hK1 => ?_)
        go_simp
        clear hHeld
        have hHeld : (fun w' : World => w'.cell? ⟨W.heap.size, 0, none⟩ = some (.int .i64 rest) ∧ w'.cell? ⟨w.heap.size, 0, none⟩ = some (.pointer (some ⟨c.p, 0, none⟩)) ∧ w'.cell? ⟨c.p, 7, none⟩ = some (.slice (some ⟨g, 0, none⟩) s2.nodes.length cp) ∧ w'.cell? ⟨g, q * 9 + 8, none⟩ = some (.int .i64 nd.pos)) (v1.alloc (ndO ⟨n.kind, q, n.b, n.c, n.d, n.text, n.n, n.ty, n.pos⟩)).drew := by
          dsimp only
          go_keep
        refine hK1.out _ _ (fun _ => hHeld) ?_
        clear hK1 K1
        refine anyL_take (i := 13) (v := ?_) rfl rfl (by kernel_rfl) (by kernel_rfl) (by kernel_rfl) (by kernel_rfl) (fun _ _ _ h => h) (Or.inl ⟨by rfl, ?_⟩) hHeld ?_
        rotate_left
        · (intro w' hSw; (try dsimp only at hSw); go_simp; first | done | with_reducible rfl)
        simp only [Act.put]
        refine anyL_one (i := 14) (by kernel_rfl) rfl (fun K1 hK1 => ?_)
        go_simp
        clear hHeld
        have hHeld : (fun w' : World => w'.cell? ⟨W.heap.size, 0, none⟩ = some (.int .i64 rest) ∧ w'.cell? ⟨w.heap.size, 0, none⟩ = some (.pointer (some ⟨c.p, 0, none⟩)) ∧ w'.cell? ⟨c.p, 7, none⟩ = some (.slice (some ⟨g, 0, none⟩) s2.nodes.length cp) ∧ w'.cell? ⟨g, q * 9 + 8, none⟩ = some (.int .i64 nd.pos)) (v1.alloc (ndO ⟨n.kind, q, rest, n.c, n.d, n.text, n.n, n.ty, n.pos⟩)).drew := by
          dsimp only
          go_keep
        refine hK1.out _ _ (fun _ => hHeld) ?_
        clear hK1 K1
        refine anyL_take (i := 15) (v := ?_) rfl rfl (by kernel_rfl) (by kernel_rfl) (by kernel_rfl) (by kernel_rfl) (fun _ _ _ h => h) (Or.inl ⟨by rfl, ?_⟩) hHeld ?_
        rotate_left
        · (intro w' hSw; (try dsimp only at hSw); go_simp; first | done | with_reducible rfl)
        simp only [Act.put]
        refine anyL_one (i := 16) (by kernel_rfl) rfl (fun K1 hK1 => ?_)
        go_simp
        refine hK1.out _ _ (fun h => absurd rfl h) ?_
        clear hK1 K1 hHeld
        refine anyL_done (by kernel_rfl) ?_ _
        have C1 := Lib.hid (B1.out.alloc (ndO ⟨n.kind, q, rest, n.c, n.d, n.text, n.n, n.ty, nd.pos⟩)).drew
        have HR' : Hid ((addM ⟨n.kind, q, rest, n.c, n.d, n.text, n.n, n.ty, nd.pos⟩ s2).bind (fun r s1 => listRM (xs.reverse.drop (j + 1)) r s1) = RR) := Lib.hid (by rw [HN2.out]; exact HR.out)
        gi_wp2_with (gi_at_call 71; refine (CallsIn.inRound l2 (callsIn_wide.2 (add_q (nd := ⟨n.kind, q, rest, n.c, n.d, n.text, n.n, n.ty, nd.pos⟩) C1.out (ne_out HR' HNN)))).mono ?_; rintro e v2 hz; rcases hz.split HR' with ⟨r2, s3, rfl, K2, HQ, ha⟩ | ⟨er, sx, rfl, hrr, hb⟩; rotate_left; (exact ⟨rfl, er, sx, rfl, hrr, hb.sub (by intro x hx; simp only [List.mem_append, List.mem_cons, List.not_mem_nil, or_false] at hx ⊢; rcases hx with hx | rfl <;> simp [*])⟩); clear hz; obtain ⟨cr2, cfr2⟩ := nv1 ha.drop.loc; have B2 := Lib.hid ha; clear ha)
        refine ⟨s3, _, ⟨_, rfl, r2, rfl, HQ⟩, (B2.out.drop.set 0 (.int .i64 r2)).perm (List.perm_append_comm (l₁ := (W.heap.size, .cells #[.int .i64 r2] 3 (0, 0)) :: (W.heap.size + 1, alO (.slice a xs.length cap')) :: (D, .deferred (some [])) :: (l, o) :: (w.heap.size + 1, alO (.slice a xs.length cap')) :: (R ++ [(w.heap.size, bxO c)])) (l₂ := X))⟩
    case done2 =>
      rintro D2 o2 l3 s2 _ V ⟨rest, rfl, HL⟩ hA3
      have hls := HL.out
      rw [List.drop_eq_nil_of_le (by simp)] at hls
      unfold listRM at hls
      have hcr : V.heap[W.heap.size]? = some (.cells #[.int .i64 rest] 3 (0, 0)) := hA3.mem (x := (W.heap.size, .cells #[.int .i64 rest] 3 (0, 0))) (by simp)
      obtain ⟨cr, cfr⟩ := nv1 hcr
      have HA5 := Lib.hid hA3
      have HR := Lib.hid hls
      clear hcr hA3 HL hs hls
      refine wpAt_of_wpIn (n := 0) ?_
      gi_wp2
      have hK := HA5.out.loc
      refine ⟨by simp, .inl ⟨_, _, rfl, run_takeDeferred hK, ?_⟩⟩
      have hA6 := HA5.out.putObj (.deferred none)
      have hK2 := hA6.mem (x := (D, .deferred (some []))) (by simp)
      refine ⟨by simp, .inl ⟨_, _, rfl, run_takeDeferred hK2, ?_⟩⟩
      obtain ⟨L9, hA7⟩ := hA6.putMem (b := D) (o := .deferred (some [])) (by simp) (.deferred none)
      exact ⟨_, results_tmp rfl _ _ _, AnsR.end1 HR hA7⟩
    case bad2 =>
      intro D2 er s2 V hD2 hz hrr hb
      obtain ⟨_, _, _, _, hb3⟩ := id hb
      have hD : w.heap.size ≤ D := by
        have hm := HA.out
        obtain ⟨_, _, _, _, h3, _⟩ := hm
        exact (h3 (D, .deferred (some [])) (by simp)).2.2
      have hDD : D ≠ D2 := hz (D, .deferred (some [])) (by simp)
      refine ⟨by simp, .inl ⟨_, _, rfl, run_takeDeferred (hb3 (D2, .deferred (some [])) (by simp)), ?_⟩⟩
      have hb4 : Bad w c vn vt E s2 er [(D, .deferred (some []))] (V.putObj D2 (.deferred none)) := hb.putObj hD2 hpz (by intro x hx; simp at hx; subst hx; exact ⟨by simp, hDD⟩)
      obtain ⟨_, _, _, _, hb5⟩ := id hb4
      refine ⟨by simp, .inl ⟨_, _, rfl, run_takeDeferred (hb5 (D, .deferred (some [])) (by simp)), ?_⟩⟩
      rw [hrr]
      exact AnsR.err (α := Int) (val := iV) (hb4.putObj (L' := []) hD hpz (by simp))
  case bad1 =>
    intro D er s1 W hr1 hb hD
    subst hr1
    obtain ⟨_, _, _, _, hb3⟩ := id hb
    refine ⟨by simp, .inl ⟨_, _, rfl, run_takeDeferred (hb3 (D, .deferred (some [])) (by simp)), ?_⟩⟩
    have hrr : RR = .bad er s1 := hRR.symm
    rw [hrr]
    exact AnsR.err (α := Int) (val := iV) (hb.putObj (L' := []) hD hpz (by simp))
end Go.Proofs.YtaamllikceaifaaGreatDoor
