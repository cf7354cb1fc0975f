/-
  A range over a function of the parser: what an iterator owes, and the law of the statement.
  The parser's iterators.
  commas, slices.Backward at ints, and a range over it.
  A region that draws its order, in a round of a range over a function: as everywhere.
  The contract of list.
  Contracts of simple, statement and block.
  Contracts of commas and whole.
  Contracts of program, newParser, Parse and Read.
-/
import Derived.Test.YtaamllikceaifaaGreatDoorExpr
import Derived.RangeFuncNested
import Derived.RangeFuncBound
import Derived.RangeFuncCalls
import Derived.RangeFuncLeaves
import Derived.Shelf.RegionOpen
import Derived.OwnWalkIn
import Derived.TacticsInMore
import Derived.LoopNIn
import Derived.LoopIn
import Derived.RegionIn
import Derived.Maps.AppendAt
import Derived.Sort.LoopGhostIn
import Derived.Test.YtaamllikceaifaaGreatDoorLast
import Derived.Maps.OwnIn
import Derived.Recover
import Derived.RegionCalls
import Derived.Deep.RegionWith
import Derived.Deep.RegionHeld3
namespace Go.Proofs.YtaamllikceaifaaGreatDoor
open Go.RowKit Sp Tr Go.Shelf
set_option linter.unusedVariables false

section
variable {w0 w : World} {c : PC} {v u : Value} {E : PE} {s s' : S} {L : List (Nat × Obj)}
theorem At.putObj {b : Nat} {o : Obj} (h : At w0 c v u E s ((b, o) :: L) w) (o' : Obj) : At w0 c v u E s ((b, o') :: L) (w.putObj b o') :=
  h.put (World.putObj_heap_same (lt_heap h.loc)) (fun k hk => World.putObj_heap_other hk) (by simp) rfl rfl rfl

/-- What an iterator owes: it hands on xs, one by one; J: what the loop's own blocks hold when so much has come. -/
def IterOK (w0 : World) (c : PC) (v u : Value) (E : PE) (fn : Nat) (first cap : Array Value) (s s' : S) (xs : List Int) : Prop :=
  ∀ (n l : Nat) (J : List Int → List (Nat × Obj) → Prop) (L : List (Nat × Obj)) (W : World),
    (∀ pre x L W s1, J pre L → pre.length < 1000000 → At w0 c v u E s1 L W → YieldAt Fence.wide (n - 1) Tryz.prog l #[.int .i64 x] W fun e W' => e = .returned (.bool true) ∧ ∃ L', J (pre ++ [x]) L' ∧ At w0 c v u E s1 L' W') →
    J [] L → At w0 c v u E s L W →
    CallsIn Fence.wide n Tryz.prog fn (first ++ #[.func (.yield l) #[] #[]] ++ cap) W fun e W' => (∃ r, e = .returned r) ∧ ∃ L', J xs L' ∧ At w0 c v u E s' L' W'
/-- How a round's body may end. -/
def endsOK (w0 : World) (c : PC) (v u : Value) (E : PE) (s : S) (K : List (Nat × Obj) → Prop) : Exit → Act → World → Prop
  | .normal, _, W => ∃ L, K L ∧ At w0 c v u E s L W
  | _, _, _ => False
theorem range_at {g : Operand} {p : Tmp} {assign body : Code} {Q : Exit → Act → World → Prop} {a : Act} {fn : Nat} {first cap : Array Value} {xs : List Int}
    (hi : IterOK w0 c v u E fn first cap s s' xs) (eg : ∀ args w, (callFunc fn args).run Tryz.prog w = .ok (.enter fn args) w) (hg : a.eval g = .func (.func fn) first cap) (hA : At w0 c v u E s L w)
    (J : List Int → List (Nat × Obj) → Prop) (hJ : J [] L) (a1 : Int → Act)
    (hassign : ∀ (l : Nat) (x : Int) (W : World) (K : Act → World → Prop), K (a1 x) W → assign.wpIn (Fence.wide.inRound l) 0 Tryz.prog (Exit.then K (fun _ _ _ => False)) { tmps := a.tmps.setIfInBounds p (.int .i64 x), defers := [] } W)
    (hbody : ∀ (l : Nat) (pre : List Int) (x : Int) (X L : List (Nat × Obj)) (W : World) (s1 : S), J pre L → pre.length < 1000000 → At w0 c v u E s1 (X ++ L) W → body.wpIn (Fence.wide.inRound l) 0 Tryz.prog (endsOK w0 c v u E s1 fun L' => ∃ L1, L' = X ++ L1 ∧ J (pre ++ [x]) L1) (a1 x) W)
    (hdone : ∀ (D : Nat) (o : Obj) (l : Nat) (L : List (Nat × Obj)) (W : World), J xs L → At w0 c v u E s' ((D, .deferred (some [])) :: (l, o) :: L) W → Q .normal { a with defers := { target := .collected D, args := #[] } :: a.defers } W) :
    (Code.rangeFunc g #[p] assign body).wpIn Fence.wide 0 Tryz.prog Q a w := by
  refine wpIn_rangeFunc ?_
  intro f hf
  obtain ⟨rec, hrec⟩ : ∃ rec : LoopState → Option Code → Loop, rec = fun st pe => { state := st, pending := pe, fn := f, tmps := a.tmps, params := #[p], assign, body, defers := w.heap.size } := ⟨_, rfl⟩
  obtain ⟨W1, hW1⟩ : ∃ W1 : World, (w.alloc (.deferred (some []))).alloc (.loop (rec .ready none)) = W1 := ⟨_, rfl⟩
  have hA1 : At w0 c v u E s ((w.heap.size + 1, .loop (rec .ready none)) :: (w.heap.size, .deferred (some [])) :: L) W1 := by
    have := (hA.alloc (.deferred (some []))).alloc (.loop (rec .ready none))
    rw [World.size_alloc, hW1] at this
    exact this
  refine ⟨w.heap.size + 1, [{ target := .collected w.heap.size, args := #[] }], W1, { target := .fn (.func fn) cap, args := first ++ #[.func (.yield (w.heap.size + 1)) #[] #[]] }, W1, fn,
    first ++ #[.func (.yield (w.heap.size + 1)) #[] #[]] ++ cap, W1, ?_, ?_, ?_, ?_, fun h => by simp [Fence.wide] at h, ?_⟩
  · rw [← hW1, hrec]; exact run_enterLoop_outer _ _ _ _ _
  · simp only [resolve, hg]
    simp [go_sem]
  · intro f' hf'; trivial
  · simp [invoke, go_sem, eg]
  · refine (hi (0 - 1) (w.heap.size + 1) (fun pre L' => ∃ L1, L' = (w.heap.size + 1, .loop (rec .ready none)) :: (w.heap.size, .deferred (some [])) :: L1 ∧ J pre L1) _ _ ?_ ⟨L, rfl, hJ⟩ hA1).mono ?_
    · rintro pre x _ W s1 ⟨L1, rfl, hj⟩ hlen hA2
      have hl := hA2.loc
      have hy := run_yield (P := Tryz.prog) (args := #[.int .i64 x]) hl (by rw [hrec]; rfl)
      have hp : (rec .ready none).tmps = a.tmps ∧ (rec .ready none).params = #[p] ∧ (rec .ready none).assign = assign ∧ (rec .ready none).body = body ∧ (rec .ready none).fn = f ∧ (rec .ready none).state = .ready := by rw [hrec]; exact ⟨rfl, rfl, rfl, rfl, rfl, rfl⟩
      obtain ⟨p1, p2, p3, p4, p5, p6⟩ := hp
      rw [p1, p2, p3, p4, p5] at hy
      have hz : (#[p].zip #[(Value.int .i64 x)]).foldl (fun (tmps : Array Value) (t, a) => tmps.setIfInBounds t a) a.tmps = a.tmps.setIfInBounds p (.int .i64 x) := by simp
      rw [hz] at hy
      refine ⟨f, _, assign, body, hy, roundIn_of_wpIn trivial ?_⟩
      refine hassign _ x W _ ?_
      refine ⟨_, run_beginRound hl p6, ?_⟩
      have hA3 := hA2.putObj (.loop { rec .ready none with state := .busy })
      refine wpIn_mono (hbody _ pre x [(w.heap.size + 1, .loop { rec .ready none with state := .busy }), (w.heap.size, .deferred (some []))] L1 _ s1 hj hlen hA3) ?_
      rintro e a3 W3 hp
      cases e with
      | normal =>
        obtain ⟨_, ⟨L2, rfl, hj2⟩, hA4⟩ := hp
        have hl4 : W3.heap[w.heap.size + 1]? = some (.loop { rec .ready none with state := .busy }) := hA4.loc
        refine ⟨_, _, run_endRound none hl4, rfl, _, ⟨L2, rfl, hj2⟩, ?_⟩
        have := At.putObj (L := (w.heap.size, .deferred (some [])) :: L2) hA4 (.loop (rec .ready none))
        rw [hrec] at this ⊢
        exact this
      | ret => exact hp.elim
      | exit id => exact hp.elim
      | goto t => exact hp.elim
      | panic ch => exact hp.elim
      | outgrown => exact hp.elim
    · rintro e W2 ⟨⟨r, rfl⟩, _, ⟨L1, rfl, hj⟩, hA3⟩
      have hl := hA3.loc
      have hb : (rec .ready none).state ≠ .busy := by rw [hrec]; simp
      have h := run_endLoop (P := Tryz.prog) hl hb
      rw [hrec] at h
      exact ⟨none, _, h, hdone _ _ _ _ _ hj ((hA3.putObj _).perm (List.Perm.swap ..))⟩

theorem At.old {b : Nat} {o : Obj} (h : At w0 c v u E s L w) (hb : w0.heap[b]? = some o) (ho : Out c v u b) : w.heap[b]? = some o := by
  obtain ⟨vn, vt, h1, h2, h3, h4⟩ := h
  exact (h2.kept ho (lt_heap hb)).trans hb
/-- What a slice of ints of the method's own holds; R: its block. -/
def RowR (w0 : World) (va : Value) (pre : List Int) (R : List (Nat × Obj)) : Prop :=
  (va = .slice none 0 0 ∧ pre = [] ∧ R = []) ∨ ∃ g cap cur, va = .slice (some ⟨g, 0, none⟩) pre.length cap ∧ R = [(g, .cells cur 3 (0, 0))] ∧ pre.length ≤ cap ∧ cap ≤ maxLen ∧ cur.size = cap ∧ cur.toList.take pre.length = pre.map (Value.int .i64)
theorem At.row {va : Value} {pre : List Int} {R : List (Nat × Obj)} (h : At w0 c v u E s L w) (hr : RowR w0 va pre R) (hR : ∀ x ∈ R, x ∈ L) : w.ownsRow w0.heap.size 3 1 va pre.length (pre.map (Value.int .i64)) := by
  obtain ⟨vn, vt, h1, h2, h3, h4⟩ := h
  rcases hr with ⟨rfl, rfl, rfl⟩ | ⟨g, cap, cur, rfl, rfl, k1, k2, k3, k4⟩
  · exact ⟨rfl, .inl ⟨rfl, rfl⟩⟩
  · have hm := h3 _ (hR _ (List.mem_singleton.2 rfl))
    exact ⟨by simp, .inr ⟨g, cap, cur, rfl, hm.2.2, hm.1, k1, k2, by omega, by rw [Nat.mul_one]; exact k4⟩⟩
theorem At.appended {W w2 w1 : World} {b g cap H : Nat} {va : Value} {t : TypeId} {R Z : List (Nat × Obj)} {pre : List Int} {x : Int} (h : At w0 c v u E s ((b, .cells #[va] t (0, 0)) :: (R ++ Z)) W) (hr : RowR w0 va pre R)
    (hb : Below W.heap.size W w2) (hg : w2.grownBy w1 va.ownBlock) (hown : w1.ownsRow w0.heap.size 3 1 (.slice (some ⟨g, 0, none⟩) (pre.length + 1) cap) (pre.length + 1) (pre.map (Value.int .i64) ++ [.int .i64 x]))
    (hat : va.ownBlock = some g ∨ g = H) (hH : W.heap.size ≤ H) :
    ∃ R', RowR w0 (.slice (some ⟨g, 0, none⟩) (pre.length + 1) cap) (pre ++ [x]) R' ∧ At w0 c v u E s ((b, .cells #[.slice (some ⟨g, 0, none⟩) (pre.length + 1) cap] t (0, 0)) :: (R' ++ Z)) (w1.setCell ⟨b, 0, none⟩ (.slice (some ⟨g, 0, none⟩) (pre.length + 1) cap)) := by
  obtain ⟨vn, vt, h1, h2, h3, h4⟩ := h
  have hsz := hb.size
  have hsz1 := hg.size
  have hk : ∀ k, k < W.heap.size → va.ownBlock ≠ some k → w1.heap[k]? = W.heap[k]? := fun k hk hn => (hg.block k (Nat.lt_of_lt_of_le hk hsz) (Ne.symm hn)).trans (hb.block k hk)
  rw [List.map_cons, List.nodup_cons] at h4
  obtain ⟨hbn, hnd⟩ := h4
  obtain ⟨kb, ob, gb⟩ := h3 _ (List.mem_cons_self ..)
  have hbl := lt_heap kb
  have hR : ∀ k, va.ownBlock = some k → Out c vn vt k ∧ w0.heap.size ≤ k ∧ k < W.heap.size ∧ k ≠ b ∧ ∀ z ∈ Z, z.1 ≠ k := by
    intro k hv
    rcases hr with ⟨rfl, rfl, rfl⟩ | ⟨g', cap', cur, rfl, rfl, _⟩
    · simp [Value.ownBlock] at hv
    · simp [Value.ownBlock] at hv
      subst hv
      have hm := h3 (g', .cells cur 3 (0, 0)) (by simp)
      refine ⟨hm.2.1, hm.2.2, lt_heap hm.1, fun e => hbn (by simp [e]), fun z hz e => ?_⟩
      simp at hnd
      exact hnd.1 z.2 (by rw [← e]; exact hz)
  have hgo : Out c vn vt g ∧ w0.heap.size ≤ g ∧ g ≠ b ∧ ∀ z ∈ Z, z.1 ≠ g := by
    rcases hat with e | rfl
    · have := hR g e; exact ⟨this.1, this.2.1, this.2.2.2.1, this.2.2.2.2⟩
    · refine ⟨h1.fresh hH, Nat.le_trans h2.size hH, by omega, fun z hz e => ?_⟩
      have := lt_heap (h3 z (List.mem_cons_of_mem _ (List.mem_append_right _ hz))).1
      omega
  obtain ⟨og, gg, gbn, gz⟩ := hgo
  rcases hown.2 with ⟨e, _⟩ | ⟨g', cap', cur', hv', hge, hh, hle, hcm, hcs, htk⟩
  · cases e
  simp only [Value.slice.injEq, Option.some.injEq, Addr.mk.injEq] at hv'
  obtain ⟨⟨rfl, _⟩, _, rfl⟩ := hv'
  have hs : ∀ k, k ≠ b → (w1.setCell ⟨b, 0, none⟩ (.slice (some ⟨g, 0, none⟩) (pre.length + 1) cap)).heap[k]? = w1.heap[k]? := fun k hk => Below.heap_setCell _ _ _ _ (by simpa using hk)
  refine ⟨[(g, .cells cur' 3 (0, 0))], .inr ⟨g, cap, cur', by simp, rfl, by simpa using hle, hcm, by omega, by rw [Nat.mul_one] at htk; simpa using htk⟩, vn, vt, h1.keep fun k hkk hh => ?_, ⟨?_, ?_, ?_, ?_, fun k hkk hp hn ht => ?_, h2.ownN, h2.ownT⟩, fun y hy => ?_, ?_⟩
  · have hne : k ≠ b := by
      rintro rfl
      rcases hh with e | e | e | e | e
      · exact ob.p e
      · exact ob.g e
      · exact ob.n e
      · exact ob.t e
      · exact ob.z e
    rw [hs k hne]
    refine hk k hkk fun e => ?_
    have o := (hR k e).1
    rcases hh with e | e | e | e | e
    · exact o.p e
    · exact o.g e
    · exact o.n e
    · exact o.t e
    · exact o.z e
  · exact hg.os.trans (hb.os.trans h2.os)
  · exact hg.tape.trans (hb.tape.trans h2.tape)
  · exact hg.output.trans (hb.output.trans h2.output)
  · have := h2.size; simp [World.setCell]; omega
  · have hg1 : w0.heap.size ≤ b := gb
    rw [hs k (by omega), hk k (by have := h2.size; omega) (fun e => by have := (hR k e).2.1; omega)]
    exact h2.block k hkk hp hn ht
  · rcases List.mem_cons.1 hy with rfl | hy2
    · exact ⟨cells_set ((hk b hbl (fun e => (hR b e).2.2.2.1 rfl)).trans kb) 0 _, ob, gb⟩
    · rcases List.mem_cons.1 hy2 with rfl | hy3
      · exact ⟨(hs _ gbn).trans hh, og, gg⟩
      · have hm := h3 y (List.mem_cons_of_mem _ (List.mem_append_right _ hy3))
        have hyb : y.1 ≠ b := fun e => hbn (List.mem_map.2 ⟨y, List.mem_append_right _ hy3, e⟩)
        refine ⟨(hs _ hyb).trans ((hk y.1 (lt_heap hm.1) (fun e => (hR y.1 e).2.2.2.2 y hy3 rfl)).trans hm.1), hm.2⟩
  · rw [List.map_cons, List.nodup_cons]
    simp only [List.singleton_append, List.map_cons, List.nodup_cons]
    refine ⟨fun hm => ?_, fun hm => ?_, ?_⟩
    · rcases List.mem_cons.1 hm with e | hm
      · exact gbn e.symm
      · obtain ⟨z, hz, e⟩ := List.mem_map.1 hm
        exact hbn (List.mem_map.2 ⟨z, List.mem_append_right _ hz, e⟩)
    · obtain ⟨z, hz, e⟩ := List.mem_map.1 hm
      exact gz z hz e
    · rw [List.map_append] at hnd
      exact (List.nodup_append.1 hnd).2.1
end
end Go.Proofs.YtaamllikceaifaaGreatDoor
namespace Go.Proofs.YtaamllikceaifaaGreatDoor
open Go.RowKit Sp Tr Go.Shelf
set_option linter.unusedVariables false

section
variable {w0 w : World} {c : PC} {v u : Value} {E : PE} {s s' : S} {L : List (Nat × Obj)}

theorem wide_no (n : Nat) : Fence.wide.depth.isSome = true → 1 ≤ n := fun h => by simp [Fence.wide] at h
theorem in_wide {n m f : Nat} {args : Array Value} {w : World} {R R' : Ending → World → Prop} (h : Calls Tryz.prog f args w R) (hr : ∀ e w', R e w' → R' e w') : Fence.wide.fn f ∧ (Fence.wide.depth.isSome = true → 1 ≤ m) ∧ CallsIn Fence.wide n Tryz.prog f args w R' :=
  ⟨trivial, wide_no _, (callsIn_wide.2 h).mono hr⟩
theorem stsF_len {m : S → Option (Int × S)} (k : Nat) : ∀ (s s' : S) (xs : List Int), stsF k m E s = some (xs, s') → xs.length < k := by
  induction k with
  | zero => intro s s' xs h; simp [stsF] at h
  | succ k ih =>
    intro s s' xs h
    unfold stsF at h
    split at h
    · injection h with h; injection h with h1 h2; subst h1; simp
    · obtain ⟨r, _, h2⟩ := Option.bind_eq_some_iff.1 h
      obtain ⟨⟨q1, q2⟩, h3, h4⟩ := Option.bind_eq_some_iff.1 h2
      injection h4 with h4; injection h4 with h5 h6; subst h5
      have := ih _ _ _ h3
      simp; omega
theorem wholesF_len {m : S → Option (Int × S)} (k : Nat) : ∀ (s s' : S) (xs : List Int), wholesF k m E s = some (xs, s') → xs.length < k := by
  induction k with
  | zero => intro s s' xs h; simp [wholesF] at h
  | succ k ih =>
    intro s s' xs h
    unfold wholesF at h
    split at h
    · obtain ⟨r, _, h2⟩ := Option.bind_eq_some_iff.1 h
      obtain ⟨⟨q1, q2⟩, h3, h4⟩ := Option.bind_eq_some_iff.1 h2
      injection h4 with h4; injection h4 with h5 h6; subst h5
      have := ih _ _ _ h3
      simp; omega
    · injection h with h; injection h with h1 h2; subst h1; simp
theorem statements_iter {k : Nat} {m : S → Option (Int × S)} {xs : List Int} (h0 : Reads c E 140 m) (hk : k ≤ 1000000) (hs : stsF k m E s = some (xs, s')) : IterOK w0 c v u E 129 #[.pointer (some ⟨c.p, 0, none⟩)] #[] s s' xs := by
  intro n l J L W hY hJ hA
  have hlen := stsF_len k s s' xs hs
  have eg : ∀ args w, (callFunc 140 args).run Tryz.prog w = .ok (.enter 140 args) w := enters_of Tryz.func140 (by kernel_rfl) rfl
  have HS := Lib.hid hs; clear hs
  have HA := Lib.hid hA; clear hA
  have HY := Lib.hid hY; clear hY
  have hw : ∀ f, Fence.wide.fn f := fun _ => trivial
  have hd : Fence.wide.depth = none := rfl
  refine callsIn_of_wp Tryz.func129 rfl trivial ?_ rfl
  simp only [Tryz.ntmps129, List.size_toArray, List.length_cons, List.length_nil, Nat.reduceAdd, Nat.reduceSub, Array.replicate_succ, Array.replicate_zero, List.push_toArray, List.append_toArray, List.nil_append, List.cons_append]
  gi_wp2
  gi_loopg [] k (fun g wr => ∃ (pre rest : List Int) (s1 : S) (L1 : List (Nat × Obj)), xs = pre ++ rest ∧ Hid (stsF g m E s1 = some (rest, s')) ∧ Hid (J pre L1) ∧ Hid (At w0 c v u E s1 L1 wr))
  case atStart => exact ⟨[], xs, s, L, rfl, HS, Lib.hid hJ, HA⟩
  case round =>
    clear HA HS hJ
    obtain ⟨pre, rest, s1, L1, rfl, HS, HJ, A0⟩ := hrel
    cases gk with
    | zero => exact absurd HS.out (by simp [stsF])
    | succ g =>
      have hs := HS.out
      unfold stsF at hs
      by_cases hb : isT E s1 [125] = true
      · rw [if_pos hb] at hs
        injection hs with h1
        injection h1 with h2 h3
        subst h2 h3
        have HB := Lib.hid hb; clear hb HS
        gi_wp2_with (gi_at_call 94; refine (callsIn_wide.2 (is_a (Hid.out (by assumption)) HB.out)).mono ?_; rintro e v1 ⟨rfl, ha⟩; have B1 := Lib.hid ha; clear ha)
        go_end0
        exact ⟨⟨_, rfl⟩, L1, by rw [List.append_nil]; exact HJ.out, B1.out⟩
      · rw [if_neg hb] at hs
        obtain ⟨⟨x, s2⟩, h1, h2⟩ := Option.bind_eq_some_iff.1 hs
        obtain ⟨⟨q1, q2⟩, h3, h4⟩ := Option.bind_eq_some_iff.1 h2
        injection h4 with h4
        injection h4 with h5 h6
        subst h5 h6
        have HB := Lib.hid (bfalse hb)
        have H1 := Lib.hid h1
        have H3 := Lib.hid h3
        have hl : pre.length < 1000000 := by simp at hlen; omega
        clear hb HS hs h1 h2 h3
        gi_wp2_with (first | (gi_at_call 94; refine (callsIn_wide.2 (is_a (Hid.out (by assumption)) HB.out)).mono ?_; rintro e v1 ⟨rfl, ha⟩; have B1 := Lib.hid ha; clear ha) | (gi_at_call 139; refine (callsIn_wide.2 (deeper_a h0 eg (Hid.out (by assumption)) H1.out)).mono ?_; rintro e v2 ⟨rfl, ha⟩; have B2 := Lib.hid ha; obtain ⟨fy, tmpsy, asy, boy, hy, hR⟩ := HY.out pre x L1 v2 s2 HJ.out hl ha; clear ha))
        refine hR.mono ?_
        rintro e W2 ⟨rfl, L2, hj, ha⟩
        have B3 := Lib.hid ha
        have HJ2 := Lib.hid hj
        clear ha hj hy
        gi_wp2
        gi_roundg g
        case rel => exact ⟨pre ++ [x], q1, s2, L2, by simp, H3, HJ2, B3⟩
        case measure => omega
theorem wholes_iter {k : Nat} {m : S → Option (Int × S)} {xs : List Int} (h0 : Reads c E 72 m) (hk : k ≤ 1000000) (hs : wholesF k m E s = some (xs, s')) : IterOK w0 c v u E 50 #[.pointer (some ⟨c.p, 0, none⟩)] #[] s s' xs := by
  intro n l J L W hY hJ hA
  have hlen := wholesF_len k s s' xs hs
  have HS := Lib.hid hs; clear hs
  have HA := Lib.hid hA; clear hA
  have HY := Lib.hid hY; clear hY
  have hw : ∀ f, Fence.wide.fn f := fun _ => trivial
  have hd : Fence.wide.depth = none := rfl
  have hmix : Tryz.prog.follows .mixedOrders = true := by kernel_rfl
  refine callsIn_of_wp Tryz.func50 rfl trivial ?_ rfl
  simp only [Tryz.ntmps50, List.size_toArray, List.length_cons, List.length_nil, Nat.reduceAdd, Nat.reduceSub, Array.replicate_succ, Array.replicate_zero, List.push_toArray, List.append_toArray, List.nil_append, List.cons_append]
  gi_wp2
  gi_loopg [] k (fun g wr => ∃ (pre rest : List Int) (s1 : S) (L1 : List (Nat × Obj)), xs = pre ++ rest ∧ Hid (wholesF g m E s1 = some (rest, s')) ∧ Hid (J pre L1) ∧ Hid (At w0 c v u E s1 L1 wr))
  case atStart => exact ⟨[], xs, s, L, rfl, HS, Lib.hid hJ, HA⟩
  case round =>
    clear HA HS hJ
    obtain ⟨pre, rest, s1, L1, rfl, HS, HJ, A0⟩ := hrel
    have A0' := A0.out
    obtain ⟨vn, vt, hP, _⟩ := A0'
    obtain ⟨d0, _, _, _, _, d5, _, _, _, _⟩ := hP.cells
    have htl := hP.tl
    have hrd := hP.rd
    unfold big at hrd
    clear hP
    cases gk with
    | zero => exact absurd HS.out (by simp [wholesF])
    | succ g =>
      have hs := HS.out
      unfold wholesF at hs
      by_cases hb : s1.read < E.toks.length
      · rw [if_pos hb] at hs
        obtain ⟨⟨x, s2⟩, h1, h2⟩ := Option.bind_eq_some_iff.1 hs
        obtain ⟨⟨q1, q2⟩, h3, h4⟩ := Option.bind_eq_some_iff.1 h2
        injection h4 with h4
        injection h4 with h5 h6
        subst h5 h6
        have e1 : decide ((s1.read : Int) < (E.toks.length : Int)) = true := by simpa using hb
        have e2 : (s1.read : Int) < (E.toks.length : Int) := by omega
        have H1 := Lib.hid h1
        have H3 := Lib.hid h3
        have hl : pre.length < 1000000 := by simp at hlen; omega
        clear hb HS hs h1 h2 h3
        have A0d := Lib.hid A0.out.drew
        gi_wp2
        gi_region_with_o (first | (gi_at_call 72; refine (callsIn_wide.2 (h0.a (Hid.out (by assumption)) H1.out)).mono ?_; rintro e v2 ⟨rfl, ha⟩; have B2 := Lib.hid ha; obtain ⟨fy, tmpsy, asy, boy, hy, hR⟩ := HY.out pre x L1 v2 s2 HJ.out hl ha; clear ha) | (refine hR.mono ?_; rintro e W2 ⟨rfl, L2, hj, ha⟩; have B3 := Lib.hid ha; have HJ2 := Lib.hid hj; clear ha hj hy hR))
        all_goals
          gi_wp2
          gi_roundg g
          case rel => exact ⟨pre ++ [x], q1, s2, L2, by simp, H3, HJ2, B3⟩
          case measure => omega
      · rw [if_neg hb] at hs
        injection hs with h1
        injection h1 with h2 h3
        subst h2 h3
        have e1 : decide ((s1.read : Int) < (E.toks.length : Int)) = false := by simpa using hb
        have e2 : decide (s1.read < E.toks.length) = false := by simpa using hb
        have A0d := Lib.hid A0.out.drew
        clear hb HS
        gi_wp2
        refine wpIn_wide.2 ?_
        go_quiet (fail)
        gi_wp2
        go_end0
        exact ⟨⟨_, rfl⟩, L1, by rw [List.append_nil]; exact HJ.out, A0.out.below (drN (Below.refl _ _) _)⟩
end
end Go.Proofs.YtaamllikceaifaaGreatDoor
namespace Go.Proofs.YtaamllikceaifaaGreatDoor
open Go.RowKit Sp Tr Go.Shelf
set_option linter.unusedVariables false

section
variable {w0 w : World} {c : PC} {v u : Value} {E : PE} {s s' : S} {L : List (Nat × Obj)}

theorem back_new (a : Option Addr) (n m : Nat) (w : World) : Calls Tryz.prog 69 #[.slice a n m] w fun e w' => e = .returned (.func (.func 92) #[] #[.pointer (some ⟨w.heap.size, 0, none⟩)]) ∧ w' = w.alloc (.cells #[.slice a n m] 37) := by
  have hmf : ∀ (fn : Fn) (first cap : Array Value) (w : World), (Instr.makeFunc fn first cap).run Tryz.prog w = .ok (.func fn first cap) w := fun _ _ _ _ => rfl
  go_enter Tryz.func69, Tryz.ntmps69
  go_wp2
  go_ret
  exact ⟨rfl, rfl⟩
/-- What lies there for a range from behind: the closure's variable, and the row. -/
def BackM (w0 : World) (bk : Nat) (sv : Value) (xs : List Int) (L : List (Nat × Obj)) : Prop :=
  (bk, .cells #[sv] 37 (0, 0)) ∈ L ∧ ∃ R, RowR w0 sv xs R ∧ ∀ x ∈ R, x ∈ L
set_option maxHeartbeats 1000000 in
theorem back_iter {bk : Nat} {sv : Value} {xs : List Int} (n l : Nat) (J : Nat → S → List (Nat × Obj) → Prop) (hM : ∀ j s L, J j s L → BackM w0 bk sv xs L) (W : World)
    (hY : ∀ j (k : Nat) x s1 L W, J j s1 L → k + 1 + j = xs.length → xs[k]? = some x → At w0 c v u E s1 L W → YieldAt Fence.wide (n - 1) Tryz.prog l #[.int .i64 k, .int .i64 x] W fun e W' => e = .returned (.bool true) ∧ ∃ s2 L', J (j + 1) s2 L' ∧ At w0 c v u E s2 L' W')
    (hJ : J 0 s L) (hA : At w0 c v u E s L W) (hlen : xs.length ≤ 1000000) :
    CallsIn Fence.wide n Tryz.prog 92 #[.func (.yield l) #[] #[], .pointer (some ⟨bk, 0, none⟩)] W fun e W' => (∃ r, e = .returned r) ∧ ∃ s2 L', J xs.length s2 L' ∧ At w0 c v u E s2 L' W' := by
  have hw : ∀ f, Fence.wide.fn f := fun _ => trivial
  have hd : Fence.wide.depth = none := rfl
  obtain ⟨m1, R, hR, hRL⟩ := hM _ _ _ hJ
  have cb := (nv1 (hA.mem m1)).1
  obtain ⟨a, cap, rfl⟩ := row_slice (hA.row hR hRL)
  have HA := Lib.hid hA; clear hA
  have HY := Lib.hid hY; clear hY
  have HJ0 := Lib.hid hJ
  have HM := Lib.hid hM; clear hM
  clear m1 hR hRL hJ
  refine callsIn_of_wp Tryz.func92 rfl trivial ?_ rfl
  simp only [Tryz.ntmps92, List.size_toArray, List.length_cons, List.length_nil, Nat.reduceAdd, Nat.reduceSub, Array.replicate_succ, Array.replicate_zero, List.push_toArray, List.append_toArray, List.nil_append, List.cons_append]
  gi_wp2
  gi_loopg [3] xs.length (fun g i wr => ∃ (j : Nat) (s1 : S) (L1 : List (Nat × Obj)), j + g = xs.length ∧ i = .int .i64 ((g : Int) - 1) ∧ Hid (J j s1 L1) ∧ Hid (At w0 c v u E s1 L1 wr))
  case atStart => exact ⟨0, s, L, by omega, rfl, HJ0, HA⟩
  case round =>
    clear HA HJ0 cb
    obtain ⟨j, s1, L1, hj, rfl, HJ, A0⟩ := hrel
    cases gk with
    | zero =>
      have e0 : decide ((0 : Int) ≤ ((0 : Nat) : Int) - 1) = false := by decide
      gi_wp2
      go_end0
      exact ⟨⟨_, rfl⟩, s1, L1, (show j = xs.length by omega) ▸ HJ.out, A0.out⟩
    | succ k =>
      obtain ⟨m1, R, hR, hRL⟩ := HM.out _ _ _ HJ.out
      have cb := (nv1 (A0.out.mem m1)).1
      obtain ⟨x, hx⟩ : ∃ x, xs[k]? = some x := ⟨_, List.getElem?_eq_getElem (by omega)⟩
      have hrow := A0.out.row hR hRL
      obtain ⟨g0, cap0, hg, _, _⟩ := hrow.form (by omega)
      simp only [Value.slice.injEq] at hg
      obtain ⟨rfl, _, rfl⟩ := hg
      have cx := hrow.cells (g := g0) rfl k (.int .i64 x) (by simp [hx])
      have hadd : (⟨g0, 0, none⟩ : Addr).add k = ⟨g0, k, none⟩ := by unfold Addr.add; split <;> simp_all
      rw [hadd] at cx
      obtain ⟨fy, tmpsy, asy, boy, hy, hRd⟩ := HY.out j k x s1 L1 wr HJ.out (by omega) hx A0.out
      have e0 : (((k + 1 : Nat) : Int) - 1) = (k : Int) := by omega
      rw [e0]
      have q0 : (0 : Int) ≤ (k : Int) := by omega
      have q1 : (k : Int) < (xs.length : Int) := by omega
      clear hrow m1 hR hRL hx hadd
      gi_wp2
      refine hRd.mono ?_
      rintro e W2 ⟨rfl, s2, L2, hj2, ha⟩
      have HJ2 := Lib.hid hj2
      have A2 := Lib.hid ha
      obtain ⟨m2, _⟩ := HM.out _ _ _ hj2
      have cb2 := (nv1 (ha.mem m2)).1
      clear hj2 ha hy m2
      gi_wp2
      gi_roundg k
      case rel => exact ⟨j + 1, s2, L2, by omega, rfl, HJ2, A2⟩
      case measure => omega
/-- How a round's body may end that reads on. -/
def ends2 (w0 : World) (c : PC) (v u : Value) (E : PE) (K : S → List (Nat × Obj) → Prop) : Exit → Act → World → Prop
  | .normal, _, W => ∃ s2 L, K s2 L ∧ At w0 c v u E s2 L W
  | _, _, _ => False
theorem range_back {g : Operand} {p1 p2 : Tmp} {assign body : Code} {Q : Exit → Act → World → Prop} {a : Act} {bk : Nat} {sv : Value} {xs : List Int} (hlen : xs.length ≤ 1000000)
    (hg : a.eval g = .func (.func 92) #[] #[.pointer (some ⟨bk, 0, none⟩)]) (hA : At w0 c v u E s L w)
    (J : Nat → S → List (Nat × Obj) → Prop) (hM : ∀ j s L, J j s L → BackM w0 bk sv xs L) (hJ : J 0 s L) (a1 : Nat → Int → Act)
    (hassign : ∀ (l k : Nat) (x : Int) (W : World) (K : Act → World → Prop), K (a1 k x) W → assign.wpIn (Fence.wide.inRound l) 0 Tryz.prog (Exit.then K (fun _ _ _ => False)) { tmps := (a.tmps.setIfInBounds p1 (.int .i64 k)).setIfInBounds p2 (.int .i64 x), defers := [] } W)
    (hbody : ∀ (l j k : Nat) (x : Int) (X L : List (Nat × Obj)) (W : World) (s1 : S), J j s1 L → k + 1 + j = xs.length → xs[k]? = some x → At w0 c v u E s1 (X ++ L) W → body.wpIn (Fence.wide.inRound l) 0 Tryz.prog (ends2 w0 c v u E fun s2 L' => ∃ L1, L' = X ++ L1 ∧ J (j + 1) s2 L1) (a1 k x) W)
    (hdone : ∀ (D : Nat) (o : Obj) (l : Nat) (s2 : S) (L : List (Nat × Obj)) (W : World), J xs.length s2 L → At w0 c v u E s2 ((D, .deferred (some [])) :: (l, o) :: L) W → Q .normal { a with defers := { target := .collected D, args := #[] } :: a.defers } W) :
    (Code.rangeFunc g #[p1, p2] assign body).wpIn Fence.wide 0 Tryz.prog Q a w := by
  have eg : ∀ args w, (callFunc 92 args).run Tryz.prog w = .ok (.enter 92 args) w := enters_of Tryz.func92 (by kernel_rfl) rfl
  refine wpIn_rangeFunc ?_
  intro f hf
  obtain ⟨rec, hrec⟩ : ∃ rec : LoopState → Option Code → Loop, rec = fun st pe => { state := st, pending := pe, fn := f, tmps := a.tmps, params := #[p1, p2], assign, body, defers := w.heap.size } := ⟨_, rfl⟩
  obtain ⟨W1, hW1⟩ : ∃ W1 : World, (w.alloc (.deferred (some []))).alloc (.loop (rec .ready none)) = W1 := ⟨_, rfl⟩
  have hA1 : At w0 c v u E s ((w.heap.size + 1, .loop (rec .ready none)) :: (w.heap.size, .deferred (some [])) :: L) W1 := by
    have := (hA.alloc (.deferred (some []))).alloc (.loop (rec .ready none))
    rw [World.size_alloc, hW1] at this
    exact this
  refine ⟨w.heap.size + 1, [{ target := .collected w.heap.size, args := #[] }], W1, { target := .fn (.func 92) #[.pointer (some ⟨bk, 0, none⟩)], args := #[.func (.yield (w.heap.size + 1)) #[] #[]] }, W1, 92,
    #[.func (.yield (w.heap.size + 1)) #[] #[], .pointer (some ⟨bk, 0, none⟩)], W1, ?_, ?_, ?_, ?_, fun h => by simp [Fence.wide] at h, ?_⟩
  · rw [← hW1, hrec]; exact run_enterLoop_outer _ _ _ _ _
  · simp only [resolve, hg]
    simp [go_sem]
  · intro f' hf'; trivial
  · simp [invoke, go_sem, eg]
  · refine (back_iter (s := s) (L := (w.heap.size + 1, .loop (rec .ready none)) :: (w.heap.size, .deferred (some [])) :: L) (sv := sv) (0 - 1) (w.heap.size + 1) (fun j s' L' => ∃ L1, L' = (w.heap.size + 1, .loop (rec .ready none)) :: (w.heap.size, .deferred (some [])) :: L1 ∧ J j s' L1) ?_ W1 ?_ ⟨L, rfl, hJ⟩ hA1 hlen).mono ?_
    · rintro j s1 _ ⟨L1, rfl, hj⟩
      obtain ⟨m1, R, hR, hRL⟩ := hM _ _ _ hj
      exact ⟨List.mem_cons_of_mem _ (List.mem_cons_of_mem _ m1), R, hR, fun x hx => List.mem_cons_of_mem _ (List.mem_cons_of_mem _ (hRL x hx))⟩
    · rintro j k x s1 _ W ⟨L1, rfl, hj⟩ hk hx hA2
      have hl := hA2.loc
      have hy := run_yield (P := Tryz.prog) (args := #[.int .i64 k, .int .i64 x]) hl (by rw [hrec]; rfl)
      have hp : (rec .ready none).tmps = a.tmps ∧ (rec .ready none).params = #[p1, p2] ∧ (rec .ready none).assign = assign ∧ (rec .ready none).body = body ∧ (rec .ready none).fn = f ∧ (rec .ready none).state = .ready := by rw [hrec]; exact ⟨rfl, rfl, rfl, rfl, rfl, rfl⟩
      obtain ⟨q1, q2, q3, q4, q5, q6⟩ := hp
      rw [q1, q2, q3, q4, q5] at hy
      have hz : (#[p1, p2].zip #[(Value.int .i64 k), (Value.int .i64 x)]).foldl (fun (tmps : Array Value) (t, a) => tmps.setIfInBounds t a) a.tmps = (a.tmps.setIfInBounds p1 (.int .i64 k)).setIfInBounds p2 (.int .i64 x) := by simp
      rw [hz] at hy
      refine ⟨f, _, assign, body, hy, roundIn_of_wpIn trivial ?_⟩
      refine hassign _ k x W _ ?_
      refine ⟨_, run_beginRound hl q6, ?_⟩
      have hA3 := hA2.putObj (.loop { rec .ready none with state := .busy })
      refine wpIn_mono (hbody _ j k x [(w.heap.size + 1, .loop { rec .ready none with state := .busy }), (w.heap.size, .deferred (some []))] L1 _ s1 hj hk hx hA3) ?_
      rintro e a3 W3 hp
      cases e with
      | normal =>
        obtain ⟨s2, _, ⟨L2, rfl, hj2⟩, hA4⟩ := hp
        have hl4 : W3.heap[w.heap.size + 1]? = some (.loop { rec .ready none with state := .busy }) := hA4.loc
        refine ⟨_, _, run_endRound none hl4, rfl, s2, _, ⟨L2, rfl, hj2⟩, ?_⟩
        have := At.putObj (L := (w.heap.size, .deferred (some [])) :: L2) hA4 (.loop (rec .ready none))
        rw [hrec] at this ⊢
        exact this
      | ret => exact hp.elim
      | exit id => exact hp.elim
      | goto t => exact hp.elim
      | panic ch => exact hp.elim
      | outgrown => exact hp.elim
    · rintro e W2 ⟨⟨r, rfl⟩, s2, _, ⟨L1, rfl, hj⟩, hA3⟩
      have hl := hA3.loc
      have hb : (rec .ready none).state ≠ .busy := by rw [hrec]; simp
      have h := run_endLoop (P := Tryz.prog) hl hb
      rw [hrec] at h
      exact ⟨none, _, h, hdone _ _ _ _ _ _ hj ((hA3.putObj _).perm (List.Perm.swap ..))⟩
end
end Go.Proofs.YtaamllikceaifaaGreatDoor
namespace Go.Proofs.YtaamllikceaifaaGreatDoor
open Go.RowKit

section
variable {P : Program} {ops : Array Oper} {Q : Exit → Act → World → Prop} {md : Region.Mode} {l n : Nat}
theorem rows_in {row : String} {args : Array Value} {w : World} {R : Value → World → Prop} (h : Rows P row args w R) : RowsIn (Fence.wide.inRound l) n P row args w R :=
  fun c cs _ => let ⟨v, w', r, s⟩ := h c cs; ⟨v, w', r, stepsIn_wide.2 s⟩
theorem upon_in {o : Oper} {a : Act} {next : Act → World → Prop} {r : Result Next} (h : o.upon P a next Q r) : o.uponIn (Fence.wide.inRound l) n P a next Q r := by
  have hd : (Fence.wide.inRound l).depth.isSome = true → 1 ≤ n := fun h => by simp [Fence.inRound, Fence.wide] at h
  cases r with
  | ok x w' =>
    cases x <;> simp only [Oper.upon, Oper.uponIn] at h ⊢ <;> first
      | exact h
      | exact ⟨hd, CallsIn.mono (CallsIn.inRound l (callsIn_wide.2 h)) (fun e w'' he => by cases e <;> exact he)⟩
      | exact ⟨hd, rows_in h⟩
  | halt x w' => cases x <;> simp only [Oper.upon, Oper.uponIn] at h ⊢ <;> exact h
theorem op_in {o : Oper} {a : Act} {w : World} {K : Act → World → Prop} (hno : ∀ c, o.op ≠ .defer c) (h : o.wp P a w K Q) : o.wpIn (Fence.wide.inRound l) n P a w K Q :=
  ⟨fun _ _ => trivial, by rw [Oper.semAt_plain _ _ _ hno]; exact upon_in h⟩
theorem any_in (hlo : ¬ LetsOut Q) (hno : ∀ (i : Nat) (o : Oper), ops[i]? = some o → ∀ c, o.op ≠ .defer c) : ∀ (fuel : Nat) (listed : Array Bool) (a : Act) (w : World), wpAny P md ops Q fuel listed a w → wpAnyIn (Fence.wide.inRound l) n P md ops Q fuel listed a w
  | 0, _, _, _, h => h
  | fuel + 1, _, _, _, h => ⟨h.1, fun i hi => by
    have h2 := wpOp_mono (fun a' w' h' => any_in hlo hno fuel _ a' w' h') (h.2 i hi)
    unfold wpOp at h2
    unfold wpOpIn
    cases ho : ops[i]? with
    | none => rw [ho] at h2; exact h2
    | some o =>
      rw [ho] at h2
      dsimp only at h2 ⊢
      split
      · rename_i hw; rw [if_pos hw] at h2; exact op_in (hno i o ho) (h2.resolve_right fun e => hlo e.2)
      · rename_i hw; rw [if_neg hw] at h2; exact ⟨fun _ _ => trivial, h2⟩⟩
def noDefer (ops : Array Oper) : Bool := ops.all fun o => match o.op with | .defer _ => false | _ => true
theorem noDefer_spec (h : noDefer ops = true) : ∀ (i : Nat) (o : Oper), ops[i]? = some o → ∀ c, o.op ≠ .defer c := by
  intro i o ho c hc
  unfold noDefer at h
  rw [Array.all_eq_true'] at h
  have := h o (Array.mem_of_getElem? ho)
  rw [hc] at this
  cases this
/-- A region in a round, by 'anyL'. -/
theorem region_round {id : Nat} {a : Act} {w : World} (S : World → Prop) (m : Nat) (hm : P.follows .mixedOrders = true) (hlo : ¬ LetsOut Q) (hno : noDefer ops = true)
    (h : anyL P .any ops Q S m ops.size (Array.replicate ops.size false) a w.drew) : (Code.region id ops true).wpIn (Fence.wide.inRound l) n P Q a w :=
  wpIn_region_any hm (any_in hlo (noDefer_spec hno) _ _ _ _ (any_of_anyL _ _ _ _ h))
end
end Go.Proofs.YtaamllikceaifaaGreatDoor
namespace Go.Proofs.YtaamllikceaifaaGreatDoor
open Go.RowKit Sp Tr Go.Shelf
set_option linter.unusedVariables false
attribute [local go_sem] Oper.semAt_some

abbrev bxO (c : PC) : Obj := .cells #[.pointer (some ⟨c.p, 0, none⟩)] 71
abbrev alO (va : Value) : Obj := .cells #[va] 37
def JA (w0 : World) (c : PC) (b0 b1 : Nat) (pre : List Int) (L : List (Nat × Obj)) : Prop := ∃ va R, L = (b1, alO va) :: (R ++ [(b0, bxO c)]) ∧ RowR w0 va pre R
theorem infoInt : (Tryz.prog.info? 3).map (fun i => (i.zero, i.size, i.bytes)) = some (some (.int .i64 0), 1, 8) := by kernel_rfl
theorem At.headKept {w0 : World} {c : PC} {v u : Value} {E : PE} {s : S} {W w2 w1 : World} {b : Nat} {o : Obj} {va : Value} {R Z : List (Nat × Obj)} {pre : List Int} (h : At w0 c v u E s ((b, o) :: (R ++ Z)) W) (hr : RowR w0 va pre R)
    (hb : Below W.heap.size W w2) (hg : w2.grownBy w1 va.ownBlock) : w1.heap[b]? = some o := by
  obtain ⟨vn, vt, h1, h2, h3, h4⟩ := h
  rw [List.map_cons, List.nodup_cons] at h4
  have kb := (h3 _ (List.mem_cons_self ..)).1
  have hbl := lt_heap kb
  refine ((hg.block b (Nat.lt_of_lt_of_le hbl hb.size) ?_).trans (hb.block b hbl)).trans kb
  intro e
  rcases hr with ⟨rfl, rfl, rfl⟩ | ⟨g', cap', cur, rfl, rfl, _⟩
  · simp [Value.ownBlock] at e
  · simp [Value.ownBlock] at e
    exact h4.1 (by simp [e])
theorem At.node {w0 w : World} {c : PC} {v u : Value} {E : PE} {s : S} {L : List (Nat × Obj)} {k : Nat} {nd : Nd} (h : At w0 c v u E s L w) (hk : s.nodes[k]? = some nd) :
    ∃ g cap, w.cell? ⟨c.p, 7, none⟩ = some (.slice (some ⟨g, 0, none⟩) s.nodes.length cap) ∧ w.cell? ⟨g, k * 9 + 8, none⟩ = some (.int .i64 nd.pos) ∧ c.p < w.heap.size ∧ g < w.heap.size := by
  obtain ⟨vn, vt, h1, h2, h3, h4⟩ := h
  have hl : k < s.nodes.length := (List.getElem?_eq_some_iff.1 hk).1
  obtain ⟨g, cap, rfl, _, hg⟩ := h1.nodes.form (by omega)
  have hc := h1.nodes.cells (g := g) rfl (k * 9 + 8) (.int .i64 nd.pos) (by rw [flat_at ndCells 9 (fun _ => rfl) s.nodes k 8 nd hk (by omega)]; rfl)
  have hadd : (⟨g, 0, none⟩ : Addr).add (k * 9 + 8) = ⟨g, k * 9 + 8, none⟩ := by unfold Addr.add; split <;> simp_all
  rw [hadd] at hc
  exact ⟨g, cap, h1.cells.2.2.2.2.2.2.2.1, hc, lt_heap h1.head, hg⟩
theorem At.putMem {w0 w : World} {c : PC} {v u : Value} {E : PE} {s : S} {L : List (Nat × Obj)} {b : Nat} {o : Obj} (h : At w0 c v u E s L w) (hx : (b, o) ∈ L) (o' : Obj) : ∃ L', At w0 c v u E s L' (w.putObj b o') := by
  obtain ⟨A, B, rfl⟩ := List.append_of_mem hx
  exact ⟨_, (h.perm List.perm_middle).putObj o'⟩
theorem drop_rev {xs : List Int} {j k : Nat} {x : Int} (hk : k + 1 + j = xs.length) (hx : xs[k]? = some x) : xs.reverse.drop j = x :: xs.reverse.drop (j + 1) := by
  have hj : j < xs.reverse.length := by simp; omega
  rw [List.drop_eq_getElem_cons hj]
  congr 1
  have h1 : xs.reverse[j]? = some x := by
    rw [List.getElem?_reverse (by omega), show xs.length - 1 - j = k by omega]
    exact hx
  rw [List.getElem?_eq_getElem hj] at h1
  injection h1
set_option maxHeartbeats 2000000 in
theorem list_p {w : World} {c : PC} {vn vt : Value} {E : PE} {s s1 s' : S} {fn : Nat} {first cap : Array Value} {xs : List Int} {r : Int} (eg : ∀ args w, (callFunc fn args).run Tryz.prog w = .ok (.enter fn args) w)
    (hi : IterOK w c vn vt E fn first cap s s1 xs) (hlen : xs.length ≤ 1000000) (h : PIn w c vn vt E s) (hs : listOf xs s1 = some (r, s')) :
    Calls Tryz.prog 49 #[.pointer (some ⟨c.p, 0, none⟩), .func (.func fn) first cap] w (Post c vn vt E (.int .i64 r) s' w) := by
  have A0 := Lib.hid (At.start h)
  have A1 : Hid (At w c vn vt E s [(w.heap.size + 1, alO (.slice none 0 0)), (w.heap.size, bxO c)] ((w.alloc (bxO c)).alloc (alO (.slice none 0 0)))) := by
    have := (A0.out.alloc (bxO c)).alloc (alO (.slice none 0 0))
    rw [World.size_alloc] at this
    exact Lib.hid this
  have H := Lib.hid h; clear h
  have HI := Lib.hid hi; clear hi
  refine (callsIn_wide (n := 0)).1 ?_
  refine callsIn_of_wp_marks Tryz.func49 rfl trivial ?_ rfl
  simp only [Tryz.ntmps49, List.size_toArray, List.length_cons, List.length_nil, Nat.reduceAdd, Nat.reduceSub, Array.replicate_succ, Array.replicate_zero, List.push_toArray, List.append_toArray, List.nil_append, List.cons_append]
  gi_wp2
  obtain ⟨i0, hi0, hz0, hz1, hz2⟩ := info_parts infoInt
  have hw : ∀ f, Fence.wide.fn f := fun _ => trivial
  have hd : Fence.wide.depth = none := rfl
  have hmix : Tryz.prog.follows .mixedOrders = true := by kernel_rfl
  refine range_at HI.out eg rfl A1.out (JA w c w.heap.size (w.heap.size + 1)) ⟨_, [], rfl, .inl ⟨rfl, rfl, rfl⟩⟩
    (fun x => { tmps := #[.pointer (some ⟨c.p, 0, none⟩), .func (.func fn) first cap, .pointer (some ⟨w.heap.size, 0, none⟩), undef, .int .i64 0, .pointer (some ⟨w.heap.size + 1, 0, none⟩), .int .i64 x, undef, undef, undef, undef, .func (.func fn) first cap, .int .i64 x, undef, undef, undef, undef, undef, undef, undef, undef, undef, undef, undef, undef, undef, undef, undef, undef, undef, undef, undef, undef, undef, undef, undef, undef, undef, undef, undef, undef], defers := [] }) ?assign ?body ?done
  case assign =>
    intro l x W K hK
    gi_wp2
    exact hK
  case body =>
    rintro l pre x X _ W s2 ⟨va, R, rfl, hR⟩ hpl hA
    have hA' : At w c vn vt E s2 ((w.heap.size + 1, alO va) :: (R ++ ([(w.heap.size, bxO c)] ++ X))) W := hA.perm (by
      refine List.perm_append_comm.trans ?_
      rw [List.cons_append, List.append_assoc])
    have hrow := hA'.row hR (fun y hy => List.mem_cons_of_mem _ (List.mem_append_left _ hy))
    obtain ⟨ca, cf⟩ := nv1 hA'.loc
    have hsz : w.heap.size + 1 < W.heap.size := lt_heap hA'.loc
    obtain ⟨a, cap', rfl⟩ := row_slice hrow
    have HA := Lib.hid hA'
    clear hA hA'
    gi_wp2_with (gi_at_builtin; refine wpListIn_append_own_at _ rfl _ _ 37 rfl w.heap.size 3 i0 (.int .i64 0) 1 8 Tryz.underlying37 hi0 hz0 hz1 hz2 rfl (by decide) _ _ _ rfl (hrow.alloc _) ⟨W.heap.size, 0, none⟩ 1 1 [.int .i64 x] rfl rfl (cell_one_new _ _ _) (by simp [Value.oneCell']) (by unfold maxLen; omega) (by omega) (by simp; omega) ?_; intro v' w1 hown' hgrow _ hat; obtain ⟨g', cap2, rfl⟩ := ownsRow_succ hown'; obtain ⟨ca1, cf1⟩ := nv1 (HA.out.headKept hR ((Below.refl _ _).alloc (Nat.le_refl _) _) hgrow); have HP := Lib.hid (HA.out.appended hR ((Below.refl _ _).alloc (Nat.le_refl _) _) hgrow hown' (H := W.heap.size + 1) (by rcases hat with e | e; exact .inl e.symm; right; simpa [Value.ownBlock] using e) (by omega)); clear hown' hgrow hat)
    obtain ⟨R', hR', hA2⟩ := HP.out
    refine ⟨X ++ ((w.heap.size + 1, alO _) :: (R' ++ [(w.heap.size, bxO c)])), ⟨_, rfl, _, R', rfl, hR'⟩, hA2.perm ?_⟩
    refine List.Perm.trans ?_ List.perm_append_comm
    simp only [List.cons_append, List.append_assoc, List.nil_append]
    exact List.Perm.refl _
  case done =>
    rintro D o l _ W ⟨va, R, rfl, hR⟩ hA
    have hca : W.heap[w.heap.size + 1]? = some (alO va) := hA.mem (x := (w.heap.size + 1, alO va)) (by simp)
    obtain ⟨ca, cf⟩ := nv1 hca
    clear hca
    obtain ⟨a, cap', rfl⟩ := row_slice (hA.row hR (fun y hy => by simp [hy]))
    have HA := Lib.hid hA
    have hsz := hA.size
    have hsz1 : w.heap.size + 1 < W.heap.size := lt_heap (hA.mem (x := (w.heap.size + 1, alO (.slice a xs.length cap'))) (by simp))
    clear hA
    gi_wp2_with (gi_at_call 69; refine (callsIn_wide.2 (back_new _ _ _ _)).mono ?_; rintro e w' ⟨rfl, rfl⟩)
    have A2 : At w c vn vt E s1 ((W.heap.size, .cells #[.int .i64 (-1)] 3 (0, 0)) :: (W.heap.size + 1, alO (.slice a xs.length cap')) :: (D, .deferred (some [])) :: (l, o) :: (w.heap.size + 1, alO (.slice a xs.length cap')) :: (R ++ [(w.heap.size, bxO c)])) ((W.alloc (.cells #[.int .i64 (-1)] 3)).alloc (alO (.slice a xs.length cap'))) := by
      have := (HA.out.alloc (.cells #[.int .i64 (-1)] 3)).alloc (alO (.slice a xs.length cap'))
      rw [World.size_alloc] at this
      exact this.perm (List.Perm.swap ..)
    refine range_back (bk := W.heap.size + 1) (sv := .slice a xs.length cap') hlen rfl A2 (fun j s2 L' => ∃ rest, L' = (W.heap.size, .cells #[.int .i64 rest] 3 (0, 0)) :: (W.heap.size + 1, alO (.slice a xs.length cap')) :: (D, .deferred (some [])) :: (l, o) :: (w.heap.size + 1, alO (.slice a xs.length cap')) :: (R ++ [(w.heap.size, bxO c)]) ∧ Hid (listR (xs.reverse.drop j) rest s2 = some (r, s')))
      ?mem ⟨_, rfl, Lib.hid hs⟩
      (fun k x => { tmps := #[.pointer (some ⟨c.p, 0, none⟩), .func (.func fn) first cap, .pointer (some ⟨w.heap.size, 0, none⟩), undef, .int .i64 0, .pointer (some ⟨w.heap.size + 1, 0, none⟩), undef, .pointer (some ⟨W.heap.size, 0, none⟩), undef, .int .i64 x, undef, .func (.func fn) first cap, undef, undef, undef, undef, undef, .slice a xs.length cap', .func (.func 92) #[] #[.pointer (some ⟨W.heap.size + 1, 0, none⟩)], .int .i64 k, .int .i64 x, undef, undef, undef, undef, undef, undef, undef, undef, undef, undef, undef, undef, undef, undef, undef, undef, undef, undef, undef, undef], defers := [] }) ?assign2 ?body2 ?done2
    case mem =>
      rintro j s2 _ ⟨rest, rfl, _⟩
      exact ⟨by simp, R, hR, fun x hx => by simp [hx]⟩
    case assign2 =>
      intro l2 k x W2 K hK
      gi_wp2
      exact hK
    case body2 =>
      rintro l2 j k x X _ V s2 ⟨rest, rfl, HL⟩ hk hx hA3
      have hls := HL.out
      rw [drop_rev hk hx] at hls
      unfold listR at hls
      by_cases hx0 : x < 0
      case pos => rw [if_pos hx0] at hls; cases hls
      rw [if_neg hx0] at hls
      obtain ⟨q, rfl⟩ : ∃ q : Nat, x = q := ⟨x.toNat, by omega⟩
      rw [Int.toNat_natCast] at hls
      cases hnd : s2.nodes[q]? with
      | none => rw [hnd] at hls; cases hls
      | some nd =>
        rw [hnd] at hls
        obtain ⟨⟨r2, s3⟩, h1, h2⟩ := Option.bind_eq_some_iff.1 hls
        obtain ⟨n, hn⟩ : ∃ n, nodeAt E s2 20 = n := ⟨_, rfl⟩
        have hn2 : n = ⟨20, -1, -1, -1, -1, [], 0, 0, n.pos⟩ := by rw [← hn]; rfl
        have HN2 := Lib.hid hn2; clear hn2
        have HN := Lib.hid hn
        have H1 := Lib.hid h1
        have H2 := Lib.hid h2
        have HD := Lib.hid hnd
        have hA4 := hA3.perm (List.perm_append_comm)
        simp only [List.cons_append] at hA4
        have HA4 := Lib.hid hA4
        have q0 : (0 : Int) ≤ (q : Int) := Int.natCast_nonneg _
        have q1 : (q : Int) < (s2.nodes.length : Int) := by have := (List.getElem?_eq_some_iff.1 hnd).1; omega
        have hb0 := hA4.mem (x := (w.heap.size, bxO c)) (by simp)
        have cb0 := (nv1 hb0).1
        clear hA4 hA3 hls hnd h1 h2 hn hx HL hb0
        gi_wp2_with (gi_at_call 70; refine (CallsIn.inRound l2 (callsIn_wide.2 (node_a HA4.out HN.out))).mono ?_; rintro e v1 ⟨rfl, ha⟩; obtain ⟨cr, cfr⟩ := nv1 ha.loc; have hb1 := ha.mem (x := (w.heap.size, bxO c)) (by simp); have cb1 := (nv1 hb1).1; obtain ⟨g, cp, c7, cq, zp, zg⟩ := ha.node HD.out; have zr := lt_heap ha.loc; have zb := lt_heap hb1; have B1 := Lib.hid ha; clear ha hb1; dsimp only [ndV])
        refine region_round (fun w' : World => w'.cell? ⟨W.heap.size, 0, none⟩ = some (.int .i64 rest) ∧ w'.cell? ⟨w.heap.size, 0, none⟩ = some (.pointer (some ⟨c.p, 0, none⟩)) ∧ w'.cell? ⟨c.p, 7, none⟩ = some (.slice (some ⟨g, 0, none⟩) s2.nodes.length cp) ∧ w'.cell? ⟨g, q * 9 + 8, none⟩ = some (.int .i64 nd.pos)) 16 hmix (by rintro ⟨a, w, h⟩; exact h) (by kernel_rfl) ?_
        have hHeld : (fun w' : World => w'.cell? ⟨W.heap.size, 0, none⟩ = some (.int .i64 rest) ∧ w'.cell? ⟨w.heap.size, 0, none⟩ = some (.pointer (some ⟨c.p, 0, none⟩)) ∧ w'.cell? ⟨c.p, 7, none⟩ = some (.slice (some ⟨g, 0, none⟩) s2.nodes.length cp) ∧ w'.cell? ⟨g, q * 9 + 8, none⟩ = some (.int .i64 nd.pos)) (v1.alloc (ndO n)).drew := by
          dsimp only
          go_keep
        refine anyL_take (i := 0) (v := ?_) rfl rfl (by kernel_rfl) (by kernel_rfl) (by kernel_rfl) (by kernel_rfl) (fun _ _ _ h => h) (Or.inl ⟨by rfl, ?_⟩) hHeld ?_
        rotate_left
        · (intro w' hSw; (try dsimp only at hSw); go_simp; first | done | with_reducible rfl)
        simp only [Act.put]
        refine anyL_take (i := 1) (v := ?_) rfl rfl (by kernel_rfl) (by kernel_rfl) (by kernel_rfl) (by kernel_rfl) (fun _ _ _ h => h) (Or.inl ⟨by rfl, ?_⟩) hHeld ?_
        rotate_left
        · (intro w' hSw; (try dsimp only at hSw); go_simp; first | done | with_reducible rfl)
        simp only [Act.put]
        refine anyL_take (i := 2) (v := ?_) rfl rfl (by kernel_rfl) (by kernel_rfl) (by kernel_rfl) (by kernel_rfl) (fun _ _ _ h => h) (Or.inl ⟨by rfl, ?_⟩) hHeld ?_
        rotate_left
        · (intro w' hSw; (try dsimp only at hSw); go_simp; first | done | with_reducible rfl)
        simp only [Act.put]
        refine anyL_take (i := 3) (v := ?_) rfl rfl (by kernel_rfl) (by kernel_rfl) (by kernel_rfl) (by kernel_rfl) (fun _ _ _ h => h) (Or.inl ⟨by rfl, ?_⟩) hHeld ?_
        rotate_left
        · (intro w' hSw; (try dsimp only at hSw); go_simp; first | done | with_reducible rfl)
        simp only [Act.put]
        refine anyL_take (i := 4) (v := ?_) rfl rfl (by kernel_rfl) (by kernel_rfl) (by kernel_rfl) (by kernel_rfl) (fun _ _ _ h => h) (Or.inl ⟨by rfl, ?_⟩) hHeld ?_
        rotate_left
        · (intro w' hSw; (try dsimp only at hSw); go_simp; first | done | with_reducible rfl)
        simp only [Act.put]
        refine anyL_take (i := 5) (v := ?_) rfl rfl (by kernel_rfl) (by kernel_rfl) (by kernel_rfl) (by kernel_rfl) (fun _ _ _ h => h) (Or.inl ⟨by rfl, ?_⟩) hHeld ?_
        rotate_left
        · (intro w' hSw; (try dsimp only at hSw); go_simp; first | done | with_reducible rfl)
        simp only [Act.put]
        refine anyL_take (i := 6) (v := ?_) rfl rfl (by kernel_rfl) (by kernel_rfl) (by kernel_rfl) (by kernel_rfl) (fun _ _ _ h => h) (Or.inl ⟨by rfl, ?_⟩) hHeld ?_
        rotate_left
        · (intro w' hSw; (try dsimp only at hSw); go_simp; first | done | with_reducible rfl)
        simp only [Act.put]
        refine anyL_take (i := 7) (v := ?_) rfl rfl (by kernel_rfl) (by kernel_rfl) (by kernel_rfl) (by kernel_rfl) (fun _ _ _ h => h) (Or.inl ⟨by rfl, ?_⟩) hHeld ?_
        rotate_left
        · (intro w' hSw; (try dsimp only at hSw); go_simp; first | done | with_reducible rfl)
        simp only [Act.put]
        refine anyL_take (i := 8) (v := ?_) rfl rfl (by kernel_rfl) (by kernel_rfl) (by kernel_rfl) (by kernel_rfl) (fun _ _ _ h => h) (Or.inl ⟨by rfl, ?_⟩) hHeld ?_
        rotate_left
        · (intro w' hSw; (try dsimp only at hSw); go_simp; first | done | with_reducible rfl)
        simp only [Act.put]
        refine anyL_take (i := 9) (v := ?_) rfl rfl (by kernel_rfl) (by kernel_rfl) (by kernel_rfl) (by kernel_rfl) (fun _ _ _ h => h) (Or.inl ⟨by rfl, ?_⟩) hHeld ?_
        rotate_left
        · (intro w' hSw; (try dsimp only at hSw); go_simp; first | done | with_reducible rfl)
        simp only [Act.put]
        refine anyL_take (i := 10) (v := ?_) rfl rfl (by kernel_rfl) (by kernel_rfl) (by kernel_rfl) (by kernel_rfl) (fun _ _ _ h => h) (Or.inl ⟨by rfl, ?_⟩) hHeld ?_
        rotate_left
        · (intro w' hSw; (try dsimp only at hSw); go_simp; first | done | with_reducible rfl)
        simp only [Act.put]
        refine anyL_take (i := 11) (v := ?_) rfl rfl (by kernel_rfl) (by kernel_rfl) (by kernel_rfl) (by kernel_rfl) (fun _ _ _ h => h) (Or.inl ⟨by rfl, ?_⟩) hHeld ?_
        rotate_left
        · (intro w' hSw; (try dsimp only at hSw); go_simp; first | done | with_reducible rfl)
        simp only [Act.put]
        refine anyL_one (i := 12) (by kernel_rfl) rfl (fun K1 hK1 => ?_)
        go_simp
        clear hHeld
        have hHeld : (fun w' : World => w'.cell? ⟨W.heap.size, 0, none⟩ = some (.int .i64 rest) ∧ w'.cell? ⟨w.heap.size, 0, none⟩ = some (.pointer (some ⟨c.p, 0, none⟩)) ∧ w'.cell? ⟨c.p, 7, none⟩ = some (.slice (some ⟨g, 0, none⟩) s2.nodes.length cp) ∧ w'.cell? ⟨g, q * 9 + 8, none⟩ = some (.int .i64 nd.pos)) (v1.alloc (ndO ⟨n.kind, q, n.b, n.c, n.d, n.text, n.n, n.ty, n.pos⟩)).drew := by
          dsimp only
          go_keep
        refine hK1.out _ _ (fun _ => hHeld) ?_
        clear hK1 K1
        refine anyL_take (i := 13) (v := ?_) rfl rfl (by kernel_rfl) (by kernel_rfl) (by kernel_rfl) (by kernel_rfl) (fun _ _ _ h => h) (Or.inl ⟨by rfl, ?_⟩) hHeld ?_
        rotate_left
        · (intro w' hSw; (try dsimp only at hSw); go_simp; first | done | with_reducible rfl)
        simp only [Act.put]
        refine anyL_one (i := 14) (by kernel_rfl) rfl (fun K1 hK1 => ?_)
        go_simp
        clear hHeld
        have hHeld : (fun w' : World => w'.cell? ⟨W.heap.size, 0, none⟩ = some (.int .i64 rest) ∧ w'.cell? ⟨w.heap.size, 0, none⟩ = some (.pointer (some ⟨c.p, 0, none⟩)) ∧ w'.cell? ⟨c.p, 7, none⟩ = some (.slice (some ⟨g, 0, none⟩) s2.nodes.length cp) ∧ w'.cell? ⟨g, q * 9 + 8, none⟩ = some (.int .i64 nd.pos)) (v1.alloc (ndO ⟨n.kind, q, rest, n.c, n.d, n.text, n.n, n.ty, n.pos⟩)).drew := by
          dsimp only
          go_keep
        refine hK1.out _ _ (fun _ => hHeld) ?_
        clear hK1 K1
        refine anyL_take (i := 15) (v := ?_) rfl rfl (by kernel_rfl) (by kernel_rfl) (by kernel_rfl) (by kernel_rfl) (fun _ _ _ h => h) (Or.inl ⟨by rfl, ?_⟩) hHeld ?_
        rotate_left
        · (intro w' hSw; (try dsimp only at hSw); go_simp; first | done | with_reducible rfl)
        simp only [Act.put]
        refine anyL_one (i := 16) (by kernel_rfl) rfl (fun K1 hK1 => ?_)
        go_simp
        refine hK1.out _ _ (fun h => absurd rfl h) ?_
        clear hK1 K1 hHeld
        refine anyL_done (by kernel_rfl) ?_ _
        have C1 := Lib.hid (B1.out.alloc (ndO ⟨n.kind, q, rest, n.c, n.d, n.text, n.n, n.ty, nd.pos⟩)).drew
        have H1' : Hid (addT ⟨n.kind, q, rest, n.c, n.d, n.text, n.n, n.ty, nd.pos⟩ s2 = some (r2, s3)) := Lib.hid (by rw [HN2.out]; exact H1.out)
        gi_wp2_with (gi_at_call 71; refine (CallsIn.inRound l2 (callsIn_wide.2 (add_a (nd := ⟨n.kind, q, rest, n.c, n.d, n.text, n.n, n.ty, nd.pos⟩) C1.out H1'.out))).mono ?_; rintro e v2 ⟨rfl, ha⟩; obtain ⟨cr2, cfr2⟩ := nv1 ha.drop.loc; have B2 := Lib.hid ha; clear ha)
        refine ⟨s3, _, ⟨_, rfl, r2, rfl, H2⟩, (B2.out.drop.set 0 (.int .i64 r2)).perm (List.perm_append_comm (l₁ := (W.heap.size, .cells #[.int .i64 r2] 3 (0, 0)) :: (W.heap.size + 1, alO (.slice a xs.length cap')) :: (D, .deferred (some [])) :: (l, o) :: (w.heap.size + 1, alO (.slice a xs.length cap')) :: (R ++ [(w.heap.size, bxO c)])) (l₂ := X))⟩
    case done2 =>
      rintro D2 o2 l3 s2 _ V ⟨rest, rfl, HL⟩ hA3
      have hls := HL.out
      rw [List.drop_eq_nil_of_le (by simp)] at hls
      unfold listR at hls
      injection hls with h5
      injection h5 with h6 h7
      subst h6 h7
      have hcr : V.heap[W.heap.size]? = some (.cells #[.int .i64 rest] 3 (0, 0)) := hA3.mem (x := (W.heap.size, .cells #[.int .i64 rest] 3 (0, 0))) (by simp)
      obtain ⟨cr, cfr⟩ := nv1 hcr
      have HA5 := Lib.hid hA3
      clear hcr hA3 HL hs
      gi_wp2
      have hK := HA5.out.loc
      refine ⟨by simp, .inl ⟨_, _, rfl, run_takeDeferred hK, ?_⟩⟩
      have hA6 := HA5.out.putObj (.deferred none)
      have hK2 := hA6.mem (x := (D, .deferred (some []))) (by simp)
      refine ⟨by simp, .inl ⟨_, _, rfl, run_takeDeferred hK2, ?_⟩⟩
      obtain ⟨L9, hA7⟩ := hA6.putMem (b := D) (o := .deferred (some [])) (by simp) (.deferred none)
      exact ⟨_, results_tmp rfl _ _ _, hA7.done rfl⟩
end Go.Proofs.YtaamllikceaifaaGreatDoor
namespace Go.Proofs.YtaamllikceaifaaGreatDoor
open Go.RowKit Sp Tr
set_option linter.unusedVariables false

abbrev ndZ : Nd := ⟨0, 0, 0, 0, 0, [], 0, 0, 0⟩
theorem At.set9 {w0 w : World} {c : PC} {v u : Value} {E : PE} {s : S} {L : List (Nat × Obj)} {b : Nat} {cs : Array Value} {t : TypeId} {fr : Nat × Nat} {x0 x1 x2 x3 x4 x5 x6 x7 x8 : Value} (h : At w0 c v u E s ((b, .cells cs t fr) :: L) w) :
    ∃ L', At w0 c v u E s L' (((((((((w.setCell ⟨b, 0, none⟩ x0).setCell ⟨b, 1, none⟩ x1).setCell ⟨b, 2, none⟩ x2).setCell ⟨b, 3, none⟩ x3).setCell ⟨b, 4, none⟩ x4).setCell ⟨b, 5, none⟩ x5).setCell ⟨b, 6, none⟩ x6).setCell ⟨b, 7, none⟩ x7).setCell ⟨b, 8, none⟩ x8) :=
  ⟨_, ((((((((h.set 0 x0).set 1 x1).set 2 x2).set 3 x3).set 4 x4).set 5 x5).set 6 x6).set 7 x7).set 8 x8⟩
theorem At.setN {w0 w : World} {c : PC} {v u : Value} {E : PE} {s : S} {L : List (Nat × Obj)} {b : Nat} {t : TypeId} {fr : Nat × Nat} {y0 y1 y2 y3 y4 y5 y6 y7 y8 : Value} (x0 x1 x2 x3 x4 x5 x6 x7 x8 : Value) (h : At w0 c v u E s ((b, .cells #[y0, y1, y2, y3, y4, y5, y6, y7, y8] t fr) :: L) w) :
    At w0 c v u E s ((b, .cells #[x0, x1, x2, x3, x4, x5, x6, x7, x8] t fr) :: L) (((((((((w.setCell ⟨b, 0, none⟩ x0).setCell ⟨b, 1, none⟩ x1).setCell ⟨b, 2, none⟩ x2).setCell ⟨b, 3, none⟩ x3).setCell ⟨b, 4, none⟩ x4).setCell ⟨b, 5, none⟩ x5).setCell ⟨b, 6, none⟩ x6).setCell ⟨b, 7, none⟩ x7).setCell ⟨b, 8, none⟩ x8) := by
  have := ((((((((h.set 0 x0).set 1 x1).set 2 x2).set 3 x3).set 4 x4).set 5 x5).set 6 x6).set 7 x7).set 8 x8
  simpa using this
variable {c : PC} {E : PE}
set_option maxHeartbeats 1000000 in
theorem simple_p {w : World} {vn vt : Value} {f : Nat} {s s' : S} {n n' : Nd} (h : PIn w c vn vt E s) (hs : simpF f E n s = some (n', s')) :
    Calls Tryz.prog 147 #[.pointer (some ⟨c.p, 0, none⟩), ndV n] w (Post c vn vt E (ndV n') s' w) := by
  have A0 := Lib.hid (At.start h)
  have A1 : Hid (At w c vn vt E s [(w.heap.size, ndO n), (w.heap.size + 1, ndO ndZ)] ((w.alloc (ndO n)).alloc (ndO ndZ))) := by
    have := (A0.out.alloc (ndO n)).alloc (ndO ndZ)
    rw [World.size_alloc] at this
    exact Lib.hid (this.perm (List.Perm.swap ..))
  clear h
  unfold simpF at hs
  dsimp only [ndV]
  by_cases hb : isT E s [59] = true
  · rw [if_pos hb] at hs
    injection hs with h1
    injection h1 with h2 h3
    subst h2 h3
    have HB := Lib.hid hb
    clear hb
    go_enter Tryz.func147, Tryz.ntmps147
    go_wp2_with ((with_reducible refine (is_a (Hid.out (by assumption)) HB.out).mono ?_); rintro e v1 ⟨rfl, ha⟩; have B1 := Lib.hid ha; obtain ⟨f0, f1, f2, f3, f4, f5, f6, f7, f8, g0, g1, g2, g3, g4, g5, g6, g7, g8⟩ := nv9 ha.loc; obtain ⟨k0, k1, k2, k3, k4, k5, k6, k7, k8, m0, m1, m2, m3, m4, m5, m6, m7, m8⟩ := nv9 (ha.perm (List.Perm.swap ..)).loc; clear ha)
    obtain ⟨L9, hL9⟩ := ((B1.out.set 0 (.int .i64 44)).perm (List.Perm.swap ..)).set9 (x0 := .int .i64 44) (x1 := .int .i64 n.a) (x2 := .int .i64 n.b) (x3 := .int .i64 n.c) (x4 := .int .i64 n.d) (x5 := .string (bt n.text)) (x6 := .int .i64 n.n) (x7 := .int .i64 n.ty) (x8 := .int .i64 n.pos)
    exact bodyPost_ret (v := ndV { n with kind := 44 }) (by simp [results, Tryz.results147, go_sem, k0, k1, k2, k3, k4, k5, k6, k7, k8] <;> rfl) rfl (hL9.done rfl)
  · rw [if_neg hb] at hs
    by_cases hw : siWords.any (isT E s) = true
    case pos => rw [if_pos hw] at hs; cases hs
    rw [if_neg hw] at hs
    simp only [siWords, List.any_cons, List.any_nil, Bool.or_false, Bool.or_eq_true, not_or] at hw
    obtain ⟨x0, x1, x2⟩ := hw
    obtain ⟨s1, h1, h2⟩ := Option.bind_eq_some_iff.1 hs
    have hr : isT E s wReturn = true ∧ takeT s = some s1 := by
      unfold needT at h1
      by_cases hx : isT E s wReturn = true
      · rw [if_pos hx] at h1; exact ⟨hx, h1⟩
      · rw [if_neg hx] at h1; cases h1
    by_cases hc : isT E s1 [59] = true
    case pos => rw [if_pos hc] at h2; cases h2
    rw [if_neg hc] at h2
    obtain ⟨⟨q, s2⟩, h3, h4⟩ := Option.bind_eq_some_iff.1 h2
    injection h4 with h4
    injection h4 with h5 h6
    subst h5 h6
    have HB := Lib.hid (bfalse hb)
    have X0 := Lib.hid (bfalse x0)
    have X1 := Lib.hid (bfalse x1)
    have X2 := Lib.hid (bfalse x2)
    have HR := Lib.hid hr.1
    have HT := Lib.hid hr.2
    have HC := Lib.hid (bfalse hc)
    have H3 := Lib.hid h3
    have hex := (go_ok c E f).1
    have eg : ∀ args w, (callFunc 148 args).run Tryz.prog w = .ok (.enter 148 args) w := enters_of Tryz.func148 (by kernel_rfl) rfl
    clear hs hb x0 x1 x2 h1 h2 hr hc h3
    go_enter Tryz.func147, Tryz.ntmps147
    go_wp2_with (first | ((with_reducible refine (is_a (Hid.out (by assumption)) HB.out).mono ?_); rintro e v1 ⟨rfl, ha⟩; have B1 := Lib.hid ha; clear ha) | ((with_reducible refine (took_n (Hid.out (by assumption)) X0.out).mono ?_); rintro e v2 ⟨rfl, ha⟩; have B2 := Lib.hid ha; clear ha) | ((with_reducible refine (took_n (Hid.out (by assumption)) X1.out).mono ?_); rintro e v3 ⟨rfl, ha⟩; have B3 := Lib.hid ha; clear ha) | ((with_reducible refine (took_n (Hid.out (by assumption)) X2.out).mono ?_); rintro e v4 ⟨rfl, ha⟩; have B4 := Lib.hid ha; clear ha) | ((with_reducible refine (took_y (Hid.out (by assumption)) HR.out HT.out).mono ?_); rintro e v5 ⟨rfl, ha⟩; have B5 := Lib.hid ha; obtain ⟨f0, f1, f2, f3, f4, f5, f6, f7, f8, g0, g1, g2, g3, g4, g5, g6, g7, g8⟩ := nv9 ha.loc; have C5 := Lib.hid (ha.set 0 (.int .i64 37)); clear ha) | ((with_reducible refine (is_a (Hid.out (by assumption)) HC.out).mono ?_); rintro e v6 ⟨rfl, ha⟩; have B6 := Lib.hid ha; clear ha) | ((with_reducible refine (deeper_a hex eg (Hid.out (by assumption)) H3.out).mono ?_); rintro e v7 ⟨rfl, ha⟩; have B7 := Lib.hid ha; obtain ⟨p0, p1, p2, p3, p4, p5, p6, p7, p8, q0, q1, q2, q3, q4, q5, q6, q7, q8⟩ := nv9 ha.loc; obtain ⟨k0, k1, k2, k3, k4, k5, k6, k7, k8, m0, m1, m2, m3, m4, m5, m6, m7, m8⟩ := nv9 (ha.perm (List.Perm.swap ..)).loc; clear ha))
    obtain ⟨L9, hL9⟩ := ((B7.out.set 1 (.int .i64 q)).perm (List.Perm.swap ..)).set9 (x0 := .int .i64 37) (x1 := .int .i64 q) (x2 := .int .i64 n.b) (x3 := .int .i64 n.c) (x4 := .int .i64 n.d) (x5 := .string (bt n.text)) (x6 := .int .i64 n.n) (x7 := .int .i64 n.ty) (x8 := .int .i64 n.pos)
    exact bodyPost_ret (v := ndV { n with kind := 37, a := q }) (by simp [results, Tryz.results147, go_sem, k0, k1, k2, k3, k4, k5, k6, k7, k8] <;> rfl) rfl (hL9.done rfl)
theorem simple_a {w0 w : World} {v u : Value} {f : Nat} {s s' : S} {n n' : Nd} {L : List (Nat × Obj)} (h : At w0 c v u E s L w) (hs : simpF f E n s = some (n', s')) :
    Calls Tryz.prog 147 #[.pointer (some ⟨c.p, 0, none⟩), ndV n] w (Ans w0 c v u E s' L (ndV n')) := h.lift fun _ _ h => simple_p h hs
set_option maxHeartbeats 4000000 in
theorem statement_p (f : Nat) : Reads c E 140 (stF f E) := by
  intro w vn vt s r s' hs h
  have A0 := Lib.hid (At.start h); clear h
  unfold stF at hs
  by_cases hb : isT E s [123] = true
  case pos => rw [if_pos hb] at hs; cases hs
  rw [if_neg hb] at hs
  by_cases hw : stWords.any (isT E s) = true
  case pos => rw [if_pos hw] at hs; cases hs
  rw [if_neg hw] at hs
  simp only [stWords, List.any_cons, List.any_nil, Bool.or_false, Bool.or_eq_true, not_or] at hw
  obtain ⟨x0, x1, x2, x3, x4, x5⟩ := hw
  by_cases hk : (nowT E s).k = 1
  case pos => rw [if_pos hk] at hs; cases hs
  rw [if_neg hk] at hs
  obtain ⟨⟨n', s1⟩, h1, h2⟩ := Option.bind_eq_some_iff.1 hs
  obtain ⟨s2, h3, h4⟩ := Option.bind_eq_some_iff.1 h2
  obtain ⟨n, hn⟩ : ∃ n, nodeAt E s 30 = n := ⟨_, rfl⟩
  obtain ⟨tn, htn⟩ : ∃ tn, nowT E s = tn := ⟨_, rfl⟩
  rw [hn] at h1
  rw [htn] at hk
  have y0 := fld0
  have q1 : (tn.k == 1) = false := by simpa using hk
  have HB := Lib.hid (bfalse hb)
  have X0 := Lib.hid (bfalse x0)
  have X1 := Lib.hid (bfalse x1)
  have X2 := Lib.hid (bfalse x2)
  have X3 := Lib.hid (bfalse x3)
  have X4 := Lib.hid (bfalse x4)
  have X5 := Lib.hid (bfalse x5)
  have HN := Lib.hid hn
  have HT := Lib.hid htn
  have H1 := Lib.hid h1
  have H3 := Lib.hid h3
  have H4 := Lib.hid h4
  clear hs hb x0 x1 x2 x3 x4 x5 hk h1 h2 h3 h4 hn htn
  go_enter Tryz.func140, Tryz.ntmps140
  go_wp2_with (first | ((with_reducible refine (node_a (Hid.out (by assumption)) HN.out).mono ?_); rintro e v1 ⟨rfl, ha⟩; have B1 := Lib.hid ha; have C1 := Lib.hid (ha.alloc (ndO n)); dsimp only [ndV]; clear ha) | ((with_reducible refine (is_a (Hid.out (by assumption)) HB.out).mono ?_); rintro e v2 ⟨rfl, ha⟩; have B2 := Lib.hid ha; clear ha) | ((with_reducible refine (took_n (Hid.out (by assumption)) X0.out).mono ?_); rintro e v3 ⟨rfl, ha⟩; have B3 := Lib.hid ha; clear ha) | ((with_reducible refine (took_n (Hid.out (by assumption)) X1.out).mono ?_); rintro e v4 ⟨rfl, ha⟩; have B4 := Lib.hid ha; clear ha) | ((with_reducible refine (took_n (Hid.out (by assumption)) X2.out).mono ?_); rintro e v5 ⟨rfl, ha⟩; have B5 := Lib.hid ha; clear ha) | ((with_reducible refine (took_n (Hid.out (by assumption)) X3.out).mono ?_); rintro e v6 ⟨rfl, ha⟩; have B6 := Lib.hid ha; clear ha) | ((with_reducible refine (took_n (Hid.out (by assumption)) X4.out).mono ?_); rintro e v7 ⟨rfl, ha⟩; have B7 := Lib.hid ha; clear ha) | ((with_reducible refine (took_n (Hid.out (by assumption)) X5.out).mono ?_); rintro e v8 ⟨rfl, ha⟩; have B8 := Lib.hid ha; clear ha) | ((with_reducible refine (now_a (Hid.out (by assumption)) HT.out).mono ?_); rintro e v9 ⟨rfl, ha⟩; have B9 := Lib.hid ha; obtain ⟨r0, r1, r2, r3, r4, r5, r6, r7, r8, t0, t1, t2, t3, t4, t5, t6, t7, t8⟩ := nv9 ha.loc; clear ha) | ((with_reducible refine (simple_a (n := n) (Hid.out (by assumption)) H1.out).mono ?_); rintro e v10 ⟨rfl, ha⟩; have B10 := Lib.hid ha; obtain ⟨f0, f1, f2, f3, f4, f5, f6, f7, f8, g0, g1, g2, g3, g4, g5, g6, g7, g8⟩ := nv9 ha.loc; have C10 := Lib.hid (At.setN (.int .i64 n'.kind) (.int .i64 n'.a) (.int .i64 n'.b) (.int .i64 n'.c) (.int .i64 n'.d) (.string (bt n'.text)) (.int .i64 n'.n) (.int .i64 n'.ty) (.int .i64 n'.pos) ha); dsimp only [ndV]; clear ha) | ((with_reducible refine (need_a (Hid.out (by assumption)) H3.out).mono ?_); rintro e v11 ⟨rfl, ha⟩; have B11 := Lib.hid ha; obtain ⟨p0, p1, p2, p3, p4, p5, p6, p7, p8, q0, q1, q2, q3, q4, q5, q6, q7, q8⟩ := nv9 ha.loc; clear ha) | ((with_reducible refine (add_a (nd := n') (Hid.out (by assumption)) H4.out).mono ?_); rintro e v12 ⟨rfl, ha⟩; have B12 := Lib.hid ha; clear ha))
  go_ret
  exact B12.out.done rfl
set_option maxHeartbeats 1000000 in
theorem list_a {w0 w : World} {v u : Value} {s s1 s' : S} {fn : Nat} {first cap : Array Value} {xs : List Int} {r : Int} {L : List (Nat × Obj)} (h : At w0 c v u E s L w) (eg : ∀ args w, (callFunc fn args).run Tryz.prog w = .ok (.enter fn args) w)
    (hi : ∀ w v u, IterOK w c v u E fn first cap s s1 xs) (hlen : xs.length ≤ 1000000) (hs : listOf xs s1 = some (r, s')) :
    Calls Tryz.prog 49 #[.pointer (some ⟨c.p, 0, none⟩), .func (.func fn) first cap] w (Ans w0 c v u E s' L (.int .i64 r)) := h.lift fun _ _ h => list_p eg (hi _ _ _) hlen h hs
theorem block_p {f : Nat} (hf : f ≤ 1000000) : Reads c E 103 (blockF f E) := by
  intro w vn vt s r s' hs h
  have A0 := Lib.hid (At.start h); clear h
  unfold blockF at hs
  obtain ⟨s1, h1, h2⟩ := Option.bind_eq_some_iff.1 hs
  obtain ⟨⟨xs, s2⟩, h3, h4⟩ := Option.bind_eq_some_iff.1 h2
  obtain ⟨⟨q, s3⟩, h5, h6⟩ := Option.bind_eq_some_iff.1 h4
  obtain ⟨s4, h7, h8⟩ := Option.bind_eq_some_iff.1 h6
  obtain ⟨n, hn⟩ : ∃ n, nodeAt E s 43 = n := ⟨_, rfl⟩
  have h8' : addT { n with a := q } s4 = some (r, s') := by rw [← hn]; exact h8
  have hl := stsF_len f _ _ _ h3
  have hi : ∀ w v u, IterOK w c v u E 129 #[.pointer (some ⟨c.p, 0, none⟩)] #[] s1 s2 xs := fun w v u => statements_iter (statement_p f) hf h3
  have eg : ∀ args w, (callFunc 129 args).run Tryz.prog w = .ok (.enter 129 args) w := enters_of Tryz.func129 (by kernel_rfl) rfl
  have hl2 : xs.length ≤ 1000000 := by omega
  have HN := Lib.hid hn
  have H1 := Lib.hid h1
  have H5 := Lib.hid h5
  have H7 := Lib.hid h7
  have H8 := Lib.hid h8'
  clear hs h1 h2 h3 h4 h5 h6 h7 h8 h8' hn hl
  go_enter Tryz.func103, Tryz.ntmps103
  go_wp2_with (first | ((with_reducible refine (node_a (Hid.out (by assumption)) HN.out).mono ?_); rintro e v1 ⟨rfl, ha⟩; have B1 := Lib.hid ha; have C1 := Lib.hid (ha.alloc (ndO n)); dsimp only [ndV]; clear ha) | ((with_reducible refine (need_a (Hid.out (by assumption)) H1.out).mono ?_); rintro e v2 ⟨rfl, ha⟩; have B2 := Lib.hid ha; clear ha) | ((with_reducible refine (list_a (Hid.out (by assumption)) eg hi hl2 H5.out).mono ?_); rintro e v3 ⟨rfl, ha⟩; have B3 := Lib.hid ha; obtain ⟨f0, f1, f2, f3, f4, f5, f6, f7, f8, g0, g1, g2, g3, g4, g5, g6, g7, g8⟩ := nv9 ha.loc; have C3 := Lib.hid (ha.set 1 (.int .i64 q)); clear ha) | ((with_reducible refine (need_a (Hid.out (by assumption)) H7.out).mono ?_); rintro e v4 ⟨rfl, ha⟩; have B4 := Lib.hid ha; obtain ⟨p0, p1, p2, p3, p4, p5, p6, p7, p8, q0, q1, q2, q3, q4, q5, q6, q7, q8⟩ := nv9 ha.loc; clear ha) | ((with_reducible refine (add_a (nd := { n with a := q }) (Hid.out (by assumption)) H8.out).mono ?_); rintro e v5 ⟨rfl, ha⟩; have B5 := Lib.hid ha; clear ha))
  go_ret
  exact B5.out.done rfl
end Go.Proofs.YtaamllikceaifaaGreatDoor
namespace Go.Proofs.YtaamllikceaifaaGreatDoor
open Go.RowKit Sp Tr Go.Shelf
set_option linter.unusedVariables false

abbrev fnO (f : Value) : Obj := .cells #[f] 86
theorem commas_new (p : Option Addr) (fn : Fn) (first cap : Array Value) (w : World) : Calls Tryz.prog 100 #[.pointer p, .func fn first cap] w fun e w' =>
    e = .returned (.func (.func 128) #[] #[.pointer (some ⟨w.heap.size, 0, none⟩), .pointer (some ⟨w.heap.size + 1, 0, none⟩)]) ∧ w' = (w.alloc (.cells #[.pointer p] 71)).alloc (fnO (.func fn first cap)) := by
  have hmf : ∀ (fn : Fn) (first cap : Array Value) (w : World), (Instr.makeFunc fn first cap).run Tryz.prog w = .ok (.func fn first cap) w := fun _ _ _ _ => rfl
  go_enter Tryz.func100, Tryz.ntmps100
  go_wp2
  go_ret
  exact ⟨rfl, rfl⟩
section
variable {c : PC} {E : PE}
theorem commas_iter {w0 : World} {v u : Value} {s : S} {bp bq : Nat} (hb : w0.heap[bp]? = some (bxO c)) (ho : Out c v u bp) (hx : isT E s [41] = true) : IterOK w0 c v u E 128 #[] #[.pointer (some ⟨bp, 0, none⟩), .pointer (some ⟨bq, 0, none⟩)] s s [] := by
  intro n l J L W hY hJ hA
  have cb := (nv1 (hA.old hb ho)).1
  have HA := Lib.hid hA; clear hA
  have HJ := Lib.hid hJ; clear hJ
  have HX := Lib.hid hx; clear hx hY
  have hw : ∀ f, Fence.wide.fn f := fun _ => trivial
  have hd : Fence.wide.depth = none := rfl
  refine callsIn_of_wp Tryz.func128 rfl trivial ?_ rfl
  simp only [Tryz.ntmps128, List.size_toArray, List.length_cons, List.length_nil, Nat.reduceAdd, Nat.reduceSub, Array.replicate_succ, Array.replicate_zero, List.push_toArray, List.append_toArray, List.nil_append, List.cons_append]
  gi_wp2_with (gi_at_call 94; refine (callsIn_wide.2 (is_a HA.out HX.out)).mono ?_; rintro e v1 ⟨rfl, ha⟩; have B1 := Lib.hid ha; clear ha)
  refine wpIn_loop_rounds 1 ?_
  rw [roundsIn_succ]
  gi_wp2
  go_end0
  exact ⟨⟨_, rfl⟩, L, HJ.out, B1.out⟩
theorem At.liftL {w0 w : World} {v u : Value} {s s' : S} {L : List (Nat × Obj)} {f : FuncId} {args : Array Value} {r : Value} (h : At w0 c v u E s L w)
    (k : ∀ vn vt, PIn w c vn vt E s → (∀ x ∈ L, w.heap[x.1]? = some x.2 ∧ Out c vn vt x.1) → Calls Tryz.prog f args w (Post c vn vt E r s' w)) : Calls Tryz.prog f args w (Ans w0 c v u E s' L r) := by
  obtain ⟨vn, vt, h1, h2, h3, h5⟩ := h
  refine (k vn vt h1 fun x hx => ⟨(h3 x hx).1, (h3 x hx).2.1⟩).mono ?_
  rintro e w' ⟨vn', vt', rfl, h4, t4⟩
  exact ⟨rfl, vn', vt', h4, h2.trans t4, fun x hx => ⟨(t4.kept (h3 x hx).2.1 (lt_heap (h3 x hx).1)).trans (h3 x hx).1, (h3 x hx).2.1.turn (lt_heap (h3 x hx).1) t4, (h3 x hx).2.2⟩, h5⟩
theorem list_commas {w0 w : World} {v u : Value} {s : S} {L : List (Nat × Obj)} {bp bq : Nat} (h : At w0 c v u E s L w) (hm : (bp, bxO c) ∈ L) (hx : isT E s [41] = true) :
    Calls Tryz.prog 49 #[.pointer (some ⟨c.p, 0, none⟩), .func (.func 128) #[] #[.pointer (some ⟨bp, 0, none⟩), .pointer (some ⟨bq, 0, none⟩)]] w (Ans w0 c v u E s L (.int .i64 (-1))) := by
  have eg : ∀ args w, (callFunc 128 args).run Tryz.prog w = .ok (.enter 128 args) w := enters_of Tryz.func128 (by kernel_rfl) rfl
  exact h.liftL fun vn vt h1 h2 => list_p eg (commas_iter (h2 _ hm).1 (h2 _ hm).2 hx) (by simp) h1 rfl
set_option maxHeartbeats 2000000 in
theorem whole_fn0 {f : Nat} (hf : f ≤ 1000000) {w : World} {vn vt : Value} {s s1 s2 s3 s4 s5 s' : S} {q z r : Int} {tk : Tok} (h : PIn w c vn vt E s) (x0 : isT E s wStruct = false)
    (h1 : typedF f E s = some (q, s1)) (h2 : kindT E 1 s1 = some (tk, s2)) (x3 : isT E s2 [40] = true) (h3 : takeT s2 = some s3) (x4 : isT E s3 [41] = true) (h4 : takeT s3 = some s4) (h5 : blockF f E s4 = some (z, s5))
    (h6 : addT { nodeAt E s 50 with ty := q, text := tk.text, b := z } s5 = some (r, s')) : Calls Tryz.prog 72 #[.pointer (some ⟨c.p, 0, none⟩)] w (Post c vn vt E (.int .i64 r) s' w) := by
  have A0 := Lib.hid (At.start h); clear h
  obtain ⟨n, hn⟩ : ∃ n, nodeAt E s 52 = n := ⟨_, rfl⟩
  have h6' : addT ⟨50, -1, z, n.c, n.d, tk.text, n.n, q, n.pos⟩ s5 = some (r, s') := by rw [← hn]; exact h6
  have h4' : needT E [41] s3 = some s4 := by unfold needT; rw [if_pos x4]; exact h4
  have HN := Lib.hid hn
  have H1 := Lib.hid h1
  have H2 := Lib.hid h2
  have X3 := Lib.hid x3
  have H3 := Lib.hid h3
  have X4 := Lib.hid x4
  have H4 := Lib.hid h4'
  have H5 := Lib.hid h5
  have H6 := Lib.hid h6'
  have hbl := block_p (c := c) (E := E) hf
  clear hn h1 h2 x3 h3 x4 h4 h5 h6 h6' h4'
  have X0 := Lib.hid x0; clear x0
  go_enter Tryz.func72, Tryz.ntmps72
  go_wp2_with (first | ((with_reducible refine (is_a (Hid.out (by assumption)) X0.out).mono ?_); rintro e v11 ⟨rfl, ha⟩; have B11 := Lib.hid ha; clear ha) | ((with_reducible refine (node_a (Hid.out (by assumption)) HN.out).mono ?_); rintro e v1 ⟨rfl, ha⟩; have B1 := Lib.hid ha; have C1 := Lib.hid (ha.alloc (ndO n)); dsimp only [ndV]; clear ha) | ((with_reducible refine (typed_a (Hid.out (by assumption)) H1.out).mono ?_); rintro e v2 ⟨rfl, ha⟩; have B2 := Lib.hid ha; clear ha) | ((with_reducible refine (name_a (Hid.out (by assumption)) H2.out).mono ?_); rintro e v3 ⟨rfl, ha⟩; have B3 := Lib.hid ha; obtain ⟨f0, f1, f2, f3, f4, f5, f6, f7, f8, g0, g1, g2, g3, g4, g5, g6, g7, g8⟩ := nv9 ha.loc; have C4 := Lib.hid ((ha.set 7 (.int .i64 q)).set 5 (.string (bt tk.text))); clear ha) | ((with_reducible refine (took_y (Hid.out (by assumption)) X3.out H3.out).mono ?_); rintro e v4 ⟨rfl, ha⟩; have B4 := Lib.hid ha; clear ha) | ((with_reducible refine (commas_new _ _ _ _ _).mono ?_); rintro e v5 ⟨rfl, rfl⟩; have hB4 := B4.out; have C5 := (hB4.alloc (bxO c)).alloc (fnO (.func (.func 101) #[.pointer (some ⟨c.p, 0, none⟩)] #[])); rw [World.size_alloc] at C5; have D5 := Lib.hid C5; clear C5 hB4) | ((with_reducible refine (list_commas D5.out (by simp) X4.out).mono ?_); rintro e v6 ⟨rfl, ha⟩; obtain ⟨f0, f1, f2, f3, f4, f5, f6, f7, f8, g0, g1, g2, g3, g4, g5, g6, g7, g8⟩ := nv9 ha.drop.drop.loc; have C6 := Lib.hid ((ha.drop.drop.set 0 (.int .i64 50)).set 1 (.int .i64 (-1))); clear ha) | ((with_reducible refine (need_a (Hid.out (by assumption)) H4.out).mono ?_); rintro e v7 ⟨rfl, ha⟩; have B7 := Lib.hid ha; clear ha) | ((with_reducible refine (hbl.a (Hid.out (by assumption)) H5.out).mono ?_); rintro e v8 ⟨rfl, ha⟩; have B8 := Lib.hid ha; obtain ⟨p0, p1, p2, p3, p4, p5, p6, p7, p8, o0, o1, o2, o3, o4, o5, o6, o7, o8⟩ := nv9 ha.loc; have C8 := Lib.hid (ha.set 2 (.int .i64 z)); clear ha) | ((with_reducible refine (add_a (nd := ⟨50, -1, z, n.c, n.d, tk.text, n.n, q, n.pos⟩) (Hid.out (by assumption)) H6.out).mono ?_); rintro e v9 ⟨rfl, ha⟩; have B9 := Lib.hid ha; clear ha))
  go_ret
  exact B9.out.done rfl
set_option maxHeartbeats 2000000 in
theorem whole_gl0 {f : Nat} {w : World} {vn vt : Value} {s s1 s2 s3 s4 s' : S} {q z r : Int} {tk : Tok} (h : PIn w c vn vt E s) (x0 : isT E s wStruct = false)
    (h1 : typedF f E s = some (q, s1)) (h2 : kindT E 1 s1 = some (tk, s2)) (x3 : isT E s2 [40] = false) (h3 : countedF E q s2 = some (z, s3)) (x4 : isT E s3 [61] = false) (h4 : needT E [59] s3 = some s4)
    (h6 : addT { nodeAt E s 52 with ty := z, text := tk.text } s4 = some (r, s')) : Calls Tryz.prog 72 #[.pointer (some ⟨c.p, 0, none⟩)] w (Post c vn vt E (.int .i64 r) s' w) := by
  have A0 := Lib.hid (At.start h); clear h
  obtain ⟨n, hn⟩ : ∃ n, nodeAt E s 52 = n := ⟨_, rfl⟩
  have h6' : addT ⟨n.kind, n.a, n.b, n.c, n.d, tk.text, n.n, z, n.pos⟩ s4 = some (r, s') := by rw [← hn]; exact h6
  have HN := Lib.hid hn
  have H1 := Lib.hid h1
  have H2 := Lib.hid h2
  have X3 := Lib.hid x3
  have H3 := Lib.hid h3
  have X4 := Lib.hid x4
  have H4 := Lib.hid h4
  have H6 := Lib.hid h6'
  clear hn h1 h2 x3 h3 x4 h4 h6 h6'
  have X0 := Lib.hid x0; clear x0
  go_enter Tryz.func72, Tryz.ntmps72
  go_wp2_with (first | ((with_reducible refine (is_a (Hid.out (by assumption)) X0.out).mono ?_); rintro e v11 ⟨rfl, ha⟩; have B11 := Lib.hid ha; clear ha) | ((with_reducible refine (node_a (Hid.out (by assumption)) HN.out).mono ?_); rintro e v1 ⟨rfl, ha⟩; have B1 := Lib.hid ha; have C1 := Lib.hid (ha.alloc (ndO n)); dsimp only [ndV]; clear ha) | ((with_reducible refine (typed_a (Hid.out (by assumption)) H1.out).mono ?_); rintro e v2 ⟨rfl, ha⟩; have B2 := Lib.hid ha; clear ha) | ((with_reducible refine (name_a (Hid.out (by assumption)) H2.out).mono ?_); rintro e v3 ⟨rfl, ha⟩; have B3 := Lib.hid ha; obtain ⟨f0, f1, f2, f3, f4, f5, f6, f7, f8, g0, g1, g2, g3, g4, g5, g6, g7, g8⟩ := nv9 ha.loc; have C4 := Lib.hid ((ha.set 7 (.int .i64 q)).set 5 (.string (bt tk.text))); clear ha) | ((with_reducible refine (took_n (Hid.out (by assumption)) X3.out).mono ?_); rintro e v4 ⟨rfl, ha⟩; have B4 := Lib.hid ha; obtain ⟨p0, p1, p2, p3, p4, p5, p6, p7, p8, o0, o1, o2, o3, o4, o5, o6, o7, o8⟩ := nv9 ha.loc; clear ha) | ((with_reducible refine (counted_a (Hid.out (by assumption)) H3.out).mono ?_); rintro e v5 ⟨rfl, ha⟩; have B5 := Lib.hid ha; obtain ⟨k0, k1, k2, k3, k4, k5, k6, k7, k8, m0, m1, m2, m3, m4, m5, m6, m7, m8⟩ := nv9 ha.loc; have C5 := Lib.hid (ha.set 7 (.int .i64 z)); clear ha) | ((with_reducible refine (took_n (Hid.out (by assumption)) X4.out).mono ?_); rintro e v6 ⟨rfl, ha⟩; have B6 := Lib.hid ha; clear ha) | ((with_reducible refine (need_a (Hid.out (by assumption)) H4.out).mono ?_); rintro e v7 ⟨rfl, ha⟩; have B7 := Lib.hid ha; obtain ⟨r0, r1, r2, r3, r4, r5, r6, r7, r8, t0, t1, t2, t3, t4, t5, t6, t7, t8⟩ := nv9 ha.loc; clear ha) | ((with_reducible refine (add_a (nd := ⟨n.kind, n.a, n.b, n.c, n.d, tk.text, n.n, z, n.pos⟩) (Hid.out (by assumption)) H6.out).mono ?_); rintro e v8 ⟨rfl, ha⟩; have B8 := Lib.hid ha; clear ha))
  go_ret
  exact B8.out.done rfl
set_option maxHeartbeats 2000000 in
theorem whole_fn1 {f : Nat} (hf : f ≤ 1000000) {w : World} {vn vt : Value} {s s1 s2 s3 s4 s5 s' : S} {q z r : Int} {tk : Tok} (h : PIn w c vn vt E s) (x0 : isT E s wStruct = true) (x1 : (ahd E s 1).k ≠ 1)
    (h1 : typedF f E s = some (q, s1)) (h2 : kindT E 1 s1 = some (tk, s2)) (x3 : isT E s2 [40] = true) (h3 : takeT s2 = some s3) (x4 : isT E s3 [41] = true) (h4 : takeT s3 = some s4) (h5 : blockF f E s4 = some (z, s5))
    (h6 : addT { nodeAt E s 50 with ty := q, text := tk.text, b := z } s5 = some (r, s')) : Calls Tryz.prog 72 #[.pointer (some ⟨c.p, 0, none⟩)] w (Post c vn vt E (.int .i64 r) s' w) := by
  have A0 := Lib.hid (At.start h); clear h
  obtain ⟨n, hn⟩ : ∃ n, nodeAt E s 52 = n := ⟨_, rfl⟩
  have h6' : addT ⟨50, -1, z, n.c, n.d, tk.text, n.n, q, n.pos⟩ s5 = some (r, s') := by rw [← hn]; exact h6
  have h4' : needT E [41] s3 = some s4 := by unfold needT; rw [if_pos x4]; exact h4
  have HN := Lib.hid hn
  have H1 := Lib.hid h1
  have H2 := Lib.hid h2
  have X3 := Lib.hid x3
  have H3 := Lib.hid h3
  have X4 := Lib.hid x4
  have H4 := Lib.hid h4'
  have H5 := Lib.hid h5
  have H6 := Lib.hid h6'
  have hbl := block_p (c := c) (E := E) hf
  clear hn h1 h2 x3 h3 x4 h4 h5 h6 h6' h4'
  have X0 := Lib.hid x0; clear x0
  obtain ⟨t1, ht1⟩ : ∃ t, ahd E s 1 = t := ⟨_, rfl⟩
  rw [ht1] at x1
  have y0 := fld0
  have T1 := Lib.hid ht1; clear ht1
  have z1 : (t1.k == 1) = false := by simpa using x1
  clear x1
  go_enter Tryz.func72, Tryz.ntmps72
  go_wp2_with (first | ((with_reducible refine (is_a (Hid.out (by assumption)) X0.out).mono ?_); rintro e v11 ⟨rfl, ha⟩; have B11 := Lib.hid ha; clear ha) | ((with_reducible refine (ahead1_a (Hid.out (by assumption)) T1.out).mono ?_); rintro e v12 ⟨rfl, ha⟩; have B12 := Lib.hid ha; clear ha) | ((with_reducible refine (node_a (Hid.out (by assumption)) HN.out).mono ?_); rintro e v1 ⟨rfl, ha⟩; have B1 := Lib.hid ha; have C1 := Lib.hid (ha.alloc (ndO n)); dsimp only [ndV]; clear ha) | ((with_reducible refine (typed_a (Hid.out (by assumption)) H1.out).mono ?_); rintro e v2 ⟨rfl, ha⟩; have B2 := Lib.hid ha; clear ha) | ((with_reducible refine (name_a (Hid.out (by assumption)) H2.out).mono ?_); rintro e v3 ⟨rfl, ha⟩; have B3 := Lib.hid ha; obtain ⟨f0, f1, f2, f3, f4, f5, f6, f7, f8, g0, g1, g2, g3, g4, g5, g6, g7, g8⟩ := nv9 ha.loc; have C4 := Lib.hid ((ha.set 7 (.int .i64 q)).set 5 (.string (bt tk.text))); clear ha) | ((with_reducible refine (took_y (Hid.out (by assumption)) X3.out H3.out).mono ?_); rintro e v4 ⟨rfl, ha⟩; have B4 := Lib.hid ha; clear ha) | ((with_reducible refine (commas_new _ _ _ _ _).mono ?_); rintro e v5 ⟨rfl, rfl⟩; have hB4 := B4.out; have C5 := (hB4.alloc (bxO c)).alloc (fnO (.func (.func 101) #[.pointer (some ⟨c.p, 0, none⟩)] #[])); rw [World.size_alloc] at C5; have D5 := Lib.hid C5; clear C5 hB4) | ((with_reducible refine (list_commas D5.out (by simp) X4.out).mono ?_); rintro e v6 ⟨rfl, ha⟩; obtain ⟨f0, f1, f2, f3, f4, f5, f6, f7, f8, g0, g1, g2, g3, g4, g5, g6, g7, g8⟩ := nv9 ha.drop.drop.loc; have C6 := Lib.hid ((ha.drop.drop.set 0 (.int .i64 50)).set 1 (.int .i64 (-1))); clear ha) | ((with_reducible refine (need_a (Hid.out (by assumption)) H4.out).mono ?_); rintro e v7 ⟨rfl, ha⟩; have B7 := Lib.hid ha; clear ha) | ((with_reducible refine (hbl.a (Hid.out (by assumption)) H5.out).mono ?_); rintro e v8 ⟨rfl, ha⟩; have B8 := Lib.hid ha; obtain ⟨p0, p1, p2, p3, p4, p5, p6, p7, p8, o0, o1, o2, o3, o4, o5, o6, o7, o8⟩ := nv9 ha.loc; have C8 := Lib.hid (ha.set 2 (.int .i64 z)); clear ha) | ((with_reducible refine (add_a (nd := ⟨50, -1, z, n.c, n.d, tk.text, n.n, q, n.pos⟩) (Hid.out (by assumption)) H6.out).mono ?_); rintro e v9 ⟨rfl, ha⟩; have B9 := Lib.hid ha; clear ha))
  go_ret
  exact B9.out.done rfl
set_option maxHeartbeats 2000000 in
theorem whole_gl1 {f : Nat} {w : World} {vn vt : Value} {s s1 s2 s3 s4 s' : S} {q z r : Int} {tk : Tok} (h : PIn w c vn vt E s) (x0 : isT E s wStruct = true) (x1 : (ahd E s 1).k ≠ 1)
    (h1 : typedF f E s = some (q, s1)) (h2 : kindT E 1 s1 = some (tk, s2)) (x3 : isT E s2 [40] = false) (h3 : countedF E q s2 = some (z, s3)) (x4 : isT E s3 [61] = false) (h4 : needT E [59] s3 = some s4)
    (h6 : addT { nodeAt E s 52 with ty := z, text := tk.text } s4 = some (r, s')) : Calls Tryz.prog 72 #[.pointer (some ⟨c.p, 0, none⟩)] w (Post c vn vt E (.int .i64 r) s' w) := by
  have A0 := Lib.hid (At.start h); clear h
  obtain ⟨n, hn⟩ : ∃ n, nodeAt E s 52 = n := ⟨_, rfl⟩
  have h6' : addT ⟨n.kind, n.a, n.b, n.c, n.d, tk.text, n.n, z, n.pos⟩ s4 = some (r, s') := by rw [← hn]; exact h6
  have HN := Lib.hid hn
  have H1 := Lib.hid h1
  have H2 := Lib.hid h2
  have X3 := Lib.hid x3
  have H3 := Lib.hid h3
  have X4 := Lib.hid x4
  have H4 := Lib.hid h4
  have H6 := Lib.hid h6'
  clear hn h1 h2 x3 h3 x4 h4 h6 h6'
  have X0 := Lib.hid x0; clear x0
  obtain ⟨t1, ht1⟩ : ∃ t, ahd E s 1 = t := ⟨_, rfl⟩
  rw [ht1] at x1
  have y0 := fld0
  have T1 := Lib.hid ht1; clear ht1
  have z1 : (t1.k == 1) = false := by simpa using x1
  clear x1
  go_enter Tryz.func72, Tryz.ntmps72
  go_wp2_with (first | ((with_reducible refine (is_a (Hid.out (by assumption)) X0.out).mono ?_); rintro e v11 ⟨rfl, ha⟩; have B11 := Lib.hid ha; clear ha) | ((with_reducible refine (ahead1_a (Hid.out (by assumption)) T1.out).mono ?_); rintro e v12 ⟨rfl, ha⟩; have B12 := Lib.hid ha; clear ha) | ((with_reducible refine (node_a (Hid.out (by assumption)) HN.out).mono ?_); rintro e v1 ⟨rfl, ha⟩; have B1 := Lib.hid ha; have C1 := Lib.hid (ha.alloc (ndO n)); dsimp only [ndV]; clear ha) | ((with_reducible refine (typed_a (Hid.out (by assumption)) H1.out).mono ?_); rintro e v2 ⟨rfl, ha⟩; have B2 := Lib.hid ha; clear ha) | ((with_reducible refine (name_a (Hid.out (by assumption)) H2.out).mono ?_); rintro e v3 ⟨rfl, ha⟩; have B3 := Lib.hid ha; obtain ⟨f0, f1, f2, f3, f4, f5, f6, f7, f8, g0, g1, g2, g3, g4, g5, g6, g7, g8⟩ := nv9 ha.loc; have C4 := Lib.hid ((ha.set 7 (.int .i64 q)).set 5 (.string (bt tk.text))); clear ha) | ((with_reducible refine (took_n (Hid.out (by assumption)) X3.out).mono ?_); rintro e v4 ⟨rfl, ha⟩; have B4 := Lib.hid ha; obtain ⟨p0, p1, p2, p3, p4, p5, p6, p7, p8, o0, o1, o2, o3, o4, o5, o6, o7, o8⟩ := nv9 ha.loc; clear ha) | ((with_reducible refine (counted_a (Hid.out (by assumption)) H3.out).mono ?_); rintro e v5 ⟨rfl, ha⟩; have B5 := Lib.hid ha; obtain ⟨k0, k1, k2, k3, k4, k5, k6, k7, k8, m0, m1, m2, m3, m4, m5, m6, m7, m8⟩ := nv9 ha.loc; have C5 := Lib.hid (ha.set 7 (.int .i64 z)); clear ha) | ((with_reducible refine (took_n (Hid.out (by assumption)) X4.out).mono ?_); rintro e v6 ⟨rfl, ha⟩; have B6 := Lib.hid ha; clear ha) | ((with_reducible refine (need_a (Hid.out (by assumption)) H4.out).mono ?_); rintro e v7 ⟨rfl, ha⟩; have B7 := Lib.hid ha; obtain ⟨r0, r1, r2, r3, r4, r5, r6, r7, r8, t0, t1, t2, t3, t4, t5, t6, t7, t8⟩ := nv9 ha.loc; clear ha) | ((with_reducible refine (add_a (nd := ⟨n.kind, n.a, n.b, n.c, n.d, tk.text, n.n, z, n.pos⟩) (Hid.out (by assumption)) H6.out).mono ?_); rintro e v8 ⟨rfl, ha⟩; have B8 := Lib.hid ha; clear ha))
  go_ret
  exact B8.out.done rfl
set_option maxHeartbeats 2000000 in
theorem whole_fn2 {f : Nat} (hf : f ≤ 1000000) {w : World} {vn vt : Value} {s s1 s2 s3 s4 s5 s' : S} {q z r : Int} {tk : Tok} (h : PIn w c vn vt E s) (x0 : isT E s wStruct = true) (x1 : (ahd E s 1).k = 1) (x2 : sameT (ahd E s 2) [123] = false)
    (h1 : typedF f E s = some (q, s1)) (h2 : kindT E 1 s1 = some (tk, s2)) (x3 : isT E s2 [40] = true) (h3 : takeT s2 = some s3) (x4 : isT E s3 [41] = true) (h4 : takeT s3 = some s4) (h5 : blockF f E s4 = some (z, s5))
    (h6 : addT { nodeAt E s 50 with ty := q, text := tk.text, b := z } s5 = some (r, s')) : Calls Tryz.prog 72 #[.pointer (some ⟨c.p, 0, none⟩)] w (Post c vn vt E (.int .i64 r) s' w) := by
  have A0 := Lib.hid (At.start h); clear h
  obtain ⟨n, hn⟩ : ∃ n, nodeAt E s 52 = n := ⟨_, rfl⟩
  have h6' : addT ⟨50, -1, z, n.c, n.d, tk.text, n.n, q, n.pos⟩ s5 = some (r, s') := by rw [← hn]; exact h6
  have h4' : needT E [41] s3 = some s4 := by unfold needT; rw [if_pos x4]; exact h4
  have HN := Lib.hid hn
  have H1 := Lib.hid h1
  have H2 := Lib.hid h2
  have X3 := Lib.hid x3
  have H3 := Lib.hid h3
  have X4 := Lib.hid x4
  have H4 := Lib.hid h4'
  have H5 := Lib.hid h5
  have H6 := Lib.hid h6'
  have hbl := block_p (c := c) (E := E) hf
  clear hn h1 h2 x3 h3 x4 h4 h5 h6 h6' h4'
  have X0 := Lib.hid x0; clear x0
  obtain ⟨t1, ht1⟩ : ∃ t, ahd E s 1 = t := ⟨_, rfl⟩
  rw [ht1] at x1
  have y0 := fld0
  have T1 := Lib.hid ht1; clear ht1
  have z1 : (t1.k == 1) = true := by simpa using x1
  clear x1
  obtain ⟨t2, ht2⟩ : ∃ t, ahd E s 2 = t := ⟨_, rfl⟩
  rw [ht2] at x2
  have T2 := Lib.hid ht2; clear ht2
  have X2 := Lib.hid x2; clear x2
  go_enter Tryz.func72, Tryz.ntmps72
  go_wp2_with (first | ((with_reducible refine (is_a (Hid.out (by assumption)) X0.out).mono ?_); rintro e v11 ⟨rfl, ha⟩; have B11 := Lib.hid ha; clear ha) | ((with_reducible refine (ahead1_a (Hid.out (by assumption)) T1.out).mono ?_); rintro e v12 ⟨rfl, ha⟩; have B12 := Lib.hid ha; clear ha) | ((with_reducible refine (ahead2_a (Hid.out (by assumption)) T2.out).mono ?_); rintro e v13 ⟨rfl, ha⟩; have B13 := Lib.hid ha; clear ha) | ((with_reducible refine (same_a (Hid.out (by assumption)) X2.out).mono ?_); rintro e v14 ⟨rfl, ha⟩; have B14 := Lib.hid ha; clear ha) | ((with_reducible refine (node_a (Hid.out (by assumption)) HN.out).mono ?_); rintro e v1 ⟨rfl, ha⟩; have B1 := Lib.hid ha; have C1 := Lib.hid (ha.alloc (ndO n)); dsimp only [ndV]; clear ha) | ((with_reducible refine (typed_a (Hid.out (by assumption)) H1.out).mono ?_); rintro e v2 ⟨rfl, ha⟩; have B2 := Lib.hid ha; clear ha) | ((with_reducible refine (name_a (Hid.out (by assumption)) H2.out).mono ?_); rintro e v3 ⟨rfl, ha⟩; have B3 := Lib.hid ha; obtain ⟨f0, f1, f2, f3, f4, f5, f6, f7, f8, g0, g1, g2, g3, g4, g5, g6, g7, g8⟩ := nv9 ha.loc; have C4 := Lib.hid ((ha.set 7 (.int .i64 q)).set 5 (.string (bt tk.text))); clear ha) | ((with_reducible refine (took_y (Hid.out (by assumption)) X3.out H3.out).mono ?_); rintro e v4 ⟨rfl, ha⟩; have B4 := Lib.hid ha; clear ha) | ((with_reducible refine (commas_new _ _ _ _ _).mono ?_); rintro e v5 ⟨rfl, rfl⟩; have hB4 := B4.out; have C5 := (hB4.alloc (bxO c)).alloc (fnO (.func (.func 101) #[.pointer (some ⟨c.p, 0, none⟩)] #[])); rw [World.size_alloc] at C5; have D5 := Lib.hid C5; clear C5 hB4) | ((with_reducible refine (list_commas D5.out (by simp) X4.out).mono ?_); rintro e v6 ⟨rfl, ha⟩; obtain ⟨f0, f1, f2, f3, f4, f5, f6, f7, f8, g0, g1, g2, g3, g4, g5, g6, g7, g8⟩ := nv9 ha.drop.drop.loc; have C6 := Lib.hid ((ha.drop.drop.set 0 (.int .i64 50)).set 1 (.int .i64 (-1))); clear ha) | ((with_reducible refine (need_a (Hid.out (by assumption)) H4.out).mono ?_); rintro e v7 ⟨rfl, ha⟩; have B7 := Lib.hid ha; clear ha) | ((with_reducible refine (hbl.a (Hid.out (by assumption)) H5.out).mono ?_); rintro e v8 ⟨rfl, ha⟩; have B8 := Lib.hid ha; obtain ⟨p0, p1, p2, p3, p4, p5, p6, p7, p8, o0, o1, o2, o3, o4, o5, o6, o7, o8⟩ := nv9 ha.loc; have C8 := Lib.hid (ha.set 2 (.int .i64 z)); clear ha) | ((with_reducible refine (add_a (nd := ⟨50, -1, z, n.c, n.d, tk.text, n.n, q, n.pos⟩) (Hid.out (by assumption)) H6.out).mono ?_); rintro e v9 ⟨rfl, ha⟩; have B9 := Lib.hid ha; clear ha))
  go_ret
  exact B9.out.done rfl
set_option maxHeartbeats 2000000 in
theorem whole_gl2 {f : Nat} {w : World} {vn vt : Value} {s s1 s2 s3 s4 s' : S} {q z r : Int} {tk : Tok} (h : PIn w c vn vt E s) (x0 : isT E s wStruct = true) (x1 : (ahd E s 1).k = 1) (x2 : sameT (ahd E s 2) [123] = false)
    (h1 : typedF f E s = some (q, s1)) (h2 : kindT E 1 s1 = some (tk, s2)) (x3 : isT E s2 [40] = false) (h3 : countedF E q s2 = some (z, s3)) (x4 : isT E s3 [61] = false) (h4 : needT E [59] s3 = some s4)
    (h6 : addT { nodeAt E s 52 with ty := z, text := tk.text } s4 = some (r, s')) : Calls Tryz.prog 72 #[.pointer (some ⟨c.p, 0, none⟩)] w (Post c vn vt E (.int .i64 r) s' w) := by
  have A0 := Lib.hid (At.start h); clear h
  obtain ⟨n, hn⟩ : ∃ n, nodeAt E s 52 = n := ⟨_, rfl⟩
  have h6' : addT ⟨n.kind, n.a, n.b, n.c, n.d, tk.text, n.n, z, n.pos⟩ s4 = some (r, s') := by rw [← hn]; exact h6
  have HN := Lib.hid hn
  have H1 := Lib.hid h1
  have H2 := Lib.hid h2
  have X3 := Lib.hid x3
  have H3 := Lib.hid h3
  have X4 := Lib.hid x4
  have H4 := Lib.hid h4
  have H6 := Lib.hid h6'
  clear hn h1 h2 x3 h3 x4 h4 h6 h6'
  have X0 := Lib.hid x0; clear x0
  obtain ⟨t1, ht1⟩ : ∃ t, ahd E s 1 = t := ⟨_, rfl⟩
  rw [ht1] at x1
  have y0 := fld0
  have T1 := Lib.hid ht1; clear ht1
  have z1 : (t1.k == 1) = true := by simpa using x1
  clear x1
  obtain ⟨t2, ht2⟩ : ∃ t, ahd E s 2 = t := ⟨_, rfl⟩
  rw [ht2] at x2
  have T2 := Lib.hid ht2; clear ht2
  have X2 := Lib.hid x2; clear x2
  go_enter Tryz.func72, Tryz.ntmps72
  go_wp2_with (first | ((with_reducible refine (is_a (Hid.out (by assumption)) X0.out).mono ?_); rintro e v11 ⟨rfl, ha⟩; have B11 := Lib.hid ha; clear ha) | ((with_reducible refine (ahead1_a (Hid.out (by assumption)) T1.out).mono ?_); rintro e v12 ⟨rfl, ha⟩; have B12 := Lib.hid ha; clear ha) | ((with_reducible refine (ahead2_a (Hid.out (by assumption)) T2.out).mono ?_); rintro e v13 ⟨rfl, ha⟩; have B13 := Lib.hid ha; clear ha) | ((with_reducible refine (same_a (Hid.out (by assumption)) X2.out).mono ?_); rintro e v14 ⟨rfl, ha⟩; have B14 := Lib.hid ha; clear ha) | ((with_reducible refine (node_a (Hid.out (by assumption)) HN.out).mono ?_); rintro e v1 ⟨rfl, ha⟩; have B1 := Lib.hid ha; have C1 := Lib.hid (ha.alloc (ndO n)); dsimp only [ndV]; clear ha) | ((with_reducible refine (typed_a (Hid.out (by assumption)) H1.out).mono ?_); rintro e v2 ⟨rfl, ha⟩; have B2 := Lib.hid ha; clear ha) | ((with_reducible refine (name_a (Hid.out (by assumption)) H2.out).mono ?_); rintro e v3 ⟨rfl, ha⟩; have B3 := Lib.hid ha; obtain ⟨f0, f1, f2, f3, f4, f5, f6, f7, f8, g0, g1, g2, g3, g4, g5, g6, g7, g8⟩ := nv9 ha.loc; have C4 := Lib.hid ((ha.set 7 (.int .i64 q)).set 5 (.string (bt tk.text))); clear ha) | ((with_reducible refine (took_n (Hid.out (by assumption)) X3.out).mono ?_); rintro e v4 ⟨rfl, ha⟩; have B4 := Lib.hid ha; obtain ⟨p0, p1, p2, p3, p4, p5, p6, p7, p8, o0, o1, o2, o3, o4, o5, o6, o7, o8⟩ := nv9 ha.loc; clear ha) | ((with_reducible refine (counted_a (Hid.out (by assumption)) H3.out).mono ?_); rintro e v5 ⟨rfl, ha⟩; have B5 := Lib.hid ha; obtain ⟨k0, k1, k2, k3, k4, k5, k6, k7, k8, m0, m1, m2, m3, m4, m5, m6, m7, m8⟩ := nv9 ha.loc; have C5 := Lib.hid (ha.set 7 (.int .i64 z)); clear ha) | ((with_reducible refine (took_n (Hid.out (by assumption)) X4.out).mono ?_); rintro e v6 ⟨rfl, ha⟩; have B6 := Lib.hid ha; clear ha) | ((with_reducible refine (need_a (Hid.out (by assumption)) H4.out).mono ?_); rintro e v7 ⟨rfl, ha⟩; have B7 := Lib.hid ha; obtain ⟨r0, r1, r2, r3, r4, r5, r6, r7, r8, t0, t1, t2, t3, t4, t5, t6, t7, t8⟩ := nv9 ha.loc; clear ha) | ((with_reducible refine (add_a (nd := ⟨n.kind, n.a, n.b, n.c, n.d, tk.text, n.n, z, n.pos⟩) (Hid.out (by assumption)) H6.out).mono ?_); rintro e v8 ⟨rfl, ha⟩; have B8 := Lib.hid ha; clear ha))
  go_ret
  exact B8.out.done rfl
theorem whole_p {f : Nat} (hf : f ≤ 1000000) : Reads c E 72 (wholeF f E) := by
  intro w vn vt s r s' hs h
  unfold wholeF at hs
  by_cases hx : isT E s wStruct ∧ (ahd E s 1).k = 1 ∧ sameT (ahd E s 2) [123] = true
  case pos => rw [if_pos hx] at hs; cases hs
  rw [if_neg hx] at hs
  obtain ⟨⟨q, s1⟩, h1, hs⟩ := Option.bind_eq_some_iff.1 hs
  obtain ⟨⟨tk, s2⟩, h2, hs⟩ := Option.bind_eq_some_iff.1 hs
  dsimp only at h2 hs
  by_cases x3 : isT E s2 [40] = true
  · rw [if_pos x3] at hs
    obtain ⟨s3, h3, hs⟩ := Option.bind_eq_some_iff.1 hs
    by_cases x4 : isT E s3 [41] = true
    case neg => rw [if_neg x4] at hs; cases hs
    rw [if_pos x4] at hs
    obtain ⟨s4, h4, hs⟩ := Option.bind_eq_some_iff.1 hs
    obtain ⟨⟨z, s5⟩, h5, h6⟩ := Option.bind_eq_some_iff.1 hs
    by_cases y0 : isT E s wStruct = true
    · by_cases y1 : (ahd E s 1).k = 1
      · exact whole_fn2 hf h y0 y1 (bfalse fun e => hx ⟨y0, y1, e⟩) h1 h2 x3 h3 x4 h4 h5 h6
      · exact whole_fn1 hf h y0 y1 h1 h2 x3 h3 x4 h4 h5 h6
    · exact whole_fn0 hf h (bfalse y0) h1 h2 x3 h3 x4 h4 h5 h6
  · rw [if_neg x3] at hs
    obtain ⟨⟨z, s3⟩, h3, hs⟩ := Option.bind_eq_some_iff.1 hs
    dsimp only at hs
    by_cases x4 : isT E s3 [61] = true
    case pos => rw [if_pos x4] at hs; cases hs
    rw [if_neg x4] at hs
    obtain ⟨s4, h4, h6⟩ := Option.bind_eq_some_iff.1 hs
    by_cases y0 : isT E s wStruct = true
    · by_cases y1 : (ahd E s 1).k = 1
      · exact whole_gl2 h y0 y1 (bfalse fun e => hx ⟨y0, y1, e⟩) h1 h2 (bfalse x3) h3 (bfalse x4) h4 h6
      · exact whole_gl1 h y0 y1 h1 h2 (bfalse x3) h3 (bfalse x4) h4 h6
    · exact whole_gl0 h (bfalse y0) h1 h2 (bfalse x3) h3 (bfalse x4) h4 h6
end
end Go.Proofs.YtaamllikceaifaaGreatDoor
namespace Go.Proofs.YtaamllikceaifaaGreatDoor
open Go.RowKit Sp Tr Go.Shelf
set_option linter.unusedVariables false

/-- A parser whose tree is whole. -/
structure TIn (w : World) (c : PC) (vn vt : Value) (s : S) (top : Int) : Prop where
  c7 : w.cell? ⟨c.p, 7, none⟩ = some vn
  c8 : w.cell? ⟨c.p, 8, none⟩ = some vt
  c9 : w.cell? ⟨c.p, 9, none⟩ = some (.int .i64 top)
  nodes : w.ownsRow c.B 33 9 vn s.nodes.length (s.nodes.flatMap ndCells)
  types : w.ownsRow c.B 36 4 vt s.types.length (s.types.flatMap tyCells)
  ln : s.nodes.length ≤ 8192
  lt : s.types.length ≤ 256
  ge : c.B ≤ c.p
section
variable {w0 w : World} {c : PC} {v u : Value} {E : PE} {s s' : S} {L : List (Nat × Obj)}
theorem At.top (h0 : PIn w0 c v u E s) (h : At w0 c v u E s' L w) (q : Int) : ∃ vn vt, TIn (w.setCell ⟨c.p, 9, none⟩ (.int .i64 q)) c vn vt s' q ∧ (∀ x ∈ L, Out c vn vt x.1) ∧ Below c.B w0 (w.setCell ⟨c.p, 9, none⟩ (.int .i64 q)) := by
  obtain ⟨vn, vt, h1, h2, h3, h4⟩ := h
  have hz : ∀ k, k ≠ c.p → (w.setCell ⟨c.p, 9, none⟩ (.int .i64 q)).heap[k]? = w.heap[k]? := fun k hk => Below.heap_setCell _ _ _ _ (by simpa using hk)
  have hh := cells_set h1.head 9 (.int .i64 q)
  refine ⟨vn, vt, ⟨?_, ?_, ?_, own_keep h1.nodes fun g hg => hz g (fun e => h1.apn (by rw [hg, e])), own_keep h1.types fun g hg => hz g (fun e => h1.apt (by rw [hg, e])), h1.ln, h1.lt, h1.ge⟩, fun x hx => (h3 x hx).2.1, (h0.turn_below h2).setCell (p := ⟨c.p, 9, none⟩) h1.ge _⟩
  · rw [cell_of_row _ c.p _ _ _ _ hh]; rfl
  · rw [cell_of_row _ c.p _ _ _ _ hh]; rfl
  · rw [cell_of_row _ c.p _ _ _ _ hh]; rfl
theorem TIn.set {vn vt : Value} {q : Int} (h : TIn w c vn vt s q) {b : Nat} (hb : Out c vn vt b) (j : Nat) (x : Value) : TIn (w.setCell ⟨b, j, none⟩ x) c vn vt s q := by
  have hz : ∀ k, k ≠ b → (w.setCell ⟨b, j, none⟩ x).heap[k]? = w.heap[k]? := fun k hk => Below.heap_setCell _ _ _ _ (by simpa using hk)
  have hc : ∀ o, (w.setCell ⟨b, j, none⟩ x).cell? ⟨c.p, o, none⟩ = w.cell? ⟨c.p, o, none⟩ := fun o => World.cell?_of_block (hz c.p (Ne.symm hb.p))
  exact ⟨(hc _).trans h.c7, (hc _).trans h.c8, (hc _).trans h.c9, own_keep h.nodes fun g hg => hz g (fun e => hb.n (by rw [hg, e])), own_keep h.types fun g hg => hz g (fun e => hb.t (by rw [hg, e])), h.ln, h.lt, h.ge⟩
theorem catch_idle (p q : Option Addr) (w : World) :
    CallsD Tryz.prog 48 #[.pointer p, .pointer q] .returning w fun e u' w' => e = .returned (.tuple #[]) ∧ u' = .returning ∧ w' = w := by
  refine callsD_of_wpS Tryz.func48 rfl fun c₀ cs hu => ?_
  apply wpS_seq
  apply wpS_region
  simp [wpOpsS, go_sem, recoverD, hu, Tryz.ntmps48, Exit.thenS]
  refine wpS_cond (t := false) (by simp [Act.eval, Array.replicate]) ?_
  simp only [Bool.false_eq_true, if_false]
  refine wpS_of_wp (wp_skip ?_)
  cases c₀
  simp_all [bodyPostS, results, Tryz.results48]
set_option maxHeartbeats 1000000 in
theorem program_p {f : Nat} (hf : f ≤ 1000000) {vn vt : Value} {s1 : S} {xs : List Int} {q : Int} (h : PIn w c vn vt E s) (h1 : wholesF f (wholeF f E) E s = some (xs, s1)) (h2 : listOf xs s1 = some (q, s')) :
    Calls Tryz.prog 26 #[.pointer (some ⟨c.p, 0, none⟩)] w fun e w' => e = .returned (.int .i64 0) ∧ ∃ vn' vt', TIn w' c vn' vt' s' q ∧ Below c.B w w' := by
  have hmf : ∀ (fn : Fn) (first cap : Array Value) (w : World), (Instr.makeFunc fn first cap).run Tryz.prog w = .ok (.func fn first cap) w := fun _ _ _ _ => rfl
  have A0 := Lib.hid (At.start h)
  have hl := wholesF_len f _ _ _ h1
  have hl2 : xs.length ≤ 1000000 := by omega
  have hi : ∀ w v u, IterOK w c v u E 50 #[.pointer (some ⟨c.p, 0, none⟩)] #[] s s1 xs := fun w v u => wholes_iter (whole_p hf) hf h1
  have eg : ∀ args w, (callFunc 50 args).run Tryz.prog w = .ok (.enter 50 args) w := enters_of Tryz.func50 (by kernel_rfl) rfl
  have A1 : Hid (At w c vn vt E s [(w.heap.size + 1, .cells #[.int .i64 0] 27 (0, 0)), (w.heap.size, bxO c)] ((w.alloc (bxO c)).alloc (.cells #[.int .i64 0] 27)).drew) := by
    have := (A0.out.alloc (bxO c)).alloc (.cells #[.int .i64 0] 27)
    rw [World.size_alloc] at this
    exact Lib.hid this.drew
  have hp := lt_heap h.head
  have hn1 : ¬ w.heap.size + 1 = c.p := by omega
  have hn2 : ¬ c.p = w.heap.size + 1 := by omega
  have HP := Lib.hid h; clear h
  have H2 := Lib.hid h2; clear h2 h1 hl
  go_enter_defers Tryz.func26, Tryz.ntmps26
  go_wp2
  refine wp_region_noPanic ?_
  go_region_with ((with_reducible refine (list_a A1.out eg hi hl2 H2.out).mono ?_); rintro e v1 ⟨rfl, ha⟩; have hb0 := ha.mem (x := (w.heap.size, bxO c)) (by simp); have cb0 := (nv1 hb0).1; obtain ⟨cb1, fb1⟩ := nv1 ha.loc; obtain ⟨vx, vy, hx, _⟩ := id ha; have c9 := hx.cells.2.2.2.2.2.2.2.2.2; have f9 := hx.frozen 9; have B1 := Lib.hid ha; clear ha hb0 hx)
  all_goals
    refine NoPanic.normal ?_
    obtain ⟨vn', vt', hT, hO, hB⟩ := At.top HP.out B1.out q
    have HT := Lib.hid hT
    have HO := Lib.hid hO
    have HB := Lib.hid hB
    clear hT hO hB
    go_wp2
    refine leaves_cons (f := 48) (args := #[.pointer (some ⟨w.heap.size, 0, none⟩), .pointer (some ⟨w.heap.size + 1, 0, none⟩)]) (by simp) (by simp [go_sem]) ?_
    refine (catch_idle _ _ _).mono ?_
    rintro e u' w'' ⟨rfl, rfl, rfl⟩
    exact ⟨.int .i64 0, by simp [results, Tryz.results26, go_sem, cb1], rfl, vn', vt', HT.out.set (HO.out (w.heap.size + 1, .cells #[.int .i64 0] 27 (0, 0)) (by simp)) 0 _, HB.out.setCell (p := ⟨w.heap.size + 1, 0, none⟩) (by have := HP.out.ge; simp; omega) _⟩
end
end Go.Proofs.YtaamllikceaifaaGreatDoor
