/-
  A range over a function of the parser: what an iterator owes, and the law of the statement.
-/
import Derived.Test.YtkgnmlllmihmlaaGreatDoorExpr
import Derived.RangeFuncNested
import Derived.RangeFuncBound
import Derived.RangeFuncCalls
import Derived.RangeFuncLeaves
import Derived.Shelf.RegionOpen
import Derived.OwnWalkIn
import Derived.TacticsInMore
import Derived.LoopNIn
import Derived.LoopIn
import Derived.RegionIn
import Derived.Maps.AppendAt
namespace Go.Proofs.YtkgnmlllmihmlaaGreatDoor
open Go.RowKit Sp Tr Go.Shelf
set_option linter.unusedVariables false

section
variable {w0 w : World} {c : PC} {v u : Value} {E : PE} {s s' : S} {L : List (Nat × Obj)}
theorem At.putObj {b : Nat} {o : Obj} (h : At w0 c v u E s ((b, o) :: L) w) (o' : Obj) : At w0 c v u E s ((b, o') :: L) (w.putObj b o') :=
  h.put (World.putObj_heap_same (lt_heap h.loc)) (fun k hk => World.putObj_heap_other hk) (by simp) rfl rfl rfl

/-- What an iterator owes: it hands on xs, one by one; J: what the loop's own blocks hold when so much has come. -/
def IterOK (w0 : World) (c : PC) (v u : Value) (E : PE) (fn : Nat) (first cap : Array Value) (s s' : S) (xs : List Int) : Prop :=
  ∀ (n l : Nat) (J : List Int → List (Nat × Obj) → Prop) (L : List (Nat × Obj)) (W : World),
    (∀ pre x L W s1, J pre L → pre.length < 1000000 → At w0 c v u E s1 L W → YieldAt Fence.wide (n - 1) Tryz.prog l #[.int .i64 x] W fun e W' => e = .returned (.bool true) ∧ ∃ L', J (pre ++ [x]) L' ∧ At w0 c v u E s1 L' W') →
    J [] L → At w0 c v u E s L W →
    CallsIn Fence.wide n Tryz.prog fn (first ++ #[.func (.yield l) #[] #[]] ++ cap) W fun e W' => (∃ r, e = .returned r) ∧ ∃ L', J xs L' ∧ At w0 c v u E s' L' W'
/-- How a round's body may end. -/
def endsOK (w0 : World) (c : PC) (v u : Value) (E : PE) (s : S) (K : List (Nat × Obj) → Prop) : Exit → Act → World → Prop
  | .normal, _, W => ∃ L, K L ∧ At w0 c v u E s L W
  | _, _, _ => False
theorem range_at {g : Operand} {p : Tmp} {assign body : Code} {Q : Exit → Act → World → Prop} {a : Act} {fn : Nat} {first cap : Array Value} {xs : List Int}
    (hi : IterOK w0 c v u E fn first cap s s' xs) (eg : ∀ args w, (callFunc fn args).run Tryz.prog w = .ok (.enter fn args) w) (hg : a.eval g = .func (.func fn) first cap) (hA : At w0 c v u E s L w)
    (J : List Int → List (Nat × Obj) → Prop) (hJ : J [] L) (a1 : Int → Act)
    (hassign : ∀ (l : Nat) (x : Int) (W : World) (K : Act → World → Prop), K (a1 x) W → assign.wpIn (Fence.wide.inRound l) 0 Tryz.prog (Exit.then K (fun _ _ _ => False)) { tmps := a.tmps.setIfInBounds p (.int .i64 x), defers := [] } W)
    (hbody : ∀ (l : Nat) (pre : List Int) (x : Int) (X L : List (Nat × Obj)) (W : World) (s1 : S), J pre L → pre.length < 1000000 → At w0 c v u E s1 (X ++ L) W → body.wpIn (Fence.wide.inRound l) 0 Tryz.prog (endsOK w0 c v u E s1 fun L' => ∃ L1, L' = X ++ L1 ∧ J (pre ++ [x]) L1) (a1 x) W)
    (hdone : ∀ (D : Nat) (o : Obj) (l : Nat) (L : List (Nat × Obj)) (W : World), J xs L → At w0 c v u E s' ((D, .deferred (some [])) :: (l, o) :: L) W → Q .normal { a with defers := { target := .collected D, args := #[] } :: a.defers } W) :
    (Code.rangeFunc g #[p] assign body).wpIn Fence.wide 0 Tryz.prog Q a w := by
  refine wpIn_rangeFunc ?_
  intro f hf
  obtain ⟨rec, hrec⟩ : ∃ rec : LoopState → Option Code → Loop, rec = fun st pe => { state := st, pending := pe, fn := f, tmps := a.tmps, params := #[p], assign, body, defers := w.heap.size } := ⟨_, rfl⟩
  obtain ⟨W1, hW1⟩ : ∃ W1 : World, (w.alloc (.deferred (some []))).alloc (.loop (rec .ready none)) = W1 := ⟨_, rfl⟩
  have hA1 : At w0 c v u E s ((w.heap.size + 1, .loop (rec .ready none)) :: (w.heap.size, .deferred (some [])) :: L) W1 := by
    have := (hA.alloc (.deferred (some []))).alloc (.loop (rec .ready none))
    rw [World.size_alloc, hW1] at this
    exact this
  refine ⟨w.heap.size + 1, [{ target := .collected w.heap.size, args := #[] }], W1, { target := .fn (.func fn) cap, args := first ++ #[.func (.yield (w.heap.size + 1)) #[] #[]] }, W1, fn,
    first ++ #[.func (.yield (w.heap.size + 1)) #[] #[]] ++ cap, W1, ?_, ?_, ?_, ?_, fun h => by simp [Fence.wide] at h, ?_⟩
  · rw [← hW1, hrec]; exact run_enterLoop_outer _ _ _ _ _
  · simp only [resolve, hg]
    simp [go_sem]
  · intro f' hf'; trivial
  · simp [invoke, go_sem, eg]
  · refine (hi (0 - 1) (w.heap.size + 1) (fun pre L' => ∃ L1, L' = (w.heap.size + 1, .loop (rec .ready none)) :: (w.heap.size, .deferred (some [])) :: L1 ∧ J pre L1) _ _ ?_ ⟨L, rfl, hJ⟩ hA1).mono ?_
    · rintro pre x _ W s1 ⟨L1, rfl, hj⟩ hlen hA2
      have hl := hA2.loc
      have hy := run_yield (P := Tryz.prog) (args := #[.int .i64 x]) hl (by rw [hrec]; rfl)
      have hp : (rec .ready none).tmps = a.tmps ∧ (rec .ready none).params = #[p] ∧ (rec .ready none).assign = assign ∧ (rec .ready none).body = body ∧ (rec .ready none).fn = f ∧ (rec .ready none).state = .ready := by rw [hrec]; exact ⟨rfl, rfl, rfl, rfl, rfl, rfl⟩
      obtain ⟨p1, p2, p3, p4, p5, p6⟩ := hp
      rw [p1, p2, p3, p4, p5] at hy
      have hz : (#[p].zip #[(Value.int .i64 x)]).foldl (fun (tmps : Array Value) (t, a) => tmps.setIfInBounds t a) a.tmps = a.tmps.setIfInBounds p (.int .i64 x) := by simp
      rw [hz] at hy
      refine ⟨f, _, assign, body, hy, roundIn_of_wpIn trivial ?_⟩
      refine hassign _ x W _ ?_
      refine ⟨_, run_beginRound hl p6, ?_⟩
      have hA3 := hA2.putObj (.loop { rec .ready none with state := .busy })
      refine wpIn_mono (hbody _ pre x [(w.heap.size + 1, .loop { rec .ready none with state := .busy }), (w.heap.size, .deferred (some []))] L1 _ s1 hj hlen hA3) ?_
      rintro e a3 W3 hp
      cases e with
      | normal =>
        obtain ⟨_, ⟨L2, rfl, hj2⟩, hA4⟩ := hp
        have hl4 : W3.heap[w.heap.size + 1]? = some (.loop { rec .ready none with state := .busy }) := hA4.loc
        refine ⟨_, _, run_endRound none hl4, rfl, _, ⟨L2, rfl, hj2⟩, ?_⟩
        have := At.putObj (L := (w.heap.size, .deferred (some [])) :: L2) hA4 (.loop (rec .ready none))
        rw [hrec] at this ⊢
        exact this
      | ret => exact hp.elim
      | exit id => exact hp.elim
      | goto t => exact hp.elim
      | panic ch => exact hp.elim
      | outgrown => exact hp.elim
    · rintro e W2 ⟨⟨r, rfl⟩, _, ⟨L1, rfl, hj⟩, hA3⟩
      have hl := hA3.loc
      have hb : (rec .ready none).state ≠ .busy := by rw [hrec]; simp
      have h := run_endLoop (P := Tryz.prog) hl hb
      rw [hrec] at h
      exact ⟨none, _, h, hdone _ _ _ _ _ hj ((hA3.putObj _).perm (List.Perm.swap ..))⟩

theorem At.old {b : Nat} {o : Obj} (h : At w0 c v u E s L w) (hb : w0.heap[b]? = some o) (ho : Out c v u b) : w.heap[b]? = some o := by
  obtain ⟨vn, vt, h1, h2, h3, h4⟩ := h
  exact (h2.kept ho (lt_heap hb)).trans hb
/-- What a slice of ints of the method's own holds; R: its block. -/
def RowR (w0 : World) (va : Value) (pre : List Int) (R : List (Nat × Obj)) : Prop :=
  (va = .slice none 0 0 ∧ pre = [] ∧ R = []) ∨ ∃ g cap cur, va = .slice (some ⟨g, 0, none⟩) pre.length cap ∧ R = [(g, .cells cur 3 (0, 0))] ∧ pre.length ≤ cap ∧ cap ≤ maxLen ∧ cur.size = cap ∧ cur.toList.take pre.length = pre.map (Value.int .i64)
theorem At.row {va : Value} {pre : List Int} {R : List (Nat × Obj)} (h : At w0 c v u E s L w) (hr : RowR w0 va pre R) (hR : ∀ x ∈ R, x ∈ L) : w.ownsRow w0.heap.size 3 1 va pre.length (pre.map (Value.int .i64)) := by
  obtain ⟨vn, vt, h1, h2, h3, h4⟩ := h
  rcases hr with ⟨rfl, rfl, rfl⟩ | ⟨g, cap, cur, rfl, rfl, k1, k2, k3, k4⟩
  · exact ⟨rfl, .inl ⟨rfl, rfl⟩⟩
  · have hm := h3 _ (hR _ (List.mem_singleton.2 rfl))
    exact ⟨by simp, .inr ⟨g, cap, cur, rfl, hm.2.2, hm.1, k1, k2, by omega, by rw [Nat.mul_one]; exact k4⟩⟩
theorem At.appended {W w2 w1 : World} {b g cap H : Nat} {va : Value} {t : TypeId} {R Z : List (Nat × Obj)} {pre : List Int} {x : Int} (h : At w0 c v u E s ((b, .cells #[va] t (0, 0)) :: (R ++ Z)) W) (hr : RowR w0 va pre R)
    (hb : Below W.heap.size W w2) (hg : w2.grownBy w1 va.ownBlock) (hown : w1.ownsRow w0.heap.size 3 1 (.slice (some ⟨g, 0, none⟩) (pre.length + 1) cap) (pre.length + 1) (pre.map (Value.int .i64) ++ [.int .i64 x]))
    (hat : va.ownBlock = some g ∨ g = H) (hH : W.heap.size ≤ H) :
    ∃ R', RowR w0 (.slice (some ⟨g, 0, none⟩) (pre.length + 1) cap) (pre ++ [x]) R' ∧ At w0 c v u E s ((b, .cells #[.slice (some ⟨g, 0, none⟩) (pre.length + 1) cap] t (0, 0)) :: (R' ++ Z)) (w1.setCell ⟨b, 0, none⟩ (.slice (some ⟨g, 0, none⟩) (pre.length + 1) cap)) := by
  obtain ⟨vn, vt, h1, h2, h3, h4⟩ := h
  have hsz := hb.size
  have hsz1 := hg.size
  have hk : ∀ k, k < W.heap.size → va.ownBlock ≠ some k → w1.heap[k]? = W.heap[k]? := fun k hk hn => (hg.block k (Nat.lt_of_lt_of_le hk hsz) (Ne.symm hn)).trans (hb.block k hk)
  rw [List.map_cons, List.nodup_cons] at h4
  obtain ⟨hbn, hnd⟩ := h4
  obtain ⟨kb, ob, gb⟩ := h3 _ (List.mem_cons_self ..)
  have hbl := lt_heap kb
  have hR : ∀ k, va.ownBlock = some k → Out c vn vt k ∧ w0.heap.size ≤ k ∧ k < W.heap.size ∧ k ≠ b ∧ ∀ z ∈ Z, z.1 ≠ k := by
    intro k hv
    rcases hr with ⟨rfl, rfl, rfl⟩ | ⟨g', cap', cur, rfl, rfl, _⟩
    · simp [Value.ownBlock] at hv
    · simp [Value.ownBlock] at hv
      subst hv
      have hm := h3 (g', .cells cur 3 (0, 0)) (by simp)
      refine ⟨hm.2.1, hm.2.2, lt_heap hm.1, fun e => hbn (by simp [e]), fun z hz e => ?_⟩
      simp at hnd
      exact hnd.1 z.2 (by rw [← e]; exact hz)
  have hgo : Out c vn vt g ∧ w0.heap.size ≤ g ∧ g ≠ b ∧ ∀ z ∈ Z, z.1 ≠ g := by
    rcases hat with e | rfl
    · have := hR g e; exact ⟨this.1, this.2.1, this.2.2.2.1, this.2.2.2.2⟩
    · refine ⟨h1.fresh hH, Nat.le_trans h2.size hH, by omega, fun z hz e => ?_⟩
      have := lt_heap (h3 z (List.mem_cons_of_mem _ (List.mem_append_right _ hz))).1
      omega
  obtain ⟨og, gg, gbn, gz⟩ := hgo
  rcases hown.2 with ⟨e, _⟩ | ⟨g', cap', cur', hv', hge, hh, hle, hcm, hcs, htk⟩
  · cases e
  simp only [Value.slice.injEq, Option.some.injEq, Addr.mk.injEq] at hv'
  obtain ⟨⟨rfl, _⟩, _, rfl⟩ := hv'
  have hs : ∀ k, k ≠ b → (w1.setCell ⟨b, 0, none⟩ (.slice (some ⟨g, 0, none⟩) (pre.length + 1) cap)).heap[k]? = w1.heap[k]? := fun k hk => Below.heap_setCell _ _ _ _ (by simpa using hk)
  refine ⟨[(g, .cells cur' 3 (0, 0))], .inr ⟨g, cap, cur', by simp, rfl, by simpa using hle, hcm, by omega, by rw [Nat.mul_one] at htk; simpa using htk⟩, vn, vt, h1.keep fun k hkk hh => ?_, ⟨?_, ?_, ?_, ?_, fun k hkk hp hn ht => ?_, h2.ownN, h2.ownT⟩, fun y hy => ?_, ?_⟩
  · have hne : k ≠ b := by
      rintro rfl
      rcases hh with e | e | e | e | e
      · exact ob.p e
      · exact ob.g e
      · exact ob.n e
      · exact ob.t e
      · exact ob.z e
    rw [hs k hne]
    refine hk k hkk fun e => ?_
    have o := (hR k e).1
    rcases hh with e | e | e | e | e
    · exact o.p e
    · exact o.g e
    · exact o.n e
    · exact o.t e
    · exact o.z e
  · exact hg.os.trans (hb.os.trans h2.os)
  · exact hg.tape.trans (hb.tape.trans h2.tape)
  · exact hg.output.trans (hb.output.trans h2.output)
  · have := h2.size; simp [World.setCell]; omega
  · have hg1 : w0.heap.size ≤ b := gb
    rw [hs k (by omega), hk k (by have := h2.size; omega) (fun e => by have := (hR k e).2.1; omega)]
    exact h2.block k hkk hp hn ht
  · rcases List.mem_cons.1 hy with rfl | hy2
    · exact ⟨cells_set ((hk b hbl (fun e => (hR b e).2.2.2.1 rfl)).trans kb) 0 _, ob, gb⟩
    · rcases List.mem_cons.1 hy2 with rfl | hy3
      · exact ⟨(hs _ gbn).trans hh, og, gg⟩
      · have hm := h3 y (List.mem_cons_of_mem _ (List.mem_append_right _ hy3))
        have hyb : y.1 ≠ b := fun e => hbn (List.mem_map.2 ⟨y, List.mem_append_right _ hy3, e⟩)
        refine ⟨(hs _ hyb).trans ((hk y.1 (lt_heap hm.1) (fun e => (hR y.1 e).2.2.2.2 y hy3 rfl)).trans hm.1), hm.2⟩
  · rw [List.map_cons, List.nodup_cons]
    simp only [List.singleton_append, List.map_cons, List.nodup_cons]
    refine ⟨fun hm => ?_, fun hm => ?_, ?_⟩
    · rcases List.mem_cons.1 hm with e | hm
      · exact gbn e.symm
      · obtain ⟨z, hz, e⟩ := List.mem_map.1 hm
        exact hbn (List.mem_map.2 ⟨z, List.mem_append_right _ hz, e⟩)
    · obtain ⟨z, hz, e⟩ := List.mem_map.1 hm
      exact gz z hz e
    · rw [List.map_append] at hnd
      exact (List.nodup_append.1 hnd).2.1
end
end Go.Proofs.YtkgnmlllmihmlaaGreatDoor
