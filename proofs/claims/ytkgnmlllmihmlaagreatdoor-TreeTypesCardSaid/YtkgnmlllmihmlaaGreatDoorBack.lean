/-
  commas, slices.Backward at ints, and a range over it.
-/
import Derived.Test.YtkgnmlllmihmlaaGreatDoorIters
namespace Go.Proofs.YtkgnmlllmihmlaaGreatDoor
open Go.RowKit Sp Tr Go.Shelf
set_option linter.unusedVariables false

section
variable {w0 w : World} {c : PC} {v u : Value} {E : PE} {s s' : S} {L : List (Nat × Obj)}

theorem back_new (a : Option Addr) (n m : Nat) (w : World) : Calls Tryz.prog 69 #[.slice a n m] w fun e w' => e = .returned (.func (.func 92) #[] #[.pointer (some ⟨w.heap.size, 0, none⟩)]) ∧ w' = w.alloc (.cells #[.slice a n m] 37) := by
  have hmf : ∀ (fn : Fn) (first cap : Array Value) (w : World), (Instr.makeFunc fn first cap).run Tryz.prog w = .ok (.func fn first cap) w := fun _ _ _ _ => rfl
  go_enter Tryz.func69, Tryz.ntmps69
  go_wp2
  go_ret
  exact ⟨rfl, rfl⟩
/-- What lies there for a range from behind: the closure's variable, and the row. -/
def BackM (w0 : World) (bk : Nat) (sv : Value) (xs : List Int) (L : List (Nat × Obj)) : Prop :=
  (bk, .cells #[sv] 37 (0, 0)) ∈ L ∧ ∃ R, RowR w0 sv xs R ∧ ∀ x ∈ R, x ∈ L
set_option maxHeartbeats 1000000 in
theorem back_iter {bk : Nat} {sv : Value} {xs : List Int} (n l : Nat) (J : Nat → S → List (Nat × Obj) → Prop) (hM : ∀ j s L, J j s L → BackM w0 bk sv xs L) (W : World)
    (hY : ∀ j (k : Nat) x s1 L W, J j s1 L → k + 1 + j = xs.length → xs[k]? = some x → At w0 c v u E s1 L W → YieldAt Fence.wide (n - 1) Tryz.prog l #[.int .i64 k, .int .i64 x] W fun e W' => e = .returned (.bool true) ∧ ∃ s2 L', J (j + 1) s2 L' ∧ At w0 c v u E s2 L' W')
    (hJ : J 0 s L) (hA : At w0 c v u E s L W) (hlen : xs.length ≤ 1000000) :
    CallsIn Fence.wide n Tryz.prog 92 #[.func (.yield l) #[] #[], .pointer (some ⟨bk, 0, none⟩)] W fun e W' => (∃ r, e = .returned r) ∧ ∃ s2 L', J xs.length s2 L' ∧ At w0 c v u E s2 L' W' := by
  have hw : ∀ f, Fence.wide.fn f := fun _ => trivial
  have hd : Fence.wide.depth = none := rfl
  obtain ⟨m1, R, hR, hRL⟩ := hM _ _ _ hJ
  have cb := (nv1 (hA.mem m1)).1
  obtain ⟨a, cap, rfl⟩ := row_slice (hA.row hR hRL)
  have HA := Lib.hid hA; clear hA
  have HY := Lib.hid hY; clear hY
  have HJ0 := Lib.hid hJ
  have HM := Lib.hid hM; clear hM
  clear m1 hR hRL hJ
  refine callsIn_of_wp Tryz.func92 rfl trivial ?_ rfl
  simp only [Tryz.ntmps92, List.size_toArray, List.length_cons, List.length_nil, Nat.reduceAdd, Nat.reduceSub, Array.replicate_succ, Array.replicate_zero, List.push_toArray, List.append_toArray, List.nil_append, List.cons_append]
  gi_wp2
  gi_loopg [3] xs.length (fun g i wr => ∃ (j : Nat) (s1 : S) (L1 : List (Nat × Obj)), j + g = xs.length ∧ i = .int .i64 ((g : Int) - 1) ∧ Hid (J j s1 L1) ∧ Hid (At w0 c v u E s1 L1 wr))
  case atStart => exact ⟨0, s, L, by omega, rfl, HJ0, HA⟩
  case round =>
    clear HA HJ0 cb
    obtain ⟨j, s1, L1, hj, rfl, HJ, A0⟩ := hrel
    cases gk with
    | zero =>
      have e0 : decide ((0 : Int) ≤ ((0 : Nat) : Int) - 1) = false := by decide
      gi_wp2
      go_end0
      exact ⟨⟨_, rfl⟩, s1, L1, (show j = xs.length by omega) ▸ HJ.out, A0.out⟩
    | succ k =>
      obtain ⟨m1, R, hR, hRL⟩ := HM.out _ _ _ HJ.out
      have cb := (nv1 (A0.out.mem m1)).1
      obtain ⟨x, hx⟩ : ∃ x, xs[k]? = some x := ⟨_, List.getElem?_eq_getElem (by omega)⟩
      have hrow := A0.out.row hR hRL
      obtain ⟨g0, cap0, hg, _, _⟩ := hrow.form (by omega)
      simp only [Value.slice.injEq] at hg
      obtain ⟨rfl, _, rfl⟩ := hg
      have cx := hrow.cells (g := g0) rfl k (.int .i64 x) (by simp [hx])
      have hadd : (⟨g0, 0, none⟩ : Addr).add k = ⟨g0, k, none⟩ := by unfold Addr.add; split <;> simp_all
      rw [hadd] at cx
      obtain ⟨fy, tmpsy, asy, boy, hy, hRd⟩ := HY.out j k x s1 L1 wr HJ.out (by omega) hx A0.out
      have e0 : (((k + 1 : Nat) : Int) - 1) = (k : Int) := by omega
      rw [e0]
      have q0 : (0 : Int) ≤ (k : Int) := by omega
      have q1 : (k : Int) < (xs.length : Int) := by omega
      clear hrow m1 hR hRL hx hadd
      gi_wp2
      refine hRd.mono ?_
      rintro e W2 ⟨rfl, s2, L2, hj2, ha⟩
      have HJ2 := Lib.hid hj2
      have A2 := Lib.hid ha
      obtain ⟨m2, _⟩ := HM.out _ _ _ hj2
      have cb2 := (nv1 (ha.mem m2)).1
      clear hj2 ha hy m2
      gi_wp2
      gi_roundg k
      case rel => exact ⟨j + 1, s2, L2, by omega, rfl, HJ2, A2⟩
      case measure => omega
/-- How a round's body may end that reads on. -/
def ends2 (w0 : World) (c : PC) (v u : Value) (E : PE) (K : S → List (Nat × Obj) → Prop) : Exit → Act → World → Prop
  | .normal, _, W => ∃ s2 L, K s2 L ∧ At w0 c v u E s2 L W
  | _, _, _ => False
theorem range_back {g : Operand} {p1 p2 : Tmp} {assign body : Code} {Q : Exit → Act → World → Prop} {a : Act} {bk : Nat} {sv : Value} {xs : List Int} (hlen : xs.length ≤ 1000000)
    (hg : a.eval g = .func (.func 92) #[] #[.pointer (some ⟨bk, 0, none⟩)]) (hA : At w0 c v u E s L w)
    (J : Nat → S → List (Nat × Obj) → Prop) (hM : ∀ j s L, J j s L → BackM w0 bk sv xs L) (hJ : J 0 s L) (a1 : Nat → Int → Act)
    (hassign : ∀ (l k : Nat) (x : Int) (W : World) (K : Act → World → Prop), K (a1 k x) W → assign.wpIn (Fence.wide.inRound l) 0 Tryz.prog (Exit.then K (fun _ _ _ => False)) { tmps := (a.tmps.setIfInBounds p1 (.int .i64 k)).setIfInBounds p2 (.int .i64 x), defers := [] } W)
    (hbody : ∀ (l j k : Nat) (x : Int) (X L : List (Nat × Obj)) (W : World) (s1 : S), J j s1 L → k + 1 + j = xs.length → xs[k]? = some x → At w0 c v u E s1 (X ++ L) W → body.wpIn (Fence.wide.inRound l) 0 Tryz.prog (ends2 w0 c v u E fun s2 L' => ∃ L1, L' = X ++ L1 ∧ J (j + 1) s2 L1) (a1 k x) W)
    (hdone : ∀ (D : Nat) (o : Obj) (l : Nat) (s2 : S) (L : List (Nat × Obj)) (W : World), J xs.length s2 L → At w0 c v u E s2 ((D, .deferred (some [])) :: (l, o) :: L) W → Q .normal { a with defers := { target := .collected D, args := #[] } :: a.defers } W) :
    (Code.rangeFunc g #[p1, p2] assign body).wpIn Fence.wide 0 Tryz.prog Q a w := by
  have eg : ∀ args w, (callFunc 92 args).run Tryz.prog w = .ok (.enter 92 args) w := enters_of Tryz.func92 (by kernel_rfl) rfl
  refine wpIn_rangeFunc ?_
  intro f hf
  obtain ⟨rec, hrec⟩ : ∃ rec : LoopState → Option Code → Loop, rec = fun st pe => { state := st, pending := pe, fn := f, tmps := a.tmps, params := #[p1, p2], assign, body, defers := w.heap.size } := ⟨_, rfl⟩
  obtain ⟨W1, hW1⟩ : ∃ W1 : World, (w.alloc (.deferred (some []))).alloc (.loop (rec .ready none)) = W1 := ⟨_, rfl⟩
  have hA1 : At w0 c v u E s ((w.heap.size + 1, .loop (rec .ready none)) :: (w.heap.size, .deferred (some [])) :: L) W1 := by
    have := (hA.alloc (.deferred (some []))).alloc (.loop (rec .ready none))
    rw [World.size_alloc, hW1] at this
    exact this
  refine ⟨w.heap.size + 1, [{ target := .collected w.heap.size, args := #[] }], W1, { target := .fn (.func 92) #[.pointer (some ⟨bk, 0, none⟩)], args := #[.func (.yield (w.heap.size + 1)) #[] #[]] }, W1, 92,
    #[.func (.yield (w.heap.size + 1)) #[] #[], .pointer (some ⟨bk, 0, none⟩)], W1, ?_, ?_, ?_, ?_, fun h => by simp [Fence.wide] at h, ?_⟩
  · rw [← hW1, hrec]; exact run_enterLoop_outer _ _ _ _ _
  · simp only [resolve, hg]
    simp [go_sem]
  · intro f' hf'; trivial
  · simp [invoke, go_sem, eg]
  · refine (back_iter (s := s) (L := (w.heap.size + 1, .loop (rec .ready none)) :: (w.heap.size, .deferred (some [])) :: L) (sv := sv) (0 - 1) (w.heap.size + 1) (fun j s' L' => ∃ L1, L' = (w.heap.size + 1, .loop (rec .ready none)) :: (w.heap.size, .deferred (some [])) :: L1 ∧ J j s' L1) ?_ W1 ?_ ⟨L, rfl, hJ⟩ hA1 hlen).mono ?_
    · rintro j s1 _ ⟨L1, rfl, hj⟩
      obtain ⟨m1, R, hR, hRL⟩ := hM _ _ _ hj
      exact ⟨List.mem_cons_of_mem _ (List.mem_cons_of_mem _ m1), R, hR, fun x hx => List.mem_cons_of_mem _ (List.mem_cons_of_mem _ (hRL x hx))⟩
    · rintro j k x s1 _ W ⟨L1, rfl, hj⟩ hk hx hA2
      have hl := hA2.loc
      have hy := run_yield (P := Tryz.prog) (args := #[.int .i64 k, .int .i64 x]) hl (by rw [hrec]; rfl)
      have hp : (rec .ready none).tmps = a.tmps ∧ (rec .ready none).params = #[p1, p2] ∧ (rec .ready none).assign = assign ∧ (rec .ready none).body = body ∧ (rec .ready none).fn = f ∧ (rec .ready none).state = .ready := by rw [hrec]; exact ⟨rfl, rfl, rfl, rfl, rfl, rfl⟩
      obtain ⟨q1, q2, q3, q4, q5, q6⟩ := hp
      rw [q1, q2, q3, q4, q5] at hy
      have hz : (#[p1, p2].zip #[(Value.int .i64 k), (Value.int .i64 x)]).foldl (fun (tmps : Array Value) (t, a) => tmps.setIfInBounds t a) a.tmps = (a.tmps.setIfInBounds p1 (.int .i64 k)).setIfInBounds p2 (.int .i64 x) := by simp
      rw [hz] at hy
      refine ⟨f, _, assign, body, hy, roundIn_of_wpIn trivial ?_⟩
      refine hassign _ k x W _ ?_
      refine ⟨_, run_beginRound hl q6, ?_⟩
      have hA3 := hA2.putObj (.loop { rec .ready none with state := .busy })
      refine wpIn_mono (hbody _ j k x [(w.heap.size + 1, .loop { rec .ready none with state := .busy }), (w.heap.size, .deferred (some []))] L1 _ s1 hj hk hx hA3) ?_
      rintro e a3 W3 hp
      cases e with
      | normal =>
        obtain ⟨s2, _, ⟨L2, rfl, hj2⟩, hA4⟩ := hp
        have hl4 : W3.heap[w.heap.size + 1]? = some (.loop { rec .ready none with state := .busy }) := hA4.loc
        refine ⟨_, _, run_endRound none hl4, rfl, s2, _, ⟨L2, rfl, hj2⟩, ?_⟩
        have := At.putObj (L := (w.heap.size, .deferred (some [])) :: L2) hA4 (.loop (rec .ready none))
        rw [hrec] at this ⊢
        exact this
      | ret => exact hp.elim
      | exit id => exact hp.elim
      | goto t => exact hp.elim
      | panic ch => exact hp.elim
      | outgrown => exact hp.elim
    · rintro e W2 ⟨⟨r, rfl⟩, s2, _, ⟨L1, rfl, hj⟩, hA3⟩
      have hl := hA3.loc
      have hb : (rec .ready none).state ≠ .busy := by rw [hrec]; simp
      have h := run_endLoop (P := Tryz.prog) hl hb
      rw [hrec] at h
      exact ⟨none, _, h, hdone _ _ _ _ _ _ hj ((hA3.putObj _).perm (List.Perm.swap ..))⟩
end
end Go.Proofs.YtkgnmlllmihmlaaGreatDoor
