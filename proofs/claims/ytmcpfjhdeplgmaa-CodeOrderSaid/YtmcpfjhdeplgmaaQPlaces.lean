/-
  Contract of doppelref07's Find.
  Layer 7: a range over slices.Backward of functions.
  Layer 7: places, Find.
-/
import Derived.Test.YtmcpfjhdeplgmaaQRightA
import Derived.Test.YtmcpfjhdeplgmaaQSmall
import Derived.RangeFuncNested
import Derived.RangeFuncBound
import Derived.RangeFuncCalls
import Derived.RangeFuncLeaves
import Derived.Shelf.RegionOpen
import Derived.OwnWalkIn
import Derived.TacticsInMore
import Derived.LoopNIn
import Derived.LoopIn
import Derived.RegionIn
import Derived.Sort.LoopGhostIn
import Derived.Maps.OwnIn
import Derived.MapViews
import Derived.Carry
import Derived.WideKeyArgs2
import Derived.ChangeMaps
import Derived.Maps.OwnSet
namespace Go.Proofs.Ytmcpfjhdeplgmaa
open Go.RowKit Cd
set_option linter.unusedVariables false
set_option linter.unusedSimpArgs false

/-- A unit as a value: its functions and its globals at addresses. -/
structure UnR where
  fs : List FnR
  fa : Option Addr
  fc : Nat
  gs : List Glo
  ga : Option Addr
  gc : Nat
  top : Int
def UnR.fns (U : UnR) : List Fnc := U.fs.map (·.f)
def UnR.un (U : UnR) : Uni := ⟨U.fns, U.gs, U.top⟩
abbrev unV (U : UnR) : Value := .agg #[.slice U.fa U.fs.length U.fc, .slice U.ga U.gs.length U.gc, .int .i64 U.top]
abbrev unO (U : UnR) : Obj := .cells #[.slice U.fa U.fs.length U.fc, .slice U.ga U.gs.length U.gc, .int .i64 U.top] 25
/-- A unit lies in memory, below B. -/
structure UnAt (w : World) (B : Nat) (U : UnR) : Prop where
  fs : RowAt w B U.fa (U.fs.flatMap fnCells)
  gs : RowAt w B U.ga (U.gs.flatMap glCells)
  code : ∀ r ∈ U.fs, CodeAt w B r
  lf : U.fs.length ≤ maxLen
  lg : U.gs.length ≤ maxLen
  lc : ∀ r ∈ U.fs, r.f.code.length ≤ maxLen
theorem UnAt.below {w w' : World} {B : Nat} {U : UnR} (h : UnAt w B U) (hb : Below B w w') : UnAt w' B U :=
  ⟨h.fs.below hb, h.gs.below hb, fun r hr => (h.code r hr).below hb, h.lf, h.lg, h.lc⟩
theorem UnAt.fn {w : World} {B : Nat} {U : UnR} (h : UnAt w B U) {k : Nat} {r : FnR} (hk : U.fs[k]? = some r) :
    ∃ b off, U.fa = some ⟨b, off, none⟩ ∧ b < B ∧ B ≤ w.heap.size ∧ w.cell? ⟨b, off + k * 5, none⟩ = some (.string (sb r.f.name)) ∧ w.cell? ⟨b, off + k * 5 + 1, none⟩ = some (.int .i64 r.f.params) ∧ w.cell? ⟨b, off + k * 5 + 2, none⟩ = some (.int .i64 r.f.regs) ∧ w.cell? ⟨b, off + k * 5 + 3, none⟩ = some (.int .i64 r.f.frame) ∧ w.cell? ⟨b, off + k * 5 + 4, none⟩ = some (.slice r.ca r.f.code.length r.cc) := by
  obtain ⟨b, off, ha, hb, hB, hc⟩ := RowAt.item fnCells_len h.fs hk (by omega)
  exact ⟨b, off, ha, hb, hB, hc 0 _ rfl, hc 1 _ rfl, hc 2 _ rfl, hc 3 _ rfl, hc 4 _ rfl⟩
theorem UnAt.gl {w : World} {B : Nat} {U : UnR} (h : UnAt w B U) {k : Nat} {g : Glo} (hk : U.gs[k]? = some g) :
    ∃ b off, U.ga = some ⟨b, off, none⟩ ∧ b < B ∧ B ≤ w.heap.size ∧ w.cell? ⟨b, off + k * 4, none⟩ = some (.string (sb g.name)) ∧ w.cell? ⟨b, off + k * 4 + 1, none⟩ = some (.int .i64 g.pos) ∧ w.cell? ⟨b, off + k * 4 + 2, none⟩ = some (.int .i64 g.size) ∧ w.cell? ⟨b, off + k * 4 + 3, none⟩ = some (.int .i64 g.init) := by
  obtain ⟨b, off, ha, hb, hB, hc⟩ := RowAt.item glCells_len h.gs hk (by omega)
  exact ⟨b, off, ha, hb, hB, hc 0 _ rfl, hc 1 _ rfl, hc 2 _ rfl, hc 3 _ rfl⟩
theorem nv3 {w : World} {b : Nat} {x0 x1 x2 : Value} {t : TypeId} (h : w.heap[b]? = some (.cells #[x0, x1, x2] t (0, 0))) :
    w.cell? ⟨b, 0, none⟩ = some x0 ∧ w.cell? ⟨b, 1, none⟩ = some x1 ∧ w.cell? ⟨b, 2, none⟩ = some x2 := by
  refine ⟨?_, ?_, ?_⟩ <;> (rw [cell_of_row w b _ _ _ _ h]; rfl)
/-- None of the first k has that name. -/
def NoneBefore (fs : List Fnc) (s : List UInt8) (k : Nat) : Prop := ∀ i g, i < k → fs[i]? = some g → g.name ≠ s
theorem findN_at : ∀ (fs : List Fnc) (s : List UInt8) (k : Nat) (g : Fnc), NoneBefore fs s k → fs[k]? = some g → g.name = s → findN fs s = some k
  | [], s, k, g, _, h, _ => by simp at h
  | f :: fs, s, 0, g, _, h, hn => by
    have : f = g := by simpa using h
    subst this
    unfold findN; rw [if_pos hn]
  | f :: fs, s, k + 1, g, hb, h, hn => by
    have h0 : ¬ f.name = s := hb 0 f (by omega) rfl
    unfold findN
    rw [if_neg h0, findN_at fs s k g (fun i g hi hg => hb (i + 1) g (by omega) (by simpa using hg)) (by simpa using h) hn]
    rfl
theorem findN_none : ∀ (fs : List Fnc) (s : List UInt8), NoneBefore fs s fs.length → findN fs s = none
  | [], s, _ => rfl
  | f :: fs, s, hb => by
    have h0 : ¬ f.name = s := hb 0 f (by simp) rfl
    unfold findN
    rw [if_neg h0, findN_none fs s (fun i g hi hg => hb (i + 1) g (by simp; omega) (by simpa using hg))]
    rfl
theorem NoneBefore.succ {fs : List Fnc} {s : List UInt8} {k : Nat} {g : Fnc} (h : NoneBefore fs s k) (hg : fs[k]? = some g) (hn : g.name ≠ s) : NoneBefore fs s (k + 1) := fun i x hi hx => by
  by_cases hik : i < k
  · exact h i x hik hx
  · have : i = k := by omega
    subst this
    rw [hg] at hx; injection hx with hx; rw [← hx]; exact hn
set_option maxHeartbeats 1000000 in
theorem find_any (U : UnR) (s : List UInt8) (B : Nat) (w : World) (hU : UnAt w B U) :
    Calls Try.prog 14 #[unV U, .string (sb s)] w (RPost (.int .i64 (findI U.fns s)) w) := by
  have hlf := hU.lf
  unfold maxLen at hlf
  have HU := Lib.hid hU; clear hU
  go_enter Try.func14, Try.ntmps14
  go_wp2
  go_loopw [5] (fun s5 wr => ∃ k : Nat, k ≤ U.fs.length ∧ s5 = .int .i64 k ∧ wr = w.alloc (unO U) ∧ Hid (NoneBefore U.fns s k)) (fun i wr => U.fs.length - (intOf i).toNat)
  case atStart => exact ⟨0, by omega, rfl, rfl, Lib.hid (fun i g hi => by omega)⟩
  case round =>
    obtain ⟨k, hk, rfl, rfl, HN⟩ := hrel
    by_cases hlt : k < U.fs.length
    · obtain ⟨r, hr⟩ : ∃ r, U.fs[k]? = some r := ⟨_, List.getElem?_eq_getElem hlt⟩
      obtain ⟨b, off, hfa, hb, hBw, c0, c1, c2, c3, c4⟩ := HU.out.fn hr
      have hg : U.fns[k]? = some r.f := by unfold UnR.fns; rw [List.getElem?_map, hr]; rfl
      have HG := Lib.hid hg
      have p0 : (0 : Int) ≤ (k : Int) := Int.natCast_nonneg _
      have p1 : (k : Int) < (U.fs.length : Int) := by omega
      clear hr hg c1 c2 c3 c4
      have hz : b < w.heap.size := by omega
      by_cases hn : r.f.name = s
      · have e : findI U.fns s = k := by unfold findI; rw [findN_at _ _ _ _ HN.out HG.out hn]
        have E := Lib.hid e; clear e
        have t0 : (r.f.name == s) = true := by simpa using hn
        go_wp2
        go_ret
        exact ⟨by rw [E.out]; rfl, (Below.refl _ _).alloc (Nat.le_refl _) _⟩
      · have HN2 := Lib.hid (HN.out.succ HG.out hn)
        have t0 : (r.f.name == s) = false := by simpa using hn
        go_wp2
        go_roundw
        case rel => exact ⟨k + 1, by omega, by go_num, (by first | trivial | rfl), HN2⟩
        case measure => simp [intOf]; omega
    · obtain rfl : k = U.fs.length := by omega
      have e : findI U.fns s = -1 := by unfold findI; rw [findN_none _ _ (by have := HN.out; unfold UnR.fns at this ⊢; rw [List.length_map]; exact this)]
      have E := Lib.hid e; clear e
      go_wp2
      go_ret
      exact ⟨by rw [E.out]; rfl, (Below.refl _ _).alloc (Nat.le_refl _) _⟩
end Go.Proofs.Ytmcpfjhdeplgmaa
namespace Go.Proofs.Ytmcpfjhdeplgmaa
open Go.RowKit Cd Go.Shelf
set_option linter.unusedVariables false
set_option linter.unusedSimpArgs false

theorem backF_new (a : Option Addr) (n m : Nat) (w : World) : Calls Try.prog 45 #[.slice a n m] w fun e w' => e = .returned (.func (.func 55) #[] #[.pointer (some ⟨w.heap.size, 0, none⟩)]) ∧ w' = w.alloc (.cells #[.slice a n m] 22) := by
  have hmf : ∀ (fn : Fn) (first cap : Array Value) (w : World), (Instr.makeFunc fn first cap).run Try.prog w = .ok (.func fn first cap) w := fun _ _ _ _ => rfl
  go_enter Try.func45, Try.ntmps45
  go_wp2
  go_ret
  exact ⟨rfl, rfl⟩
abbrev slO (a : Option Addr) (n c : Nat) : Obj := .cells #[.slice a n c] 22
theorem nv1b {w : World} {b : Nat} {x : Value} {t : TypeId} (h : w.heap[b]? = some (.cells #[x] t (0, 0))) : w.cell? ⟨b, 0, none⟩ = some x := by
  rw [cell_of_row w b 0 _ _ _ h]; rfl
theorem fn_item {w : World} {B : Nat} {a : Option Addr} {rs : List FnR} (h : RowAt w B a (rs.flatMap fnCells)) {k : Nat} {r : FnR} (hk : rs[k]? = some r) :
    ∃ b off, a = some ⟨b, off, none⟩ ∧ b < B ∧ B ≤ w.heap.size ∧ w.cell? ⟨b, off + k * 5, none⟩ = some (.string (sb r.f.name)) ∧ w.cell? ⟨b, off + k * 5 + 1, none⟩ = some (.int .i64 r.f.params) ∧ w.cell? ⟨b, off + k * 5 + 2, none⟩ = some (.int .i64 r.f.regs) ∧ w.cell? ⟨b, off + k * 5 + 3, none⟩ = some (.int .i64 r.f.frame) ∧ w.cell? ⟨b, off + k * 5 + 4, none⟩ = some (.slice r.ca r.f.code.length r.cc) := by
  obtain ⟨b, off, ha, hb, hB, hc⟩ := RowAt.item fnCells_len h hk (by omega)
  exact ⟨b, off, ha, hb, hB, hc 0 _ rfl, hc 1 _ rfl, hc 2 _ rfl, hc 3 _ rfl, hc 4 _ rfl⟩
set_option maxHeartbeats 1000000 in
theorem backF_iter {B bk : Nat} {a : Option Addr} {c : Nat} {rs : List FnR} (n l : Nat) (J : Nat → World → Prop) (hM : ∀ j W, J j W → W.heap[bk]? = some (slO a rs.length c) ∧ RowAt W B a (rs.flatMap fnCells)) (W : World)
    (hY : ∀ j (k : Nat) r W, J j W → k + 1 + j = rs.length → rs[k]? = some r → YieldAt Fence.wide (n - 1) Try.prog l #[.int .i64 k, fnV r] W fun e W' => e = .returned (.bool true) ∧ J (j + 1) W')
    (hJ : J 0 W) (hlen : rs.length ≤ 1000000) :
    CallsIn Fence.wide n Try.prog 55 #[.func (.yield l) #[] #[], .pointer (some ⟨bk, 0, none⟩)] W fun e W' => (∃ r, e = .returned r) ∧ J rs.length W' := by
  have hw : ∀ f, Fence.wide.fn f := fun _ => trivial
  have hd : Fence.wide.depth = none := rfl
  have cb := nv1b (hM _ _ hJ).1
  have HY := Lib.hid hY; clear hY
  have HJ0 := Lib.hid hJ
  have HM := Lib.hid hM; clear hM
  clear hJ
  refine callsIn_of_wp Try.func55 rfl trivial ?_ rfl
  simp only [Try.ntmps55, List.size_toArray, List.length_cons, List.length_nil, Nat.reduceAdd, Nat.reduceSub, Array.replicate_succ, Array.replicate_zero, List.push_toArray, List.append_toArray, List.nil_append, List.cons_append]
  gi_wp2
  gi_loopg [3] rs.length (fun g i wr => ∃ (j : Nat), j + g = rs.length ∧ i = .int .i64 ((g : Int) - 1) ∧ Hid (J j wr))
  case atStart => exact ⟨0, by omega, rfl, HJ0⟩
  case round =>
    clear HJ0 cb
    obtain ⟨j, hj, rfl, HJ⟩ := hrel
    cases gk with
    | zero =>
      have e0 : decide ((0 : Int) ≤ ((0 : Nat) : Int) - 1) = false := by decide
      gi_wp2
      go_end0
      exact ⟨⟨_, rfl⟩, (show j = rs.length by omega) ▸ HJ.out⟩
    | succ k =>
      obtain ⟨m1, hrow⟩ := HM.out _ _ HJ.out
      have cb := nv1b m1
      obtain ⟨r, hr⟩ : ∃ r, rs[k]? = some r := ⟨_, List.getElem?_eq_getElem (by omega)⟩
      obtain ⟨b, off, rfl, hb, hBw, c0, c1, c2, c3, c4⟩ := fn_item hrow hr
      obtain ⟨fy, tmpsy, asy, boy, hy, hRd⟩ := HY.out j k r wr HJ.out (by omega) hr
      have e0 : (((k + 1 : Nat) : Int) - 1) = (k : Int) := by omega
      rw [e0]
      have q0 : (0 : Int) ≤ (k : Int) := by omega
      have q1 : (k : Int) < (rs.length : Int) := by omega
      clear hrow m1 hr
      gi_wp2
      refine hRd.mono ?_
      rintro e W2 ⟨rfl, hj2⟩
      have HJ2 := Lib.hid hj2
      have cb2 := nv1b (HM.out _ _ hj2).1
      clear hj2 hy
      gi_wp2
      gi_roundg k
      case rel => exact ⟨j + 1, by omega, rfl, HJ2⟩
      case measure => omega
/-- How a round's body may end. -/
def endsJ (B0 : Nat) (K : World → Prop) (W : World) : Exit → Act → World → Prop
  | .normal, _, W' => K W' ∧ ∀ q, B0 ≤ q → q < W.heap.size → W'.heap[q]? = W.heap[q]?
  | _, _, _ => False
theorem range_backF {g : Operand} {p1 p2 : Tmp} {assign body : Code} {Q : Exit → Act → World → Prop} {a : Act} {w : World} {B bk : Nat} {sa : Option Addr} {sc : Nat} {rs : List FnR} (hlen : rs.length ≤ 1000000)
    (hg : a.eval g = .func (.func 55) #[] #[.pointer (some ⟨bk, 0, none⟩)])
    (J : Nat → World → Prop) (hO : ∀ j, OwnFrom w.heap.size (fun (_ : Unit) W => J j W)) (hM : ∀ j W, J j W → W.heap[bk]? = some (slO sa rs.length sc) ∧ RowAt W B sa (rs.flatMap fnCells)) (h0 : J 0 w)
    (A : Nat → FnR → Act → World → Prop) (hA : ∀ k r a', OwnFrom w.heap.size (fun (_ : Unit) W => A k r a' W))
    (hassign : ∀ (l j k : Nat) (r : FnR) (W : World) (K : Act → World → Prop), w.heap.size ≤ W.heap.size → J j W → k + 1 + j = rs.length → rs[k]? = some r → (∀ a' W', (∀ q, q < W.heap.size → W'.heap[q]? = W.heap[q]?) → J j W' → A k r a' W' → K a' W') →
      assign.wpIn (Fence.wide.inRound l) 0 Try.prog (Exit.then K (fun _ _ _ => False)) { tmps := (a.tmps.setIfInBounds p1 (.int .i64 k)).setIfInBounds p2 (fnV r), defers := [] } W)
    (hbody : ∀ (l j k : Nat) (r : FnR) (a' : Act) (W : World), w.heap.size ≤ W.heap.size → J j W → A k r a' W → k + 1 + j = rs.length → rs[k]? = some r → body.wpIn (Fence.wide.inRound l) 0 Try.prog (endsJ w.heap.size (J (j + 1)) W) a' W)
    (hdone : ∀ (D : Nat) (W : World), w.heap.size ≤ D → J rs.length W → W.heap[D]? = some (.deferred (some [])) → Q .normal { a with defers := { target := .collected D, args := #[] } :: a.defers } W) :
    (Code.rangeFunc g #[p1, p2] assign body).wpIn Fence.wide 0 Try.prog Q a w := by
  have eg : ∀ args w, (callFunc 55 args).run Try.prog w = .ok (.enter 55 args) w := enters_of Try.func55 (by kernel_rfl) rfl
  refine wpIn_rangeFunc ?_
  intro f hf
  obtain ⟨r0, hrec⟩ : ∃ r0 : Loop, r0 = { state := .ready, pending := none, fn := f, tmps := a.tmps, params := #[p1, p2], assign, body, defers := w.heap.size } := ⟨_, rfl⟩
  obtain ⟨W1, hW1⟩ : ∃ W1 : World, (w.alloc (.deferred (some []))).alloc (.loop r0) = W1 := ⟨_, rfl⟩
  have hL1 : W1.heap[w.heap.size + 1]? = some (.loop r0) := by
    rw [← hW1]; have := World.alloc_heap_new (w.alloc (.deferred (some []))) (.loop r0); rwa [World.size_alloc] at this
  have hK1 : W1.heap[w.heap.size]? = some (.deferred (some [])) := by
    rw [← hW1]; exact (Below.heap_alloc _ _ _ (by simp)).trans (World.alloc_heap_new w _)
  have hJ1 : J 0 W1 := by rw [← hW1]; exact (hO 0).alloc (s := ()) _ ((hO 0).alloc (s := ()) _ h0)
  refine ⟨w.heap.size + 1, [{ target := .collected w.heap.size, args := #[] }], W1, { target := .fn (.func 55) #[.pointer (some ⟨bk, 0, none⟩)], args := #[.func (.yield (w.heap.size + 1)) #[] #[]] }, W1, 55,
    #[.func (.yield (w.heap.size + 1)) #[] #[], .pointer (some ⟨bk, 0, none⟩)], W1, ?_, ?_, ?_, ?_, fun h => by simp [Fence.wide] at h, ?_⟩
  · rw [← hW1, hrec]; exact run_enterLoop_outer _ _ _ _ _
  · simp only [resolve, hg]
    simp [go_sem]
  · intro f' hf'; trivial
  · simp [invoke, go_sem, eg]
  · refine (backF_iter (B := B) (a := sa) (c := sc) (rs := rs) (0 - 1) (w.heap.size + 1) (fun j W => J j W ∧ W.heap[w.heap.size + 1]? = some (.loop r0) ∧ W.heap[w.heap.size]? = some (.deferred (some []))) (fun j W h => hM j W h.1) W1 ?_ ⟨hJ1, hL1, hK1⟩ hlen).mono ?_
    · rintro j k r W ⟨hj, hl, hD⟩ hk hr
      have hlW := (Array.getElem?_eq_some_iff.1 hl).1
      have hy := run_yield (P := Try.prog) (args := #[.int .i64 k, fnV r]) hl (by rw [hrec]; rfl)
      have hp : r0.tmps = a.tmps ∧ r0.params = #[p1, p2] ∧ r0.assign = assign ∧ r0.body = body ∧ r0.fn = f ∧ r0.state = .ready := by rw [hrec]; exact ⟨rfl, rfl, rfl, rfl, rfl, rfl⟩
      obtain ⟨q1, q2, q3, q4, q5, q6⟩ := hp
      rw [q1, q2, q3, q4, q5] at hy
      have hz : (#[p1, p2].zip #[(Value.int .i64 k), fnV r]).foldl (fun (tmps : Array Value) (t, a) => tmps.setIfInBounds t a) a.tmps = (a.tmps.setIfInBounds p1 (.int .i64 k)).setIfInBounds p2 (fnV r) := by simp
      rw [hz] at hy
      refine ⟨f, _, assign, body, hy, roundIn_of_wpIn trivial ?_⟩
      refine hassign _ j k r W _ (by omega) hj hk hr ?_
      intro a' W2 hq hj2 ha2
      have hl2 : W2.heap[w.heap.size + 1]? = some (.loop r0) := (hq _ hlW).trans hl
      have hD2 : W2.heap[w.heap.size]? = some (.deferred (some [])) := (hq _ (by omega)).trans hD
      have hl2W := (Array.getElem?_eq_some_iff.1 hl2).1
      refine ⟨_, run_beginRound hl2 q6, ?_⟩
      have hj3 : J j (W2.putObj (w.heap.size + 1) (.loop { r0 with state := .busy })) := (hO j).putObj (s := ()) _ hj2 (by omega) hl2 rfl
      have ha3 : A k r a' (W2.putObj (w.heap.size + 1) (.loop { r0 with state := .busy })) := (hA k r a').putObj (s := ()) _ ha2 (by omega) hl2 rfl
      have hl3 : (W2.putObj (w.heap.size + 1) (.loop { r0 with state := .busy })).heap[w.heap.size + 1]? = some (.loop { r0 with state := .busy }) := World.putObj_heap_same hl2W
      have hD3 : (W2.putObj (w.heap.size + 1) (.loop { r0 with state := .busy })).heap[w.heap.size]? = some (.deferred (some [])) := (World.putObj_heap_other (by omega)).trans hD2
      have hlt3 := (Array.getElem?_eq_some_iff.1 hl3).1
      have hsz3 : (W2.putObj (w.heap.size + 1) (.loop { r0 with state := .busy })).heap.size = W2.heap.size := by simp
      refine wpIn_mono (hbody _ j k r a' _ (by omega) hj3 ha3 hk hr) ?_
      rintro e a3 W3 hp
      cases e with
      | normal =>
        obtain ⟨hj4, hq4⟩ := hp
        have hl4 : W3.heap[w.heap.size + 1]? = some (.loop { r0 with state := .busy }) := (hq4 _ (by omega) (by omega)).trans hl3
        have hD4 : W3.heap[w.heap.size]? = some (.deferred (some [])) := (hq4 _ (by omega) (by omega)).trans hD3
        have hlt4 := (Array.getElem?_eq_some_iff.1 hl4).1
        refine ⟨_, _, run_endRound none hl4, rfl, ?_, ?_, ?_⟩
        · exact (hO (j + 1)).putObj (s := ()) _ hj4 (by omega) hl4 rfl
        · rw [World.putObj_heap_same hlt4]; subst hrec; rfl
        · exact (World.putObj_heap_other (by omega)).trans hD4
      | ret => exact hp.elim
      | exit id => exact hp.elim
      | goto t => exact hp.elim
      | panic ch => exact hp.elim
      | outgrown => exact hp.elim
    · rintro e W2 ⟨⟨r, rfl⟩, hj, hl, hD⟩
      have hb : r0.state ≠ .busy := by rw [hrec]; simp
      have h := run_endLoop (P := Try.prog) hl hb
      have hj2 := (hO rs.length).putObj (s := ()) (l := w.heap.size + 1) (.loop { r0 with state := .done }) hj (by omega) hl rfl
      rw [hrec] at h
      refine ⟨none, _, h, hdone _ _ (Nat.le_refl _) ?_ ?_⟩
      · exact (hO rs.length).putObj (s := ()) _ hj (by omega) hl rfl
      · exact (World.putObj_heap_other (by omega)).trans hD
end Go.Proofs.Ytmcpfjhdeplgmaa
namespace Go.Proofs.Ytmcpfjhdeplgmaa
open Go.RowKit Cd Go.Shelf Go.Maps
set_option linter.unusedVariables false
set_option linter.unusedSimpArgs false
attribute [local go_sem] Oper.semAt_some

theorem lawS : Keyed Try.prog 9 := string_keyed Try.underlying9
theorem keyS {s : ByteArray} (h : s.size ≤ maxLen) : keyOf Try.prog 9 (.string s) = some (.string s.data.toList) := Go.WideMaps.keyOf_string_mk Try.underlying9 h
theorem zero64 (w : World) : (zeroValue 3).run Try.prog w = .ok (.int .i64 0) w := by kernel_rfl
theorem strKey (l : List UInt8) : WideAt.IsKeyLit (.string l) := trivial
theorem wf64 {n : Int} (h0 : 0 ≤ n) (h1 : n ≤ 1000000) : (Lit.int .i64 n).wf = true := WalkArith.wf_i64 (by omega)
/-- The map holds where the functions from k on stand. -/
structure PlD (fs : List Fnc) (k : Nat) (D : DataW Unit) : Prop where
  tidy : Tidy D
  has : ∀ x, Maps.has D (.string x) = (findN (fs.drop k) x).isSome
  at_ : ∀ x z, D.atKey (.string x) z = match findN (fs.drop k) x with | some j => .lit (.int .i64 ((k + j : Nat) : Int)) | none => z
  le : Maps.size D ≤ fs.length - k
  nodup : Maps.size D = fs.length - k ↔ ((fs.drop k).map (·.name)).Nodup
theorem PlD.first (fs : List Fnc) : PlD fs fs.length (.map []) := by
  have e : fs.drop fs.length = [] := List.drop_length
  refine ⟨tidy_empty, fun x => ?_, fun x z => ?_, by simp [Maps.size], ?_⟩
  · rw [e]; rfl
  · rw [e]; rfl
  · rw [e]; simp [Maps.size]
theorem findN_mem : ∀ (fs : List Fnc) (x : List UInt8), (findN fs x).isSome = true ↔ x ∈ fs.map (·.name)
  | [], x => by simp [findN]
  | f :: fs, x => by
    unfold findN
    by_cases h : f.name = x
    · rw [if_pos h]; simp [h]
    · rw [if_neg h]
      have := findN_mem fs x
      simp only [Option.isSome_map]
      rw [this]
      simp [Ne.symm h]
theorem PlD.put {fs : List Fnc} {k : Nat} {D : DataW Unit} {f : Fnc} (h : PlD fs (k + 1) D) (hk : fs[k]? = some f) : PlD fs k (D.put (.string f.name) (.lit (.int .i64 (k : Int)))) := by
  have hlt := (List.getElem?_eq_some_iff.1 hk).1
  have e : fs.drop k = f :: fs.drop (k + 1) := by rw [List.drop_eq_getElem_cons hlt]; congr 1; rw [List.getElem?_eq_getElem hlt] at hk; injection hk
  have hs := size_put h.tidy (k := .string f.name) (.lit (.int .i64 (k : Int)))
  rw [h.has f.name] at hs
  have hle := h.le
  refine ⟨h.tidy.put (strKey _) _, fun x => ?_, fun x z => ?_, ?_, ?_⟩
  · rw [e]
    unfold findN
    by_cases hx : f.name = x
    · subst hx; rw [has_put_same h.tidy.isMap (strKey _), if_pos rfl]; rfl
    · rw [has_put_other (fun e' => hx (by injection e' with e'; exact e'.symm)), h.has x, if_neg hx]; simp
  · rw [e]
    unfold findN
    by_cases hx : f.name = x
    · subst hx; rw [atKey_put_same h.tidy.isMap (strKey _), if_pos rfl]; rfl
    · rw [atKey_put_other (fun e' => hx (by injection e' with e'; exact e'.symm)), h.at_ x, if_neg hx]
      cases findN (fs.drop (k + 1)) x with
      | none => rfl
      | some j => simp only [Option.map_some]; rw [show k + 1 + j = k + (j + 1) by omega]
  · rw [hs]; split <;> omega
  · rw [hs, e, List.map_cons, List.nodup_cons]
    constructor
    · intro hh
      split at hh
      · omega
      · rename_i hn
        refine ⟨fun hm => hn ((findN_mem _ _).2 hm), h.nodup.1 (by omega)⟩
    · rintro ⟨h1, h2⟩
      rw [if_neg (fun hn => h1 ((findN_mem _ _).1 hn)), h.nodup.2 h2]; omega
theorem cv_of {x y : Int} (h : (DataW.lit (.int .i64 x) : DataW Unit) = .lit (.int .i64 y)) : x = y := by
  injection h with h; injection h
/-- A map that lies there: the functions' places. -/
def PlacesAt (w : World) (b : Nat) (fs : List Fnc) : Prop := ∃ D n, w.ownsMap Try.prog 9 (plainElem (H := Unit) Try.prog 3) b n D ∧ PlD fs 0 D
theorem PlacesAt.lt {w : World} {b : Nat} {fs : List Fnc} (h : PlacesAt w b fs) : b < w.heap.size := by obtain ⟨D, n, h, _⟩ := h; exact h.lt
theorem PlacesAt.below {w w' : World} {b B : Nat} {fs : List Fnc} (h : PlacesAt w b fs) (hb : Below B w w') (hB : b < B) : PlacesAt w' b fs := by
  obtain ⟨D, n, ⟨es, clock, h1, F, h2, h3⟩, hp⟩ := h
  exact ⟨D, n, ⟨es, clock, (hb.block b hB).trans h1, F, h2, h3⟩, hp⟩
theorem PlacesAt.keep {w w' : World} {b : Nat} {fs : List Fnc} (h : PlacesAt w b fs) (hb : w'.heap[b]? = w.heap[b]?) : PlacesAt w' b fs := by
  obtain ⟨D, n, ⟨es, clock, h1, F, h2, h3⟩, hp⟩ := h
  exact ⟨D, n, ⟨es, clock, hb.trans h1, F, h2, h3⟩, hp⟩
def PlacesPost (U : UnR) (w : World) (e : Ending) (w' : World) : Prop := ∃ b, e = .returned (.map (some b)) ∧ w.heap.size ≤ b ∧ Below w.heap.size w w' ∧ PlacesAt w' b U.fns
/-- Names, and what instructions name, are short. -/
def Names (U : UnR) : Prop := ∀ r ∈ U.fs, r.f.name.length ≤ 1000000 ∧ ∀ i ∈ r.f.code, i.text.length ≤ 1000000
set_option maxHeartbeats 4000000 in
set_option maxRecDepth 100000 in
theorem places_any (U : UnR) (B : Nat) (w : World) (hU : UnAt w B U) (hB : B ≤ w.heap.size) (hn : Names U) (hlen : U.fs.length ≤ 1000) :
    Calls Try.prog 26 #[unV U] w (PlacesPost U w) := by
  have hmm : ∀ (n : Nat) (w : World), (Instr.makeMap 56 (some (.int .i64 n))).run Try.prog w = .ok (.map (some w.heap.size)) (w.alloc (.map #[] 0)) := fun n w => by simp [Instr.makeMap, go_sem]
  have HU := Lib.hid hU; clear hU
  have HN := Lib.hid hn; clear hn
  refine (callsIn_wide (n := 0)).1 ?_
  refine callsIn_of_wp_marks Try.func26 rfl trivial ?_ rfl
  simp only [Try.ntmps26, List.size_toArray, List.length_cons, List.length_nil, Nat.reduceAdd, Nat.reduceSub, Array.replicate_succ, Array.replicate_zero, List.push_toArray, List.append_toArray, List.nil_append, List.cons_append]
  have hw : ∀ f, Fence.wide.fn f := fun _ => trivial
  have hd : Fence.wide.depth = none := rfl
  gi_wp2_with (gi_at_call 45; refine (callsIn_wide.2 (backF_new _ _ _ _)).mono ?_; rintro e w' ⟨rfl, rfl⟩)
  obtain ⟨W0, hW0⟩ : ∃ W0, (((w.alloc (unO U)).alloc (.map #[] 0)).alloc (.cells #[.map (some (w.heap.size + 1))] 56)).alloc (slO U.fa U.fs.length U.fc) = W0 := ⟨_, rfl⟩
  have hB0 : Below w.heap.size w W0 := by rw [← hW0]; exact ((((Below.refl _ w).alloc (Nat.le_refl _) _).alloc (by simp) _).alloc (by simp <;> omega) _).alloc (by simp <;> omega) _
  have hsz : W0.heap.size = w.heap.size + 4 := by rw [← hW0]; simp
  have hm0 : W0.ownsMap Try.prog 9 (plainElem (H := Unit) Try.prog 3) (w.heap.size + 1) 0 (.map []) := by
    rw [← hW0]
    have := World.ownsMap_made (w.alloc (unO U)) Try.prog 9 (plainElem (H := Unit) Try.prog 3)
    rw [World.size_alloc] at this
    exact (this.alloc _).alloc _
  have hb0 : W0.heap[w.heap.size + 2]? = some (.cells #[.map (some (w.heap.size + 1))] 56) := by
    rw [← hW0]
    have := heap_alloc_new ((w.alloc (unO U)).alloc (.map #[] 0)) (.cells #[.map (some (w.heap.size + 1))] 56)
    simp only [World.size_alloc] at this
    exact (Below.heap_alloc _ _ _ (by simp)).trans this
  have hk0 : W0.heap[w.heap.size + 3]? = some (slO U.fa U.fs.length U.fc) := by
    rw [← hW0]
    have := heap_alloc_new (((w.alloc (unO U)).alloc (.map #[] 0)).alloc (.cells #[.map (some (w.heap.size + 1))] 56)) (slO U.fa U.fs.length U.fc)
    simp only [World.size_alloc] at this
    exact this
  rw [show ((((w.alloc (unO U)).alloc (.map #[] 0)).alloc (.cells #[.map (some (w.heap.size + 1))] 56)).alloc (slO U.fa U.fs.length U.fc)) = W0 from hW0]
  clear hW0
  have HB0 := Lib.hid hB0; have HM0 := Lib.hid hm0; have HBB := Lib.hid hb0; have HK0 := Lib.hid hk0
  clear hB0 hm0 hb0 hk0
  have hfl : U.fns.length = U.fs.length := by unfold UnR.fns; simp
  have HFL := Lib.hid hfl
  refine range_backF (B := B) (bk := w.heap.size + 1 + 1 + 1) (sa := U.fa) (sc := U.fc) (rs := U.fs) (by omega) rfl
    (fun j W => (W.heap[w.heap.size + 2]? = some (.cells #[.map (some (w.heap.size + 1))] 56) ∧ W.heap[w.heap.size + 3]? = some (slO U.fa U.fs.length U.fc) ∧ ∃ D n, n ≤ j ∧ W.ownsMap Try.prog 9 (plainElem (H := Unit) Try.prog 3) (w.heap.size + 1) n D ∧ ∀ k, k + j = U.fs.length → PlD U.fns k D) ∧ Below w.heap.size w W)
    ?own ?mem ?start
    (fun k r a' W => ∃ x, W0.heap.size ≤ x ∧ W.heap[x]? = some (fnO r) ∧ a' = { tmps := #[unV U, .pointer (some ⟨w.heap.size, 0, none⟩), .map none, .pointer (some ⟨w.heap.size + 1 + 1, 0, none⟩), .int .i64 (k : Nat), .pointer (some ⟨x, 0, none⟩), .pointer (some ⟨w.heap.size, 0, none⟩), .slice U.fa U.fs.length U.fc, .int .i64 U.fs.length, .map (some (w.heap.size + 1)), .pointer (some ⟨w.heap.size, 0, none⟩), .slice U.fa U.fs.length U.fc, .func (.func 55) #[] #[.pointer (some ⟨w.heap.size + 1 + 1 + 1, 0, none⟩)], .int .i64 (k : Nat), fnV r, undef, undef, undef, undef, undef], defers := [] })
    ?ownA ?assign ?body ?done
  case own =>
    rintro j _ W W' row ⟨⟨h1, h2, D, n, h3, h4, h5⟩, h6⟩ hg hr
    have hne : ∀ q, q < W0.heap.size → some q ≠ row := fun q hq e => by have := (hr q e.symm).1; omega
    refine ⟨⟨(hg.block _ (lt_heap h1) (hne _ (by omega))).trans h1, (hg.block _ (lt_heap h2) (hne _ (by omega))).trans h2, D, n, h3, h4.kept hg (hne _ (by omega)), h5⟩, h6.grown hg h6.size (fun k e => by have := (hr k e).1; omega)⟩
  case mem =>
    rintro j W ⟨⟨h1, h2, _⟩, h6⟩
    exact ⟨h2, RowAt.below HU.out.fs (h6.mono hB)⟩
  case start =>
    refine ⟨⟨HBB.out, HK0.out, _, 0, Nat.le_refl _, HM0.out, fun k hk => ?_⟩, HB0.out⟩
    rw [show k = U.fns.length by omega]
    exact PlD.first _
  case ownA =>
    rintro k r a' _ W W' row ⟨x, hx, h1, h2⟩ hg hr
    refine ⟨x, hx, (hg.block _ (lt_heap h1) (fun e => ?_)).trans h1, h2⟩
    obtain ⟨_, o, ho, hc⟩ := hr x e.symm
    rw [h1] at ho
    injection ho with ho
    rw [← ho] at hc
    cases hc
  case assign =>
    rintro l j k r W K hs hj hk hr hK
    have HJ := Lib.hid hj; clear hj
    gi_wp2
    refine hK _ _ (fun q hq => Below.heap_alloc _ _ _ hq) ?_ ⟨W.heap.size, hs, heap_alloc_new W _, rfl⟩
    obtain ⟨⟨h1, h2, D, n, h3, h4, h5⟩, h6⟩ := HJ.out
    exact ⟨⟨(Below.heap_alloc _ _ _ (lt_heap h1)).trans h1, (Below.heap_alloc _ _ _ (lt_heap h2)).trans h2, D, n, h3, h4.alloc _, h5⟩, h6.alloc h6.size _⟩
  case body =>
    rintro l j k r a' W hs ⟨⟨h1, h2, D, n, h3, h4, h5⟩, h6⟩ ⟨x, hx, hxo, rfl⟩ hk hr
    have cb := nv1b h1
    obtain ⟨d0, _, _, _, _⟩ := nv5 hxo
    have hnm := (HN.out r (List.mem_of_getElem? hr)).1
    have HKN : Hid ((sb r.f.name).size ≤ maxLen) := Lib.hid (by show r.f.name.length ≤ maxLen; unfold maxLen; omega)
    have hkf : U.fns[k]? = some r.f := by unfold UnR.fns; rw [List.getElem?_map, hr]; rfl
    have HPL := Lib.hid ((h5 (k + 1) (by omega)).put hkf)
    have H1 := Lib.hid h1; have H2 := Lib.hid h2; have H4 := Lib.hid h4; have H6 := Lib.hid h6; have HX := Lib.hid hxo
    have hkl : k ≤ 1000 := by omega
    have hb1 : w.heap.size + 1 < W.heap.size := h4.lt
    clear h1 h2 h4 h6 hxo hkf h5 hr hnm
    gi_wp2_with (gi_at_mapUpdate; refine wpListIn_mapUpdate_own _ rfl _ _ _ 56 rfl 9 3 lawS Try.underlying56 (plainElem (H := Unit) Try.prog 3) (w.heap.size + 1) n D rfl H4.out (by unfold maxLen; omega) _ _ _ rfl rfl (keyS HKN.out) (.lit (.int .i64 (k : Int))) [] (plainElem_int Try.underlying3 (wf64 (by omega) (by omega))) ?_; intro w1 hown1 hgrow1)
    have hne : ∀ q, q ≠ w.heap.size + 1 → q < W.heap.size → w1.heap[q]? = W.heap[q]? := fun q hq hl => hgrow1.block q hl (fun e => hq (by injection e))
    refine ⟨⟨⟨(hne _ (by omega) (by omega)).trans H1.out, (hne _ (by omega) (by omega)).trans H2.out, _, n + 1, by omega, hown1, fun k' hk' => ?_⟩, H6.out.grown hgrow1 H6.out.size (fun q e => by injection e; omega)⟩, fun q hq hl => hne q (by omega) hl⟩
    rw [show k' = k by omega]
    exact HPL.out
  case done =>
    rintro D W hD ⟨⟨h1, h2, D2, n, h3, h4, h5⟩, h6⟩ hK
    have cb := nv1b h1
    have HK := Lib.hid hK
    have H4 := Lib.hid h4; have H6 := Lib.hid h6
    have HP := Lib.hid (h5 0 (by omega))
    clear h1 h2 h4 h5 h6 hK
    gi_wp2
    refine ⟨by simp, .inl ⟨_, _, rfl, run_takeDeferred HK.out, ?_⟩⟩
    refine ⟨_, results_tmp rfl _ _ _, w.heap.size + 1, rfl, by omega, H6.out.trans (belowK_b (w := w) (Nat.le_refl _) _ D _ _ (by omega) HK.out rfl rfl), D2, n, H4.out.kept (grownBy_putObj' _ D (.deferred none)) (fun e => by injection e; omega), HP.out⟩
theorem PlD.none {fs : List Fnc} {D : DataW Unit} {s : List UInt8} (h : PlD fs 0 D) (hf : findN fs s = .none) : Maps.has D (.string s) = false := by
  rw [h.has s, List.drop_zero, hf]; rfl
theorem PlD.some {fs : List Fnc} {D : DataW Unit} {s : List UInt8} {k : Nat} (h : PlD fs 0 D) (hf : findN fs s = .some k) : Maps.has D (.string s) = true ∧ ∀ c : Int, D.atKey (.string s) (.lit (.int .i64 0)) = .lit (.int .i64 c) → (k : Int) = c := by
  refine ⟨by rw [h.has s, List.drop_zero, hf]; rfl, fun c hc => ?_⟩
  rw [h.at_ s, List.drop_zero, hf] at hc
  have := cv_of hc
  omega
theorem keyT {s : List UInt8} (h : s.length ≤ 1000000) : keyOf Try.prog 9 (.string (sb s)) = .some (.string s) := keyS (s := sb s) (by show s.length ≤ maxLen; unfold maxLen; omega)
set_option maxHeartbeats 2000000 in
theorem find_c (U : UnR) (s : List UInt8) (B : Nat) (w : World) (hU : UnAt w B U) (hB : B ≤ w.heap.size) (hn : Names U) (hlen : U.fs.length ≤ 1000) (hs : s.length ≤ 1000000) :
    Calls Try.prog 13 #[unV U, .string (sb s)] w (RPost (.int .i64 (findI U.fns s)) w) := by
  have HU := Lib.hid (hU.below ((Below.refl _ w).alloc hB (unO U))); clear hU
  have HN := Lib.hid hn; clear hn
  have HK := Lib.hid (keyT hs)
  have hbx : Below w.heap.size w (w.alloc (unO U)) := (Below.refl _ w).alloc (Nat.le_refl _) _
  have HBX := Lib.hid hbx; clear hbx
  cases hf : findN U.fns s with
  | none =>
    have E := Lib.hid (show findI U.fns s = -1 by unfold findI; rw [hf])
    have HF := Lib.hid hf; clear hf
    go_enter Try.func13, Try.ntmps13
    go_wp2_with (first | ((with_reducible refine (places_any U B _ HU.out (by simp; omega) HN.out hlen).mono ?_); rintro e v1 ⟨b, rfl, hb, hbl, D, n, hown, hp⟩; have HO := Lib.hid hown; have HH := Lib.hid (hp.none HF.out); have HB1 := Lib.hid hbl; clear hown hp hbl hb) | (at_lookup; refine wpList_lookup_own_ok_int _ rfl _ _ 56 rfl 9 3 .i64 lawS Try.underlying56 Try.underlying3 (zero64 _) b n D rfl HO.out _ (.string s) rfl HK.out ?_; intro c hat hwc; rw [HH.out]; clear hat hwc))
    go_ret
    exact ⟨by rw [E.out]; rfl, HBX.out.trans (HB1.out.mono (by simp))⟩
  | some k =>
    have E := Lib.hid (show findI U.fns s = k by unfold findI; rw [hf])
    have HF := Lib.hid hf; clear hf
    go_enter Try.func13, Try.ntmps13
    go_wp2_with (first | ((with_reducible refine (places_any U B _ HU.out (by simp; omega) HN.out hlen).mono ?_); rintro e v1 ⟨b, rfl, hb, hbl, D, n, hown, hp⟩; have HO := Lib.hid hown; have HH := Lib.hid (hp.some HF.out).1; have HC := Lib.hid (hp.some HF.out).2; have HB1 := Lib.hid hbl; clear hown hp hbl hb) | (at_lookup; refine wpList_lookup_own_ok_int _ rfl _ _ 56 rfl 9 3 .i64 lawS Try.underlying56 Try.underlying3 (zero64 _) b n D rfl HO.out _ (.string s) rfl HK.out ?_; intro c hat hwc; rw [HH.out]; have hc := HC.out c hat; subst hc; clear hat hwc))
    go_ret
    exact ⟨by rw [E.out]; rfl, HBX.out.trans (HB1.out.mono (by simp))⟩
end Go.Proofs.Ytmcpfjhdeplgmaa
