/-
  A run, whatever was made beside it.
  CodeOrder: rows put together; the turned unit in memory.
-/
import Derived.Test.YtmcpfjhdeplgmaaQPair
import Derived.Test.YtmcpfjhdeplgmaaQFew
import Derived.Test.YtmcpfjhdeplgmaaQLeave
import Derived.Test.YtmcpfjhdeplgmaaQOrder
import Derived.Maps.AppendAt
import Derived.Laws.AppendOwnNone
namespace Go.Proofs.Ytmcpfjhdeplgmaa
open Go.RowKit Cd Go.Maps Go.Sort
set_option linter.unusedVariables false
set_option linter.unusedSimpArgs false

theorem namesF_few {U : UnR} (h : fewB U.un = true) : Names U ∧ U.fs.length ≤ 1000 := by
  unfold fewB at h
  simp only [Bool.and_eq_true, decide_eq_true_eq, List.all_eq_true] at h
  obtain ⟨⟨⟨h1, h2⟩, h3⟩, h4⟩ := h
  have hl : U.fs.length ≤ 6 := by have : U.un.funcs.length ≤ 6 := h1; unfold UnR.un UnR.fns at this; simpa using this
  refine ⟨fun r hr => ?_, by omega⟩
  have h5 := h3 r.f (List.mem_map.2 ⟨r, hr, rfl⟩)
  unfold smallB at h5
  simp only [Bool.and_eq_true, decide_eq_true_eq, List.all_eq_true] at h5
  exact ⟨by omega, fun i hi => by have := h5.2 i hi; omega⟩
theorem sameR_refl (x : Rsu) : sameR x x = true := by unfold sameR; simp
/-- A run, whatever was made beside it. -/
theorem run_on {U : UnR} {ia : Option Addr} {inp : List UInt8} {ic : Nat} {fuel : Int} {W w1 : World} {x : Rsu} (hU : UnAt W W.heap.size U) (hin : CIn W (.slice ia inp.length ic) inp) (hn : Names U) (hl : U.fs.length ≤ 1000) (hWd : ∀ g ∈ U.gs, Wd g.pos) (hb : Below W.heap.size W w1) (hx : runU U.un inp fuel = x) :
    ∀ w', Below w1.heap.size w1 w' → Calls Try.prog 15 #[unV U, .slice ia inp.length ic, .int .i64 fuel] w' (RunPost x w') := fun w' h => by
  have hb' := hb.trans (h.mono hb.size)
  exact crun_v U ia inp inp.length ic fuel W.heap.size w' (hU.below hb') hb'.size hn hWd hl rfl (hin.up hb') x hx
theorem own_none {w : World} {B n c : Nat} {e : TypeId} {a : Option Addr} {xs : List Value} (h : w.ownsRow B e 1 (.slice a n c) n xs) : a = none ∨ ∃ g, a = some ⟨g, 0, none⟩ := by
  obtain ⟨_, ⟨hv, _⟩ | ⟨g, cap, cur, hv, _⟩⟩ := h
  · injection hv with h1 _ _
    exact .inl h1
  · injection hv with h1 _ _
    exact .inr ⟨g, h1⟩
end Go.Proofs.Ytmcpfjhdeplgmaa
namespace Go.Proofs.Ytmcpfjhdeplgmaa
open Go.RowKit Cd Go.Maps
set_option linter.unusedVariables false
set_option linter.unusedSimpArgs false

/-- Appended out of another row, whatever it is. -/
def SrcAt (w : World) (size : Nat) (src : Value) (m : Nat) (news : List Value) : Prop :=
  (src = .slice none 0 0 ∧ m = 0 ∧ news = []) ∨ ∃ ad c, src = .slice (some ad) m c ∧ news.length = m * size ∧ ∀ j u, news[j]? = some u → w.cell? (ad.add j) = some u
theorem SrcAt.below {w w' : World} {size : Nat} {src : Value} {m : Nat} {news : List Value} (h : SrcAt w size src m news) (hb : Below w.heap.size w w') : SrcAt w' size src m news := by
  rcases h with h | ⟨ad, c, h1, h2, h3⟩
  · exact .inl h
  · exact .inr ⟨ad, c, h1, h2, fun j u hu => (hb.cell (p := ad.add j) (World.block_lt_of_cell? w _ (h3 j u hu))).trans (h3 j u hu)⟩
theorem step_append_any {w : World} {ops : Array Oper} {o : Oper} {a : Act} {K : Act → World → Prop} {Q : Exit → Act → World → Prop} {E : Prop} (hgd : o.guard = none) (s x : Operand) (t : TypeId)
    (ho : o.op = .call { callee := .builtin .append, args := #[s, x], argTypes := #[t, t] })
    (base : Nat) (e : TypeId) (i : TypeInfo) (z : Value) (size bytes : Nat) (ht : Try.prog.underlying t = some (.slice e)) (hi : Try.prog.info? e = some i) (hz : i.zero = some z)
    (hsize : i.size = size) (hby : i.bytes = bytes) (hzs : z.cells.size = size) (hsz : 0 < size)
    (v : Value) (n : Nat) (xs : List Value) (hs : a.eval s = v) (hown : w.ownsRow base e size v n xs)
    (src : Value) (m : Nat) (news : List Value) (hx : a.eval x = src) (hsrc : SrcAt w size src m news) (h1 : ∀ u ∈ news, u.oneCell' = true)
    (h63 : n + m ≤ maxLen) (hbytes : (n + m) * bytes ≤ 140737488355328) (hbase : base ≤ w.heap.size)
    (h : ∀ v' w', w'.ownsRow base e size v' (n + m) (xs ++ news) → w.grownBy w' v.ownBlock → (v'.ownBlock = v.ownBlock ∨ v'.ownBlock = some w.heap.size) → K (a.put o.dst v') w') :
    if Region.wanted o (yielded ops a.tmps) = true then Oper.wp Try.prog o a w K Q else E := by
  have hw : Region.wanted o (yielded ops a.tmps) = true := by simp [Region.wanted, hgd]
  rw [if_pos hw]
  rcases hsrc with ⟨rfl, rfl, rfl⟩ | ⟨ad, c, rfl, hl, hnews⟩
  · have hrun := run_append_owned_none (P := Try.prog) (w := w) base t o.type e i size ht hi v n xs hown
    unfold Oper.wp
    simp [execOp, ho, resolve, invoke, builtin, hs, hx, hrun, Result.andThen]
    exact h v w (by simpa using hown) (World.grownBy.refl w _) (.inl rfl)
  · obtain ⟨v', w', hr, h2, h3, h4, h5⟩ := run_append_own_at (P := Try.prog) w base t o.type e i z size bytes ht hi hz hsize hby hzs hsz v n xs hown ad m c news hl hnews h1 h63 hbytes hbase
    unfold Oper.wp execOp
    simp only [ho, resolve, invoke, builtin, Sem.run_bind, Sem.run_pure, Result.andThen_ok, List.map_toArray, List.map_cons, List.map_nil, hs, hx, hr]
    exact h v' w' h2 h3 h5
theorem sliced_zero (a : Option Addr) (k c s : Nat) : sliced a 0 k c s = .slice a k c := by
  unfold sliced
  rcases a with _ | ⟨b, off, sp⟩
  · simp
  · simp [Addr.add]
theorem slice_toG {t e : TypeId} (ht : Try.prog.underlying t = some (.slice e)) {s : Nat} (hz : ∀ W, (sizeOf e).run Try.prog W = .ok s W) {a : Option Addr} {n c k : Nat} (hk : k ≤ c) (hc : c ≤ maxLen) (W : World) :
    (Instr.sliceAt t (.slice a n c) none (some (.int .i64 k)) none).run Try.prog W = .ok (.slice a k c) W := by
  unfold maxLen at hc
  have h0 : (0 : Int) ≤ (k : Int) := Int.natCast_nonneg _
  have h1 : (k : Int) ≤ (c : Int) := by omega
  have hel : Try.prog.elem t = e := by simp [Program.elem, ht]
  rw [← sliced_zero a k c s]
  go_simp
theorem size_fn (W : World) : (sizeOf 30).run Try.prog W = .ok 5 W := by kernel_rfl
theorem infoFn : (Try.prog.info? 30).map (fun i => (i.zero, i.size, i.bytes)) = some (some (.agg #[.string ⟨#[]⟩, .int .i64 0, .int .i64 0, .int .i64 0, .slice none 0 0]), 5, 64) := by kernel_rfl
theorem infoGl : (Try.prog.info? 41).map (fun i => (i.zero, i.size, i.bytes)) = some (some (.agg #[.string ⟨#[]⟩, .int .i64 0, .int .i64 0, .int .i64 0]), 4, 40) := by kernel_rfl
theorem fn_one {l : List FnR} : ∀ u ∈ l.flatMap fnCells, u.oneCell' = true := fun u hu => by
  obtain ⟨r, _, hr⟩ := List.mem_flatMap.1 hu
  unfold fnCells at hr
  simp only [List.mem_cons, List.not_mem_nil, or_false] at hr
  rcases hr with rfl | rfl | rfl | rfl | rfl <;> simp [Value.oneCell']
/-- The functions from k on; those ahead of k. -/
theorem src_drop {w : World} {B : Nat} {U : UnR} (hU : UnAt w B U) (hc : U.fs.length ≤ U.fc) (hn : U.fa = none → U.fc = 0) {k : Nat} (hk : k ≤ U.fs.length) : SrcAt w 5 (sliced U.fa k U.fs.length U.fc 5) (U.fs.length - k) ((U.fs.drop k).flatMap fnCells) := by
  cases hfa : U.fa with
  | none =>
    left
    have h0 := hn hfa
    have h1 : U.fs.length = 0 := by omega
    have h2 : U.fs = [] := List.eq_nil_of_length_eq_zero h1
    have h3 : k = 0 := by omega
    rw [h1, h0, h2, h3]
    exact ⟨by unfold sliced; simp, rfl, rfl⟩
  | some ad =>
    right
    unfold sliced
    refine ⟨if U.fc = k then ad else ad.add (k * 5), U.fc - k, by split <;> rfl, by rw [flat_len fnCells_len, List.length_drop], fun j u hu => ?_⟩
    have hj := (List.getElem?_eq_some_iff.1 hu).1
    rw [flat_len fnCells_len, List.length_drop] at hj
    have hlt : k < U.fs.length := by omega
    obtain ⟨b, off, ha, _, _, hcell⟩ := hU.fs (by rw [flat_len fnCells_len]; omega)
    rw [hfa] at ha
    injection ha with ha
    subst ha
    rw [if_neg (by omega)]
    have e : ((⟨b, off, none⟩ : Addr).add (k * 5)).add j = ⟨b, off + (k * 5 + j), none⟩ := by
      unfold Addr.add
      by_cases h1 : k * 5 = 0 <;> by_cases h2 : j = 0 <;> simp [h1, h2] <;> omega
    rw [e]
    refine hcell _ u ?_
    have hs : U.fs.flatMap fnCells = (U.fs.take k).flatMap fnCells ++ (U.fs.drop k).flatMap fnCells := by rw [← List.flatMap_append, List.take_append_drop]
    rw [hs, List.getElem?_append_right (by rw [flat_len fnCells_len, List.length_take]; omega), flat_len fnCells_len, List.length_take, show k * 5 + j - min k U.fs.length * 5 = j by rw [Nat.min_eq_left hk]; omega]
    exact hu
theorem src_take {w : World} {B : Nat} {U : UnR} (hU : UnAt w B U) (hc : U.fs.length ≤ U.fc) (hn : U.fa = none → U.fc = 0) {k : Nat} (hk : k ≤ U.fs.length) : SrcAt w 5 (.slice U.fa k U.fc) k ((U.fs.take k).flatMap fnCells) := by
  cases hfa : U.fa with
  | none =>
    left
    have h0 := hn hfa
    have h3 : k = 0 := by omega
    rw [h0, h3]
    exact ⟨rfl, rfl, by simp⟩
  | some ad =>
    right
    refine ⟨ad, U.fc, rfl, by rw [flat_len fnCells_len, List.length_take, Nat.min_eq_left hk], fun j u hu => ?_⟩
    have hj := (List.getElem?_eq_some_iff.1 hu).1
    rw [flat_len fnCells_len, List.length_take] at hj
    obtain ⟨b, off, ha, _, _, hcell⟩ := hU.fs (by rw [flat_len fnCells_len]; omega)
    rw [hfa] at ha
    injection ha with ha
    subst ha
    have e : (⟨b, off, none⟩ : Addr).add j = ⟨b, off + j, none⟩ := by
      unfold Addr.add
      by_cases h2 : j = 0 <;> simp [h2]
    rw [e]
    refine hcell _ u ?_
    have hs : U.fs.flatMap fnCells = (U.fs.take k).flatMap fnCells ++ (U.fs.drop k).flatMap fnCells := by rw [← List.flatMap_append, List.take_append_drop]
    rw [hs, List.getElem?_append_left (by rw [flat_len fnCells_len, List.length_take]; omega)]
    exact hu
theorem row_own {w : World} {B size n c : Nat} {e : TypeId} {a : Option Addr} {l : List Value} (h : w.ownsRow B e size (.slice a n c) n l) : RowAt w w.heap.size a l := by
  obtain ⟨hl, ⟨_, h0⟩ | ⟨g, cap, cur, hv, hg, hh, h1, h2, h3, ht⟩⟩ := h
  · intro hp
    rw [h0] at hl
    omega
  · intro hp
    injection hv with ha _ _
    refine ⟨g, 0, ha, lt_heap hh, Nat.le_refl _, fun j u hu => ?_⟩
    rw [cell_of_row w g _ _ _ _ hh, Nat.zero_add]
    have hu' := hu
    rw [← ht] at hu'
    have hj : j < n * size := by
      have := (List.getElem?_eq_some_iff.1 hu').1
      rw [List.length_take] at this
      omega
    rw [List.getElem?_take_of_lt hj] at hu'
    simpa using hu'
/-- A global called otherwise; the turned unit. -/
def glX (g : Glo) : Glo := ⟨g.name ++ [120], g.pos, g.size, g.init⟩
def turnU (U : UnR) (k : Nat) (va : Option Addr) (vc : Nat) (ga : Option Addr) (gc : Nat) : UnR := ⟨U.fs.drop k ++ U.fs.take k, va, vc, U.gs.map glX, ga, gc, U.top⟩
theorem turnU_turned (U : UnR) (k : Nat) (va : Option Addr) (vc : Nat) (ga : Option Addr) (gc : Nat) : Turned U.un (turnU U k va vc ga gc).un := by
  refine ⟨?_, ?_, rfl⟩
  · show ((U.fs.drop k ++ U.fs.take k).map (·.f)).Perm (U.fs.map (·.f))
    refine List.Perm.map _ ?_
    have := List.perm_append_comm (l₁ := U.fs.drop k) (l₂ := U.fs.take k)
    rwa [List.take_append_drop] at this
  · show ((U.gs.map glX).map _) = _
    rw [List.map_map]
    rfl
theorem turnU_mem {U : UnR} {k : Nat} {va : Option Addr} {vc : Nat} {ga : Option Addr} {gc : Nat} {r : FnR} (h : r ∈ (turnU U k va vc ga gc).fs) : r ∈ U.fs := by
  rcases List.mem_append.1 h with h | h
  · exact List.mem_of_mem_drop h
  · exact List.mem_of_mem_take h
theorem turnU_len (U : UnR) {k : Nat} (hk : k ≤ U.fs.length) (va : Option Addr) (vc : Nat) (ga : Option Addr) (gc : Nat) : (turnU U k va vc ga gc).fs.length = U.fs.length := by
  show (U.fs.drop k ++ U.fs.take k).length = _
  rw [List.length_append, List.length_drop, List.length_take]
  omega
theorem turnU_at {W w : World} {B1 B2 : Nat} {U : UnR} {k : Nat} (hk : k ≤ U.fs.length) {va : Option Addr} {vc : Nat} {ga : Option Addr} {gc : Nat} (hU : UnAt W W.heap.size U) (hb : Below W.heap.size W w) (hf : w.ownsRow B1 30 5 (.slice va U.fs.length vc) U.fs.length ((U.fs.drop k ++ U.fs.take k).flatMap fnCells))
    (hg : w.ownsRow B2 41 4 (.slice ga U.gs.length gc) U.gs.length ((U.gs.map glX).flatMap glCells)) : UnAt w w.heap.size (turnU U k va vc ga gc) :=
  ⟨row_own hf, row_own hg, fun r hr => RowAt.up ((hU.code r (turnU_mem hr)).below hb) hb.size (Nat.le_refl _), by rw [turnU_len U hk]; exact hU.lf, by show (U.gs.map glX).length ≤ _; rw [List.length_map]; exact hU.lg, fun r hr => hU.lc r (turnU_mem hr)⟩
end Go.Proofs.Ytmcpfjhdeplgmaa
