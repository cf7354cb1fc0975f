/-
  A run in memory: its words, its output, its calls with their registers; what a step changes of these.
-/
import Derived.Test.YtgnpbodhjmappaaPNM
import Derived.Test.YtgnpbodhjmappaaPR7RightU
import Derived.Test.YtgnpbodhjmappaaPNL
import Derived.Test.YtgnpbodhjmappaaPNA
import Derived.Test.YtgnpbodhjmappaaPNB
import Derived.Test.YtgnpbodhjmappaaPLA
import Derived.Test.YtgnpbodhjmappaaPLG
import Derived.Test.YtgnpbodhjmappaaPLO
set_option linter.unusedVariables false
set_option linter.unusedSimpArgs false
namespace Go.Proofs.Ytgnpbodhjmappaa
open Go.RowKit Cd
structure FrR where
  fr : Frm
  rb : Nat
def frCells (f : FrR) : List Value := [.int .i64 f.fr.k, .int .i64 f.fr.base, .int .i64 f.fr.pos, .int .i64 f.fr.dst, .slice (some ⟨f.rb, 0, none⟩) f.fr.regs.length f.fr.regs.length]
theorem frCells_len (f : FrR) : (frCells f).length = 5 := rfl
abbrev frO (f : FrR) : Obj := .cells #[.int .i64 f.fr.k, .int .i64 f.fr.base, .int .i64 f.fr.pos, .int .i64 f.fr.dst, .slice (some ⟨f.rb, 0, none⟩) f.fr.regs.length f.fr.regs.length] 99
def u8s (l : List UInt8) : List Value := l.map fun c => Value.int .u8 c.toNat
structure RunAt (w0 w : World) (U : UnR) (N ub qb mb : Nat) (mem : List Int) (out : List UInt8) (vo vs : Value) (stk : List FrR) : Prop where
  below : Below w0.heap.size w0 w
  lub : w0.heap.size ≤ ub ∧ ub < N
  lqb : w0.heap.size ≤ qb ∧ qb < N
  lmb : w0.heap.size ≤ mb ∧ mb < N
  ne : ub ≠ qb ∧ ub ≠ mb ∧ qb ≠ mb
  un : w.heap[ub]? = some (unO U)
  res : w.heap[qb]? = some (.cells #[.int .i64 0, .int .i64 0, .slice none 0 0] 74)
  memh : w.heap[mb]? = some (.cells (mem.map (Value.int .i64)).toArray 3)
  memlen : mem.length = 4096
  outh : w.ownsRow N 5 1 vo out.length (u8s out)
  stkh : w.ownsRow N 99 5 vs stk.length (stk.flatMap frCells)
  regs : ∀ f ∈ stk, w.heap[f.rb]? = some (.cells (f.fr.regs.map (Value.int .i64)).toArray 3)
  nd : (stk.map (·.rb)).Nodup
  ap : ∀ f ∈ stk, N ≤ f.rb ∧ vo.ownBlock ≠ some f.rb ∧ vs.ownBlock ≠ some f.rb
  oo : ∀ g, vo.ownBlock = some g → vs.ownBlock ≠ some g
variable {w0 w w' : World} {U : UnR} {N ub qb mb : Nat} {mem : List Int} {out : List UInt8} {vo vs : Value} {stk : List FrR}
theorem RunAt.keep (h : RunAt w0 w U N ub qb mb mem out vo vs stk) (hb : Below w.heap.size w w') : RunAt w0 w' U N ub qb mb mem out vo vs stk :=
  ⟨h.below.trans (hb.mono h.below.size), h.lub, h.lqb, h.lmb, h.ne, (hb.block _ (lt_heap h.un)).trans h.un, (hb.block _ (lt_heap h.res)).trans h.res, (hb.block _ (lt_heap h.memh)).trans h.memh, h.memlen,
    own_keep h.outh (fun g hg => hb.block g (h.outh.lt g hg).2), own_keep h.stkh (fun g hg => hb.block g (h.stkh.lt g hg).2), fun f hf => (hb.block _ (lt_heap (h.regs f hf))).trans (h.regs f hf), h.nd, h.ap, h.oo⟩
theorem RunAt.drew (h : RunAt w0 w U N ub qb mb mem out vo vs stk) : RunAt w0 w.drew U N ub qb mb mem out vo vs stk := h.keep ⟨rfl, rfl, rfl, Nat.le_refl _, fun _ _ => rfl⟩
theorem own_set {w : World} {B n cap size g j : Nat} {e : TypeId} {xs : List Value} (h : w.ownsRow B e size (.slice (some ⟨g, 0, none⟩) n cap) n xs) (u : Value) : (w.setCell ⟨g, j, none⟩ u).ownsRow B e size (.slice (some ⟨g, 0, none⟩) n cap) n (xs.set j u) := by
  obtain ⟨hl, ⟨h0, _⟩ | ⟨g', cap', cur, hv, hg, hh, h1, h2, h3, ht⟩⟩ := h
  · cases h0
  · injection hv with hv _ hcap
    injection hv with hv
    injection hv with hv _ _
    subst hv hcap
    refine ⟨by simpa using hl, .inr ⟨g, cap, cur.setIfInBounds j u, rfl, hg, cells_set hh j u, h1, h2, by simpa using h3, ?_⟩⟩
    rw [Array.toList_setIfInBounds, List.take_set, ht]
theorem heap_other {w : World} {b j k : Nat} {u : Value} (h : k ≠ b) : (w.setCell ⟨b, j, none⟩ u).heap[k]? = w.heap[k]? := Below.heap_setCell _ _ _ _ (by simpa using h)
theorem RunAt.setMem (h : RunAt w0 w U N ub qb mb mem out vo vs stk) (a : Nat) (x : Int) : RunAt w0 (w.setCell ⟨mb, a, none⟩ (.int .i64 x)) U N ub qb mb (mem.set a x) out vo vs stk := by
  have hm := h.lmb
  refine ⟨h.below.setCell (show w0.heap.size ≤ mb by omega) _, h.lub, h.lqb, h.lmb, h.ne, (heap_other h.ne.2.1).trans h.un, (heap_other h.ne.2.2).trans h.res, ?_, by rw [List.length_set]; exact h.memlen,
    own_keep h.outh (fun g hg => heap_other (by have := (h.outh.lt g hg).1; omega)), own_keep h.stkh (fun g hg => heap_other (by have := (h.stkh.lt g hg).1; omega)), fun f hf => (heap_other (by have := (h.ap f hf).1; omega)).trans (h.regs f hf), h.nd, h.ap, h.oo⟩
  rw [cells_set h.memh]
  simp [List.map_set]
theorem RunAt.setPos {ini : List FrR} {f : FrR} {g cap n : Nat} (h : RunAt w0 w U N ub qb mb mem out vo (.slice (some ⟨g, 0, none⟩) n cap) (ini ++ [f])) (p : Int) :
    RunAt w0 (w.setCell ⟨g, ini.length * 5 + 2, none⟩ (.int .i64 p)) U N ub qb mb mem out vo (.slice (some ⟨g, 0, none⟩) n cap) (ini ++ [⟨{ f.fr with pos := p }, f.rb⟩]) := by
  have hg := (h.stkh.lt g rfl).1
  have hlen : n = (ini ++ [f]).length := by
    obtain ⟨_, ⟨h0, _⟩ | ⟨g', cap', cur, hv, _⟩⟩ := h.stkh
    · cases h0
    · injection hv
  have hu := h.lub; have hq := h.lqb; have hm := h.lmb
  have hrb : ∀ x ∈ ini ++ [(⟨{ f.fr with pos := p }, f.rb⟩ : FrR)], ∃ y ∈ ini ++ [f], y.rb = x.rb ∧ y.fr.regs = x.fr.regs := by
    intro x hx
    rcases List.mem_append.1 hx with h1 | h1
    · exact ⟨x, List.mem_append.2 (.inl h1), rfl, rfl⟩
    · rw [List.mem_singleton] at h1
      subst h1
      exact ⟨f, by simp, rfl, rfl⟩
  have e : ((ini ++ [f]).flatMap frCells).set (ini.length * 5 + 2) (.int .i64 p) = (ini ++ [(⟨{ f.fr with pos := p }, f.rb⟩ : FrR)]).flatMap frCells := by
    simp only [List.flatMap_append, List.flatMap_cons, List.flatMap_nil, List.append_nil]
    rw [List.set_append_right _ _ (by rw [flat_len frCells_len]; omega), flat_len frCells_len]
    rw [show ini.length * 5 + 2 - ini.length * 5 = 2 by omega]
    rfl
  refine ⟨h.below.setCell (show w0.heap.size ≤ g by omega) _, h.lub, h.lqb, h.lmb, h.ne, (heap_other (by omega)).trans h.un, (heap_other (by omega)).trans h.res, (heap_other (by omega)).trans h.memh, h.memlen,
    own_keep h.outh (fun k hk => heap_other (fun e => h.oo k hk (by simp [Value.ownBlock, e]))), ?_, fun x hx => ?_, by simpa using h.nd, fun x hx => ?_, h.oo⟩
  · have := own_set (j := ini.length * 5 + 2) (u := .int .i64 p) (hlen ▸ h.stkh)
    rw [e] at this
    simpa [hlen] using this
  · obtain ⟨y, hy, h1, h2⟩ := hrb x hx
    rw [← h1, ← h2]
    exact (heap_other (fun e => (h.ap y hy).2.2 (by simp [Value.ownBlock, e]))).trans (h.regs y hy)
  · obtain ⟨y, hy, h1, h2⟩ := hrb x hx
    rw [← h1]
    exact h.ap y hy
theorem RunAt.setReg {ini : List FrR} {f : FrR} (h : RunAt w0 w U N ub qb mb mem out vo vs (ini ++ [f])) (a : Nat) (x : Int) :
    RunAt w0 (w.setCell ⟨f.rb, a, none⟩ (.int .i64 x)) U N ub qb mb mem out vo vs (ini ++ [⟨{ f.fr with regs := f.fr.regs.set a x }, f.rb⟩]) := by
  have hf : f ∈ ini ++ [f] := by simp
  obtain ⟨ha, hao, has⟩ := h.ap f hf
  have hu := h.lub; have hq := h.lqb; have hm := h.lmb
  have hnd := h.nd
  rw [List.map_append, List.nodup_append] at hnd
  have hrb : ∀ y ∈ ini, y.rb ≠ f.rb := fun y hy e => hnd.2.2 y.rb (List.mem_map.2 ⟨y, hy, rfl⟩) f.rb (by simp) e
  have e : (ini ++ [(⟨{ f.fr with regs := f.fr.regs.set a x }, f.rb⟩ : FrR)]).flatMap frCells = (ini ++ [f]).flatMap frCells := by
    simp [List.flatMap_append, frCells]
  refine ⟨h.below.setCell (show w0.heap.size ≤ f.rb by omega) _, h.lub, h.lqb, h.lmb, h.ne, (heap_other (by omega)).trans h.un, (heap_other (by omega)).trans h.res, (heap_other (by omega)).trans h.memh, h.memlen,
    own_keep h.outh (fun k hk => heap_other (fun e => hao (by rw [hk, e]))), ?_, fun y hy => ?_, by simpa using h.nd, fun y hy => ?_, h.oo⟩
  · rw [e]
    simpa using own_keep h.stkh (fun k hk => heap_other (fun e => has (by rw [hk, e])))
  · rcases List.mem_append.1 hy with h1 | h1
    · exact (heap_other (hrb y h1)).trans (h.regs y (List.mem_append.2 (.inl h1)))
    · rw [List.mem_singleton] at h1
      subst h1
      simp only
      rw [cells_set (h.regs f hf)]
      simp [List.map_set]
  · rcases List.mem_append.1 hy with h1 | h1
    · exact h.ap y (List.mem_append.2 (.inl h1))
    · rw [List.mem_singleton] at h1
      subst h1
      exact h.ap f hf
theorem RunAt.grown {vo' : Value} {b : UInt8} (h : RunAt w0 w U N ub qb mb mem out vo vs stk) (hN : N ≤ w.heap.size) (ho : w'.ownsRow N 5 1 vo' (out ++ [b]).length (u8s (out ++ [b]))) (hg : w.grownBy w' vo.ownBlock) (hat : ∀ g, vo'.ownBlock = some g → vo.ownBlock = some g ∨ w.heap.size ≤ g) :
    RunAt w0 w' U N ub qb mb mem (out ++ [b]) vo' vs stk := by
  have hu := h.lub; have hq := h.lqb; have hm := h.lmb
  have hlo : ∀ k, k < N → w'.heap[k]? = w.heap[k]? := fun k hk => hg.block k (by omega) (fun e => by have := (h.outh.lt k e.symm).1; omega)
  refine ⟨h.below.grown hg h.below.size (fun k e => by have := (h.outh.lt k e).1; omega), h.lub, h.lqb, h.lmb, h.ne, (hlo _ hu.2).trans h.un, (hlo _ hq.2).trans h.res, (hlo _ hm.2).trans h.memh, h.memlen, ho,
    own_keep h.stkh (fun k hk => hg.block k (h.stkh.lt k hk).2 (fun e => h.oo k e.symm hk)), fun f hf => (hg.block _ (lt_heap (h.regs f hf)) (fun e => (h.ap f hf).2.1 e.symm)).trans (h.regs f hf), h.nd, fun f hf => ⟨(h.ap f hf).1, fun e => ?_, (h.ap f hf).2.2⟩, fun g e e2 => ?_⟩
  · rcases hat _ e with h1 | h1
    · exact (h.ap f hf).2.1 h1
    · have := lt_heap (h.regs f hf); omega
  · rcases hat _ e with h1 | h1
    · exact h.oo g h1 e2
    · have := (h.stkh.lt g e2).2; omega
theorem RunAt.push {vs' : Value} {f : FrR} (h : RunAt w0 w U N ub qb mb mem out vo vs stk) (hN : N ≤ w.heap.size) (hr : w.heap[f.rb]? = some (.cells (f.fr.regs.map (Value.int .i64)).toArray 3)) (hfr : N ≤ f.rb ∧ vo.ownBlock ≠ some f.rb ∧ vs.ownBlock ≠ some f.rb) (hnf : ∀ y ∈ stk, y.rb ≠ f.rb)
    (ho : w'.ownsRow N 99 5 vs' (stk ++ [f]).length ((stk ++ [f]).flatMap frCells)) (hg : w.grownBy w' vs.ownBlock) (hat : ∀ g, vs'.ownBlock = some g → vs.ownBlock = some g ∨ w.heap.size ≤ g) :
    RunAt w0 w' U N ub qb mb mem out vo vs' (stk ++ [f]) := by
  have hu := h.lub; have hq := h.lqb; have hm := h.lmb
  have hlo : ∀ k, k < N → w'.heap[k]? = w.heap[k]? := fun k hk => hg.block k (by omega) (fun e => by have := (h.stkh.lt k e.symm).1; omega)
  have hall : ∀ y ∈ stk ++ [f], w.heap[y.rb]? = some (.cells (y.fr.regs.map (Value.int .i64)).toArray 3) ∧ (N ≤ y.rb ∧ vo.ownBlock ≠ some y.rb ∧ vs.ownBlock ≠ some y.rb) := by
    intro y hy
    rcases List.mem_append.1 hy with h1 | h1
    · exact ⟨h.regs y h1, h.ap y h1⟩
    · rw [List.mem_singleton] at h1
      subst h1
      exact ⟨hr, hfr⟩
  refine ⟨h.below.grown hg h.below.size (fun k e => by have := (h.stkh.lt k e).1; omega), h.lub, h.lqb, h.lmb, h.ne, (hlo _ hu.2).trans h.un, (hlo _ hq.2).trans h.res, (hlo _ hm.2).trans h.memh, h.memlen,
    own_keep h.outh (fun k hk => hg.block k (h.outh.lt k hk).2 (fun e => h.oo k hk e.symm)), ho, fun y hy => (hg.block _ (lt_heap (hall y hy).1) (fun e => (hall y hy).2.2.2 e.symm)).trans (hall y hy).1, ?_, fun y hy => ⟨(hall y hy).2.1, (hall y hy).2.2.1, fun e => ?_⟩, fun g e e2 => ?_⟩
  · rw [List.map_append, List.nodup_append]
    exact ⟨h.nd, by simp, fun a ha b hb e => by
      obtain ⟨y, hy, rfl⟩ := List.mem_map.1 ha
      rw [List.map_cons, List.map_nil, List.mem_singleton] at hb
      exact hnf y hy (e.trans hb)⟩
  · rcases hat _ e with h1 | h1
    · exact (hall y hy).2.2.2 h1
    · have := lt_heap (hall y hy).1; omega
  · rcases hat _ e2 with h1 | h1
    · exact h.oo g e h1
    · have := (h.outh.lt g e).2; omega
theorem RunAt.pop {ini : List FrR} {f : FrR} {g cap n : Nat} (h : RunAt w0 w U N ub qb mb mem out vo (.slice (some ⟨g, 0, none⟩) n cap) (ini ++ [f])) : RunAt w0 w U N ub qb mb mem out vo (.slice (some ⟨g, 0, none⟩) ini.length cap) ini := by
  refine ⟨h.below, h.lub, h.lqb, h.lmb, h.ne, h.un, h.res, h.memh, h.memlen, h.outh, ?_, fun x hx => h.regs x (List.mem_append.2 (.inl hx)), ?_, fun x hx => h.ap x (List.mem_append.2 (.inl hx)), h.oo⟩
  · obtain ⟨hl, ⟨h0, _⟩ | ⟨g', cap', cur, hv, hg, hh, h1, h2, h3, ht⟩⟩ := h.stkh
    · cases h0
    · injection hv with hv hn hcap
      injection hv with hv
      injection hv with hv _ _
      subst hv hcap
      simp only [List.length_append, List.length_singleton] at h1 ht
      refine ⟨flat_len frCells_len ini, .inr ⟨g, cap, cur, rfl, hg, hh, by omega, h2, h3, ?_⟩⟩
      have hq := congrArg (fun l => l.take (ini.length * 5)) ht
      simp only [List.flatMap_append, List.take_take] at hq
      rw [Nat.min_eq_left (by omega)] at hq
      rw [hq, List.take_append_of_le_length (by rw [flat_len frCells_len]; omega)]
      exact List.take_of_length_le (by rw [flat_len frCells_len]; omega)
  · have := h.nd
    rw [List.map_append, List.nodup_append] at this
    exact this.1
end Go.Proofs.Ytgnpbodhjmappaa
namespace Go.Proofs.Ytgnpbodhjmappaa
open Go.RowKit Cd
structure FrGood (u : Uni) (f : Frm) (g : Fnc) : Prop where
  fn : u.funcs[f.k]? = some g
  pos : 0 ≤ f.pos ∧ f.pos < g.code.length
  regs : (f.regs.length : Int) = g.regs
  base : 0 ≤ f.base ∧ f.base + g.frame ≤ 4096
  dst : -1 ≤ f.dst
def StkOk (u : Uni) : List Frm → Prop
  | [] => True
  | f :: l => (∃ g, FrGood u f g) ∧ (∀ p, l.head? = some p → f.dst < p.regs.length) ∧ StkOk u l
theorem FrGood.at {u : Uni} {f : Frm} {g : Fnc} (h : FrGood u f g) : ∃ i, g.code[f.pos.toNat]? = some i := by
  have := h.pos
  exact ⟨_, List.getElem?_eq_getElem (by omega)⟩
theorem FrGood.next {u : Uni} {f : Frm} {g : Fnc} {i : Ins} {p : Int} (hU : RightU u) (h : FrGood u f g) (hi : g.code[f.pos.toNat]? = some i) (hp : p ∈ next i f.pos) : 0 ≤ p ∧ p < g.code.length := by
  have hf := hU.funcs _ _ h.fn
  unfold funcOk at hf
  rw [Bool.and_eq_true, Bool.and_eq_true, rightF_iff] at hf
  exact closed_of hf.1.1 f.pos h.pos p (by rw [nexts_at hi]; exact hp)
theorem FrGood.right {u : Uni} {f : Frm} {g : Fnc} (hU : RightU u) (h : FrGood u f g) : RightF g ∧ g.code.all (callOk u.funcs) = true := by
  have hf := hU.funcs _ _ h.fn
  unfold funcOk at hf
  rw [Bool.and_eq_true, Bool.and_eq_true, rightF_iff] at hf
  exact ⟨hf.1.1, hf.2⟩
theorem went_len (f : Frm) (i : Ins) (v p : Int) : (went f i v p).regs.length = f.regs.length := by
  unfold went
  simp only
  split <;> simp
theorem FrGood.went {u : Uni} {f : Frm} {g : Fnc} {i : Ins} {v p : Int} (hU : RightU u) (h : FrGood u f g) (hi : g.code[f.pos.toNat]? = some i) (hp : p ∈ Cd.next i f.pos) : FrGood u (Cd.went f i v p) g :=
  ⟨h.fn, h.next hU hi hp, by rw [went_len]; exact h.regs, h.base, h.dst⟩
theorem StkOk.went {u : Uni} {f : Frm} {g : Fnc} {i : Ins} {rest : List Frm} {v p : Int} (hU : RightU u) (h : StkOk u (f :: rest)) (hg : FrGood u f g) (hi : g.code[f.pos.toNat]? = some i) (hp : p ∈ Cd.next i f.pos) : StkOk u (Cd.went f i v p :: rest) :=
  ⟨⟨g, hg.went hU hi hp⟩, h.2.1, h.2.2⟩
theorem next_one {i : Ins} (n : Int) (h1 : i.kind ≠ 11) (h2 : i.kind ≠ 12) (h3 : i.kind ≠ 13) : n + 1 ∈ next i n := by
  unfold next
  rw [if_neg h1, if_neg h2, if_neg h3]
  simp
def KeepOk (u : Uni) (s : Sta) : Rsu ⊕ Sta → Prop
  | .inl _ => True
  | .inr s' => StkOk u s'.stack ∧ s'.stack ≠ [] ∧ s'.mem.length = s.mem.length
theorem call_of {u : Uni} {g : Fnc} {i : Ins} {k : Nat} {h : Fnc} (hg : RightF g ∧ g.code.all (callOk u.funcs) = true) {q : Nat} (hi : g.code[q]? = some i) (h8 : i.kind = 8) (hk : findN u.funcs i.text = some k) (hh : u.funcs[k]? = some h) :
    h.params = i.n ∧ 0 ≤ i.n ∧ i.n ≤ 6 ∧ -1 ≤ i.dst ∧ i.dst < g.regs ∧ (uses i).length = i.n.toNat := by
  have hr := hg.1.all i (List.mem_of_getElem? hi)
  have hc := all_at hg.2 hi
  unfold callOk at hc
  rw [if_pos h8, hk] at hc
  simp only [hh, decide_eq_true_eq] at hc
  have hn := hr.n
  unfold nOk at hn
  rw [if_neg (by omega), if_neg (by omega), if_pos h8] at hn
  simp only [Bool.and_eq_true, decide_eq_true_eq] at hn
  have hd := hr.dst
  unfold dstOk at hd
  rw [if_pos h8] at hd
  simp only [Bool.and_eq_true, decide_eq_true_eq] at hd
  refine ⟨hc, hn.1.1, hn.1.2, hd.1, hd.2, ?_⟩
  unfold uses readsA readsB
  simp [h8, Ins.args]
  omega
theorem stepI_keeps {u : Uni} (hU : RightU u) {g : Fnc} {i : Ins} {f : Frm} {rest : List Frm} {s : Sta} (h : StkOk u (f :: rest)) (hg : FrGood u f g) (hi : g.code[f.pos.toNat]? = some i) : KeepOk u s (stepI u g i f rest s) := by
  have hR := hg.right hU
  have hk := hR.1.all i (List.mem_of_getElem? hi)
  have hlo := hk.low
  have hhi := hk.high
  have one : ∀ (v : Int), i.kind ≠ 11 → i.kind ≠ 12 → i.kind ≠ 13 → StkOk u (went f i v (f.pos + 1) :: rest) := fun v a b c => h.went hU hg hi (next_one _ a b c)
  unfold stepI
  by_cases h1 : i.kind = 1
  · rw [if_pos h1]; exact ⟨one _ (by omega) (by omega) (by omega), by simp, rfl⟩
  rw [if_neg h1]
  by_cases h2 : i.kind = 2 ∨ i.kind = 3
  · rw [if_pos h2]
    by_cases hb : doB i.op (valB f i) = true
    · rw [if_pos hb]; exact ⟨one _ (by omega) (by omega) (by omega), by simp, rfl⟩
    · rw [if_neg hb]; trivial
  rw [if_neg h2]
  by_cases h4 : i.kind = 4
  · rw [if_pos h4]; exact ⟨one _ (by omega) (by omega) (by omega), by simp, rfl⟩
  rw [if_neg h4]
  by_cases h5 : i.kind = 5
  · rw [if_pos h5]; exact ⟨one _ (by omega) (by omega) (by omega), by simp, rfl⟩
  rw [if_neg h5]
  by_cases h6 : i.kind = 6 ∨ i.kind = 7
  · rw [if_pos h6]
    by_cases ha : 1 ≤ addr f i ∧ addr f i < 4096
    · rw [if_pos ha]
      by_cases hl : i.kind = 6
      · rw [if_pos hl]; exact ⟨one _ (by omega) (by omega) (by omega), by simp, rfl⟩
      · rw [if_neg hl]; exact ⟨one _ (by omega) (by omega) (by omega), by simp, by simp⟩
    · rw [if_neg ha]; trivial
  rw [if_neg h6]
  by_cases h8 : i.kind = 8
  · rw [if_pos h8]
    cases hk : findN u.funcs i.text with
    | none => trivial
    | some k =>
      simp only
      cases hh : u.funcs[k]? with
      | none => trivial
      | some h' =>
        simp only
        by_cases hb : f.base + g.frame + h'.frame > 4096
        · rw [if_pos hb]; trivial
        · rw [if_neg hb]
          obtain ⟨hp, hn, hn6, hd, hdr, hlen⟩ := call_of hR hi h8 hk hh
          have hf' := hU.funcs _ _ hh
          unfold funcOk at hf'
          rw [Bool.and_eq_true, Bool.and_eq_true, rightF_iff] at hf'
          have hF := hf'.1.1
          have h0 := hF.params
          have hr := hF.regs
          have hfr := hR.1.frame
          have hcode := hF.code
          have hfb := hg.base
          have hfrg := hg.regs
          refine ⟨⟨⟨h', hh, ⟨Int.le_refl _, by show (0:Int) < (h'.code.length : Int); omega⟩, ?_, ⟨by show 0 ≤ f.base + g.frame; omega, by show f.base + g.frame + h'.frame ≤ 4096; omega⟩, hd⟩, ?_, ?_⟩, by simp, rfl⟩
          · simp only [List.length_append, List.length_map, List.length_replicate, hlen]
            omega
          · intro p hp2
            have : ({ f with pos := f.pos + 1 } : Frm) = p := by simpa using hp2
            subst this
            show i.dst < (f.regs.length : Int)
            omega
          · exact ⟨⟨g, hg.fn, hg.next hU hi (next_one _ (by omega) (by omega) (by omega)), hg.regs, hg.base, hg.dst⟩, h.2.1, h.2.2⟩
  rw [if_neg h8]
  by_cases h9 : i.kind = 9
  · rw [if_pos h9]
    cases s.inp <;> exact ⟨one _ (by omega) (by omega) (by omega), by simp, rfl⟩
  rw [if_neg h9]
  by_cases h10 : i.kind = 10
  · rw [if_pos h10]; exact ⟨one _ (by omega) (by omega) (by omega), by simp, rfl⟩
  rw [if_neg h10]
  by_cases h11 : i.kind = 11
  · rw [if_pos h11]; exact ⟨h.went hU hg hi (by unfold next; rw [if_pos h11]; simp), by simp, rfl⟩
  rw [if_neg h11]
  by_cases h12 : i.kind = 12
  · rw [if_pos h12]
    refine ⟨h.went hU hg hi ?_, by simp, rfl⟩
    unfold next
    rw [if_neg h11, if_pos h12]
    split <;> simp
  rw [if_neg h12]
  cases rest with
  | nil => trivial
  | cons p ps =>
    obtain ⟨_, hch, ⟨gp, hgp⟩, hch2, hps⟩ := h
    refine ⟨?_, by simp, rfl⟩
    show StkOk u ((if 0 ≤ f.dst then { p with regs := p.regs.set f.dst.toNat (reg f i.a) } else p) :: ps)
    split
    · exact ⟨⟨gp, hgp.fn, hgp.pos, by rw [List.length_set]; exact hgp.regs, hgp.base, hgp.dst⟩, hch2, hps⟩
    · exact ⟨⟨gp, hgp⟩, hch2, hps⟩
theorem step_at {u : Uni} {s : Sta} {f : Frm} {rest : List Frm} {g : Fnc} {i : Ins} (hs : s.stack = f :: rest) (hg : FrGood u f g) (hi : g.code[f.pos.toNat]? = some i) : Cd.step u s = stepI u g i f rest s := by
  unfold Cd.step
  rw [hs]
  simp only [hg.fn, hi]
theorem StkOk.first {u : Uni} (hU : RightU u) {m : Nat} {g : Fnc} (hm : u.funcs[m]? = some g) (ht : ¬ u.top + g.frame > 4096) : StkOk u [⟨m, u.top, 0, -1, List.replicate g.regs.toNat 0⟩] := by
  have hf := hU.funcs _ _ hm
  unfold funcOk at hf
  rw [Bool.and_eq_true, Bool.and_eq_true, rightF_iff] at hf
  have hF := hf.1.1
  have h0 := hF.params
  have hr := hF.regs
  have hcode := hF.code
  have htop := hU.top
  refine ⟨⟨g, hm, ⟨Int.le_refl _, by show (0:Int) < (g.code.length : Int); omega⟩, ?_, ⟨by show 0 ≤ u.top; omega, by show u.top + g.frame ≤ 4096; omega⟩, Int.le_refl _⟩, by simp, trivial⟩
  simp only [List.length_replicate]
  omega
theorem mem0_len (u : Uni) : (mem0 u).length = 4096 := by
  have h : ∀ (gs : List Glo) (m : List Int), (memOf gs m).length = m.length := by
    intro gs
    induction gs with
    | nil => intro m; rfl
    | cons g gs ih => intro m; unfold memOf; rw [ih]; split <;> simp
  unfold mem0
  rw [h, List.length_replicate]
end Go.Proofs.Ytgnpbodhjmappaa
namespace Go.Proofs.Ytgnpbodhjmappaa
open Go.RowKit Cd
theorem RunAt.top {w0 w : World} {U : UnR} {N ub qb mb : Nat} {mem : List Int} {out : List UInt8} {vo vs : Value} {ini : List FrR} {f : FrR} (h : RunAt w0 w U N ub qb mb mem out vo vs (ini ++ [f])) :
    ∃ g cap, vs = .slice (some ⟨g, 0, none⟩) (ini.length + 1) cap ∧ N ≤ g ∧ g < w.heap.size ∧ w.cell? ⟨g, ini.length * 5, none⟩ = some (.int .i64 f.fr.k) ∧ w.cell? ⟨g, ini.length * 5 + 1, none⟩ = some (.int .i64 f.fr.base) ∧ w.cell? ⟨g, ini.length * 5 + 2, none⟩ = some (.int .i64 f.fr.pos) ∧ w.cell? ⟨g, ini.length * 5 + 3, none⟩ = some (.int .i64 f.fr.dst) ∧
      w.cell? ⟨g, ini.length * 5 + 4, none⟩ = some (.slice (some ⟨f.rb, 0, none⟩) f.fr.regs.length f.fr.regs.length) ∧ (∀ j, w.frozen? ⟨g, j, none⟩ = false) := by
  have hs := h.stkh
  rw [List.length_append, List.length_singleton] at hs
  obtain ⟨hl, ⟨_, h0⟩ | ⟨g, cap, cur, hv, hg, hh, h1, h2, h3, ht⟩⟩ := hs
  · omega
  · have hc : ∀ j u, (frCells f)[j]? = some u → w.cell? ⟨g, ini.length * 5 + j, none⟩ = some u := by
      intro j u hu
      have hj : j < 5 := by rw [← frCells_len f]; exact (List.getElem?_eq_some_iff.1 hu).1
      have := flat_at frCells_len (ini ++ [f]) ini.length j f (by simp) hj
      rw [hu, ← ht, List.getElem?_take_of_lt (by omega)] at this
      rw [cell_of_row w g _ _ _ _ hh]
      simpa using this
    exact ⟨g, cap, hv, hg, lt_heap hh, hc 0 _ rfl, hc 1 _ rfl, hc 2 _ rfl, hc 3 _ rfl, hc 4 _ rfl, fun j => by simp [World.frozen?, hh]⟩
theorem RunAt.reg {w0 w : World} {U : UnR} {N ub qb mb : Nat} {mem : List Int} {out : List UInt8} {vo vs : Value} {stk : List FrR} {f : FrR} (h : RunAt w0 w U N ub qb mb mem out vo vs stk) (hf : f ∈ stk) {a : Int} (ha : 0 ≤ a ∧ a < f.fr.regs.length) :
    w.cell? ⟨f.rb, a.toNat, none⟩ = some (.int .i64 (reg f.fr a)) := by
  rw [cell_of_row w f.rb _ _ _ _ (h.regs f hf)]
  have hlt : a.toNat < f.fr.regs.length := by omega
  simp only [List.getElem?_toArray, List.getElem?_map]
  unfold Cd.reg
  rw [List.getElem?_eq_getElem hlt, List.getD_eq_getElem?_getD, List.getElem?_eq_getElem hlt]
  rfl
theorem RunAt.frozenReg {w0 w : World} {U : UnR} {N ub qb mb : Nat} {mem : List Int} {out : List UInt8} {vo vs : Value} {stk : List FrR} {f : FrR} (h : RunAt w0 w U N ub qb mb mem out vo vs stk) (hf : f ∈ stk) (j : Nat) : w.frozen? ⟨f.rb, j, none⟩ = false := by
  simp [World.frozen?, h.regs f hf]
end Go.Proofs.Ytgnpbodhjmappaa
