/-
  Layer 9: rows of one's own, each in a block of its own; a map of places.
-/
import Derived.Test.YtgnpbodhjmappaaPLH
import Derived.Test.YtgnpbodhjmappaaPNA
import Derived.MapViews
import Derived.Carry
import Derived.WideKeyArgs2
import Derived.ChangeMaps
import Derived.Maps.OwnSet
import Derived.Maps.AppendAt
set_option linter.unusedVariables false
set_option linter.unusedSimpArgs false
namespace Go.Proofs.Ytgnpbodhjmappaa
open Go.RowKit Cd Go.Maps
theorem lawI : Keyed Try.prog 3 := int_keyed Try.underlying3
theorem keyI {n : Int} (h : (Lit.int .i64 n).wf = true) : keyOf Try.prog 3 (.int .i64 n) = some (.int .i64 n) := keyOf_int_mk Try.underlying3 h
theorem intKey (n : Int) : WideAt.IsKeyLit (.int .i64 n) := trivial
end Go.Proofs.Ytgnpbodhjmappaa
namespace Go.Proofs.Ytgnpbodhjmappaa
set_option maxRecDepth 100000
open Go.RowKit Cd Go.Maps
def hdrE : Value → Option (DataW Unit × List MemPlace)
  | .slice none n c => some (.agg [.lit (.int .i64 (n : Int)), .lit (.int .i64 (c : Int))], [])
  | .slice (some ⟨b, off, none⟩) n c => some (.agg [.lit (.int .i64 (b : Int)), .lit (.int .i64 (off : Int)), .lit (.int .i64 (n : Int)), .lit (.int .i64 (c : Int))], [])
  | _ => none
theorem hdrE_slice {v : Value} {d : DataW Unit} {ps : List MemPlace} (h : hdrE v = some (d, ps)) : (∃ n c, v = .slice none n c ∧ d = .agg [.lit (.int .i64 (n : Int)), .lit (.int .i64 (c : Int))]) ∨ ∃ b off n c, v = .slice (some ⟨b, off, none⟩) n c ∧ d = .agg [.lit (.int .i64 (b : Int)), .lit (.int .i64 (off : Int)), .lit (.int .i64 (n : Int)), .lit (.int .i64 (c : Int))] := by
  unfold hdrE at h
  split at h
  · injection h with h; injection h with h _
    exact .inl ⟨_, _, rfl, h.symm⟩
  · injection h with h; injection h with h _
    exact .inr ⟨_, _, _, _, rfl, h.symm⟩
  · cases h
theorem hdrE_inj {v v' : Value} {d : DataW Unit} {ps ps' : List MemPlace} (h : hdrE v = some (d, ps)) (h' : hdrE v' = some (d, ps')) : v = v' := by
  rcases hdrE_slice h with ⟨n, c, rfl, e⟩ | ⟨b, off, n, c, rfl, e⟩ <;> rcases hdrE_slice h' with ⟨n', c', rfl, e'⟩ | ⟨b', off', n', c', rfl, e'⟩ <;> rw [e] at e' <;> simp at e'
  · obtain ⟨e1, e2⟩ := e'
    obtain rfl : n = n' := by omega
    obtain rfl : c = c' := by omega
    rfl
  · obtain ⟨e1, e2, e3, e4⟩ := e'
    obtain rfl : b = b' := by omega
    obtain rfl : off = off' := by omega
    obtain rfl : n = n' := by omega
    obtain rfl : c = c' := by omega
    rfl
theorem hdrE_at {a : Option Addr} {n c : Nat} (h : a = none ∨ ∃ b off, a = some ⟨b, off, none⟩) : ∃ d, hdrE (.slice a n c) = some (d, []) := by
  rcases h with rfl | ⟨b, off, rfl⟩ <;> exact ⟨_, rfl⟩
def HdrAt (w : World) (mb n : Nat) (f : Int → Value) (ks : List Int) : Prop :=
  ∃ D : DataW Unit, w.ownsMap Try.prog 3 hdrE mb n D ∧ Tidy D ∧ (∀ x : Int, Maps.has D (.int .i64 x) = ks.contains x) ∧ ∀ x ∈ ks, ∃ d, hdrE (f x) = some (d, []) ∧ ∀ z, D.atKey (.int .i64 x) z = d
theorem HdrAt.lt {w : World} {mb n : Nat} {f : Int → Value} {ks : List Int} (h : HdrAt w mb n f ks) : mb < w.heap.size := by obtain ⟨D, h, _⟩ := h; exact h.lt
theorem HdrAt.keep {w w' : World} {mb n : Nat} {f : Int → Value} {ks : List Int} (h : HdrAt w mb n f ks) (hb : w'.heap[mb]? = w.heap[mb]?) : HdrAt w' mb n f ks := by
  obtain ⟨D, ⟨es, clock, h1, F, h2, h3⟩, h4⟩ := h
  exact ⟨D, ⟨es, clock, hb.trans h1, F, h2, h3⟩, h4⟩
theorem HdrAt.made (w : World) (f : Int → Value) : HdrAt (w.alloc (.map #[] 0)) w.heap.size 0 f [] := ⟨.map [], World.ownsMap_made w Try.prog 3 hdrE, tidy_empty, fun x => rfl, fun x h => by cases h⟩
theorem zeroS (w : World) : (zeroValue 30).run Try.prog w = .ok (.slice none 0 0) w := by kernel_rfl
theorem HdrAt.look {w : World} {mb n : Nat} {f : Int → Value} {ks : List Int} (h : HdrAt w mb n f ks) {x : Int} (hx : (Lit.int .i64 x).wf = true) : (Instr.lookup 54 (.map (some mb)) (.int .i64 x) false).run Try.prog w = .ok (if ks.contains x = true then f x else .slice none 0 0) w := by
  obtain ⟨D, h1, h2, h3, h4⟩ := h
  obtain ⟨v, ps, hr, hv⟩ := h1.lookup (t := 54) (e := 30) lawI Try.underlying54 (zeroS w) (zd := .agg [.lit (.int .i64 0), .lit (.int .i64 0)]) (zp := []) rfl (keyI hx)
  rw [hr]
  congr 1
  by_cases hk : ks.contains x = true
  · rw [if_pos hk]
    obtain ⟨d, e1, e2⟩ := h4 x (List.contains_iff_mem.1 hk)
    rw [e2] at hv
    exact hdrE_inj hv e1
  · rw [if_neg hk]
    rw [atKey_of_not_has (by rw [h3]; simpa using hk)] at hv
    exact hdrE_inj hv (show hdrE (.slice none 0 0) = some (.agg [.lit (.int .i64 0), .lit (.int .i64 0)], []) from rfl)
theorem wpList_lookup_run {w : World} {ops : Array Oper} {rest : List Oper} {o : Oper} {a : Act} {Q : Exit → Act → World → Prop} (hgd : o.guard = none) (m x : Operand) (t : TypeId) (hop : o.op = Op.lookup t m x false) (vm vx v : Value) (hm : a.eval m = vm) (hx : a.eval x = vx) (hrun : (Instr.lookup t vm vx false).run Try.prog w = .ok v w)
    (h : wpList Try.prog ops Q rest (a.put o.dst v) w) : wpList Try.prog ops Q (o :: rest) a w := by
  refine wpList_plain hgd fun K hK => ?_
  unfold Oper.wp
  simp [execOp, hop, hm, hx, hrun, Result.andThen]
  exact hK _ _ h
theorem HdrAt.put {w w' : World} {mb n : Nat} {f : Int → Value} {ks : List Int} {x : Int} {v : Value} {d : DataW Unit} {D : DataW Unit} (h2 : Tidy D) (h3 : ∀ x : Int, Maps.has D (.int .i64 x) = ks.contains x) (h4 : ∀ x ∈ ks, ∃ d, hdrE (f x) = some (d, []) ∧ ∀ z, D.atKey (.int .i64 x) z = d)
    (hv : hdrE v = some (d, [])) (h : w'.ownsMap Try.prog 3 hdrE mb n (D.put (.int .i64 x) d)) : HdrAt w' mb n (fun y => if y = x then v else f y) (if ks.contains x = true then ks else ks ++ [x]) := by
  refine ⟨_, h, h2.put (intKey _) _, fun y => ?_, fun y hy => ?_⟩
  · by_cases e : y = x
    · subst e
      rw [has_put_same h2.isMap (intKey _)]
      split
      · rename_i hk; exact hk.symm
      · simp
    · rw [has_put_other (fun e' => e (by injection e')), h3 y]
      split
      · rfl
      · simp [e]
  · by_cases e : y = x
    · subst e
      simp only [if_true]
      exact ⟨d, hv, fun z => atKey_put_same h2.isMap (intKey _) _ _⟩
    · simp only [e, if_false]
      have hyk : y ∈ ks := by
        split at hy
        · exact hy
        · simpa [e] using hy
      obtain ⟨d', e1, e2⟩ := h4 y hyk
      exact ⟨d', e1, fun z => by rw [atKey_put_other (fun e' => e (by injection e'))]; exact e2 z⟩
def RdM (w : World) (B mb : Nat) (R : Int → List Int) (ks : List Int) : Prop := mb < B ∧ ∃ n f, HdrAt w mb n f ks ∧ (∀ x ∈ ks, ∃ a c, f x = .slice a (R x).length c ∧ RowAt w B a (ints (R x))) ∧ ∀ x, x ∉ ks → R x = []
theorem RdM.look {w : World} {B mb : Nat} {R : Int → List Int} {ks : List Int} (h : RdM w B mb R ks) {x : Int} (hx : (Lit.int .i64 x).wf = true) : ∃ a c, (Instr.lookup 54 (.map (some mb)) (.int .i64 x) false).run Try.prog w = .ok (.slice a (R x).length c) w ∧ RowAt w B a (ints (R x)) := by
  obtain ⟨_, n, f, h1, h2, h3⟩ := h
  have hl := h1.look hx
  by_cases hk : ks.contains x = true
  · rw [if_pos hk] at hl
    obtain ⟨a, c, e1, e2⟩ := h2 x (List.contains_iff_mem.1 hk)
    exact ⟨a, c, by rw [hl, e1], e2⟩
  · rw [if_neg hk] at hl
    have hr := h3 x (fun q => hk (List.contains_iff_mem.2 q))
    rw [hr]
    exact ⟨none, 0, hl, RowAt.nil _ _ _⟩
theorem RdM.below {w w' : World} {B mb : Nat} {R : Int → List Int} {ks : List Int} (h : RdM w B mb R ks) (hb : Below B w w') : RdM w' B mb R ks := by
  obtain ⟨h0, n, f, h1, h2, h3⟩ := h
  refine ⟨h0, n, f, h1.keep (hb.block _ h0), fun x hx => ?_, h3⟩
  obtain ⟨a, c, e1, e2⟩ := h2 x hx
  exact ⟨a, c, e1, e2.below hb⟩
theorem RdM.mono {w : World} {B B' mb : Nat} {R : Int → List Int} {ks : List Int} (h : RdM w B mb R ks) (hB : B ≤ B') (hw : B' ≤ w.heap.size) : RdM w B' mb R ks := by
  obtain ⟨h0, n, f, h1, h2, h3⟩ := h
  refine ⟨by omega, n, f, h1, fun x hx => ?_, h3⟩
  obtain ⟨a, c, e1, e2⟩ := h2 x hx
  exact ⟨a, c, e1, e2.mono hB hw⟩
end Go.Proofs.Ytgnpbodhjmappaa
