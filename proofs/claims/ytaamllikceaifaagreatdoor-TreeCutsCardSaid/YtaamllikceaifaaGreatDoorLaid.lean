/-
  What the listed variables' reading gives the walks, and the frame round a law that asks the world's shape besides.
-/
import Derived.Test.YtaamllikceaifaaGreatDoorTie
import Derived.Test.YtaamllikceaifaaGreatDoorRead
import Derived.ProofKit
import Derived.LaidMore
import Derived.OpenShut
import Derived.Stop.Joined
import Derived.Stop.LaidErr
import Derived.FnData
import Derived.HandedShaped
import Derived.Lib.LaidTab
namespace Go.Proofs.YtaamllikceaifaaGreatDoor
open Go.ChangeShapes Go.WideShapes Go.ChangeAt Go.RowKit Sp Tr
set_option linter.unusedVariables false

theorem own : ownKnob Tryz.prog.godebug = none := by kernel_rfl
abbrev seatLaid : List (String × DataW Unit) := [("math/bits.deBruijn32tab", Rows.laid_math_bits_deBruijn32tab), ("math/bits.deBruijn64tab", Rows.laid_math_bits_deBruijn64tab), ("internal/strconv.uint64pow10", Rows.laid_internal_strconv_uint64pow10), ("strconv.ErrRange", Rows.laid_strconv_ErrRange), ("strconv.ErrSyntax", Rows.laid_strconv_ErrSyntax), ("doppel/lex.signs", Rows.laid_doppel_lex_signs), ("doppel/tree.names", Rows.laid_doppel_tree_names)]
theorem door_met (os : Os) (args : Array Value) : laidMetH Tryz.prog seatLaid ((World.doorLaid Tryz.prog 4000 os).forCall (fun _ _ => 0) ⟨#[], args, []⟩).memory :=
  laidMetH_of_parts3 (fuel := 8) (laidMet_of_run' 8 (by kernel_rfl) (by kernel_rfl)) (by kernel_rfl) (by kernel_rfl)
/-- The frame of a law's row: what is listed is met, and the world has its shape. -/
theorem returnsInHanded_of_change_both {H : Type} {enc : TypeId × Value → H} {a : Assume} {C : Checked} {os : Os} {f : FuncId} {fn : Func} {s : ChangeSpec} {conds : List PathCond} {apart fresh handsOn again : Bool} {X : World → Array Value → Prop}
    (hX : ∀ (w w' : World) (args : Array Value), w.heap = w'.heap → X w args → X w' args)
    (own : ownKnob C.prog.godebug = none) (started : os.Started) (noInit : C.prog.inits.idxOf? f = none) (hfn : C.prog.funcs[f]? = some fn)
    (witness : ∃ (w : World) (tape : Tape) (i : Input), w.os = os ∧ (w.forCall tape i).Shaped C.prog ∧ i.vars = [] ∧ Input.okWide C.prog (w.forCall tape i) .any w.heap.size f i ∧
      ((s.pre enc C.prog fn conds apart (w.forCall tape i).memory i.args ∧ X (w.forCall tape i).memory i.args) ∧ sizedMet enc C.prog fn (OpenSpec.ofChange s) apart (w.forCall tape i).memory i.args) ∧ a.holds C.prog (lone (Frame.enter C.prog f i.args .normal) [] (w.forCall tape i)))
    (contract : ∀ (W : World) (base : Nat) (args : Array Value) (ds gs : List (DataW H)) (before : List MemPlace),
      (∀ (j : Nat) t v, fn.params[j]? = some t → args[j]? = some v → Value.okWide C.prog W .any base t v) →
      DataW.Whole enc C.prog fn.params.toList s.vars apart W args.toList ds gs before →
      conds.all (PathCond.test C.prog ⟨fn.params.toList, ds, s.plain.varTypes C.prog, gs⟩) = true →
      (DataW.weightsEach C.prog (fn.params.toList ++ s.plain.varTypes C.prog) (ds ++ gs)).all (· ≤ reachBytes) = true → X W args → W.ShapedOpen C.prog →
      a.holds C.prog (lone (Frame.enter C.prog f args .normal) [] W) →
      Calls C.prog f args W fun e W' => ∃ v, e = .returned v ∧ s.post enc C.prog fn apart fresh handsOn again W args v W') :
    ReturnsInHanded a C os f .any (fun w args => (s.pre enc C.prog fn conds apart w args ∧ X w args) ∧ sizedMet enc C.prog fn (OpenSpec.ofChange s) apart w args) (s.post enc C.prog fn apart fresh handsOn again) := by
  refine returnsInHanded_of_calls own started noInit witness ?_
  intro w tape i _ hsh _ hok hpre hholds
  obtain ⟨_, _, _, fn', hfn', _, _, _, _, hval⟩ := hok
  have e : fn' = fn := Option.some.inj (hfn'.symm.trans hfn)
  subst e
  obtain ⟨⟨⟨ds, gs, before, hw, hc⟩, hx⟩, hz⟩ := hpre
  have hw' := DataW.Whole.of_heap (w' := w.forCall tape i) (by rfl) hw
  refine (contract (w.forCall tape i) w.heap.size i.args ds gs before hval hw' hc (hz.weights hw) (hX _ _ _ (by rfl) hx) hsh hholds).mono fun e W' ⟨v, he, hp⟩ => ?_
  subst he
  exact ChangeSpec.post_blind hp
theorem array_len {H : Type} {enc : TypeId × Value → H} {P : Program} {w : World} {base : Nat} {sp : Nat → Bool} {held : Bool} {fuel : Nat} {t e : TypeId} {n : Nat} {cs : List Value} {x : DataW H} {p : List MemPlace}
    (ht : P.underlying t = some (.array n e)) (hce : P.cellsOf e = 1) (hct : P.cellsOf t = n)
    (h : DataW.trod enc P w base sp held fuel t cs = some (x, p)) : cs.length = n := by
  cases fuel with
  | zero => simp [DataW.trod] at h
  | succ fuel =>
    simp only [DataW.trod, ht, hce, hct, Nat.mul_one] at h
    split at h
    · rename_i hl; simpa using hl
    · cases h
/-- A listed array of strings: its cells. Of whatever program. -/
theorem strs_of_laid {P : Program} {W : World} {name : String} {r : List (String × DataW Unit)} {g : Nat} {t e : TypeId} {n : Nat} {D : List (List UInt8)}
    (h : laidMet P ((name, .agg (D.map fun s => .lit (.string s))) :: r) W)
    (hg : P.globalNamed name = some g) (ht : (P.globals[g]?).map (·.type) = some t) (hu : P.underlying t = some (.array n e)) (he : P.underlying e = some .string) (hc : P.cellsOf e = 1) (hct : P.cellsOf t = n) (hD : D.length = n) :
    W.var? P name = some (D.map fun s => Value.string (bs s)).toArray := by
  obtain ⟨ps, ⟨g0, t0, cs0, f0, p0, q0, hg0, ht0, hv0, hd0, _, _⟩, _, _⟩ := h
  obtain rfl := Option.some.inj (hg.symm.trans hg0)
  obtain rfl := Option.some.inj (ht.symm.trans ht0)
  have hl := array_len hu hc hct hd0
  obtain ⟨xs, m, rfl, hx, hlen, hn, hel⟩ := DataW.trod_array hu hd0
  rw [hv0]
  congr 1
  apply Array.toList_inj.1
  apply List.ext_getElem?
  intro i
  by_cases hi : i < D.length
  · have hi2 : i < xs.length := by omega
    have h1 := hel i (by omega)
    rw [hc, hct] at *
    have hxs : xs[i]? = some xs[i] := List.getElem?_eq_getElem hi2
    rw [hxs, Nat.mul_one] at h1
    obtain ⟨s, hcs, hys, _⟩ := DataW.trod_string he h1
    have h2 := congrArg (fun l => l[0]?) hcs
    simp only [List.getElem?_take, List.getElem?_drop] at h2
    simp only [Prod.mk.injEq, DataW.agg.injEq] at hx
    have h3 := congrArg (fun l => l[i]?) hx.1
    have hD2 : D[i]? = some D[i] := List.getElem?_eq_getElem hi
    simp [hxs, hys, hD2] at h3
    have h4 : cs0.toList[i]? = some (.string s) := by simpa using h2
    rw [h4]
    simp only [List.getElem?_map, hD2, Option.map_some]
    congr 2
    apply ByteArray.ext
    apply Array.toList_inj.1
    rw [h3]; rfl
  · rw [List.getElem?_eq_none (by omega), List.getElem?_eq_none (by simp; omega)]
theorem star : "*" ++ "errors.errorString" = "*errors.errorString" := by decide
theorem rowErr (u : TypeId) (h : Tryz.prog.typeName? 3 u = some "*errors.errorString") : u = 182 :=
  typeName_ptr_named (nm := "errors.errorString") (by rw [star]; kernel_rfl) (by kernel_rfl) (by decide) u (by rw [star]; exact h)
theorem env_of_laid {W : World} (hL : laidMetH Tryz.prog seatLaid W) (hsh : W.ShapedOpen Tryz.prog) : EnvT W := by
  rw [MakeChecks.laidMetH_plain _ _ _ (by kernel_rfl)] at hL
  have hS := strs_of_laid (D := signsL) (g := 1) hL.tail.tail.tail.tail.tail (by kernel_rfl) (by kernel_rfl) Tryz.underlying118 Tryz.underlying9 (by kernel_rfl) (by kernel_rfl) (by rfl)
  have hP := Lib.tabIs_of_head (zs := Lib.pow10Tab) (k := .u64) (g := 3) (by kernel_rfl) (by kernel_rfl) Tryz.underlying143 Tryz.underlying106 (by kernel_rfl) (by kernel_rfl) hL.tail.tail
  obtain ⟨a1, _, hv1, _, _, _⟩ := laid_sentinel (g := 7) hL.tail.tail.tail (by kernel_rfl) (by kernel_rfl) Tryz.underlying83 rowErr Tryz.underlying182 Tryz.underlying184 rfl rfl Tryz.underlying9 (by kernel_rfl) (by kernel_rfl)
  obtain ⟨a2, _, hv2, _, _, _⟩ := laid_sentinel (g := 6) hL.tail.tail.tail.tail (by kernel_rfl) (by kernel_rfl) Tryz.underlying83 rowErr Tryz.underlying182 Tryz.underlying184 rfl rfl Tryz.underlying9 (by kernel_rfl) (by kernel_rfl)
  have h1 : W.cell? ⟨7, 0, none⟩ = some (.iface 182 (.pointer (some a1))) := by simpa using World.var?_cell (P := Tryz.prog) (g := 7) (by kernel_rfl) hv1 0
  have h2 : W.cell? ⟨6, 0, none⟩ = some (.iface 182 (.pointer (some a2))) := by simpa using World.var?_cell (P := Tryz.prog) (g := 6) (by kernel_rfl) hv2 0
  have hg : Tryz.prog.globalNamed "doppel/lex.signs" = some 1 := by kernel_rfl
  have hm := Tryz.laysM143.s1_3 W hsh
  have hN := strs_of_laid (D := namesL) (g := 0) hL.tail.tail.tail.tail.tail.tail (by kernel_rfl) (by kernel_rfl) Tryz.underlying99 Tryz.underlying9 (by kernel_rfl) (by kernel_rfl) (by rfl)
  have hgn : Tryz.prog.globalNamed "doppel/tree.names" = some 0 := by kernel_rfl
  refine ⟨⟨?_, hm, ⟨_, h2, .inr ⟨_, _, rfl⟩⟩, ⟨_, h1, .inr ⟨_, _, rfl⟩⟩, hP, ?_⟩, ?_⟩
  · unfold World.var? at hS
    rw [hg] at hS
    simp only [Option.bind_some] at hS
    split at hS
    · rename_i cs t fr he
      refine ⟨t, fr, ?_⟩
      rw [he]
      congr 2
      simpa [signsV] using hS
    · cases hS
  · have hs : ((Go.begin Tryz.prog (fun _ _ => 0) default).world.heap[10]?.bind Obj.row?).isSome = true := by kernel_rfl
    obtain ⟨⟨z, t⟩, hzt⟩ := Option.isSome_iff_exists.1 hs
    obtain ⟨cs, hc, _⟩ := hsh.1 10 z t (of_decide_eq_true (by kernel_rfl)) hzt
    exact lt_heap hc
  · unfold World.var? at hN
    rw [hgn] at hN
    simp only [Option.bind_some] at hN
    split at hN
    · rename_i cs t fr he
      refine ⟨t, fr, ?_⟩
      rw [he]
      congr 2
      simpa [namesV, namesL, bs, bt] using hN
    · cases hN
/-- The post of a row whose call has made blocks of its own alone: what it reads as behind the call, and that nothing that was there has turned. -/
theorem post_below {H : Type} {enc : TypeId × Value → H} {P : Program} {f : Func} {s : ChangeSpec} {apart fresh handsOn again : Bool} {W W' : World} {args : Array Value} {v : Value} {ds gs : List (DataW H)} {before pa pv : List MemPlace}
    (hW : DataW.Whole enc P f.params.toList s.vars apart W args.toList ds gs before)
    (hres : ∀ (b : Nat) (sp : Nat → Bool) (hd : Bool), DataW.TrodAll enc P W' b sp hd f.resultTypes.toList (v.resultList f.resultTypes.size) (s.fn H (ds ++ gs)).results [])
    (hargs : ∀ sp : Nat → Bool, (∀ p ∈ before, sp p.block = true) → DataW.TrodAll enc P W' 0 sp true f.params.toList args.toList (s.fn H (ds ++ gs)).args pa)
    (hvars : ∀ sp : Nat → Bool, (∀ p ∈ before, sp p.block = true) → DataW.TrodVars enc P W' sp s.vars (s.fn H (ds ++ gs)).vars pv)
    (hps : before = pa ++ pv) (hb : Below W.heap.size W W')
    (hok : ∀ (j : Nat) (t : TypeId) (r : Value), f.resultTypes[j]? = some t → (v.resultList f.resultTypes.size)[j]? = some r → Value.okWide P W' .any 0 t r) :
    s.post enc P f apart fresh handsOn again W args v W' := by
  have old : ∀ p ∈ before, (fun b => decide (b < W.heap.size)) p.block = true := fun p hp => by simpa using hW.lt p hp
  obtain ⟨x1, x2, x3, x4, x5, hz, hn⟩ := id hW
  refine ⟨ds, gs, before, [], pa, pv, hW, hres _ _ _, hargs _ old, hvars _ old, World.keptBut_mono (fun p hp => ⟨hp, ?_⟩) (hb.frame (· ∈ before)), fun _ => ?_⟩
  · subst hps; exact .inr (List.mem_append.1 hp)
  · refine ⟨hok, _, _, ([] ++ pa) ++ pv, ⟨[] ++ pa, pv, trodAll_append (hargs _ (fun _ _ => rfl)) (hres _ _ _), hvars _ (fun _ _ => rfl), rfl, fun b off hp => ?_, fun ha => ?_⟩, fun p hp _ => ?_⟩
    · have hin : MemPlace.cell b off ∈ before := by rw [hps]; simpa using hp
      rw [hb.frozen (hW.lt _ hin)]
      exact hz b off hin
    · have := hn ha
      rw [hps] at this
      simpa using this
    · rw [hps]; simpa using hp
end Go.Proofs.YtaamllikceaifaaGreatDoor
