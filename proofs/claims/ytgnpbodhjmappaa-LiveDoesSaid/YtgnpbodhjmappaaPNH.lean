/-
  The laws' arguments opened: a function's code, a function, a unit.
-/
import Derived.Test.YtgnpbodhjmappaaPR7Find
import Derived.Test.YtgnpbodhjmappaaPLN
import Derived.Test.YtgnpbodhjmappaaPPF
import Derived.Handed
import Derived.Carry
set_option linter.unusedVariables false
set_option linter.unusedSimpArgs false
namespace Go.Proofs.Ytgnpbodhjmappaa
set_option maxRecDepth 100000
open Go.RowKit Go.ChangeShapes Go.WideShapes Go.Deep Cd
section
variable {H : Type} {enc : TypeId × Value → H} {w : World} {base : Nat} {spare : Nat → Bool} {held : Bool}
theorem one_intW {fuel : Nat} {t : TypeId} (ht : Try.prog.underlying t = some (.int .i64)) {c : Value} {o : Option (DataW H × List MemPlace)} (h : DataW.trod enc Try.prog w base spare held fuel t [c] = o) (ho : ∃ y, o = some y) : ∃ z, c = .int .i64 z ∧ Wd z := by
  obtain ⟨y, rfl⟩ := ho
  obtain ⟨z, hz, _, hw⟩ := DataW.trod_int ht h
  injection hz with hz _
  refine ⟨z, hz, ?_⟩
  unfold Wd
  have e : IntKind.i64.min = -9223372036854775808 := by decide
  simpa [Lit.wf, e] using hw
theorem open_gl {fuel : Nat} {cs : List Value} {x : DataW H × List MemPlace} (h : DataW.trod enc Try.prog w base spare held fuel 71 cs = some x) : ∃ g : Glo, cs = glCells g ∧ Wd g.pos := by
  obtain ⟨ys, n, _, _, hl, hyl, hf⟩ := DataW.trod_struct Try.underlying71 h
  have hC : Try.prog.cellsOf 71 = 4 := by kernel_rfl
  have hc3 : Try.prog.cellsOf 3 = 1 := by kernel_rfl
  have hc9 : Try.prog.cellsOf 9 = 1 := by kernel_rfl
  rw [hC] at hl
  have hy : ∀ j, j < 4 → ∃ y, ys[j]? = some y := fun j hj => ⟨_, List.getElem?_eq_getElem (by rw [hyl]; exact hj)⟩
  match cs, hl with
  | [c0, c1, c2, c3], _ =>
    have h0 := hf 0 _ rfl
    simp [hc9] at h0
    have h1 := hf 1 _ rfl
    simp [hc3] at h1
    have h2 := hf 2 _ rfl
    simp [hc3] at h2
    have h3 := hf 3 _ rfl
    simp [hc3] at h3
    obtain ⟨y0, e0⟩ := hy 0 (by omega)
    rw [e0] at h0
    obtain ⟨s, hs, _, _⟩ := DataW.trod_string Try.underlying9 h0
    injection hs with hs _
    subst hs
    obtain ⟨z1, rfl, hw1⟩ := one_intW Try.underlying3 h1 (hy 1 (by omega))
    obtain ⟨z2, rfl⟩ := one_int Try.underlying3 h2 (hy 2 (by omega))
    obtain ⟨z3, rfl⟩ := one_int Try.underlying3 h3 (hy 3 (by omega))
    exact ⟨⟨s.data.toList, z1, z2, z3⟩, by unfold glCells; rw [sb_of], hw1⟩
theorem open_unC {fuel : Nat} {cs : List Value} {x : DataW H × List MemPlace} (h : DataW.trod enc Try.prog w base spare held fuel 36 cs = some x) : ∃ U : UnR, cs = [.slice U.fa U.fs.length U.fc, .slice U.ga U.gs.length U.gc, .int .i64 U.top] ∧ UnAt w w.heap.size U ∧ (∀ g ∈ U.gs, Wd g.pos) ∧ U.fs.length ≤ U.fc ∧ U.fc ≤ maxLen ∧ (U.fa = none → U.fc = 0) := by
  obtain ⟨ys, n, _, _, hl, hyl, hf⟩ := DataW.trod_struct Try.underlying36 h
  have hC : Try.prog.cellsOf 36 = 3 := by kernel_rfl
  have hc3 : Try.prog.cellsOf 3 = 1 := by kernel_rfl
  have hcf : Try.prog.cellsOf 33 = 1 := by kernel_rfl
  have hcg : Try.prog.cellsOf 34 = 1 := by kernel_rfl
  rw [hC] at hl
  have hy : ∀ j, j < 3 → ∃ y, ys[j]? = some y := fun j hj => ⟨_, List.getElem?_eq_getElem (by rw [hyl]; exact hj)⟩
  match cs, hl with
  | [c0, c1, c2], _ =>
    have h0 := hf 0 _ rfl
    simp [hcf] at h0
    have h1 := hf 1 _ rfl
    simp [hcg] at h1
    have h2 := hf 2 _ rfl
    simp [hc3] at h2
    obtain ⟨y0, e0⟩ := hy 0 (by omega)
    rw [e0] at h0
    obtain ⟨y1, e1⟩ := hy 1 (by omega)
    rw [e1] at h1
    obtain ⟨fa, fs, fc, rfl, hr, hm, hR, f1, f2, f3⟩ := open_rowC fnCells_len (by omega) (fun r => CodeAt w w.heap.size r ∧ r.f.code.length ≤ maxLen) Try.underlying33 (by kernel_rfl) (fun n cs y hy => open_fn hy) h0
    obtain ⟨ga, gs, gc, rfl, gr, gm, hG⟩ := open_row glCells_len (by omega) (fun g => Wd g.pos) Try.underlying34 (by kernel_rfl) (fun n cs y hy => open_gl hy) h1
    obtain ⟨z2, rfl⟩ := one_int Try.underlying3 h2 (hy 2 (by omega))
    exact ⟨⟨fs, fa, fc, gs, ga, gc, z2⟩, rfl, ⟨hr, gr, fun r hrr => (hR r hrr).1, hm, gm, fun r hrr => (hR r hrr).2⟩, hG, f1, f2, f3⟩
theorem open_un {fuel : Nat} {cs : List Value} {x : DataW H × List MemPlace} (h : DataW.trod enc Try.prog w base spare held fuel 36 cs = some x) : ∃ U : UnR, cs = [.slice U.fa U.fs.length U.fc, .slice U.ga U.gs.length U.gc, .int .i64 U.top] ∧ UnAt w w.heap.size U ∧ ∀ g ∈ U.gs, Wd g.pos := by
  obtain ⟨U, h1, h2, h3, _⟩ := open_unC h
  exact ⟨U, h1, h2, h3⟩
end
end Go.Proofs.Ytgnpbodhjmappaa
namespace Go.Proofs.Ytgnpbodhjmappaa
open Go.RowKit Go.ChangeShapes Go.WideShapes Go.Deep Cd
theorem post_below {H : Type} {enc : TypeId × Value → H} {P : Program} {f : Func} {s : ChangeSpec} {apart fresh handsOn again : Bool} {W W' : World} {args : Array Value} {v : Value} {ds gs : List (DataW H)} {before pa pv : List MemPlace}
    (hW : DataW.Whole enc P f.params.toList s.vars apart W args.toList ds gs before)
    (hres : ∀ (b : Nat) (sp : Nat → Bool) (hd : Bool), DataW.TrodAll enc P W' b sp hd f.resultTypes.toList (v.resultList f.resultTypes.size) (s.fn H (ds ++ gs)).results [])
    (hargs : ∀ sp : Nat → Bool, (∀ p ∈ before, sp p.block = true) → DataW.TrodAll enc P W' 0 sp true f.params.toList args.toList (s.fn H (ds ++ gs)).args pa)
    (hvars : ∀ sp : Nat → Bool, (∀ p ∈ before, sp p.block = true) → DataW.TrodVars enc P W' sp s.vars (s.fn H (ds ++ gs)).vars pv)
    (hps : before = pa ++ pv) (hb : Below W.heap.size W W')
    (hok : ∀ (j : Nat) (t : TypeId) (r : Value), f.resultTypes[j]? = some t → (v.resultList f.resultTypes.size)[j]? = some r → Value.okWide P W' .any 0 t r) :
    s.post enc P f apart fresh handsOn again W args v W' := by
  have old : ∀ p ∈ before, (fun b => decide (b < W.heap.size)) p.block = true := fun p hp => by simpa using hW.lt p hp
  obtain ⟨x1, x2, x3, x4, x5, hz, hn⟩ := id hW
  refine ⟨ds, gs, before, [], pa, pv, hW, hres _ _ _, hargs _ old, hvars _ old, World.keptBut_mono (fun p hp => ⟨hp, ?_⟩) (hb.frame (· ∈ before)), fun _ => ?_⟩
  · subst hps; exact .inr (List.mem_append.1 hp)
  · refine ⟨hok, _, _, ([] ++ pa) ++ pv, ⟨[] ++ pa, pv, trodAll_append (hargs _ (fun _ _ => rfl)) (hres _ _ _), hvars _ (fun _ _ => rfl), rfl, fun b off hp => ?_, fun ha => ?_⟩, fun p hp _ => ?_⟩
    · have hin : MemPlace.cell b off ∈ before := by rw [hps]; simpa using hp
      rw [hb.frozen (hW.lt _ hin)]
      exact hz b off hin
    · have := hn ha
      rw [hps] at this
      simpa using this
    · rw [hps]; simpa using hp
theorem u8s_flat : ∀ l : List UInt8, l.flatMap (fun c : UInt8 => [Value.int .u8 c.toNat]) = u8s l
  | [] => rfl
  | x :: l => by
    rw [List.flatMap_cons, u8s_flat l]
    rfl
theorem open_bytes {H : Type} {enc : TypeId × Value → H} {w : World} {base : Nat} {spare : Nat → Bool} {held : Bool} {fuel : Nat} {v : Value} {x : DataW H × List MemPlace} (h : DataW.trod enc Try.prog w base spare held fuel 37 [v] = some x) :
    ∃ (a : Option Addr) (l : List UInt8) (c : Nat), v = .slice a l.length c ∧ InAt w (.slice a l.length c) l := by
  obtain ⟨a, l, c, h1, h2, h3, _, h4, h5, _⟩ := open_rowC (f := fun c : UInt8 => [Value.int .u8 c.toNat]) (k := 1) (fun _ => rfl) (by omega) (fun _ => True) Try.underlying37 (by kernel_rfl) (fun n cs y hy => by
    obtain ⟨z, hz, _, hw⟩ := DataW.trod_int Try.underlying5 hy
    have hw' : 0 ≤ z ∧ z ≤ 255 := by simpa [Lit.wf, IntKind.min, IntKind.max, IntKind.signed, IntKind.bits] using hw
    refine ⟨UInt8.ofNat z.toNat, ?_, trivial⟩
    rw [hz, UInt8.toNat_ofNat']
    have e : ((z.toNat % 2 ^ 8 : Nat) : Int) = z := by omega
    rw [e]) h
  refine ⟨a, l, c, h1, a, c, rfl, h4, h5, ?_⟩
  rw [u8s_flat] at h2
  exact h2
end Go.Proofs.Ytgnpbodhjmappaa
