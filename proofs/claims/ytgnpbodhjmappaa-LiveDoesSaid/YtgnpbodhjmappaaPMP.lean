/-
  doppellaw10's Swapped: a unit with other functions in the place of its own.
-/
import Derived.Test.YtgnpbodhjmappaaPR7Find
import Derived.Test.YtgnpbodhjmappaaPLH
import Derived.Test.YtgnpbodhjmappaaPLA
import Derived.Deep.AppendLies
import Derived.Deep.RegionLaw
import Derived.Deep.RegionWith
import Derived.Deep.CutRange
import Derived.Maps.AppendAt
import Derived.Test.YtgnpbodhjmappaaPLQ
import Derived.Laws.CopyRow
import Derived.Laws.CopyOwn
import Derived.Laws.IdiomCopy
set_option linter.unusedVariables false
set_option linter.unusedSimpArgs false
namespace Go.Proofs.Ytgnpbodhjmappaa
set_option maxRecDepth 100000
open Go.RowKit Cd Go.Maps
def SwF (x : Fnc) (V : World) (e : Ending) (V' : World) : Prop := ∃ cg cc, e = .returned (fnV ⟨x, some ⟨cg, 0, none⟩, cc⟩) ∧ V.heap.size ≤ cg ∧ cg < V'.heap.size ∧ (∀ (j : Nat) (u : Value), (x.code.flatMap inCells)[j]? = some u → V'.cell? ⟨cg, j, none⟩ = some u) ∧ Below V.heap.size V V'
abbrev unZ : Obj := .cells #[.slice none 0 0, .slice none 0 0, .int .i64 0] 36
abbrev unB (U : UnR) (v : Value) : Obj := .cells #[v, .slice U.ga U.gs.length U.gc, .int .i64 U.top] 36
theorem infoFnS : (Try.prog.info? 24).map (fun i => (i.zero, i.size, i.bytes)) = some (some (.agg #[.string ⟨#[]⟩, .int .i64 0, .int .i64 0, .int .i64 0, .slice none 0 0]), 5, 64) := by kernel_rfl
theorem info_parts' {e : TypeId} {z : Value} {size bytes : Nat} (h : (Try.prog.info? e).map (fun i => (i.zero, i.size, i.bytes)) = some (some z, size, bytes)) : ∃ i, Try.prog.info? e = some i ∧ i.zero = some z ∧ i.size = size ∧ i.bytes = bytes := by
  cases hi : Try.prog.info? e with
  | none => rw [hi] at h; simp at h
  | some i =>
    rw [hi] at h
    simp only [Option.map_some, Option.some.injEq, Prod.mk.injEq] at h
    exact ⟨i, rfl, h.1, h.2.1, h.2.2⟩
theorem heap_othS {w : World} {b j k : Nat} {u : Value} (h : k ≠ b) : (w.setCell ⟨b, j, none⟩ u).heap[k]? = w.heap[k]? := Below.heap_setCell _ _ _ _ (by simpa using h)
def CdAway (w : World) (lo : Nat) (q : Option Nat) (r : FnR) : Prop := ∃ cg, r.ca = some ⟨cg, 0, none⟩ ∧ lo ≤ cg ∧ cg < w.heap.size ∧ q ≠ some cg ∧ ∀ (j : Nat) (u : Value), (r.f.code.flatMap inCells)[j]? = some u → w.cell? ⟨cg, j, none⟩ = some u
theorem CdAway.keep {w w' : World} {lo : Nat} {q q' : Option Nat} {r : FnR} (h : CdAway w lo q r) (hs : w.heap.size ≤ w'.heap.size) (hb : ∀ g, g < w.heap.size → q ≠ some g → w'.heap[g]? = w.heap[g]?) (hq : ∀ g, g < w.heap.size → q ≠ some g → q' ≠ some g) : CdAway w' lo q' r := by
  obtain ⟨cg, h1, h0, h2, h3, h4⟩ := h
  exact ⟨cg, h1, h0, by omega, hq cg h2 h3, fun j u hu => (World.cell?_of_block (w := w) (hb cg h2 h3)).trans (h4 j u hu)⟩
theorem CdAway.at {w : World} {lo : Nat} {q : Option Nat} {r : FnR} (h : CdAway w lo q r) : CodeAt w w.heap.size r := fun _ => by
  obtain ⟨cg, h1, _, h2, h3, h4⟩ := h
  exact ⟨cg, 0, h1, h2, Nat.le_refl _, fun j u hu => by rw [Nat.zero_add]; exact h4 j u hu⟩
structure SwSt (w0 w : World) (U : UnR) (hh : Fnc → Fnc) (k : Nat) (rs : List FnR) (v : Value) : Prop where
  ub : w.heap[w0.heap.size]? = some (unO U)
  rb : ∃ y0 y1 y2 : Value, w.heap[w0.heap.size + 1]? = some (.cells #[y0, y1, y2] 36)
  vb : w.heap[w0.heap.size + 1 + 1]? = some (unB U v)
  own : w.ownsRow (w0.heap.size + 3) 24 5 v k (rs.flatMap fnCells)
  code : ∀ r ∈ rs, CdAway w (w0.heap.size + 3) v.ownBlock r
  fns : rs.map (·.f) = (U.fns.take k).map hh
  hb : Below w0.heap.size w0 w
theorem SwSt.lt {w0 w : World} {U : UnR} {hh : Fnc → Fnc} {k : Nat} {rs : List FnR} {v : Value} (h : SwSt w0 w U hh k rs v) : w0.heap.size + 3 ≤ w.heap.size := by have := lt_heap h.vb; omega
theorem SwSt.below {w0 w w' : World} {U : UnR} {hh : Fnc → Fnc} {k : Nat} {rs : List FnR} {v : Value} (h : SwSt w0 w U hh k rs v) (hb : Below w.heap.size w w') : SwSt w0 w' U hh k rs v := by
  have := h.lt
  exact ⟨(hb.block _ (by omega)).trans h.ub, (by obtain ⟨y0, y1, y2, hy⟩ := h.rb; exact ⟨y0, y1, y2, (hb.block _ (by omega)).trans hy⟩), (hb.block _ (by omega)).trans h.vb, own_keep h.own (fun g hg => hb.block g (h.own.lt g hg).2), fun r hr => (h.code r hr).keep hb.size (fun g hg _ => hb.block g hg) (fun _ _ h => h), h.fns, h.hb.trans (hb.mono (by omega))⟩
theorem SwSt.next {w0 w w2 w3 : World} {U : UnR} {hh : Fnc → Fnc} {k : Nat} {rs : List FnR} {v : Value} (h : SwSt w0 w U hh k rs v) {r : FnR} (hk : U.fs[k]? = some r) {r' : FnR} (hf : r'.f = hh r.f)
    (hb : Below w.heap.size w w2) (hc : ∃ cg, r'.ca = some ⟨cg, 0, none⟩ ∧ w.heap.size ≤ cg ∧ cg < w2.heap.size ∧ ∀ (j : Nat) (u : Value), (r'.f.code.flatMap inCells)[j]? = some u → w2.cell? ⟨cg, j, none⟩ = some u)
    {g cap : Nat} (hown : w3.ownsRow (w0.heap.size + 3) 24 5 (.slice (some ⟨g, 0, none⟩) (k + 1) cap) (k + 1) (rs.flatMap fnCells ++ fnCells r')) (hgr : w2.grownBy w3 v.ownBlock) (hat : v.ownBlock = some g ∨ g = w2.heap.size) :
    SwSt w0 (w3.setCell ⟨w0.heap.size + 1 + 1, 0, none⟩ (.slice (some ⟨g, 0, none⟩) (k + 1) cap)) U hh (k + 1) (rs ++ [r']) (.slice (some ⟨g, 0, none⟩) (k + 1) cap) := by
  have h2 := h.below hb
  have hl := h2.lt
  have hvo : ∀ q, v.ownBlock = some q → w0.heap.size + 3 ≤ q ∧ q < w2.heap.size := fun q hq => h2.own.lt q hq
  have hvw : ∀ q, v.ownBlock = some q → q < w.heap.size := fun q hq => (h.own.lt q hq).2
  have hgg : w0.heap.size + 3 ≤ g := (hown.lt g rfl).1
  have key : ∀ b, b < w2.heap.size → v.ownBlock ≠ some b → w3.heap[b]? = w2.heap[b]? := fun b hb hne => hgr.block b hb (fun e => hne e.symm)
  have hne : ∀ b, b < w0.heap.size + 3 → v.ownBlock ≠ some b := fun b hb e => by have := (hvo b e).1; omega
  have hvb3 := (key _ (by omega) (hne (w0.heap.size + 1 + 1) (by omega))).trans h2.vb
  have hs3 := hgr.size
  refine ⟨?_, ?_, ?_, ?_, fun x hx => ?_, ?_, ?_⟩
  · exact (heap_othS (by omega)).trans ((key _ (by omega) (hne _ (by omega))).trans h2.ub)
  · obtain ⟨y0, y1, y2, hy⟩ := h2.rb
    exact ⟨y0, y1, y2, (heap_othS (by omega)).trans ((key _ (by omega) (hne _ (by omega))).trans hy)⟩
  · have := cells_set hvb3 0 (.slice (some ⟨g, 0, none⟩) (k + 1) cap)
    simpa using this
  · rw [List.flatMap_append, List.flatMap_cons, List.flatMap_nil, List.append_nil]
    exact own_keep hown (fun q hq => heap_othS (by have := (hown.lt q hq).1; omega))
  · have hcx : CdAway w3 (w0.heap.size + 3) (some g) x := by
      rcases List.mem_append.1 hx with hx | hx
      · exact (h2.code x hx).keep hs3 key (fun b hb hnb e => by
          injection e with e
          subst e
          rcases hat with e2 | e2
          · exact hnb e2
          · omega)
      · rw [List.mem_singleton] at hx
        subst hx
        obtain ⟨cg, e1, e2, e3, e4⟩ := hc
        have hn : v.ownBlock ≠ some cg := fun e => by have := hvw cg e; omega
        have := h.lt
        refine ⟨cg, e1, by omega, by omega, fun e => ?_, fun j u hu => (World.cell?_of_block (w := w2) (key cg e3 hn)).trans (e4 j u hu)⟩
        injection e with e
        subst e
        rcases hat with e5 | e5
        · exact hn e5
        · omega
    obtain ⟨cg, e1, e0, e2, e3, e4⟩ := hcx
    refine ⟨cg, e1, e0, by simpa using e2, e3, fun j u hu => ?_⟩
    rw [World.cell?_setCell_other _ _ _ _ (by simp <;> omega)]
    exact e4 j u hu
  · rw [List.map_append, h.fns]
    have hk2 : U.fns[k]? = some r.f := by unfold UnR.fns; rw [List.getElem?_map, hk]; rfl
    rw [List.take_add_one, hk2]
    simp [hf]
  · exact ((h2.hb.grown hgr (by omega) (fun q hq => by have := (hvo q hq).1; omega))).setCell (by simp <;> omega) _
theorem SwSt.vb3 {w0 w2 w3 : World} {U : UnR} {hh : Fnc → Fnc} {k : Nat} {rs : List FnR} {v : Value} (h : SwSt w0 w2 U hh k rs v) (hgr : w2.grownBy w3 v.ownBlock) : w3.heap[w0.heap.size + 1 + 1]? = some (unB U v) :=
  (hgr.block _ (by have := h.lt; omega) (fun e => by have := (h.own.lt _ e.symm).1; omega)).trans h.vb
theorem set3 {w : World} {b : Nat} {x0 x1 x2 : Value} {t : TypeId} (h : w.heap[b]? = some (.cells #[x0, x1, x2] t (0, 0))) (y0 y1 y2 : Value) : (((w.setCell ⟨b, 0, none⟩ y0).setCell ⟨b, 1, none⟩ y1).setCell ⟨b, 2, none⟩ y2).heap[b]? = some (.cells #[y0, y1, y2] t (0, 0)) := by
  have h1 := cells_set (cells_set (cells_set h 0 y0) 1 y1) 2 y2
  simpa using h1
theorem SwSt.res {w0 w : World} {U : UnR} {hh : Fnc → Fnc} {k : Nat} {rs : List FnR} {v : Value} (h : SwSt w0 w U hh k rs v) (u0 u1 u2 : Value) : SwSt w0 (((w.setCell ⟨w0.heap.size + 1, 0, none⟩ u0).setCell ⟨w0.heap.size + 1, 1, none⟩ u1).setCell ⟨w0.heap.size + 1, 2, none⟩ u2) U hh k rs v := by
  obtain ⟨y0, y1, y2, hy⟩ := h.rb
  have ho : ∀ b, b ≠ w0.heap.size + 1 → (((w.setCell ⟨w0.heap.size + 1, 0, none⟩ u0).setCell ⟨w0.heap.size + 1, 1, none⟩ u1).setCell ⟨w0.heap.size + 1, 2, none⟩ u2).heap[b]? = w.heap[b]? := fun b hb => (heap_othS hb).trans ((heap_othS hb).trans (heap_othS hb))
  refine ⟨(ho _ (by omega)).trans h.ub, ⟨u0, u1, u2, set3 hy u0 u1 u2⟩, (ho _ (by omega)).trans h.vb, own_keep h.own (fun g hg => ho g (by have := (h.own.lt g hg).1; omega)), fun r hr => ?_, h.fns, ((h.hb.setCell (by simp <;> omega) _).setCell (by simp <;> omega) _).setCell (by simp <;> omega) _⟩
  obtain ⟨cg, e1, e0, e2, e3, e4⟩ := h.code r hr
  exact ⟨cg, e1, e0, by simpa using e2, e3, fun j u hu => (World.cell?_of_block (w := w) (ho cg (by omega))).trans (e4 j u hu)⟩
def SwPost (hh : Fnc → Fnc) (U : UnR) (w : World) (e : Ending) (w' : World) : Prop := ∃ V : UnR, e = .returned (unV V) ∧ V.un = ⟨U.fns.map hh, U.gs, U.top⟩ ∧ UnAt w' w'.heap.size V ∧ Below w.heap.size w w'
theorem SwSt.post {w0 w : World} {U : UnR} {hh : Fnc → Fnc} {k : Nat} {rs : List FnR} {v : Value} (h : SwSt w0 w U hh k rs v) (hU : UnAt w0 w0.heap.size U) (hk : k = U.fs.length) (hl : ∀ x ∈ U.fs, (hh x.f).code.length ≤ maxLen) : ∃ V : UnR, unV V = .agg #[v, .slice U.ga U.gs.length U.gc, .int .i64 U.top] ∧ V.un = ⟨U.fns.map hh, U.gs, U.top⟩ ∧ UnAt w w.heap.size V := by
  subst hk
  have hf := h.fns
  have hlr : rs.length = U.fs.length := by
    have := congrArg List.length hf
    unfold UnR.fns at this
    simpa using this
  obtain ⟨a, c, rfl⟩ := row_slice h.own
  have hf2 : rs.map (·.f) = U.fns.map hh := by
    rw [hf]
    congr 1
    exact List.take_of_length_le (by unfold UnR.fns; simp)
  have hU2 := hU.below h.hb
  have h3 := h.lt
  refine ⟨⟨rs, a, c, U.gs, U.ga, U.gc, U.top⟩, by simp only [unV]; rw [hlr], by unfold UnR.un UnR.fns; rw [hf2]; rfl, ⟨?_, RowAt.mono hU2.gs (by omega) (Nat.le_refl _), fun r hr => (h.code r hr).at, by rw [hlr]; exact hU.lf, hU.lg, fun r hr => ?_⟩⟩
  · intro h0
    rcases h.own.2 with ⟨_, h5⟩ | ⟨g, cap, cur, h4, h5, h6, h7, h8, h9, h10⟩
    · have h0' : 0 < (rs.flatMap fnCells).length := h0
      rw [flat_len fnCells_len] at h0'; omega
    · injection h4 with h4 _ _
      refine ⟨g, 0, h4, lt_heap h6, Nat.le_refl _, fun j u hu => ?_⟩
      rw [Nat.zero_add, cell_of_row w g _ _ _ _ h6]
      rw [← h10] at hu
      have hj := (List.getElem?_eq_some_iff.1 hu).1
      rw [List.length_take] at hj
      rw [List.getElem?_take_of_lt (by omega)] at hu
      simpa using hu
  · have hm : r.f ∈ rs.map (·.f) := List.mem_map_of_mem hr
    rw [hf2] at hm
    obtain ⟨g, hg, e⟩ := List.mem_map.1 hm
    obtain ⟨x, hx, rfl⟩ := List.mem_map.1 hg
    rw [← e]
    exact hl x hx
end Go.Proofs.Ytgnpbodhjmappaa
namespace Go.Proofs.Ytgnpbodhjmappaa
set_option maxRecDepth 100000
open Go.RowKit Cd
theorem heap_oth {w : World} {b j k : Nat} {u : Value} (h : k ≠ b) : (w.setCell ⟨b, j, none⟩ u).heap[k]? = w.heap[k]? := Below.heap_setCell _ _ _ _ (by simpa using h)
theorem made_flat (zs : List Value) (hz : 0 < zs.length) (n : Nat) : madeCells zs.toArray (n * zs.length) = ((List.replicate n ()).flatMap (fun _ => zs)).toArray := by
  apply Array.ext'
  apply List.ext_getElem?
  intro i
  by_cases hi : i < n * zs.length
  · have hq : i / zs.length < n := by rw [Nat.div_lt_iff_lt_mul hz]; exact hi
    have hr := Nat.mod_lt i hz
    have hdm := Nat.div_add_mod i zs.length
    have h1 := flat_at (f := fun _ : Unit => zs) (k := zs.length) (fun _ => rfl) (List.replicate n ()) (i / zs.length) (i % zs.length) () (by rw [List.getElem?_replicate, if_pos hq]) hr
    have e : i / zs.length * zs.length + i % zs.length = i := by rw [Nat.mul_comm]; exact hdm
    rw [e] at h1
    show _ = ((List.replicate n ()).flatMap fun _ => zs)[i]?
    rw [h1]
    unfold madeCells
    simp [hi, hr, List.getElem?_eq_getElem hr]
  · have h1 : ((List.replicate n ()).flatMap (fun _ => zs)).length = n * zs.length := by
      rw [flat_len (f := fun _ : Unit => zs) (k := zs.length) (fun _ => rfl), List.length_replicate]
    show _ = ((List.replicate n ()).flatMap fun _ => zs)[i]?
    have h2 : ((List.replicate n ()).flatMap (fun _ => zs))[i]? = none := List.getElem?_eq_none (by omega)
    rw [h2]
    unfold madeCells
    simp [hi]
abbrev Cd.zeroIns : Ins := ⟨0, 0, 0, 0, 0, 0, [], 0, 0, 0, 0, 0, 0, 0, 0⟩
theorem two_new (w : World) (o1 o2 : Obj) : ((w.alloc o1).alloc o2).heap[w.heap.size]? = some o1 ∧ ((w.alloc o1).alloc o2).heap[w.heap.size + 1]? = some o2 ∧ Below w.heap.size w ((w.alloc o1).alloc o2) ∧ ((w.alloc o1).alloc o2).heap.size = w.heap.size + 2 := by
  have e2 := heap_alloc_new (w.alloc o1) o2
  simp only [World.size_alloc] at e2
  exact ⟨(Below.heap_alloc _ _ _ (by simp)).trans (heap_alloc_new w o1), e2, ((Below.refl w.heap.size w).alloc (Nat.le_refl _) _).alloc (by simp) _, by simp⟩
def InsRow (w : World) (g : Nat) (c : List Ins) : Prop := w.heap[g]? = some (.cells (c.flatMap inCells).toArray 46 (0, 0))
theorem InsRow.lt {w : World} {g : Nat} {c : List Ins} (h : InsRow w g c) : g < w.heap.size := lt_heap h
theorem InsRow.keep {w w' : World} {g : Nat} {c : List Ins} (h : InsRow w g c) (e : w'.heap[g]? = w.heap[g]?) : InsRow w' g c := e.trans h
theorem InsRow.row {w : World} {g B : Nat} {c : List Ins} (h : InsRow w g c) (hg : g < B) (hB : B ≤ w.heap.size) : RowAt w B (some ⟨g, 0, none⟩) (c.flatMap inCells) := fun _ => ⟨g, 0, rfl, hg, hB, fun j u hu => by rw [Nat.zero_add, cell_of_row w g _ _ _ _ h]; simpa using hu⟩
theorem InsRow.frozen {w : World} {g : Nat} {c : List Ins} (h : InsRow w g c) (j : Nat) : w.frozen? ⟨g, j, none⟩ = false := by simp [World.frozen?, (show w.heap[g]? = _ from h)]
abbrev setIO (w : World) (g o : Nat) (j : Ins) : World := (((((((((((((((w.setCell ⟨g, o, none⟩ (.int .i64 j.kind)).setCell ⟨g, o + 1, none⟩ (.int .i64 j.op)).setCell ⟨g, o + 2, none⟩ (.int .i64 j.dst)).setCell ⟨g, o + 3, none⟩ (.int .i64 j.a)).setCell ⟨g, o + 4, none⟩ (.int .i64 j.b)).setCell ⟨g, o + 5, none⟩ (.int .i64 j.n)).setCell ⟨g, o + 6, none⟩ (.string (sb j.text))).setCell ⟨g, o + 7, none⟩ (.int .i64 j.x0)).setCell ⟨g, o + 8, none⟩ (.int .i64 j.x1)).setCell ⟨g, o + 9, none⟩ (.int .i64 j.x2)).setCell ⟨g, o + 10, none⟩ (.int .i64 j.x3)).setCell ⟨g, o + 11, none⟩ (.int .i64 j.x4)).setCell ⟨g, o + 12, none⟩ (.int .i64 j.x5)).setCell ⟨g, o + 13, none⟩ (.int .i64 j.dest)).setCell ⟨g, o + 14, none⟩ (.int .i64 j.els))
abbrev setIL (L : List Value) (o : Nat) (j : Ins) : List Value := (((((((((((((((L.set (o) (.int .i64 j.kind)).set (o + 1) (.int .i64 j.op)).set (o + 2) (.int .i64 j.dst)).set (o + 3) (.int .i64 j.a)).set (o + 4) (.int .i64 j.b)).set (o + 5) (.int .i64 j.n)).set (o + 6) (.string (sb j.text))).set (o + 7) (.int .i64 j.x0)).set (o + 8) (.int .i64 j.x1)).set (o + 9) (.int .i64 j.x2)).set (o + 10) (.int .i64 j.x3)).set (o + 11) (.int .i64 j.x4)).set (o + 12) (.int .i64 j.x5)).set (o + 13) (.int .i64 j.dest)).set (o + 14) (.int .i64 j.els))
theorem set_app (L1 L2 : List Value) (k q : Nat) (u : Value) (h : L1.length = 15) : (L1 ++ L2).set ((k + 1) * 15 + q) u = L1 ++ L2.set (k * 15 + q) u := by
  rw [List.set_append_right _ _ (by omega), h]
  congr 2
  omega
theorem set_app0 (L1 L2 : List Value) (k : Nat) (u : Value) (h : L1.length = 15) : (L1 ++ L2).set ((k + 1) * 15) u = L1 ++ L2.set (k * 15) u := set_app L1 L2 k 0 u h
theorem flat_setI : ∀ (c : List Ins) (k : Nat) (j : Ins), k < c.length → setIL (c.flatMap inCells) (k * 15) j = (c.set k j).flatMap inCells
  | [], k, j, h => by simp at h
  | a :: c, 0, j, _ => by simp [setIL, inCells]
  | a :: c, k + 1, j, h => by
    have ih := flat_setI c k j (by simpa using h)
    unfold setIL at ih ⊢
    rw [List.flatMap_cons, List.set_cons_succ, List.flatMap_cons, ← ih]
    rw [set_app0 _ _ _ _ rfl]
    repeat rw [set_app _ _ _ _ _ rfl]
theorem setIO_heap {w : World} {g : Nat} {L : List Value} {t : TypeId} (h : w.heap[g]? = some (.cells L.toArray t (0, 0))) (o : Nat) (j : Ins) : (setIO w g o j).heap[g]? = some (.cells (setIL L o j).toArray t (0, 0)) := by
  have h1 := (cells_set (cells_set (cells_set (cells_set (cells_set (cells_set (cells_set (cells_set (cells_set (cells_set (cells_set (cells_set (cells_set (cells_set (cells_set h (o) (.int .i64 j.kind)) (o + 1) (.int .i64 j.op)) (o + 2) (.int .i64 j.dst)) (o + 3) (.int .i64 j.a)) (o + 4) (.int .i64 j.b)) (o + 5) (.int .i64 j.n)) (o + 6) (.string (sb j.text))) (o + 7) (.int .i64 j.x0)) (o + 8) (.int .i64 j.x1)) (o + 9) (.int .i64 j.x2)) (o + 10) (.int .i64 j.x3)) (o + 11) (.int .i64 j.x4)) (o + 12) (.int .i64 j.x5)) (o + 13) (.int .i64 j.dest)) (o + 14) (.int .i64 j.els))
  rw [h1]
  simp only [List.setIfInBounds_toArray]
theorem InsRow.set {w : World} {g : Nat} {c : List Ins} (h : InsRow w g c) {k : Nat} (hk : k < c.length) (j : Ins) : InsRow (setIO w g (k * 15) j) g (c.set k j) := by
  unfold InsRow
  rw [setIO_heap h, flat_setI c k j hk]
theorem infoIns : (Try.prog.info? 46).map (fun i => (i.zero, i.size, i.bytes)) = some (some (inV zeroIns), 15, 128) := by kernel_rfl
def insObj (l : List Ins) : Obj := .cells (l.flatMap inCells).toArray 46
theorem make_ins (n : Nat) (hn : n ≤ 10000) (w : World) : (Instr.makeSlice 22 (.int .i64 (n : Int)) (.int .i64 (n : Int))).run Try.prog w = .ok (.slice (some ⟨w.heap.size, 0, none⟩) n n) (w.alloc (insObj (List.replicate n zeroIns))) := by
  obtain ⟨i, hi, hzz⟩ := Option.map_eq_some_iff.1 infoIns
  simp only [Prod.mk.injEq] at hzz
  obtain ⟨hz, hs, hb⟩ := hzz
  have hr := run_make (P := Try.prog) w 22 46 i (inV zeroIns) Try.underlying22 hi hz .i64 .i64 n n (by omega) (Int.le_refl _) (by rw [hb]; omega) (by omega)
  rw [Int.toNat_natCast, hs] at hr
  rw [hr]
  have e : madeCells (inV zeroIns).cells (n * 15) = ((List.replicate n zeroIns).flatMap inCells).toArray := by
    have h1 := made_flat (inCells zeroIns) (by simp [inCells]) n
    have h2 : (inV zeroIns).cells = (inCells zeroIns).toArray := rfl
    have h3 : (inCells zeroIns).length = 15 := rfl
    rw [h2, ← h3]
    refine h1.trans (congrArg List.toArray ?_)
    clear h1 hr
    induction n with
    | zero => rfl
    | succ n ih =>
      rw [List.replicate_succ, List.replicate_succ, List.flatMap_cons, List.flatMap_cons, ih (by omega)]
  rw [e]; rfl
theorem copy_ins {W w0 : World} {B g n sc : Nat} {sp : Option Addr} (old c : List Ins) (hg : InsRow W g old) (ho : old.length = n) (hc : c.length = n) (hsrc : RowAt W W.heap.size sp (c.flatMap inCells)) (hb : Below B w0 W) (hBg : B ≤ g) :
    ∃ w2, (∀ ty, (Builtin.copy_ #[22, 22] ty #[.slice (some ⟨g, 0, none⟩) n n, .slice sp n sc]).run Try.prog W = .ok (.int .i64 (n : Int)) w2) ∧ InsRow w2 g c ∧ Below B w0 w2 ∧ (∀ j, j ≠ g → w2.heap[j]? = W.heap[j]?) ∧ W.heap.size ≤ w2.heap.size := by
  obtain ⟨i, hi, hzz⟩ := Option.map_eq_some_iff.1 infoIns
  simp only [Prod.mk.injEq] at hzz
  obtain ⟨hz, hs, hbb⟩ := hzz
  have hcl : (c.flatMap inCells).length = n * 15 := by rw [flat_len inCells_len, hc]
  have hol : (old.flatMap inCells).length = n * 15 := by rw [flat_len inCells_len, ho]
  by_cases h0 : n = 0
  · subst h0
    obtain rfl : c = [] := List.eq_nil_of_length_eq_zero hc
    obtain rfl : old = [] := List.eq_nil_of_length_eq_zero ho
    refine ⟨W, fun ty => ?_, hg, hb, fun _ _ => rfl, Nat.le_refl _⟩
    have hst := run_storeCells_at Try.prog g 0 46 [] 0 #[] W hg (by simp) (by simp)
    cases sp with
    | none => simp [Builtin.copy_, run_underlying Try.underlying22, Builtin.lenOf, Builtin.firstCells, sizeOf, typeInfo, hi, hs, storeCells, goInt]
    | some a => simp [Builtin.copy_, run_underlying Try.underlying22, Builtin.lenOf, Builtin.firstCells, sizeOf, typeInfo, hi, hs, storeCells, loadCells, loadCellsFrom, goInt]
  · obtain ⟨b, off, rfl, hbl, _, hcell⟩ := hsrc (by rw [hcl]; omega)
    have hl := run_loadCells_list (P := Try.prog) W ⟨b, off, none⟩ (c.flatMap inCells) (fun j v hv => by
      have := hcell j v hv
      have e : (⟨b, off, none⟩ : Addr).add j = ⟨b, off + j, none⟩ := by unfold Addr.add; split <;> simp_all
      rw [e]; exact this)
    have h1 : ∀ v ∈ c.flatMap inCells, v.oneCell' = true := by
      intro v hv
      obtain ⟨x, _, hx⟩ := List.mem_flatMap.1 hv
      simp only [inCells, List.mem_cons, List.not_mem_nil, or_false] at hx
      rcases hx with rfl | rfl | rfl | rfl | rfl | rfl | rfl | rfl | rfl | rfl | rfl | rfl | rfl | rfl | rfl <;> rfl
    have hst := run_storeCells_at Try.prog g 0 46 (c.flatMap inCells) 0 (old.flatMap inCells).toArray W hg (by simp only [Nat.zero_add]; rw [hcl]; simp only [List.size_toArray]; rw [hol]; exact Nat.le_refl _) h1
    have e : ((old.flatMap inCells).toArray.toList.take (0 + 0) ++ c.flatMap inCells ++ (old.flatMap inCells).toArray.toList.drop (0 + 0 + (c.flatMap inCells).length)).toArray = (c.flatMap inCells).toArray := by
      rw [hcl]
      simp [List.drop_eq_nil_of_le (show (old.flatMap inCells).length ≤ n * 15 by omega)]
    rw [e] at hst
    rw [hcl] at hl
    refine ⟨W.setRow g (c.flatMap inCells).toArray, fun ty => ?_, ?_, below_setRow hb hBg _, fun j hj => setRow_other W g j _ hj, by simp [World.setRow]⟩
    · simp [Builtin.copy_, run_underlying Try.underlying22, Builtin.lenOf, Builtin.firstCells, sizeOf, typeInfo, hi, hs, hl, hst, goInt]
    · exact setRow_heap W g _ _ 46 _ hg
theorem clone_end {w3 : World} {z : Nat} (h : w3.heap[z + 1]? = some (.cells #[.string (sb []), .int .i64 0, .int .i64 0, .int .i64 0, .slice none 0 0] 24)) (r : FnR) (g : Nat) :
    let V := ((((((w3.setCell ⟨z, 4, none⟩ (.slice (some ⟨g, 0, none⟩) r.f.code.length r.f.code.length)).setCell ⟨z + 1, 0, none⟩ (.string (sb r.f.name))).setCell ⟨z + 1, 1, none⟩ (.int .i64 r.f.params)).setCell ⟨z + 1, 2, none⟩ (.int .i64 r.f.regs)).setCell ⟨z + 1, 3, none⟩ (.int .i64 r.f.frame)).setCell ⟨z + 1, 4, none⟩ (.slice (some ⟨g, 0, none⟩) r.f.code.length r.f.code.length))
    V.heap[z + 1]? = some (fnO ⟨r.f, some ⟨g, 0, none⟩, r.f.code.length⟩) ∧ (∀ j, j ≠ z → j ≠ z + 1 → V.heap[j]? = w3.heap[j]?) ∧ Below z w3 V ∧ True := by
  intro V
  have h0 : (w3.setCell ⟨z, 4, none⟩ (.slice (some ⟨g, 0, none⟩) r.f.code.length r.f.code.length)).heap[z + 1]? = _ := (heap_oth (by omega)).trans h
  have h1 := cells_set (cells_set (cells_set (cells_set (cells_set h0 0 (.string (sb r.f.name))) 1 (.int .i64 r.f.params)) 2 (.int .i64 r.f.regs)) 3 (.int .i64 r.f.frame)) 4 (.slice (some ⟨g, 0, none⟩) r.f.code.length r.f.code.length)
  refine ⟨by simpa using h1, fun j hj hj1 => ?_, ?_, trivial⟩
  · exact (heap_oth hj1).trans ((heap_oth hj1).trans ((heap_oth hj1).trans ((heap_oth hj1).trans ((heap_oth hj1).trans (heap_oth hj)))))
  · exact ((((((Below.refl z w3).setCell (Nat.le_refl _) _).setCell (by simp) _).setCell (by simp) _).setCell (by simp) _).setCell (by simp) _).setCell (by simp) _
def ClPost (r : FnR) (w : World) (e : Ending) (w' : World) : Prop := ∃ g, e = .returned (fnV ⟨r.f, some ⟨g, 0, none⟩, r.f.code.length⟩) ∧ w.heap.size ≤ g ∧ InsRow w' g r.f.code ∧ Below w.heap.size w w'
set_option maxHeartbeats 4000000 in
theorem clone_c (r : FnR) (w : World) (hC : CodeAt w w.heap.size r) (hl : r.f.code.length ≤ 10000) : Calls Try.prog 31 #[fnV r] w (ClPost r w) := by
  obtain ⟨h1, h2, h3, hs⟩ := two_new w (fnO r) (.cells #[.string (sb []), .int .i64 0, .int .i64 0, .int .i64 0, .slice none 0 0] 24)
  obtain ⟨W2, hW2⟩ : ∃ W, (w.alloc (fnO r)).alloc (.cells #[.string (sb []), .int .i64 0, .int .i64 0, .int .i64 0, .slice none 0 0] 24) = W := ⟨_, rfl⟩
  rw [hW2] at h1 h2 h3 hs
  have hmk := make_ins r.f.code.length hl
  obtain ⟨x0, x1, x2, x3, x4⟩ := nv5 h1
  have HN : Hid (InsRow (W2.alloc (insObj (List.replicate r.f.code.length zeroIns))) W2.heap.size (List.replicate r.f.code.length zeroIns)) := Lib.hid (heap_alloc_new W2 _)
  have HB : Hid (Below w.heap.size w (W2.alloc (insObj (List.replicate r.f.code.length zeroIns)))) := Lib.hid (h3.alloc (by omega) _)
  have HC : Hid (RowAt (W2.alloc (insObj (List.replicate r.f.code.length zeroIns))) (W2.alloc (insObj (List.replicate r.f.code.length zeroIns))).heap.size r.ca (r.f.code.flatMap inCells)) := Lib.hid ((RowAt.below hC HB.out).mono HB.out.size (Nat.le_refl _))
  obtain ⟨w3, hcp, hrow, hb3, hoth, hsz⟩ := copy_ins (w0 := w) (B := w.heap.size) (g := W2.heap.size) (sc := r.cc) (List.replicate r.f.code.length zeroIns) r.f.code HN.out (by simp) rfl HC.out HB.out (by omega)
  have HR3 := Lib.hid hrow; have HB3 := Lib.hid hb3
  have HX3 : Hid (w3.heap[w.heap.size]? = some (fnO r)) := Lib.hid ((hoth _ (by omega)).trans ((Below.heap_alloc _ _ _ (by omega)).trans h1))
  have HY3 : Hid (w3.heap[w.heap.size + 1]? = some (.cells #[.string (sb []), .int .i64 0, .int .i64 0, .int .i64 0, .slice none 0 0] 24)) := Lib.hid ((hoth _ (by omega)).trans ((Below.heap_alloc _ _ _ (by omega)).trans h2))
  have hb2 : w.heap.size < W2.heap.size := by omega
  have HZ : Hid (W2.heap.size = w.heap.size + 2) := Lib.hid hs
  have hs3 : w.heap.size + 2 < w3.heap.size := by have h9 := hsz; rw [World.size_alloc] at h9; omega
  clear hrow hb3 hoth h1 h2 h3 hC hsz
  go_enter Try.func31, Try.ntmps31
  rw [hs] at hcp HR3
  have hcp1 := hcp 3
  clear hcp
  go_upto_region 3 with fail
  clear x0 x1 x2 x3 x4
  obtain ⟨x0, x1, x2, x3, x4⟩ := nv5 HX3.out
  obtain ⟨y0, y1, y2, y3, y4⟩ := nv5 HY3.out
  have fx : ∀ j, w3.frozen? ⟨w.heap.size, j, none⟩ = false := fun j => by simp [World.frozen?, HX3.out]
  have fy : ∀ j, w3.frozen? ⟨w.heap.size + 1, j, none⟩ = false := fun j => by simp [World.frozen?, HY3.out]
  go_wp2
  obtain ⟨p1, p2, p3, p4⟩ := clone_end HY3.out r (w.heap.size + 2)
  obtain ⟨u0, u1, u2, u3, u4⟩ := nv5 p1
  refine bodyPost_ret (v := fnV ⟨r.f, some ⟨w.heap.size + 2, 0, none⟩, r.f.code.length⟩) (by simp [results, Try.results31, go_sem, u0, u1, u2, u3, u4] <;> rfl) rfl ?_
  exact ⟨w.heap.size + 2, rfl, by omega, HR3.out.keep (p2 _ (by omega) (by omega)), HB3.out.trans (p3.mono (Nat.le_refl _))⟩

end Go.Proofs.Ytgnpbodhjmappaa
