/-
  doppellaw10's Swapped: a unit with other functions in the place of its own.
-/
import Derived.Test.YtbalbdhbmcdbaaaPR7Find
import Derived.Test.YtbalbdhbmcdbaaaPLA
import Derived.Deep.AppendLies
import Derived.Deep.RegionLaw
import Derived.Deep.RegionWith
import Derived.Deep.CutRange
import Derived.Maps.AppendAt
import Derived.Test.YtbalbdhbmcdbaaaPLM
import Derived.Test.YtbalbdhbmcdbaaaPME
import Derived.Test.YtbalbdhbmcdbaaaPR7RightU
import Derived.Test.YtbalbdhbmcdbaaaPR7Few2
import Derived.Test.YtbalbdhbmcdbaaaPR7Result
set_option linter.unusedVariables false
set_option linter.unusedSimpArgs false
namespace Go.Proofs.Ytbalbdhbmcdbaaa
set_option maxRecDepth 100000
open Go.RowKit Cd Go.Maps
def SwF (x : Fnc) (V : World) (e : Ending) (V' : World) : Prop := ∃ cg cc, e = .returned (fnV ⟨x, some ⟨cg, 0, none⟩, cc⟩) ∧ V.heap.size ≤ cg ∧ cg < V'.heap.size ∧ (∀ (j : Nat) (u : Value), (x.code.flatMap inCells)[j]? = some u → V'.cell? ⟨cg, j, none⟩ = some u) ∧ Below V.heap.size V V'
abbrev unZ : Obj := .cells #[.slice none 0 0, .slice none 0 0, .int .i64 0] 46
abbrev unB (U : UnR) (v : Value) : Obj := .cells #[v, .slice U.ga U.gs.length U.gc, .int .i64 U.top] 46
theorem infoFnS : (Try.prog.info? 24).map (fun i => (i.zero, i.size, i.bytes)) = some (some (.agg #[.string ⟨#[]⟩, .int .i64 0, .int .i64 0, .int .i64 0, .slice none 0 0]), 5, 64) := by kernel_rfl
theorem info_parts' {e : TypeId} {z : Value} {size bytes : Nat} (h : (Try.prog.info? e).map (fun i => (i.zero, i.size, i.bytes)) = some (some z, size, bytes)) : ∃ i, Try.prog.info? e = some i ∧ i.zero = some z ∧ i.size = size ∧ i.bytes = bytes := by
  cases hi : Try.prog.info? e with
  | none => rw [hi] at h; simp at h
  | some i =>
    rw [hi] at h
    simp only [Option.map_some, Option.some.injEq, Prod.mk.injEq] at h
    exact ⟨i, rfl, h.1, h.2.1, h.2.2⟩
theorem heap_othS {w : World} {b j k : Nat} {u : Value} (h : k ≠ b) : (w.setCell ⟨b, j, none⟩ u).heap[k]? = w.heap[k]? := Below.heap_setCell _ _ _ _ (by simpa using h)
def CdAway (w : World) (lo : Nat) (q : Option Nat) (r : FnR) : Prop := ∃ cg, r.ca = some ⟨cg, 0, none⟩ ∧ lo ≤ cg ∧ cg < w.heap.size ∧ q ≠ some cg ∧ ∀ (j : Nat) (u : Value), (r.f.code.flatMap inCells)[j]? = some u → w.cell? ⟨cg, j, none⟩ = some u
theorem CdAway.keep {w w' : World} {lo : Nat} {q q' : Option Nat} {r : FnR} (h : CdAway w lo q r) (hs : w.heap.size ≤ w'.heap.size) (hb : ∀ g, g < w.heap.size → q ≠ some g → w'.heap[g]? = w.heap[g]?) (hq : ∀ g, g < w.heap.size → q ≠ some g → q' ≠ some g) : CdAway w' lo q' r := by
  obtain ⟨cg, h1, h0, h2, h3, h4⟩ := h
  exact ⟨cg, h1, h0, by omega, hq cg h2 h3, fun j u hu => (World.cell?_of_block (w := w) (hb cg h2 h3)).trans (h4 j u hu)⟩
theorem CdAway.at {w : World} {lo : Nat} {q : Option Nat} {r : FnR} (h : CdAway w lo q r) : CodeAt w w.heap.size r := fun _ => by
  obtain ⟨cg, h1, _, h2, h3, h4⟩ := h
  exact ⟨cg, 0, h1, h2, Nat.le_refl _, fun j u hu => by rw [Nat.zero_add]; exact h4 j u hu⟩
structure SwSt (w0 w : World) (U : UnR) (hh : Fnc → Fnc) (k : Nat) (rs : List FnR) (v : Value) : Prop where
  ub : w.heap[w0.heap.size]? = some (unO U)
  rb : ∃ y0 y1 y2 : Value, w.heap[w0.heap.size + 1]? = some (.cells #[y0, y1, y2] 46)
  vb : w.heap[w0.heap.size + 1 + 1]? = some (unB U v)
  own : w.ownsRow (w0.heap.size + 3) 24 5 v k (rs.flatMap fnCells)
  code : ∀ r ∈ rs, CdAway w (w0.heap.size + 3) v.ownBlock r
  fns : rs.map (·.f) = (U.fns.take k).map hh
  hb : Below w0.heap.size w0 w
theorem SwSt.lt {w0 w : World} {U : UnR} {hh : Fnc → Fnc} {k : Nat} {rs : List FnR} {v : Value} (h : SwSt w0 w U hh k rs v) : w0.heap.size + 3 ≤ w.heap.size := by have := lt_heap h.vb; omega
theorem SwSt.below {w0 w w' : World} {U : UnR} {hh : Fnc → Fnc} {k : Nat} {rs : List FnR} {v : Value} (h : SwSt w0 w U hh k rs v) (hb : Below w.heap.size w w') : SwSt w0 w' U hh k rs v := by
  have := h.lt
  exact ⟨(hb.block _ (by omega)).trans h.ub, (by obtain ⟨y0, y1, y2, hy⟩ := h.rb; exact ⟨y0, y1, y2, (hb.block _ (by omega)).trans hy⟩), (hb.block _ (by omega)).trans h.vb, own_keep h.own (fun g hg => hb.block g (h.own.lt g hg).2), fun r hr => (h.code r hr).keep hb.size (fun g hg _ => hb.block g hg) (fun _ _ h => h), h.fns, h.hb.trans (hb.mono (by omega))⟩
theorem SwSt.next {w0 w w2 w3 : World} {U : UnR} {hh : Fnc → Fnc} {k : Nat} {rs : List FnR} {v : Value} (h : SwSt w0 w U hh k rs v) {r : FnR} (hk : U.fs[k]? = some r) {r' : FnR} (hf : r'.f = hh r.f)
    (hb : Below w.heap.size w w2) (hc : ∃ cg, r'.ca = some ⟨cg, 0, none⟩ ∧ w.heap.size ≤ cg ∧ cg < w2.heap.size ∧ ∀ (j : Nat) (u : Value), (r'.f.code.flatMap inCells)[j]? = some u → w2.cell? ⟨cg, j, none⟩ = some u)
    {g cap : Nat} (hown : w3.ownsRow (w0.heap.size + 3) 24 5 (.slice (some ⟨g, 0, none⟩) (k + 1) cap) (k + 1) (rs.flatMap fnCells ++ fnCells r')) (hgr : w2.grownBy w3 v.ownBlock) (hat : v.ownBlock = some g ∨ g = w2.heap.size) :
    SwSt w0 (w3.setCell ⟨w0.heap.size + 1 + 1, 0, none⟩ (.slice (some ⟨g, 0, none⟩) (k + 1) cap)) U hh (k + 1) (rs ++ [r']) (.slice (some ⟨g, 0, none⟩) (k + 1) cap) := by
  have h2 := h.below hb
  have hl := h2.lt
  have hvo : ∀ q, v.ownBlock = some q → w0.heap.size + 3 ≤ q ∧ q < w2.heap.size := fun q hq => h2.own.lt q hq
  have hvw : ∀ q, v.ownBlock = some q → q < w.heap.size := fun q hq => (h.own.lt q hq).2
  have hgg : w0.heap.size + 3 ≤ g := (hown.lt g rfl).1
  have key : ∀ b, b < w2.heap.size → v.ownBlock ≠ some b → w3.heap[b]? = w2.heap[b]? := fun b hb hne => hgr.block b hb (fun e => hne e.symm)
  have hne : ∀ b, b < w0.heap.size + 3 → v.ownBlock ≠ some b := fun b hb e => by have := (hvo b e).1; omega
  have hvb3 := (key _ (by omega) (hne (w0.heap.size + 1 + 1) (by omega))).trans h2.vb
  have hs3 := hgr.size
  refine ⟨?_, ?_, ?_, ?_, fun x hx => ?_, ?_, ?_⟩
  · exact (heap_othS (by omega)).trans ((key _ (by omega) (hne _ (by omega))).trans h2.ub)
  · obtain ⟨y0, y1, y2, hy⟩ := h2.rb
    exact ⟨y0, y1, y2, (heap_othS (by omega)).trans ((key _ (by omega) (hne _ (by omega))).trans hy)⟩
  · have := cells_set hvb3 0 (.slice (some ⟨g, 0, none⟩) (k + 1) cap)
    simpa using this
  · rw [List.flatMap_append, List.flatMap_cons, List.flatMap_nil, List.append_nil]
    exact own_keep hown (fun q hq => heap_othS (by have := (hown.lt q hq).1; omega))
  · have hcx : CdAway w3 (w0.heap.size + 3) (some g) x := by
      rcases List.mem_append.1 hx with hx | hx
      · exact (h2.code x hx).keep hs3 key (fun b hb hnb e => by
          injection e with e
          subst e
          rcases hat with e2 | e2
          · exact hnb e2
          · omega)
      · rw [List.mem_singleton] at hx
        subst hx
        obtain ⟨cg, e1, e2, e3, e4⟩ := hc
        have hn : v.ownBlock ≠ some cg := fun e => by have := hvw cg e; omega
        have := h.lt
        refine ⟨cg, e1, by omega, by omega, fun e => ?_, fun j u hu => (World.cell?_of_block (w := w2) (key cg e3 hn)).trans (e4 j u hu)⟩
        injection e with e
        subst e
        rcases hat with e5 | e5
        · exact hn e5
        · omega
    obtain ⟨cg, e1, e0, e2, e3, e4⟩ := hcx
    refine ⟨cg, e1, e0, by simpa using e2, e3, fun j u hu => ?_⟩
    rw [World.cell?_setCell_other _ _ _ _ (by simp <;> omega)]
    exact e4 j u hu
  · rw [List.map_append, h.fns]
    have hk2 : U.fns[k]? = some r.f := by unfold UnR.fns; rw [List.getElem?_map, hk]; rfl
    rw [List.take_add_one, hk2]
    simp [hf]
  · exact ((h2.hb.grown hgr (by omega) (fun q hq => by have := (hvo q hq).1; omega))).setCell (by simp <;> omega) _
theorem SwSt.vb3 {w0 w2 w3 : World} {U : UnR} {hh : Fnc → Fnc} {k : Nat} {rs : List FnR} {v : Value} (h : SwSt w0 w2 U hh k rs v) (hgr : w2.grownBy w3 v.ownBlock) : w3.heap[w0.heap.size + 1 + 1]? = some (unB U v) :=
  (hgr.block _ (by have := h.lt; omega) (fun e => by have := (h.own.lt _ e.symm).1; omega)).trans h.vb
theorem set3 {w : World} {b : Nat} {x0 x1 x2 : Value} {t : TypeId} (h : w.heap[b]? = some (.cells #[x0, x1, x2] t (0, 0))) (y0 y1 y2 : Value) : (((w.setCell ⟨b, 0, none⟩ y0).setCell ⟨b, 1, none⟩ y1).setCell ⟨b, 2, none⟩ y2).heap[b]? = some (.cells #[y0, y1, y2] t (0, 0)) := by
  have h1 := cells_set (cells_set (cells_set h 0 y0) 1 y1) 2 y2
  simpa using h1
theorem SwSt.res {w0 w : World} {U : UnR} {hh : Fnc → Fnc} {k : Nat} {rs : List FnR} {v : Value} (h : SwSt w0 w U hh k rs v) (u0 u1 u2 : Value) : SwSt w0 (((w.setCell ⟨w0.heap.size + 1, 0, none⟩ u0).setCell ⟨w0.heap.size + 1, 1, none⟩ u1).setCell ⟨w0.heap.size + 1, 2, none⟩ u2) U hh k rs v := by
  obtain ⟨y0, y1, y2, hy⟩ := h.rb
  have ho : ∀ b, b ≠ w0.heap.size + 1 → (((w.setCell ⟨w0.heap.size + 1, 0, none⟩ u0).setCell ⟨w0.heap.size + 1, 1, none⟩ u1).setCell ⟨w0.heap.size + 1, 2, none⟩ u2).heap[b]? = w.heap[b]? := fun b hb => (heap_othS hb).trans ((heap_othS hb).trans (heap_othS hb))
  refine ⟨(ho _ (by omega)).trans h.ub, ⟨u0, u1, u2, set3 hy u0 u1 u2⟩, (ho _ (by omega)).trans h.vb, own_keep h.own (fun g hg => ho g (by have := (h.own.lt g hg).1; omega)), fun r hr => ?_, h.fns, ((h.hb.setCell (by simp <;> omega) _).setCell (by simp <;> omega) _).setCell (by simp <;> omega) _⟩
  obtain ⟨cg, e1, e0, e2, e3, e4⟩ := h.code r hr
  exact ⟨cg, e1, e0, by simpa using e2, e3, fun j u hu => (World.cell?_of_block (w := w) (ho cg (by omega))).trans (e4 j u hu)⟩
def SwPost (hh : Fnc → Fnc) (U : UnR) (w : World) (e : Ending) (w' : World) : Prop := ∃ V : UnR, e = .returned (unV V) ∧ V.un = ⟨U.fns.map hh, U.gs, U.top⟩ ∧ UnAt w' w'.heap.size V ∧ Below w.heap.size w w'
theorem SwSt.post {w0 w : World} {U : UnR} {hh : Fnc → Fnc} {k : Nat} {rs : List FnR} {v : Value} (h : SwSt w0 w U hh k rs v) (hU : UnAt w0 w0.heap.size U) (hk : k = U.fs.length) (hl : ∀ x ∈ U.fs, (hh x.f).code.length ≤ maxLen) : ∃ V : UnR, unV V = .agg #[v, .slice U.ga U.gs.length U.gc, .int .i64 U.top] ∧ V.un = ⟨U.fns.map hh, U.gs, U.top⟩ ∧ UnAt w w.heap.size V := by
  subst hk
  have hf := h.fns
  have hlr : rs.length = U.fs.length := by
    have := congrArg List.length hf
    unfold UnR.fns at this
    simpa using this
  obtain ⟨a, c, rfl⟩ := row_slice h.own
  have hf2 : rs.map (·.f) = U.fns.map hh := by
    rw [hf]
    congr 1
    exact List.take_of_length_le (by unfold UnR.fns; simp)
  have hU2 := hU.below h.hb
  have h3 := h.lt
  refine ⟨⟨rs, a, c, U.gs, U.ga, U.gc, U.top⟩, by simp only [unV]; rw [hlr], by unfold UnR.un UnR.fns; rw [hf2]; rfl, ⟨?_, RowAt.mono hU2.gs (by omega) (Nat.le_refl _), fun r hr => (h.code r hr).at, by rw [hlr]; exact hU.lf, hU.lg, fun r hr => ?_⟩⟩
  · intro h0
    rcases h.own.2 with ⟨_, h5⟩ | ⟨g, cap, cur, h4, h5, h6, h7, h8, h9, h10⟩
    · have h0' : 0 < (rs.flatMap fnCells).length := h0
      rw [flat_len fnCells_len] at h0'; omega
    · injection h4 with h4 _ _
      refine ⟨g, 0, h4, lt_heap h6, Nat.le_refl _, fun j u hu => ?_⟩
      rw [Nat.zero_add, cell_of_row w g _ _ _ _ h6]
      rw [← h10] at hu
      have hj := (List.getElem?_eq_some_iff.1 hu).1
      rw [List.length_take] at hj
      rw [List.getElem?_take_of_lt (by omega)] at hu
      simpa using hu
  · have hm : r.f ∈ rs.map (·.f) := List.mem_map_of_mem hr
    rw [hf2] at hm
    obtain ⟨g, hg, e⟩ := List.mem_map.1 hm
    obtain ⟨x, hx, rfl⟩ := List.mem_map.1 hg
    rw [← e]
    exact hl x hx
end Go.Proofs.Ytbalbdhbmcdbaaa
namespace Go.Proofs.Ytbalbdhbmcdbaaa
set_option maxRecDepth 100000
open Go.RowKit Cd Go.Maps
set_option maxHeartbeats 8000000 in
theorem swapped_v (hh : Fnc → Fnc) (fs : List FnR) (fa : Option Addr) (fc : Nat) (gs : List Glo) (ga : Option Addr) (gc : Nat) (top : Int) (w : World) (hU : UnAt w w.heap.size ⟨fs, fa, fc, gs, ga, gc, top⟩) (hl : fs.length ≤ 1000)
    (HF : ∀ r ∈ fs, ∀ V, CodeAt V V.heap.size r → Calls Try.prog 52 #[fnV r] V (SwF (hh r.f) V)) (hlen : ∀ x ∈ fs, (hh x.f).code.length ≤ maxLen) :
    Calls Try.prog 38 #[unV ⟨fs, fa, fc, gs, ga, gc, top⟩, .func (.func 52) #[] #[]] w (SwPost hh ⟨fs, fa, fc, gs, ga, gc, top⟩ w) := by
  have HU := Lib.hid hU
  have HFF := Lib.hid HF
  have HLN := Lib.hid hlen
  obtain ⟨i0, hi0, hz0, hz1, hz2⟩ := info_parts' infoFnS
  have HS0 : Hid (SwSt w (((w.alloc (unO ⟨fs, fa, fc, gs, ga, gc, top⟩)).alloc unZ).alloc (unB ⟨fs, fa, fc, gs, ga, gc, top⟩ (.slice none 0 0))) ⟨fs, fa, fc, gs, ga, gc, top⟩ hh 0 [] (.slice none 0 0)) := Lib.hid (by
    obtain ⟨h1, h2, h3, h4, _⟩ := three_new w (unO ⟨fs, fa, fc, gs, ga, gc, top⟩) unZ (unB ⟨fs, fa, fc, gs, ga, gc, top⟩ (.slice none 0 0))
    exact ⟨h1, ⟨_, _, _, h2⟩, h3, ⟨rfl, .inl ⟨rfl, rfl⟩⟩, fun r hr => (by cases hr), rfl, h4⟩)
  clear hU HF hlen
  go_enter Try.func38, Try.ntmps38
  go_wp2
  go_loopw [13] (fun s13 wr => ∃ (k : Nat) (rs : List FnR) (v : Value), k ≤ fs.length ∧ s13 = .int .i64 (k : Int) ∧ Hid (SwSt w wr ⟨fs, fa, fc, gs, ga, gc, top⟩ hh k rs v)) (fun s13 wr => fs.length - (intOf s13).toNat)
  case atStart => exact ⟨0, [], _, by omega, rfl, HS0⟩
  case round =>
    obtain ⟨k, rs, v, hk, rfl, HS⟩ := hrel
    have k0 : (0 : Int) ≤ (k : Int) := Int.natCast_nonneg _
    by_cases hlt : k < fs.length
    · have k1 : (k : Int) < (fs.length : Int) := by omega
      obtain ⟨r, hr⟩ : ∃ r, fs[k]? = some r := ⟨_, List.getElem?_eq_getElem hlt⟩
      obtain ⟨b, off, e9, hb0, hb1, c0, c1, c2, c3, c4⟩ := UnAt.fn (HU.out.below HS.out.hb) hr
      have e9' : fa = some ⟨b, off, none⟩ := e9
      subst e9'
      have HC := Lib.hid (HFF.out r (List.mem_of_getElem? hr))
      have HCA := Lib.hid (HU.out.code r (List.mem_of_getElem? hr))
      have hwl : b < wr.heap.size := by omega
      have HK := Lib.hid hr; have HLT := Lib.hid hlt
      obtain ⟨va, vc, rfl⟩ := row_slice HS.out.own
      clear hr hlt hb0 hb1 e9
      go_upto_region 6 with fail
      have hba : Below wr.heap.size wr (wr.alloc (fnO r)) := (Below.refl _ _).alloc (Nat.le_refl _) _
      have HS5 := Lib.hid (HS.out.below hba)
      have HX5 : Hid ((wr.alloc (fnO r)).heap[wr.heap.size]? = some (fnO r)) := Lib.hid (heap_alloc_new _ _)
      clear hba c0 c1 c2 c3 c4 HS hwl
      generalize wr.alloc (fnO r) = w5 at *
      generalize wr.heap.size = X at *
      have HSD : Hid (SwSt w w5.drew ⟨fs, some ⟨b, off, none⟩, fc, gs, ga, gc, top⟩ hh k rs (.slice va k vc)) := Lib.hid ⟨HS5.out.ub, HS5.out.rb, HS5.out.vb, HS5.out.own, HS5.out.code, HS5.out.fns, drW HS5.out.hb⟩
      have HCD : Hid (CodeAt w5.drew w5.drew.heap.size r) := Lib.hid (RowAt.mono (RowAt.below HCA.out HSD.out.hb) HSD.out.hb.size (Nat.le_refl _))
      obtain ⟨y0, y1, y2⟩ := nv3 HSD.out.vb
      simp only at y1 y2
      obtain ⟨x0, x1, x2, x3, x4⟩ := nv5 (show w5.drew.heap[X]? = some (fnO r) from HX5.out)
      go_region_law (first | (go_simp; go_at_call 52; (with_reducible refine (HC.out _ HCD.out).mono ?_); rintro e w6 ⟨cg, cc, rfl, h1, h2, h3, hb6⟩; have HS6 := Lib.hid (HSD.out.below hb6); have HN6 : Hid (∀ (W : World), Below w6.heap.size w6 W → cg < W.heap.size ∧ ∀ (j : Nat) (u : Value), ((hh r.f).code.flatMap inCells)[j]? = some u → W.cell? ⟨cg, j, none⟩ = some u) := Lib.hid (fun W hW => ⟨Nat.lt_of_lt_of_le h2 hW.size, fun j u hu => (hW.cell (p := ⟨cg, j, none⟩) h2).trans (h3 j u hu)⟩); have HG6 := Lib.hid h1; have HB6 := Lib.hid hb6; have hl6 : w.heap.size + 1 + 1 < w6.heap.size := (by have := HS6.out.lt; omega); clear h1 h2 h3 hb6 y0 y1 y2 x0 x1 x2 x3 x4; obtain ⟨y0, y1, y2⟩ := nv3 HS6.out.vb; simp only at y1 y2) | (refine step_append_lies _ (by rfl) (.tmp 18) (.tmp 22) 43 (by rfl) (w.heap.size + 3) 24 i0 _ 5 64 Try.underlying43 hi0 hz0 hz1 hz2 rfl (by decide) (.slice va k vc) k (rs.flatMap fnCells) (by rfl) (by exact HS6.out.own.alloc _) ⟨w6.heap.size, 0, none⟩ 1 1 (fnCells ⟨hh r.f, some ⟨cg, 0, none⟩, cc⟩) (by rfl) (by rfl) (by exact World.news_of_block (cs := (fnCells ⟨hh r.f, some ⟨cg, 0, none⟩, cc⟩).toArray) (heap_alloc_new w6 _)) (by simp [fnCells, Value.oneCell']) (by omega) (by unfold maxLen; omega) (by omega) (by have := HS6.out.lt; simp <;> omega) (w6.heap.size + 1) (by simp) ?_; intro g3 cap3 w3 hown3 hgrow hat hlt3; have hbn := (Below.refl w6.heap.size w6).alloc (Nat.le_refl _) (.cells (fnCells ⟨hh r.f, some ⟨cg, 0, none⟩, cc⟩).toArray 24); have HNS := Lib.hid (SwSt.next (r' := ⟨hh r.f, some ⟨cg, 0, none⟩, cc⟩) HSD.out HK.out rfl (HB6.out.trans (hbn.mono HB6.out.size)) ⟨cg, rfl, HG6.out, (HN6.out _ hbn).1, (HN6.out _ hbn).2⟩ hown3 hgrow (hat.imp id (fun e => by rw [e]; simp))); have hv3 := SwSt.vb3 (HS6.out.below hbn) hgrow; obtain ⟨t0, t1, t2⟩ := nv3 hv3; have hfr3 : w3.frozen? ⟨w.heap.size + 1 + 1, 0, none⟩ = false := (by simp only [World.frozen?, hv3]; simp); clear hown3 hgrow hat hbn hv3))
      all_goals
        (go_wp2
         go_roundw
         case rel => exact ⟨k + 1, _, _, HLT.out, by go_num, HNS⟩
         case measure => have := HLT.out; simp [intOf]; omega)
    · obtain rfl : k = fs.length := by omega
      obtain ⟨va, vc, rfl⟩ := row_slice HS.out.own
      obtain ⟨V, hV, hun, hat⟩ := (HS.out.res (.slice va fs.length vc) (.slice ga gs.length gc) (.int .i64 top)).post HU.out rfl HLN.out
      obtain ⟨r0, r1, r2, hrb⟩ := HS.out.rb
      obtain ⟨y0, y1, y2⟩ := nv3 HS.out.vb
      simp only at y1 y2
      obtain ⟨z0, z1, z2⟩ := nv3 hrb
      have hfr : ∀ j, wr.frozen? ⟨w.heap.size + 1, j, none⟩ = false := fun j => by simp [World.frozen?, hrb]
      have HV := Lib.hid hV
      go_wp2
      have hz := set3 hrb (.slice va fs.length vc) (.slice ga gs.length gc) (.int .i64 top)
      obtain ⟨u0, u1, u2⟩ := nv3 hz
      have hbz : Below w.heap.size wr (((wr.setCell ⟨w.heap.size + 1, 0, none⟩ (.slice va fs.length vc)).setCell ⟨w.heap.size + 1, 1, none⟩ (.slice ga gs.length gc)).setCell ⟨w.heap.size + 1, 2, none⟩ (.int .i64 top)) := (((Below.refl _ _).setCell (by simp <;> omega) _).setCell (by simp <;> omega) _).setCell (by simp <;> omega) _
      refine bodyPost_ret (v := unV V) (by simp [results, Try.results38, go_sem, u0, u1, u2, hV] <;> rfl) rfl ⟨V, rfl, hun, hat, HS.out.hb.trans hbz⟩
theorem swapped_c (hh : Fnc → Fnc) (U : UnR) (w : World) (hU : UnAt w w.heap.size U) (hl : U.fs.length ≤ 1000) (HF : ∀ r ∈ U.fs, ∀ V, CodeAt V V.heap.size r → Calls Try.prog 52 #[fnV r] V (SwF (hh r.f) V)) (hlen : ∀ x ∈ U.fs, (hh x.f).code.length ≤ maxLen) :
    Calls Try.prog 38 #[unV U, .func (.func 52) #[] #[]] w (SwPost hh U w) := swapped_v hh U.fs U.fa U.fc U.gs U.ga U.gc U.top w hU hl HF hlen
end Go.Proofs.Ytbalbdhbmcdbaaa
namespace Go.Proofs.Ytbalbdhbmcdbaaa
set_option maxRecDepth 100000
open Go.RowKit Cd
set_option maxHeartbeats 4000000 in
theorem fold_clo {r : FnR} {x : Fnc} {n : Nat} (w : World) (hC : CodeAt w w.heap.size r) (hF : ∀ V, CodeAt V V.heap.size r → Calls Try.prog 51 #[fnV r] V (FoPost x n V)) : Calls Try.prog 52 #[fnV r] w (SwF x w) := by
  have HF := Lib.hid hF
  have HC := Lib.hid hC
  obtain ⟨W, hW⟩ : ∃ W, (w.alloc (fnO r)).alloc (.cells #[.string ⟨#[]⟩, .int .i64 0, .int .i64 0, .int .i64 0, .slice none 0 0] 24) = W := ⟨_, rfl⟩
  obtain ⟨h1, h2, h3, hs⟩ := two_new w (fnO r) (.cells #[.string ⟨#[]⟩, .int .i64 0, .int .i64 0, .int .i64 0, .slice none 0 0] 24)
  rw [hW] at h1 h2 h3
  have H1 := Lib.hid h1; have H2 := Lib.hid h2; have H3 := Lib.hid h3
  have HCW : Hid (CodeAt W W.heap.size r) := Lib.hid (RowAt.mono (RowAt.below hC h3) h3.size (Nat.le_refl _))
  obtain ⟨x0, x1, x2, x3, x4⟩ := nv5 h1
  clear h1 h2 h3 hs hF hC
  go_enter Try.func52, Try.ntmps52
  go_upto_region 2 with ((with_reducible refine (HF.out _ HCW.out).mono ?_); rintro e w1 ⟨cg, rfl, hg, hrow, hb1⟩; have HG := Lib.hid hg; have HRW := Lib.hid hrow; have HB1 := Lib.hid hb1; clear hg hrow hb1 x0 x1 x2 x3 x4)
  have hba : Below w1.heap.size w1 (w1.alloc (fnO ⟨x, some ⟨cg, 0, none⟩, x.code.length⟩)) := (Below.refl _ _).alloc (Nat.le_refl _) _
  obtain ⟨y0, y1, y2, y3, y4⟩ := nv5 (show (w1.alloc (fnO ⟨x, some ⟨cg, 0, none⟩, x.code.length⟩)).heap[w1.heap.size]? = some (fnO ⟨x, some ⟨cg, 0, none⟩, x.code.length⟩) from heap_alloc_new _ _)
  have h2a : Hid ((w1.alloc (fnO ⟨x, some ⟨cg, 0, none⟩, x.code.length⟩)).heap[w.heap.size + 1]? = some (.cells #[.string (sb []), .int .i64 0, .int .i64 0, .int .i64 0, .slice none 0 0] 24)) := Lib.hid ((hba.block _ (Nat.lt_of_lt_of_le (lt_heap H2.out) HB1.out.size)).trans ((HB1.out.block _ (lt_heap H2.out)).trans H2.out))
  have HR2 : Hid (InsRow (w1.alloc (fnO ⟨x, some ⟨cg, 0, none⟩, x.code.length⟩)) cg x.code) := Lib.hid ((hba.block _ HRW.out.lt).trans HRW.out)
  have HB2 : Hid (Below w.heap.size w (w1.alloc (fnO ⟨x, some ⟨cg, 0, none⟩, x.code.length⟩))) := Lib.hid (H3.out.trans ((HB1.out.mono H3.out.size).trans (hba.mono (Nat.le_trans H3.out.size HB1.out.size))))
  have hlt2 : w.heap.size + 1 < (w1.alloc (fnO ⟨x, some ⟨cg, 0, none⟩, x.code.length⟩)).heap.size := Nat.lt_of_lt_of_le (Nat.lt_of_lt_of_le (lt_heap H2.out) HB1.out.size) hba.size
  have HGL : Hid (w.heap.size + 1 < cg) := Lib.hid (Nat.lt_of_lt_of_le (lt_heap H2.out) HG.out)
  clear hba
  generalize w1.alloc (fnO ⟨x, some ⟨cg, 0, none⟩, x.code.length⟩) = w2 at *
  generalize w1.heap.size = G at *
  obtain ⟨z0, z1, z2, z3, z4⟩ := nv5 h2a.out
  have hfr : ∀ j, w2.frozen? ⟨w.heap.size + 1, j, none⟩ = false := fun j => by simp [World.frozen?, h2a.out]
  simp only at y0 y1 y2 y3 y4
  go_wp2
  have hh := clone_end2 h2a.out ⟨x, some ⟨cg, 0, none⟩, x.code.length⟩ cg
  obtain ⟨p1, p2, p3⟩ := hh
  obtain ⟨u0, u1, u2, u3, u4⟩ := nv5 p1
  have hgl := HGL.out
  refine bodyPost_ret (v := fnV ⟨x, some ⟨cg, 0, none⟩, x.code.length⟩) (by simp [results, Try.results52, go_sem, u0, u1, u2, u3, u4] <;> rfl) rfl ?_
  refine ⟨cg, _, rfl, by omega, ?_, fun j u hu => ?_, HB2.out.trans (p3.mono (by omega))⟩
  · have := lt_heap (show _ = some _ from (p2 cg (by omega)).trans HR2.out); exact this
  · rw [cell_of_row _ cg _ _ _ _ ((p2 cg (by omega)).trans HR2.out)]
    simpa using hu
theorem bytes_ofS {w : World} {B n c : Nat} {a : Option Addr} {l : List UInt8} (h : w.ownsRow B 5 1 (.slice a n c) n (u8s l)) : BytesAt w a l ∧ n ≤ maxLen := by
  rcases h.2 with ⟨h1, h2⟩ | ⟨g, cap, cur, h4, h5, h6, h7, h8, h9, h10⟩
  · have h0 := h.1
    refine ⟨fun hp => ?_, by rw [h2]; exact Nat.zero_le _⟩
    have : (u8s l).length = l.length := by simp [u8s]
    rw [List.length_map] at hp
    omega
  · injection h4 with h4 _ h12
    refine ⟨fun hp => ⟨g, 0, h4, lt_heap h6, Nat.le_refl _, fun j u hu => ?_⟩, by omega⟩
    rw [Nat.zero_add, cell_of_row w g _ _ _ _ h6]
    have hu' : (u8s l)[j]? = some u := hu
    rw [← h10] at hu'
    have hj := (List.getElem?_eq_some_iff.1 hu').1
    rw [List.length_take] at hj
    rw [List.getElem?_take_of_lt (by omega)] at hu'
    simpa using hu'
theorem inAt_belowS {w w' : World} {v : Value} {l : List UInt8} (h : InAt w v l) (hb : Below w.heap.size w w') : InAt w' v l := by
  obtain ⟨a, c, h1, h2, h3, h4⟩ := h
  exact ⟨a, c, h1, h2, h3, RowAt.mono (h4.below hb) hb.size (Nat.le_refl _)⟩
theorem unAt_up {w w' : World} {U : UnR} (h : UnAt w w.heap.size U) (hb : Below w.heap.size w w') : UnAt w' w'.heap.size U :=
  ⟨RowAt.mono (h.fs.below hb) hb.size (Nat.le_refl _), RowAt.mono (h.gs.below hb) hb.size (Nat.le_refl _), fun r hr => RowAt.mono (RowAt.below (h.code r hr) hb) hb.size (Nat.le_refl _), h.lf, h.lg, h.lc⟩
structure DoSt (W w : World) (U V : UnR) (q : Nat) (iv : Value) (inp : List UInt8) : Prop where
  ub : w.heap[W.heap.size]? = some (unO U)
  vb : w.heap[q]? = some (unO V)
  uu : UnAt w w.heap.size U
  vv : UnAt w w.heap.size V
  ii : InAt w iv inp
  hb : Below W.heap.size W w
theorem DoSt.below {W w w' : World} {U V : UnR} {q : Nat} {iv : Value} {inp : List UInt8} (h : DoSt W w U V q iv inp) (hb : Below w.heap.size w w') : DoSt W w' U V q iv inp :=
  ⟨(hb.block _ (lt_heap h.ub)).trans h.ub, (hb.block _ (lt_heap h.vb)).trans h.vb, unAt_up h.uu hb, unAt_up h.vv hb, inAt_belowS h.ii hb, h.hb.trans (hb.mono (Nat.le_of_lt (lt_heap h.ub)))⟩
theorem DoSt.drew {W w : World} {U V : UnR} {q : Nat} {iv : Value} {inp : List UInt8} (h : DoSt W w U V q iv inp) : DoSt W w.drew U V q iv inp :=
  ⟨h.ub, h.vb, ⟨h.uu.fs, h.uu.gs, h.uu.code, h.uu.lf, h.uu.lg, h.uu.lc⟩, ⟨h.vv.fs, h.vv.gs, h.vv.code, h.vv.lf, h.vv.lg, h.vv.lc⟩, h.ii, drW h.hb⟩
theorem same_self (x : Rsu) : sameR x x = true := by unfold sameR; simp
theorem zip_fold (SS : Fnc → List (List Val)) : ∀ l : List Fnc, List.zipWith foldF (l.map SS) l = l.map (fun g => foldF (SS g) g)
  | [] => rfl
  | x :: l => by simp [zip_fold SS l]
theorem few_parts {u : Uni} (h : fewB u = true) : u.funcs.length ≤ 6 ∧ ∀ f ∈ u.funcs, smallB f = true := by
  unfold fewB at h
  simp only [Bool.and_eq_true, decide_eq_true_eq, List.all_eq_true] at h
  exact ⟨h.1.1.1, h.1.2⟩
set_option maxHeartbeats 8000000 in
theorem does_few (U : UnR) (ia : Option Addr) (inp : List UInt8) (ic : Nat) (fuel : Int) (W : World) (hU : UnAt W W.heap.size U) (hf : fewB U.un = false) : Calls Try.prog 13 #[unV U, .slice ia inp.length ic, .int .i64 fuel] W (RPost (.bool true) W) := by
  have HU := Lib.hid hU; have HF := Lib.hid hf
  have HW0 := Lib.hid ((Below.refl _ W).alloc (Nat.le_refl _) (unO U))
  clear hU hf
  go_enter Try.func13, Try.ntmps13
  go_wp2_with (first | ((with_reducible refine (few_any U false W.heap.size _ (HU.out.below HW0.out) (by simp) HF.out).mono ?_); rintro e w1 ⟨rfl, hb1⟩; have HB1 := Lib.hid (HW0.out.trans (hb1.mono (by simp))); have G1 := Lib.hid ((hb1.block W.heap.size (by simp)).trans (heap_alloc_new W (unO U))); obtain ⟨d0, d1, d2⟩ := nv3 G1.out; clear hb1) | ((with_reducible refine (awake11_any _).mono ?_); rintro e wv ⟨rfl, hbv⟩; have HBV := Lib.hid hbv; clear hbv))
  go_ret
  exact ⟨rfl, HB1.out.trans (HBV.out.mono HB1.out.size)⟩
set_option maxHeartbeats 8000000 in
theorem does_long (U : UnR) (ia : Option Addr) (inp : List UInt8) (ic : Nat) (fuel : Int) (W : World) (hU : UnAt W W.heap.size U) (hf : fewB U.un = true) (h1 : 200 < inp.length) : Calls Try.prog 13 #[unV U, .slice ia inp.length ic, .int .i64 fuel] W (RPost (.bool true) W) := by
  have HU := Lib.hid hU; have HF := Lib.hid hf
  have HW0 := Lib.hid ((Below.refl _ W).alloc (Nat.le_refl _) (unO U))
  have t2 : decide ((inp.length : Int) > 200) = true := by rw [decide_eq_true_eq]; omega
  have t3 : decide ((200 : Int) < (inp.length : Int)) = true := t2
  clear hU hf h1
  go_enter Try.func13, Try.ntmps13
  go_wp2_with (first | ((with_reducible refine (few_any U true W.heap.size _ (HU.out.below HW0.out) (by simp) HF.out).mono ?_); rintro e w1 ⟨rfl, hb1⟩; have HB1 := Lib.hid (HW0.out.trans (hb1.mono (by simp))); have G1 := Lib.hid ((hb1.block W.heap.size (by simp)).trans (heap_alloc_new W (unO U))); obtain ⟨d0, d1, d2⟩ := nv3 G1.out; clear hb1) | ((with_reducible refine (awake11_any _).mono ?_); rintro e wv ⟨rfl, hbv⟩; have HBV := Lib.hid hbv; clear hbv))
  go_ret
  exact ⟨rfl, HB1.out.trans (HBV.out.mono HB1.out.size)⟩
set_option maxHeartbeats 8000000 in
theorem does_much (U : UnR) (ia : Option Addr) (inp : List UInt8) (ic : Nat) (fuel : Int) (W : World) (hU : UnAt W W.heap.size U) (hf : fewB U.un = true) (h1 : inp.length ≤ 200) (h2 : 5000 < fuel) : Calls Try.prog 13 #[unV U, .slice ia inp.length ic, .int .i64 fuel] W (RPost (.bool true) W) := by
  have HU := Lib.hid hU; have HF := Lib.hid hf
  have HW0 := Lib.hid ((Below.refl _ W).alloc (Nat.le_refl _) (unO U))
  have t2 : decide ((inp.length : Int) > 200) = false := by rw [decide_eq_false_iff_not]; omega
  have t3 : decide ((200 : Int) < (inp.length : Int)) = false := t2
  have t5 : decide (fuel > (5000 : Int)) = true := by rw [decide_eq_true_eq]; omega
  have t6 : decide ((5000 : Int) < fuel) = true := t5
  clear hU hf h1 h2
  go_enter Try.func13, Try.ntmps13
  go_wp2_with (first | ((with_reducible refine (few_any U true W.heap.size _ (HU.out.below HW0.out) (by simp) HF.out).mono ?_); rintro e w1 ⟨rfl, hb1⟩; have HB1 := Lib.hid (HW0.out.trans (hb1.mono (by simp))); have G1 := Lib.hid ((hb1.block W.heap.size (by simp)).trans (heap_alloc_new W (unO U))); obtain ⟨d0, d1, d2⟩ := nv3 G1.out; clear hb1) | ((with_reducible refine (awake11_any _).mono ?_); rintro e wv ⟨rfl, hbv⟩; have HBV := Lib.hid hbv; clear hbv))
  go_ret
  exact ⟨rfl, HB1.out.trans (HBV.out.mono HB1.out.size)⟩
set_option maxHeartbeats 8000000 in
theorem does_wrong (U : UnR) (ia : Option Addr) (inp : List UInt8) (ic : Nat) (fuel : Int) (W : World) (hU : UnAt W W.heap.size U) (hf : fewB U.un = true) (h1 : inp.length ≤ 200) (h2 : fuel ≤ 5000) (hr : rightU U.un = false) : Calls Try.prog 13 #[unV U, .slice ia inp.length ic, .int .i64 fuel] W (RPost (.bool true) W) := by
  have HU := Lib.hid hU; have HF := Lib.hid hf
  have HW0 := Lib.hid ((Below.refl _ W).alloc (Nat.le_refl _) (unO U))
  have t2 : decide ((inp.length : Int) > 200) = false := by rw [decide_eq_false_iff_not]; omega
  have t3 : decide ((200 : Int) < (inp.length : Int)) = false := t2
  have t5 : decide (fuel > (5000 : Int)) = false := by rw [decide_eq_false_iff_not]; omega
  have t6 : decide ((5000 : Int) < fuel) = false := t5
  have HRU : Hid (∀ w, W.heap.size ≤ w.heap.size → UnAt w W.heap.size U → Calls Try.prog 37 #[unV U] w (RPost (.bool false) w)) := Lib.hid (fun w hs h => hr ▸ rightU_any U W.heap.size w h hs)
  clear hU hf h1 h2 hr
  go_enter Try.func13, Try.ntmps13
  go_wp2_with (first | ((with_reducible refine (few_any U true W.heap.size _ (HU.out.below HW0.out) (by simp) HF.out).mono ?_); rintro e w1 ⟨rfl, hb1⟩; have HB1 := Lib.hid (HW0.out.trans (hb1.mono (by simp))); have G1 := Lib.hid ((hb1.block W.heap.size (by simp)).trans (heap_alloc_new W (unO U))); obtain ⟨d0, d1, d2⟩ := nv3 G1.out; clear hb1) | ((with_reducible refine (HRU.out _ HB1.out.size (HU.out.below HB1.out)).mono ?_); rintro e w2 ⟨rfl, hb2⟩; have HB2 := Lib.hid (HB1.out.trans (hb2.mono HB1.out.size)); clear hb2) | ((with_reducible refine (awake11_any _).mono ?_); rintro e wv ⟨rfl, hbv⟩; have HBV := Lib.hid hbv; clear hbv))
  go_ret
  exact ⟨rfl, HB2.out.trans (HBV.out.mono HB2.out.size)⟩
theorem fold_unit {U : UnR} (hf : fewB U.un = true) (hr : rightU U.un = true) (hlc : ∀ r ∈ U.fs, r.f.code.length ≤ maxLen) : ∃ hh : Fnc → Fnc, (∀ r ∈ U.fs, (hh r.f).code.length ≤ maxLen ∧ ∀ V, CodeAt V V.heap.size r → Calls Try.prog 52 #[fnV r] V (SwF (hh r.f) V)) ∧ rightU ⟨U.fns.map hh, U.gs, U.top⟩ = true ∧ ∀ (inp : List UInt8) (fuel : Int), runU ⟨U.fns.map hh, U.gs, U.top⟩ inp fuel = runU U.un inp fuel := by
  obtain ⟨SS, hSS⟩ : ∃ SS : Fnc → List (List Val), ∀ g, RightF g → Sol g (SS g) := by
    have : ∀ g : Fnc, ∃ S, RightF g → Sol g S := fun g => by
      by_cases h : RightF g
      · obtain ⟨S, hS⟩ := sol_exists h
        exact ⟨S, fun _ => hS⟩
      · exact ⟨[], fun h' => absurd h' h⟩
    exact ⟨fun g => Classical.choose (this g), fun g => Classical.choose_spec (this g)⟩
  have hU := UniOk.of hr
  have hR : ∀ g ∈ U.fns, RightF g := fun g hg => by
    obtain ⟨k, hk⟩ := List.mem_iff_getElem?.1 hg
    exact hU.right k g hk
  have hz : List.zipWith foldF (U.fns.map SS) U.fns = U.fns.map (fun g => foldF (SS g) g) := zip_fold SS U.fns
  have hat : ∀ (k : Nat) (g : Fnc) (A : List (List Val)), U.un.funcs[k]? = some g → (U.fns.map SS)[k]? = some A → Sol g A := fun k g A hg hA => by
    have hg' : U.fns[k]? = some g := hg
    rw [List.getElem?_map, hg'] at hA
    injection hA with hA
    subst hA
    exact hSS g (hU.right k g hg)
  have hst : Stands U.un (List.zipWith foldF (U.fns.map SS) U.fns) := foldU_stands hr (by rw [List.length_map]; rfl) (fun k g A hg hA => .inr (hat k g A hg hA))
  have hr' := rightU_stands hst hr
  have hAll : AllV U.un (U.fns.map SS) := ⟨by rw [List.length_map]; rfl, hU.right, fun k g A hg hA => (hat k g A hg hA).solV⟩
  obtain ⟨_, hsm⟩ := few_parts hf
  refine ⟨fun g => foldF (SS g) g, fun r hr2 => ?_, ?_, fun inp fuel => ?_⟩
  · have hm : r.f ∈ U.fns := List.mem_map_of_mem hr2
    have hRr := hR _ hm
    obtain ⟨h1, h2⟩ := small_regs (hsm _ hm) hRr
    have h3 := hRr.regs
    have h4 := hRr.params
    refine ⟨by rw [foldF_len (hSS _ hRr).pre.len]; exact hlc r hr2, fun V hC => fold_clo V hC (fun V' hC' => fold_s ⟨hC', hlc r hr2⟩ hRr ?_ (hSS _ hRr))⟩
    exact Nat.le_trans (Nat.mul_le_mul h1 (show r.f.regs.toNat + 1 ≤ 41 by omega)) (by decide)
  · rw [← hz]; exact hr'
  · have := runU_fold hAll hU.calls hr (by show rightU ⟨List.zipWith foldF (U.fns.map SS) U.fns, U.gs, U.top⟩ = true; exact hr') inp fuel
    rw [← this]
    show runU ⟨U.fns.map (fun g => foldF (SS g) g), U.gs, U.top⟩ inp fuel = runU ⟨List.zipWith foldF (U.fns.map SS) U.fns, U.gs, U.top⟩ inp fuel
    rw [hz]
set_option maxHeartbeats 16000000 in
theorem does_yes (U : UnR) (ia : Option Addr) (inp : List UInt8) (ic : Nat) (fuel : Int) (W : World) (hU : UnAt W W.heap.size U) (hin : InAt W (.slice ia inp.length ic) inp) (hf : fewB U.un = true) (h1 : inp.length ≤ 200) (h2 : fuel ≤ 5000) (hr : rightU U.un = true) : Calls Try.prog 13 #[unV U, .slice ia inp.length ic, .int .i64 fuel] W (RPost (.bool true) W) := by
  have HU := Lib.hid hU; have HF := Lib.hid hf; have HIN := Lib.hid hin
  have HW0 := Lib.hid ((Below.refl _ W).alloc (Nat.le_refl _) (unO U))
  have t2 : decide ((inp.length : Int) > 200) = false := by rw [decide_eq_false_iff_not]; omega
  have t3 : decide ((200 : Int) < (inp.length : Int)) = false := t2
  have t5 : decide (fuel > (5000 : Int)) = false := by rw [decide_eq_false_iff_not]; omega
  have t6 : decide ((5000 : Int) < fuel) = false := t5
  have HRU : Hid (∀ w, W.heap.size ≤ w.heap.size → UnAt w W.heap.size U → Calls Try.prog 37 #[unV U] w (RPost (.bool true) w)) := Lib.hid (fun w hs h => hr ▸ rightU_any U W.heap.size w h hs)
  obtain ⟨hh, hh1, hh2, hh3⟩ := fold_unit hf hr hU.lc
  have hl6 := (few_parts hf).1
  have HSW : Hid (∀ V, UnAt V V.heap.size U → Calls Try.prog 38 #[unV U, .func (.func 52) #[] #[]] V (SwPost hh U V)) := Lib.hid (fun V hV => swapped_c hh U V hV (by have : U.fns.length ≤ 6 := hl6; unfold UnR.fns at this; rw [List.length_map] at this; omega) (fun r hr => (hh1 r hr).2) (fun r hr => (hh1 r hr).1))
  obtain ⟨x, hx⟩ : ∃ x, runU U.un inp fuel = x := ⟨_, rfl⟩
  have HRA : Hid (∀ w, UnAt w w.heap.size U → InAt w (.slice ia inp.length ic) inp → Calls Try.prog 54 #[unV U, .slice ia inp.length ic, .int .i64 fuel] w (RunPost x w)) := Lib.hid (fun w h hi => hx ▸ run_any U ia inp ic fuel w.heap.size w h (Nat.le_refl _) hi)
  have HVV : Hid (∀ V : UnR, V.un = ⟨U.fns.map hh, U.gs, U.top⟩ → (∀ w, UnAt w w.heap.size V → Calls Try.prog 37 #[unV V] w (RPost (.bool true) w)) ∧ ∀ w, UnAt w w.heap.size V → InAt w (.slice ia inp.length ic) inp → Calls Try.prog 54 #[unV V, .slice ia inp.length ic, .int .i64 fuel] w (RunPost x w)) := Lib.hid (fun V hV => by
    have e1 : rightU V.un = true := by rw [hV]; exact hh2
    have e2 : runU V.un inp fuel = x := by rw [hV, hh3, hx]
    exact ⟨fun w h => e1 ▸ rightU_any V w.heap.size w h (Nat.le_refl _), fun w h hi => e2 ▸ run_any V ia inp ic fuel w.heap.size w h (Nat.le_refl _) hi⟩)
  clear hU hf h1 h2 hr hin hh1 hh2 hh3 hl6 hx
  go_enter Try.func13, Try.ntmps13
  go_upto_region 4 with (first | ((with_reducible refine (few_any U true W.heap.size _ (HU.out.below HW0.out) (by simp) HF.out).mono ?_); rintro e w1 ⟨rfl, hb1⟩; have HB1 := Lib.hid (HW0.out.trans (hb1.mono (by simp))); have G1 := Lib.hid ((hb1.block W.heap.size (by simp)).trans (heap_alloc_new W (unO U))); obtain ⟨d0, d1, d2⟩ := nv3 G1.out; clear hb1) | ((with_reducible refine (HRU.out _ HB1.out.size (HU.out.below HB1.out)).mono ?_); rintro e w2 ⟨rfl, hb2⟩; have HB2 := Lib.hid (HB1.out.trans (hb2.mono HB1.out.size)); have G2 := Lib.hid ((hb2.block _ (lt_heap G1.out)).trans G1.out); have HU2 := Lib.hid (unAt_up HU.out HB2.out); clear hb2 d0 d1 d2; obtain ⟨d0, d1, d2⟩ := nv3 G2.out) | ((with_reducible refine (HSW.out _ HU2.out).mono ?_); rintro e w3 ⟨V, rfl, hun, hat, hb3⟩; have HVR := Lib.hid (HVV.out V hun); have HAT := Lib.hid hat; have HB3 := Lib.hid (HB2.out.trans (hb3.mono HB2.out.size)); have G3 := Lib.hid ((hb3.block _ (lt_heap G2.out)).trans G2.out); clear hb3 hun hat d0 d1 d2))
  have hba : Below w3.heap.size w3 (w3.alloc (unO V)) := (Below.refl _ _).alloc (Nat.le_refl _) _
  have HD : Hid (DoSt W (w3.alloc (unO V)) U V w3.heap.size (.slice ia inp.length ic) inp) := Lib.hid ⟨(hba.block _ (lt_heap G3.out)).trans G3.out, heap_alloc_new _ _, unAt_up (unAt_up HU.out HB3.out) hba, unAt_up HAT.out hba, inAt_belowS (inAt_belowS HIN.out HB3.out) hba, HB3.out.trans (hba.mono HB3.out.size)⟩
  clear hba
  generalize w3.alloc (unO V) = w4 at *
  generalize w3.heap.size = q at *
  have HD0 := Lib.hid HD.out.drew
  obtain ⟨x0, x1, x2⟩ := nv3 HD0.out.ub
  obtain ⟨y0, y1, y2⟩ := nv3 HD0.out.vb
  go_region_with (first | ((with_reducible refine (HVR.out.1 _ HD0.out.vv).mono ?_); rintro e w4 ⟨rfl, hb4⟩; have HD1 := Lib.hid (HD0.out.below hb4); clear hb4; clear x0 x1 x2 y0 y1 y2; obtain ⟨x0, x1, x2⟩ := nv3 HD1.out.ub; obtain ⟨y0, y1, y2⟩ := nv3 HD1.out.vb) | ((with_reducible refine (HRA.out _ HD1.out.uu HD1.out.ii).mono ?_); rintro e w5 ⟨ua, uc, rfl, ho, hb⟩; have HD2 := Lib.hid (HD1.out.below hb); have HXU := Lib.hid (bytes_ofS ho).1; have HXL := Lib.hid (bytes_ofS ho).2; clear ho hb; clear x0 x1 x2 y0 y1 y2; obtain ⟨x0, x1, x2⟩ := nv3 HD2.out.ub; obtain ⟨y0, y1, y2⟩ := nv3 HD2.out.vb) | ((with_reducible refine (HVR.out.2 _ HD2.out.vv HD2.out.ii).mono ?_); rintro e w6 ⟨va, vc, rfl, ho, hb⟩; have HD3 := Lib.hid (HD2.out.below hb); have HXV := Lib.hid (bytes_ofS ho).1; have HXU3 := Lib.hid (HXU.out.below hb); clear ho hb x0 x1 x2 y0 y1 y2) | ((with_reducible refine (HVR.out.2 _ HD1.out.vv HD1.out.ii).mono ?_); rintro e w5 ⟨va, vc, rfl, ho, hb⟩; have HD2 := Lib.hid (HD1.out.below hb); have HXV := Lib.hid (bytes_ofS ho).1; have HXL := Lib.hid (bytes_ofS ho).2; clear ho hb; clear x0 x1 x2 y0 y1 y2; obtain ⟨x0, x1, x2⟩ := nv3 HD2.out.ub; obtain ⟨y0, y1, y2⟩ := nv3 HD2.out.vb) | ((with_reducible refine (HRA.out _ HD2.out.uu HD2.out.ii).mono ?_); rintro e w6 ⟨ua, uc, rfl, ho, hb⟩; have HD3 := Lib.hid (HD2.out.below hb); have HXU := Lib.hid (bytes_ofS ho).1; have HXV3 := Lib.hid (HXV.out.below hb); clear ho hb x0 x1 x2 y0 y1 y2) | ((with_reducible refine (result_v x x ua va uc vc true _ HXU3.out HXV.out HXL.out HXL.out (same_self x)).mono ?_); rintro e w7 ⟨rfl, hb⟩; have HD4 := Lib.hid (HD3.out.below hb); clear hb) | ((with_reducible refine (result_v x x ua va uc vc true _ HXU.out HXV3.out HXL.out HXL.out (same_self x)).mono ?_); rintro e w7 ⟨rfl, hb⟩; have HD4 := Lib.hid (HD3.out.below hb); clear hb) | ((with_reducible refine (awake11_any _).mono ?_); rintro e w8 ⟨rfl, hb⟩; have HB8 := Lib.hid (HD4.out.hb.trans (hb.mono HD4.out.hb.size)); clear hb))
  all_goals
    (go_wp2
     go_ret
     exact ⟨rfl, HB8.out⟩)
theorem does_any (U : UnR) (ia : Option Addr) (inp : List UInt8) (ic : Nat) (fuel : Int) (W : World) (hU : UnAt W W.heap.size U) (hin : InAt W (.slice ia inp.length ic) inp) : Calls Try.prog 13 #[unV U, .slice ia inp.length ic, .int .i64 fuel] W (RPost (.bool true) W) := by
  by_cases hf : fewB U.un = true
  · by_cases h1 : inp.length ≤ 200
    · by_cases h2 : fuel ≤ 5000
      · by_cases hr : rightU U.un = true
        · exact does_yes U ia inp ic fuel W hU hin hf h1 h2 hr
        · exact does_wrong U ia inp ic fuel W hU hf h1 h2 (by simpa using hr)
      · exact does_much U ia inp ic fuel W hU hf h1 (by omega)
    · exact does_long U ia inp ic fuel W hU hf (by omega)
  · exact does_few U ia inp ic fuel W hU (by simpa using hf)
end Go.Proofs.Ytbalbdhbmcdbaaa
