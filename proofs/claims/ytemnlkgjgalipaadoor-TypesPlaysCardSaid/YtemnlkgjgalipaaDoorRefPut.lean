/-
  The contract of the reference's put.
-/
import Derived.Test.YtemnlkgjgalipaaDoorTyEq
import Derived.Test.YtemnlkgjgalipaaDoorLast
import Derived.Deep.RegionHeld3
import Derived.Deep.AppendLies
namespace Go.Proofs.YtemnlkgjgalipaaDoor
open Go.RowKit Go.Maps Tp Go.Sort
set_option linter.unusedVariables false

theorem tyCells_snoc (T : Tab) (e : En) : tyCells (T ++ [e]) = tyCells T ++ [.int .i64 e.self.kind, .int .i64 e.self.elem, .int .i64 e.self.n, .string (bs e.self.name)] := by simp [tyCells]
def FarOr (F : Nat → Prop) (w : World) : Nat → Prop := fun g => F g ∨ w.heap.size ≤ g
def PutPost (F : Nat → Prop) (Y : List ((List UInt8 × List Fl) × Value)) (da : Option Addr) (dc : Nat) (r : Int × Int × Tab) (w : World) (e : Ending) (w' : World) : Prop :=
  ∃ la lc, e = .returned (.tuple #[.agg #[.slice la r.2.2.length lc, .slice da Y.length dc], .int .i64 r.1, .int .i64 r.2.1]) ∧ RefX w' (FarOr F w) r.2.2 Y la lc da dc ∧ Below w.heap.size w w'
theorem infoTy : (Tryd.prog.info? 41).map (fun i => (i.zero, i.size, i.bytes)) = some (some (.agg #[.int .i64 0, .int .i64 0, .int .i64 0, .string ⟨#[]⟩]), 4, 40) := by kernel_rfl
theorem heap_alloc_eq {w : World} {k : Nat} {o : Obj} (h : w.heap[k]? = some o) (o' : Obj) : (w.alloc o').heap[k]? = some o := by
  rw [Below.heap_alloc _ _ _ (Array.getElem?_eq_some_iff.1 h).1]; exact h
theorem kept3 {w w1 : World} {c1 c2 c3 : Array Value} {t1 t2 t3 : TypeId} (hb : Below (w.heap.size + 3) (((w.alloc (.cells c1 t1)).alloc (.cells c2 t2)).alloc (.cells c3 t3)) w1) :
    w1.heap[w.heap.size]? = some (.cells c1 t1 (0, 0)) ∧ w1.heap[w.heap.size + 1]? = some (.cells c2 t2 (0, 0)) ∧ w1.heap[w.heap.size + 2]? = some (.cells c3 t3 (0, 0)) ∧ w.heap.size + 3 ≤ w1.heap.size := by
  have h1 := heap_alloc_new w (.cells c1 t1)
  have h2 : ((w.alloc (.cells c1 t1)).alloc (.cells c2 t2)).heap[w.heap.size + 1]? = some (.cells c2 t2 (0, 0)) := by
    have := heap_alloc_new (w.alloc (.cells c1 t1)) (.cells c2 t2)
    simpa using this
  have h3 : (((w.alloc (.cells c1 t1)).alloc (.cells c2 t2)).alloc (.cells c3 t3)).heap[w.heap.size + 2]? = some (.cells c3 t3 (0, 0)) := by
    have := heap_alloc_new ((w.alloc (.cells c1 t1)).alloc (.cells c2 t2)) (.cells c3 t3)
    simpa using this
  refine ⟨(hb.block _ (by omega)).trans (heap_alloc_eq (heap_alloc_eq h1 _) _), (hb.block _ (by omega)).trans (heap_alloc_eq h2 _), (hb.block _ (by omega)).trans h3, by have := hb.size; simp at this; omega⟩
theorem three (w : World) (o1 o2 o3 : Obj) : Below w.heap.size w (((w.alloc o1).alloc o2).alloc o3) := (((Below.refl _ _).alloc (Nat.le_refl _) _).alloc (by simp) _).alloc (by simp; omega) _
theorem put_end {w wr wf : World} {F : Nat → Prop} {T : Tab} {Y : List ((List UInt8 × List Fl) × Value)} {la da : Option Addr} {lc dc : Nat} {x : Ty} {s : Int} {gf capf : Nat} (h : RefX w F T Y la lc da dc) (hn : num T x s = ((T.length : Int), (0 : Int), T ++ [⟨x, s, none⟩]))
    (hr : RefX wf (fun q => (q < w.heap.size ∧ F q) ∨ wr.heap.size ≤ q) (T ++ [⟨x, s, none⟩]) Y (some ⟨gf, 0, none⟩) capf da dc) (hb : Below w.heap.size w wf) (h3 : w.heap.size + 3 ≤ wr.heap.size) (hz : wr.heap.size ≤ wf.heap.size) (u v y : Value) :
    PutPost F Y da dc (num T x s) w (.returned (.tuple #[.agg #[.slice (some ⟨gf, 0, none⟩) (T.length + 1) capf, .slice da Y.length dc], .int .i64 T.length, .int .i64 0])) (((wf.setCell ⟨w.heap.size, 0, none⟩ u).setCell ⟨w.heap.size + 1 + 1, 0, none⟩ v).setCell ⟨w.heap.size + 1 + 1, 1, none⟩ y).drew := by
  rw [hn]
  refine ⟨some ⟨gf, 0, none⟩, capf, by simp, ?_, ?_⟩
  · refine (hr.keep (fun q hq hf => ?_)).far (fun q _ hf => ?_)
    · show (((wf.setCell ⟨w.heap.size, 0, none⟩ u).setCell ⟨w.heap.size + 1 + 1, 0, none⟩ v).setCell ⟨w.heap.size + 1 + 1, 1, none⟩ y).heap[q]? = _
      have q1 : q ≠ w.heap.size := by rcases hf with ⟨h, _⟩ | h <;> omega
      have q2 : q ≠ w.heap.size + 1 + 1 := by rcases hf with ⟨h, _⟩ | h <;> omega
      rw [Below.heap_setCell _ _ _ _ q2, Below.heap_setCell _ _ _ _ q2, Below.heap_setCell _ _ _ _ q1]
    · rcases hf with ⟨_, h⟩ | h
      · exact .inl h
      · right; omega
  · exact (((hb.setCell (by simp) _).setCell (by simp; omega) _).setCell (by simp; omega) _).drew
theorem ty_one (T : Tab) : ∀ u ∈ tyCells T, u.oneCell' = true := by
  intro u hu
  unfold tyCells at hu
  rw [List.mem_flatMap] at hu
  obtain ⟨e, _, he⟩ := hu
  simp at he
  rcases he with rfl | rfl | rfl | rfl <;> rfl
set_option maxHeartbeats 4000000 in
set_option maxRecDepth 100000 in
theorem r_put {w : World} {F : Nat → Prop} {T : Tab} {Y : List ((List UInt8 × List Fl) × Value)} {la da : Option Addr} {lc dc : Nat} (h : RefX w F T Y la lc da dc) (hT : T.length ≤ 256) (hT0 : 0 < T.length) (x : Ty) (s : Int) :
    Calls Tryd.prog 38 #[.agg #[.slice la T.length lc, .slice da Y.length dc], .agg #[.int .i64 x.kind, .int .i64 x.elem, .int .i64 x.n, .string (bs x.name)]] w (PutPost F Y da dc (num T x s) w) := by
  obtain ⟨g, cap2, hg, _, hgl⟩ := h.rowL.form hT0
  simp only [Value.slice.injEq] at hg
  obtain ⟨rfl, _, rfl⟩ := hg
  have H := Lib.hid h; clear h
  go_enter Tryd.func38, Tryd.ntmps38
  go_wp2
  go_loopw [7] (fun i wr => ∃ k : Nat, k ≤ T.length ∧ i = .int .i64 k ∧ Hid (find (T.take k) x = none) ∧ Hid (Below (w.heap.size + 3) (((w.alloc (.cells #[.slice (some ⟨g, 0, none⟩) T.length lc, .slice da Y.length dc] 30)).alloc (.cells #[.int .i64 x.kind, .int .i64 x.elem, .int .i64 x.n, .string (bs x.name)] 41)).alloc (.cells #[.slice none 0 0, .slice none 0 0] 30)) wr)) (fun i wr => T.length - (intOf i).toNat)
  case atStart => exact ⟨0, Nat.zero_le _, rfl, Lib.hid rfl, Lib.hid (Below.refl _ _)⟩
  case round =>
    obtain ⟨k, hk, rfl, HF, HB⟩ := hrel
    have HW : Hid (Below w.heap.size w wr) := Lib.hid ((three _ _ _ _).trans (HB.out.mono (by omega)))
    obtain ⟨b0, b1, b2, bz⟩ := kept3 HB.out
    have c0 := fun o => cell_of_row wr _ o _ _ _ b0
    have c1 := fun o => cell_of_row wr _ o _ _ _ b1
    have c2 : ∀ o, wr.cell? ⟨w.heap.size + 1 + 1, o, none⟩ = #[Value.slice none 0 0, .slice none 0 0][o]? := fun o => cell_of_row wr _ o _ _ _ b2
    have f2 : ∀ o, wr.frozen? ⟨w.heap.size + 1 + 1, o, none⟩ = false := fun o => by simp [World.frozen?, b2]
    have f0 : ∀ o, wr.frozen? ⟨w.heap.size, o, none⟩ = false := fun o => by simp [World.frozen?, b0]
    have B0 := Lib.hid b0
    have B1 := Lib.hid b1
    have B2 := Lib.hid b2
    clear b0 b1 b2
    by_cases hlt : k < T.length
    · obtain ⟨e, he⟩ : ∃ e, T[k]? = some e := ⟨_, List.getElem?_eq_getElem hlt⟩
      have HE := Lib.hid he
      obtain ⟨d0, d1, d2, d3⟩ := ty_at (H.out.below HW.out) he
      clear he
      by_cases hx : e.self = x
      · have HN := Lib.hid (num_some (size := s) (find_here HF.out HE.out hx))
        subst hx
        go_wp2
        go_quiet (fail)
        go_wp2
        refine bodyPost_ret (v := .tuple #[.agg #[.slice (some ⟨g, 0, none⟩) T.length lc, .slice da Y.length dc], .int .i64 k, .int .i64 0]) (by simp [results, Tryd.results38, go_sem, c2]) rfl ?_
        have hbel : ∀ W, Below w.heap.size w W → PutPost F Y da dc (num T e.self s) w (.returned (.tuple #[.agg #[.slice (some ⟨g, 0, none⟩) T.length lc, .slice da Y.length dc], .int .i64 k, .int .i64 0])) W := fun W hW =>
          ⟨some ⟨g, 0, none⟩, lc, by rw [HN.out], by rw [HN.out]; exact (H.out.below hW).far (fun g _ h => .inl h), hW⟩
        refine hbel _ ?_
        first
          | exact ((HW.out.setCell (by simp; omega) _).setCell (by simp; omega) _).trans (below_drewN _ _ _)
          | exact ((HW.out.trans (below_drewN _ _ _)).setCell (by simp; omega) _).setCell (by simp; omega) _
      · have HN := Lib.hid (find_next HF.out HE.out hx)
        have heq : ∀ W : World, (binOp .eql 41 (.agg #[.int .i64 e.self.kind, .int .i64 e.self.elem, .int .i64 e.self.n, .string (bs e.self.name)]) (.agg #[.int .i64 x.kind, .int .i64 x.elem, .int .i64 x.n, .string (bs x.name)])).run Tryd.prog W = .ok (.bool false) W := fun W => by rw [ty_eql, decide_eq_false hx]
        have HX := Lib.hid hx; clear hx
        go_wp2
        go_quiet (fail)
        go_wp2
        go_roundw
        case rel => exact ⟨k + 1, by omega, by go_num, HN, Lib.hid (HB.out.trans (below_drewN _ _ _))⟩
        case measure => simp [intOf]; omega
    · have hkl : k = T.length := by omega
      have hnf : find T x = none := by have := HF.out; rwa [hkl, List.take_of_length_le (Nat.le_refl _)] at this
      have HN := Lib.hid (num_none (size := s) hnf)
      clear hnf
      by_cases hf : T.length = 256
      · have hd : decide ((256 : Int) ≤ (T.length : Int)) = true := by simp; omega
        have HN2 : Hid (num T x s = ((0 : Int), (4 : Int), T)) := Lib.hid (by rw [HN.out, if_pos hf])
        clear hf hkl
        go_wp2
        refine bodyPost_ret (v := .tuple #[.agg #[.slice (some ⟨g, 0, none⟩) T.length lc, .slice da Y.length dc], .int .i64 0, .int .i64 4]) (by simp [results, Tryd.results38, go_sem, c2]) rfl ?_
        have hbel : ∀ W, Below w.heap.size w W → PutPost F Y da dc (num T x s) w (.returned (.tuple #[.agg #[.slice (some ⟨g, 0, none⟩) T.length lc, .slice da Y.length dc], .int .i64 0, .int .i64 4])) W := fun W hW =>
          ⟨some ⟨g, 0, none⟩, lc, by rw [HN2.out], by rw [HN2.out]; exact (H.out.below hW).far (fun g _ h => .inl h), hW⟩
        refine hbel _ ?_
        exact (HW.out.setCell (by simp; omega) _).setCell (by simp; omega) _
      · have hd : decide ((256 : Int) ≤ (T.length : Int)) = false := by simp; omega
        have HN2 : Hid (num T x s = ((T.length : Int), (0 : Int), T ++ [⟨x, s, none⟩])) := Lib.hid (by rw [HN.out, if_neg hf])
        have hlen : T.length < 256 := by omega
        clear hf hkl hd
        have hd : decide ((256 : Int) ≤ (T.length : Int)) = false := by simp; omega
        go_wp2
        have x0 := c0 0
        have y0 := c1 0
        have y1 := c1 1
        have y2 := c1 2
        have y3 := c1 3
        clear c0 c1 c2
        refine region_last (fun w' : World => w'.cell? ⟨w.heap.size, 0, none⟩ = some (.slice (some ⟨g, 0, none⟩) T.length lc) ∧ w'.cell? ⟨w.heap.size + 1, 0, none⟩ = some (.int .i64 x.kind) ∧ w'.cell? ⟨w.heap.size + 1, 1, none⟩ = some (.int .i64 x.elem) ∧ w'.cell? ⟨w.heap.size + 1, 2, none⟩ = some (.int .i64 x.n) ∧ w'.cell? ⟨w.heap.size + 1, 3, none⟩ = some (.string (bs x.name))) 8 (by kernel_rfl) ?_
        have hHeld : (fun w' : World => w'.cell? ⟨w.heap.size, 0, none⟩ = some (.slice (some ⟨g, 0, none⟩) T.length lc) ∧ w'.cell? ⟨w.heap.size + 1, 0, none⟩ = some (.int .i64 x.kind) ∧ w'.cell? ⟨w.heap.size + 1, 1, none⟩ = some (.int .i64 x.elem) ∧ w'.cell? ⟨w.heap.size + 1, 2, none⟩ = some (.int .i64 x.n) ∧ w'.cell? ⟨w.heap.size + 1, 3, none⟩ = some (.string (bs x.name))) wr.drew := by
          dsimp only
          go_keep
        refine anyL_take (i := 1) (v := ?_) rfl rfl (by kernel_rfl) (by kernel_rfl) (by kernel_rfl) (by kernel_rfl) (fun _ _ _ h => h) (Or.inl ⟨by rfl, ?_⟩) hHeld ?_
        rotate_left
        · (intro w' hSw; (try dsimp only at hSw); go_simp; first | done | with_reducible rfl)
        try simp only [Act.put]
        refine anyL_take (i := 2) (v := ?_) rfl rfl (by kernel_rfl) (by kernel_rfl) (by kernel_rfl) (by kernel_rfl) (fun _ _ _ h => h) (Or.inl ⟨by rfl, ?_⟩) hHeld ?_
        rotate_left
        · (intro w' hSw; (try dsimp only at hSw); go_simp; first | done | with_reducible rfl)
        try simp only [Act.put]
        refine anyL_take (i := 4) (v := ?_) rfl rfl (by kernel_rfl) (by kernel_rfl) (by kernel_rfl) (by kernel_rfl) (fun _ _ _ h => h) (Or.inl ⟨by rfl, ?_⟩) hHeld ?_
        rotate_left
        · (intro w' hSw; (try dsimp only at hSw); go_simp; first | done | with_reducible rfl)
        try simp only [Act.put]
        have HLT : Hid ((tyCells T).length = T.length * 4) := Lib.hid H.out.rowL.1
        have HONE : Hid (∀ u ∈ tyCells T, u.oneCell' = true) := Lib.hid (ty_one T)
        have HS : Hid (∀ W, Below wr.heap.size wr W → (fun w' : World => w'.cell? ⟨w.heap.size, 0, none⟩ = some (.slice (some ⟨g, 0, none⟩) T.length lc) ∧ w'.cell? ⟨w.heap.size + 1, 0, none⟩ = some (.int .i64 x.kind) ∧ w'.cell? ⟨w.heap.size + 1, 1, none⟩ = some (.int .i64 x.elem) ∧ w'.cell? ⟨w.heap.size + 1, 2, none⟩ = some (.int .i64 x.n) ∧ w'.cell? ⟨w.heap.size + 1, 3, none⟩ = some (.string (bs x.name))) W) :=
          Lib.hid (fun W hW => ⟨(hW.cell (p := ⟨w.heap.size, 0, none⟩) (by simp; omega)).trans x0, (hW.cell (p := ⟨w.heap.size + 1, 0, none⟩) (by simp; omega)).trans y0, (hW.cell (p := ⟨w.heap.size + 1, 1, none⟩) (by simp; omega)).trans y1, (hW.cell (p := ⟨w.heap.size + 1, 2, none⟩) (by simp; omega)).trans y2, (hW.cell (p := ⟨w.heap.size + 1, 3, none⟩) (by simp; omega)).trans y3⟩)
        have HCL : Hid (∀ W, Below wr.heap.size wr W → ∀ j u, (tyCells T)[j]? = some u → W.cell? ((⟨g, 0, none⟩ : Addr).add j) = some u) := Lib.hid (fun W hW => ((H.out.below (HW.out.trans (hW.mono HW.out.size)))).rowL.cells (g := g) rfl)
        obtain ⟨i0, hi0, hz0, hz1, hz2⟩ := info_parts infoTy
        have hVA : Below wr.heap.size wr (wr.alloc (.cells #[] 41)).drew := ((Below.refl _ _).alloc (Nat.le_refl _) _).drew
        have hVX : Below wr.heap.size wr (wr.alloc (.cells #[.int .i64 x.kind, .int .i64 x.elem, .int .i64 x.n, .string (bs x.name)] 41)).drew := ((Below.refl _ _).alloc (Nat.le_refl _) _).drew
        have hVAX : Below wr.heap.size wr ((wr.alloc (.cells #[] 41)).alloc (.cells #[.int .i64 x.kind, .int .i64 x.elem, .int .i64 x.n, .string (bs x.name)] 41)).drew := (((Below.refl _ _).alloc (Nat.le_refl _) _).alloc (by simp) _).drew
        have hVXA : Below wr.heap.size wr ((wr.alloc (.cells #[.int .i64 x.kind, .int .i64 x.elem, .int .i64 x.n, .string (bs x.name)] 41)).alloc (.cells #[] 41)).drew := (((Below.refl _ _).alloc (Nat.le_refl _) _).alloc (by simp) _).drew
        have OA : Hid ((wr.alloc (.cells #[] 41)).drew.ownsRow 0 41 4 (.slice (some ⟨wr.heap.size, 0, none⟩) 0 0) 0 []) := Lib.hid (own_built (w := wr) rfl rfl (by omega))
        have OAX : Hid (((wr.alloc (.cells #[] 41)).alloc (.cells #[.int .i64 x.kind, .int .i64 x.elem, .int .i64 x.n, .string (bs x.name)] 41)).drew.ownsRow 0 41 4 (.slice (some ⟨wr.heap.size, 0, none⟩) 0 0) 0 []) := Lib.hid (OA.out.alloc _)
        have OXA : Hid (((wr.alloc (.cells #[.int .i64 x.kind, .int .i64 x.elem, .int .i64 x.n, .string (bs x.name)] 41)).alloc (.cells #[] 41)).drew.ownsRow 0 41 4 (.slice (some ⟨wr.heap.size + 1, 0, none⟩) 0 0) 0 []) := Lib.hid (by
          have := own_built (w := wr.alloc (.cells #[.int .i64 x.kind, .int .i64 x.elem, .int .i64 x.n, .string (bs x.name)] 41)) (e := 41) (cs := #[]) (xs := []) (n := 0) (size := 4) rfl rfl (by omega)
          rw [show (wr.alloc (.cells #[.int .i64 x.kind, .int .i64 x.elem, .int .i64 x.n, .string (bs x.name)] 41)).heap.size = wr.heap.size + 1 by simp] at this
          exact this)
        have XX : Hid ((wr.alloc (.cells #[.int .i64 x.kind, .int .i64 x.elem, .int .i64 x.n, .string (bs x.name)] 41)).heap[wr.heap.size]? = some (.cells #[.int .i64 x.kind, .int .i64 x.elem, .int .i64 x.n, .string (bs x.name)] 41 (0, 0))) := Lib.hid (heap_alloc_new wr _)
        have XAX : Hid (((wr.alloc (.cells #[] 41)).alloc (.cells #[.int .i64 x.kind, .int .i64 x.elem, .int .i64 x.n, .string (bs x.name)] 41)).heap[wr.heap.size + 1]? = some (.cells #[.int .i64 x.kind, .int .i64 x.elem, .int .i64 x.n, .string (bs x.name)] 41 (0, 0))) := Lib.hid (by
          have := heap_alloc_new (wr.alloc (.cells #[] 41)) (.cells #[.int .i64 x.kind, .int .i64 x.elem, .int .i64 x.n, .string (bs x.name)] 41)
          simpa using this)
        have XXA : Hid (((wr.alloc (.cells #[.int .i64 x.kind, .int .i64 x.elem, .int .i64 x.n, .string (bs x.name)] 41)).alloc (.cells #[] 41)).heap[wr.heap.size]? = some (.cells #[.int .i64 x.kind, .int .i64 x.elem, .int .i64 x.n, .string (bs x.name)] 41 (0, 0))) := Lib.hid (heap_alloc_eq XX.out _)
        have h3 : w.heap.size + 3 ≤ wr.heap.size := bz
        clear hHeld
        refine anyL_two (i := 0) (j := 5) (by kernel_rfl) rfl rfl (fun K1 hK1 => ?_) (fun K1 hK1 => ?_)
        · go_simp
          refine hK1.out _ _ (fun _ => HS.out _ hVA) ?_
          clear hK1 K1
          refine anyL_two (i := 3) (j := 5) (by kernel_rfl) rfl rfl (fun K2 hK2 => ?_) (fun K2 hK2 => ?_)
          · refine step_append_lies _ (by rfl) (.tmp 29) (.tmp 31) 27 (by rfl) 0 41 i0 _ 4 40 Tryd.underlying27 hi0 hz0 hz1 hz2 rfl (by omega) (.slice (some ⟨wr.heap.size, 0, none⟩) 0 0) 0 [] (by rfl) OA.out ⟨g, 0, none⟩ T.length lc (tyCells T) (by rfl) HLT.out (HCL.out _ hVA) HONE.out hT0 (by unfold maxLen; omega) (by omega) (Nat.zero_le _) _ rfl ?_
            intro gc capc wc hownc hgrowc hatc hltc
            simp only [Nat.zero_add, List.nil_append] at hownc ⊢
            have hC : Below wr.heap.size wr wc := (hVA).grown hgrowc (by have := (hVA).size; omega) (fun q e => by injection e with e; have e : wr.heap.size = q := e; omega)
            have hgc : wr.heap.size ≤ gc := by
              rcases hatc with e | e
              · injection e with e; have e : wr.heap.size = gc := e; omega
              · have := (hVA).size; omega
            refine hK2.out _ _ (fun _ => HS.out _ hC) ?_
            clear hK2 K2
            try simp only [Act.put]
            refine anyL_one (i := 5) (by kernel_rfl) rfl (fun K3 hK3 => ?_)
            go_simp
            have hCX : Below wr.heap.size wr (wc.alloc (.cells #[.int .i64 x.kind, .int .i64 x.elem, .int .i64 x.n, .string (bs x.name)] 41)) := hC.alloc hC.size _
            refine hK3.out _ _ (fun _ => HS.out _ hCX) ?_
            clear hK3 K3
            try simp only [Act.put]
            refine anyL_one (i := 6) (by kernel_rfl) rfl (fun K4 hK4 => ?_)
            refine step_append_lies _ (by rfl) (.tmp 32) (.tmp 34) 27 (by rfl) 0 41 i0 _ 4 40 Tryd.underlying27 hi0 hz0 hz1 hz2 rfl (by omega) (.slice (some ⟨gc, 0, none⟩) T.length capc) T.length (tyCells T) (by rfl) (hownc.alloc _) ⟨wc.heap.size, 0, none⟩ 1 1 [.int .i64 x.kind, .int .i64 x.elem, .int .i64 x.n, .string (bs x.name)] (by rfl) (by rfl) (by exact World.news_of_block (cs := #[.int .i64 x.kind, .int .i64 x.elem, .int .i64 x.n, .string (bs x.name)]) (heap_alloc_new wc _)) (by simp [Value.oneCell']) (by omega) (by unfold maxLen; omega) (by omega) (Nat.zero_le _) _ rfl ?_
            intro gf capf wf hownf hgrowf hatf hltf
            have hF : Below wr.heap.size wr wf := (hCX).grown hgrowf (by have := (hCX).size; omega) (fun q e => by injection e with e; have e : gc = q := e; omega)
            have hgf : wr.heap.size ≤ gf := by
              rcases hatf with e | e
              · injection e with e; have e : gc = gf := e; omega
              · have := (hCX).size; omega
            have hRX : RefX wf (fun q => (q < w.heap.size ∧ F q) ∨ wr.heap.size ≤ q) (T ++ [⟨x, s, none⟩]) Y (some ⟨gf, 0, none⟩) capf da dc := by
              have hO := (H.out.far (F' := fun q => (q < w.heap.size ∧ F q) ∨ wr.heap.size ≤ q) (fun q hq h => .inl ⟨hq, h⟩)).below (HW.out.trans (hF.mono HW.out.size))
              refine ⟨by rw [List.length_append, tyCells_snoc]; exact hownf, fun q hq => ?_, hO.rowD, hO.farD, hO.each⟩
              rw [List.length_append] at hq
              injection hq with hq
              have hq : gf = q := hq
              right; omega
            have HRX := Lib.hid hRX
            have HFF := Lib.hid hF
            have k0 : wf.heap[w.heap.size]? = some (.cells #[.slice (some ⟨g, 0, none⟩) T.length lc, .slice da Y.length dc] 30 (0, 0)) := (hF.block _ (by omega)).trans B0.out
            have k2 : wf.heap[w.heap.size + 1 + 1]? = some (.cells #[.slice none 0 0, .slice none 0 0] 30 (0, 0)) := (hF.block _ (by omega)).trans B2.out
            have K0 := Lib.hid k0
            have K2h := Lib.hid k2
            have l0 : wf.cell? ⟨w.heap.size, 0, none⟩ = some (.slice (some ⟨g, 0, none⟩) T.length lc) := by rw [cell_of_row wf _ 0 _ _ _ k0]; rfl
            have l1 : wf.cell? ⟨w.heap.size, 1, none⟩ = some (.slice da Y.length dc) := by rw [cell_of_row wf _ 1 _ _ _ k0]; rfl
            have l2 : wf.cell? ⟨w.heap.size + 1 + 1, 0, none⟩ = some (.slice none 0 0) := by rw [cell_of_row wf _ 0 _ _ _ k2]; rfl
            have l3 : wf.cell? ⟨w.heap.size + 1 + 1, 1, none⟩ = some (.slice none 0 0) := by rw [cell_of_row wf _ 1 _ _ _ k2]; rfl
            have g0 : ∀ o, wf.frozen? ⟨w.heap.size, o, none⟩ = false := fun o => by simp [World.frozen?, K0.out]
            have g2 : ∀ o, wf.frozen? ⟨w.heap.size + 1 + 1, o, none⟩ = false := fun o => by simp [World.frozen?, K2h.out]
            have hwfz : wr.heap.size ≤ wf.heap.size := hF.size
            refine hK4.out _ _ (fun _ => HS.out _ hF) ?_
            clear hK4 K4 k0 k2 hownf hgrowf hatf hltf hownc hgrowc hatc hltc hC hCX hRX hF
            try simp only [Act.put]
            refine anyL_one (i := 7) (by kernel_rfl) rfl (fun K5 hK5 => ?_)
            go_simp
            refine hK5.out _ _ (fun _ => HS.out _ HFF.out) ?_
            clear hK5 K5
            try simp only [Act.put]
            refine anyL_one (i := 8) (by kernel_rfl) rfl (fun K6 hK6 => ?_)
            go_simp
            refine hK6.out _ _ (fun h => absurd rfl h) ?_
            clear hK6 K6
            refine anyL_done (by kernel_rfl) ?_ _
            clear x0 y0 y1 y2 y3 hVA hVX hVAX hVXA f0 f2 hi0 hz0 hz1 hz2
            go_wp2
            go_region
            all_goals
              go_wp2
              refine bodyPost_ret (v := .tuple #[.agg #[.slice (some ⟨gf, 0, none⟩) (T.length + 1) capf, .slice da Y.length dc], .int .i64 T.length, .int .i64 0]) (by simp [results, Tryd.results38, go_sem, l2, l3]) rfl ?_
              exact put_end H.out HN2.out HRX.out (HW.out.trans (HFF.out.mono HW.out.size)) h3 hwfz _ _ _
          · go_simp
            refine hK2.out _ _ (fun _ => HS.out _ hVAX) ?_
            clear hK2 K2
            refine anyL_one (i := 3) (by kernel_rfl) rfl (fun K3 hK3 => ?_)
            refine step_append_lies _ (by rfl) (.tmp 29) (.tmp 31) 27 (by rfl) 0 41 i0 _ 4 40 Tryd.underlying27 hi0 hz0 hz1 hz2 rfl (by omega) (.slice (some ⟨wr.heap.size, 0, none⟩) 0 0) 0 [] (by rfl) OAX.out ⟨g, 0, none⟩ T.length lc (tyCells T) (by rfl) HLT.out (HCL.out _ hVAX) HONE.out hT0 (by unfold maxLen; omega) (by omega) (Nat.zero_le _) _ rfl ?_
            intro gc capc wc hownc hgrowc hatc hltc
            simp only [Nat.zero_add, List.nil_append] at hownc ⊢
            have hC : Below wr.heap.size wr wc := (hVAX).grown hgrowc (by have := (hVAX).size; omega) (fun q e => by injection e with e; have e : wr.heap.size = q := e; omega)
            have hgc : wr.heap.size ≤ gc := by
              rcases hatc with e | e
              · injection e with e; have e : wr.heap.size = gc := e; omega
              · have := (hVAX).size; omega
            refine hK3.out _ _ (fun _ => HS.out _ hC) ?_
            clear hK3 K3
            try simp only [Act.put]
            refine anyL_one (i := 6) (by kernel_rfl) rfl (fun K4 hK4 => ?_)
            refine step_append_lies _ (by rfl) (.tmp 32) (.tmp 34) 27 (by rfl) 0 41 i0 _ 4 40 Tryd.underlying27 hi0 hz0 hz1 hz2 rfl (by omega) (.slice (some ⟨gc, 0, none⟩) T.length capc) T.length (tyCells T) (by rfl) hownc ⟨wr.heap.size + 1, 0, none⟩ 1 1 [.int .i64 x.kind, .int .i64 x.elem, .int .i64 x.n, .string (bs x.name)] (by rfl) (by rfl) (by exact World.news_of_block (cs := #[.int .i64 x.kind, .int .i64 x.elem, .int .i64 x.n, .string (bs x.name)]) ((hgrowc.block (wr.heap.size + 1) (by simp) (by simp [Value.ownBlock])).trans XAX.out)) (by simp [Value.oneCell']) (by omega) (by unfold maxLen; omega) (by omega) (Nat.zero_le _) _ rfl ?_
            intro gf capf wf hownf hgrowf hatf hltf
            have hF : Below wr.heap.size wr wf := (hC).grown hgrowf (by have := (hC).size; omega) (fun q e => by injection e with e; have e : gc = q := e; omega)
            have hgf : wr.heap.size ≤ gf := by
              rcases hatf with e | e
              · injection e with e; have e : gc = gf := e; omega
              · have := (hC).size; omega
            have hRX : RefX wf (fun q => (q < w.heap.size ∧ F q) ∨ wr.heap.size ≤ q) (T ++ [⟨x, s, none⟩]) Y (some ⟨gf, 0, none⟩) capf da dc := by
              have hO := (H.out.far (F' := fun q => (q < w.heap.size ∧ F q) ∨ wr.heap.size ≤ q) (fun q hq h => .inl ⟨hq, h⟩)).below (HW.out.trans (hF.mono HW.out.size))
              refine ⟨by rw [List.length_append, tyCells_snoc]; exact hownf, fun q hq => ?_, hO.rowD, hO.farD, hO.each⟩
              rw [List.length_append] at hq
              injection hq with hq
              have hq : gf = q := hq
              right; omega
            have HRX := Lib.hid hRX
            have HFF := Lib.hid hF
            have k0 : wf.heap[w.heap.size]? = some (.cells #[.slice (some ⟨g, 0, none⟩) T.length lc, .slice da Y.length dc] 30 (0, 0)) := (hF.block _ (by omega)).trans B0.out
            have k2 : wf.heap[w.heap.size + 1 + 1]? = some (.cells #[.slice none 0 0, .slice none 0 0] 30 (0, 0)) := (hF.block _ (by omega)).trans B2.out
            have K0 := Lib.hid k0
            have K2h := Lib.hid k2
            have l0 : wf.cell? ⟨w.heap.size, 0, none⟩ = some (.slice (some ⟨g, 0, none⟩) T.length lc) := by rw [cell_of_row wf _ 0 _ _ _ k0]; rfl
            have l1 : wf.cell? ⟨w.heap.size, 1, none⟩ = some (.slice da Y.length dc) := by rw [cell_of_row wf _ 1 _ _ _ k0]; rfl
            have l2 : wf.cell? ⟨w.heap.size + 1 + 1, 0, none⟩ = some (.slice none 0 0) := by rw [cell_of_row wf _ 0 _ _ _ k2]; rfl
            have l3 : wf.cell? ⟨w.heap.size + 1 + 1, 1, none⟩ = some (.slice none 0 0) := by rw [cell_of_row wf _ 1 _ _ _ k2]; rfl
            have g0 : ∀ o, wf.frozen? ⟨w.heap.size, o, none⟩ = false := fun o => by simp [World.frozen?, K0.out]
            have g2 : ∀ o, wf.frozen? ⟨w.heap.size + 1 + 1, o, none⟩ = false := fun o => by simp [World.frozen?, K2h.out]
            have hwfz : wr.heap.size ≤ wf.heap.size := hF.size
            refine hK4.out _ _ (fun _ => HS.out _ hF) ?_
            clear hK4 K4 k0 k2 hownf hgrowf hatf hltf hownc hgrowc hatc hltc hC hRX hF
            try simp only [Act.put]
            refine anyL_one (i := 7) (by kernel_rfl) rfl (fun K5 hK5 => ?_)
            go_simp
            refine hK5.out _ _ (fun _ => HS.out _ HFF.out) ?_
            clear hK5 K5
            try simp only [Act.put]
            refine anyL_one (i := 8) (by kernel_rfl) rfl (fun K6 hK6 => ?_)
            go_simp
            refine hK6.out _ _ (fun h => absurd rfl h) ?_
            clear hK6 K6
            refine anyL_done (by kernel_rfl) ?_ _
            clear x0 y0 y1 y2 y3 hVA hVX hVAX hVXA f0 f2 hi0 hz0 hz1 hz2
            go_wp2
            go_region
            all_goals
              go_wp2
              refine bodyPost_ret (v := .tuple #[.agg #[.slice (some ⟨gf, 0, none⟩) (T.length + 1) capf, .slice da Y.length dc], .int .i64 T.length, .int .i64 0]) (by simp [results, Tryd.results38, go_sem, l2, l3]) rfl ?_
              exact put_end H.out HN2.out HRX.out (HW.out.trans (HFF.out.mono HW.out.size)) h3 hwfz _ _ _
        · go_simp
          refine hK1.out _ _ (fun _ => HS.out _ hVX) ?_
          clear hK1 K1
          refine anyL_one (i := 0) (by kernel_rfl) rfl (fun K2 hK2 => ?_)
          go_simp
          refine hK2.out _ _ (fun _ => HS.out _ hVXA) ?_
          clear hK2 K2
          refine anyL_one (i := 3) (by kernel_rfl) rfl (fun K3 hK3 => ?_)
          refine step_append_lies _ (by rfl) (.tmp 29) (.tmp 31) 27 (by rfl) 0 41 i0 _ 4 40 Tryd.underlying27 hi0 hz0 hz1 hz2 rfl (by omega) (.slice (some ⟨wr.heap.size + 1, 0, none⟩) 0 0) 0 [] (by rfl) OXA.out ⟨g, 0, none⟩ T.length lc (tyCells T) (by rfl) HLT.out (HCL.out _ hVXA) HONE.out hT0 (by unfold maxLen; omega) (by omega) (Nat.zero_le _) _ rfl ?_
          intro gc capc wc hownc hgrowc hatc hltc
          simp only [Nat.zero_add, List.nil_append] at hownc ⊢
          have hC : Below wr.heap.size wr wc := (hVXA).grown hgrowc (by have := (hVXA).size; omega) (fun q e => by injection e with e; have e : wr.heap.size + 1 = q := e; omega)
          have hgc : wr.heap.size ≤ gc := by
            rcases hatc with e | e
            · injection e with e; have e : wr.heap.size + 1 = gc := e; omega
            · have := (hVXA).size; omega
          refine hK3.out _ _ (fun _ => HS.out _ hC) ?_
          clear hK3 K3
          try simp only [Act.put]
          refine anyL_one (i := 6) (by kernel_rfl) rfl (fun K4 hK4 => ?_)
          refine step_append_lies _ (by rfl) (.tmp 32) (.tmp 34) 27 (by rfl) 0 41 i0 _ 4 40 Tryd.underlying27 hi0 hz0 hz1 hz2 rfl (by omega) (.slice (some ⟨gc, 0, none⟩) T.length capc) T.length (tyCells T) (by rfl) hownc ⟨wr.heap.size, 0, none⟩ 1 1 [.int .i64 x.kind, .int .i64 x.elem, .int .i64 x.n, .string (bs x.name)] (by rfl) (by rfl) (by exact World.news_of_block (cs := #[.int .i64 x.kind, .int .i64 x.elem, .int .i64 x.n, .string (bs x.name)]) ((hgrowc.block wr.heap.size (by simp; omega) (by simp [Value.ownBlock])).trans XXA.out)) (by simp [Value.oneCell']) (by omega) (by unfold maxLen; omega) (by omega) (Nat.zero_le _) _ rfl ?_
          intro gf capf wf hownf hgrowf hatf hltf
          have hF : Below wr.heap.size wr wf := (hC).grown hgrowf (by have := (hC).size; omega) (fun q e => by injection e with e; have e : gc = q := e; omega)
          have hgf : wr.heap.size ≤ gf := by
            rcases hatf with e | e
            · injection e with e; have e : gc = gf := e; omega
            · have := (hC).size; omega
          have hRX : RefX wf (fun q => (q < w.heap.size ∧ F q) ∨ wr.heap.size ≤ q) (T ++ [⟨x, s, none⟩]) Y (some ⟨gf, 0, none⟩) capf da dc := by
            have hO := (H.out.far (F' := fun q => (q < w.heap.size ∧ F q) ∨ wr.heap.size ≤ q) (fun q hq h => .inl ⟨hq, h⟩)).below (HW.out.trans (hF.mono HW.out.size))
            refine ⟨by rw [List.length_append, tyCells_snoc]; exact hownf, fun q hq => ?_, hO.rowD, hO.farD, hO.each⟩
            rw [List.length_append] at hq
            injection hq with hq
            have hq : gf = q := hq
            right; omega
          have HRX := Lib.hid hRX
          have HFF := Lib.hid hF
          have k0 : wf.heap[w.heap.size]? = some (.cells #[.slice (some ⟨g, 0, none⟩) T.length lc, .slice da Y.length dc] 30 (0, 0)) := (hF.block _ (by omega)).trans B0.out
          have k2 : wf.heap[w.heap.size + 1 + 1]? = some (.cells #[.slice none 0 0, .slice none 0 0] 30 (0, 0)) := (hF.block _ (by omega)).trans B2.out
          have K0 := Lib.hid k0
          have K2h := Lib.hid k2
          have l0 : wf.cell? ⟨w.heap.size, 0, none⟩ = some (.slice (some ⟨g, 0, none⟩) T.length lc) := by rw [cell_of_row wf _ 0 _ _ _ k0]; rfl
          have l1 : wf.cell? ⟨w.heap.size, 1, none⟩ = some (.slice da Y.length dc) := by rw [cell_of_row wf _ 1 _ _ _ k0]; rfl
          have l2 : wf.cell? ⟨w.heap.size + 1 + 1, 0, none⟩ = some (.slice none 0 0) := by rw [cell_of_row wf _ 0 _ _ _ k2]; rfl
          have l3 : wf.cell? ⟨w.heap.size + 1 + 1, 1, none⟩ = some (.slice none 0 0) := by rw [cell_of_row wf _ 1 _ _ _ k2]; rfl
          have g0 : ∀ o, wf.frozen? ⟨w.heap.size, o, none⟩ = false := fun o => by simp [World.frozen?, K0.out]
          have g2 : ∀ o, wf.frozen? ⟨w.heap.size + 1 + 1, o, none⟩ = false := fun o => by simp [World.frozen?, K2h.out]
          have hwfz : wr.heap.size ≤ wf.heap.size := hF.size
          refine hK4.out _ _ (fun _ => HS.out _ hF) ?_
          clear hK4 K4 k0 k2 hownf hgrowf hatf hltf hownc hgrowc hatc hltc hC hRX hF
          try simp only [Act.put]
          refine anyL_one (i := 7) (by kernel_rfl) rfl (fun K5 hK5 => ?_)
          go_simp
          refine hK5.out _ _ (fun _ => HS.out _ HFF.out) ?_
          clear hK5 K5
          try simp only [Act.put]
          refine anyL_one (i := 8) (by kernel_rfl) rfl (fun K6 hK6 => ?_)
          go_simp
          refine hK6.out _ _ (fun h => absurd rfl h) ?_
          clear hK6 K6
          refine anyL_done (by kernel_rfl) ?_ _
          clear x0 y0 y1 y2 y3 hVA hVX hVAX hVXA f0 f2 hi0 hz0 hz1 hz2
          go_wp2
          go_region
          all_goals
            go_wp2
            refine bodyPost_ret (v := .tuple #[.agg #[.slice (some ⟨gf, 0, none⟩) (T.length + 1) capf, .slice da Y.length dc], .int .i64 T.length, .int .i64 0]) (by simp [results, Tryd.results38, go_sem, l2, l3]) rfl ?_
            exact put_end H.out HN2.out HRX.out (HW.out.trans (HFF.out.mono HW.out.size)) h3 hwfz _ _ _
end Go.Proofs.YtemnlkgjgalipaaDoor
