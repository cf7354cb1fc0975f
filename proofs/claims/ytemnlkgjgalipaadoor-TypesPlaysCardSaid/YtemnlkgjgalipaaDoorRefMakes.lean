/-
  Contracts of the reference's Pointer, Array and Struct.
-/
import Derived.Test.YtemnlkgjgalipaaDoorRefPut
namespace Go.Proofs.YtemnlkgjgalipaaDoor
open Go.RowKit Go.Maps Tp Go.Sort
set_option linter.unusedVariables false

theorem PutPost.far {F F' : Nat → Prop} {Y : List ((List UInt8 × List Fl) × Value)} {da : Option Addr} {dc : Nat} {r : Int × Int × Tab} {w w' : World} {e : Ending} (h : PutPost F Y da dc r w e w') (hf : ∀ g, FarOr F w g → F' g) : ∃ la lc, e = .returned (.tuple #[.agg #[.slice la r.2.2.length lc, .slice da Y.length dc], .int .i64 r.1, .int .i64 r.2.1]) ∧ RefX w' F' r.2.2 Y la lc da dc ∧ Below w.heap.size w w' := by
  obtain ⟨la, lc, he, hr, hb⟩ := h
  exact ⟨la, lc, he, hr.far (fun g _ h => hf g h), hb⟩
theorem two (w : World) (o1 o2 : Obj) : Below w.heap.size w ((w.alloc o1).alloc o2) := ((Below.refl _ _).alloc (Nat.le_refl _) _).alloc (by simp) _
theorem kept2 {w w1 : World} {c1 c2 : Array Value} {t1 t2 : TypeId} (hb : Below (w.heap.size + 2) ((w.alloc (.cells c1 t1)).alloc (.cells c2 t2)) w1) :
    w1.heap[w.heap.size]? = some (.cells c1 t1 (0, 0)) ∧ w1.heap[w.heap.size + 1]? = some (.cells c2 t2 (0, 0)) ∧ w.heap.size + 2 ≤ w1.heap.size := by
  have h1 := heap_alloc_new w (.cells c1 t1)
  have h2 : ((w.alloc (.cells c1 t1)).alloc (.cells c2 t2)).heap[w.heap.size + 1]? = some (.cells c2 t2 (0, 0)) := by
    have := heap_alloc_new (w.alloc (.cells c1 t1)) (.cells c2 t2)
    simpa using this
  exact ⟨(hb.block _ (by omega)).trans (heap_alloc_eq h1 _), (hb.block _ (by omega)).trans h2, by have := hb.size; simp at this; omega⟩
/-- What the walk needs of the two blocks that a method makes for itself. -/
structure Two (w w1 : World) (c1 c2 : Array Value) : Prop where
  z : w.heap.size + 1 < w1.heap.size
  z0 : w.heap.size < w1.heap.size
  below : Below w.heap.size w w1
  a : ∀ o, w1.cell? ⟨w.heap.size, o, none⟩ = c1[o]?
  b : ∀ o, w1.cell? ⟨w.heap.size + 1, o, none⟩ = c2[o]?
  f : ∀ o, w1.frozen? ⟨w.heap.size + 1, o, none⟩ = false
theorem Two.mk' {w w1 : World} {c1 c2 : Array Value} {t1 t2 : TypeId} (hb : Below ((w.alloc (.cells c1 t1)).alloc (.cells c2 t2)).heap.size ((w.alloc (.cells c1 t1)).alloc (.cells c2 t2)) w1) : Two w w1 c1 c2 := by
  obtain ⟨h1, h2, h3⟩ := kept2 (hb.mono (by simp))
  exact ⟨by omega, by omega, (two w _ _).trans (hb.mono (by simp; omega)), fun o => cell_of_row w1 _ o _ _ _ h1, fun o => cell_of_row w1 _ o _ _ _ h2, fun o => by simp [World.frozen?, h2]⟩
theorem Two.next {w w1 w2 : World} {c1 c2 : Array Value} (h : Two w w1 c1 c2) (hb : Below w1.heap.size w1 w2) : Two w w2 c1 c2 := by
  have := hb.size
  exact ⟨by have := h.z; omega, by have := h.z; omega, h.below.trans (hb.mono h.below.size), fun o => (hb.cell (p := ⟨w.heap.size, o, none⟩) h.z0).trans (h.a o), fun o => (hb.cell (p := ⟨w.heap.size + 1, o, none⟩) h.z).trans (h.b o), fun o => (hb.frozen (p := ⟨w.heap.size + 1, o, none⟩) h.z).trans (h.f o)⟩
theorem put_err {w W : World} {F : Nat → Prop} {T : Tab} {Y : List ((List UInt8 × List Fl) × Value)} {la da : Option Addr} {lc dc : Nat} {r : Int × Int × Tab} {k : Int} (h : RefX w F T Y la lc da dc) (hr : r = (0, k, T)) (hW : Below w.heap.size w W) :
    PutPost F Y da dc r w (.returned (.tuple #[.agg #[.slice la T.length lc, .slice da Y.length dc], .int .i64 0, .int .i64 k])) W := by
  subst hr
  exact ⟨la, lc, rfl, (h.below hW).far (fun g _ h => .inl h), hW⟩
theorem put_ok {w w1 w2 : World} {F : Nat → Prop} {T : Tab} {Y : List ((List UInt8 × List Fl) × Value)} {la da : Option Addr} {lc dc : Nat} {a b : Int} (hz : w.heap.size + 1 < w1.heap.size) (h : RefX w2 (FarOr (fun q => q < w.heap.size ∧ F q) w1) T Y la lc da dc) (hb2 : Below w.heap.size w w2) (u v : Value) :
    PutPost F Y da dc (a, b, T) w (.returned (.tuple #[.agg #[.slice la T.length lc, .slice da Y.length dc], .int .i64 a, .int .i64 b])) ((w2.setCell ⟨w.heap.size + 1, 0, none⟩ u).setCell ⟨w.heap.size + 1, 1, none⟩ v) := by
  refine ⟨la, lc, rfl, (h.keep (fun q hq hf => ?_)).far (fun q _ hf => ?_), (hb2.setCell (by simp) _).setCell (by simp) _⟩
  · have q1 : q ≠ w.heap.size + 1 := by rcases hf with ⟨h, _⟩ | h <;> omega
    rw [Below.heap_setCell _ _ _ _ q1, Below.heap_setCell _ _ _ _ q1]
  · rcases hf with ⟨_, h⟩ | h
    · exact .inl h
    · right; omega
theorem RefX.old {w : World} {F : Nat → Prop} {T : Tab} {Y : List ((List UInt8 × List Fl) × Value)} {la da : Option Addr} {lc dc : Nat} (h : RefX w F T Y la lc da dc) : RefX w (fun q => q < w.heap.size ∧ F q) T Y la lc da dc := h.far (fun q hq hf => ⟨hq, hf⟩)
set_option maxHeartbeats 1000000 in
theorem r_pointer {w : World} {F : Nat → Prop} {T : Tab} {Y : List ((List UInt8 × List Fl) × Value)} {la da : Option Addr} {lc dc : Nat} (h : RefX w F T Y la lc da dc) (hT : T.length ≤ 256) (hT0 : 0 < T.length) (n : Int) :
    Calls Tryd.prog 25 #[.agg #[.slice la T.length lc, .slice da Y.length dc], .int .i64 n] w (PutPost F Y da dc (pointer T n) w) := by
  have H := Lib.hid h; clear h
  cases hn : ent T n with
  | none =>
    have HR : Hid (pointer T n = (0, 1, T)) := Lib.hid (by unfold pointer; rw [hn])
    have HN := Lib.hid hn; clear hn
    go_enter Tryd.func25, Tryd.ntmps25
    go_wp2_with fail
    refine (r_is (F := F) (w := ((w.alloc _).alloc _)) hT n).mono ?_
    rw [HN.out]
    rintro x w1 ⟨rfl, hb⟩
    obtain ⟨tz, tz0, tb, ta, tc, tf⟩ := Two.mk' hb
    have TB := Lib.hid tb
    clear hb tb
    go_wp2
    refine bodyPost_ret (v := .tuple #[.agg #[.slice la T.length lc, .slice da Y.length dc], .int .i64 0, .int .i64 1]) (by simp [results, Tryd.results25, go_sem, tc]) rfl ?_
    exact put_err H.out HR.out ((TB.out.setCell (by simp) _).setCell (by simp) _)
  | some e =>
    have HR : Hid (pointer T n = num T ⟨4, n, 0, []⟩ 1) := Lib.hid (by unfold pointer; rw [hn])
    have HN := Lib.hid hn; clear hn
    go_enter Tryd.func25, Tryd.ntmps25
    go_wp2_with fail
    refine (r_is (F := F) (w := ((w.alloc _).alloc _)) hT n).mono ?_
    rw [HN.out]
    rintro x w1 ⟨rfl, hb⟩
    have T1 := Lib.hid (Two.mk' hb)
    obtain ⟨tz, tz0, tb, ta, tc, tf⟩ := Two.mk' hb
    have TB := Lib.hid tb
    clear hb tb
    go_wp2_with fail
    refine (r_put (H.out.old.below TB.out) hT hT0 ⟨4, n, 0, []⟩ 1).mono ?_
    rintro x w2 ⟨la2, lc2, rfl, hr2, hb2⟩
    have HR2 := Lib.hid hr2
    obtain ⟨uz, uz0, ub, ua, uc, uf⟩ := T1.out.next hb2
    have UB := Lib.hid ub
    clear hr2 hb2 ub tz tz0 ta tc tf
    go_wp2
    refine bodyPost_ret (v := .tuple #[.agg #[.slice la2 (num T ⟨4, n, 0, []⟩ 1).2.2.length lc2, .slice da Y.length dc], .int .i64 (num T ⟨4, n, 0, []⟩ 1).1, .int .i64 (num T ⟨4, n, 0, []⟩ 1).2.1]) (by simp [results, Tryd.results25, go_sem, uc]) rfl ?_
    rw [HR.out]
    exact put_ok T1.out.z HR2.out UB.out _ _
set_option maxHeartbeats 1000000 in
theorem r_struct {w : World} {F : Nat → Prop} {T : Tab} {Y : List ((List UInt8 × List Fl) × Value)} {la da : Option Addr} {lc dc : Nat} (h : RefX w F T Y la lc da dc) (hT : T.length ≤ 256) (hT0 : 0 < T.length) (l : List UInt8) (hl : l.length ≤ 1000) :
    Calls Tryd.prog 27 #[.agg #[.slice la T.length lc, .slice da Y.length dc], .string (bs l)] w (PutPost F Y da dc (strct T l) w) := by
  have H := Lib.hid h; clear h
  by_cases hn : l = []
  · have HR : Hid (strct T l = (0, 1, T)) := Lib.hid (by unfold strct; rw [if_pos hn])
    have hz : ((l.length : Int) == 0) = true := by rw [hn]; rfl
    clear hn
    go_enter Tryd.func27, Tryd.ntmps27
    go_wp2
    refine bodyPost_ret (v := .tuple #[.agg #[.slice la T.length lc, .slice da Y.length dc], .int .i64 0, .int .i64 1]) (by simp [results, Tryd.results27, go_sem]) rfl ?_
    exact put_err H.out HR.out (two _ _ _)
  · have HR : Hid (strct T l = num T ⟨6, 0, 0, l⟩ 0) := Lib.hid (by unfold strct; rw [if_neg hn])
    have hz : ((l.length : Int) == 0) = false := by
      have := List.length_pos_iff.2 hn
      simp; omega
    clear hn
    go_enter Tryd.func27, Tryd.ntmps27
    go_wp2_with fail
    refine (r_put (H.out.old.below (two _ _ _)) hT hT0 ⟨6, 0, 0, l⟩ 0).mono ?_
    rintro x w2 ⟨la2, lc2, rfl, hr2, hb2⟩
    have HR2 := Lib.hid hr2
    obtain ⟨uz, uz0, ub, ua, uc, uf⟩ := Two.mk' hb2
    have UB := Lib.hid ub
    clear hr2 hb2 ub
    go_wp2
    refine bodyPost_ret (v := .tuple #[.agg #[.slice la2 (num T ⟨6, 0, 0, l⟩ 0).2.2.length lc2, .slice da Y.length dc], .int .i64 (num T ⟨6, 0, 0, l⟩ 0).1, .int .i64 (num T ⟨6, 0, 0, l⟩ 0).2.1]) (by simp [results, Tryd.results27, go_sem, uc]) rfl ?_
    rw [HR.out]
    exact put_ok (by simp) HR2.out UB.out _ _
set_option maxHeartbeats 2000000 in
theorem r_array {w : World} {F : Nat → Prop} {T : Tab} {Y : List ((List UInt8 × List Fl) × Value)} {la da : Option Addr} {lc dc : Nat} (h : RefX w F T Y la lc da dc) (hG : Tp.Good T) (hT0 : 0 < T.length) (hY : Y.length ≤ 1000) (n c : Int) (hS : ∀ e, ent T n = some e → RS T (Y.map (·.1)) n e.size) :
    Calls Tryd.prog 26 #[.agg #[.slice la T.length lc, .slice da Y.length dc], .int .i64 n, .int .i64 c] w (PutPost F Y da dc (array T n c) w) := by
  have H := Lib.hid h
  have hT := hG.few
  have HZ : Hid (∀ W, Below w.heap.size w W → SzIn W T (Y.map (·.1)) la lc da Y.length dc) := Lib.hid (fun W hW => ⟨⟨F, Y, h.below hW, rfl, rfl⟩, hT, hY⟩)
  clear h
  cases hn : ent T n with
  | none =>
    have HR : Hid (array T n c = (0, 1, T)) := Lib.hid (by unfold array; rw [hn])
    have HN := Lib.hid hn; clear hn hS
    go_enter Tryd.func26, Tryd.ntmps26
    go_wp2_with fail
    refine (r_is (F := F) (w := ((w.alloc _).alloc _)) hT n).mono ?_
    rw [HN.out]
    rintro x w1 ⟨rfl, hb⟩
    obtain ⟨tz, tz0, tb, ta, tc, tf⟩ := Two.mk' hb
    have TB := Lib.hid tb
    clear hb tb
    go_wp2
    refine bodyPost_ret (v := .tuple #[.agg #[.slice la T.length lc, .slice da Y.length dc], .int .i64 0, .int .i64 1]) (by simp [results, Tryd.results26, go_sem, tc]) rfl ?_
    exact put_err H.out HR.out ((TB.out.setCell (by simp) _).setCell (by simp) _)
  | some e =>
    have HS := Lib.hid (hS e hn)
    obtain ⟨i, rfl, _, hk⟩ := ent_some hn
    have hsz := hG.size i e hk
    have HN := Lib.hid hn
    have hcases : (e.size = 0 ∧ array T i c = (0, 8, T)) ∨ (0 < e.size ∧ (c < 1 ∨ 1024 < c ∨ 4096 < c * e.size) ∧ array T i c = (0, 4, T)) ∨ (0 < e.size ∧ 1 ≤ c ∧ c ≤ 1024 ∧ c * e.size ≤ 4096 ∧ array T i c = num T ⟨5, i, c, []⟩ (c * e.size)) := by
      unfold array
      rw [hn]
      simp only
      by_cases h1 : e.size ≤ 0
      · left; rw [if_pos h1]; exact ⟨by omega, rfl⟩
      · rw [if_neg h1]
        by_cases h2 : c < 1 ∨ 1024 < c ∨ 4096 < c * e.size
        · right; left; rw [if_pos h2]; exact ⟨by omega, h2, rfl⟩
        · right; right; rw [if_neg h2]; exact ⟨by omega, by omega, by omega, by omega, rfl⟩
    obtain ⟨sz, hse⟩ : ∃ sz, e.size = sz := ⟨_, rfl⟩
    rw [hse] at hcases hsz HS
    clear hn hk hS hse
    go_enter Tryd.func26, Tryd.ntmps26
    go_wp2_with fail
    refine (r_is (F := F) (w := ((w.alloc _).alloc _)) hT i).mono ?_
    rw [HN.out]
    rintro x w1 ⟨rfl, hb⟩
    have T1 := Lib.hid (Two.mk' hb)
    obtain ⟨tz, tz0, tb, ta, tc, tf⟩ := Two.mk' hb
    clear hb tb
    go_wp2_with fail
    refine (r_size HS.out _ (HZ.out _ T1.out.below)).mono ?_
    rintro x w2 ⟨rfl, hb2⟩
    have T2 := Lib.hid (T1.out.next hb2)
    clear hb2 tz tz0 ta tc tf
    obtain ⟨tz, tz0, tb, ta, tc, tf⟩ := T2.out
    clear tb
    rcases hcases with ⟨h1, h2⟩ | ⟨h1, h2, h3⟩ | ⟨h1, h2, h3, h4, h5⟩
    · have HR := Lib.hid h2
      have b0 : ((sz : Int) == 0) = true := by simp [h1]
      clear h1 h2
      go_wp2
      refine bodyPost_ret (v := .tuple #[.agg #[.slice la T.length lc, .slice da Y.length dc], .int .i64 0, .int .i64 8]) (by simp [results, Tryd.results26, go_sem, tc]) rfl ?_
      exact put_err H.out HR.out ((T2.out.below.setCell (by simp) _).setCell (by simp) _)
    · have HR := Lib.hid h3
      have b0 : ((sz : Int) == 0) = false := by simp; omega
      by_cases c1 : c < 1
      · have e1 : decide (c < 1) = true := by simpa using c1
        clear h2 h3
        go_wp2
        refine bodyPost_ret (v := .tuple #[.agg #[.slice la T.length lc, .slice da Y.length dc], .int .i64 0, .int .i64 4]) (by simp [results, Tryd.results26, go_sem, tc]) rfl ?_
        exact put_err H.out HR.out ((T2.out.below.setCell (by simp) _).setCell (by simp) _)
      · have e1 : decide (c < 1) = false := by simpa using c1
        by_cases c2 : 1024 < c
        · have e2 : decide (1024 < c) = true := by simpa using c2
          clear h2 h3
          go_wp2
          refine bodyPost_ret (v := .tuple #[.agg #[.slice la T.length lc, .slice da Y.length dc], .int .i64 0, .int .i64 4]) (by simp [results, Tryd.results26, go_sem, tc]) rfl ?_
          exact put_err H.out HR.out ((T2.out.below.setCell (by simp) _).setCell (by simp) _)
        · have e2 : decide (1024 < c) = false := by simpa using c2
          have p2 : 4096 < c * sz := by rcases h2 with h | h | h <;> first | exact absurd h c1 | exact absurd h c2 | exact h
          have p1 : c * sz ≤ 1024 * 4096 := Int.mul_le_mul (by omega) hsz.2 (by omega) (by omega)
          have hw : IntKind.i64.wrap (c * sz) = c * sz := IntWalk.i64_in _ (by omega)
          have e3 : decide (4096 < c * sz) = true := by simpa using p2
          clear h2 h3
          go_wp2_with fail
          refine (r_size HS.out _ (HZ.out _ T2.out.below)).mono ?_
          rintro x w3 ⟨rfl, hb3⟩
          have T3 := Lib.hid (T2.out.next hb3)
          clear hb3 tz tz0 ta tc tf
          obtain ⟨tz, tz0, tb, ta, tc, tf⟩ := T3.out
          clear tb
          go_wp2
          refine bodyPost_ret (v := .tuple #[.agg #[.slice la T.length lc, .slice da Y.length dc], .int .i64 0, .int .i64 4]) (by simp [results, Tryd.results26, go_sem, tc]) rfl ?_
          exact put_err H.out HR.out ((T3.out.below.setCell (by simp) _).setCell (by simp) _)
    · have HR := Lib.hid h5
      have b0 : ((sz : Int) == 0) = false := by simp; omega
      have e1 : decide (c < 1) = false := by simp; omega
      have e2 : decide (1024 < c) = false := by simp; omega
      have p0 : 0 ≤ c * sz := Int.mul_nonneg (by omega) (by omega)
      have hw : IntKind.i64.wrap (c * sz) = c * sz := IntWalk.i64_in _ (by omega)
      have e3 : decide (4096 < c * sz) = false := by simp; omega
      clear h5
      go_wp2_with fail
      refine (r_size HS.out _ (HZ.out _ T2.out.below)).mono ?_
      rintro x w3 ⟨rfl, hb3⟩
      have T3 := Lib.hid (T2.out.next hb3)
      clear hb3 tz tz0 ta tc tf
      obtain ⟨tz, tz0, tb, ta, tc, tf⟩ := T3.out
      have TB := Lib.hid tb
      clear tb
      go_wp2_with fail
      refine (r_put (H.out.old.below TB.out) hT hT0 ⟨5, i, c, []⟩ (c * sz)).mono ?_
      rintro x w4 ⟨la2, lc2, rfl, hr2, hb2⟩
      have HR2 := Lib.hid hr2
      obtain ⟨uz, uz0, ub, ua, uc, uf⟩ := T3.out.next hb2
      have UB := Lib.hid ub
      clear hr2 hb2 ub tz tz0 ta tc tf
      go_wp2
      refine bodyPost_ret (v := .tuple #[.agg #[.slice la2 (num T ⟨5, i, c, []⟩ (c * sz)).2.2.length lc2, .slice da Y.length dc], .int .i64 (num T ⟨5, i, c, []⟩ (c * sz)).1, .int .i64 (num T ⟨5, i, c, []⟩ (c * sz)).2.1]) (by simp [results, Tryd.results26, go_sem, uc]) rfl ?_
      rw [HR.out]
      exact put_ok T3.out.z HR2.out UB.out _ _
end Go.Proofs.YtemnlkgjgalipaaDoor
