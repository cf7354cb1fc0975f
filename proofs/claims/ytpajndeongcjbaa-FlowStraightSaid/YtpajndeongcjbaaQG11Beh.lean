/-
  Layer 11: contracts of ways, behind.
-/
import Derived.Test.YtpajndeongcjbaaQG11Ways
namespace Go.Proofs.Ytpajndeongcjbaa
set_option maxRecDepth 100000
open Go.RowKit Cd
set_option linter.unusedVariables false
set_option linter.unusedSimpArgs false

/-- The box of an instruction, and a closure below. -/
structure PSt (w0 w : World) (i : Ins) (b : Nat) (v : List Val) : Prop where
  hi : w.heap[w0.heap.size]? = some (inO i)
  ls : LsAt w w.heap.size b v
  hb : Below w0.heap.size w0 w
theorem PSt.lt {w0 w : World} {i : Ins} {b : Nat} {v : List Val} (h : PSt w0 w i b v) : w0.heap.size + 1 ≤ w.heap.size := lt_heap h.hi
theorem PSt.below {w0 w w' : World} {i : Ins} {b : Nat} {v : List Val} (h : PSt w0 w i b v) (hb : Below w.heap.size w w') : PSt w0 w' i b v := by
  have := h.lt
  exact ⟨(hb.block _ (by omega)).trans h.hi, (h.ls.below hb).mono hb.size (Nat.le_refl _), h.hb.trans (hb.mono (by omega))⟩
theorem PSt.drew {w0 w : World} {i : Ins} {b : Nat} {v : List Val} (h : PSt w0 w i b v) : PSt w0 w.drew i b v := ⟨h.hi, ⟨h.ls.1, h.ls.2.1, h.ls.2.2⟩, drW h.hb⟩
theorem PSt.new (w : World) (i : Ins) (b : Nat) (v : List Val) (h : LsAt w w.heap.size b v) : PSt w (w.alloc (inO i)) i b v := by
  have hb : Below w.heap.size w (w.alloc (inO i)) := (Below.refl w.heap.size w).alloc (Nat.le_refl _) _
  exact ⟨heap_alloc_new w _, (h.below hb).mono hb.size (Nat.le_refl _), hb⟩
/-- Where a function may go on, as what is known tells. -/
def Cd.waysV (i : Ins) (v : List Val) (p : Int) : List Int := match behV i v with | some _ => goesV i v p | none => []
theorem list_below {l : List Int} {w0 w : World} {e : Ending} {w' : World} (h : ListPost l w e w') (hb : Below w0.heap.size w0 w) : ListPost l w0 e w' := by
  obtain ⟨v, h1, h2, h3⟩ := h
  exact ⟨v, h1, ownsRow_le h2 hb.size, hb.trans (h3.mono hb.size)⟩
theorem list_own1 (w : World) (x : Int) : ListPost [x] w (.returned (.slice (some ⟨w.heap.size, 0, none⟩) 1 1)) (w.alloc (.cells #[.int .i64 x] 3)) :=
  ⟨_, rfl, ⟨rfl, .inr ⟨_, 1, #[.int .i64 x], rfl, Nat.le_refl _, heap_alloc_new w _, Nat.le_refl _, by unfold maxLen; omega, rfl, rfl⟩⟩, (Below.refl _ _).alloc (Nat.le_refl _) _⟩
set_option maxHeartbeats 4000000 in
theorem ways_c (i : Ins) (p : Int) (b : Nat) (v : List Val) (w : World) (hp : 0 ≤ p ∧ p ≤ 1000000) (hL : LsAt w w.heap.size b v) (hR : RegIn i v) (h20 : OneOk i) (ws : List Int) (hws : waysV i v p = ws) : Calls Try.prog 79 #[inV i, .int .i64 p, lsV b] w (ListPost ws w) := by
  have HP0 := Lib.hid (PSt.new w i b v hL)
  obtain ⟨c0, c1, c2, c3, c4, c5, c6, c7, c8, c9, c10, c11, c12, c13, c14⟩ := nv15 HP0.out.hi
  have HRI := Lib.hid hR
  have HNX : Hid (∀ V, Calls Try.prog 96 #[inV i, .int .i64 p] V (ListPost (next i p) V)) := Lib.hid (fun V => cnext_any i p hp V)
  by_cases h23 : i.kind = 2 ∨ i.kind = 3
  · have ho := opV_beh (v := v) h23 h20
    obtain ⟨x, hx⟩ : ∃ x, (behV i v).getD ⟨2, 0⟩ = x := ⟨_, rfl⟩
    obtain ⟨q, hqq⟩ : ∃ q, (behV i v).isSome = q := ⟨_, rfl⟩
    rw [hx, hqq] at ho
    have HK := Lib.hid h23
    have HOP : Hid (∀ V, LsAt V V.heap.size b v → Calls Try.prog 111 #[inV i, lsV b] V (OpPost (x, q) V)) := Lib.hid (fun V hV => ho ▸ operation_c i b v V hV HK.out HRI.out)
    have ht23 : (((i.kind : Int) == 2) = true) ∨ (((i.kind : Int) == 2) = false ∧ ((i.kind : Int) == 3) = true) := by
      rcases h23 with h | h
      · exact .inl (by simpa using h)
      · exact .inr ⟨by simp; omega, by simpa using h⟩
    have HE : Hid (ws = if q = true then next i p else []) := Lib.hid (by
      rw [← hws, ← hqq]
      unfold waysV
      cases behV i v with
      | none => rfl
      | some y => simp only [Option.isSome_some, if_true]; unfold goesV; rw [if_neg (by omega)])
    clear hL hR hx hqq ho h23 h20 hws
    cases q with
    | true =>
      rcases ht23 with t2 | ⟨t2, t3⟩
      all_goals
        go_enter Try.func79, Try.ntmps79
        go_wp2_with (first | ((with_reducible refine (HOP.out _ HP0.out.ls).mono ?_); rintro e w2 ⟨rfl, hb2⟩; have HP2 := Lib.hid (HP0.out.below hb2); have HP3 := Lib.hid (HP2.out.below ((Below.refl _ w2).alloc (Nat.le_refl _) (vlO x))); clear hb2 c0 c1 c2 c3 c4 c5 c6 c7 c8 c9 c10 c11 c12 c13 c14; obtain ⟨c0, c1, c2, c3, c4, c5, c6, c7, c8, c9, c10, c11, c12, c13, c14⟩ := nv15 HP3.out.hi) | ((with_reducible refine (HNX.out _).mono ?_); rintro e w4 ⟨v4, rfl, ho4, hb4⟩; have HO4 := Lib.hid ho4; have HB4 := Lib.hid hb4; clear ho4 hb4))
        go_ret
        exact list_below ⟨_, rfl, by rw [HE.out]; exact HO4.out, HB4.out⟩ HP3.out.hb
    | false =>
      rcases ht23 with t2 | ⟨t2, t3⟩
      all_goals
        go_enter Try.func79, Try.ntmps79
        go_wp2_with ((with_reducible refine (HOP.out _ HP0.out.ls).mono ?_); rintro e w2 ⟨rfl, hb2⟩; have HP2 := Lib.hid (HP0.out.below hb2); have HP3 := Lib.hid (HP2.out.below ((Below.refl _ w2).alloc (Nat.le_refl _) (vlO x))); clear hb2)
        go_ret
        rw [HE.out]
        exact list_nil HP3.out.hb
  · have t2 : ((i.kind : Int) == 2) = false := by simp; omega
    have t3 : ((i.kind : Int) == 3) = false := by simp; omega
    have hsome : ∃ y, behV i v = some y := by
      unfold behV
      by_cases h1 : i.kind = 1
      · exact ⟨_, if_pos h1⟩
      · by_cases h4 : i.kind = 4
        · exact ⟨_, by rw [if_neg h1, if_pos h4]⟩
        · exact ⟨_, by rw [if_neg h1, if_neg h4, if_neg h23]⟩
    obtain ⟨y, hy⟩ := hsome
    have hw2 : ws = goesV i v p := by rw [← hws]; unfold waysV; rw [hy]
    by_cases h12 : i.kind = 12
    · have t12 : ((i.kind : Int) == 12) = true := by simpa using h12
      have ha := hR.1 i.a (by unfold uses readsA; simp [h12])
      obtain ⟨d, q, hch⟩ : ∃ d q, choV i v = (d, q) := ⟨_, _, rfl⟩
      have HCH : Hid (∀ V, LsAt V V.heap.size b v → Calls Try.prog 112 #[inV i, lsV b] V (ChPost (d, q) V)) := Lib.hid (fun V hV => hch ▸ chosen_c i b v V hV ha)
      have HE : Hid (ws = if q = true then [d] else next i p) := Lib.hid (by
        rw [hw2]
        unfold goesV
        unfold choV at hch
        by_cases hk : (v.getD i.a.toNat ⟨0, 0⟩).kind = 1
        · rw [if_pos hk] at hch
          injection hch with h1 h2
          rw [if_pos ⟨h12, hk⟩, h1, ← h2, if_pos rfl]
        · rw [if_neg hk] at hch
          injection hch with h1 h2
          rw [if_neg (fun e => hk e.2), ← h2, if_neg (by simp)])
      clear hL hR h20 hws hy hw2 h12 ha hch h23
      cases q with
      | true =>
        go_enter Try.func79, Try.ntmps79
        go_wp2_with ((with_reducible refine (HCH.out _ HP0.out.ls).mono ?_); rintro e w2 ⟨rfl, hb2⟩; have HP2 := Lib.hid (HP0.out.below hb2); clear hb2)
        go_ret
        rw [HE.out]
        exact list_below (list_own1 _ _) HP2.out.hb
      | false =>
        go_enter Try.func79, Try.ntmps79
        go_wp2_with (first | ((with_reducible refine (HCH.out _ HP0.out.ls).mono ?_); rintro e w2 ⟨rfl, hb2⟩; have HP2 := Lib.hid (HP0.out.below hb2); clear hb2 c0 c1 c2 c3 c4 c5 c6 c7 c8 c9 c10 c11 c12 c13 c14; obtain ⟨c0, c1, c2, c3, c4, c5, c6, c7, c8, c9, c10, c11, c12, c13, c14⟩ := nv15 HP2.out.hi) | ((with_reducible refine (HNX.out _).mono ?_); rintro e w4 ⟨v4, rfl, ho4, hb4⟩; have HO4 := Lib.hid ho4; have HB4 := Lib.hid hb4; clear ho4 hb4))
        go_ret
        exact list_below ⟨_, rfl, by rw [HE.out]; exact HO4.out, HB4.out⟩ HP2.out.hb
    · have t12 : ((i.kind : Int) == 12) = false := by simpa using h12
      have HE : Hid (ws = next i p) := Lib.hid (by rw [hw2]; unfold goesV; rw [if_neg (fun e => h12 e.1)])
      clear hL hR h20 hws hy hw2 h12 h23
      go_enter Try.func79, Try.ntmps79
      go_wp2_with ((with_reducible refine (HNX.out _).mono ?_); rintro e w4 ⟨v4, rfl, ho4, hb4⟩; have HO4 := Lib.hid ho4; have HB4 := Lib.hid hb4; clear ho4 hb4)
      go_ret
      exact list_below ⟨_, rfl, by rw [HE.out]; exact HO4.out, HB4.out⟩ HP0.out.hb
end Go.Proofs.Ytpajndeongcjbaa
