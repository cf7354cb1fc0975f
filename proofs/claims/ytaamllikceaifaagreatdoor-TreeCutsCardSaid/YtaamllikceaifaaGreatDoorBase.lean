/-
  Contracts of the parser's least methods: what only reads.
-/
import Derived.Test.YtaamllikceaifaaGreatDoorPmem
namespace Go.Proofs.YtaamllikceaifaaGreatDoor
open Go.RowKit Sp Tr
set_option linter.unusedVariables false

theorem aheadOk {E : PE} {s : S} {k : Nat} {t : Tok} (h : E.toks[s.read + k]? = some t) : ahd E s k = t := by simp [ahd, List.getD, h]
theorem aheadEnd {E : PE} {s : S} {k : Nat} (h : ¬ s.read + k < E.toks.length) : ahd E s k = E.fin := by
  have e : E.toks[s.read + k]? = none := List.getElem?_eq_none (Nat.not_lt.1 h)
  simp [ahd, List.getD, e]
theorem drN {B : Nat} {a w : World} (h : Below B a w) (n : Nat) : Below B a (w.drewN n) := ⟨h.os, h.tape, h.output, h.size, h.block⟩
theorem below4 {B : Nat} {a w : World} {b : Nat} {x0 x1 x2 x3 : Value} (h : Below B a w) (hb : B ≤ b) :
    Below B a ((((w.setCell ⟨b, 0, none⟩ x0).setCell ⟨b, 1, none⟩ x1).setCell ⟨b, 2, none⟩ x2).setCell ⟨b, 3, none⟩ x3) := (((h.setCell hb _).setCell hb _).setCell hb _).setCell hb _
theorem below9 {B : Nat} {a w : World} {b : Nat} {x0 x1 x2 x3 x4 x5 x6 x7 x8 : Value} (h : Below B a w) (hb : B ≤ b) :
    Below B a (((((((((w.setCell ⟨b, 0, none⟩ x0).setCell ⟨b, 1, none⟩ x1).setCell ⟨b, 2, none⟩ x2).setCell ⟨b, 3, none⟩ x3).setCell ⟨b, 4, none⟩ x4).setCell ⟨b, 5, none⟩ x5).setCell ⟨b, 6, none⟩ x6).setCell ⟨b, 7, none⟩ x7).setCell ⟨b, 8, none⟩ x8) :=
  ((((((((h.setCell hb _).setCell hb _).setCell hb _).setCell hb _).setCell hb _).setCell hb _).setCell hb _).setCell hb _).setCell hb _
theorem nv4 {w : World} {b : Nat} {x0 x1 x2 x3 : Value} {t : TypeId} (h : w.heap[b]? = some (.cells #[x0, x1, x2, x3] t (0, 0))) :
    w.cell? ⟨b, 0, none⟩ = some x0 ∧ w.cell? ⟨b, 1, none⟩ = some x1 ∧ w.cell? ⟨b, 2, none⟩ = some x2 ∧ w.cell? ⟨b, 3, none⟩ = some x3 ∧
      w.frozen? ⟨b, 0, none⟩ = false ∧ w.frozen? ⟨b, 1, none⟩ = false ∧ w.frozen? ⟨b, 2, none⟩ = false ∧ w.frozen? ⟨b, 3, none⟩ = false := by
  refine ⟨?_, ?_, ?_, ?_, ?_, ?_, ?_, ?_⟩ <;> first | (rw [cell_of_row w b _ _ _ _ h]; rfl) | simp [World.frozen?, h]
theorem nv1 {w : World} {b : Nat} {x0 : Value} {t : TypeId} (h : w.heap[b]? = some (.cells #[x0] t (0, 0))) : w.cell? ⟨b, 0, none⟩ = some x0 ∧ w.frozen? ⟨b, 0, none⟩ = false := by
  refine ⟨?_, ?_⟩ <;> first | (rw [cell_of_row w b _ _ _ _ h]; rfl) | simp [World.frozen?, h]
theorem nv9 {w : World} {b : Nat} {x0 x1 x2 x3 x4 x5 x6 x7 x8 : Value} {t : TypeId} (h : w.heap[b]? = some (.cells #[x0, x1, x2, x3, x4, x5, x6, x7, x8] t (0, 0))) :
    w.cell? ⟨b, 0, none⟩ = some x0 ∧ w.cell? ⟨b, 1, none⟩ = some x1 ∧ w.cell? ⟨b, 2, none⟩ = some x2 ∧ w.cell? ⟨b, 3, none⟩ = some x3 ∧ w.cell? ⟨b, 4, none⟩ = some x4 ∧ w.cell? ⟨b, 5, none⟩ = some x5 ∧ w.cell? ⟨b, 6, none⟩ = some x6 ∧ w.cell? ⟨b, 7, none⟩ = some x7 ∧ w.cell? ⟨b, 8, none⟩ = some x8 ∧
      w.frozen? ⟨b, 0, none⟩ = false ∧ w.frozen? ⟨b, 1, none⟩ = false ∧ w.frozen? ⟨b, 2, none⟩ = false ∧ w.frozen? ⟨b, 3, none⟩ = false ∧ w.frozen? ⟨b, 4, none⟩ = false ∧ w.frozen? ⟨b, 5, none⟩ = false ∧ w.frozen? ⟨b, 6, none⟩ = false ∧ w.frozen? ⟨b, 7, none⟩ = false ∧ w.frozen? ⟨b, 8, none⟩ = false := by
  refine ⟨?_, ?_, ?_, ?_, ?_, ?_, ?_, ?_, ?_, ?_, ?_, ?_, ?_, ?_, ?_, ?_, ?_, ?_⟩ <;> first | (rw [cell_of_row w b _ _ _ _ h]; rfl) | simp [World.frozen?, h]
theorem new_at {w w1 : World} {o : Obj} (hb : Below (w.alloc o).heap.size (w.alloc o) w1) : w1.heap[w.heap.size]? = some o := (hb.block _ (by simp)).trans (heap_alloc_new w o)
theorem ahead_at {w : World} {c : PC} {vn vt : Value} {E : PE} {s : S} (h : PIn w c vn vt E s) (k : Nat) (hk : k ≤ 2) :
    Calls Tryz.prog 51 #[.pointer (some ⟨c.p, 0, none⟩), .int .i64 k] w (RPost (tkV (ahd E s k)) w) := by
  obtain ⟨d0, d1, d2, d3, d4, d5, _, _, _, _⟩ := h.cells
  have hp := lt_heap h.head
  have hrd := h.rd
  have htl := h.tl
  unfold big at hrd
  by_cases hlt : s.read + k < E.toks.length
  · obtain ⟨t, ht⟩ : ∃ t, E.toks[s.read + k]? = some t := ⟨_, List.getElem?_eq_getElem hlt⟩
    obtain ⟨c0, c1, c2, c3⟩ := h.tok ht
    obtain ⟨cs, ty, hgg, _⟩ := h.toks
    have hg := lt_heap hgg
    rw [aheadOk ht]
    have q1 : (s.read : Int) + k < E.toks.length := by omega
    have q0 : 0 ≤ (s.read : Int) + k := by omega
    have q2 : ((s.read : Int) + k).toNat = s.read + k := by omega
    clear h ht hgg
    go_enter Tryz.func51, Tryz.ntmps51
    go_wp2
    go_quiet (fail)
    go_wp2
    go_region
    all_goals go_wp2
    all_goals exact bodyPost_ret (v := tkV t) (by simp [results, Tryz.results51, go_sem] <;> rfl) rfl ⟨rfl, ((((drN ((Below.refl _ _).alloc (Nat.le_refl _) _) _).setCell (Nat.le_refl _) _).setCell (Nat.le_refl _) _).setCell (Nat.le_refl _) _).setCell (Nat.le_refl _) _⟩
  · have e := aheadEnd hlt
    rw [e]
    have q1 : ¬ (s.read : Int) + k < E.toks.length := by omega
    clear h
    go_enter Tryz.func51, Tryz.ntmps51
    go_wp2
    go_quiet (fail)
    go_wp2
    exact bodyPost_ret (v := tkV E.fin) (by simp [results, Tryz.results51, go_sem] <;> rfl) rfl ⟨rfl, ((((drN ((Below.refl _ _).alloc (Nat.le_refl _) _) _).setCell (Nat.le_refl _) _).setCell (Nat.le_refl _) _).setCell (Nat.le_refl _) _).setCell (Nat.le_refl _) _⟩
theorem fld0 (a b c d : Value) (w : World) : (Instr.field 65 (.agg #[a, b, c, d]) 0).run Tryz.prog w = .ok a w := by kernel_rfl
theorem fld1 (a b c d : Value) (w : World) : (Instr.field 65 (.agg #[a, b, c, d]) 1).run Tryz.prog w = .ok b w := by kernel_rfl
theorem fld2 (a b c d : Value) (w : World) : (Instr.field 65 (.agg #[a, b, c, d]) 2).run Tryz.prog w = .ok c w := by kernel_rfl
theorem fld3 (a b c d : Value) (w : World) : (Instr.field 65 (.agg #[a, b, c, d]) 3).run Tryz.prog w = .ok d w := by kernel_rfl
theorem ahead_0 {w : World} {c : PC} {vn vt : Value} {E : PE} {s : S} (h : PIn w c vn vt E s) :
    Calls Tryz.prog 51 #[.pointer (some ⟨c.p, 0, none⟩), .int .i64 0] w (RPost (tkV (nowT E s)) w) := ahead_at h 0 (by omega)
theorem ahead_1 {w : World} {c : PC} {vn vt : Value} {E : PE} {s : S} (h : PIn w c vn vt E s) :
    Calls Tryz.prog 51 #[.pointer (some ⟨c.p, 0, none⟩), .int .i64 1] w (RPost (tkV (ahd E s 1)) w) := ahead_at h 1 (by omega)
theorem ahead_2 {w : World} {c : PC} {vn vt : Value} {E : PE} {s : S} (h : PIn w c vn vt E s) :
    Calls Tryz.prog 51 #[.pointer (some ⟨c.p, 0, none⟩), .int .i64 2] w (RPost (tkV (ahd E s 2)) w) := ahead_at h 2 (by omega)
theorem now_any {w : World} {c : PC} {vn vt : Value} {E : PE} {s : S} (h : PIn w c vn vt E s) :
    Calls Tryz.prog 27 #[.pointer (some ⟨c.p, 0, none⟩)] w (RPost (tkV (nowT E s)) w) := by
  have H := Lib.hid h; clear h
  go_enter Tryz.func27, Tryz.ntmps27
  go_wp2_with ((with_reducible refine (ahead_0 (H.out.alloc _)).mono ?_); rintro e w1 ⟨rfl, hb⟩; have hsz := hb.size; obtain ⟨f0, f1, f2, f3, g0, g1, g2, g3⟩ := nv4 (new_at hb); have HB := Lib.hid hb; clear hb; dsimp only [tkV])
  exact bodyPost_ret (v := tkV (nowT E s)) (by simp [results, Tryz.results27, go_sem, f0, f1, f2, f3] <;> rfl) rfl ⟨rfl, ((((((Below.refl _ _).alloc (Nat.le_refl _) _).trans (HB.out.mono (by simp))).setCell (Nat.le_refl _) _).setCell (Nat.le_refl _) _).setCell (Nat.le_refl _) _).setCell (Nat.le_refl _) _⟩
theorem same_any (t : Tok) (x : List UInt8) (w : World) :
    Calls Tryz.prog 95 #[tkV t, .string (bt x)] w (RPost (.bool (sameT t x)) w) := by
  have hI := is_any (bt x)
  go_enter Tryz.func95, Tryz.ntmps95
  go_wp2_with ((with_reducible refine (hI _).mono ?_); rintro e w1 ⟨rfl, rfl⟩)
  all_goals (go_ret; exact ⟨ret_bool (by unfold sameT; simp_all), (Below.refl _ _).alloc (Nat.le_refl _) _⟩)
theorem is_p {w : World} {c : PC} {vn vt : Value} {E : PE} {s : S} (h : PIn w c vn vt E s) (x : List UInt8) :
    Calls Tryz.prog 94 #[.pointer (some ⟨c.p, 0, none⟩), .string (bt x)] w (RPost (.bool (isT E s x)) w) := by
  have H := Lib.hid h; clear h
  go_enter Tryz.func94, Tryz.ntmps94
  go_wp2_with (first | ((with_reducible refine (now_any H.out).mono ?_); rintro e w1 ⟨rfl, hb⟩; have HB := Lib.hid hb; clear hb) | ((with_reducible refine (same_any _ _ _).mono ?_); rintro e w2 ⟨rfl, hb⟩; have HC := Lib.hid hb; clear hb))
  go_ret
  exact ⟨rfl, HB.out.trans (HC.out.mono HB.out.size)⟩
theorem sign_p {w : World} {c : PC} {vn vt : Value} {E : PE} {s : S} (h : PIn w c vn vt E s) :
    Calls Tryz.prog 152 #[.pointer (some ⟨c.p, 0, none⟩)] w (RPost (.string (bt (sgn E s))) w) := by
  have H := Lib.hid h; clear h
  obtain ⟨t, ht⟩ : ∃ t, nowT E s = t := ⟨_, rfl⟩
  have hN : ∀ {w}, PIn w c vn vt E s → Calls Tryz.prog 27 #[.pointer (some ⟨c.p, 0, none⟩)] w (RPost (tkV t) w) := fun h => ht ▸ now_any h
  by_cases hk : t.k = 4
  · have e1 : (t.k == 4) = true := by simpa using hk
    have e2 : sgn E s = t.text := by unfold sgn; rw [ht, if_pos hk]
    rw [e2]
    have y0 := fld0
    have y1 := fld1
    clear hk e2 ht
    go_enter Tryz.func152, Tryz.ntmps152
    go_wp2_with (first | ((with_reducible refine (hN H.out).mono ?_); rintro e w1 ⟨rfl, hb⟩; have HB := Lib.hid hb; have H1 := Lib.hid (H.out.below hb); clear hb) | ((with_reducible refine (hN H1.out).mono ?_); rintro e w2 ⟨rfl, hb⟩; have HC := Lib.hid hb; clear hb))
    go_ret
    exact ⟨rfl, HB.out.trans (HC.out.mono HB.out.size)⟩
  · have e1 : (t.k == 4) = false := by simpa using hk
    have e2 : sgn E s = [] := by unfold sgn; rw [ht, if_neg hk]
    rw [e2]
    have y0 := fld0
    have y1 := fld1
    clear hk e2 ht
    go_enter Tryz.func152, Tryz.ntmps152
    go_wp2_with ((with_reducible refine (hN H.out).mono ?_); rintro e w1 ⟨rfl, hb⟩; have HB := Lib.hid hb; clear hb)
    go_ret
    exact ⟨rfl, HB.out⟩
theorem node_p {w : World} {c : PC} {vn vt : Value} {E : PE} {s : S} (h : PIn w c vn vt E s) (k : Int) :
    Calls Tryz.prog 70 #[.pointer (some ⟨c.p, 0, none⟩), .int .i64 k] w (RPost (ndV (nodeAt E s k)) w) := by
  have H := Lib.hid h; clear h
  obtain ⟨t, ht⟩ : ∃ t, nowT E s = t := ⟨_, rfl⟩
  have hN : ∀ {w}, PIn w c vn vt E s → Calls Tryz.prog 27 #[.pointer (some ⟨c.p, 0, none⟩)] w (RPost (tkV t) w) := fun h => ht ▸ now_any h
  have e : nodeAt E s k = ⟨k, -1, -1, -1, -1, [], 0, 0, t.pos⟩ := by unfold nodeAt; rw [ht]
  rw [e]
  have y3 := fld3
  clear e ht
  go_enter Tryz.func70, Tryz.ntmps70
  go_wp2_with ((with_reducible refine (hN (H.out.alloc _)).mono ?_); rintro e w1 ⟨rfl, hb⟩; have hsz := hb.size; have hn := new_at hb; obtain ⟨f0, f1, f2, f3, f4, f5, f6, f7, f8, g0, g1, g2, g3, g4, g5, g6, g7, g8⟩ := nv9 hn; clear hn; have HB := Lib.hid hb; clear hb)
  exact bodyPost_ret (v := ndV ⟨k, -1, -1, -1, -1, [], 0, 0, t.pos⟩) (by simp [results, Tryz.results70, go_sem, f0, f1, f2, f3, f4, f5, f6, f7, f8] <;> rfl) rfl ⟨rfl, below9 (((Below.refl _ _).alloc (Nat.le_refl _) _).trans (HB.out.mono (by simp))) (Nat.le_refl _)⟩
theorem begins_no {t : Tok} (h : t.k ≠ 2) (w : World) : Calls Tryz.prog 149 #[tkV t] w (RPost (.bool false) w) := by
  have e1 : (t.k == 2) = false := by simpa using h
  go_enter Tryz.func149, Tryz.ntmps149
  go_wp2
  go_quiet (fail)
  go_wp2
  go_ret
  exact ⟨rfl, drN ((Below.refl _ _).alloc (Nat.le_refl _) _) _⟩
end Go.Proofs.YtaamllikceaifaaGreatDoor
