/-
  Contracts of the parser's methods that read a token.
  The contract of add: a node more.
  The contract of slices.Index at types, and of numbered.
  Where a parser stands in the midst of a method: what has come since it began, and the method's own variables.
  Contracts of plain, typed and counted.
  Contracts of typed, leave and deeper.
-/
import Derived.Test.YtaamllikceaifaaGreatDoorBase
import Derived.Deep.RegionLaw
import Derived.Deep.AppendLies
import Derived.Laws.StructEq
import Derived.Lib.QuietBelow
import Derived.LoopN
import Derived.Deep.LoopGhost
import Derived.Defers
namespace Go.Proofs.YtaamllikceaifaaGreatDoor
open Go.RowKit Sp Tr
set_option linter.unusedVariables false

theorem take_p {w : World} {c : PC} {vn vt : Value} {E : PE} {s s' : S} (h : PIn w c vn vt E s) (hs : takeT s = some s') :
    Calls Tryz.prog 127 #[.pointer (some ⟨c.p, 0, none⟩)] w (Post c vn vt E (tkV (nowT E s)) s' w) := by
  unfold takeT at hs
  by_cases hc : s.depth ≤ 100 ∧ s.read < big
  · rw [if_pos hc] at hs
    injection hs with hs
    subst hs
    obtain ⟨hd, hr⟩ := hc
    obtain ⟨_, _, _, _, _, d5, d6, _, _, _⟩ := h.cells
    have hp := lt_heap h.head
    have e1 : decide ((100 : Int) < (s.depth : Int)) = false := by simp; omega
    have e2 : ¬ (100 : Int) < (s.depth : Int) := by omega
    have hrr := hr
    unfold big at hr
    have H := Lib.hid h; clear h
    obtain ⟨t, ht⟩ : ∃ t, nowT E s = t := ⟨_, rfl⟩
    have hN : ∀ {w}, PIn w c vn vt E s → Calls Tryz.prog 27 #[.pointer (some ⟨c.p, 0, none⟩)] w (RPost (tkV t) w) := fun h => ht ▸ now_any h
    rw [ht]
    clear ht
    go_enter Tryz.func127, Tryz.ntmps127
    go_wp2_with ((with_reducible refine (hN (H.out.alloc _)).mono ?_); rintro e w1 ⟨rfl, hb⟩; have hsz : w.heap.size < w1.heap.size := (by have := hb.size; simp at this; omega); have hn1 : ¬ c.p = w.heap.size := (by omega); have hn2 : ¬ w.heap.size = c.p := (by omega); obtain ⟨f0, f1, f2, f3, g0, g1, g2, g3⟩ := nv4 (new_at hb); have H1 := Lib.hid ((H.out.alloc _).below hb); obtain ⟨_, _, _, _, _, d51, _, _, _, _⟩ := H1.out.cells; have g51 := H1.out.frozen 5; have hp1 := lt_heap H1.out.head; have HB := Lib.hid hb; clear hb; dsimp only [tkV])
    refine bodyPost_ret (v := tkV t) (by simp [results, Tryz.results127, go_sem, f0, f1, f2, f3, hsz] <;> rfl) rfl ⟨vn, vt, rfl, ((H1.out.putRead (s.read + 1) (by omega)).set4 (H.out.fresh (Nat.le_refl _))).alloc _, ?_⟩
    exact ((((Turn.of_below (((Below.refl _ _).alloc (Nat.le_refl _) _).trans (HB.out.mono (by simp)))).setP 5 _).set4 (Nat.le_refl _)).alloc _)
  · rw [if_neg hc] at hs
    cases hs
theorem took_yes {w : World} {c : PC} {vn vt : Value} {E : PE} {s s' : S} (h : PIn w c vn vt E s) {x : List UInt8} (hx : isT E s x = true) (hs : takeT s = some s') :
    Calls Tryz.prog 99 #[.pointer (some ⟨c.p, 0, none⟩), .string (bt x)] w (Post c vn vt E (.bool true) s' w) := by
  have H := Lib.hid h; clear h
  have HS := Lib.hid hs; clear hs
  have hI := fun {w} (h : PIn w c vn vt E s) => hx ▸ is_p h x
  clear hx
  go_enter Tryz.func99, Tryz.ntmps99
  go_wp2_with (first | ((with_reducible refine (hI H.out).mono ?_); rintro e w1 ⟨rfl, hb⟩; have H1 := Lib.hid (H.out.below hb); have HB := Lib.hid hb; clear hb) | ((with_reducible refine (take_p H1.out HS.out).mono ?_); rintro e w2 ⟨vn', vt', rfl, h2, t2⟩; have H2 := Lib.hid h2; have T2 := Lib.hid t2; clear h2 t2))
  go_ret
  exact ⟨_, _, rfl, H2.out, (Turn.of_below HB.out).trans T2.out⟩
theorem took_no {w : World} {c : PC} {vn vt : Value} {E : PE} {s : S} (h : PIn w c vn vt E s) {x : List UInt8} (hx : isT E s x = false) :
    Calls Tryz.prog 99 #[.pointer (some ⟨c.p, 0, none⟩), .string (bt x)] w (RPost (.bool false) w) := by
  have H := Lib.hid h; clear h
  have hI := fun {w} (h : PIn w c vn vt E s) => hx ▸ is_p h x
  clear hx
  go_enter Tryz.func99, Tryz.ntmps99
  go_wp2_with ((with_reducible refine (hI H.out).mono ?_); rintro e w1 ⟨rfl, hb⟩; have HB := Lib.hid hb; clear hb)
  go_ret
  exact ⟨rfl, HB.out⟩
theorem need_p {w : World} {c : PC} {vn vt : Value} {E : PE} {s s' : S} (h : PIn w c vn vt E s) {x : List UInt8} (hs : needT E x s = some s') :
    Calls Tryz.prog 102 #[.pointer (some ⟨c.p, 0, none⟩), .string (bt x)] w (Post c vn vt E (.tuple #[]) s' w) := by
  unfold needT at hs
  by_cases hx : isT E s x = true
  · rw [if_pos hx] at hs
    have H := Lib.hid h; clear h
    have HS := Lib.hid hs; clear hs
    have HX := Lib.hid hx; clear hx
    go_enter Tryz.func102, Tryz.ntmps102
    go_wp2_with ((with_reducible refine (took_yes H.out HX.out HS.out).mono ?_); rintro e w2 ⟨vn', vt', rfl, h2, t2⟩; have H2 := Lib.hid h2; have T2 := Lib.hid t2; clear h2 t2)
    go_end0
    exact ⟨_, _, rfl, H2.out, T2.out⟩
  · rw [if_neg hx] at hs
    cases hs
theorem kind_p {w : World} {c : PC} {vn vt : Value} {E : PE} {s s' : S} {k : Int} {t : Tok} (h : PIn w c vn vt E s) (hs : kindT E k s = some (t, s')) :
    Calls Tryz.prog 126 #[.pointer (some ⟨c.p, 0, none⟩), .int .i64 k] w (Post c vn vt E (tkV t) s' w) := by
  unfold kindT at hs
  by_cases hx : (nowT E s).k = k
  · rw [if_pos hx] at hs
    obtain ⟨s1, hs1, hs2⟩ := Option.map_eq_some_iff.1 hs
    injection hs2 with h1 h2
    subst h2
    have H := Lib.hid h; clear h
    have HS := Lib.hid hs1; clear hs hs1
    have hN : ∀ {w}, PIn w c vn vt E s → Calls Tryz.prog 27 #[.pointer (some ⟨c.p, 0, none⟩)] w (RPost (tkV t) w) := fun h => h1 ▸ now_any h
    have hT : ∀ {w}, PIn w c vn vt E s → Calls Tryz.prog 127 #[.pointer (some ⟨c.p, 0, none⟩)] w (Post c vn vt E (tkV t) s1 w) := fun h => h1 ▸ take_p h HS.out
    rw [h1] at hx
    have e1 : (t.k != k) = false := by simp [hx]
    have y0 := fld0
    clear hx h1
    go_enter Tryz.func126, Tryz.ntmps126
    go_wp2_with (first | ((with_reducible refine (hN (H.out.alloc _)).mono ?_); rintro e w1 ⟨rfl, hb⟩; have hsz : w.heap.size < w1.heap.size := (by have := hb.size; simp at this; omega); have hh := new_at hb; have H1 := Lib.hid ((H.out.alloc _).below hb); have HB := Lib.hid hb; clear hb) | ((with_reducible refine (hT H1.out).mono ?_); rintro e w2 ⟨vn', vt', rfl, h2, t2⟩; obtain ⟨f0, f1, f2, f3, g0, g1, g2, g3⟩ := nv4 ((t2.kept (H.out.fresh (Nat.le_refl _)) hsz).trans hh); have H2 := Lib.hid h2; have T2 := Lib.hid t2; clear h2 t2 hh; dsimp only [tkV]))
    refine bodyPost_ret (v := tkV t) (by simp [results, Tryz.results126, go_sem, f0, f1, f2, f3] <;> rfl) rfl ⟨_, _, rfl, H2.out.set4 ((H.out.fresh (Nat.le_refl _)).turn hsz T2.out), ?_⟩
    exact ((Turn.of_below (((Below.refl _ _).alloc (Nat.le_refl _) _).trans (HB.out.mono (by simp)))).trans T2.out).set4 (Nat.le_refl _)
  · rw [if_neg hx] at hs
    cases hs
theorem name_p {w : World} {c : PC} {vn vt : Value} {E : PE} {s s' : S} {t : Tok} (h : PIn w c vn vt E s) (hs : kindT E 1 s = some (t, s')) :
    Calls Tryz.prog 98 #[.pointer (some ⟨c.p, 0, none⟩)] w (Post c vn vt E (.string (bt t.text)) s' w) := by
  have H := Lib.hid h; clear h
  have HS := Lib.hid hs; clear hs
  have y1 := fld1
  go_enter Tryz.func98, Tryz.ntmps98
  go_wp2_with ((with_reducible refine (kind_p H.out HS.out).mono ?_); rintro e w2 ⟨vn', vt', rfl, h2, t2⟩; have H2 := Lib.hid h2; have T2 := Lib.hid t2; clear h2 t2)
  go_ret
  exact ⟨_, _, rfl, H2.out, T2.out⟩
theorem number_p {w : World} {c : PC} {vn vt : Value} {E : PE} {s s' : S} {t : Tok} (h : PIn w c vn vt E s) (hs : kindT E 3 s = some (t, s')) :
    Calls Tryz.prog 130 #[.pointer (some ⟨c.p, 0, none⟩)] w (Post c vn vt E (.int .i64 t.n) s' w) := by
  have H := Lib.hid h; clear h
  have HS := Lib.hid hs; clear hs
  have y2 := fld2
  go_enter Tryz.func130, Tryz.ntmps130
  go_wp2_with ((with_reducible refine (kind_p H.out HS.out).mono ?_); rintro e w2 ⟨vn', vt', rfl, h2, t2⟩; have H2 := Lib.hid h2; have T2 := Lib.hid t2; clear h2 t2)
  go_ret
  exact ⟨_, _, rfl, H2.out, T2.out⟩
end Go.Proofs.YtaamllikceaifaaGreatDoor
namespace Go.Proofs.YtaamllikceaifaaGreatDoor
open Go.RowKit Sp Tr
set_option linter.unusedVariables false

/-- One node more. -/
theorem PIn.grow {w w2 w1 : World} {c : PC} {vn vt v' : Value} {E : PE} {s : S} {nd : Nd} {H : Nat} (h : PIn w c vn vt E s) (hb : Below w.heap.size w w2) (hg : w2.grownBy w1 vn.ownBlock)
    (hown : w1.ownsRow c.B 33 9 v' (s.nodes.length + 1) (s.nodes.flatMap ndCells ++ ndCells nd)) (hat : vn.ownBlock = v'.ownBlock ∨ v'.ownBlock = some H) (hH : w.heap.size ≤ H) (hl : s.nodes.length < 8192) :
    PIn (w1.setCell ⟨c.p, 7, none⟩ v') c v' vt E { s with nodes := s.nodes ++ [nd] } ∧ Turn c.p vn vt v' vt w (w1.setCell ⟨c.p, 7, none⟩ v') := by
  have hp := lt_heap h.head
  have h1 := h.gB; have h2 := h.ge; have h3 := h.g0
  have hsz := hb.size
  have hsz1 := hg.size
  have hblock : ∀ k, k < w.heap.size → vn.ownBlock ≠ some k → w1.heap[k]? = w.heap[k]? := fun k hk hn =>
    (hg.block k (Nat.lt_of_lt_of_le hk hsz) (Ne.symm hn)).trans (hb.block k hk)
  have hnl : ∀ k, k < c.B → vn.ownBlock ≠ some k := fun k hk e => by have := (h.nodes.lt k e).1; omega
  have hz : ∀ k, k ≠ c.p → (w1.setCell ⟨c.p, 7, none⟩ v').heap[k]? = w1.heap[k]? := fun k hk => Below.heap_setCell _ _ _ _ (by simpa using hk)
  have hap : v'.ownBlock ≠ some c.p := by
    rcases hat with e | e
    · rw [← e]; exact h.apn
    · rw [e]; intro e; injection e with e; omega
  obtain ⟨cs, ty, htk, ht2⟩ := h.toks
  obtain ⟨ty2, fr2, hnm⟩ := h.names
  refine ⟨⟨?_, ⟨cs, ty, ?_, ht2⟩, ?_, ?_, ⟨ty2, fr2, ?_⟩, h.g0, h.gB, h.ge, hap, h.apt, ?_, h.rd, h.dp, ?_, h.lt, h.tl, h.kn⟩, ⟨?_, ?_, ?_, ?_, ?_, ?_, fun _ e => .inl e⟩⟩
  · rw [cells_set ((hblock c.p hp h.apn).trans h.head)]; rfl
  · exact (hz _ (by omega)).trans ((hblock _ (by omega) (hnl _ (by omega))).trans htk)
  · have e1 : (s.nodes ++ [nd]).length = s.nodes.length + 1 := by simp
    have e2 : (s.nodes ++ [nd]).flatMap ndCells = s.nodes.flatMap ndCells ++ ndCells nd := by simp
    show World.ownsRow _ _ _ _ _ (s.nodes ++ [nd]).length ((s.nodes ++ [nd]).flatMap ndCells)
    rw [e1, e2]
    exact own_keep hown fun g hgg => hz g (fun e => hap (by rw [hgg, e]))
  · refine own_keep h.types fun g hgg => ?_
    have hlt := (h.types.lt g hgg)
    exact (hz g (fun e => h.apt (by rw [hgg, e]))).trans (hblock g hlt.2 (fun e => h.apx g e hgg))
  · exact (hz _ (by omega)).trans ((hblock _ (by omega) (hnl _ (by omega))).trans hnm)
  · intro k hk ht
    rcases hat with e | e
    · exact h.apx k (by rw [e]; exact hk) ht
    · rw [e] at hk; injection hk with hk; have := (h.types.lt k ht).2; omega
  · show (s.nodes ++ [nd]).length ≤ 8192
    simp; omega
  · exact hg.os.trans hb.os
  · exact hg.tape.trans hb.tape
  · exact hg.output.trans hb.output
  · simp [World.setCell]; omega
  · intro k hk hn hv ht
    rw [hz k hn]
    exact hblock k hk hv
  · intro g hgg
    rcases hat with e | e
    · left; rw [e]; exact hgg
    · right; rw [e] at hgg; injection hgg with hgg; omega
theorem infoNd : (Tryz.prog.info? 33).map (fun i => (i.zero, i.size, i.bytes)) = some (some (.agg #[.int .i64 0, .int .i64 0, .int .i64 0, .int .i64 0, .int .i64 0, .string ⟨#[]⟩, .int .i64 0, .int .i64 0, .int .i64 0]), 9, 80) := by kernel_rfl
theorem row_slice {w : World} {B size n : Nat} {e : TypeId} {v : Value} {xs : List Value} (h : w.ownsRow B e size v n xs) : ∃ a c, v = .slice a n c := by
  rcases h.2 with ⟨rfl, rfl⟩ | ⟨g, cap, cur, rfl, _⟩
  · exact ⟨_, _, rfl⟩
  · exact ⟨_, _, rfl⟩
theorem grow_head {w w2 w1 : World} {c : PC} {vn vt : Value} {E : PE} {s : S} (h : PIn w c vn vt E s) (hb : Below w.heap.size w w2) (hg : w2.grownBy w1 vn.ownBlock) :
    w1.cell? ⟨c.p, 7, none⟩ = some vn ∧ w1.frozen? ⟨c.p, 7, none⟩ = false := by
  have hp := lt_heap h.head
  have hh : w1.heap[c.p]? = _ := (hg.block c.p (Nat.lt_of_lt_of_le hp hb.size) (Ne.symm h.apn)).trans ((hb.block c.p hp).trans h.head)
  exact ⟨by rw [cell_of_row w1 c.p _ _ _ _ hh]; rfl, by simp [World.frozen?, hh]⟩
theorem alloc_belowD (w : World) (o : Obj) : Below w.heap.size w (w.alloc o).drew := ((Below.refl _ _).alloc (Nat.le_refl _) o).drew
set_option maxHeartbeats 2000000 in
theorem add_p {w : World} {c : PC} {vn vt : Value} {E : PE} {s s' : S} {nd : Nd} {r : Int} (h : PIn w c vn vt E s) (hs : addT nd s = some (r, s')) :
    Calls Tryz.prog 71 #[.pointer (some ⟨c.p, 0, none⟩), ndV nd] w (Post c vn vt E (.int .i64 r) s' w) := by
  unfold addT at hs
  by_cases hl : s.nodes.length < 8192
  · rw [if_pos hl] at hs
    injection hs with hs
    injection hs with hr hs
    subst hr hs
    have e1 : ((s.nodes.length : Int) == 8192) = false := by simp; omega
    have hp := lt_heap h.head
    obtain ⟨_, _, _, _, _, _, _, d7, _, _⟩ := h.cells
    obtain ⟨a, cap, rfl⟩ := row_slice h.nodes
    have H := Lib.hid h; clear h
    dsimp only [ndV]
    go_enter Tryz.func71, Tryz.ntmps71
    go_wp2
    obtain ⟨wr, hwr⟩ : ∃ wr : World, w.alloc (.cells #[.int .i64 nd.kind, .int .i64 nd.a, .int .i64 nd.b, .int .i64 nd.c, .int .i64 nd.d, .string (bt nd.text), .int .i64 nd.n, .int .i64 nd.ty, .int .i64 nd.pos] 33) = wr := ⟨_, rfl⟩
    have HR : Hid (PIn wr c _ vt E s) := Lib.hid (hwr ▸ H.out.alloc _)
    have hbr : Below w.heap.size w wr := hwr ▸ (Below.refl _ _).alloc (Nat.le_refl _) _
    have hh : wr.heap[w.heap.size]? = some (.cells #[.int .i64 nd.kind, .int .i64 nd.a, .int .i64 nd.b, .int .i64 nd.c, .int .i64 nd.d, .string (bt nd.text), .int .i64 nd.n, .int .i64 nd.ty, .int .i64 nd.pos] 33 (0, 0)) := by rw [← hwr]; exact heap_alloc_new w _
    obtain ⟨f0, f1, f2, f3, f4, f5, f6, f7, f8, _, _, _, _, _, _, _, _, _⟩ := nv9 hh
    have hsz : w.heap.size < wr.heap.size := lt_heap hh
    rw [hwr]
    obtain ⟨i0, hi0, hz0, hz1, hz2⟩ := info_parts infoNd
    have d7r := HR.out.cells.2.2.2.2.2.2.2.1
    have hpr := lt_heap HR.out.head
    have hrow := HR.out.nodes
    have HB := Lib.hid hbr
    clear hh d7 hwr hbr
    go_region_law ((refine step_append_lies _ (by rfl) (.tmp 19) (.tmp 21) 23 (by rfl) c.B 33 i0 _ 9 80 Tryz.underlying23 hi0 hz0 hz1 hz2 rfl (by omega) _ s.nodes.length (s.nodes.flatMap ndCells) (by rfl) (by exact hrow.alloc _) ⟨wr.heap.size, 0, none⟩ 1 1 (ndCells nd) (by rfl) (by rfl) (by exact World.news_of_block (cs := #[.int .i64 nd.kind, .int .i64 nd.a, .int .i64 nd.b, .int .i64 nd.c, .int .i64 nd.d, .string (bt nd.text), .int .i64 nd.n, .int .i64 nd.ty, .int .i64 nd.pos]) (heap_alloc_new wr _)) (by simp [ndCells, Value.oneCell']) (by omega) (by unfold maxLen; omega) (by omega) (by have := HR.out.ge; simp; omega) (wr.heap.size + 1) (by simp) ?_); intro g cap2 w1 hown1 hgrow hat hlt1; have hw2 := alloc_belowD wr (.cells #[.int .i64 nd.kind, .int .i64 nd.a, .int .i64 nd.b, .int .i64 nd.c, .int .i64 nd.d, .string (bt nd.text), .int .i64 nd.n, .int .i64 nd.ty, .int .i64 nd.pos] 33); obtain ⟨ct1, cf1⟩ := grow_head HR.out hw2 hgrow; have HS := Lib.hid (PIn.grow (nd := nd) (H := wr.heap.size + 1) HR.out hw2 hgrow hown1 (hat.imp (fun e => e) (fun e => by simp [Value.ownBlock, e])) (by omega) hl); clear hown1 hgrow hat hw2)
    all_goals
      have d7s := HS.out.1.cells.2.2.2.2.2.2.2.1
      go_wp2
      go_ret
      exact ⟨_, _, by simp, HS.out.1, (Turn.of_below HB.out).trans HS.out.2⟩
  · rw [if_neg hl] at hs
    cases hs
end Go.Proofs.YtaamllikceaifaaGreatDoor
namespace Go.Proofs.YtaamllikceaifaaGreatDoor
open Go.RowKit Sp Tr
set_option linter.unusedVariables false

theorem flat_at {α : Type} (f : α → List Value) (k : Nat) (hf : ∀ a, (f a).length = k) : ∀ (X : List α) (i j : Nat) (x : α), X[i]? = some x → j < k → (X.flatMap f)[i * k + j]? = (f x)[j]?
  | [], i, j, t, h, _ => by simp at h
  | a :: ts, 0, j, t, h, hj => by
    simp at h; subst h
    simp only [List.flatMap_cons, Nat.zero_mul, Nat.zero_add]
    rw [List.getElem?_append_left (by rw [hf]; exact hj)]
  | a :: ts, i + 1, j, t, h, hj => by
    simp at h
    have ih := flat_at f k hf ts i j t h hj
    simp only [List.flatMap_cons] at ih ⊢
    rw [List.getElem?_append_right (by rw [hf, Nat.succ_mul]; omega), hf, show (i + 1) * k + j - k = i * k + j by rw [Nat.succ_mul]; omega]
    exact ih
/-- The four cells of a type. -/
theorem PIn.ty {w : World} {c : PC} {vn : Value} {g n cap : Nat} {E : PE} {s : S} (h : PIn w c vn (.slice (some ⟨g, 0, none⟩) n cap) E s) {i : Nat} {t : Ty} (hi : s.types[i]? = some t) :
    w.cell? ⟨g, i * 4, none⟩ = some (.int .i64 t.kind) ∧ w.cell? ⟨g, i * 4 + 1, none⟩ = some (.int .i64 t.elem) ∧ w.cell? ⟨g, i * 4 + 2, none⟩ = some (.int .i64 t.n) ∧ w.cell? ⟨g, i * 4 + 3, none⟩ = some (.string (bt t.name)) := by
  have hc := h.types.cells (g := g) rfl
  have hadd : ∀ j, (⟨g, 0, none⟩ : Addr).add j = ⟨g, j, none⟩ := fun j => by unfold Addr.add; split <;> simp_all
  have c : ∀ j, j < 4 → ∀ u, (tyCells t)[j]? = some u → w.cell? ⟨g, i * 4 + j, none⟩ = some u := fun j hj u hu => by
    have := hc (i * 4 + j) u (by rw [flat_at tyCells 4 (fun _ => rfl) s.types i j t hi hj]; exact hu)
    rwa [hadd] at this
  exact ⟨c 0 (by omega) _ rfl, c 1 (by omega) _ rfl, c 2 (by omega) _ rfl, c 3 (by omega) _ rfl⟩
theorem findT_append : ∀ (A D : List Ty) (x : Ty), findT (A ++ D) x = match findT A x with | some i => some i | none => (findT D x).map (· + A.length)
  | [], D, x => by simp [findT]
  | e :: A, D, x => by
    simp only [List.cons_append, findT]
    by_cases h : e = x
    · simp [h]
    · simp only [h, if_false]
      rw [findT_append A D x]
      cases findT A x with
      | some i => rfl
      | none =>
        cases findT D x with
        | none => rfl
        | some j => simp; omega
theorem take_snocY {T : List Ty} {k : Nat} {e : Ty} (h : T[k]? = some e) : T.take (k + 1) = T.take k ++ [e] := by
  rw [List.take_add_one, h]; rfl
theorem findT_next {T : List Ty} {x : Ty} {k : Nat} {e : Ty} (h : findT (T.take k) x = none) (he : T[k]? = some e) (hne : e ≠ x) : findT (T.take (k + 1)) x = none := by
  rw [take_snocY he, findT_append, h]
  simp [findT, hne]
theorem findT_here {T : List Ty} {x : Ty} {k : Nat} (h : findT (T.take k) x = none) (he : T[k]? = some x) : findT T x = some k := by
  have hk : k < T.length := (List.getElem?_eq_some_iff.1 he).1
  have e1 : T = T.take (k + 1) ++ T.drop (k + 1) := (List.take_append_drop _ _).symm
  rw [e1, findT_append, take_snocY he, findT_append, h]
  simp [findT]
  omega
theorem findT_lt {T : List Ty} {x : Ty} {i : Nat} (h : findT T x = some i) : i < T.length := by
  induction T generalizing i with
  | nil => simp [findT] at h
  | cons e T ih =>
    unfold findT at h
    split at h
    · simp at h; subst h; simp
    · obtain ⟨j, hj, rfl⟩ := Option.map_eq_some_iff.1 h
      have := ih hj
      simp; omega
theorem ty_eql (a b : Ty) (W : World) : (binOp .eql 36 (.agg #[.int .i64 a.kind, .int .i64 a.elem, .int .i64 a.n, .string (bt a.name)]) (.agg #[.int .i64 b.kind, .int .i64 b.elem, .int .i64 b.n, .string (bt b.name)])).run Tryz.prog W = .ok (.bool (decide (a = b))) W := by
  have hS : Tryz.prog.underlying 36 = some (.struct (Tryz.prog.fieldsOf 36)) := by kernel_rfl
  have hp : Tryz.prog.stoodInHeld 36 = false := by kernel_rfl
  rw [run_eql_struct, show (10000 : Nat) = 9999 + 1 from rfl, run_equalIn_agg W 9999 36 _ _ hS hp]
  have e : decide (a = b) = (a.kind == b.kind && a.elem == b.elem && a.n == b.n && a.name == b.name) := by
    rw [Bool.eq_iff_iff]
    simp only [decide_eq_true_eq, Bool.and_eq_true, beq_iff_eq]
    rw [← Ty.ext_iff']
    constructor
    · rintro ⟨h1, h2, h3, h4⟩; exact ⟨⟨⟨h1, h2⟩, h3⟩, h4⟩
    · rintro ⟨⟨⟨h1, h2⟩, h3⟩, h4⟩; exact ⟨h1, h2, h3, h4⟩
  rw [e]
  have u3 := Tryz.underlying3
  have a3 := Tryz.isAgg3
  have z3 := Tryz.sizeOf3
  have u9 := Tryz.underlying9
  have a9 := Tryz.isAgg9
  have z9 := Tryz.sizeOf9
  simp only [Program.fieldsOf, Tryz.underlying36]
  go_simp
  by_cases h1 : a.kind = b.kind <;> by_cases h2 : a.elem = b.elem <;> by_cases h3 : a.n = b.n <;> by_cases h4 : a.name = b.name <;> simp [h1, h2, h3, h4]
def idx (o : Option Nat) : Int := match o with | some i => i | none => -1
set_option maxHeartbeats 1000000 in
theorem index_any {w : World} {c : PC} {vn vt : Value} {E : PE} {s : S} (h : PIn w c vn vt E s) (x : Ty) :
    Calls Tryz.prog 138 #[vt, tyV x] w (RPost (.int .i64 (idx (findT s.types x))) w) := by
  obtain ⟨a, cap, rfl⟩ := row_slice h.types
  have hlt := h.lt
  have H := Lib.hid h; clear h
  dsimp only [tyV]
  go_enter Tryz.func138, Tryz.ntmps138
  go_wp2
  go_loopw [8] (fun i wr => ∃ k : Nat, k ≤ s.types.length ∧ i = .int .i64 k ∧ Hid (findT (s.types.take k) x = none) ∧ Hid (Below (w.heap.size + 1) (w.alloc (.cells #[.int .i64 x.kind, .int .i64 x.elem, .int .i64 x.n, .string (bt x.name)] 36)) wr)) (fun i wr => s.types.length - (intOf i).toNat)
  case atStart => exact ⟨0, Nat.zero_le _, rfl, Lib.hid rfl, Lib.hid (Below.refl _ _)⟩
  case round =>
    obtain ⟨k, hk, rfl, HF, HB⟩ := hrel
    have HW : Hid (Below w.heap.size w wr) := Lib.hid (((Below.refl _ _).alloc (Nat.le_refl _) _).trans (HB.out.mono (by omega)))
    have hh := new_at (HB.out.mono (Nat.le_of_eq (by simp)))
    obtain ⟨f0, f1, f2, f3, _, _, _, _⟩ := nv4 hh
    have hsz : w.heap.size < wr.heap.size := lt_heap hh
    clear hh
    by_cases hlk : k < s.types.length
    · obtain ⟨e, he⟩ : ∃ e, s.types[k]? = some e := ⟨_, List.getElem?_eq_getElem hlk⟩
      have hT2 := H.out.below (w' := wr) HW.out
      obtain ⟨g, cap2, hg, hg2, hg3⟩ := hT2.types.form (by omega)
      simp only [Value.slice.injEq] at hg
      obtain ⟨rfl, _, rfl⟩ := hg
      obtain ⟨c0, c1, c2, c3⟩ := hT2.ty he
      have q0 : (0 : Int) ≤ (k : Int) := Int.natCast_nonneg _
      have q1 : (k : Int) < (s.types.length : Int) := by omega
      clear hT2
      have yq := ty_eql x e
      by_cases hx : x = e
      · have HN := Lib.hid (findT_here HF.out (hx ▸ he))
        rw [decide_eq_true hx] at yq
        clear hx he
        go_wp2
        go_quiet (fail)
        go_wp2
        go_ret
        exact ⟨by rw [HN.out]; rfl, drN HW.out _⟩
      · have HN := Lib.hid (findT_next HF.out he (fun e => hx e.symm))
        rw [decide_eq_false hx] at yq
        clear hx he
        go_wp2
        go_quiet (fail)
        go_wp2
        go_roundw
        case rel => exact ⟨k + 1, by omega, by go_num, HN, Lib.hid (drN HB.out _)⟩
        case measure => simp [intOf]; omega
    · have hkl : k = s.types.length := by omega
      have hnf : findT s.types x = none := by have := HF.out; rwa [hkl, List.take_length] at this
      have HNF := Lib.hid hnf; clear hnf
      have q1 : ¬ (k : Int) < (s.types.length : Int) := by omega
      go_wp2
      go_ret
      exact ⟨by rw [HNF.out]; rfl, HW.out⟩
/-- One type more. -/
theorem PIn.growT {w w2 w1 : World} {c : PC} {vn vt v' : Value} {E : PE} {s : S} {nd : Ty} {H : Nat} (h : PIn w c vn vt E s) (hb : Below w.heap.size w w2) (hg : w2.grownBy w1 vt.ownBlock)
    (hown : w1.ownsRow c.B 36 4 v' (s.types.length + 1) (s.types.flatMap tyCells ++ tyCells nd)) (hat : vt.ownBlock = v'.ownBlock ∨ v'.ownBlock = some H) (hH : w.heap.size ≤ H) (hl : s.types.length < 256) :
    PIn (w1.setCell ⟨c.p, 8, none⟩ v') c vn v' E { s with types := s.types ++ [nd] } ∧ Turn c.p vn vt vn v' w (w1.setCell ⟨c.p, 8, none⟩ v') := by
  have hp := lt_heap h.head
  have h1 := h.gB; have h2 := h.ge; have h3 := h.g0
  have hsz := hb.size
  have hsz1 := hg.size
  have hblock : ∀ k, k < w.heap.size → vt.ownBlock ≠ some k → w1.heap[k]? = w.heap[k]? := fun k hk hn =>
    (hg.block k (Nat.lt_of_lt_of_le hk hsz) (Ne.symm hn)).trans (hb.block k hk)
  have hnl : ∀ k, k < c.B → vt.ownBlock ≠ some k := fun k hk e => by have := (h.types.lt k e).1; omega
  have hz : ∀ k, k ≠ c.p → (w1.setCell ⟨c.p, 8, none⟩ v').heap[k]? = w1.heap[k]? := fun k hk => Below.heap_setCell _ _ _ _ (by simpa using hk)
  have hap : v'.ownBlock ≠ some c.p := by
    rcases hat with e | e
    · rw [← e]; exact h.apt
    · rw [e]; intro e; injection e with e; omega
  obtain ⟨cs, ty, htk, ht2⟩ := h.toks
  obtain ⟨ty2, fr2, hnm⟩ := h.names
  refine ⟨⟨?_, ⟨cs, ty, ?_, ht2⟩, ?_, ?_, ⟨ty2, fr2, ?_⟩, h.g0, h.gB, h.ge, h.apn, hap, ?_, h.rd, h.dp, h.ln, ?_, h.tl, h.kn⟩, ⟨?_, ?_, ?_, ?_, ?_, fun _ e => .inl e, ?_⟩⟩
  · rw [cells_set ((hblock c.p hp h.apt).trans h.head)]; rfl
  · exact (hz _ (by omega)).trans ((hblock _ (by omega) (hnl _ (by omega))).trans htk)
  · refine own_keep h.nodes fun g hgg => ?_
    have hlt := (h.nodes.lt g hgg)
    exact (hz g (fun e => h.apn (by rw [hgg, e]))).trans (hblock g hlt.2 (h.apx g hgg))
  · have e1 : (s.types ++ [nd]).length = s.types.length + 1 := by simp
    have e2 : (s.types ++ [nd]).flatMap tyCells = s.types.flatMap tyCells ++ tyCells nd := by simp
    show World.ownsRow _ _ _ _ _ (s.types ++ [nd]).length ((s.types ++ [nd]).flatMap tyCells)
    rw [e1, e2]
    exact own_keep hown fun g hgg => hz g (fun e => hap (by rw [hgg, e]))
  · exact (hz _ (by omega)).trans ((hblock _ (by omega) (hnl _ (by omega))).trans hnm)
  · intro k hk ht
    rcases hat with e | e
    · exact h.apx k hk (by rw [e]; exact ht)
    · rw [e] at ht; injection ht with ht; have := (h.nodes.lt k hk).2; omega
  · show (s.types ++ [nd]).length ≤ 256
    simp; omega
  · exact hg.os.trans hb.os
  · exact hg.tape.trans hb.tape
  · exact hg.output.trans hb.output
  · simp [World.setCell]; omega
  · intro k hk hn hv ht
    rw [hz k hn]
    exact hblock k hk ht
  · intro g hgg
    rcases hat with e | e
    · left; rw [e]; exact hgg
    · right; rw [e] at hgg; injection hgg with hgg; omega
theorem growT_head {w w2 w1 : World} {c : PC} {vn vt : Value} {E : PE} {s : S} (h : PIn w c vn vt E s) (hb : Below w.heap.size w w2) (hg : w2.grownBy w1 vt.ownBlock) :
    w1.cell? ⟨c.p, 8, none⟩ = some vt ∧ w1.frozen? ⟨c.p, 8, none⟩ = false := by
  have hp := lt_heap h.head
  have hh : w1.heap[c.p]? = _ := (hg.block c.p (Nat.lt_of_lt_of_le hp hb.size) (Ne.symm h.apt)).trans ((hb.block c.p hp).trans h.head)
  exact ⟨by rw [cell_of_row w1 c.p _ _ _ _ hh]; rfl, by simp [World.frozen?, hh]⟩
theorem infoTy : (Tryz.prog.info? 36).map (fun i => (i.zero, i.size, i.bytes)) = some (some (.agg #[.int .i64 0, .int .i64 0, .int .i64 0, .string ⟨#[]⟩]), 4, 40) := by kernel_rfl
set_option maxHeartbeats 2000000 in
theorem numbered_p {w : World} {c : PC} {vn vt : Value} {E : PE} {s s' : S} {x : Ty} {r : Int} (h : PIn w c vn vt E s) (hs : numbered x s = some (r, s')) :
    Calls Tryz.prog 125 #[.pointer (some ⟨c.p, 0, none⟩), tyV x] w (Post c vn vt E (.int .i64 r) s' w) := by
  have hp := lt_heap h.head
  obtain ⟨_, _, _, _, _, _, _, _, d8, _⟩ := h.cells
  have hlt := h.lt
  have HX := fun {w} (h : PIn w c vn vt E s) => index_any h x
  unfold numbered at hs
  cases hf : findT s.types x with
  | some i =>
    rw [hf] at hs
    injection hs with hs
    injection hs with hr hs
    subst hr hs
    rw [hf] at HX
    have hil := findT_lt hf
    have H := Lib.hid h; clear h hf
    dsimp only [tyV, idx] at HX ⊢
    have e0 : (0 : Int) ≤ (i : Int) := Int.natCast_nonneg _
    go_enter Tryz.func125, Tryz.ntmps125
    go_wp2
    obtain ⟨wr, hwr⟩ : ∃ wr : World, w.alloc (.cells #[.int .i64 x.kind, .int .i64 x.elem, .int .i64 x.n, .string (bt x.name)] 36) = wr := ⟨_, rfl⟩
    have HR : Hid (PIn wr c _ _ E s) := Lib.hid (hwr ▸ H.out.alloc _)
    have hbr : Below w.heap.size w wr := hwr ▸ (Below.refl _ _).alloc (Nat.le_refl _) _
    have hh : wr.heap[w.heap.size]? = some (.cells #[.int .i64 x.kind, .int .i64 x.elem, .int .i64 x.n, .string (bt x.name)] 36 (0, 0)) := by rw [← hwr]; exact heap_alloc_new w _
    obtain ⟨f0, f1, f2, f3, _, _, _, _⟩ := nv4 hh
    rw [hwr]
    have d8r := HR.out.cells.2.2.2.2.2.2.2.2.1
    have HB := Lib.hid hbr
    have k8 := fun d os => cell_regrown d8r d os
    have k0 := fun d os => cell_regrown f0 d os
    have k1 := fun d os => cell_regrown f1 d os
    have k2 := fun d os => cell_regrown f2 d os
    have k3 := fun d os => cell_regrown f3 d os
    have HC : Hid (∀ d os, Calls Tryz.prog 138 #[vt, .agg #[.int .i64 x.kind, .int .i64 x.elem, .int .i64 x.n, .string (bt x.name)]] (Go.Sort.grow (redrawn wr d) os) fun e w' => e = .returned (.int .i64 i) ∧ Below (Go.Sort.grow (redrawn wr d) os).heap.size (Go.Sort.grow (redrawn wr d) os) w') := Lib.hid fun d os => HX (HR.out.below (below_regrown wr d os))
    clear hh d8 hwr hbr f0 f1 f2 f3 d8r HX
    refine wp_region_quiet_below (by kernel_rfl) (by kernel_rfl) ?_
    repeat (any_goals (first | go_big_quiet_step ((go_at_call 138; exact Calls.regrown_of (HC.out _ _))) | quiet_step ((go_at_call 138; exact Calls.regrown_of (HC.out _ _)))))
    refine wpQuiet_nil ?_
    intro _ hw'
    obtain ⟨⟨dq, osq⟩, hw''⟩ := hw'
    subst hw''
    have HB4 : Hid (Below w.heap.size w (Go.Sort.grow (redrawn wr dq) osq)) := Lib.hid (HB.out.trans ((below_regrown wr dq osq).mono HB.out.size))
    have HT4 := Lib.hid (HR.out.below (below_regrown wr dq osq))
    clear k8 k0 k1 k2 k3
    generalize Go.Sort.grow (redrawn wr dq) osq = w4 at *
    go_wp2
    go_ret
    exact ⟨_, _, rfl, HT4.out, Turn.of_below HB4.out⟩
  | none =>
    rw [hf] at hs
    dsimp only at hs
    by_cases hl : s.types.length < 256
    case neg => rw [if_neg hl] at hs; cases hs
    rw [if_pos hl] at hs
    injection hs with hs
    injection hs with hr hs
    subst hr hs
    rw [hf] at HX
    obtain ⟨a, cap, rfl⟩ := row_slice h.types
    have e1 : ((s.types.length : Int) == 256) = false := by simp; omega
    have H := Lib.hid h; clear h hf
    dsimp only [tyV, idx] at HX ⊢
    go_enter Tryz.func125, Tryz.ntmps125
    go_wp2
    obtain ⟨wr, hwr⟩ : ∃ wr : World, w.alloc (.cells #[.int .i64 x.kind, .int .i64 x.elem, .int .i64 x.n, .string (bt x.name)] 36) = wr := ⟨_, rfl⟩
    have HR : Hid (PIn wr c _ _ E s) := Lib.hid (hwr ▸ H.out.alloc _)
    have hbr : Below w.heap.size w wr := hwr ▸ (Below.refl _ _).alloc (Nat.le_refl _) _
    have hh : wr.heap[w.heap.size]? = some (.cells #[.int .i64 x.kind, .int .i64 x.elem, .int .i64 x.n, .string (bt x.name)] 36 (0, 0)) := by rw [← hwr]; exact heap_alloc_new w _
    obtain ⟨f0, f1, f2, f3, _, _, _, _⟩ := nv4 hh
    rw [hwr]
    have d8r := HR.out.cells.2.2.2.2.2.2.2.2.1
    have HB := Lib.hid hbr
    have k8 := fun d os => cell_regrown d8r d os
    have k0 := fun d os => cell_regrown f0 d os
    have k1 := fun d os => cell_regrown f1 d os
    have k2 := fun d os => cell_regrown f2 d os
    have k3 := fun d os => cell_regrown f3 d os
    have HC : Hid (∀ d os, Calls Tryz.prog 138 #[.slice a s.types.length cap, .agg #[.int .i64 x.kind, .int .i64 x.elem, .int .i64 x.n, .string (bt x.name)]] (Go.Sort.grow (redrawn wr d) os) fun e w' => e = .returned (.int .i64 (-1)) ∧ Below (Go.Sort.grow (redrawn wr d) os).heap.size (Go.Sort.grow (redrawn wr d) os) w') := Lib.hid fun d os => HX (HR.out.below (below_regrown wr d os))
    have HH := Lib.hid hh
    clear hh d8 hwr hbr f0 f1 f2 f3 d8r HX
    refine wp_region_quiet_below (by kernel_rfl) (by kernel_rfl) ?_
    repeat (any_goals (first | go_big_quiet_step ((go_at_call 138; exact Calls.regrown_of (HC.out _ _))) | quiet_step ((go_at_call 138; exact Calls.regrown_of (HC.out _ _)))))
    refine wpQuiet_nil ?_
    intro _ hw'
    obtain ⟨⟨dq, osq⟩, hw''⟩ := hw'
    subst hw''
    have HB4 : Hid (Below w.heap.size w (Go.Sort.grow (redrawn wr dq) osq)) := Lib.hid (HB.out.trans ((below_regrown wr dq osq).mono HB.out.size))
    have HT4 := Lib.hid (HR.out.below (below_regrown wr dq osq))
    have hh4 := ((below_regrown wr dq osq).block _ (lt_heap HH.out)).trans HH.out
    clear k8 k0 k1 k2 k3
    generalize Go.Sort.grow (redrawn wr dq) osq = w4 at *
    obtain ⟨f0, f1, f2, f3, _, _, _, _⟩ := nv4 hh4
    have hsz4 : w.heap.size < w4.heap.size := lt_heap hh4
    have d8r := HT4.out.cells.2.2.2.2.2.2.2.2.1
    have hpr := lt_heap HT4.out.head
    have hrow := HT4.out.types
    obtain ⟨i0, hi0, hz0, hz1, hz2⟩ := info_parts infoTy
    clear hh4
    go_wp2
    go_region_law ((refine step_append_lies _ (by rfl) (.tmp 30) (.tmp 32) 24 (by rfl) c.B 36 i0 _ 4 40 Tryz.underlying24 hi0 hz0 hz1 hz2 rfl (by omega) _ s.types.length (s.types.flatMap tyCells) (by rfl) (by exact hrow.alloc _) ⟨w4.heap.size, 0, none⟩ 1 1 (tyCells x) (by rfl) (by rfl) (by exact World.news_of_block (cs := #[.int .i64 x.kind, .int .i64 x.elem, .int .i64 x.n, .string (bt x.name)]) (heap_alloc_new w4 _)) (by simp [tyCells, Value.oneCell']) (by omega) (by unfold maxLen; omega) (by omega) (by have := HT4.out.ge; simp; omega) (w4.heap.size + 1) (by simp) ?_); intro g cap2 w1 hown1 hgrow hat hlt1; have hw2 := alloc_belowD w4 (.cells #[.int .i64 x.kind, .int .i64 x.elem, .int .i64 x.n, .string (bt x.name)] 36); obtain ⟨ct1, cf1⟩ := growT_head HT4.out hw2 hgrow; have HS := Lib.hid (PIn.growT (nd := x) (H := w4.heap.size + 1) HT4.out hw2 hgrow hown1 (hat.imp (fun e => e) (fun e => by simp [Value.ownBlock, e])) (by omega) hl); clear hown1 hgrow hat hw2)
    all_goals
      have d8s := HS.out.1.cells.2.2.2.2.2.2.2.2.1
      go_wp2
      go_ret
      exact ⟨_, _, by simp, HS.out.1, (Turn.of_below HB4.out).trans HS.out.2⟩
end Go.Proofs.YtaamllikceaifaaGreatDoor
namespace Go.Proofs.YtaamllikceaifaaGreatDoor
open Go.RowKit Sp Tr
set_option linter.unusedVariables false

/-- Since w0 the parser has come to s; L: the method's own variables, block by block. -/
def At (w0 : World) (c : PC) (v u : Value) (E : PE) (s : S) (L : List (Nat × Obj)) (w : World) : Prop :=
  ∃ vn vt, PIn w c vn vt E s ∧ Turn c.p v u vn vt w0 w ∧ (∀ x ∈ L, w.heap[x.1]? = some x.2 ∧ Out c vn vt x.1 ∧ w0.heap.size ≤ x.1) ∧ (L.map (·.1)).Nodup
/-- The answer of a method, and where the parser stands then. -/
def Ans (w0 : World) (c : PC) (v u : Value) (E : PE) (s : S) (L : List (Nat × Obj)) (r : Value) (e : Ending) (w : World) : Prop := e = .returned r ∧ At w0 c v u E s L w

section
variable {w0 w : World} {c : PC} {v u : Value} {E : PE} {s s' : S} {L : List (Nat × Obj)}

theorem At.start (h : PIn w c v u E s) : At w c v u E s [] w := ⟨v, u, h, Turn.refl _ _ _ _, fun x hx => by simp at hx, by simp⟩
theorem At.below {w' : World} (h : At w0 c v u E s L w) (hb : Below w.heap.size w w') : At w0 c v u E s L w' := by
  obtain ⟨vn, vt, h1, h2, h3, h4⟩ := h
  exact ⟨vn, vt, h1.below hb, h2.below hb, fun x hx => ⟨(hb.block _ (lt_heap (h3 x hx).1)).trans (h3 x hx).1, (h3 x hx).2⟩, h4⟩
theorem At.alloc (h : At w0 c v u E s L w) (o : Obj) : At w0 c v u E s ((w.heap.size, o) :: L) (w.alloc o) := by
  obtain ⟨vn, vt, h1, h2, h3, h4⟩ := h
  refine ⟨vn, vt, h1.alloc o, h2.alloc o, fun x hx => ?_, ?_⟩
  · rcases List.mem_cons.1 hx with rfl | hx
    · exact ⟨heap_alloc_new w o, h1.fresh (Nat.le_refl _), h2.size⟩
    · exact ⟨(Below.heap_alloc w o _ (lt_heap (h3 x hx).1)).trans (h3 x hx).1, (h3 x hx).2⟩
  · rw [List.map_cons, List.nodup_cons]
    refine ⟨fun hm => ?_, h4⟩
    obtain ⟨x, hx, he⟩ := List.mem_map.1 hm
    have := lt_heap (h3 x hx).1
    simp at he
    omega
theorem At.drop {x : Nat × Obj} (h : At w0 c v u E s (x :: L) w) : At w0 c v u E s L w := by
  obtain ⟨vn, vt, h1, h2, h3, h4⟩ := h
  exact ⟨vn, vt, h1, h2, fun y hy => h3 y (List.mem_cons_of_mem _ hy), (List.nodup_cons.1 h4).2⟩
theorem At.perm {L' : List (Nat × Obj)} (h : At w0 c v u E s L w) (hp : L.Perm L') : At w0 c v u E s L' w := by
  obtain ⟨vn, vt, h1, h2, h3, h4⟩ := h
  exact ⟨vn, vt, h1, h2, fun y hy => h3 y (hp.mem_iff.2 hy), (hp.map (·.1)).nodup_iff.1 h4⟩
theorem At.mem {x : Nat × Obj} (h : At w0 c v u E s L w) (hx : x ∈ L) : w.heap[x.1]? = some x.2 := by
  obtain ⟨vn, vt, h1, h2, h3, h4⟩ := h
  exact (h3 x hx).1
theorem At.loc {b : Nat} {o : Obj} (h : At w0 c v u E s ((b, o) :: L) w) : w.heap[b]? = some o := h.mem (x := (b, o)) (List.mem_cons_self ..)
theorem At.put {b : Nat} {o o' : Obj} (h : At w0 c v u E s ((b, o) :: L) w) {w' : World} (hb : w'.heap[b]? = some o') (hk : ∀ k, k ≠ b → w'.heap[k]? = w.heap[k]?) (hz : w'.heap.size = w.heap.size) (hos : w'.os = w.os) (htp : w'.tape = w.tape) (hou : w'.output = w.output) : At w0 c v u E s ((b, o') :: L) w' := by
  obtain ⟨vn, vt, h1, h2, h3, h4⟩ := h
  obtain ⟨k1, k2, k3⟩ := h3 _ (List.mem_cons_self ..)
  refine ⟨vn, vt, h1.keep fun k _ hh => hk k ?_, ⟨hos.trans h2.os, htp.trans h2.tape, hou.trans h2.output, by rw [hz]; exact h2.size, fun k hh hp hn ht => (hk k (by have : w0.heap.size ≤ b := k3; omega)).trans (h2.block k hh hp hn ht), h2.ownN, h2.ownT⟩, fun y hy => ?_, h4⟩
  · rintro rfl
    rcases hh with e | e | e | e | e
    · exact k2.p e
    · exact k2.g e
    · exact k2.n e
    · exact k2.t e
    · exact k2.z e
  · rcases List.mem_cons.1 hy with rfl | hy2
    · exact ⟨hb, k2, k3⟩
    · refine ⟨(hk y.1 ?_).trans (h3 y (List.mem_cons_of_mem _ hy2)).1, (h3 y (List.mem_cons_of_mem _ hy2)).2⟩
      rintro rfl
      exact (List.nodup_cons.1 h4).1 (List.mem_map.2 ⟨y, hy2, rfl⟩)
theorem At.set {b : Nat} {cs : Array Value} {t : TypeId} {fr : Nat × Nat} (h : At w0 c v u E s ((b, .cells cs t fr) :: L) w) (j : Nat) (x : Value) : At w0 c v u E s ((b, .cells (cs.setIfInBounds j x) t fr) :: L) (w.setCell ⟨b, j, none⟩ x) :=
  h.put (cells_set h.loc j x) (fun k hk => Below.heap_setCell _ _ _ _ (by simpa using hk)) (by simp [World.setCell]) rfl rfl rfl
theorem At.drew (h : At w0 c v u E s L w) : At w0 c v u E s L w.drew := h.below (Below.refl _ _).drew
theorem At.done {r : Value} {e : Ending} (h : At w0 c v u E s L w) (he : e = .returned r) : Post c v u E r s w0 e w := by
  obtain ⟨vn, vt, h1, h2, h3, h4⟩ := h
  exact ⟨vn, vt, he, h1, h2⟩
theorem At.size (h : At w0 c v u E s L w) : w0.heap.size ≤ w.heap.size := by
  obtain ⟨vn, vt, h1, h2, h3, h4⟩ := h
  exact h2.size
/-- What only reads. -/
theorem At.quiet {f : FuncId} {args : Array Value} {r : Value} (h : At w0 c v u E s L w) (k : ∀ vn vt, PIn w c vn vt E s → Calls Tryz.prog f args w (RPost r w)) : Calls Tryz.prog f args w (Ans w0 c v u E s L r) := by
  obtain ⟨vn, vt, h1, h2, h3, h5⟩ := h
  refine (k vn vt h1).mono ?_
  rintro e w' ⟨rfl, hb⟩
  exact ⟨rfl, At.below ⟨vn, vt, h1, h2, h3, h5⟩ hb⟩
/-- What reads on. -/
theorem At.lift {f : FuncId} {args : Array Value} {r : Value} (h : At w0 c v u E s L w) (k : ∀ vn vt, PIn w c vn vt E s → Calls Tryz.prog f args w (Post c vn vt E r s' w)) : Calls Tryz.prog f args w (Ans w0 c v u E s' L r) := by
  obtain ⟨vn, vt, h1, h2, h3, h5⟩ := h
  refine (k vn vt h1).mono ?_
  rintro e w' ⟨vn', vt', rfl, h4, t4⟩
  exact ⟨rfl, vn', vt', h4, h2.trans t4, fun x hx => ⟨(t4.kept (h3 x hx).2.1 (lt_heap (h3 x hx).1)).trans (h3 x hx).1, (h3 x hx).2.1.turn (lt_heap (h3 x hx).1) t4, (h3 x hx).2.2⟩, h5⟩

theorem now_a {t : Tok} (h : At w0 c v u E s L w) (ht : nowT E s = t) : Calls Tryz.prog 27 #[.pointer (some ⟨c.p, 0, none⟩)] w (Ans w0 c v u E s L (tkV t)) := h.quiet fun _ _ h => ht ▸ now_any h
theorem ahead_a {k : Nat} {t : Tok} (h : At w0 c v u E s L w) (hk : k ≤ 2) (ht : ahd E s k = t) : Calls Tryz.prog 51 #[.pointer (some ⟨c.p, 0, none⟩), .int .i64 k] w (Ans w0 c v u E s L (tkV t)) := h.quiet fun _ _ h => ht ▸ ahead_at h k hk
theorem ahead1_a {t : Tok} (h : At w0 c v u E s L w) (ht : ahd E s 1 = t) : Calls Tryz.prog 51 #[.pointer (some ⟨c.p, 0, none⟩), .int .i64 1] w (Ans w0 c v u E s L (tkV t)) := h.quiet fun _ _ h => ht ▸ ahead_1 h
theorem ahead2_a {t : Tok} (h : At w0 c v u E s L w) (ht : ahd E s 2 = t) : Calls Tryz.prog 51 #[.pointer (some ⟨c.p, 0, none⟩), .int .i64 2] w (Ans w0 c v u E s L (tkV t)) := h.quiet fun _ _ h => ht ▸ ahead_2 h
theorem is_a {x : List UInt8} {b : Bool} (h : At w0 c v u E s L w) (hx : isT E s x = b) : Calls Tryz.prog 94 #[.pointer (some ⟨c.p, 0, none⟩), .string (bt x)] w (Ans w0 c v u E s L (.bool b)) := h.quiet fun _ _ h => hx ▸ is_p h x
theorem sign_a {x : List UInt8} (h : At w0 c v u E s L w) (hx : sgn E s = x) : Calls Tryz.prog 152 #[.pointer (some ⟨c.p, 0, none⟩)] w (Ans w0 c v u E s L (.string (bt x))) := h.quiet fun _ _ h => hx ▸ sign_p h
theorem node_a {k : Int} {n : Nd} (h : At w0 c v u E s L w) (hx : nodeAt E s k = n) : Calls Tryz.prog 70 #[.pointer (some ⟨c.p, 0, none⟩), .int .i64 k] w (Ans w0 c v u E s L (ndV n)) := h.quiet fun _ _ h => hx ▸ node_p h k
theorem same_a {t : Tok} {x : List UInt8} {b : Bool} (h : At w0 c v u E s L w) (hx : sameT t x = b) : Calls Tryz.prog 95 #[tkV t, .string (bt x)] w (Ans w0 c v u E s L (.bool b)) := h.quiet fun _ _ _ => hx ▸ same_any t x w
theorem begins_a {t : Tok} (h : At w0 c v u E s L w) (hx : t.k ≠ 2) : Calls Tryz.prog 149 #[tkV t] w (Ans w0 c v u E s L (.bool false)) := h.quiet fun _ _ _ => begins_no hx w
theorem took_n {x : List UInt8} (h : At w0 c v u E s L w) (hx : isT E s x = false) : Calls Tryz.prog 99 #[.pointer (some ⟨c.p, 0, none⟩), .string (bt x)] w (Ans w0 c v u E s L (.bool false)) := h.quiet fun _ _ h => took_no h hx
theorem took_y {x : List UInt8} (h : At w0 c v u E s L w) (hx : isT E s x = true) (hs : takeT s = some s') : Calls Tryz.prog 99 #[.pointer (some ⟨c.p, 0, none⟩), .string (bt x)] w (Ans w0 c v u E s' L (.bool true)) := h.lift fun _ _ h => took_yes h hx hs
theorem take_a {t : Tok} (h : At w0 c v u E s L w) (ht : nowT E s = t) (hs : takeT s = some s') : Calls Tryz.prog 127 #[.pointer (some ⟨c.p, 0, none⟩)] w (Ans w0 c v u E s' L (tkV t)) := h.lift fun _ _ h => ht ▸ take_p h hs
theorem need_a {x : List UInt8} (h : At w0 c v u E s L w) (hs : needT E x s = some s') : Calls Tryz.prog 102 #[.pointer (some ⟨c.p, 0, none⟩), .string (bt x)] w (Ans w0 c v u E s' L (.tuple #[])) := h.lift fun _ _ h => need_p h hs
theorem name_a {t : Tok} (h : At w0 c v u E s L w) (hs : kindT E 1 s = some (t, s')) : Calls Tryz.prog 98 #[.pointer (some ⟨c.p, 0, none⟩)] w (Ans w0 c v u E s' L (.string (bt t.text))) := h.lift fun _ _ h => name_p h hs
theorem number_a {t : Tok} (h : At w0 c v u E s L w) (hs : kindT E 3 s = some (t, s')) : Calls Tryz.prog 130 #[.pointer (some ⟨c.p, 0, none⟩)] w (Ans w0 c v u E s' L (.int .i64 t.n)) := h.lift fun _ _ h => number_p h hs
theorem add_a {nd : Nd} {r : Int} (h : At w0 c v u E s L w) (hs : addT nd s = some (r, s')) : Calls Tryz.prog 71 #[.pointer (some ⟨c.p, 0, none⟩), ndV nd] w (Ans w0 c v u E s' L (.int .i64 r)) := h.lift fun _ _ h => add_p h hs
theorem numbered_a {x : Ty} {r : Int} (h : At w0 c v u E s L w) (hs : numbered x s = some (r, s')) : Calls Tryz.prog 125 #[.pointer (some ⟨c.p, 0, none⟩), tyV x] w (Ans w0 c v u E s' L (.int .i64 r)) := h.lift fun _ _ h => numbered_p h hs
theorem At.names (h : At w0 c v u E s L w) : w.cell? ⟨0, 0, none⟩ = some (.string (bt wVoid)) ∧ w.cell? ⟨0, 1, none⟩ = some (.string (bt wInt)) ∧ w.cell? ⟨0, 2, none⟩ = some (.string (bt wUnsigned)) ∧ w.cell? ⟨0, 3, none⟩ = some (.string (bt wChar)) := by
  obtain ⟨vn, vt, h1, h2, h3, h4⟩ := h
  obtain ⟨ty, fr, hn⟩ := h1.names
  refine ⟨?_, ?_, ?_, ?_⟩ <;> (rw [cell_of_row w _ _ _ _ _ hn]; rfl)
end
end Go.Proofs.YtaamllikceaifaaGreatDoor
namespace Go.Proofs.YtaamllikceaifaaGreatDoor
open Go.RowKit Sp Tr
set_option linter.unusedVariables false

theorem bfalse {b : Bool} (h : ¬ b = true) : b = false := by simpa using h
theorem nm0 (w : World) : (Instr.index 99 (.agg namesV) (.int .i64 0)).run Tryz.prog w = .ok (.string (bt wVoid)) w := by kernel_rfl
theorem nm1 (w : World) : (Instr.index 99 (.agg namesV) (.int .i64 1)).run Tryz.prog w = .ok (.string (bt wInt)) w := by kernel_rfl
theorem nm2 (w : World) : (Instr.index 99 (.agg namesV) (.int .i64 2)).run Tryz.prog w = .ok (.string (bt wUnsigned)) w := by kernel_rfl
theorem nm3 (w : World) : (Instr.index 99 (.agg namesV) (.int .i64 3)).run Tryz.prog w = .ok (.string (bt wChar)) w := by kernel_rfl
set_option maxHeartbeats 1000000 in
theorem plain_0 {w : World} {c : PC} {vn vt : Value} {E : PE} {s s' : S} (h : PIn w c vn vt E s) (x0 : isT E s wVoid = true) (hs : takeT s = some s') :
    Calls Tryz.prog 124 #[.pointer (some ⟨c.p, 0, none⟩)] w (Post c vn vt E (.int .i64 0) s' w) := by
  obtain ⟨ty, fr, hn⟩ := h.names
  have A0 := Lib.hid (At.start h); clear h
  have X0 := Lib.hid x0; clear x0
  have HS := Lib.hid hs; clear hs
  have i0 := nm0
  have i1 := nm1
  have i2 := nm2
  have i3 := nm3
  go_enter Tryz.func124, Tryz.ntmps124
  go_wp2_with (refine wpList_load_row rfl 99 _ rfl 0 rfl ty namesV fr _ hn Tryz.underlying99 rfl (by kernel_rfl) ?_)
  refine wp_loop_rounds 5 ?_
  rw [rounds_succ]
  go_wp2_with ((with_reducible refine (took_y (Hid.out (by assumption)) X0.out HS.out).mono ?_); rintro e w0 ⟨rfl, ha⟩; have A1 := Lib.hid ha; clear ha)
  go_ret
  exact A1.out.done rfl
set_option maxHeartbeats 1000000 in
theorem plain_1 {w : World} {c : PC} {vn vt : Value} {E : PE} {s s' : S} (h : PIn w c vn vt E s) (x0 : isT E s wVoid = false) (x1 : isT E s wInt = true) (hs : takeT s = some s') :
    Calls Tryz.prog 124 #[.pointer (some ⟨c.p, 0, none⟩)] w (Post c vn vt E (.int .i64 1) s' w) := by
  obtain ⟨ty, fr, hn⟩ := h.names
  have A0 := Lib.hid (At.start h); clear h
  have X0 := Lib.hid x0; clear x0
  have X1 := Lib.hid x1; clear x1
  have HS := Lib.hid hs; clear hs
  have i0 := nm0
  have i1 := nm1
  have i2 := nm2
  have i3 := nm3
  go_enter Tryz.func124, Tryz.ntmps124
  go_wp2_with (refine wpList_load_row rfl 99 _ rfl 0 rfl ty namesV fr _ hn Tryz.underlying99 rfl (by kernel_rfl) ?_)
  refine wp_loop_rounds 5 ?_
  rw [rounds_succ]
  go_wp2_with ((with_reducible refine (took_n (Hid.out (by assumption)) X0.out).mono ?_); rintro e w0 ⟨rfl, ha⟩; have A1 := Lib.hid ha; clear ha)
  rw [rounds_succ]
  go_wp2_with ((with_reducible refine (took_y (Hid.out (by assumption)) X1.out HS.out).mono ?_); rintro e w1 ⟨rfl, ha⟩; have A2 := Lib.hid ha; clear ha)
  go_ret
  exact A2.out.done rfl
set_option maxHeartbeats 1000000 in
theorem plain_2 {w : World} {c : PC} {vn vt : Value} {E : PE} {s s' : S} (h : PIn w c vn vt E s) (x0 : isT E s wVoid = false) (x1 : isT E s wInt = false) (x2 : isT E s wUnsigned = true) (hs : takeT s = some s') :
    Calls Tryz.prog 124 #[.pointer (some ⟨c.p, 0, none⟩)] w (Post c vn vt E (.int .i64 2) s' w) := by
  obtain ⟨ty, fr, hn⟩ := h.names
  have A0 := Lib.hid (At.start h); clear h
  have X0 := Lib.hid x0; clear x0
  have X1 := Lib.hid x1; clear x1
  have X2 := Lib.hid x2; clear x2
  have HS := Lib.hid hs; clear hs
  have i0 := nm0
  have i1 := nm1
  have i2 := nm2
  have i3 := nm3
  go_enter Tryz.func124, Tryz.ntmps124
  go_wp2_with (refine wpList_load_row rfl 99 _ rfl 0 rfl ty namesV fr _ hn Tryz.underlying99 rfl (by kernel_rfl) ?_)
  refine wp_loop_rounds 5 ?_
  rw [rounds_succ]
  go_wp2_with ((with_reducible refine (took_n (Hid.out (by assumption)) X0.out).mono ?_); rintro e w0 ⟨rfl, ha⟩; have A1 := Lib.hid ha; clear ha)
  rw [rounds_succ]
  go_wp2_with ((with_reducible refine (took_n (Hid.out (by assumption)) X1.out).mono ?_); rintro e w1 ⟨rfl, ha⟩; have A2 := Lib.hid ha; clear ha)
  rw [rounds_succ]
  go_wp2_with ((with_reducible refine (took_y (Hid.out (by assumption)) X2.out HS.out).mono ?_); rintro e w2 ⟨rfl, ha⟩; have A3 := Lib.hid ha; clear ha)
  go_ret
  exact A3.out.done rfl
set_option maxHeartbeats 1000000 in
theorem plain_3 {w : World} {c : PC} {vn vt : Value} {E : PE} {s s' : S} (h : PIn w c vn vt E s) (x0 : isT E s wVoid = false) (x1 : isT E s wInt = false) (x2 : isT E s wUnsigned = false) (x3 : isT E s wChar = true) (hs : takeT s = some s') :
    Calls Tryz.prog 124 #[.pointer (some ⟨c.p, 0, none⟩)] w (Post c vn vt E (.int .i64 3) s' w) := by
  obtain ⟨ty, fr, hn⟩ := h.names
  have A0 := Lib.hid (At.start h); clear h
  have X0 := Lib.hid x0; clear x0
  have X1 := Lib.hid x1; clear x1
  have X2 := Lib.hid x2; clear x2
  have X3 := Lib.hid x3; clear x3
  have HS := Lib.hid hs; clear hs
  have i0 := nm0
  have i1 := nm1
  have i2 := nm2
  have i3 := nm3
  go_enter Tryz.func124, Tryz.ntmps124
  go_wp2_with (refine wpList_load_row rfl 99 _ rfl 0 rfl ty namesV fr _ hn Tryz.underlying99 rfl (by kernel_rfl) ?_)
  refine wp_loop_rounds 5 ?_
  rw [rounds_succ]
  go_wp2_with ((with_reducible refine (took_n (Hid.out (by assumption)) X0.out).mono ?_); rintro e w0 ⟨rfl, ha⟩; have A1 := Lib.hid ha; clear ha)
  rw [rounds_succ]
  go_wp2_with ((with_reducible refine (took_n (Hid.out (by assumption)) X1.out).mono ?_); rintro e w1 ⟨rfl, ha⟩; have A2 := Lib.hid ha; clear ha)
  rw [rounds_succ]
  go_wp2_with ((with_reducible refine (took_n (Hid.out (by assumption)) X2.out).mono ?_); rintro e w2 ⟨rfl, ha⟩; have A3 := Lib.hid ha; clear ha)
  rw [rounds_succ]
  go_wp2_with ((with_reducible refine (took_y (Hid.out (by assumption)) X3.out HS.out).mono ?_); rintro e w3 ⟨rfl, ha⟩; have A4 := Lib.hid ha; clear ha)
  go_ret
  exact A4.out.done rfl
set_option maxHeartbeats 1000000 in
theorem plain_s {w : World} {c : PC} {vn vt : Value} {E : PE} {s s' : S} {s1 s2 : S} {t : Tok} {r : Int} (h : PIn w c vn vt E s) (x0 : isT E s wVoid = false) (x1 : isT E s wInt = false) (x2 : isT E s wUnsigned = false) (x3 : isT E s wChar = false) (hs1 : needT E wStruct s = some s1) (hs2 : kindT E 1 s1 = some (t, s2)) (hs3 : numbered ⟨6, 0, 0, t.text⟩ s2 = some (r, s')) :
    Calls Tryz.prog 124 #[.pointer (some ⟨c.p, 0, none⟩)] w (Post c vn vt E (.int .i64 r) s' w) := by
  obtain ⟨ty, fr, hn⟩ := h.names
  have A0 := Lib.hid (At.start h); clear h
  have X0 := Lib.hid x0; clear x0
  have X1 := Lib.hid x1; clear x1
  have X2 := Lib.hid x2; clear x2
  have X3 := Lib.hid x3; clear x3
  have H1 := Lib.hid hs1; clear hs1
  have H2 := Lib.hid hs2; clear hs2
  have H3 := Lib.hid hs3; clear hs3
  have i0 := nm0
  have i1 := nm1
  have i2 := nm2
  have i3 := nm3
  go_enter Tryz.func124, Tryz.ntmps124
  go_wp2_with (refine wpList_load_row rfl 99 _ rfl 0 rfl ty namesV fr _ hn Tryz.underlying99 rfl (by kernel_rfl) ?_)
  refine wp_loop_rounds 5 ?_
  rw [rounds_succ]
  go_wp2_with ((with_reducible refine (took_n (Hid.out (by assumption)) X0.out).mono ?_); rintro e w0 ⟨rfl, ha⟩; have A1 := Lib.hid ha; clear ha)
  rw [rounds_succ]
  go_wp2_with ((with_reducible refine (took_n (Hid.out (by assumption)) X1.out).mono ?_); rintro e w1 ⟨rfl, ha⟩; have A2 := Lib.hid ha; clear ha)
  rw [rounds_succ]
  go_wp2_with ((with_reducible refine (took_n (Hid.out (by assumption)) X2.out).mono ?_); rintro e w2 ⟨rfl, ha⟩; have A3 := Lib.hid ha; clear ha)
  rw [rounds_succ]
  go_wp2_with ((with_reducible refine (took_n (Hid.out (by assumption)) X3.out).mono ?_); rintro e w3 ⟨rfl, ha⟩; have A4 := Lib.hid ha; clear ha)
  rw [rounds_succ]
  go_wp2_with (first | ((with_reducible refine (need_a (Hid.out (by assumption)) H1.out).mono ?_); rintro e v1 ⟨rfl, ha⟩; have B1 := Lib.hid ha; clear ha) | ((with_reducible refine (name_a (Hid.out (by assumption)) H2.out).mono ?_); rintro e v2 ⟨rfl, ha⟩; have B2 := Lib.hid ha; clear ha) | ((with_reducible refine (numbered_a (Hid.out (by assumption)) H3.out).mono ?_); rintro e v3 ⟨rfl, ha⟩; have B3 := Lib.hid ha; clear ha))
  go_ret
  exact B3.out.done rfl
theorem plain_p {w : World} {c : PC} {vn vt : Value} {E : PE} {s s' : S} {r : Int} (h : PIn w c vn vt E s) (hs : plainF E s = some (r, s')) :
    Calls Tryz.prog 124 #[.pointer (some ⟨c.p, 0, none⟩)] w (Post c vn vt E (.int .i64 r) s' w) := by
  unfold plainF at hs
  by_cases x0 : isT E s wVoid = true
  · rw [if_pos x0] at hs
    obtain ⟨s1, hs1, hs2⟩ := Option.map_eq_some_iff.1 hs
    injection hs2 with hr hs2
    subst hr hs2
    exact plain_0 h  x0 hs1
  rw [if_neg x0] at hs
  by_cases x1 : isT E s wInt = true
  · rw [if_pos x1] at hs
    obtain ⟨s1, hs1, hs2⟩ := Option.map_eq_some_iff.1 hs
    injection hs2 with hr hs2
    subst hr hs2
    exact plain_1 h (bfalse x0) x1 hs1
  rw [if_neg x1] at hs
  by_cases x2 : isT E s wUnsigned = true
  · rw [if_pos x2] at hs
    obtain ⟨s1, hs1, hs2⟩ := Option.map_eq_some_iff.1 hs
    injection hs2 with hr hs2
    subst hr hs2
    exact plain_2 h (bfalse x0) (bfalse x1) x2 hs1
  rw [if_neg x2] at hs
  by_cases x3 : isT E s wChar = true
  · rw [if_pos x3] at hs
    obtain ⟨s1, hs1, hs2⟩ := Option.map_eq_some_iff.1 hs
    injection hs2 with hr hs2
    subst hr hs2
    exact plain_3 h (bfalse x0) (bfalse x1) (bfalse x2) x3 hs1
  rw [if_neg x3] at hs
  obtain ⟨s1, h1, hs⟩ := Option.bind_eq_some_iff.1 hs
  obtain ⟨⟨t, s2⟩, h2, hs⟩ := Option.bind_eq_some_iff.1 hs
  exact plain_s h (bfalse x0) (bfalse x1) (bfalse x2) (bfalse x3) h1 h2 hs
theorem plain_a {w0 w : World} {c : PC} {v u : Value} {E : PE} {s s' : S} {L : List (Nat × Obj)} {r : Int} (h : At w0 c v u E s L w) (hs : plainF E s = some (r, s')) :
    Calls Tryz.prog 124 #[.pointer (some ⟨c.p, 0, none⟩)] w (Ans w0 c v u E s' L (.int .i64 r)) := h.lift fun _ _ h => plain_p h hs
theorem counted_p {w : World} {c : PC} {vn vt : Value} {E : PE} {s s' : S} {q r : Int} (h : PIn w c vn vt E s) (hs : countedF E q s = some (r, s')) :
    Calls Tryz.prog 104 #[.pointer (some ⟨c.p, 0, none⟩), .int .i64 q] w (Post c vn vt E (.int .i64 r) s' w) := by
  have A0 := Lib.hid (At.start h); clear h
  unfold countedF at hs
  by_cases x0 : isT E s [91] = true
  · rw [if_pos x0] at hs
    obtain ⟨s1, h1, hs⟩ := Option.bind_eq_some_iff.1 hs
    obtain ⟨⟨t, s2⟩, h2, hs⟩ := Option.bind_eq_some_iff.1 hs
    obtain ⟨s3, h3, hs⟩ := Option.bind_eq_some_iff.1 hs
    have X0 := Lib.hid x0; clear x0
    have H1 := Lib.hid h1; clear h1
    have H2 := Lib.hid h2; clear h2
    have H3 := Lib.hid h3; clear h3
    have H4 := Lib.hid hs; clear hs
    go_enter Tryz.func104, Tryz.ntmps104
    go_wp2_with (first | ((with_reducible refine (took_y (Hid.out (by assumption)) X0.out H1.out).mono ?_); rintro e v1 ⟨rfl, ha⟩; have B1 := Lib.hid ha; clear ha) | ((with_reducible refine (number_a (Hid.out (by assumption)) H2.out).mono ?_); rintro e v2 ⟨rfl, ha⟩; have B2 := Lib.hid ha; clear ha) | ((with_reducible refine (need_a (Hid.out (by assumption)) H3.out).mono ?_); rintro e v3 ⟨rfl, ha⟩; have B3 := Lib.hid ha; clear ha) | ((with_reducible refine (numbered_a (Hid.out (by assumption)) H4.out).mono ?_); rintro e v4 ⟨rfl, ha⟩; have B4 := Lib.hid ha; clear ha))
    go_ret
    exact B4.out.done rfl
  · rw [if_neg x0] at hs
    injection hs with hs
    injection hs with hr hs
    subst hr hs
    have X0 := Lib.hid (bfalse x0); clear x0
    go_enter Tryz.func104, Tryz.ntmps104
    go_wp2_with ((with_reducible refine (took_n (Hid.out (by assumption)) X0.out).mono ?_); rintro e v1 ⟨rfl, ha⟩; have B1 := Lib.hid ha; clear ha)
    go_ret
    exact B1.out.done rfl
theorem counted_a {w0 w : World} {c : PC} {v u : Value} {E : PE} {s s' : S} {L : List (Nat × Obj)} {q r : Int} (h : At w0 c v u E s L w) (hs : countedF E q s = some (r, s')) :
    Calls Tryz.prog 104 #[.pointer (some ⟨c.p, 0, none⟩), .int .i64 q] w (Ans w0 c v u E s' L (.int .i64 r)) := h.lift fun _ _ h => counted_p h hs
end Go.Proofs.YtaamllikceaifaaGreatDoor
namespace Go.Proofs.YtaamllikceaifaaGreatDoor
open Go.RowKit Sp Tr
set_option linter.unusedVariables false

set_option maxHeartbeats 1000000 in
theorem typed_p {w : World} {c : PC} {vn vt : Value} {E : PE} {s s' : S} {f : Nat} {r : Int} (h : PIn w c vn vt E s) (hs : typedF f E s = some (r, s')) :
    Calls Tryz.prog 97 #[.pointer (some ⟨c.p, 0, none⟩)] w (Post c vn vt E (.int .i64 r) s' w) := by
  have A0 := Lib.hid (At.start h); clear h
  unfold typedF at hs
  obtain ⟨⟨q, s1⟩, h1, h2⟩ := Option.bind_eq_some_iff.1 hs
  have H1 := Lib.hid h1; clear h1
  have H2 := Lib.hid h2; clear h2 hs
  go_enter Tryz.func97, Tryz.ntmps97
  go_wp2_with ((with_reducible refine (plain_a (Hid.out (by assumption)) H1.out).mono ?_); rintro e v1 ⟨rfl, ha⟩; have B1 := Lib.hid ha; clear ha)
  go_loopg [3] f (fun g o wr => ∃ (q : Int) (s1 : S), o = .int .i64 q ∧ Hid (starsF g E q s1 = some (r, s')) ∧ Hid (At w c vn vt E s1 [] wr))
  case atStart => exact ⟨q, s1, rfl, H2, B1⟩
  case round =>
    clear B1 H1 H2
    obtain ⟨q, s1, rfl, HS, B1⟩ := hrel
    cases gk with
    | zero => exact absurd HS.out (by simp [starsF])
    | succ g =>
      have hs := HS.out
      unfold starsF at hs
      by_cases x0 : isT E s1 [42] = true
      · rw [if_pos x0] at hs
        obtain ⟨s2, h2, h5⟩ := Option.bind_eq_some_iff.1 hs
        obtain ⟨⟨q2, s3⟩, h3, h4⟩ := Option.bind_eq_some_iff.1 h5
        have X0 := Lib.hid x0; clear x0
        have H2 := Lib.hid h2; clear h2
        have H3 := Lib.hid h3; clear h3
        have H4 := Lib.hid h4; clear h4 h5 hs HS
        go_wp2_with (first | ((with_reducible refine (took_y (Hid.out (by assumption)) X0.out H2.out).mono ?_); rintro e v2 ⟨rfl, ha⟩; have B2 := Lib.hid ha; clear ha) | ((with_reducible refine (numbered_a (Hid.out (by assumption)) H3.out).mono ?_); rintro e v3 ⟨rfl, ha⟩; have B3 := Lib.hid ha; clear ha))
        go_roundg g
        case rel => exact ⟨q2, s3, rfl, H4, B3⟩
        case measure => omega
      · rw [if_neg x0] at hs
        injection hs with h5
        injection h5 with h6 h7
        subst h6 h7
        have X0 := Lib.hid (bfalse x0); clear x0
        go_wp2_with ((with_reducible refine (took_n (Hid.out (by assumption)) X0.out).mono ?_); rintro e v2 ⟨rfl, ha⟩; have B2 := Lib.hid ha; clear ha)
        go_ret
        exact B2.out.done rfl
theorem typed_a {w0 w : World} {c : PC} {v u : Value} {E : PE} {s s' : S} {L : List (Nat × Obj)} {f : Nat} {r : Int} (h : At w0 c v u E s L w) (hs : typedF f E s = some (r, s')) :
    Calls Tryz.prog 97 #[.pointer (some ⟨c.p, 0, none⟩)] w (Ans w0 c v u E s' L (.int .i64 r)) := h.lift fun _ _ h => typed_p h hs
theorem leave_d {w : World} {c : PC} {d : Nat} (u : FrameMode) (hu : u ≠ .run) (h1 : w.cell? ⟨c.p, 6, none⟩ = some (.int .i64 ((d + 1 : Nat) : Int))) (h2 : w.frozen? ⟨c.p, 6, none⟩ = false) (hd : d < 1099511627776) :
    CallsD Tryz.prog 143 #[.pointer (some ⟨c.p, 0, none⟩)] u w fun e u' w' => u' = u ∧ (e = .returned (.tuple #[]) ∧ w' = w.setCell ⟨c.p, 6, none⟩ (.int .i64 d)) := by
  go_enter_d Tryz.func143, Tryz.ntmps143
  go_wp2
  go_end0
  exact ⟨rfl, rfl⟩
/-- What is read one level deeper. -/
theorem deeper_p {w : World} {c : PC} {vn vt : Value} {E : PE} {s s1 : S} {fn : Nat} {r : Int} (eg : ∀ args w, (callFunc fn args).run Tryz.prog w = .ok (.enter fn args) w) (h : PIn w c vn vt E s) (hd : s.depth < big) (hs : s1.depth = s.depth + 1)
    (hC : ∀ w1 vn1 vt1, PIn w1 c vn1 vt1 E { s with depth := s.depth + 1 } → Calls Tryz.prog fn #[.pointer (some ⟨c.p, 0, none⟩)] w1 (Post c vn1 vt1 E (.int .i64 r) s1 w1)) :
    Calls Tryz.prog 139 #[.pointer (some ⟨c.p, 0, none⟩), .func (.func fn) #[.pointer (some ⟨c.p, 0, none⟩)] #[]] w (Post c vn vt E (.int .i64 r) { s1 with depth := s.depth } w) := by
  have d6 := h.cells.2.2.2.2.2.2.1
  have f6 := h.frozen 6
  have hp := lt_heap h.head
  have hdd := hd
  unfold big at hdd
  have HP : Hid (PIn (w.setCell ⟨c.p, 6, none⟩ (.int .i64 ((s.depth : Int) + 1))) c vn vt E { s with depth := s.depth + 1 }) := Lib.hid (h.putDepth (s.depth + 1) (by unfold big; omega))
  have H := Lib.hid h; clear h
  go_enter_defers Tryz.func139, Tryz.ntmps139
  go_wp2_with ((with_reducible refine (hC _ _ _ HP.out).mono ?_); rintro e w1 ⟨vn', vt', rfl, h2, t2⟩; have H2 := Lib.hid h2; have T2 := Lib.hid t2; clear h2 t2)
  have c6 : w1.cell? ⟨c.p, 6, none⟩ = some (.int .i64 ((s.depth + 1 : Nat) : Int)) := by rw [← hs]; exact H2.out.cells.2.2.2.2.2.2.1
  refine leaves_cons (f := 143) (args := #[.pointer (some ⟨c.p, 0, none⟩)]) (by simp) (by simp [go_sem]) ?_
  refine (leave_d .returning (by simp) c6 (H2.out.frozen 6) hdd).mono ?_
  rintro e u' w'' ⟨rfl, rfl, rfl⟩
  exact ⟨_, results_tmp rfl _ _ _, _, _, rfl, H2.out.putDepth s.depth (by unfold big; omega), (((Turn.refl _ _ _ _).setP 6 _).trans T2.out).setP 6 _⟩
/-- A method of the parser that reads on, as a value. -/
def Reads (c : PC) (E : PE) (fn : Nat) (m : S → Option (Int × S)) : Prop :=
  ∀ w1 vn1 vt1 s r s1, m s = some (r, s1) → PIn w1 c vn1 vt1 E s → Calls Tryz.prog fn #[.pointer (some ⟨c.p, 0, none⟩)] w1 (Post c vn1 vt1 E (.int .i64 r) s1 w1)
theorem Reads.a {w0 w : World} {c : PC} {v u : Value} {E : PE} {s s' : S} {L : List (Nat × Obj)} {fn : Nat} {m : S → Option (Int × S)} {r : Int} (hm : Reads c E fn m) (h : At w0 c v u E s L w) (hs : m s = some (r, s')) :
    Calls Tryz.prog fn #[.pointer (some ⟨c.p, 0, none⟩)] w (Ans w0 c v u E s' L (.int .i64 r)) := h.lift fun _ _ h => hm _ _ _ _ _ _ hs h
theorem deeper_a {w0 w : World} {c : PC} {v u : Value} {E : PE} {s s' : S} {L : List (Nat × Obj)} {fn : Nat} {m : S → Option (Int × S)} {r : Int} (hm : Reads c E fn m) (eg : ∀ args w, (callFunc fn args).run Tryz.prog w = .ok (.enter fn args) w) (h : At w0 c v u E s L w) (hs : deep m s = some (r, s')) :
    Calls Tryz.prog 139 #[.pointer (some ⟨c.p, 0, none⟩), .func (.func fn) #[.pointer (some ⟨c.p, 0, none⟩)] #[]] w (Ans w0 c v u E s' L (.int .i64 r)) := by
  unfold deep at hs
  by_cases hd : s.depth < big
  case neg => rw [if_neg hd] at hs; cases hs
  rw [if_pos hd] at hs
  obtain ⟨⟨q, s1⟩, h1, h2⟩ := Option.bind_eq_some_iff.1 hs
  by_cases he : s1.depth = s.depth + 1
  case neg => rw [if_neg he] at h2; cases h2
  rw [if_pos he] at h2
  injection h2 with h3
  injection h3 with h4 h5
  subst h4 h5
  exact h.lift fun _ _ h => deeper_p eg h hd he fun w1 vn1 vt1 hp => hm _ _ _ _ _ _ h1 hp
end Go.Proofs.YtaamllikceaifaaGreatDoor
