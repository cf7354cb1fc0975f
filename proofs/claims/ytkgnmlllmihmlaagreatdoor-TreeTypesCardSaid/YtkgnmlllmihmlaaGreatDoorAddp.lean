/-
  The contract of add: a node more.
-/
import Derived.Test.YtkgnmlllmihmlaaGreatDoorTake
import Derived.Deep.RegionLaw
import Derived.Deep.AppendLies
namespace Go.Proofs.YtkgnmlllmihmlaaGreatDoor
open Go.RowKit Sp Tr
set_option linter.unusedVariables false

/-- One node more. -/
theorem PIn.grow {w w2 w1 : World} {c : PC} {vn vt v' : Value} {E : PE} {s : S} {nd : Nd} {H : Nat} (h : PIn w c vn vt E s) (hb : Below w.heap.size w w2) (hg : w2.grownBy w1 vn.ownBlock)
    (hown : w1.ownsRow c.B 33 9 v' (s.nodes.length + 1) (s.nodes.flatMap ndCells ++ ndCells nd)) (hat : vn.ownBlock = v'.ownBlock ∨ v'.ownBlock = some H) (hH : w.heap.size ≤ H) (hl : s.nodes.length < 8192) :
    PIn (w1.setCell ⟨c.p, 7, none⟩ v') c v' vt E { s with nodes := s.nodes ++ [nd] } ∧ Turn c.p vn vt v' vt w (w1.setCell ⟨c.p, 7, none⟩ v') := by
  have hp := lt_heap h.head
  have h1 := h.gB; have h2 := h.ge; have h3 := h.g0
  have hsz := hb.size
  have hsz1 := hg.size
  have hblock : ∀ k, k < w.heap.size → vn.ownBlock ≠ some k → w1.heap[k]? = w.heap[k]? := fun k hk hn =>
    (hg.block k (Nat.lt_of_lt_of_le hk hsz) (Ne.symm hn)).trans (hb.block k hk)
  have hnl : ∀ k, k < c.B → vn.ownBlock ≠ some k := fun k hk e => by have := (h.nodes.lt k e).1; omega
  have hz : ∀ k, k ≠ c.p → (w1.setCell ⟨c.p, 7, none⟩ v').heap[k]? = w1.heap[k]? := fun k hk => Below.heap_setCell _ _ _ _ (by simpa using hk)
  have hap : v'.ownBlock ≠ some c.p := by
    rcases hat with e | e
    · rw [← e]; exact h.apn
    · rw [e]; intro e; injection e with e; omega
  obtain ⟨cs, ty, htk, ht2⟩ := h.toks
  obtain ⟨ty2, fr2, hnm⟩ := h.names
  refine ⟨⟨?_, ⟨cs, ty, ?_, ht2⟩, ?_, ?_, ⟨ty2, fr2, ?_⟩, h.g0, h.gB, h.ge, hap, h.apt, ?_, h.rd, h.dp, ?_, h.lt, h.tl, h.kn⟩, ⟨?_, ?_, ?_, ?_, ?_, ?_, fun _ e => .inl e⟩⟩
  · rw [cells_set ((hblock c.p hp h.apn).trans h.head)]; rfl
  · exact (hz _ (by omega)).trans ((hblock _ (by omega) (hnl _ (by omega))).trans htk)
  · have e1 : (s.nodes ++ [nd]).length = s.nodes.length + 1 := by simp
    have e2 : (s.nodes ++ [nd]).flatMap ndCells = s.nodes.flatMap ndCells ++ ndCells nd := by simp
    show World.ownsRow _ _ _ _ _ (s.nodes ++ [nd]).length ((s.nodes ++ [nd]).flatMap ndCells)
    rw [e1, e2]
    exact own_keep hown fun g hgg => hz g (fun e => hap (by rw [hgg, e]))
  · refine own_keep h.types fun g hgg => ?_
    have hlt := (h.types.lt g hgg)
    exact (hz g (fun e => h.apt (by rw [hgg, e]))).trans (hblock g hlt.2 (fun e => h.apx g e hgg))
  · exact (hz _ (by omega)).trans ((hblock _ (by omega) (hnl _ (by omega))).trans hnm)
  · intro k hk ht
    rcases hat with e | e
    · exact h.apx k (by rw [e]; exact hk) ht
    · rw [e] at hk; injection hk with hk; have := (h.types.lt k ht).2; omega
  · show (s.nodes ++ [nd]).length ≤ 8192
    simp; omega
  · exact hg.os.trans hb.os
  · exact hg.tape.trans hb.tape
  · exact hg.output.trans hb.output
  · simp [World.setCell]; omega
  · intro k hk hn hv ht
    rw [hz k hn]
    exact hblock k hk hv
  · intro g hgg
    rcases hat with e | e
    · left; rw [e]; exact hgg
    · right; rw [e] at hgg; injection hgg with hgg; omega
theorem infoNd : (Tryz.prog.info? 33).map (fun i => (i.zero, i.size, i.bytes)) = some (some (.agg #[.int .i64 0, .int .i64 0, .int .i64 0, .int .i64 0, .int .i64 0, .string ⟨#[]⟩, .int .i64 0, .int .i64 0, .int .i64 0]), 9, 80) := by kernel_rfl
theorem row_slice {w : World} {B size n : Nat} {e : TypeId} {v : Value} {xs : List Value} (h : w.ownsRow B e size v n xs) : ∃ a c, v = .slice a n c := by
  rcases h.2 with ⟨rfl, rfl⟩ | ⟨g, cap, cur, rfl, _⟩
  · exact ⟨_, _, rfl⟩
  · exact ⟨_, _, rfl⟩
theorem grow_head {w w2 w1 : World} {c : PC} {vn vt : Value} {E : PE} {s : S} (h : PIn w c vn vt E s) (hb : Below w.heap.size w w2) (hg : w2.grownBy w1 vn.ownBlock) :
    w1.cell? ⟨c.p, 7, none⟩ = some vn ∧ w1.frozen? ⟨c.p, 7, none⟩ = false := by
  have hp := lt_heap h.head
  have hh : w1.heap[c.p]? = _ := (hg.block c.p (Nat.lt_of_lt_of_le hp hb.size) (Ne.symm h.apn)).trans ((hb.block c.p hp).trans h.head)
  exact ⟨by rw [cell_of_row w1 c.p _ _ _ _ hh]; rfl, by simp [World.frozen?, hh]⟩
theorem alloc_belowD (w : World) (o : Obj) : Below w.heap.size w (w.alloc o).drew := ((Below.refl _ _).alloc (Nat.le_refl _) o).drew
set_option maxHeartbeats 2000000 in
theorem add_p {w : World} {c : PC} {vn vt : Value} {E : PE} {s s' : S} {nd : Nd} {r : Int} (h : PIn w c vn vt E s) (hs : addT nd s = some (r, s')) :
    Calls Tryz.prog 71 #[.pointer (some ⟨c.p, 0, none⟩), ndV nd] w (Post c vn vt E (.int .i64 r) s' w) := by
  unfold addT at hs
  by_cases hl : s.nodes.length < 8192
  · rw [if_pos hl] at hs
    injection hs with hs
    injection hs with hr hs
    subst hr hs
    have e1 : ((s.nodes.length : Int) == 8192) = false := by simp; omega
    have hp := lt_heap h.head
    obtain ⟨_, _, _, _, _, _, _, d7, _, _⟩ := h.cells
    obtain ⟨a, cap, rfl⟩ := row_slice h.nodes
    have H := Lib.hid h; clear h
    dsimp only [ndV]
    go_enter Tryz.func71, Tryz.ntmps71
    go_wp2
    obtain ⟨wr, hwr⟩ : ∃ wr : World, w.alloc (.cells #[.int .i64 nd.kind, .int .i64 nd.a, .int .i64 nd.b, .int .i64 nd.c, .int .i64 nd.d, .string (bt nd.text), .int .i64 nd.n, .int .i64 nd.ty, .int .i64 nd.pos] 33) = wr := ⟨_, rfl⟩
    have HR : Hid (PIn wr c _ vt E s) := Lib.hid (hwr ▸ H.out.alloc _)
    have hbr : Below w.heap.size w wr := hwr ▸ (Below.refl _ _).alloc (Nat.le_refl _) _
    have hh : wr.heap[w.heap.size]? = some (.cells #[.int .i64 nd.kind, .int .i64 nd.a, .int .i64 nd.b, .int .i64 nd.c, .int .i64 nd.d, .string (bt nd.text), .int .i64 nd.n, .int .i64 nd.ty, .int .i64 nd.pos] 33 (0, 0)) := by rw [← hwr]; exact heap_alloc_new w _
    obtain ⟨f0, f1, f2, f3, f4, f5, f6, f7, f8, _, _, _, _, _, _, _, _, _⟩ := nv9 hh
    have hsz : w.heap.size < wr.heap.size := lt_heap hh
    rw [hwr]
    obtain ⟨i0, hi0, hz0, hz1, hz2⟩ := info_parts infoNd
    have d7r := HR.out.cells.2.2.2.2.2.2.2.1
    have hpr := lt_heap HR.out.head
    have hrow := HR.out.nodes
    have HB := Lib.hid hbr
    clear hh d7 hwr hbr
    go_region_law ((refine step_append_lies _ (by rfl) (.tmp 19) (.tmp 21) 23 (by rfl) c.B 33 i0 _ 9 80 Tryz.underlying23 hi0 hz0 hz1 hz2 rfl (by omega) _ s.nodes.length (s.nodes.flatMap ndCells) (by rfl) (by exact hrow.alloc _) ⟨wr.heap.size, 0, none⟩ 1 1 (ndCells nd) (by rfl) (by rfl) (by exact World.news_of_block (cs := #[.int .i64 nd.kind, .int .i64 nd.a, .int .i64 nd.b, .int .i64 nd.c, .int .i64 nd.d, .string (bt nd.text), .int .i64 nd.n, .int .i64 nd.ty, .int .i64 nd.pos]) (heap_alloc_new wr _)) (by simp [ndCells, Value.oneCell']) (by omega) (by unfold maxLen; omega) (by omega) (by have := HR.out.ge; simp; omega) (wr.heap.size + 1) (by simp) ?_); intro g cap2 w1 hown1 hgrow hat hlt1; have hw2 := alloc_belowD wr (.cells #[.int .i64 nd.kind, .int .i64 nd.a, .int .i64 nd.b, .int .i64 nd.c, .int .i64 nd.d, .string (bt nd.text), .int .i64 nd.n, .int .i64 nd.ty, .int .i64 nd.pos] 33); obtain ⟨ct1, cf1⟩ := grow_head HR.out hw2 hgrow; have HS := Lib.hid (PIn.grow (nd := nd) (H := wr.heap.size + 1) HR.out hw2 hgrow hown1 (hat.imp (fun e => e) (fun e => by simp [Value.ownBlock, e])) (by omega) hl); clear hown1 hgrow hat hw2)
    all_goals
      have d7s := HS.out.1.cells.2.2.2.2.2.2.2.1
      go_wp2
      go_ret
      exact ⟨_, _, by simp, HS.out.1, (Turn.of_below HB.out).trans HS.out.2⟩
  · rw [if_neg hl] at hs
    cases hs
end Go.Proofs.YtkgnmlllmihmlaaGreatDoor
