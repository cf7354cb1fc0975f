/-
  The contract of list.
-/
import Derived.Test.YtkgnmlllmihmlaaGreatDoorRound
import Derived.Maps.OwnIn
namespace Go.Proofs.YtkgnmlllmihmlaaGreatDoor
open Go.RowKit Sp Tr Go.Shelf
set_option linter.unusedVariables false
attribute [local go_sem] Oper.semAt_some

abbrev bxO (c : PC) : Obj := .cells #[.pointer (some ⟨c.p, 0, none⟩)] 71
abbrev alO (va : Value) : Obj := .cells #[va] 37
def JA (w0 : World) (c : PC) (b0 b1 : Nat) (pre : List Int) (L : List (Nat × Obj)) : Prop := ∃ va R, L = (b1, alO va) :: (R ++ [(b0, bxO c)]) ∧ RowR w0 va pre R
theorem infoInt : (Tryz.prog.info? 3).map (fun i => (i.zero, i.size, i.bytes)) = some (some (.int .i64 0), 1, 8) := by kernel_rfl
theorem At.headKept {w0 : World} {c : PC} {v u : Value} {E : PE} {s : S} {W w2 w1 : World} {b : Nat} {o : Obj} {va : Value} {R Z : List (Nat × Obj)} {pre : List Int} (h : At w0 c v u E s ((b, o) :: (R ++ Z)) W) (hr : RowR w0 va pre R)
    (hb : Below W.heap.size W w2) (hg : w2.grownBy w1 va.ownBlock) : w1.heap[b]? = some o := by
  obtain ⟨vn, vt, h1, h2, h3, h4⟩ := h
  rw [List.map_cons, List.nodup_cons] at h4
  have kb := (h3 _ (List.mem_cons_self ..)).1
  have hbl := lt_heap kb
  refine ((hg.block b (Nat.lt_of_lt_of_le hbl hb.size) ?_).trans (hb.block b hbl)).trans kb
  intro e
  rcases hr with ⟨rfl, rfl, rfl⟩ | ⟨g', cap', cur, rfl, rfl, _⟩
  · simp [Value.ownBlock] at e
  · simp [Value.ownBlock] at e
    exact h4.1 (by simp [e])
theorem At.node {w0 w : World} {c : PC} {v u : Value} {E : PE} {s : S} {L : List (Nat × Obj)} {k : Nat} {nd : Nd} (h : At w0 c v u E s L w) (hk : s.nodes[k]? = some nd) :
    ∃ g cap, w.cell? ⟨c.p, 7, none⟩ = some (.slice (some ⟨g, 0, none⟩) s.nodes.length cap) ∧ w.cell? ⟨g, k * 9 + 8, none⟩ = some (.int .i64 nd.pos) ∧ c.p < w.heap.size ∧ g < w.heap.size := by
  obtain ⟨vn, vt, h1, h2, h3, h4⟩ := h
  have hl : k < s.nodes.length := (List.getElem?_eq_some_iff.1 hk).1
  obtain ⟨g, cap, rfl, _, hg⟩ := h1.nodes.form (by omega)
  have hc := h1.nodes.cells (g := g) rfl (k * 9 + 8) (.int .i64 nd.pos) (by rw [flat_at ndCells 9 (fun _ => rfl) s.nodes k 8 nd hk (by omega)]; rfl)
  have hadd : (⟨g, 0, none⟩ : Addr).add (k * 9 + 8) = ⟨g, k * 9 + 8, none⟩ := by unfold Addr.add; split <;> simp_all
  rw [hadd] at hc
  exact ⟨g, cap, h1.cells.2.2.2.2.2.2.2.1, hc, lt_heap h1.head, hg⟩
theorem At.putMem {w0 w : World} {c : PC} {v u : Value} {E : PE} {s : S} {L : List (Nat × Obj)} {b : Nat} {o : Obj} (h : At w0 c v u E s L w) (hx : (b, o) ∈ L) (o' : Obj) : ∃ L', At w0 c v u E s L' (w.putObj b o') := by
  obtain ⟨A, B, rfl⟩ := List.append_of_mem hx
  exact ⟨_, (h.perm List.perm_middle).putObj o'⟩
theorem drop_rev {xs : List Int} {j k : Nat} {x : Int} (hk : k + 1 + j = xs.length) (hx : xs[k]? = some x) : xs.reverse.drop j = x :: xs.reverse.drop (j + 1) := by
  have hj : j < xs.reverse.length := by simp; omega
  rw [List.drop_eq_getElem_cons hj]
  congr 1
  have h1 : xs.reverse[j]? = some x := by
    rw [List.getElem?_reverse (by omega), show xs.length - 1 - j = k by omega]
    exact hx
  rw [List.getElem?_eq_getElem hj] at h1
  injection h1
set_option maxHeartbeats 2000000 in
theorem list_p {w : World} {c : PC} {vn vt : Value} {E : PE} {s s1 s' : S} {fn : Nat} {first cap : Array Value} {xs : List Int} {r : Int} (eg : ∀ args w, (callFunc fn args).run Tryz.prog w = .ok (.enter fn args) w)
    (hi : IterOK w c vn vt E fn first cap s s1 xs) (hlen : xs.length ≤ 1000000) (h : PIn w c vn vt E s) (hs : listOf xs s1 = some (r, s')) :
    Calls Tryz.prog 49 #[.pointer (some ⟨c.p, 0, none⟩), .func (.func fn) first cap] w (Post c vn vt E (.int .i64 r) s' w) := by
  have A0 := Lib.hid (At.start h)
  have A1 : Hid (At w c vn vt E s [(w.heap.size + 1, alO (.slice none 0 0)), (w.heap.size, bxO c)] ((w.alloc (bxO c)).alloc (alO (.slice none 0 0)))) := by
    have := (A0.out.alloc (bxO c)).alloc (alO (.slice none 0 0))
    rw [World.size_alloc] at this
    exact Lib.hid this
  have H := Lib.hid h; clear h
  have HI := Lib.hid hi; clear hi
  refine (callsIn_wide (n := 0)).1 ?_
  refine callsIn_of_wp_marks Tryz.func49 rfl trivial ?_ rfl
  simp only [Tryz.ntmps49, List.size_toArray, List.length_cons, List.length_nil, Nat.reduceAdd, Nat.reduceSub, Array.replicate_succ, Array.replicate_zero, List.push_toArray, List.append_toArray, List.nil_append, List.cons_append]
  gi_wp2
  obtain ⟨i0, hi0, hz0, hz1, hz2⟩ := info_parts infoInt
  have hw : ∀ f, Fence.wide.fn f := fun _ => trivial
  have hd : Fence.wide.depth = none := rfl
  have hmix : Tryz.prog.follows .mixedOrders = true := by kernel_rfl
  refine range_at HI.out eg rfl A1.out (JA w c w.heap.size (w.heap.size + 1)) ⟨_, [], rfl, .inl ⟨rfl, rfl, rfl⟩⟩
    (fun x => { tmps := #[.pointer (some ⟨c.p, 0, none⟩), .func (.func fn) first cap, .pointer (some ⟨w.heap.size, 0, none⟩), undef, .int .i64 0, .pointer (some ⟨w.heap.size + 1, 0, none⟩), .int .i64 x, undef, undef, undef, undef, .func (.func fn) first cap, .int .i64 x, undef, undef, undef, undef, undef, undef, undef, undef, undef, undef, undef, undef, undef, undef, undef, undef, undef, undef, undef, undef, undef, undef, undef, undef, undef, undef, undef, undef], defers := [] }) ?assign ?body ?done
  case assign =>
    intro l x W K hK
    gi_wp2
    exact hK
  case body =>
    rintro l pre x X _ W s2 ⟨va, R, rfl, hR⟩ hpl hA
    have hA' : At w c vn vt E s2 ((w.heap.size + 1, alO va) :: (R ++ ([(w.heap.size, bxO c)] ++ X))) W := hA.perm (by
      refine List.perm_append_comm.trans ?_
      rw [List.cons_append, List.append_assoc])
    have hrow := hA'.row hR (fun y hy => List.mem_cons_of_mem _ (List.mem_append_left _ hy))
    obtain ⟨ca, cf⟩ := nv1 hA'.loc
    have hsz : w.heap.size + 1 < W.heap.size := lt_heap hA'.loc
    obtain ⟨a, cap', rfl⟩ := row_slice hrow
    have HA := Lib.hid hA'
    clear hA hA'
    gi_wp2_with (gi_at_builtin; refine wpListIn_append_own_at _ rfl _ _ 37 rfl w.heap.size 3 i0 (.int .i64 0) 1 8 Tryz.underlying37 hi0 hz0 hz1 hz2 rfl (by decide) _ _ _ rfl (hrow.alloc _) ⟨W.heap.size, 0, none⟩ 1 1 [.int .i64 x] rfl rfl (cell_one_new _ _ _) (by simp [Value.oneCell']) (by unfold maxLen; omega) (by omega) (by simp; omega) ?_; intro v' w1 hown' hgrow _ hat; obtain ⟨g', cap2, rfl⟩ := ownsRow_succ hown'; obtain ⟨ca1, cf1⟩ := nv1 (HA.out.headKept hR ((Below.refl _ _).alloc (Nat.le_refl _) _) hgrow); have HP := Lib.hid (HA.out.appended hR ((Below.refl _ _).alloc (Nat.le_refl _) _) hgrow hown' (H := W.heap.size + 1) (by rcases hat with e | e; exact .inl e.symm; right; simpa [Value.ownBlock] using e) (by omega)); clear hown' hgrow hat)
    obtain ⟨R', hR', hA2⟩ := HP.out
    refine ⟨X ++ ((w.heap.size + 1, alO _) :: (R' ++ [(w.heap.size, bxO c)])), ⟨_, rfl, _, R', rfl, hR'⟩, hA2.perm ?_⟩
    refine List.Perm.trans ?_ List.perm_append_comm
    simp only [List.cons_append, List.append_assoc, List.nil_append]
    exact List.Perm.refl _
  case done =>
    rintro D o l _ W ⟨va, R, rfl, hR⟩ hA
    have hca : W.heap[w.heap.size + 1]? = some (alO va) := hA.mem (x := (w.heap.size + 1, alO va)) (by simp)
    obtain ⟨ca, cf⟩ := nv1 hca
    clear hca
    obtain ⟨a, cap', rfl⟩ := row_slice (hA.row hR (fun y hy => by simp [hy]))
    have HA := Lib.hid hA
    have hsz := hA.size
    have hsz1 : w.heap.size + 1 < W.heap.size := lt_heap (hA.mem (x := (w.heap.size + 1, alO (.slice a xs.length cap'))) (by simp))
    clear hA
    gi_wp2_with (gi_at_call 69; refine (callsIn_wide.2 (back_new _ _ _ _)).mono ?_; rintro e w' ⟨rfl, rfl⟩)
    have A2 : At w c vn vt E s1 ((W.heap.size, .cells #[.int .i64 (-1)] 3 (0, 0)) :: (W.heap.size + 1, alO (.slice a xs.length cap')) :: (D, .deferred (some [])) :: (l, o) :: (w.heap.size + 1, alO (.slice a xs.length cap')) :: (R ++ [(w.heap.size, bxO c)])) ((W.alloc (.cells #[.int .i64 (-1)] 3)).alloc (alO (.slice a xs.length cap'))) := by
      have := (HA.out.alloc (.cells #[.int .i64 (-1)] 3)).alloc (alO (.slice a xs.length cap'))
      rw [World.size_alloc] at this
      exact this.perm (List.Perm.swap ..)
    refine range_back (bk := W.heap.size + 1) (sv := .slice a xs.length cap') hlen rfl A2 (fun j s2 L' => ∃ rest, L' = (W.heap.size, .cells #[.int .i64 rest] 3 (0, 0)) :: (W.heap.size + 1, alO (.slice a xs.length cap')) :: (D, .deferred (some [])) :: (l, o) :: (w.heap.size + 1, alO (.slice a xs.length cap')) :: (R ++ [(w.heap.size, bxO c)]) ∧ Hid (listR (xs.reverse.drop j) rest s2 = some (r, s')))
      ?mem ⟨_, rfl, Lib.hid hs⟩
      (fun k x => { tmps := #[.pointer (some ⟨c.p, 0, none⟩), .func (.func fn) first cap, .pointer (some ⟨w.heap.size, 0, none⟩), undef, .int .i64 0, .pointer (some ⟨w.heap.size + 1, 0, none⟩), undef, .pointer (some ⟨W.heap.size, 0, none⟩), undef, .int .i64 x, undef, .func (.func fn) first cap, undef, undef, undef, undef, undef, .slice a xs.length cap', .func (.func 92) #[] #[.pointer (some ⟨W.heap.size + 1, 0, none⟩)], .int .i64 k, .int .i64 x, undef, undef, undef, undef, undef, undef, undef, undef, undef, undef, undef, undef, undef, undef, undef, undef, undef, undef, undef, undef], defers := [] }) ?assign2 ?body2 ?done2
    case mem =>
      rintro j s2 _ ⟨rest, rfl, _⟩
      exact ⟨by simp, R, hR, fun x hx => by simp [hx]⟩
    case assign2 =>
      intro l2 k x W2 K hK
      gi_wp2
      exact hK
    case body2 =>
      rintro l2 j k x X _ V s2 ⟨rest, rfl, HL⟩ hk hx hA3
      have hls := HL.out
      rw [drop_rev hk hx] at hls
      unfold listR at hls
      by_cases hx0 : x < 0
      case pos => rw [if_pos hx0] at hls; cases hls
      rw [if_neg hx0] at hls
      obtain ⟨q, rfl⟩ : ∃ q : Nat, x = q := ⟨x.toNat, by omega⟩
      rw [Int.toNat_natCast] at hls
      cases hnd : s2.nodes[q]? with
      | none => rw [hnd] at hls; cases hls
      | some nd =>
        rw [hnd] at hls
        obtain ⟨⟨r2, s3⟩, h1, h2⟩ := Option.bind_eq_some_iff.1 hls
        obtain ⟨n, hn⟩ : ∃ n, nodeAt E s2 20 = n := ⟨_, rfl⟩
        have hn2 : n = ⟨20, -1, -1, -1, -1, [], 0, 0, n.pos⟩ := by rw [← hn]; rfl
        have HN2 := Lib.hid hn2; clear hn2
        have HN := Lib.hid hn
        have H1 := Lib.hid h1
        have H2 := Lib.hid h2
        have HD := Lib.hid hnd
        have hA4 := hA3.perm (List.perm_append_comm)
        simp only [List.cons_append] at hA4
        have HA4 := Lib.hid hA4
        have q0 : (0 : Int) ≤ (q : Int) := Int.natCast_nonneg _
        have q1 : (q : Int) < (s2.nodes.length : Int) := by have := (List.getElem?_eq_some_iff.1 hnd).1; omega
        have hb0 := hA4.mem (x := (w.heap.size, bxO c)) (by simp)
        have cb0 := (nv1 hb0).1
        clear hA4 hA3 hls hnd h1 h2 hn hx HL hb0
        gi_wp2_with (gi_at_call 70; refine (CallsIn.inRound l2 (callsIn_wide.2 (node_a HA4.out HN.out))).mono ?_; rintro e v1 ⟨rfl, ha⟩; obtain ⟨cr, cfr⟩ := nv1 ha.loc; have hb1 := ha.mem (x := (w.heap.size, bxO c)) (by simp); have cb1 := (nv1 hb1).1; obtain ⟨g, cp, c7, cq, zp, zg⟩ := ha.node HD.out; have zr := lt_heap ha.loc; have zb := lt_heap hb1; have B1 := Lib.hid ha; clear ha hb1; dsimp only [ndV])
        refine region_round (fun w' : World => w'.cell? ⟨W.heap.size, 0, none⟩ = some (.int .i64 rest) ∧ w'.cell? ⟨w.heap.size, 0, none⟩ = some (.pointer (some ⟨c.p, 0, none⟩)) ∧ w'.cell? ⟨c.p, 7, none⟩ = some (.slice (some ⟨g, 0, none⟩) s2.nodes.length cp) ∧ w'.cell? ⟨g, q * 9 + 8, none⟩ = some (.int .i64 nd.pos)) 16 hmix (by rintro ⟨a, w, h⟩; exact h) (by kernel_rfl) ?_
        have hHeld : (fun w' : World => w'.cell? ⟨W.heap.size, 0, none⟩ = some (.int .i64 rest) ∧ w'.cell? ⟨w.heap.size, 0, none⟩ = some (.pointer (some ⟨c.p, 0, none⟩)) ∧ w'.cell? ⟨c.p, 7, none⟩ = some (.slice (some ⟨g, 0, none⟩) s2.nodes.length cp) ∧ w'.cell? ⟨g, q * 9 + 8, none⟩ = some (.int .i64 nd.pos)) (v1.alloc (ndO n)).drew := by
          dsimp only
          go_keep
        refine anyL_take (i := 0) (v := ?_) rfl rfl (by kernel_rfl) (by kernel_rfl) (by kernel_rfl) (by kernel_rfl) (fun _ _ _ h => h) (Or.inl ⟨by rfl, ?_⟩) hHeld ?_
        rotate_left
        · (intro w' hSw; (try dsimp only at hSw); go_simp; first | done | with_reducible rfl)
        simp only [Act.put]
        refine anyL_take (i := 1) (v := ?_) rfl rfl (by kernel_rfl) (by kernel_rfl) (by kernel_rfl) (by kernel_rfl) (fun _ _ _ h => h) (Or.inl ⟨by rfl, ?_⟩) hHeld ?_
        rotate_left
        · (intro w' hSw; (try dsimp only at hSw); go_simp; first | done | with_reducible rfl)
        simp only [Act.put]
        refine anyL_take (i := 2) (v := ?_) rfl rfl (by kernel_rfl) (by kernel_rfl) (by kernel_rfl) (by kernel_rfl) (fun _ _ _ h => h) (Or.inl ⟨by rfl, ?_⟩) hHeld ?_
        rotate_left
        · (intro w' hSw; (try dsimp only at hSw); go_simp; first | done | with_reducible rfl)
        simp only [Act.put]
        refine anyL_take (i := 3) (v := ?_) rfl rfl (by kernel_rfl) (by kernel_rfl) (by kernel_rfl) (by kernel_rfl) (fun _ _ _ h => h) (Or.inl ⟨by rfl, ?_⟩) hHeld ?_
        rotate_left
        · (intro w' hSw; (try dsimp only at hSw); go_simp; first | done | with_reducible rfl)
        simp only [Act.put]
        refine anyL_take (i := 4) (v := ?_) rfl rfl (by kernel_rfl) (by kernel_rfl) (by kernel_rfl) (by kernel_rfl) (fun _ _ _ h => h) (Or.inl ⟨by rfl, ?_⟩) hHeld ?_
        rotate_left
        · (intro w' hSw; (try dsimp only at hSw); go_simp; first | done | with_reducible rfl)
        simp only [Act.put]
        refine anyL_take (i := 5) (v := ?_) rfl rfl (by kernel_rfl) (by kernel_rfl) (by kernel_rfl) (by kernel_rfl) (fun _ _ _ h => h) (Or.inl ⟨by rfl, ?_⟩) hHeld ?_
        rotate_left
        · (intro w' hSw; (try dsimp only at hSw); go_simp; first | done | with_reducible rfl)
        simp only [Act.put]
        refine anyL_take (i := 6) (v := ?_) rfl rfl (by kernel_rfl) (by kernel_rfl) (by kernel_rfl) (by kernel_rfl) (fun _ _ _ h => h) (Or.inl ⟨by rfl, ?_⟩) hHeld ?_
        rotate_left
        · (intro w' hSw; (try dsimp only at hSw); go_simp; first | done | with_reducible rfl)
        simp only [Act.put]
        refine anyL_take (i := 7) (v := ?_) rfl rfl (by kernel_rfl) (by kernel_rfl) (by kernel_rfl) (by kernel_rfl) (fun _ _ _ h => h) (Or.inl ⟨by rfl, ?_⟩) hHeld ?_
        rotate_left
        · (intro w' hSw; (try dsimp only at hSw); go_simp; first | done | with_reducible rfl)
        simp only [Act.put]
        refine anyL_take (i := 8) (v := ?_) rfl rfl (by kernel_rfl) (by kernel_rfl) (by kernel_rfl) (by kernel_rfl) (fun _ _ _ h => h) (Or.inl ⟨by rfl, ?_⟩) hHeld ?_
        rotate_left
        · (intro w' hSw; (try dsimp only at hSw); go_simp; first | done | with_reducible rfl)
        simp only [Act.put]
        refine anyL_take (i := 9) (v := ?_) rfl rfl (by kernel_rfl) (by kernel_rfl) (by kernel_rfl) (by kernel_rfl) (fun _ _ _ h => h) (Or.inl ⟨by rfl, ?_⟩) hHeld ?_
        rotate_left
        · (intro w' hSw; (try dsimp only at hSw); go_simp; first | done | with_reducible rfl)
        simp only [Act.put]
        refine anyL_take (i := 10) (v := ?_) rfl rfl (by kernel_rfl) (by kernel_rfl) (by kernel_rfl) (by kernel_rfl) (fun _ _ _ h => h) (Or.inl ⟨by rfl, ?_⟩) hHeld ?_
        rotate_left
        · (intro w' hSw; (try dsimp only at hSw); go_simp; first | done | with_reducible rfl)
        simp only [Act.put]
        refine anyL_take (i := 11) (v := ?_) rfl rfl (by kernel_rfl) (by kernel_rfl) (by kernel_rfl) (by kernel_rfl) (fun _ _ _ h => h) (Or.inl ⟨by rfl, ?_⟩) hHeld ?_
        rotate_left
        · (intro w' hSw; (try dsimp only at hSw); go_simp; first | done | with_reducible rfl)
        simp only [Act.put]
        refine anyL_one (i := 12) (by kernel_rfl) rfl (fun K1 hK1 => ?_)
        go_simp
        clear hHeld
        have hHeld : (fun w' : World => w'.cell? ⟨W.heap.size, 0, none⟩ = some (.int .i64 rest) ∧ w'.cell? ⟨w.heap.size, 0, none⟩ = some (.pointer (some ⟨c.p, 0, none⟩)) ∧ w'.cell? ⟨c.p, 7, none⟩ = some (.slice (some ⟨g, 0, none⟩) s2.nodes.length cp) ∧ w'.cell? ⟨g, q * 9 + 8, none⟩ = some (.int .i64 nd.pos)) (v1.alloc (ndO ⟨n.kind, q, n.b, n.c, n.d, n.text, n.n, n.ty, n.pos⟩)).drew := by
          dsimp only
          go_keep
        refine hK1.out _ _ (fun _ => hHeld) ?_
        clear hK1 K1
        refine anyL_take (i := 13) (v := ?_) rfl rfl (by kernel_rfl) (by kernel_rfl) (by kernel_rfl) (by kernel_rfl) (fun _ _ _ h => h) (Or.inl ⟨by rfl, ?_⟩) hHeld ?_
        rotate_left
        · (intro w' hSw; (try dsimp only at hSw); go_simp; first | done | with_reducible rfl)
        simp only [Act.put]
        refine anyL_one (i := 14) (by kernel_rfl) rfl (fun K1 hK1 => ?_)
        go_simp
        clear hHeld
        have hHeld : (fun w' : World => w'.cell? ⟨W.heap.size, 0, none⟩ = some (.int .i64 rest) ∧ w'.cell? ⟨w.heap.size, 0, none⟩ = some (.pointer (some ⟨c.p, 0, none⟩)) ∧ w'.cell? ⟨c.p, 7, none⟩ = some (.slice (some ⟨g, 0, none⟩) s2.nodes.length cp) ∧ w'.cell? ⟨g, q * 9 + 8, none⟩ = some (.int .i64 nd.pos)) (v1.alloc (ndO ⟨n.kind, q, rest, n.c, n.d, n.text, n.n, n.ty, n.pos⟩)).drew := by
          dsimp only
          go_keep
        refine hK1.out _ _ (fun _ => hHeld) ?_
        clear hK1 K1
        refine anyL_take (i := 15) (v := ?_) rfl rfl (by kernel_rfl) (by kernel_rfl) (by kernel_rfl) (by kernel_rfl) (fun _ _ _ h => h) (Or.inl ⟨by rfl, ?_⟩) hHeld ?_
        rotate_left
        · (intro w' hSw; (try dsimp only at hSw); go_simp; first | done | with_reducible rfl)
        simp only [Act.put]
        refine anyL_one (i := 16) (by kernel_rfl) rfl (fun K1 hK1 => ?_)
        go_simp
        refine hK1.out _ _ (fun h => absurd rfl h) ?_
        clear hK1 K1 hHeld
        refine anyL_done (by kernel_rfl) ?_ _
        have C1 := Lib.hid (B1.out.alloc (ndO ⟨n.kind, q, rest, n.c, n.d, n.text, n.n, n.ty, nd.pos⟩)).drew
        have H1' : Hid (addT ⟨n.kind, q, rest, n.c, n.d, n.text, n.n, n.ty, nd.pos⟩ s2 = some (r2, s3)) := Lib.hid (by rw [HN2.out]; exact H1.out)
        gi_wp2_with (gi_at_call 71; refine (CallsIn.inRound l2 (callsIn_wide.2 (add_a (nd := ⟨n.kind, q, rest, n.c, n.d, n.text, n.n, n.ty, nd.pos⟩) C1.out H1'.out))).mono ?_; rintro e v2 ⟨rfl, ha⟩; obtain ⟨cr2, cfr2⟩ := nv1 ha.drop.loc; have B2 := Lib.hid ha; clear ha)
        refine ⟨s3, _, ⟨_, rfl, r2, rfl, H2⟩, (B2.out.drop.set 0 (.int .i64 r2)).perm (List.perm_append_comm (l₁ := (W.heap.size, .cells #[.int .i64 r2] 3 (0, 0)) :: (W.heap.size + 1, alO (.slice a xs.length cap')) :: (D, .deferred (some [])) :: (l, o) :: (w.heap.size + 1, alO (.slice a xs.length cap')) :: (R ++ [(w.heap.size, bxO c)])) (l₂ := X))⟩
    case done2 =>
      rintro D2 o2 l3 s2 _ V ⟨rest, rfl, HL⟩ hA3
      have hls := HL.out
      rw [List.drop_eq_nil_of_le (by simp)] at hls
      unfold listR at hls
      injection hls with h5
      injection h5 with h6 h7
      subst h6 h7
      have hcr : V.heap[W.heap.size]? = some (.cells #[.int .i64 rest] 3 (0, 0)) := hA3.mem (x := (W.heap.size, .cells #[.int .i64 rest] 3 (0, 0))) (by simp)
      obtain ⟨cr, cfr⟩ := nv1 hcr
      have HA5 := Lib.hid hA3
      clear hcr hA3 HL hs
      gi_wp2
      have hK := HA5.out.loc
      refine ⟨by simp, .inl ⟨_, _, rfl, run_takeDeferred hK, ?_⟩⟩
      have hA6 := HA5.out.putObj (.deferred none)
      have hK2 := hA6.mem (x := (D, .deferred (some []))) (by simp)
      refine ⟨by simp, .inl ⟨_, _, rfl, run_takeDeferred hK2, ?_⟩⟩
      obtain ⟨L9, hA7⟩ := hA6.putMem (b := D) (o := .deferred (some [])) (by simp) (.deferred none)
      exact ⟨_, results_tmp rfl _ _ _, hA7.done rfl⟩
end Go.Proofs.YtkgnmlllmihmlaaGreatDoor
