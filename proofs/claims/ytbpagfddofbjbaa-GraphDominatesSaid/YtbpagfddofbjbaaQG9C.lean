/-
  What holds of a search at each step: what it entered, its path, its tree.
  Layer 9: contract of depthFirst.
  Layer 9: slices.Reverse.
  Layer 9: contracts of Before, Reached, Dominates, Order.
  Layer 9: contracts of Dominates and Order.
-/
import Derived.Test.YtbpagfddofbjbaaQG9B
import Derived.Deep.LoopGhost
import Derived.Test.YtbpagfddofbjbaaQG9A
import Derived.Test.YtbpagfddofbjbaaLast
import Derived.Test.YtbpagfddofbjbaaQR9A
import Derived.RegionTactic
import Derived.ChangeAlike
namespace Go.Proofs.Ytbpagfddofbjbaa.Cd
set_option linter.unusedVariables false

/-- Plain facts of a search. -/
structure DOk (G : List (List Int)) (s : Dfs) : Prop where
  nodup : s.ent.Nodup
  inn : ∀ x ∈ s.ent, 0 ≤ x ∧ x < (G.length : Int)
  pin : ∀ x ∈ s.pth, x ∈ s.ent
  tril : s.tri.length = G.length
  trin : ∀ a : Nat, a < G.length → ∃ k : Nat, s.tri[a]? = some (k : Int) ∧ k ≤ (egs G (a : Int)).length
  cnt : s.lft.length + s.pth.length = s.ent.length
  parl : s.par.length = s.ent.length
  paro : ∀ (i : Nat) (u : Int), s.par[i]? = some u → -1 ≤ u ∧ u < (i : Int)
theorem DOk.first {G : List (List Int)} (h : 0 < G.length) : DOk G (Dfs.first G.length) := by
  refine ⟨by simp [Dfs.first], fun x hx => ?_, fun x hx => hx, by simp [Dfs.first], fun a ha => ⟨0, ?_, by omega⟩, rfl, rfl, fun i u hu => ?_⟩
  · have : x = 0 := by simpa [Dfs.first] using hx
    subst this; exact ⟨Int.le_refl _, by omega⟩
  · show (List.replicate G.length (0 : Int))[a]? = some 0
    rw [List.getElem?_replicate, if_pos ha]
  · match i, hu with
    | 0, hu => obtain rfl : -1 = u := by simpa [Dfs.first] using hu
               omega
    | i + 1, hu => simp [Dfs.first] at hu
theorem nodup_snoc {l : List Int} {y : Int} (h : l.Nodup) (hy : y ∉ l) : (l ++ [y]).Nodup := by
  rw [List.nodup_append]
  exact ⟨h, by simp, fun a ha b hb e => hy (by rw [List.mem_singleton] at hb; rw [← hb, ← e]; exact ha)⟩
theorem tri_bump {G : List (List Int)} {t : List Int} {a y : Int} {k : Nat} (ha : 0 ≤ a ∧ a < (G.length : Int)) (hl : t.length = G.length) (ht : ∀ a : Nat, a < G.length → ∃ k : Nat, t[a]? = some (k : Int) ∧ k ≤ (egs G (a : Int)).length) (hk : t[a.toNat]? = some (k : Int)) (hy : (egs G a)[k]? = some y) :
    ∀ b : Nat, b < G.length → ∃ k' : Nat, (t.set a.toNat ((k : Int) + 1))[b]? = some (k' : Int) ∧ k' ≤ (egs G (b : Int)).length := fun b hb => by
  by_cases hab : a.toNat = b
  · subst hab
    refine ⟨k + 1, by rw [List.getElem?_set_self (by omega)]; rfl, ?_⟩
    have := (List.getElem?_eq_some_iff.1 hy).1
    rw [Int.toNat_of_nonneg ha.1]; omega
  · rw [List.getElem?_set_ne hab]
    exact ht b hb
theorem DOk.step {G : List (List Int)} (hG : GIn G) {s t : Dfs} (h : DOk G s) (k : DStep G s t) : DOk G t := by
  obtain ⟨h1, h2, h3, h4, h5, h6, h7, h8⟩ := h
  cases k with
  | @old e p l t q a y k k1 k2 k3 =>
    simp only at h1 h2 h3 h4 h5 h6 h7 h8
    have ha := h2 a (h3 a (by simp))
    exact ⟨h1, h2, h3, by simpa using h4, tri_bump ha h4 h5 k1 k2, h6, h7, h8⟩
  | @new e p l t q a y k k1 k2 k3 =>
    simp only at h1 h2 h3 h4 h5 h6 h7 h8
    have ha := h2 a (h3 a (by simp))
    have hy := hG.egs (List.mem_of_getElem? k2)
    refine ⟨nodup_snoc h1 k3, fun x hx => ?_, fun x hx => ?_, by simpa using h4, tri_bump ha h4 h5 k1 k2, by simp at h6 ⊢; omega, by simp [h7], fun i u hu => ?_⟩
    · rcases List.mem_append.1 hx with hx | hx
      · exact h2 x hx
      · rw [List.mem_singleton] at hx; subst hx; exact hy
    · rcases List.mem_append.1 hx with hx | hx
      · exact List.mem_append_left _ (h3 x hx)
      · exact List.mem_append_right _ hx
    · by_cases hi : i < p.length
      · rw [List.getElem?_append_left hi] at hu
        exact h8 i u hu
      · rw [List.getElem?_append_right (by omega)] at hu
        have h0 : i - p.length = 0 := by
          have := (List.getElem?_eq_some_iff.1 hu).1
          simp at this; omega
        rw [h0] at hu
        have hu : (e.idxOf a : Int) = u := by simpa using hu
        have := List.idxOf_lt_length_of_mem (h3 a (by simp))
        omega
  | @out e p l t q a k k1 k2 =>
    simp only at h1 h2 h3 h4 h5 h6 h7 h8
    exact ⟨h1, h2, fun x hx => h3 x (List.mem_append_left _ hx), h4, h5, by simp at h6 ⊢; omega, h7, h8⟩
theorem DOk.steps {G : List (List Int)} (hG : GIn G) {s t : Dfs} (h : DOk G s) (k : DSteps G s t) : DOk G t := by
  induction k with
  | refl => exact h
  | more _ hs ih => exact ih.step hG hs
theorem nodup_leG {n : Nat} {l : List Int} (h : l.Nodup) (hi : ∀ x ∈ l, 0 ≤ x ∧ x < (n : Int)) : l.length ≤ n := by
  have h1 : (l.map Int.toNat).Nodup := by
    rw [List.Nodup, List.pairwise_map]
    refine List.Pairwise.imp_of_mem ?_ h
    intro a b ha hb hab e
    have := hi a ha
    have := hi b hb
    exact hab (by omega)
  have := nodup_lt n (l.map Int.toNat) h1 (fun k hk => by
    obtain ⟨x, hx, rfl⟩ := List.mem_map.1 hk
    have := hi x hx
    omega)
  simpa using this
theorem DOk.len {G : List (List Int)} {s : Dfs} (h : DOk G s) : s.ent.length ≤ G.length := nodup_leG h.nodup h.inn
end Go.Proofs.Ytbpagfddofbjbaa.Cd
namespace Go.Proofs.Ytbpagfddofbjbaa
set_option maxRecDepth 100000
open Go.RowKit Cd Go.Maps
set_option linter.unusedVariables false
set_option linter.unusedSimpArgs false

abbrev wkO (ve vp vl vm : Value) : Obj := .cells #[ve, vp, vl, vm] 67
abbrev w5 (w : World) (n : Nat) : World := ((((w.alloc (wkO (.slice none 0 0) (.slice none 0 0) (.slice none 0 0) (.map none))).alloc (.map #[] 0)).alloc (wkO (.slice none 0 0) (.slice none 0 0) (.slice none 0 0) (.map (some (w.heap.size + 1))))).alloc (iObj (List.replicate n 0))).alloc (.cells #[.int .i64 0] 3)
theorem w5_at (w : World) (n : Nat) : WAt (w5 w n) w.heap.size (.slice none 0 0) (.slice none 0 0) (.slice none 0 0) (.slice (some ⟨w.heap.size + 4, 0, none⟩) 1 1) [] [] [] [0] ∧ IRow (w5 w n) (w.heap.size + 3) (List.replicate n 0) ∧ (w5 w n).heap[w.heap.size]? = some (wkO (.slice none 0 0) (.slice none 0 0) (.slice none 0 0) (.map none)) ∧ Below w.heap.size w (w5 w n) ∧ (w5 w n).heap.size = w.heap.size + 5 := by
  have a0 := heap_alloc_new w (wkO (.slice none 0 0) (.slice none 0 0) (.slice none 0 0) (.map none))
  have a1 := PlAt.made (w.alloc (wkO (.slice none 0 0) (.slice none 0 0) (.slice none 0 0) (.map none)))
  have a2 := heap_alloc_new ((w.alloc (wkO (.slice none 0 0) (.slice none 0 0) (.slice none 0 0) (.map none))).alloc (.map #[] 0)) (wkO (.slice none 0 0) (.slice none 0 0) (.slice none 0 0) (.map (some (w.heap.size + 1))))
  have a3 := VRow.newI (((w.alloc (wkO (.slice none 0 0) (.slice none 0 0) (.slice none 0 0) (.map none))).alloc (.map #[] 0)).alloc (wkO (.slice none 0 0) (.slice none 0 0) (.slice none 0 0) (.map (some (w.heap.size + 1))))) (List.replicate n 0)
  have a4 := heap_alloc_new ((((w.alloc (wkO (.slice none 0 0) (.slice none 0 0) (.slice none 0 0) (.map none))).alloc (.map #[] 0)).alloc (wkO (.slice none 0 0) (.slice none 0 0) (.slice none 0 0) (.map (some (w.heap.size + 1))))).alloc (iObj (List.replicate n 0))) (.cells #[.int .i64 0] 3)
  simp only [World.size_alloc] at a1 a2 a3 a4
  have hs : (w5 w n).heap.size = w.heap.size + 5 := by simp [w5]
  refine ⟨⟨?_, ⟨rfl, ?_, ?_⟩, ?_⟩, ?_, ?_, ?_, hs⟩
  · exact (Below.heap_alloc _ _ _ (by simp <;> omega)).trans ((Below.heap_alloc _ _ _ (by simp <;> omega)).trans a2)
  · intro i l hi
    match i, hi with
    | 0, hi => obtain rfl : [] = l := by simpa using hi
               exact ⟨none, 0, rfl, World.ownsRow_nil _ _ _ _⟩
    | 1, hi => obtain rfl : [] = l := by simpa using hi
               exact ⟨none, 0, rfl, World.ownsRow_nil _ _ _ _⟩
    | 2, hi => obtain rfl : [] = l := by simpa using hi
               exact ⟨none, 0, rfl, World.ownsRow_nil _ _ _ _⟩
    | 3, hi => obtain rfl : [0] = l := by simpa using hi
               exact ⟨_, 1, rfl, rfl, .inr ⟨_, 1, _, rfl, Nat.le_refl _, a4, Nat.le_refl _, by unfold maxLen; omega, rfl, rfl⟩⟩
    | i + 4, hi => simp at hi
  · intro i j u v g hij hu hv hg
    match i, hu with
    | 0, hu => obtain rfl : Value.slice none 0 0 = u := by simpa using hu
               cases hg
    | 1, hu => obtain rfl : Value.slice none 0 0 = u := by simpa using hu
               cases hg
    | 2, hu => obtain rfl : Value.slice none 0 0 = u := by simpa using hu
               cases hg
    | 3, hu =>
      match j, hv with
      | 0, hv => obtain rfl : Value.slice none 0 0 = v := by simpa using hv
                 simp [Value.ownBlock]
      | 1, hv => obtain rfl : Value.slice none 0 0 = v := by simpa using hv
                 simp [Value.ownBlock]
      | 2, hv => obtain rfl : Value.slice none 0 0 = v := by simpa using hv
                 simp [Value.ownBlock]
      | 3, hv => exact absurd rfl hij
      | j + 4, hv => simp at hv
    | i + 4, hu => simp at hu
  · exact a1.keep ((Below.heap_alloc _ _ _ (by simp <;> omega)).trans ((Below.heap_alloc _ _ _ (by simp <;> omega)).trans (Below.heap_alloc _ _ _ (by simp))))
  · exact VRow.keep a3 (Below.heap_alloc _ _ _ (by simp))
  · exact (Below.heap_alloc _ _ _ (by simp <;> omega)).trans ((Below.heap_alloc _ _ _ (by simp <;> omega)).trans ((Below.heap_alloc _ _ _ (by simp <;> omega)).trans ((Below.heap_alloc _ _ _ (by simp)).trans a0)))
  · exact (((((Below.refl w.heap.size w).alloc (Nat.le_refl _) _).alloc (by simp) _).alloc (by simp <;> omega) _).alloc (by simp <;> omega) _).alloc (by simp <;> omega) _
theorem WAt.keep3 {w w' : World} {N : Nat} {ve vp vl vq : Value} {e p l q : List Int} (h : WAt w N ve vp vl vq e p l q) (hb : ∀ g, g ≠ N + 3 → w'.heap[g]? = w.heap[g]?) : WAt w' N ve vp vl vq e p l q :=
  ⟨(hb _ (by omega)).trans h.box, h.fam.keep (fun g h1 h2 => hb g (by omega)), h.map.keep (hb _ (by omega))⟩
theorem WAt.pathOwn {w : World} {N n c : Nat} {ve vp vl : Value} {a : Option Addr} {e p l q : List Int} (h : WAt w N ve vp vl (.slice a n c) e p l q) : n = q.length ∧ w.ownsRow (N + 4) 3 1 (.slice a n c) n (ints q) := by
  obtain ⟨_, _, _, a', c', h1, h2⟩ := h.forms
  injection h1 with e1 e2 e3
  subst e1 e2 e3
  exact ⟨rfl, h2⟩
/-- The path has grown. -/
theorem WAt.longer {w w3 : World} {N n c g3 cap3 : Nat} {ve vp vl : Value} {a : Option Addr} {e p l q : List Int} {y : Int} (h : WAt w N ve vp vl (.slice a n c) e p l q) (hN : N + 4 ≤ w.heap.size)
    (hown : w3.ownsRow (N + 4) 3 1 (.slice (some ⟨g3, 0, none⟩) (n + 1) cap3) (n + 1) (ints q ++ [.int .i64 y])) (hk : ∀ g, g < w.heap.size → (Value.slice a n c).ownBlock ≠ some g → w3.heap[g]? = w.heap[g]?) (hat : (Value.slice a n c).ownBlock = some g3 ∨ w.heap.size ≤ g3) :
    WAt w3 N ve vp vl (.slice (some ⟨g3, 0, none⟩) (n + 1) cap3) e p l (q ++ [y]) := by
  obtain ⟨hq, ho⟩ := h.pathOwn
  subst hq
  have hlo : ∀ g, g < N + 4 → w3.heap[g]? = w.heap[g]? := fun g hg => hk g (by omega) (fun e' => by have := (ho.lt g e').1; omega)
  exact ⟨(hlo _ (by omega)).trans h.box, h.fam.put (i := 3) (y := y) rfl rfl hown hk hat, h.map.keep (hlo _ (by omega))⟩
/-- One is left: the row of those left has grown, and is stored, and the path is cut. -/
theorem WAt.leave {w w3 : World} {N n g3 cap3 : Nat} {ve vp : Value} {al aq : Option Addr} {cl cq : Nat} {e p l q : List Int} {y : Int} (h : WAt w N ve vp (.slice al l.length cl) (.slice aq (n + 1) cq) e p l (q ++ [y])) (hN : N + 4 ≤ w.heap.size)
    (hown : w3.ownsRow (N + 4) 3 1 (.slice (some ⟨g3, 0, none⟩) (l.length + 1) cap3) (l.length + 1) (ints l ++ [.int .i64 y])) (hk : ∀ g, g < w.heap.size → (Value.slice al l.length cl).ownBlock ≠ some g → w3.heap[g]? = w.heap[g]?) (hat : (Value.slice al l.length cl).ownBlock = some g3 ∨ w.heap.size ≤ g3) :
    w3.heap[N + 2]? = w.heap[N + 2]? ∧ w3.heap[N + 3]? = w.heap[N + 3]? ∧ w3.heap[N]? = w.heap[N]? ∧
      WAt (w3.setCell ⟨N + 2, 2, none⟩ (.slice (some ⟨g3, 0, none⟩) (l.length + 1) cap3)) N ve vp (.slice (some ⟨g3, 0, none⟩) (l.length + 1) cap3) (.slice aq n cq) e p (l ++ [y]) q := by
  obtain ⟨hq, _⟩ := h.pathOwn
  have hq : n = q.length := by simpa using hq
  subst hq
  obtain ⟨a', c', h1, ho⟩ := h.forms.2.2.1
  injection h1 with e1 _ e3
  subst e1 e3
  have hlo : ∀ g, g < N + 4 → w3.heap[g]? = w.heap[g]? := fun g hg => hk g (by omega) (fun e' => by have := (ho.lt g e').1; omega)
  refine ⟨hlo _ (by omega), hlo _ (by omega), hlo _ (by omega), ?_, ?_, ?_⟩
  · rw [cells_set ((hlo _ (by omega)).trans h.box) 2]; simp
  · have h4 := (h.fam.put (i := 2) (y := y) rfl rfl hown hk hat)
    have h5 := h4.cut (i := 3) (k := q.length) (l := q ++ [y]) (a := aq) (c := cq) rfl (by simp) (by simp)
    have h6 := h5.keep (w' := w3.setCell ⟨N + 2, 2, none⟩ (.slice (some ⟨g3, 0, none⟩) (l.length + 1) cap3)) (fun g h1 h2 => Below.heap_setCell _ _ _ _ (by simp <;> omega))
    simpa using h6
  · exact (h.map.keep (hlo _ (by omega))).keep (Below.heap_setCell _ _ _ _ (by simp))
/-- The answer: what a search has, as a struct. -/
def WalkPost (e p l : List Int) (w : World) (r : Ending) (w' : World) : Prop := ∃ a1 c1 a2 c2 a3 c3 m, r = .returned (.agg #[.slice a1 e.length c1, .slice a2 p.length c2, .slice a3 l.length c3, .map (some m)]) ∧ LiesIn w' w.heap.size a1 (ints e) ∧ LiesIn w' w.heap.size a2 (ints p) ∧ w'.ownsRow w.heap.size 3 1 (.slice a3 l.length c3) l.length (ints l) ∧ w.heap.size ≤ m ∧ PlAt w' m e ∧ Below w.heap.size w w'
set_option maxHeartbeats 8000000 in
set_option maxRecDepth 100000 in
theorem depth_none (gc : Nat) (ga : Option Addr) (w : World) : Calls Try.prog 58 #[.slice ga 0 gc] w (WalkPost [] [] [] w) := by
  have hmm : ∀ (w : World), (Instr.makeMap 65 none).run Try.prog w = .ok (.map (some w.heap.size)) (w.alloc (.map #[] 0)) := fun w => by simp [Instr.makeMap, go_sem]
  go_enter Try.func58, Try.ntmps58
  go_wp2
  go_step3
  go_wp2
  rw [Exit.noGoto_ret]
  refine bodyPost_ret (v := .agg #[.slice none 0 0, .slice none 0 0, .slice none 0 0, .map (some (w.heap.size + 1))]) (by simp [results, Try.results58, go_sem] <;> rfl) rfl ?_
  have a1 := PlAt.made (w.alloc (wkO (.slice none 0 0) (.slice none 0 0) (.slice none 0 0) (.map (some (w.heap.size + 1)))))
  simp only [World.size_alloc] at a1
  exact ⟨none, 0, none, 0, none, 0, w.heap.size + 1, rfl, fun h => absurd h (by simp), fun h => absurd h (by simp), World.ownsRow_nil _ _ _ _, by omega, a1.keep (Below.heap_alloc _ _ _ (by simp)), (((Below.refl w.heap.size w).alloc (Nat.le_refl _) _).alloc (by simp) _).alloc (by simp <;> omega) _⟩
set_option maxHeartbeats 8000000 in
set_option maxRecDepth 100000 in
theorem depth_some (G : List (List Int)) (ga : Option Addr) (gc : Nat) (w : World) (hG : RowsAt w w.heap.size ga G) (hGI : GIn G) (hn : G.length ≤ 10000) (hn0 : 0 < G.length) (hr : ∀ l ∈ G, l.length ≤ 100000) :
    Calls Try.prog 58 #[.slice ga G.length gc] w (fun r w' => ∃ s, DSteps G (Dfs.first G.length) s ∧ s.pth = [] ∧ WalkPost s.ent s.par s.lft w r w') := by
  have HG := Lib.hid hG; have HGI := Lib.hid hGI; have HR := Lib.hid hr
  clear hG hGI hr
  obtain ⟨i0, hi0, hz0, hz1, hz2⟩ := info_parts infoInt
  have hmk := make_ints G.length (by omega)
  obtain ⟨hw5, ht5, hx5, hb5, hs5⟩ := w5_at w G.length
  have HW5 := Lib.hid hw5; have HT5 := Lib.hid ht5; have HX5 := Lib.hid hx5; have HB5 := Lib.hid hb5
  clear hw5 ht5 hx5 hb5
  have n0 : (0 : Int) < (G.length : Int) := by omega
  have t0 : ((G.length : Int) == 0) = false := by rw [beq_eq_false_iff_ne]; omega
  have hmm : ∀ (w : World), (Instr.makeMap 65 none).run Try.prog w = .ok (.map (some w.heap.size)) (w.alloc (.map #[] 0)) := fun w => by simp [Instr.makeMap, go_sem]
  go_enter Try.func58, Try.ntmps58
  go_wp2
  go_step3
  go_wp2_with ((with_reducible refine (enter_c w.heap.size _ _ _ _ [] [] [] [0] 0 (-1) _ HW5.out (by simp) (by omega) (by simp) (by simp) (by rw [hs5]; omega)).mono ?_); rintro e w1 ⟨rfl, ⟨ve, vp, hw1⟩, hb1, hx1, ht1⟩; have HW1 := Lib.hid hw1; have HB1 := Lib.hid (HB5.out.trans hb1); have HX1 := Lib.hid (hx1.trans HX5.out); have HT1 := Lib.hid (VRow.keep HT5.out ht1); clear hw1 hb1 hx1 ht1)
  go_step3
  go_wp2
  have HOK : Hid (∀ s : Dfs, DSteps G (Dfs.first G.length) s → DOk G s) := Lib.hid (fun s h => (DOk.first hn0).steps HGI.out h)
  go_loopg [5] (2 * (G.length - 1) + 1) (fun g s5 wr => ∃ (s : Dfs) (ve vp vl : Value), g = 2 * (G.length - s.ent.length) + s.pth.length ∧ Hid (DSteps G (Dfs.first G.length) s) ∧ Hid (WAt wr w.heap.size ve vp vl s5 s.ent s.par s.lft s.pth) ∧ Hid (IRow wr (w.heap.size + 3) s.tri) ∧ Hid (Below w.heap.size w wr) ∧ Hid (wr.heap[w.heap.size]? = some (wkO (.slice none 0 0) (.slice none 0 0) (.slice none 0 0) (.map none))))
  case atStart => exact ⟨Dfs.first G.length, ve, vp, _, rfl, Lib.hid (.refl _), HW1, HT1, HB1, HX1⟩
  case round =>
    obtain ⟨⟨e, p, lf, t, pth⟩, ve, vp, vl, hg, HS, HW, HT, HB, HX⟩ := hrel
    simp only at hg HW HT
    have hok := HOK.out _ HS.out
    obtain ⟨⟨ae, ce, rfl, hoe⟩, ⟨ap, cp, rfl, hop⟩, ⟨al, cl, rfl, hol⟩, ⟨aq, cq, rfl, hoq⟩⟩ := HW.out.forms
    rcases List.eq_nil_or_concat pth with rfl | ⟨q, a, rfl⟩
    · have hbx := HW.out.box
      obtain ⟨b0, b1, b2, b3⟩ := nv4 hbx
      obtain ⟨r0, r1, r2, r3⟩ := nv4 HX.out
      have hfz : ∀ j, wr.frozen? ⟨w.heap.size, j, none⟩ = false := fun j => by simp [World.frozen?, HX.out]
      have fz0 := hfz 0
      have fz1 := hfz 1
      have fz2 := hfz 2
      have fz3 := hfz 3
      have HOE := Lib.hid hoe; have HOP := Lib.hid hop; have HOL := Lib.hid hol
      clear hoe hop hol hoq hok hbx hfz
      go_wp2
      rw [Exit.noGoto_ret]
      refine bodyPost_ret (v := .agg #[.slice ae e.length ce, .slice ap p.length cp, .slice al lf.length cl, .map (some (w.heap.size + 1))]) (by simp [results, Try.results58, go_sem, r0, r1, r2, r3] <;> rfl) rfl ?_
      have hk : ∀ g, g ≠ w.heap.size → ((((wr.setCell ⟨w.heap.size, 0, none⟩ (.slice ae e.length ce)).setCell ⟨w.heap.size, 1, none⟩ (.slice ap p.length cp)).setCell ⟨w.heap.size, 2, none⟩ (.slice al lf.length cl)).setCell ⟨w.heap.size, 3, none⟩ (.map (some (w.heap.size + 1)))).heap[g]? = wr.heap[g]? := fun g hg => (Below.heap_setCell _ _ _ _ hg).trans ((Below.heap_setCell _ _ _ _ hg).trans ((Below.heap_setCell _ _ _ _ hg).trans (Below.heap_setCell _ _ _ _ hg)))
      refine ⟨_, HS.out, rfl, ae, ce, ap, cp, al, cl, w.heap.size + 1, rfl, ?_, ?_, ?_, by omega, HW.out.map.keep (hk _ (by omega)), ?_⟩
      · exact ((LiesIn.of_own HOE.out).keep (by simp) (fun g h1 _ => hk g (by omega))).le (by omega)
      · exact ((LiesIn.of_own HOP.out).keep (by simp) (fun g h1 _ => hk g (by omega))).le (by omega)
      · exact ownsRow_le (own_keep HOL.out (fun g hg => hk g (by have := (HOL.out.lt g hg).1; omega))) (by omega)
      · exact (((HB.out.setCell (show w.heap.size ≤ w.heap.size by omega) _).setCell (show w.heap.size ≤ w.heap.size by omega) _).setCell (show w.heap.size ≤ w.heap.size by omega) _).setCell (show w.heap.size ≤ w.heap.size by omega) _
    · rw [List.concat_eq_append] at *
      have hql : (q ++ [a]).length = q.length + 1 := by simp
      have hain := hok.inn a (hok.pin a (by simp))
      obtain ⟨j, rfl⟩ : ∃ j : Nat, a = (j : Int) := ⟨a.toNat, by omega⟩
      have hel := hok.len
      have hcnt := hok.cnt
      simp only [hql] at hoq hg hcnt hel
      obtain ⟨gq, rfl, hgq, hgql, cq1⟩ := own_int (k := q.length) (x := (j : Int)) hoq (by simp)
      have j0 : (0 : Int) ≤ (j : Int) := Int.natCast_nonneg _
      have j1 : (j : Int) < (G.length : Int) := by omega
      have q0 : (0 : Int) ≤ (q.length : Int) := Int.natCast_nonneg _
      obtain ⟨l, hl⟩ : ∃ l, G[j]? = some l := ⟨_, List.getElem?_eq_getElem (by omega)⟩
      obtain ⟨gb, goff, ra, rc, rfl, hgb, hgB, hgc0, hrow, hcap1, hcap2⟩ := HG.out.at hl
      have hll := HR.out l (List.mem_of_getElem? hl)
      have HL := Lib.hid hl; have HROW := Lib.hid hrow; have HGC := Lib.hid hgc0
      have HEG := Lib.hid (show egs G (j : Int) = l from egs_at (by simpa using hl))
      have HOQ := Lib.hid hoq; have HOL := Lib.hid hol
      have hpl := hok.parl
      simp only at hpl hel
      have ht0 := hok.trin j (by omega)
      simp only at ht0
      obtain ⟨k0, hk0, hk1⟩ := ht0
      rw [HEG.out] at hk1
      have HTK := Lib.hid hk0
      clear hl hrow hgc0 hoq hok hoe hop hol hk0
      have HWA : Hid (WAt wr w.heap.size (.slice ae e.length ce) (.slice ap p.length cp) (.slice al lf.length cl) (.slice (some ⟨gq, 0, none⟩) (q.length + 1) cq) e p lf (q ++ [(j : Int)])) := by rw [← hql]; exact HW
      rw [hql]
      go_wp2
      go_loopg [5] (l.length - k0) (fun g s5 wr => ∃ (t : List Int) (k : Nat), g = l.length - k ∧ s5 = .slice (some ⟨gq, 0, none⟩) (q.length + 1) cq ∧ k ≤ l.length ∧ Hid (t[j]? = some (k : Int)) ∧ Hid (DSteps G (Dfs.first G.length) ⟨e, p, lf, t, q ++ [(j : Int)]⟩) ∧ Hid (WAt wr w.heap.size (.slice ae e.length ce) (.slice ap p.length cp) (.slice al lf.length cl) (.slice (some ⟨gq, 0, none⟩) (q.length + 1) cq) e p lf (q ++ [(j : Int)])) ∧ Hid (IRow wr (w.heap.size + 3) t) ∧ Hid (Below w.heap.size w wr) ∧ Hid (wr.heap[w.heap.size]? = some (wkO (.slice none 0 0) (.slice none 0 0) (.slice none 0 0) (.map none))))
      case atStart => exact ⟨t, k0, rfl, rfl, hk1, HTK, HS, HWA, HT, HB, HX⟩
      case round =>
        obtain ⟨tt, k, hgg, rfl, hkl, HK, HS2, HW2, HT2, HB2, HX2⟩ := hrel
        have hok2 := HOK.out _ HS2.out
        have htl := hok2.tril
        simp only at htl
        have hNs := HT2.out.lt
        have hbs := HB2.out.size
        have ct : wr.cell? ⟨w.heap.size + 3, j, none⟩ = some (.int .i64 k) := HT2.out.cell HK.out
        have ft : wr.frozen? ⟨w.heap.size + 3, j, none⟩ = false := HT2.out.frozen j
        have cg := (HB2.out.cell (p := ⟨gb, goff + j, none⟩) hgb).trans HGC.out
        have hgb2 : gb < wr.heap.size := by omega
        have k0 : (0 : Int) ≤ (k : Int) := Int.natCast_nonneg _
        have jt : (j : Int) < (tt.length : Int) := by omega
        by_cases hlt : k < l.length
        · obtain ⟨y, hy⟩ : ∃ y, l[k]? = some y := ⟨_, List.getElem?_eq_getElem hlt⟩
          obtain ⟨rb, roff, rfl, hrb, hrB, hrc⟩ := IntsAt.cellsB (HROW.out.below HB2.out) hy
          have hyin := HGI.out.egs (x := (j : Int)) (y := y) (by rw [HEG.out]; exact List.mem_of_getElem? hy)
          have k1 : (k : Int) < (l.length : Int) := by omega
          have HY : Hid ((egs G (j : Int))[k]? = some y) := Lib.hid (by rw [HEG.out]; exact hy)
          have hrb2 : rb < wr.heap.size := by omega
          have hbx := HW2.out.box
          obtain ⟨b0, b1, b2, b3⟩ := nv4 hbx
          obtain ⟨D, nD, hnD, hom, hpm⟩ := HW2.out.map
          have HOF : Hid (∀ W : World, W.heap[w.heap.size + 1]? = wr.heap[w.heap.size + 1]? → W.ownsMap Try.prog 3 (plainElem (H := Unit) Try.prog 3) (w.heap.size + 1) nD D) := Lib.hid (fun W hW => by obtain ⟨es, clock, h1, F, h2, h3⟩ := hom; exact ⟨es, clock, hW.trans h1, F, h2, h3⟩)
          have HPM := Lib.hid hpm
          have hwy : (Lit.int .i64 y).wf = true := wfI hyin.1 (by omega)
          have hwj : (Lit.int .i64 (j : Int)).wf = true := wfI j0 (by omega)
          have HTS : Hid (∀ n, IRow ((wr.drewN n).setCell ⟨w.heap.size + 3, j, none⟩ (.int .i64 ((k : Int) + 1))) (w.heap.size + 3) (tt.set j ((k : Int) + 1))) := Lib.hid (fun n => IRow.set (w := wr.drewN n) HT2.out j _)
          have HJN : Hid ((j : Int).toNat = j) := Lib.hid (by simp)
          have hpm1 := hpm.has y
          by_cases hye : y ∈ e
          · have HH : Hid (Maps.has D (.int .i64 y) = true) := Lib.hid (by rw [hpm1]; simpa using hye)
            have HN : Hid (DSteps G (Dfs.first G.length) ⟨e, p, lf, tt.set j ((k : Int) + 1), q ++ [(j : Int)]⟩) := Lib.hid (.more HS2.out (.old (by simpa using HK.out) HY.out hye))
            clear hy hok2 hye hbx hom hpm b0 b1 b2 hpm1
            go_wp2
            go_quiet (fail)
            go_wp2
            go_quiet (fail)
            go_wp2_with (at_lookup; go_loud (refine wpList_lookup_own_ok_int _ rfl _ _ 65 rfl 3 3 .i64 lawI Try.underlying65 Try.underlying3 (zeroI _) (w.heap.size + 1) nD D rfl (HOF.out _ (Below.heap_setCell _ _ _ _ (by simp))) _ (.int .i64 y) rfl (keyI hwy) ?_; intro c hat hwc; rw [HH.out]; clear hat hwc))
            go_roundg (l.length - (k + 1))
            case measure => omega
            case rel => exact ⟨_, k + 1, rfl, rfl, by omega, Lib.hid (by rw [List.getElem?_set_self (by omega)]; rfl), HN, Lib.hid (HW2.out.keep3 (fun g hg => Below.heap_setCell _ _ _ _ hg)), HTS.out _, Lib.hid ((drN HB2.out _).setCell (show w.heap.size ≤ w.heap.size + 3 by omega) _), Lib.hid ((Below.heap_setCell _ _ _ _ (by simp <;> omega)).trans HX2.out)⟩
          · have HH : Hid (Maps.has D (.int .i64 y) = false) := Lib.hid (by rw [hpm1]; simpa using hye)
            have HIX : Hid (∀ c : Int, D.atKey (.int .i64 (j : Int)) (.lit (.int .i64 0)) = .lit (.int .i64 c) → (e.idxOf (j : Int) : Int) = c) := Lib.hid (fun c hc => by rw [HPM.out.at_ (j : Int) _ (hok2.pin (j : Int) (by simp))] at hc; exact cvI hc)
            have HN : Hid (DSteps G (Dfs.first G.length) ⟨e ++ [y], p ++ [(e.idxOf (j : Int) : Int)], lf, tt.set j ((k : Int) + 1), q ++ [(j : Int)] ++ [y]⟩) := Lib.hid (.more HS2.out (.new (by simpa using HK.out) HY.out hye))
            have hlen2 := (HOK.out _ HN.out).len
            simp only [List.length_append, List.length_singleton] at hlen2
            have HYE := Lib.hid hye
            have HWK : Hid (∀ n, WAt ((wr.drewN n).setCell ⟨w.heap.size + 3, j, none⟩ (.int .i64 ((k : Int) + 1))) w.heap.size (.slice ae e.length ce) (.slice ap p.length cp) (.slice al lf.length cl) (.slice (some ⟨gq, 0, none⟩) (q.length + 1) cq) e p lf (q ++ [(j : Int)])) := Lib.hid (fun n => HW2.out.keep3 (fun g hg => Below.heap_setCell _ _ _ _ hg))
            have hel2 : e.length ≤ 100000 := by omega
            have hpl2 : p.length ≤ 100000 := by omega
            clear hy hok2 hye hbx hom hpm b0 b1 b2 hpm1
            go_wp2
            go_quiet (fail)
            go_wp2
            go_quiet (fail)
            go_wp2_with (first | (at_lookup; refine wpList_lookup_own_ok_int _ rfl _ _ 65 rfl 3 3 .i64 lawI Try.underlying65 Try.underlying3 (zeroI _) (w.heap.size + 1) nD D rfl (HOF.out _ (Below.heap_setCell _ _ _ _ (by simp))) _ (.int .i64 y) rfl (keyI hwy) ?_; intro c hat hwc; rw [HH.out]; clear hat hwc) | (at_lookup; refine wpList_lookup_own_int _ rfl _ _ 65 rfl 3 3 .i64 lawI Try.underlying65 Try.underlying3 (zeroI _) (w.heap.size + 1) nD D rfl (HOF.out _ (Below.heap_setCell _ _ _ _ (by simp))) _ (.int .i64 (j : Int)) rfl (keyI hwj) ?_; intro c hat hwc; have hc := HIX.out c hat; subst hc; clear hat hwc) | ((with_reducible refine (enter_c w.heap.size _ _ _ _ e p lf (q ++ [(j : Int)]) y _ _ (HWK.out _) HYE.out (by omega) hel2 hpl2 (by simp <;> omega)).mono ?_); rintro r w2 ⟨rfl, ⟨ve2, vp2, hw2⟩, hb2, hx2, ht2⟩; have HWE := Lib.hid hw2; have HPO := Lib.hid hw2.pathOwn; have HBE := Lib.hid (((drN HB2.out _).setCell (show w.heap.size ≤ w.heap.size + 3 by omega) _).trans hb2); have HXE := Lib.hid (hx2.trans ((Below.heap_setCell _ _ _ _ (by simp <;> omega)).trans HX2.out)); have HTE := Lib.hid (VRow.keep (HTS.out _) ht2); have hs2 : w.heap.size + 4 ≤ w2.heap.size := (by have := HTE.out.lt; omega); clear hw2 hb2 hx2 ht2) | (at_builtin; go_loud (refine wpList_append_lies _ rfl (.tmp 71) (.tmp 73) 31 rfl (w.heap.size + 4) 3 i0 (.int .i64 0) 1 8 Try.underlying31 hi0 hz0 hz1 hz2 rfl (by decide) (.slice (some ⟨gq, 0, none⟩) (q.length + 1) cq) (q.length + 1) (ints (q ++ [(j : Int)])) rfl (HPO.out.2.alloc _) _ 1 1 [.int .i64 y] rfl rfl (cell_new1 _ _ _ _ (by simp)) (by simp [Value.oneCell']) (by omega) (by unfold maxLen; omega) (by omega) (by simp <;> omega) (w2.heap.size + 1) (by simp) ?_; intro g3 cap3 w3 hown hgrow hat hlt; have HK3 : Hid (∀ g, g < w2.heap.size → (Value.slice (some ⟨gq, 0, none⟩) (q.length + 1) cq).ownBlock ≠ some g → w3.heap[g]? = w2.heap[g]?) := Lib.hid (fun g hg hne => (hgrow.block g (by simp <;> omega) (fun e' => hne e'.symm)).trans (Below.heap_alloc _ _ _ hg)); have HW3 := Lib.hid (HWE.out.longer (by omega) hown HK3.out (hat.imp id (fun e' => by omega))); have HB3 := Lib.hid ((HBE.out.alloc (by omega) _).grown hgrow (by simp <;> omega) (fun k e' => by have := (HPO.out.2.lt k e').1; omega)); have HLO3 : Hid (∀ g, g < w.heap.size + 4 → w3.heap[g]? = w2.heap[g]?) := Lib.hid (fun g hg => HK3.out g (by omega) (fun e' => by have := (HPO.out.2.lt g e').1; omega)); clear hown hgrow hat hlt)))
            go_roundg (2 * (G.length - (e.length + 1)) + (q.length + 2))
            case measure => omega
            case rel => exact ⟨⟨e ++ [y], p ++ [(e.idxOf (j : Int) : Int)], lf, tt.set j ((k : Int) + 1), q ++ [(j : Int)] ++ [y]⟩, ve2, vp2, _, by simp, HN, HW3, Lib.hid (VRow.keep HTE.out (HLO3.out (w.heap.size + 3) (by omega))), HB3, Lib.hid ((HLO3.out w.heap.size (by omega)).trans HXE.out)⟩
        · obtain rfl : k = l.length := by omega
          have HN : Hid (DSteps G (Dfs.first G.length) ⟨e, p, lf ++ [(j : Int)], tt, q⟩) := Lib.hid (.more HS2.out (.out (by simpa using HK.out) (by rw [HEG.out]; exact Nat.le_refl _)))
          have HBX2 := Lib.hid HW2.out.box
          obtain ⟨b0, b1, b2, b3⟩ := nv4 HBX2.out
          obtain ⟨al', cl', hal, hol2⟩ := HW2.out.forms.2.2.1
          have HOL2 : Hid (wr.ownsRow (w.heap.size + 4) 3 1 (.slice al lf.length cl) lf.length (ints lf)) := Lib.hid (by rw [hal]; exact hol2)
          have HOLF : Hid (∀ W : World, W.heap = wr.heap → W.ownsRow (w.heap.size + 4) 3 1 (.slice al lf.length cl) lf.length (ints lf)) := Lib.hid (fun W hW => own_keep HOL2.out (fun g _ => by rw [hW]))
          have hpo := HW2.out.pathOwn.2
          obtain ⟨hr1, hr2, hr3⟩ := own_room hpo
          have hsl := slice_short (n := q.length + 1) (k := q.length) hr3 (by omega) hr2
          have hlf : lf.length ≤ 100000 := by omega
          have hN4 : w.heap.size + 4 ≤ wr.heap.size := by omega
          clear hok2 hal hol2 hpo hr3 b0 b1 b3
          go_wp2
          go_quiet (fail)
          go_wp2_with (at_builtin; go_loud (refine wpList_append_lies _ rfl (.tmp 76) (.tmp 78) 31 rfl (w.heap.size + 4) 3 i0 (.int .i64 0) 1 8 Try.underlying31 hi0 hz0 hz1 hz2 rfl (by decide) (.slice al lf.length cl) lf.length (ints lf) rfl (World.ownsRow.alloc (own_keep HOL2.out (fun _ _ => rfl)) _) _ 1 1 [.int .i64 (j : Int)] rfl rfl (cell_new1 _ _ _ _ (by simp)) (by simp [Value.oneCell']) (by omega) (by unfold maxLen; omega) (by omega) (by simp <;> omega) (wr.heap.size + 1) (by simp) ?_; intro g3 cap3 w3 hown hgrow0 hat hlt; have hgrow : (wr.alloc (.cells #[.int .i64 (j : Int)] 3)).grownBy w3 (Value.slice al lf.length cl).ownBlock := ⟨hgrow0.os, hgrow0.tape, hgrow0.output, hgrow0.size, hgrow0.block⟩; have HK3 : Hid (∀ g, g < wr.heap.size → (Value.slice al lf.length cl).ownBlock ≠ some g → w3.heap[g]? = wr.heap[g]?) := Lib.hid (fun g hg hne => (hgrow.block g (by simp <;> omega) (fun e' => hne e'.symm)).trans (Below.heap_alloc _ _ _ hg)); have hat2 : (Value.slice al lf.length cl).ownBlock = some g3 ∨ wr.heap.size ≤ g3 := hat.imp id (fun e' => (by omega)); have HW3 := Lib.hid (WAt.leave (y := (j : Int)) (g3 := g3) (cap3 := cap3) HW2.out hN4 hown HK3.out hat2); have HB3 := Lib.hid ((HB2.out.alloc (by omega) _).grown hgrow (by simp <;> omega) (fun k e' => by have := (HOL2.out.lt k e').1; omega)); have HBX3 := Lib.hid (HW3.out.1.trans HBX2.out); have z3 := (nv4 HBX3.out).2.2.1; have f3 : w3.frozen? ⟨w.heap.size + 2, 2, none⟩ = false := (by simp [World.frozen?, HBX3.out]); clear hown hgrow hgrow0 hat hat2 hlt))
          go_roundg (2 * (G.length - e.length) + q.length)
          case measure => omega
          case rel => exact ⟨⟨e, p, lf ++ [(j : Int)], tt, q⟩, _, _, _, rfl, HN, Lib.hid HW3.out.2.2.2, Lib.hid (VRow.keep (VRow.keep HT2.out HW3.out.2.1) (Below.heap_setCell _ _ _ _ (by simp))), Lib.hid (HB3.out.setCell (show w.heap.size ≤ w.heap.size + 2 by omega) _), Lib.hid ((Below.heap_setCell _ _ _ _ (by simp <;> omega)).trans (HW3.out.2.2.1.trans HX2.out))⟩
end Go.Proofs.Ytbpagfddofbjbaa
namespace Go.Proofs.Ytbpagfddofbjbaa
set_option maxRecDepth 100000
open Go.RowKit Cd
set_option linter.unusedVariables false
set_option linter.unusedSimpArgs false

theorem own_setK {w : World} {B n cap g j : Nat} {xs : List Value} (h : w.ownsRow B 3 1 (.slice (some ⟨g, 0, none⟩) n cap) n xs) (hj : j < n) (u : Value) : (w.setCell ⟨g, j, none⟩ u).ownsRow B 3 1 (.slice (some ⟨g, 0, none⟩) n cap) n (xs.set j u) := by
  obtain ⟨hl, ⟨h0, h1⟩ | ⟨g', cap', cur, hv, hg, hh, h1, h2, h3, ht⟩⟩ := h
  · cases h0
  · injection hv with hv _ hc
    injection hv with hv
    injection hv with hv _ _
    subst hv hc
    refine ⟨by simpa using hl, .inr ⟨g, cap, cur.setIfInBounds j u, rfl, hg, cells_set hh j u, h1, h2, by simpa using h3, ?_⟩⟩
    rw [Array.toList_setIfInBounds, ← ht, List.take_set]
/-- The first k and the last k have changed places. -/
def revTo (l : List Int) (k : Nat) (r : List Int) : Prop := r.length = l.length ∧ ∀ i, i < l.length → r[i]? = if i < k ∨ l.length - 1 - i < k then l[l.length - 1 - i]? else l[i]?
theorem revTo.next {l r : List Int} {k : Nat} {x y : Int} (h : revTo l k r) (hk : 2 * k + 1 < l.length) (hx : r[k]? = some x) (hy : r[l.length - 1 - k]? = some y) : revTo l (k + 1) ((r.set k y).set (l.length - 1 - k) x) := by
  obtain ⟨h1, h2⟩ := h
  refine ⟨by simp [h1], fun i hi => ?_⟩
  have ex := h2 k (by omega)
  rw [if_neg (by omega), hx] at ex
  have ey := h2 (l.length - 1 - k) (by omega)
  rw [if_neg (by omega), hy] at ey
  by_cases e1 : i = l.length - 1 - k
  · subst e1
    rw [List.getElem?_set_self (by simp; omega), if_pos (by omega), show l.length - 1 - (l.length - 1 - k) = k by omega, ← ex]
  · rw [List.getElem?_set_ne (by omega)]
    by_cases e2 : i = k
    · subst e2
      rw [List.getElem?_set_self (by omega), if_pos (by omega), ← ey]
    · rw [List.getElem?_set_ne (by omega), h2 i hi]
      by_cases e3 : i < k ∨ l.length - 1 - i < k
      · rw [if_pos e3, if_pos (by omega)]
      · rw [if_neg e3, if_neg (by omega)]
theorem revTo.end {l r : List Int} {k : Nat} (h : revTo l k r) (hk : l.length ≤ 2 * k + 1) : r = l.reverse := by
  obtain ⟨h1, h2⟩ := h
  apply List.ext_getElem?
  intro i
  by_cases hi : i < l.length
  · rw [h2 i hi, List.getElem?_reverse hi]
    by_cases e : i < k ∨ l.length - 1 - i < k
    · rw [if_pos e]
    · rw [if_neg e]; congr 1; omega
  · rw [List.getElem?_eq_none (by omega), List.getElem?_eq_none (by simp; omega)]
set_option maxHeartbeats 4000000 in
set_option maxRecDepth 100000 in
theorem reverse_c (l : List Int) (B : Nat) (a : Option Addr) (c : Nat) (w : World) (h : w.ownsRow B 3 1 (.slice a l.length c) l.length (ints l)) (hl : l.length ≤ 100000) :
    Calls Try.prog 59 #[.slice a l.length c] w fun e w' => e = .returned (.tuple #[]) ∧ w'.ownsRow B 3 1 (.slice a l.length c) l.length (ints l.reverse) ∧ Below B w w' := by
  have hmix : Try.prog.follows .mixedOrders = true := by kernel_rfl
  have H := Lib.hid h; clear h
  go_enter Try.func59, Try.ntmps59
  go_wp2
  go_loopw [2, 3] (fun s2 s3 wr => ∃ (k : Nat) (r : List Int), k ≤ l.length ∧ s2 = .int .i64 (k : Int) ∧ s3 = .int .i64 ((l.length : Int) - 1 - (k : Int)) ∧ Hid (revTo l k r) ∧ Hid (wr.ownsRow B 3 1 (.slice a l.length c) l.length (ints r)) ∧ Hid (Below B w wr)) (fun s2 s3 wr => l.length - (intOf s2).toNat)
  case atStart => exact ⟨0, l, by omega, rfl, by simp, Lib.hid ⟨rfl, fun i hi => by rw [if_neg (by omega)]⟩, H, Lib.hid (Below.refl _ _)⟩
  case round =>
    obtain ⟨k, r, hk, rfl, rfl, HR, HO, HB⟩ := hrel
    have k0 : (0 : Int) ≤ (k : Int) := Int.natCast_nonneg _
    by_cases hlt : 2 * k + 1 < l.length
    · obtain ⟨j, hj⟩ : ∃ j : Nat, j = l.length - 1 - k := ⟨_, rfl⟩
      have ej : (l.length : Int) - 1 - (k : Int) = (j : Int) := by omega
      rw [ej]
      have hrl := HR.out.1
      obtain ⟨x, hx⟩ : ∃ x, r[k]? = some x := ⟨_, List.getElem?_eq_getElem (by omega)⟩
      obtain ⟨y, hy⟩ : ∃ y, r[j]? = some y := ⟨_, List.getElem?_eq_getElem (by omega)⟩
      have HN := Lib.hid (HR.out.next hlt hx (hj ▸ hy))
      rw [← hj] at HN
      obtain ⟨g, rfl, hg, hgl, cx⟩ := own_int (n := l.length) HO.out hx
      obtain ⟨g', e', _, _, cy⟩ := own_int (n := l.length) HO.out hy
      injection e' with e'
      injection e' with e' _ _
      subst e'
      obtain ⟨i, rfl⟩ : ∃ i, i = k := ⟨_, rfl⟩
      have i1 : (i : Int) < (l.length : Int) := by omega
      have j0 : (0 : Int) ≤ (j : Int) := Int.natCast_nonneg _
      have j1 : (j : Int) < (l.length : Int) := by omega
      have hij : (i : Int) < (j : Int) := by omega
      have hne : ¬ i = j := by omega
      have hne' : ¬ j = i := by omega
      have fx := HO.out.frozenAt i
      have fy := HO.out.frozenAt j
      have hjn : (j : Int) - 1 = (l.length : Int) - 1 - ((i + 1 : Nat) : Int) := by omega
      have HJN := Lib.hid hjn
      have hi9 : i < l.length := by omega
      have hj9 : j < l.length := by omega
      have hlt9 : i + 1 ≤ l.length := by omega
      have HE : Hid (ints ((r.set i y).set j x) = ((ints r).set i (.int .i64 y)).set j (.int .i64 x)) := Lib.hid (by unfold ints; rw [List.map_set, List.map_set])
      have HE2 : Hid (((ints r).set i (.int .i64 y)).set j (.int .i64 x) = ((ints r).set j (.int .i64 x)).set i (.int .i64 y)) := Lib.hid (List.set_comm _ _ hne)
      clear hx hy hj hjn hlt hrl
      go_wp2
      go_region
      go_wp2
      go_roundw
      case rel =>
        refine ⟨i + 1, (r.set i y).set j x, hlt9, by go_num, congrArg (Value.int .i64) HJN.out, HN, Lib.hid ?_, Lib.hid ?_⟩
        · rw [HE.out]
          exact own_setK (own_setK HO.out hi9 _) hj9 _
        · exact drW ((HB.out.setCell (show B ≤ g from hg) _).setCell (show B ≤ g from hg) _)
      case measure => simp [intOf] <;> omega
    · have hfin := HR.out.end (by omega)
      have HE := Lib.hid hfin
      have hge : ¬ (k : Int) < (l.length : Int) - 1 - (k : Int) := by omega
      have t0 : decide ((k : Int) < (l.length : Int) - 1 - (k : Int)) = false := by simpa using hge
      clear hfin hlt
      go_wp2
      go_end0
      exact ⟨rfl, by have h9 := HO.out; rw [HE.out] at h9; simpa [ints] using h9, HB.out⟩
end Go.Proofs.Ytbpagfddofbjbaa
namespace Go.Proofs.Ytbpagfddofbjbaa
set_option maxRecDepth 100000
open Go.RowKit Cd Go.Maps
set_option linter.unusedVariables false
set_option linter.unusedSimpArgs false

theorem followG_ok (f : Fnc) : GIn (followG f) ∧ (followG f).length ≤ 8192 ∧ ∀ l ∈ followG f, l.length ≤ 2 := by
  unfold followG
  split
  · rename_i h
    have hf := rightF_iff.1 h
    refine ⟨nextG_in (closed_of hf), by rw [nextG_len]; exact hf.code.2, fun l hl => ?_⟩
    obtain ⟨k, hk⟩ := List.mem_iff_getElem?.1 hl
    rw [nextG_at] at hk
    obtain ⟨i, _, rfl⟩ := Option.map_eq_some_iff.1 hk
    exact nexts_len i _
  · exact ⟨fun l hl => (by cases hl), by simp, fun l hl => (by cases hl)⟩
theorem turned_row {G : List (List Int)} (hG : GIn G) {l : List Int} (hl : l ∈ turned G) : l.length ≤ G.length := by
  obtain ⟨n, hn⟩ := List.mem_iff_getElem?.1 hl
  exact turnG_row hG (Nat.le_refl _) hn
/-- A function as an argument: what the calls want of it. -/
structure FnOk (w : World) (r : FnR) : Prop where
  code : CodeAt w w.heap.size r
  len : r.f.code.length ≤ maxLen
theorem FnOk.below {w w' : World} {r : FnR} (h : FnOk w r) (hb : Below w.heap.size w w') : FnOk w' r := ⟨RowAt.mono (h.code.below hb) hb.size (Nat.le_refl _), h.len⟩
theorem follows_v {w : World} {r : FnR} (h : FnOk w r) (G : List (List Int)) (hG : followG r.f = G) : Calls Try.prog 56 #[fnV r] w (RowsPost G w) := hG ▸ follows_any r w.heap.size w h.code (Nat.le_refl _) h.len
abbrev bx1 (w : World) (r : FnR) : World := w.alloc (fnO r)
theorem bx1_below (w : World) (r : FnR) : Below w.heap.size w (bx1 w r) := (Below.refl w.heap.size w).alloc (Nat.le_refl _) _
set_option maxHeartbeats 4000000 in
set_option maxRecDepth 100000 in
theorem before_g (r : FnR) (w : World) (h : FnOk w r) (G : List (List Int)) (hG : followG r.f = G) : Calls Try.prog 17 #[fnV r] w (RowsPost (turned G) w) := by
  have hok := followG_ok r.f
  rw [hG] at hok
  have H := Lib.hid (h.below (bx1_below w r)); have HOK := Lib.hid hok; have HG := Lib.hid hG
  have hgl : G.length ≤ 10000 := by have := hok.2.1; omega
  clear h hok hG
  obtain ⟨x0, x1, x2, x3, x4⟩ := nv5 (heap_alloc_new w (fnO r))
  go_enter Try.func17, Try.ntmps17
  go_wp2_with (first | ((with_reducible refine (follows_v H.out G HG.out).mono ?_); rintro e w1 ⟨ga, gc, rfl, hg, hb1⟩; have HG1 := Lib.hid hg; have HB1 := Lib.hid ((bx1_below w r).trans (hb1.mono (by simp))); clear hg hb1) | ((with_reducible refine (turned_c G ga gc _ HG1.out HOK.out.1 hgl (fun l hl => by have := HOK.out.2.2 l hl; omega)).mono ?_); rintro e w2 ⟨ta, tc, rfl, ht, hb2⟩; have HT := Lib.hid ht; have HB2 := Lib.hid (HB1.out.trans (hb2.mono HB1.out.size)); clear ht hb2))
  go_ret
  exact ⟨ta, tc, rfl, HT.out, HB2.out⟩
/-- What is reached, told. -/
noncomputable def Cd.reachL (G : List (List Int)) : List Bool := if G = [] then [] else foundB G [0] (-1)
def BoolPost (l : List Bool) (w : World) (e : Ending) (w' : World) : Prop := ∃ a c, e = .returned (.slice a l.length c) ∧ LiesIn w' w.heap.size a (bools l) ∧ Below w.heap.size w w'
theorem zero_row (w : World) : RowAt (w.alloc (.cells #[.int .i64 0] 3)) (w.heap.size + 1) (some ⟨w.heap.size, 0, none⟩) (ints [0]) := fun _ => by
  have h := heap_alloc_new w (.cells #[.int .i64 0] 3)
  refine ⟨w.heap.size, 0, rfl, by omega, by simp, fun j u hu => ?_⟩
  rw [Nat.zero_add, cell_of_row _ _ _ _ _ _ h]
  simpa using hu
theorem found_z (G : List (List Int)) (ga : Option Addr) (gc : Nat) (no : Int) (w : World) (hG : RowsAt w w.heap.size ga G) (hGI : GIn G) (hn : G.length ≤ 10000) (h0 : 0 < G.length) (hr : ∀ l ∈ G, l.length ≤ 100000) :
    Calls Try.prog 57 #[.slice ga G.length gc, .slice (some ⟨w.heap.size, 0, none⟩) 1 1, .int .i64 no] (w.alloc (.cells #[.int .i64 0] 3)) (BoolsPost (foundB G [0] no) (w.alloc (.cells #[.int .i64 0] 3))) :=
  found_c G ga gc [0] _ 1 no _ (RowsAt.mono (hG.below ((Below.refl _ w).alloc (Nat.le_refl _) _)) (by simp) (Nat.le_refl _)) hGI ((zero_row w).mono (by simp) (Nat.le_refl _)) (by simp; omega) (by simp) hn hr
set_option maxHeartbeats 4000000 in
set_option maxRecDepth 100000 in
theorem reached_g (r : FnR) (w : World) (h : FnOk w r) (G : List (List Int)) (hG : followG r.f = G) : Calls Try.prog 18 #[fnV r] w (BoolPost (reachL G) w) := by
  have hok := followG_ok r.f
  rw [hG] at hok
  have H := Lib.hid (h.below (bx1_below w r)); have HOK := Lib.hid hok; have HG := Lib.hid hG
  have hgl : G.length ≤ 10000 := by have := hok.2.1; omega
  clear h hok hG
  obtain ⟨x0, x1, x2, x3, x4⟩ := nv5 (heap_alloc_new w (fnO r))
  by_cases hg0 : G = []
  · subst hg0
    have e0 : reachL [] = [] := if_pos rfl
    go_enter Try.func18, Try.ntmps18
    go_wp2_with ((with_reducible refine (follows_v H.out [] HG.out).mono ?_); rintro e w1 ⟨ga, gc, rfl, hg, hb1⟩; have HB1 := Lib.hid ((bx1_below w r).trans (hb1.mono (by simp))); clear hg hb1)
    go_ret
    rw [e0]
    exact ⟨none, 0, rfl, fun hh => absurd hh (by simp), HB1.out⟩
  · have hgp : 0 < G.length := by have := List.length_pos_iff.2 hg0; omega
    have e0 : reachL G = foundB G [0] (-1) := if_neg hg0
    have hfl := foundB_len G [0] (-1)
    have t0 : ((G.length : Int) == 0) = false := by rw [beq_eq_false_iff_ne]; omega
    have E0 := Lib.hid e0; have HFL := Lib.hid hfl
    clear hg0 e0 hfl
    go_enter Try.func18, Try.ntmps18
    go_wp2_with (first | ((with_reducible refine (follows_v H.out G HG.out).mono ?_); rintro e w1 ⟨ga, gc, rfl, hg, hb1⟩; have HG1 := Lib.hid hg; have HB1 := Lib.hid ((bx1_below w r).trans (hb1.mono (by simp))); clear hg hb1) | ((with_reducible refine (found_z G ga gc (-1) w1 HG1.out HOK.out.1 hgl hgp (fun l hl => by have := HOK.out.2.2 l hl; omega)).mono ?_); rintro e w2 ⟨b, rfl, hb, hrow, hb2⟩; have HR := Lib.hid hrow; have HB2 := Lib.hid ((HB1.out.alloc HB1.out.size _).trans (hb2.mono (by have := HB1.out.size; simp; omega))); have hb9 : w.heap.size ≤ b := (by have := HB1.out.size; simp at hb; omega); clear hrow hb2 hb))
    go_ret
    rw [E0.out]
    exact ⟨some ⟨b, 0, none⟩, _, rfl, fun _ => ⟨b, 0, rfl, hb9, HR.out.lt, fun j u hu => by rw [Nat.zero_add]; exact HR.out.cell hu⟩, HB2.out⟩
end Go.Proofs.Ytbpagfddofbjbaa
namespace Go.Proofs.Ytbpagfddofbjbaa
set_option maxRecDepth 100000
open Go.RowKit Cd Go.Maps
set_option linter.unusedVariables false
set_option linter.unusedSimpArgs false

open Classical in
/-- Whether one dominates another one, by what is found. -/
noncomputable def Cd.domR (G : List (List Int)) (a b : Int) : Bool := decide (0 ≤ a ∧ 0 ≤ b ∧ a < (G.length : Int) ∧ b < (G.length : Int) ∧ Path G (-1) [0] b ∧ ¬ Path G a [0] b)
theorem Cd.domR_iff {G : List (List Int)} {a b : Int} : domR G a b = true ↔ (0 ≤ a ∧ 0 ≤ b ∧ a < (G.length : Int) ∧ b < (G.length : Int) ∧ Path G (-1) [0] b ∧ ¬ Path G a [0] b) := by
  unfold domR; simp only [decide_eq_true_eq]
theorem field2 (x0 x1 x2 x3 : Value) (W : World) : (Instr.field 67 (.agg #[x0, x1, x2, x3]) 2).run Try.prog W = .ok x2 W := by kernel_rfl
theorem foundB_v {G : List (List Int)} {fr : List Int} {no : Int} {x : Nat} (hx : x < G.length) {r : Bool} (hr : (foundB G fr no)[x]? = some r) : (r = true ↔ Path G no fr (x : Int)) := by
  rw [← foundB_at hx, hr]; simp
set_option maxHeartbeats 8000000 in
set_option maxRecDepth 100000 in
theorem dominates_g (r : FnR) (a b : Int) (w : World) (h : FnOk w r) (G : List (List Int)) (hG : followG r.f = G) (m : Bool) (hm : domR G a b = m) : Calls Try.prog 26 #[fnV r, .int .i64 a, .int .i64 b] w (RPost (.bool m) w) := by
  have hok := followG_ok r.f
  rw [hG] at hok
  have H := Lib.hid (h.below (bx1_below w r)); have HOK := Lib.hid hok; have HG := Lib.hid hG
  have hgl : G.length ≤ 10000 := by have := hok.2.1; omega
  clear h hok hG
  obtain ⟨x0, x1, x2, x3, x4⟩ := nv5 (heap_alloc_new w (fnO r))
  obtain ⟨mn, hmn⟩ : ∃ mn, (if b < a then b else a) = mn := ⟨_, rfl⟩
  obtain ⟨mx, hmx⟩ : ∃ mx, (if a < b then b else a) = mx := ⟨_, rfl⟩
  have g0 : (0 : Int) ≤ (G.length : Int) := Int.natCast_nonneg _
  by_cases hneg : mn < 0
  · have HM : Hid (m = false) := Lib.hid (by rw [← hm]; unfold domR; rw [decide_eq_false_iff_not]; rintro ⟨h1, h2, _⟩; rw [← hmn] at hneg; split at hneg <;> omega)
    have t0 : decide (mn < 0) = true := by simpa using hneg
    clear hneg hm
    go_enter Try.func26, Try.ntmps26
    go_wp2_with ((with_reducible refine (follows_v H.out G HG.out).mono ?_); rintro e w1 ⟨ga, gc, rfl, hg, hb1⟩; have HB1 := Lib.hid ((bx1_below w r).trans (hb1.mono (by simp))); clear hg hb1)
    go_ret
    exact ⟨by rw [HM.out]; rfl, HB1.out⟩
  · have t0 : decide (mn < 0) = false := by simpa using hneg
    by_cases hbig : mx ≥ (G.length : Int)
    · have HM : Hid (m = false) := Lib.hid (by rw [← hm]; unfold domR; rw [decide_eq_false_iff_not]; rintro ⟨h1, h2, h3, h4, _⟩; rw [← hmx] at hbig; split at hbig <;> omega)
      have t1 : decide (mx ≥ (G.length : Int)) = true := by simpa using hbig
      have t2 : decide ((G.length : Int) ≤ mx) = true := by simpa using hbig
      clear hneg hbig hm
      go_enter Try.func26, Try.ntmps26
      go_wp2_with ((with_reducible refine (follows_v H.out G HG.out).mono ?_); rintro e w1 ⟨ga, gc, rfl, hg, hb1⟩; have HB1 := Lib.hid ((bx1_below w r).trans (hb1.mono (by simp))); clear hg hb1)
      go_ret
      exact ⟨by rw [HM.out]; rfl, HB1.out⟩
    · have t1 : decide (mx ≥ (G.length : Int)) = false := by simpa using hbig
      have t2 : decide ((G.length : Int) ≤ mx) = false := by simpa using hbig
      have hab : 0 ≤ a ∧ 0 ≤ b ∧ a < (G.length : Int) ∧ b < (G.length : Int) := by
        rw [← hmn] at hneg
        rw [← hmx] at hbig
        split at hneg <;> split at hbig <;> omega
      obtain ⟨i, rfl⟩ : ∃ i : Nat, b = (i : Int) := ⟨b.toNat, by omega⟩
      have hil : i < G.length := by omega
      have hgp : 0 < G.length := by omega
      have i0 : (0 : Int) ≤ (i : Int) := Int.natCast_nonneg _
      have i1 : (i : Int) < (G.length : Int) := hab.2.2.2
      obtain ⟨r1, hr1⟩ : ∃ r1, (foundB G [0] (-1))[i]? = some r1 := ⟨_, List.getElem?_eq_getElem (by rw [foundB_len]; exact hil)⟩
      have hp1 := foundB_v hil hr1
      have hf1 := foundB_len G [0] (-1)
      have HR1 := Lib.hid (show (bools (foundB G [0] (-1)))[i]? = some (.bool r1) by rw [List.getElem?_map, hr1]; rfl)
      clear hneg hbig hr1
      cases r1 with
      | false =>
        have HM : Hid (m = false) := Lib.hid (by rw [← hm]; unfold domR; rw [decide_eq_false_iff_not]; rintro ⟨_, _, _, _, h5, _⟩; have := hp1.2 h5; cases this)
        clear hm hp1
        go_enter Try.func26, Try.ntmps26
        go_wp2_with (first | ((with_reducible refine (follows_v H.out G HG.out).mono ?_); rintro e w1 ⟨ga, gc, rfl, hg, hb1⟩; have HG1 := Lib.hid hg; have HB1 := Lib.hid ((bx1_below w r).trans (hb1.mono (by simp))); clear hg hb1) | ((with_reducible refine (found_z G ga gc (-1) w1 HG1.out HOK.out.1 hgl hgp (fun l hl => by have := HOK.out.2.2 l hl; omega)).mono ?_); rintro e w2 ⟨bb, rfl, hb, hrow, hb2⟩; rw [hf1]; have hc := VRow.cell hrow HR1.out; have HB2 := Lib.hid ((HB1.out.alloc HB1.out.size _).trans (hb2.mono (by have := HB1.out.size; simp; omega))); clear hrow hb2 hb))
        go_ret
        exact ⟨by rw [HM.out]; rfl, HB2.out⟩
      | true =>
        obtain ⟨r2, hr2⟩ : ∃ r2, (foundB G [0] a)[i]? = some r2 := ⟨_, List.getElem?_eq_getElem (by rw [foundB_len]; exact hil)⟩
        have hp2 := foundB_v hil hr2
        have hf2 := foundB_len G [0] a
        have HR2 := Lib.hid (show (bools (foundB G [0] a))[i]? = some (.bool r2) by rw [List.getElem?_map, hr2]; rfl)
        have HM : Hid (m = !r2) := Lib.hid (by
          rw [← hm]
          cases r2 with
          | true => rw [Bool.not_true, Bool.eq_false_iff]; exact fun hh => (domR_iff.1 hh).2.2.2.2.2 (hp2.1 rfl)
          | false => exact domR_iff.2 ⟨hab.1, hab.2.1, hab.2.2.1, hab.2.2.2, hp1.1 rfl, fun hh => by have := hp2.2 hh; cases this⟩)
        clear hm hp1 hp2 hr2
        go_enter Try.func26, Try.ntmps26
        go_wp2_with (first | ((with_reducible refine (follows_v H.out G HG.out).mono ?_); rintro e w1 ⟨ga, gc, rfl, hg, hb1⟩; have HG1 := Lib.hid hg; have HB1 := Lib.hid ((bx1_below w r).trans (hb1.mono (by simp))); clear hg hb1) | ((with_reducible refine (found_z G ga gc (-1) w1 HG1.out HOK.out.1 hgl hgp (fun l hl => by have := HOK.out.2.2 l hl; omega)).mono ?_); rintro e w2 ⟨bb, rfl, hb, hrow, hb2⟩; rw [hf1]; have hc := VRow.cell hrow HR1.out; have hq := Below.mono hb2 (show w1.heap.size ≤ (w1.alloc (.cells #[.int .i64 0] 3)).heap.size by simp); have HG2 := Lib.hid (RowsAt.mono (HG1.out.below (((Below.refl w1.heap.size w1).alloc (Nat.le_refl _) _).trans hq)) (by have := hb2.size; simp at this; omega) (Nat.le_refl _)); have HB2 := Lib.hid ((HB1.out.alloc HB1.out.size _).trans (hb2.mono (by have := HB1.out.size; simp; omega))); clear hrow hb2 hb hq) | ((with_reducible refine (found_z G ga gc a w2 HG2.out HOK.out.1 hgl hgp (fun l hl => by have := HOK.out.2.2 l hl; omega)).mono ?_); rintro e w3 ⟨bb3, rfl, hb, hrow, hb3⟩; rw [hf2]; have hc3 := VRow.cell hrow HR2.out; have HB3 := Lib.hid ((HB2.out.alloc HB2.out.size _).trans (hb3.mono (by have := HB2.out.size; simp; omega))); clear hrow hb3 hb))
        go_ret
        exact ⟨by rw [HM.out]; rfl, HB3.out⟩
set_option maxHeartbeats 4000000 in
set_option maxRecDepth 100000 in
theorem depth_any (G : List (List Int)) (ga : Option Addr) (gc : Nat) (w : World) (hG : RowsAt w w.heap.size ga G) (hGI : GIn G) (hn : G.length ≤ 10000) (hr : ∀ l ∈ G, l.length ≤ 100000) :
    Calls Try.prog 58 #[.slice ga G.length gc] w (fun r w' => ∃ s : Dfs, (G = [] ∧ s = ⟨[], [], [], [], []⟩ ∨ 0 < G.length ∧ DSteps G (Dfs.first G.length) s) ∧ s.pth = [] ∧ WalkPost s.ent s.par s.lft w r w') := by
  by_cases h0 : 0 < G.length
  · refine (depth_some G ga gc w hG hGI hn h0 hr).mono ?_
    rintro r w' ⟨s, h1, h2, h3⟩
    exact ⟨s, .inr ⟨h0, h1⟩, h2, h3⟩
  · have hg : G = [] := List.eq_nil_of_length_eq_zero (by omega)
    subst hg
    refine (depth_none gc ga w).mono ?_
    rintro r w' h
    exact ⟨⟨[], [], [], [], []⟩, .inl ⟨rfl, rfl⟩, rfl, h⟩
/-- The order that the search leaves. -/
def OrdOf (G : List (List Int)) (o : List Int) : Prop := ∃ s : Dfs, (G = [] ∧ s = ⟨[], [], [], [], []⟩ ∨ 0 < G.length ∧ DSteps G (Dfs.first G.length) s) ∧ s.pth = [] ∧ o = s.lft.reverse
theorem dfs_lens {G : List (List Int)} (hG : GIn G) {s : Dfs} (h : G = [] ∧ s = ⟨[], [], [], [], []⟩ ∨ 0 < G.length ∧ DSteps G (Dfs.first G.length) s) : s.ent.length ≤ G.length ∧ s.lft.length ≤ s.ent.length ∧ s.par.length = s.ent.length ∧ ∀ x ∈ s.ent, 0 ≤ x ∧ x < (G.length : Int) := by
  rcases h with ⟨rfl, rfl⟩ | ⟨h0, hs⟩
  · exact ⟨Nat.le_refl _, Nat.le_refl _, rfl, fun x hx => (by cases hx)⟩
  · have hok := (DOk.first h0).steps hG hs
    have := hok.cnt
    exact ⟨hok.len, by omega, hok.parl, hok.inn⟩
set_option maxHeartbeats 4000000 in
set_option maxRecDepth 100000 in
theorem order_g (r : FnR) (w : World) (h : FnOk w r) (G : List (List Int)) (hG : followG r.f = G) : Calls Try.prog 19 #[fnV r] w (fun e w' => ∃ o, OrdOf G o ∧ o.length ≤ 100000 ∧ ListPost o w e w') := by
  have hok := followG_ok r.f
  rw [hG] at hok
  have H := Lib.hid (h.below (bx1_below w r)); have HOK := Lib.hid hok; have HG := Lib.hid hG
  have hgl : G.length ≤ 10000 := by have := hok.2.1; omega
  clear h hok hG
  obtain ⟨x0, x1, x2, x3, x4⟩ := nv5 (heap_alloc_new w (fnO r))
  have hfld := field2
  go_enter Try.func19, Try.ntmps19
  go_wp2_with (first | ((with_reducible refine (follows_v H.out G HG.out).mono ?_); rintro e w1 ⟨ga, gc, rfl, hg, hb1⟩; have HG1 := Lib.hid hg; have HB1 := Lib.hid ((bx1_below w r).trans (hb1.mono (by simp))); clear hg hb1) | ((with_reducible refine (depth_any G ga gc _ HG1.out HOK.out.1 hgl (fun l hl => by have := HOK.out.2.2 l hl; omega)).mono ?_); rintro e w2 ⟨s, hs, hsp, a1, c1, a2, c2, a3, c3, mb, rfl, hl1, hl2, hl3, hl4, hl5, hb2⟩; have HS := Lib.hid (And.intro hs hsp); have HL := Lib.hid hl3; have HB2 := Lib.hid (HB1.out.trans (hb2.mono HB1.out.size)); have hsl : s.lft.length ≤ 100000 := (by have := dfs_lens HOK.out.1 hs; omega); clear hs hsp hl1 hl2 hl3 hl4 hl5 hb2) | ((with_reducible refine (reverse_c s.lft _ a3 c3 _ HL.out hsl).mono ?_); rintro e w3 ⟨rfl, ho, hb3⟩; have HO := Lib.hid ho; have HB3 := Lib.hid (HB2.out.trans (hb3.mono HB1.out.size)); clear ho hb3))
  go_ret
  refine ⟨s.lft.reverse, ⟨s, HS.out.1, HS.out.2, rfl⟩, by simpa using hsl, _, rfl, ?_, HB3.out⟩
  have := ownsRow_le HO.out (show w.heap.size ≤ w1.heap.size from HB1.out.size)
  simpa using this
end Go.Proofs.Ytbpagfddofbjbaa
