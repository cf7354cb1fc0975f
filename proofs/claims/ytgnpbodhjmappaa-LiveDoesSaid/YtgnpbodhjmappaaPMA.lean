/-
  Layer 9: what is found along edges (found, its closure).
-/
import Derived.Test.YtgnpbodhjmappaaPLH
import Derived.Maps.AppendAt
set_option linter.unusedVariables false
set_option linter.unusedSimpArgs false
namespace Go.Proofs.Ytgnpbodhjmappaa
set_option maxRecDepth 100000
open Go.RowKit Cd
abbrev bools (l : List Bool) : List Value := l.map Value.bool
theorem see1_no {no : Int} {s : FS} {y : Int} (h : y = no ∨ s.1[y.toNat]? = some true) : see1 no s y = s := by
  unfold see1
  rw [if_neg]
  rintro ⟨h1, h2⟩
  rcases h with h | h
  · exact h1 h
  · rw [h2] at h; cases h
theorem see1_yes {no : Int} {s : FS} {y : Int} (h : y ≠ no) (h2 : s.1[y.toNat]? = some false) : see1 no s y = (s.1.set y.toNat true, s.2 ++ [y]) := by
  unfold see1; rw [if_pos ⟨h, h2⟩]
theorem seeL_take {no : Int} {s : FS} {l : List Int} {k : Nat} {x : Int} (h : l[k]? = some x) : seeL no s (l.take (k + 1)) = see1 no (seeL no s (l.take k)) x := by
  rw [take_more h, seeL_snoc]
end Go.Proofs.Ytgnpbodhjmappaa
namespace Go.Proofs.Ytgnpbodhjmappaa
set_option maxRecDepth 100000
open Go.RowKit Cd
theorem lacks_none (n : Nat) : lacks (List.replicate n false) = n := by
  unfold lacks; rw [List.countP_replicate]; simp
end Go.Proofs.Ytgnpbodhjmappaa
namespace Go.Proofs.Ytgnpbodhjmappaa
set_option maxRecDepth 100000
open Go.RowKit Cd
structure SSt (N : Nat) (s : FS) (w : World) : Prop where
  ir : VRow w N 4 (bools s.1)
  sb : w.heap[N + 1]? = some (.cells #[.slice (some ⟨N, 0, none⟩) s.1.length s.1.length] 55)
  ob : ∃ a c, w.heap[N + 2]? = some (.cells #[.slice a s.2.length c] 30) ∧ w.ownsRow (N + 3) 3 1 (.slice a s.2.length c) s.2.length (ints s.2)
theorem SSt.keep {N : Nat} {s : FS} {w w' : World} (h : SSt N s w) (hb : ∀ g, N ≤ g → g < w.heap.size → w'.heap[g]? = w.heap[g]?) : SSt N s w' := by
  obtain ⟨h2, h3, a, c, h4, h5⟩ := h
  exact ⟨h2.keep (hb _ (Nat.le_refl _) h2.lt), (hb _ (by omega) (lt_heap h3)).trans h3, a, c, (hb _ (by omega) (lt_heap h4)).trans h4, own_keep h5 (fun g hg => hb g (by have := (h5.lt g hg).1; omega) (h5.lt g hg).2)⟩
def Opn (N : Nat) (w : World) (g : Nat) : Prop := ∃ a n c, w.heap[N + 2]? = some (.cells #[.slice a n c] 30) ∧ (Value.slice a n c).ownBlock = some g
def OpnKept (N : Nat) (w w' : World) : Prop := (∀ g, N + 2 < g → g < w.heap.size → ¬ Opn N w g → w'.heap[g]? = w.heap[g]?) ∧ ∀ g, Opn N w' g → Opn N w g ∨ w.heap.size ≤ g
set_option maxHeartbeats 4000000 in
theorem add_c (N : Nat) (s : FS) (j : Nat) (w : World) (h : SSt N s w) (hj : j < s.1.length) (hs : s.2.length ≤ 100000) (hn : s.1.length ≤ 100000) :
    Calls Try.prog 87 #[.int .i64 (j : Int), .pointer (some ⟨N + 1, 0, none⟩), .pointer (some ⟨N + 2, 0, none⟩)] w fun e w' => e = .returned (.tuple #[]) ∧ SSt N (see1 (-1) s (j : Int)) w' ∧ Below N w w' ∧ OpnKept N w w' := by
  obtain ⟨is, op⟩ := s
  simp only at hj hs hn
  have HF := Lib.hid h
  obtain ⟨h2, h3, a4, c4, h4, h5⟩ := h
  simp only at h2 h3 h4 h5
  obtain ⟨i0, hi0, hz0, hz1, hz2⟩ := info_parts infoInt
  have cs2 : w.cell? ⟨N + 1, 0, none⟩ = some (.slice (some ⟨N, 0, none⟩) is.length is.length) := by rw [cell_of_row w (N + 1) 0 _ _ _ h3]; rfl
  have co : w.cell? ⟨N + 2, 0, none⟩ = some (.slice a4 op.length c4) := by rw [cell_of_row w (N + 2) 0 _ _ _ h4]; rfl
  have j0 : (0 : Int) ≤ (j : Int) := Int.natCast_nonneg _
  have j1 : (j : Int) < (is.length : Int) := by omega
  obtain ⟨bb, hbb⟩ : ∃ bb, is[j]? = some bb := ⟨_, List.getElem?_eq_getElem hj⟩
  have ci : w.cell? ⟨N, j, none⟩ = some (.bool bb) := h2.cell (by unfold bools; rw [List.getElem?_map, hbb]; rfl)
  have HBB := Lib.hid hbb
  have HH2 := Lib.hid h2; have HH3 := Lib.hid h3; have HH4 := Lib.hid h4; have HH5 := Lib.hid h5
  clear hbb h2 h3 h4 h5
  cases bb with
  | true =>
    have E := Lib.hid (show see1 (-1) (is, op) (j : Int) = (is, op) from see1_no (.inr (by simpa using HBB.out)))
    go_enter Try.func87, Try.ntmps87
    go_wp2
    go_end0
    exact ⟨rfl, by rw [E.out]; exact HF.out, Below.refl _ _, fun _ _ _ _ => rfl, fun _ h => .inl h⟩
  | false =>
    have E := Lib.hid (show see1 (-1) (is, op) (j : Int) = (is.set j true, op ++ [(j : Int)]) by rw [see1_yes (by omega) (by simpa using HBB.out)]; simp)
    have hf1 : w.frozen? ⟨N, j, none⟩ = false := HH2.out.frozen j
    have hN4 := lt_heap HH4.out
    have HO1 : Hid ((w.setCell ⟨N, j, none⟩ (.bool true)).ownsRow (N + 3) 3 1 (.slice a4 op.length c4) op.length (ints op)) := Lib.hid (own_keep HH5.out (fun g hg => Below.heap_setCell _ _ _ _ (by have := (HH5.out.lt g hg).1; simp; omega)))
    have HS2 : Hid (VRow (w.setCell ⟨N, j, none⟩ (.bool true)) N 4 (bools (is.set j true))) := Lib.hid (by unfold bools; rw [List.map_set]; exact HH2.out.set j _)
    have HB3 : Hid (Below N w (w.setCell ⟨N, j, none⟩ (.bool true))) := Lib.hid ((Below.refl N w).setCell (Nat.le_refl _) _)
    have co2 : (w.setCell ⟨N, j, none⟩ (.bool true)).cell? ⟨N + 2, 0, none⟩ = some (.slice a4 op.length c4) := (World.cell?_of_block (w := w) (Below.heap_setCell _ _ _ _ (by simp))).trans co
    clear co
    go_enter Try.func87, Try.ntmps87
    go_wp2_with (at_builtin; go_loud (refine wpList_append_lies _ rfl (.tmp 12) (.tmp 14) 30 rfl (N + 3) 3 i0 (.int .i64 0) 1 8 Try.underlying30 hi0 hz0 hz1 hz2 rfl (by decide) (.slice a4 op.length c4) (op.length) (ints op) rfl (HO1.out.alloc _) _ 1 1 [.int .i64 (j : Int)] rfl rfl (cell_new1 _ _ _ _ (by simp)) (by simp [Value.oneCell']) (by omega) (by unfold maxLen; omega) (by omega) (by simp <;> omega) (w.heap.size + 1) (by simp) ?_; intro g3 cap3 w3 hown3 hgrow hat hlt3; have HO3 := Lib.hid hown3; have HGR := Lib.hid hgrow; have HAT := Lib.hid hat; have hg3 : N + 3 ≤ g3 := (hown3.lt g3 (by simp [Value.ownBlock])).1; have HBK : Hid (∀ q, q ≤ N + 2 → w3.heap[q]? = (w.setCell ⟨N, j, none⟩ (.bool true)).heap[q]?) := Lib.hid (fun q hq => (hgrow.block q (by simp <;> omega) (fun e => by have := (HO1.out.lt _ e.symm).1; omega)).trans (Below.heap_alloc _ _ _ (by simp <;> omega))); have HB4 := Lib.hid ((HB3.out.alloc (by simp <;> omega) _).grown hgrow (by simp <;> omega) (fun q e => by have := (HO1.out.lt q e).1; omega)); have f3 : w3.frozen? ⟨N + 2, 0, none⟩ = false := (by have := (HBK.out (N + 2) (by omega)).trans ((Below.heap_setCell _ _ _ _ (by simp)).trans HH4.out); simp [World.frozen?, this]); have c33 : w3.cell? ⟨N + 2, 0, none⟩ = some (.slice a4 op.length c4) := (World.cell?_of_block (w := w.setCell ⟨N, j, none⟩ (.bool true)) (HBK.out (N + 2) (by omega))).trans co2; clear hown3 hgrow hat hlt3))
    go_end0
    refine ⟨rfl, ?_, HB4.out.setCell (show N ≤ N + 2 by omega) _, fun g h1 h2 h3 => ?_, fun g h1 => ?_⟩
    rotate_left
    · refine (Below.heap_setCell _ _ _ _ (by simp; omega)).trans ((HGR.out.block g (by simp; omega) (fun e => h3 ⟨a4, op.length, c4, HH4.out, e.symm⟩)).trans ((Below.heap_alloc _ _ _ (by simp; omega)).trans (Below.heap_setCell _ _ _ _ (by simp; omega))))
    · obtain ⟨a', n', c', e1, e2⟩ := h1
      rw [cells_set ((HBK.out (N + 2) (by omega)).trans ((Below.heap_setCell _ _ _ _ (by simp)).trans HH4.out)) 0] at e1
      have e3 : Value.slice (some ⟨g3, 0, none⟩) (op.length + 1) cap3 = .slice a' n' c' := by simpa using e1
      rw [← e3] at e2
      have e4 : g3 = g := by simpa [Value.ownBlock] using e2
      subst e4
      rcases HAT.out with h5 | h5
      · exact .inl ⟨a4, op.length, c4, HH4.out, h5⟩
      · exact .inr (by omega)
    rw [E.out]
    refine ⟨?_, ?_, some ⟨g3, 0, none⟩, cap3, ?_, ?_⟩
    · exact (HS2.out.keep (HBK.out N (by omega))).keep (Below.heap_setCell _ _ _ _ (by simp))
    · rw [List.length_set]
      exact (Below.heap_setCell _ _ _ _ (by simp)).trans ((HBK.out (N + 1) (by omega)).trans ((Below.heap_setCell _ _ _ _ (by simp)).trans HH3.out))
    · rw [cells_set ((HBK.out (N + 2) (by omega)).trans ((Below.heap_setCell _ _ _ _ (by simp)).trans HH4.out)) 0]
      simp
    · have := HO3.out
      refine own_keep (w := w3) ?_ (fun g hg => Below.heap_setCell _ _ _ _ ?_)
      · simpa using this
      · simp [Value.ownBlock] at hg; simp; omega
theorem add_cc (N : Nat) (s : FS) (j : Nat) (w : World) (h : SSt N s w) (hj : j < s.1.length) (hs : s.2.length ≤ 100000) (hn : s.1.length ≤ 100000) :
    Calls Try.prog 87 #[.int .i64 (j : Int), .pointer (some ⟨N + 1, 0, none⟩), .pointer (some ⟨N + 1 + 1, 0, none⟩)] w fun e w' => e = .returned (.tuple #[]) ∧ SSt N (see1 (-1) s (j : Int)) w' ∧ Below N w w' :=
  (add_c N s j w h hj hs hn).mono fun e w' h => ⟨h.1, h.2.1, h.2.2.1⟩
theorem add_cd (N : Nat) (s : FS) (j : Nat) (w : World) (h : SSt N s w) (hj : j < s.1.length) (hs : s.2.length ≤ 100000) (hn : s.1.length ≤ 100000) :
    Calls Try.prog 87 #[.int .i64 (j : Int), .pointer (some ⟨N + 1, 0, none⟩), .pointer (some ⟨N + 1 + 1, 0, none⟩)] w fun e w' => e = .returned (.tuple #[]) ∧ SSt N (see1 (-1) s (j : Int)) w' ∧ Below N w w' ∧ OpnKept N w w' := add_c N s j w h hj hs hn
theorem SSt.opn {N : Nat} {s : FS} {w : World} (h : SSt N s w) {g : Nat} (hg : Opn N w g) : N + 3 ≤ g ∧ g < w.heap.size := by
  obtain ⟨_, _, a, c, h4, h5⟩ := h
  obtain ⟨a', n', c', e1, e2⟩ := hg
  rw [h4] at e1
  have e3 : Value.slice a s.2.length c = .slice a' n' c' := by simpa using e1
  rw [← e3] at e2
  exact h5.lt g e2
end Go.Proofs.Ytgnpbodhjmappaa
namespace Go.Proofs.Ytgnpbodhjmappaa
set_option maxRecDepth 100000
open Go.RowKit Cd
set_option maxHeartbeats 4000000 in
theorem search_live (G : List (List Int)) (n : Nat) (fr : List Int) (fa : Option Addr) (fc : Nat) (p1 p2 p3 : Value) (B : Nat) (X : List Int → World → Prop) (w : World) (hnG : G.length = n) (hGI : GIn G) (hF : RowAt w w.heap.size fa (ints fr)) (hfi : ∀ x ∈ fr, 0 ≤ x ∧ x < (G.length : Int)) (hfl : fr.length ≤ 100000) (hn : n ≤ 10000) (hB : B ≤ w.heap.size)
    (hX0 : X [] w) (hX : ∀ l w1 w2, X l w1 → (∀ g, g < w.heap.size → w2.heap[g]? = w1.heap[g]?) → w1.heap.size ≤ w2.heap.size → X l w2)
    (hstep : ∀ (l : List Int) (s : FS) (x : Nat) (w1 : World), SSt w.heap.size s w1 → X l w1 → x < n → s.1.length = n → lacks s.1 + s.2.length ≤ 100000 → w.heap.size + 2 < w1.heap.size → Calls Try.prog 89 #[.int .i64 (x : Int), .func (.func 87) #[] #[.pointer (some ⟨w.heap.size + 1, 0, none⟩), .pointer (some ⟨w.heap.size + 1 + 1, 0, none⟩)], p1, p2, p3] w1 fun e w2 => e = .returned (.tuple #[]) ∧ SSt w.heap.size (seeL (-1) s (egs G (x : Int))) w2 ∧ X (l ++ [(x : Int)]) w2 ∧ Below B w1 w2) :
    Calls Try.prog 61 #[.int .i64 (n : Int), .slice fa fr.length fc, .func (.func 89) #[] #[p1, p2, p3]] w fun e w2 => ∃ l, e = .returned (.slice (some ⟨w.heap.size, 0, none⟩) n n) ∧ VRow w2 w.heap.size 4 (bools (foundB G fr (-1))) ∧ (∀ x, x ∈ l ↔ Path G (-1) fr x) ∧ X l w2 ∧ Below B w w2 := by
  have HGI := Lib.hid hGI; have HF := Lib.hid hF; have HFI := Lib.hid hfi; have HX := Lib.hid hX; have HST := Lib.hid hstep; have HX0 := Lib.hid hX0
  clear hGI hF hfi hX hstep hX0
  have hmk := make_bools n (by omega)
  have n0 : (0 : Int) ≤ (n : Int) := Int.natCast_nonneg _
  have HB0 : Hid (Below w.heap.size w (((w.alloc (bObj (List.replicate n false))).alloc (.cells #[.slice (some ⟨w.heap.size, 0, none⟩) n n] 55)).alloc (.cells #[.slice none 0 0] 30))) :=
    Lib.hid ((((Below.refl w.heap.size w).alloc (Nat.le_refl _) _).alloc (by simp) _).alloc (by simp <;> omega) _)
  have HS0 : Hid (SSt w.heap.size (List.replicate n false, []) (((w.alloc (bObj (List.replicate n false))).alloc (.cells #[.slice (some ⟨w.heap.size, 0, none⟩) n n] 55)).alloc (.cells #[.slice none 0 0] 30))) := by
    refine Lib.hid ⟨?_, ?_, none, 0, ?_, World.ownsRow_nil _ _ _ _⟩
    · exact (Below.heap_alloc _ _ _ (by simp <;> omega)).trans ((Below.heap_alloc _ _ _ (by simp)).trans (heap_alloc_new w _))
    · have := heap_alloc_new (w.alloc (bObj (List.replicate n false))) (.cells #[.slice (some ⟨w.heap.size, 0, none⟩) n n] 55)
      rw [World.size_alloc] at this
      rw [List.length_replicate]
      exact (Below.heap_alloc _ _ _ (by simp <;> omega)).trans this
    · have := heap_alloc_new ((w.alloc (bObj (List.replicate n false))).alloc (.cells #[.slice (some ⟨w.heap.size, 0, none⟩) n n] 55)) (.cells #[.slice none 0 0] 30)
      simp only [World.size_alloc] at this
      exact this
  have hl0 := lacks_none n
  go_enter Try.func61, Try.ntmps61
  go_wp2
  go_loopw [18] (fun s18 wr => ∃ k : Nat, k ≤ fr.length ∧ s18 = .int .i64 (k : Int) ∧ Hid (SSt w.heap.size (seeL (-1) (List.replicate n false, []) (fr.take k)) wr) ∧ Hid (Below w.heap.size w wr)) (fun s18 wr => fr.length - (intOf s18).toNat)
  case atStart => exact ⟨0, by omega, rfl, HS0, HB0⟩
  case round =>
    obtain ⟨k, hk, rfl, HS, HB⟩ := hrel
    have k0 : (0 : Int) ≤ (k : Int) := Int.natCast_nonneg _
    by_cases hlt : k < fr.length
    · have k1 : (k : Int) < (fr.length : Int) := by omega
      obtain ⟨y, hy⟩ : ∃ y, fr[k]? = some y := ⟨_, List.getElem?_eq_getElem hlt⟩
      obtain ⟨b, off, rfl, hb, hBw, hc⟩ := IntsAt.cellsB (HF.out.below HB.out) hy
      have hyin := HFI.out y (List.mem_of_getElem? hy)
      obtain ⟨j, rfl⟩ : ∃ j : Nat, y = (j : Int) := ⟨y.toNat, by omega⟩
      have E := Lib.hid (seeL_take (no := -1) (s := (List.replicate n false, [])) hy)
      have hfl2 : (seeL (-1) (List.replicate n false, []) (fr.take k)).1.length = n := by rw [seeL_len]; simp
      have hsum := seeL_sum (-1) (fr.take k) (List.replicate n false, [])
      simp only [hl0, List.length_nil] at hsum
      have HLT := Lib.hid hlt
      clear hy hlt
      go_wp2_with ((with_reducible refine (add_cc w.heap.size _ j _ HS.out (by omega) (by omega) (by omega)).mono ?_); rintro e w1 ⟨rfl, hs1, hb1⟩; have HS1 := Lib.hid hs1; have HB1 := Lib.hid (HB.out.trans hb1); clear hs1 hb1)
      go_roundw
      case rel => exact ⟨k + 1, HLT.out, by go_num, by rw [E.out]; exact HS1, HB1⟩
      case measure => have := HLT.out; simp [intOf]; omega
    · obtain rfl : k = fr.length := by omega
      have HS1 := Lib.hid HS.out
      rw [List.take_length] at HS1
      have HI1 := Lib.hid (FInv.begin (G := G) (-1) HFI.out)
      rw [hnG] at HI1
      have hsum := seeL_sum (-1) fr (List.replicate n false, [])
      simp only [hl0, List.length_nil] at hsum
      have HX1 : Hid (X [] wr) := Lib.hid (HX.out [] w wr HX0.out (fun g hg => HB.out.block g hg) HB.out.size)
      have HBB := Lib.hid (HB.out.mono hB)
      go_wp2
      go_loopg [12] n (fun g s12 wr => ∃ (s : FS) (l : List Int), g = lacks s.1 + s.2.length ∧ g ≤ n ∧ Hid (SSt w.heap.size s wr) ∧ Hid (FInv G (-1) fr s) ∧ Hid (X l wr) ∧ Hid (∀ x, 0 ≤ x → (Is s.1 x ↔ x ∈ s.2 ∨ x ∈ l)) ∧ Hid (∀ x ∈ l, 0 ≤ x) ∧ Hid (Below B w wr))
      case atStart =>
        refine ⟨_, [], by omega, by omega, HS1, HI1, HX1, Lib.hid ?_, Lib.hid (by simp), HBB⟩
        have hr : ∀ x : Int, ¬ Is (List.replicate n false) x := fun x h => by unfold Is at h; rw [List.getElem?_replicate] at h; split at h <;> simp at h
        have hin : ∀ y ∈ fr, 0 ≤ y ∧ y < (n : Int) := fun y hy => by have := HFI.out y hy; omega
        obtain ⟨_, _, q3, q4⟩ := seeL_open (no := -1) (n := n) (l := fr) (s := (List.replicate n false, [])) (by simp) hin (by simp)
        intro x hx
        constructor
        · intro h
          exact .inl ((q3 x hx h).resolve_left (hr x))
        · rintro (h | h)
          · exact q4 (by simp) x h
          · simp at h
      case round =>
        obtain ⟨s, l, hg, hgl, HF1, HI, HXL, HIL, HL0, HBW0⟩ := hrel
        obtain ⟨h2, h3, a4, c4, h4, h5⟩ := HF1.out
        obtain ⟨is, op⟩ := s
        simp only at h2 h3 h4 h5 hg
        have cs2 : wr.cell? ⟨w.heap.size + 1, 0, none⟩ = some (.slice (some ⟨w.heap.size, 0, none⟩) is.length is.length) := by rw [cell_of_row wr _ 0 _ _ _ h3]; rfl
        have co : wr.cell? ⟨w.heap.size + 1 + 1, 0, none⟩ = some (.slice a4 op.length c4) := by rw [cell_of_row wr _ 0 _ _ _ h4]; rfl
        have hN4 := lt_heap h4
        have hil := HI.out.len
        simp only at hil
        rw [hnG] at hil
        rcases List.eq_nil_or_concat op with rfl | ⟨o, x, rfl⟩
        · have HE := Lib.hid (HI.out.end HGI.out HFI.out rfl)
          have HAL := Lib.hid (fun x => HI.out.all HGI.out HFI.out rfl x)
          have HH2 := Lib.hid h2
          simp only at HE
          clear h2 h3 h4 h5
          go_wp2
          go_ret
          rw [HE.out] at HH2
          refine ⟨rfl, HH2.out, l, fun x => ?_, HXL.out, HBW0.out⟩
          have q := HAL.out x
          rw [← q]
          constructor
          · intro hx
            have := HL0.out x hx
            exact ⟨this, (HIL.out x this).2 (.inr hx)⟩
          · rintro ⟨q0, q1⟩
            exact ((HIL.out x q0).1 q1).resolve_left (by simp)
        · rw [List.concat_eq_append] at *
          have hopl : (o ++ [x]).length = o.length + 1 := by simp
          rw [hopl] at h5 h4 co hg
          have hxin := HI.out.inside x (by simp)
          obtain ⟨j, rfl⟩ : ∃ j : Nat, x = (j : Int) := ⟨x.toNat, by omega⟩
          have hjn : j < n := by omega
          obtain ⟨g5, rfl, hg5, hg5l, c5⟩ := own_int (k := o.length) (x := (j : Int)) h5 (by simp)
          obtain ⟨hr1, hr2, hr3⟩ := own_room h5
          have hsl := slice_short (n := o.length + 1) (k := o.length) hr3 (by omega) hr2
          have j0 : (0 : Int) ≤ (j : Int) := Int.natCast_nonneg _
          have j1 : (j : Int) < (n : Int) := by omega
          have o0 : (0 : Int) ≤ (o.length : Int) := Int.natCast_nonneg _
          have HNX := Lib.hid (HI.out.more HGI.out HFI.out (x := (j : Int)) (o := o) rfl)
          obtain ⟨V, hV⟩ : ∃ V, wr.setCell ⟨w.heap.size + 1 + 1, 0, none⟩ (.slice (some ⟨g5, 0, none⟩) o.length c4) = V := ⟨_, rfl⟩
          have hVg : ∀ g, g ≠ w.heap.size + 1 + 1 → V.heap[g]? = wr.heap[g]? := fun g hg => by rw [← hV]; exact Below.heap_setCell _ _ _ _ (by simpa using hg)
          have hVs : V.heap.size = wr.heap.size := by rw [← hV]; simp
          have HBV : Hid (Below B w V) := Lib.hid (by rw [← hV]; exact HBW0.out.setCell (show B ≤ w.heap.size + 1 + 1 by omega) _)
          have HFV : Hid (SSt w.heap.size (is, o) V) := by
            refine Lib.hid ⟨h2.keep (hVg _ (by omega)), (hVg _ (by omega)).trans h3, some ⟨g5, 0, none⟩, c4, ?_, ?_⟩
            · rw [← hV, cells_set h4 0]; simp
            · have := own_short h5 (k := o.length) (by omega)
              refine own_keep (w := wr) ?_ (fun g hg => hVg _ ?_)
              · simpa using this
              · simp [Value.ownBlock] at hg; omega
          have HXV : Hid (X l V) := Lib.hid (HX.out l wr V HXL.out (fun g hg => hVg g (by omega)) (by omega))
          have hsum2 := seeL_sum (-1) (egs G (j : Int)) (is, o)
          simp only at hsum2
          have HGE : Hid (∀ y ∈ egs G (j : Int), 0 ≤ y ∧ y < (n : Int)) := Lib.hid (fun y hy => by have := HGI.out.egs hy; omega)
          have f3 : wr.frozen? ⟨w.heap.size + 1 + 1, 0, none⟩ = false := by simp [World.frozen?, h4]
          have q2 : ¬ g5 = w.heap.size + 1 + 1 := by omega
          have q3 : ¬ w.heap.size + 1 + 1 = g5 := by omega
          have HVE := Lib.hid hV
          have HLN : Hid (∀ x, 0 ≤ x → (Is (seeL (-1) (is, o) (egs G (j : Int))).1 x ↔ x ∈ (seeL (-1) (is, o) (egs G (j : Int))).2 ∨ x ∈ l ++ [(j : Int)])) := Lib.hid (fun x hx => by
            have hop : ∀ y ∈ o, 0 ≤ y ∧ y < (n : Int) := fun y hy => by have := HI.out.inside y (by simp [hy]); omega
            obtain ⟨p1, p2, p3, p4⟩ := seeL_open (no := -1) (n := n) (l := egs G (j : Int)) (s := (is, o)) hil HGE.out hop
            have hold := HIL.out x hx
            simp only [List.mem_append, List.mem_singleton] at hold ⊢
            constructor
            · intro h
              rcases p3 x hx h with h6 | h6
              · rcases hold.1 h6 with (h7 | h7) | h7
                · exact .inl (p1 x h7)
                · exact .inr (.inr h7)
                · exact .inr (.inl h7)
              · exact .inl h6
            · rintro (h | h | h)
              · exact p4 (fun y hy => ((HIL.out y (hop y hy).1).2 (.inl (by simp [hy])))) x h
              · exact (seeL_is (no := -1) (n := n) hil HGE.out hx).2 (.inl (hold.2 (.inr h)))
              · exact (seeL_is (no := -1) (n := n) hil HGE.out hx).2 (.inl (hold.2 (.inl (.inr h)))))
          have HL1 : Hid (∀ x ∈ l ++ [(j : Int)], 0 ≤ x) := Lib.hid (fun x hx => by
            rcases List.mem_append.1 hx with h | h
            · exact HL0.out x h
            · rw [List.mem_singleton] at h; omega)
          have hsum3 : lacks is + o.length ≤ 100000 := by omega
          have hV2 : w.heap.size + 2 < V.heap.size := by omega
          clear h2 h3 h4 h5 cs2 hr3 hVg hV
          go_wp2_with ((rw [HVE.out]; with_reducible refine (HST.out l (is, o) j V HFV.out HXV.out hjn hil hsum3 hV2).mono ?_); rintro e w2 ⟨rfl, hs1, hx1, hb1⟩; have HS2 := Lib.hid hs1; have HX2 := Lib.hid hx1; have HB2 := Lib.hid (HBV.out.trans hb1); clear hs1 hx1 hb1)
          go_roundg (lacks is + o.length)
          case measure => omega
          case rel => exact ⟨_, l ++ [(j : Int)], by omega, by omega, HS2, HNX, HX2, HLN, HL1, HB2⟩
set_option maxHeartbeats 4000000 in
theorem search_reached (G : List (List Int)) (n : Nat) (fr : List Int) (fa : Option Addr) (fc : Nat) (p1 : Value) (B : Nat) (X : List Int → World → Prop) (w : World) (hnG : G.length = n) (hGI : GIn G) (hF : RowAt w w.heap.size fa (ints fr)) (hfi : ∀ x ∈ fr, 0 ≤ x ∧ x < (G.length : Int)) (hfl : fr.length ≤ 100000) (hn : n ≤ 10000) (hB : B ≤ w.heap.size)
    (hX0 : X [] w) (hX : ∀ l w1 w2, X l w1 → (∀ g, g < w.heap.size → w2.heap[g]? = w1.heap[g]?) → w1.heap.size ≤ w2.heap.size → X l w2)
    (hstep : ∀ (l : List Int) (s : FS) (x : Nat) (w1 : World), SSt w.heap.size s w1 → X l w1 → x < n → s.1.length = n → lacks s.1 + s.2.length ≤ 100000 → w.heap.size + 2 < w1.heap.size → Calls Try.prog 62 #[.int .i64 (x : Int), .func (.func 87) #[] #[.pointer (some ⟨w.heap.size + 1, 0, none⟩), .pointer (some ⟨w.heap.size + 1 + 1, 0, none⟩)], p1] w1 fun e w2 => e = .returned (.tuple #[]) ∧ SSt w.heap.size (seeL (-1) s (egs G (x : Int))) w2 ∧ X (l ++ [(x : Int)]) w2 ∧ Below B w1 w2) :
    Calls Try.prog 61 #[.int .i64 (n : Int), .slice fa fr.length fc, .func (.func 62) #[] #[p1]] w fun e w2 => ∃ l, e = .returned (.slice (some ⟨w.heap.size, 0, none⟩) n n) ∧ VRow w2 w.heap.size 4 (bools (foundB G fr (-1))) ∧ (∀ x, x ∈ l ↔ Path G (-1) fr x) ∧ X l w2 ∧ Below B w w2 := by
  have HGI := Lib.hid hGI; have HF := Lib.hid hF; have HFI := Lib.hid hfi; have HX := Lib.hid hX; have HST := Lib.hid hstep; have HX0 := Lib.hid hX0
  clear hGI hF hfi hX hstep hX0
  have hmk := make_bools n (by omega)
  have n0 : (0 : Int) ≤ (n : Int) := Int.natCast_nonneg _
  have HB0 : Hid (Below w.heap.size w (((w.alloc (bObj (List.replicate n false))).alloc (.cells #[.slice (some ⟨w.heap.size, 0, none⟩) n n] 55)).alloc (.cells #[.slice none 0 0] 30))) :=
    Lib.hid ((((Below.refl w.heap.size w).alloc (Nat.le_refl _) _).alloc (by simp) _).alloc (by simp <;> omega) _)
  have HS0 : Hid (SSt w.heap.size (List.replicate n false, []) (((w.alloc (bObj (List.replicate n false))).alloc (.cells #[.slice (some ⟨w.heap.size, 0, none⟩) n n] 55)).alloc (.cells #[.slice none 0 0] 30))) := by
    refine Lib.hid ⟨?_, ?_, none, 0, ?_, World.ownsRow_nil _ _ _ _⟩
    · exact (Below.heap_alloc _ _ _ (by simp <;> omega)).trans ((Below.heap_alloc _ _ _ (by simp)).trans (heap_alloc_new w _))
    · have := heap_alloc_new (w.alloc (bObj (List.replicate n false))) (.cells #[.slice (some ⟨w.heap.size, 0, none⟩) n n] 55)
      rw [World.size_alloc] at this
      rw [List.length_replicate]
      exact (Below.heap_alloc _ _ _ (by simp <;> omega)).trans this
    · have := heap_alloc_new ((w.alloc (bObj (List.replicate n false))).alloc (.cells #[.slice (some ⟨w.heap.size, 0, none⟩) n n] 55)) (.cells #[.slice none 0 0] 30)
      simp only [World.size_alloc] at this
      exact this
  have hl0 := lacks_none n
  go_enter Try.func61, Try.ntmps61
  go_wp2
  go_loopw [18] (fun s18 wr => ∃ k : Nat, k ≤ fr.length ∧ s18 = .int .i64 (k : Int) ∧ Hid (SSt w.heap.size (seeL (-1) (List.replicate n false, []) (fr.take k)) wr) ∧ Hid (Below w.heap.size w wr)) (fun s18 wr => fr.length - (intOf s18).toNat)
  case atStart => exact ⟨0, by omega, rfl, HS0, HB0⟩
  case round =>
    obtain ⟨k, hk, rfl, HS, HB⟩ := hrel
    have k0 : (0 : Int) ≤ (k : Int) := Int.natCast_nonneg _
    by_cases hlt : k < fr.length
    · have k1 : (k : Int) < (fr.length : Int) := by omega
      obtain ⟨y, hy⟩ : ∃ y, fr[k]? = some y := ⟨_, List.getElem?_eq_getElem hlt⟩
      obtain ⟨b, off, rfl, hb, hBw, hc⟩ := IntsAt.cellsB (HF.out.below HB.out) hy
      have hyin := HFI.out y (List.mem_of_getElem? hy)
      obtain ⟨j, rfl⟩ : ∃ j : Nat, y = (j : Int) := ⟨y.toNat, by omega⟩
      have E := Lib.hid (seeL_take (no := -1) (s := (List.replicate n false, [])) hy)
      have hfl2 : (seeL (-1) (List.replicate n false, []) (fr.take k)).1.length = n := by rw [seeL_len]; simp
      have hsum := seeL_sum (-1) (fr.take k) (List.replicate n false, [])
      simp only [hl0, List.length_nil] at hsum
      have HLT := Lib.hid hlt
      clear hy hlt
      go_wp2_with ((with_reducible refine (add_cc w.heap.size _ j _ HS.out (by omega) (by omega) (by omega)).mono ?_); rintro e w1 ⟨rfl, hs1, hb1⟩; have HS1 := Lib.hid hs1; have HB1 := Lib.hid (HB.out.trans hb1); clear hs1 hb1)
      go_roundw
      case rel => exact ⟨k + 1, HLT.out, by go_num, by rw [E.out]; exact HS1, HB1⟩
      case measure => have := HLT.out; simp [intOf]; omega
    · obtain rfl : k = fr.length := by omega
      have HS1 := Lib.hid HS.out
      rw [List.take_length] at HS1
      have HI1 := Lib.hid (FInv.begin (G := G) (-1) HFI.out)
      rw [hnG] at HI1
      have hsum := seeL_sum (-1) fr (List.replicate n false, [])
      simp only [hl0, List.length_nil] at hsum
      have HX1 : Hid (X [] wr) := Lib.hid (HX.out [] w wr HX0.out (fun g hg => HB.out.block g hg) HB.out.size)
      have HBB := Lib.hid (HB.out.mono hB)
      go_wp2
      go_loopg [12] n (fun g s12 wr => ∃ (s : FS) (l : List Int), g = lacks s.1 + s.2.length ∧ g ≤ n ∧ Hid (SSt w.heap.size s wr) ∧ Hid (FInv G (-1) fr s) ∧ Hid (X l wr) ∧ Hid (∀ x, 0 ≤ x → (Is s.1 x ↔ x ∈ s.2 ∨ x ∈ l)) ∧ Hid (∀ x ∈ l, 0 ≤ x) ∧ Hid (Below B w wr))
      case atStart =>
        refine ⟨_, [], by omega, by omega, HS1, HI1, HX1, Lib.hid ?_, Lib.hid (by simp), HBB⟩
        have hr : ∀ x : Int, ¬ Is (List.replicate n false) x := fun x h => by unfold Is at h; rw [List.getElem?_replicate] at h; split at h <;> simp at h
        have hin : ∀ y ∈ fr, 0 ≤ y ∧ y < (n : Int) := fun y hy => by have := HFI.out y hy; omega
        obtain ⟨_, _, q3, q4⟩ := seeL_open (no := -1) (n := n) (l := fr) (s := (List.replicate n false, [])) (by simp) hin (by simp)
        intro x hx
        constructor
        · intro h
          exact .inl ((q3 x hx h).resolve_left (hr x))
        · rintro (h | h)
          · exact q4 (by simp) x h
          · simp at h
      case round =>
        obtain ⟨s, l, hg, hgl, HF1, HI, HXL, HIL, HL0, HBW0⟩ := hrel
        obtain ⟨h2, h3, a4, c4, h4, h5⟩ := HF1.out
        obtain ⟨is, op⟩ := s
        simp only at h2 h3 h4 h5 hg
        have cs2 : wr.cell? ⟨w.heap.size + 1, 0, none⟩ = some (.slice (some ⟨w.heap.size, 0, none⟩) is.length is.length) := by rw [cell_of_row wr _ 0 _ _ _ h3]; rfl
        have co : wr.cell? ⟨w.heap.size + 1 + 1, 0, none⟩ = some (.slice a4 op.length c4) := by rw [cell_of_row wr _ 0 _ _ _ h4]; rfl
        have hN4 := lt_heap h4
        have hil := HI.out.len
        simp only at hil
        rw [hnG] at hil
        rcases List.eq_nil_or_concat op with rfl | ⟨o, x, rfl⟩
        · have HE := Lib.hid (HI.out.end HGI.out HFI.out rfl)
          have HAL := Lib.hid (fun x => HI.out.all HGI.out HFI.out rfl x)
          have HH2 := Lib.hid h2
          simp only at HE
          clear h2 h3 h4 h5
          go_wp2
          go_ret
          rw [HE.out] at HH2
          refine ⟨rfl, HH2.out, l, fun x => ?_, HXL.out, HBW0.out⟩
          have q := HAL.out x
          rw [← q]
          constructor
          · intro hx
            have := HL0.out x hx
            exact ⟨this, (HIL.out x this).2 (.inr hx)⟩
          · rintro ⟨q0, q1⟩
            exact ((HIL.out x q0).1 q1).resolve_left (by simp)
        · rw [List.concat_eq_append] at *
          have hopl : (o ++ [x]).length = o.length + 1 := by simp
          rw [hopl] at h5 h4 co hg
          have hxin := HI.out.inside x (by simp)
          obtain ⟨j, rfl⟩ : ∃ j : Nat, x = (j : Int) := ⟨x.toNat, by omega⟩
          have hjn : j < n := by omega
          obtain ⟨g5, rfl, hg5, hg5l, c5⟩ := own_int (k := o.length) (x := (j : Int)) h5 (by simp)
          obtain ⟨hr1, hr2, hr3⟩ := own_room h5
          have hsl := slice_short (n := o.length + 1) (k := o.length) hr3 (by omega) hr2
          have j0 : (0 : Int) ≤ (j : Int) := Int.natCast_nonneg _
          have j1 : (j : Int) < (n : Int) := by omega
          have o0 : (0 : Int) ≤ (o.length : Int) := Int.natCast_nonneg _
          have HNX := Lib.hid (HI.out.more HGI.out HFI.out (x := (j : Int)) (o := o) rfl)
          obtain ⟨V, hV⟩ : ∃ V, wr.setCell ⟨w.heap.size + 1 + 1, 0, none⟩ (.slice (some ⟨g5, 0, none⟩) o.length c4) = V := ⟨_, rfl⟩
          have hVg : ∀ g, g ≠ w.heap.size + 1 + 1 → V.heap[g]? = wr.heap[g]? := fun g hg => by rw [← hV]; exact Below.heap_setCell _ _ _ _ (by simpa using hg)
          have hVs : V.heap.size = wr.heap.size := by rw [← hV]; simp
          have HBV : Hid (Below B w V) := Lib.hid (by rw [← hV]; exact HBW0.out.setCell (show B ≤ w.heap.size + 1 + 1 by omega) _)
          have HFV : Hid (SSt w.heap.size (is, o) V) := by
            refine Lib.hid ⟨h2.keep (hVg _ (by omega)), (hVg _ (by omega)).trans h3, some ⟨g5, 0, none⟩, c4, ?_, ?_⟩
            · rw [← hV, cells_set h4 0]; simp
            · have := own_short h5 (k := o.length) (by omega)
              refine own_keep (w := wr) ?_ (fun g hg => hVg _ ?_)
              · simpa using this
              · simp [Value.ownBlock] at hg; omega
          have HXV : Hid (X l V) := Lib.hid (HX.out l wr V HXL.out (fun g hg => hVg g (by omega)) (by omega))
          have hsum2 := seeL_sum (-1) (egs G (j : Int)) (is, o)
          simp only at hsum2
          have HGE : Hid (∀ y ∈ egs G (j : Int), 0 ≤ y ∧ y < (n : Int)) := Lib.hid (fun y hy => by have := HGI.out.egs hy; omega)
          have f3 : wr.frozen? ⟨w.heap.size + 1 + 1, 0, none⟩ = false := by simp [World.frozen?, h4]
          have q2 : ¬ g5 = w.heap.size + 1 + 1 := by omega
          have q3 : ¬ w.heap.size + 1 + 1 = g5 := by omega
          have HVE := Lib.hid hV
          have HLN : Hid (∀ x, 0 ≤ x → (Is (seeL (-1) (is, o) (egs G (j : Int))).1 x ↔ x ∈ (seeL (-1) (is, o) (egs G (j : Int))).2 ∨ x ∈ l ++ [(j : Int)])) := Lib.hid (fun x hx => by
            have hop : ∀ y ∈ o, 0 ≤ y ∧ y < (n : Int) := fun y hy => by have := HI.out.inside y (by simp [hy]); omega
            obtain ⟨p1, p2, p3, p4⟩ := seeL_open (no := -1) (n := n) (l := egs G (j : Int)) (s := (is, o)) hil HGE.out hop
            have hold := HIL.out x hx
            simp only [List.mem_append, List.mem_singleton] at hold ⊢
            constructor
            · intro h
              rcases p3 x hx h with h6 | h6
              · rcases hold.1 h6 with (h7 | h7) | h7
                · exact .inl (p1 x h7)
                · exact .inr (.inr h7)
                · exact .inr (.inl h7)
              · exact .inl h6
            · rintro (h | h | h)
              · exact p4 (fun y hy => ((HIL.out y (hop y hy).1).2 (.inl (by simp [hy])))) x h
              · exact (seeL_is (no := -1) (n := n) hil HGE.out hx).2 (.inl (hold.2 (.inr h)))
              · exact (seeL_is (no := -1) (n := n) hil HGE.out hx).2 (.inl (hold.2 (.inl (.inr h)))))
          have HL1 : Hid (∀ x ∈ l ++ [(j : Int)], 0 ≤ x) := Lib.hid (fun x hx => by
            rcases List.mem_append.1 hx with h | h
            · exact HL0.out x h
            · rw [List.mem_singleton] at h; omega)
          have hsum3 : lacks is + o.length ≤ 100000 := by omega
          have hV2 : w.heap.size + 2 < V.heap.size := by omega
          clear h2 h3 h4 h5 cs2 hr3 hVg hV
          go_wp2_with ((rw [HVE.out]; with_reducible refine (HST.out l (is, o) j V HFV.out HXV.out hjn hil hsum3 hV2).mono ?_); rintro e w2 ⟨rfl, hs1, hx1, hb1⟩; have HS2 := Lib.hid hs1; have HX2 := Lib.hid hx1; have HB2 := Lib.hid (HBV.out.trans hb1); clear hs1 hx1 hb1)
          go_roundg (lacks is + o.length)
          case measure => omega
          case rel => exact ⟨_, l ++ [(j : Int)], by omega, by omega, HS2, HNX, HX2, HLN, HL1, HB2⟩
end Go.Proofs.Ytgnpbodhjmappaa
