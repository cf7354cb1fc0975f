/-
  Layer 9: Heads' closure, slices.IndexFunc, slices.ContainsFunc with it.
  Layer 9: contracts of Heads and Above.
  Layer 9: contract of Loop.
  What the program tells is the document's: dominators, what is reached, loops.
  What Heads, Loop and Above tell is the document's.
-/
import Derived.Test.YtbpagfddofbjbaaQG9E
import Derived.Test.YtbpagfddofbjbaaQG9C
import Derived.Test.YtbpagfddofbjbaaQG9I
namespace Go.Proofs.Ytbpagfddofbjbaa
set_option maxRecDepth 100000
open Go.RowKit Cd Go.Maps
set_option linter.unusedVariables false
set_option linter.unusedSimpArgs false

/-- What the closure reads: the search's struct and its map, what is above, the head's place. -/
structure HdAt (w : World) (wb vb hb mb : Nat) (e ab : List Int) (h : Int) : Prop where
  map : w.cell? ⟨wb, 3, none⟩ = some (.map (some mb))
  places : PlAt w mb e
  var : ∃ aa ac, w.cell? ⟨vb, 0, none⟩ = some (.slice aa ab.length ac) ∧ RowAt w w.heap.size aa (ints ab)
  head : w.cell? ⟨hb, 0, none⟩ = some (.int .i64 h)
/-- Does an edge that comes from there go back? -/
def Cd.backP (e ab : List Int) (h x : Int) : Bool := e.contains x && domsP ab h (e.idxOf x : Int)
set_option maxHeartbeats 4000000 in
set_option maxRecDepth 100000 in
theorem heads1_c (w : World) (wb vb hb mb : Nat) (e ab : List Int) (h x : Int) (hd : HdAt w wb vb hb mb e ab h) (hel : e.length = ab.length) (hh : 0 ≤ h ∧ h < (ab.length : Int)) (hx : 0 ≤ x ∧ x ≤ 100000) (hab : ∀ i : Nat, i < ab.length → -1 ≤ Cd.gt ab (i : Int) ∧ Cd.gt ab (i : Int) < (i : Int)) (hl : ab.length ≤ 100000) (r : Bool) (hr : backP e ab h x = r) :
    Calls Try.prog 66 #[.int .i64 x, .pointer (some ⟨wb, 0, none⟩), .pointer (some ⟨vb, 0, none⟩), .pointer (some ⟨hb, 0, none⟩)] w fun e w' => e = .returned (.bool r) ∧ w = w' := by
  obtain ⟨h1, ⟨D, nD, hnD, hom, hpm⟩, ⟨aa, ac, h2, h3⟩, h4⟩ := hd
  have HOM := Lib.hid hom; have HPM := Lib.hid hpm; have H3 := Lib.hid h3; have HAB := Lib.hid hab
  have hwx : (Lit.int .i64 x).wf = true := wfI hx.1 (by omega)
  have hpm1 := hpm.has x
  clear hom hpm h3 hab
  by_cases hxe : x ∈ e
  · have HH : Hid (Maps.has D (.int .i64 x) = true) := Lib.hid (by rw [hpm1]; simpa using hxe)
    obtain ⟨f, hf⟩ : ∃ f, e.idxOf x = f := ⟨_, rfl⟩
    have hfm : f < ab.length := by rw [← hf, ← hel]; exact List.idxOf_lt_length_of_mem hxe
    have HIX : Hid (∀ c : Int, D.atKey (.int .i64 x) (.lit (.int .i64 0)) = .lit (.int .i64 c) → (f : Int) = c) := Lib.hid (fun c hc => by rw [HPM.out.at_ x _ hxe, hf] at hc; exact cvI hc)
    have HR : Hid (domsP ab h (f : Int) = r) := Lib.hid (by rw [← hr]; unfold backP; rw [hf]; simp [hxe])
    clear hxe hf hr hpm1
    go_enter Try.func66, Try.ntmps66
    go_wp2_with (first | (at_lookup; refine wpList_lookup_own_ok_int _ rfl _ _ 65 rfl 3 3 .i64 lawI Try.underlying65 Try.underlying3 (zeroI _) mb nD D rfl HOM.out _ (.int .i64 x) rfl (keyI hwx) ?_; intro c hat hwc; rw [HH.out]; have hc := HIX.out c hat; subst hc; clear hat hwc) | ((with_reducible refine (dominates_c ab aa ac h (f : Int) _ H3.out hh ⟨by omega, by omega⟩ HAB.out hl r HR.out).mono ?_); rintro e1 w1 ⟨rfl, rfl⟩))
    go_ret
    exact ⟨rfl, (by first | rfl | trivial)⟩
  · have HH : Hid (Maps.has D (.int .i64 x) = false) := Lib.hid (by rw [hpm1]; simpa using hxe)
    have HR : Hid (r = false) := Lib.hid (by rw [← hr]; unfold backP; simp [hxe])
    clear hxe hr hpm1
    go_enter Try.func66, Try.ntmps66
    go_wp2_with (at_lookup; refine wpList_lookup_own_ok_int _ rfl _ _ 65 rfl 3 3 .i64 lawI Try.underlying65 Try.underlying3 (zeroI _) mb nD D rfl HOM.out _ (.int .i64 x) rfl (keyI hwx) ?_; intro c hat hwc; rw [HH.out]; clear hat hwc)
    go_ret
    exact ⟨by rw [HR.out]; rfl, (by first | rfl | trivial)⟩
/-- A call of it, whatever is asked. -/
def Asks (w : World) (wb vb hb : Nat) (P : Int → Bool) (l : List Int) : Prop := ∀ x ∈ l, Calls Try.prog 66 #[.int .i64 x, .pointer (some ⟨wb, 0, none⟩), .pointer (some ⟨vb, 0, none⟩), .pointer (some ⟨hb, 0, none⟩)] w fun e w' => e = .returned (.bool (P x)) ∧ w = w'
theorem asks_v {w : World} {wb vb hb : Nat} {P : Int → Bool} {l : List Int} (h : Asks w wb vb hb P l) {x : Int} (hx : x ∈ l) {b : Bool} (hb' : P x = b) : Calls Try.prog 66 #[.int .i64 x, .pointer (some ⟨wb, 0, none⟩), .pointer (some ⟨vb, 0, none⟩), .pointer (some ⟨hb, 0, none⟩)] w fun e w' => e = .returned (.bool b) ∧ w = w' := hb' ▸ h x hx
set_option maxHeartbeats 2000000 in
theorem indexF_c (l : List Int) (a : Option Addr) (cap : Nat) (w : World) (wb vb hb : Nat) (P : Int → Bool) (h : RowAt w w.heap.size a (ints l)) (hl : l.length ≤ maxLen) (hP : Asks w wb vb hb P l) :
    Calls Try.prog 92 #[.slice a l.length cap, .func (.func 66) #[] #[.pointer (some ⟨wb, 0, none⟩), .pointer (some ⟨vb, 0, none⟩), .pointer (some ⟨hb, 0, none⟩)]] w fun e w' => (∃ m : Int, e = .returned (.int .i64 m) ∧ decide (m ≥ 0) = l.any P) ∧ w = w' := by
  unfold maxLen at hl
  have H : Hid (IntsAt w a l) := Lib.hid h; have HP := Lib.hid hP; clear h hP
  go_enter Try.func92, Try.ntmps92
  go_wp2
  go_loopw [8] (fun s8 wr => ∃ k : Nat, k ≤ l.length ∧ s8 = .int .i64 k ∧ wr = w ∧ Hid ((l.take k).any P = false)) (fun i wr => l.length - (intOf i).toNat)
  case atStart => exact ⟨0, by omega, rfl, rfl, Lib.hid (by simp)⟩
  case round =>
    obtain ⟨k, hk, rfl, rfl, HN⟩ := hrel
    by_cases hlt : k < l.length
    · obtain ⟨x, hx⟩ : ∃ x, l[k]? = some x := ⟨_, List.getElem?_eq_getElem hlt⟩
      obtain ⟨b, off, rfl, hb, hc⟩ := H.out.at hx
      have p0 : (0 : Int) ≤ (k : Int) := Int.natCast_nonneg _
      have p1 : (k : Int) < (l.length : Int) := by omega
      have HX := Lib.hid hx; clear hx
      cases hPx : P x with
      | true =>
        have HPX := Lib.hid hPx
        have E := Lib.hid (show l.any P = true by rw [List.any_eq_true]; exact ⟨x, List.mem_of_getElem? HX.out, hPx⟩)
        clear hPx
        go_wp2_with ((with_reducible refine (asks_v HP.out (List.mem_of_getElem? HX.out) HPX.out).mono ?_); rintro e w1 ⟨rfl, rfl⟩)
        go_ret
        exact ⟨⟨_, rfl, by rw [E.out, decide_eq_true_eq]; exact p0⟩, (by first | rfl | trivial)⟩
      | false =>
        have HPX := Lib.hid hPx
        have HN2 := Lib.hid (show (l.take (k + 1)).any P = false by rw [take_more HX.out, List.any_append, HN.out]; simp [hPx])
        clear hPx
        go_wp2_with ((with_reducible refine (asks_v HP.out (List.mem_of_getElem? HX.out) HPX.out).mono ?_); rintro e w1 ⟨rfl, rfl⟩)
        go_roundw
        case rel => exact ⟨k + 1, by omega, by go_num, (by first | rfl | trivial), HN2⟩
        case measure => simp [intOf]; omega
    · obtain rfl : k = l.length := by omega
      have E := Lib.hid (show l.any P = false by have := HN.out; rwa [List.take_length] at this)
      go_wp2
      go_ret
      exact ⟨⟨_, rfl, by rw [E.out]; decide⟩, (by first | rfl | trivial)⟩
set_option maxHeartbeats 1000000 in
theorem containsF_c (l : List Int) (a : Option Addr) (cap : Nat) (w : World) (wb vb hb : Nat) (P : Int → Bool) (h : RowAt w w.heap.size a (ints l)) (hl : l.length ≤ maxLen) (hP : Asks w wb vb hb P l) (r : Bool) (hr : l.any P = r) :
    Calls Try.prog 65 #[.slice a l.length cap, .func (.func 66) #[] #[.pointer (some ⟨wb, 0, none⟩), .pointer (some ⟨vb, 0, none⟩), .pointer (some ⟨hb, 0, none⟩)]] w fun e w' => e = .returned (.bool r) ∧ w = w' := by
  subst hr
  go_enter Try.func65, Try.ntmps65
  go_wp2_with ((with_reducible refine (indexF_c l a cap _ wb vb hb P h hl hP).mono ?_); rintro e w1 ⟨⟨m, rfl, hm⟩, rfl⟩; have HM := Lib.hid hm; clear hm)
  go_ret
  exact ⟨by rw [← HM.out]; rfl, (by first | rfl | trivial)⟩
end Go.Proofs.Ytbpagfddofbjbaa
namespace Go.Proofs.Ytbpagfddofbjbaa
set_option maxRecDepth 100000
open Go.RowKit Cd Go.Maps
set_option linter.unusedVariables false
set_option linter.unusedSimpArgs false

/-- A search's end. -/
def Ended (G : List (List Int)) (s : Dfs) : Prop := (G = [] ∧ s = ⟨[], [], [], [], []⟩ ∨ 0 < G.length ∧ DSteps G (Dfs.first G.length) s) ∧ s.pth = []
/-- What is above each place; the heads, as they are told. -/
def Cd.abOf (G : List (List Int)) (s : Dfs) : List Int := domD s.par (semiD (turned G) s.ent s.par s.ent.length).semi s.ent.length s.ent.length
def Cd.headP (G : List (List Int)) (s : Dfs) (x : Int) : Bool := s.ent.contains x && (egs (turned G) x).any (backP s.ent (abOf G s) (s.ent.idxOf x : Int))
def Cd.headsOf (G : List (List Int)) (s : Dfs) : List Int := ((List.range G.length).map Int.ofNat).filter (headP G s)
theorem Ended.par {G : List (List Int)} (hG : GIn G) {s : Dfs} (h : Ended G s) : ParOk s.ent.length s.par := by
  obtain ⟨⟨rfl, rfl⟩ | ⟨h0, hs⟩, _⟩ := h
  · exact ⟨rfl, fun i u hu => by simp at hu⟩
  · have hok := (DOk.first h0).steps hG hs
    exact ⟨hok.parl, hok.paro⟩
theorem Ended.ab {G : List (List Int)} (hG : GIn G) {s : Dfs} (h : Ended G s) : (abOf G s).length = s.ent.length ∧ ∀ i : Nat, i < s.ent.length → -1 ≤ Cd.gt (abOf G s) (i : Int) ∧ Cd.gt (abOf G s) (i : Int) < (i : Int) := by
  have hp := h.par hG
  exact domD_ok hp (semiD_ok (B := turned G) hp s.ent.length (Nat.le_refl _)).semi s.ent.length (Nat.le_refl _)
theorem range_filter_succ (p : Int → Bool) (k : Nat) : ((List.range (k + 1)).map Int.ofNat).filter p = ((List.range k).map Int.ofNat).filter p ++ (if p (k : Int) then [(k : Int)] else []) := by
  rw [List.range_succ, List.map_append, List.filter_append]
  congr 1
  by_cases h : p (k : Int)
  · rw [if_pos h, List.map_cons, List.map_nil, List.filter_cons_of_pos (by exact h), List.filter_nil]; rfl
  · rw [if_neg h, List.map_cons, List.map_nil, List.filter_cons_of_neg (by exact h), List.filter_nil]
/-- What Heads and Above have behind their first steps. -/
structure HvAt (w0 : World) (G : List (List Int)) (s : Dfs) (wb mb : Nat) (a1 a2 : Option Addr) (c1 c2 : Nat) (vl : Value) (w : World) : Prop where
  box : w.heap[wb]? = some (wkO (.slice a1 s.ent.length c1) (.slice a2 s.par.length c2) vl (.map (some mb)))
  wk : WkAt w s.ent s.par a1 a2 mb
  below : Below w0.heap.size w0 w
theorem HvAt.keep {w0 : World} {G : List (List Int)} {s : Dfs} {wb mb : Nat} {a1 a2 : Option Addr} {c1 c2 : Nat} {vl : Value} {w w' : World} (h : HvAt w0 G s wb mb a1 a2 c1 c2 vl w) (hb : Below w.heap.size w w') : HvAt w0 G s wb mb a1 a2 c1 c2 vl w' :=
  ⟨(hb.block _ (lt_heap h.box)).trans h.box, h.wk.below hb, h.below.trans (hb.mono h.below.size)⟩
theorem wk_of {w0 w : World} {e p l : List Int} {a1 a2 a3 : Option Addr} {mb : Nat} (h1 : LiesIn w w0.heap.size a1 (ints e)) (h2 : LiesIn w w0.heap.size a2 (ints p)) (h5 : PlAt w mb e) : WkAt w e p a1 a2 mb := ⟨h1.row, h2.row, h5⟩
theorem turned_vals {G : List (List Int)} (hG : GIn G) (hn : G.length ≤ 10000) : (turned G).length ≤ 100000 ∧ (∀ l ∈ turned G, l.length ≤ 100000) ∧ ∀ l ∈ turned G, ∀ y ∈ l, 0 ≤ y ∧ y ≤ 100000 := by
  refine ⟨by rw [turned_len]; omega, fun l hl => by have := turned_row hG hl; omega, fun l hl y hy => ?_⟩
  have := turned_in hG l hl y hy
  rw [turned_len] at this
  omega
set_option maxHeartbeats 8000000 in
set_option maxRecDepth 100000 in
theorem heads_g (r : FnR) (w : World) (h : FnOk w r) (G : List (List Int)) (hG : followG r.f = G) : Calls Try.prog 29 #[fnV r] w (fun e w' => ∃ s, Ended G s ∧ ListPost (headsOf G s) w e w') := by
  have hok := followG_ok r.f
  rw [hG] at hok
  have H := Lib.hid (h.below (bx1_below w r)); have HOK := Lib.hid hok; have HG := Lib.hid hG
  have hgl : G.length ≤ 10000 := by have := hok.2.1; omega
  have htl := turned_len G
  have HTV := Lib.hid (turned_vals hok.1 hgl)
  clear h hok hG
  obtain ⟨i0, hi0, hz0, hz1, hz2⟩ := info_parts infoInt
  obtain ⟨x0, x1, x2, x3, x4⟩ := nv5 (heap_alloc_new w (fnO r))
  go_enter Try.func29, Try.ntmps29
  go_wp2_with (first | ((with_reducible refine (follows_v H.out G HG.out).mono ?_); rintro e w1 ⟨ga, gc, rfl, hg, hb1⟩; have HG1 := Lib.hid hg; have HB1 := Lib.hid ((bx1_below w r).trans (hb1.mono (by simp))); clear hg hb1) | ((with_reducible refine (turned_c G ga gc _ HG1.out HOK.out.1 hgl (fun l hl => by have := HOK.out.2.2 l hl; omega)).mono ?_); rintro e w2 ⟨ta, tc, rfl, ht, hb2⟩; have HT2 := Lib.hid ht; have HB2 := Lib.hid (HB1.out.trans (hb2.mono HB1.out.size)); have HG2 := Lib.hid (RowsAt.mono (HG1.out.below hb2) hb2.size (Nat.le_refl _)); clear ht hb2) | ((with_reducible refine (depth_any G ga gc _ HG2.out HOK.out.1 hgl (fun l hl => by have := HOK.out.2.2 l hl; omega)).mono ?_); rintro e w3 ⟨s, hs, hsp, a1, c1, a2, c2, a3, c3, mb, rfl, hl1, hl2, hl3, hl4, hl5, hb3⟩; have HS : Hid (Ended G s) := Lib.hid (And.intro hs hsp); have HWK := Lib.hid (wk_of (a3 := a3) (l := s.lft) hl1 hl2 hl5); have HB3 := Lib.hid (HB2.out.trans (hb3.mono HB2.out.size)); have HT3 := Lib.hid (RowsAt.mono (HT2.out.below hb3) hb3.size (Nat.le_refl _)); have hsl := (dfs_lens HOK.out.1 hs); have HSL := Lib.hid hsl; have hsm : s.ent.length ≤ 10000 := (by omega); clear hs hsp hl1 hl2 hl3 hl4 hl5 hb3 hsl; have HX3 := Lib.hid (heap_alloc_new w3 (wkO (.slice a1 s.ent.length c1) (.slice a2 s.par.length c2) (.slice a3 s.lft.length c3) (.map (some mb)))); obtain ⟨y0, y1, y2, y3⟩ := nv4 HX3.out; have HBX := Lib.hid ((Below.refl w3.heap.size w3).alloc (Nat.le_refl _) (wkO (.slice a1 s.ent.length c1) (.slice a2 s.par.length c2) (.slice a3 s.lft.length c3) (.map (some mb))))) | ((with_reducible refine (htl ▸ dominators_c (turned G) ta tc s.ent s.par a1 a2 c1 c2 mb (.slice a3 s.lft.length c3) _ (RowsAt.mono (HT3.out.below HBX.out) HBX.out.size (Nat.le_refl _)) (HWK.out.below HBX.out) (by rw [htl]; exact HSL.out.2.2.2) (HS.out.par HOK.out.1) hsm HTV.out.1 HTV.out.2.1 HTV.out.2.2).mono ?_); rintro e w4 ⟨ab, rfl, hab, hrow, hb4⟩; have HAB := Lib.hid hrow; have HB4 := Lib.hid (HBX.out.trans (hb4.mono HBX.out.size)); have HX4 := Lib.hid ((hb4.block w3.heap.size (by simp)).trans HX3.out); have hab1 : w3.heap.size + 1 ≤ ab := (by simpa using hab); have hs4 : w3.heap.size + 1 ≤ w4.heap.size := (by have := hb4.size; simpa using this); clear hrow hb4 hab y0 y1 y2 y3))
  obtain ⟨hABl, hABo⟩ := HS.out.ab HOK.out.1
  obtain ⟨AB, hABe⟩ : ∃ AB, abOf G s = AB := ⟨_, rfl⟩
  have hrowAB : IRow w4 ab AB := by rw [← hABe]; exact HAB.out
  rw [hABe] at hABl hABo
  have HABE := Lib.hid hABe; have HABO := Lib.hid hABo; have HABL := Lib.hid hABl
  have hs3 : w.heap.size ≤ w3.heap.size := HB3.out.size
  have hm0 : (0 : Int) ≤ (G.length : Int) := Int.natCast_nonneg _
  obtain ⟨vO, hvO⟩ : ∃ vO, Obj.cells #[.slice (some ⟨ab, 0, none⟩) s.ent.length s.ent.length] 31 = vO := ⟨_, rfl⟩
  have hbv : Below w4.heap.size w4 (w4.alloc vO) := (Below.refl w4.heap.size w4).alloc (Nat.le_refl _) _
  have HRAB := Lib.hid (hrowAB.below hbv hrowAB.lt)
  have HX5 := Lib.hid ((hbv.block _ (by omega)).trans HX4.out)
  have HV5 := Lib.hid (heap_alloc_new w4 vO)
  have HWK5 := Lib.hid (HWK.out.below (HB4.out.trans (hbv.mono HB4.out.size)))
  have HT5 := Lib.hid (RowsAt.mono (HT3.out.below (HB4.out.trans (hbv.mono HB4.out.size))) (HB4.out.trans (hbv.mono HB4.out.size)).size (Nat.le_refl _))
  have HB5 := Lib.hid (HB3.out.trans ((HB4.out.trans (hbv.mono HB4.out.size)).mono hs3))
  have hsz5 : (w4.alloc vO).heap.size = w4.heap.size + 1 := by simp
  have hwrk : ∀ k : Nat, k ≤ G.length → (Lit.int .i64 (k : Int)).wf = true := fun k hk => wfI (Int.natCast_nonneg _) (by omega)
  have HVO := Lib.hid hvO; have HWF := Lib.hid hwrk
  rw [hvO]
  obtain ⟨W5, hW5⟩ : ∃ W5, w4.alloc vO = W5 := ⟨_, rfl⟩
  rw [hW5] at HRAB HX5 HV5 HWK5 HT5 HB5 hsz5 ⊢
  clear hABe hrowAB hABo hbv HAB hvO hwrk hW5
  go_loopw [7, 22] (fun s7 s22 wr => ∃ (k : Nat) (l : List Int), k ≤ G.length ∧ s22 = .int .i64 (k : Int) ∧ Hid (((List.range k).map Int.ofNat).filter (headP G s) = l) ∧ l.length ≤ k ∧ Hid (wr.ownsRow (w4.heap.size + 1) 3 1 s7 l.length (ints l)) ∧ Hid (Below (w4.heap.size + 1) W5 wr)) (fun _ s22 wr => G.length - (intOf s22).toNat)
  case atStart => exact ⟨0, [], by omega, rfl, Lib.hid rfl, by simp, Lib.hid (World.ownsRow_nil _ _ _ _), Lib.hid (Below.refl _ _)⟩
  case round =>
    obtain ⟨k, l, hk, rfl, HL, hlk, HO, HBR⟩ := hrel
    obtain ⟨a7, c7, rfl⟩ := row_slice HO.out
    have k0 : (0 : Int) ≤ (k : Int) := Int.natCast_nonneg _
    have hb5 : w4.heap.size + 1 ≤ wr.heap.size := by have := HBR.out.size; omega
    by_cases hlt : k < G.length
    · have k1 : (k : Int) < (G.length : Int) := by omega
      have hwk := HWF.out k hk
      have HBX5 := Lib.hid ((HBR.out.block w3.heap.size (by omega)).trans HX5.out)
      obtain ⟨y0, y1, y2, y3⟩ := nv4 HBX5.out
      obtain ⟨D, nD, hnD, hom, hpm⟩ := HWK5.out.map.keep (HBR.out.block mb (by have := HWK5.out.map.lt; omega))
      have HOM := Lib.hid hom; have HPMD := Lib.hid hpm
      have hpm1 := hpm.has (k : Int)
      clear hom hpm y0 y1 y2
      by_cases hke : (k : Int) ∈ s.ent
      · have HH : Hid (Maps.has D (.int .i64 (k : Int)) = true) := Lib.hid (by rw [hpm1]; simpa using hke)
        obtain ⟨f, hf⟩ : ∃ f, s.ent.idxOf (k : Int) = f := ⟨_, rfl⟩
        have hfm : f < s.ent.length := by rw [← hf]; exact List.idxOf_lt_length_of_mem hke
        have HIX : Hid (∀ c : Int, D.atKey (.int .i64 (k : Int)) (.lit (.int .i64 0)) = .lit (.int .i64 c) → (f : Int) = c) := Lib.hid (fun c hc => by rw [HPMD.out.at_ (k : Int) _ hke, hf] at hc; exact cvI hc)
        obtain ⟨tl, htl2⟩ : ∃ tl, (turned G)[k]? = some tl := ⟨_, List.getElem?_eq_getElem (by rw [turned_len]; exact hlt)⟩
        have hbN : Below (w4.heap.size + 1) W5 (wr.alloc (.cells #[.int .i64 (f : Int)] 3)) := HBR.out.alloc hb5 _
        have hbN' : Below W5.heap.size W5 (wr.alloc (.cells #[.int .i64 (f : Int)] 3)) := by rw [hsz5]; exact hbN
        obtain ⟨tb, toff, ra, rc, rfl, htb, _, htc0, hrow, hcap1, hcap2⟩ := HT5.out.at htl2
        have htc : wr.cell? ⟨tb, toff + k, none⟩ = some (.slice ra tl.length rc) := (HBR.out.cell (p := ⟨tb, toff + k, none⟩) (show tb < w4.heap.size + 1 by omega)).trans htc0
        have HROW := Lib.hid (RowAt.mono (RowAt.below hrow hbN') hbN'.size (Nat.le_refl _))
        have htll : tl.length ≤ maxLen := by have := HTV.out.2.1 tl (List.mem_of_getElem? htl2); unfold maxLen; omega
        have HASK : Hid (Asks (wr.alloc (.cells #[.int .i64 (f : Int)] 3)) w3.heap.size w4.heap.size wr.heap.size (backP s.ent AB (f : Int)) tl) := Lib.hid (fun x hx => by
          have hxr := HTV.out.2.2 tl (List.mem_of_getElem? htl2) x hx
          refine heads1_c _ _ _ _ mb s.ent AB (f : Int) x ⟨?_, ?_, ⟨some ⟨ab, 0, none⟩, s.ent.length, ?_, ?_⟩, ?_⟩ HABL.out.symm ⟨Int.natCast_nonneg _, by rw [HABL.out]; omega⟩ hxr (by rw [HABL.out]; exact HABO.out) (by rw [HABL.out]; omega) _ rfl
          · exact (nv4 ((Below.heap_alloc _ _ _ (by omega)).trans HBX5.out)).2.2.2
          · exact HWK5.out.map.keep (hbN'.block mb HWK5.out.map.lt)
          · have h9 := (hbN.block w4.heap.size (by omega)).trans HV5.out
            rw [cell_of_row _ _ 0 _ _ _ (by rw [h9, ← HVO.out]), HABL.out]; rfl
          · exact fun _ => ⟨ab, 0, rfl, by have := (HRAB.out.lt); have := hbN'.size; omega, Nat.le_refl _, fun j u hu => by rw [Nat.zero_add]; exact (HRAB.out.below hbN' HRAB.out.lt).cell hu⟩
          · rw [cell_of_row _ _ 0 _ _ _ (heap_alloc_new wr _)]; rfl)
        obtain ⟨q, hq⟩ : ∃ q, tl.any (backP s.ent AB (f : Int)) = q := ⟨_, rfl⟩
        have HHP := Lib.hid (show headP G s (k : Int) = q by unfold headP; rw [HABE.out, hf, egs_at (l := tl) (by simpa using htl2), hq]; simp [hke])
        have HQ := Lib.hid hq
        have htb2 : tb < wr.heap.size := by omega
        have tl0 : (turned G).length = G.length := htl
        clear hke hf hpm1 hq htl2 hrow htc0 hbN hbN'
        cases q with
        | true =>
          have HL2 := Lib.hid (show ((List.range (k + 1)).map Int.ofNat).filter (headP G s) = l ++ [(k : Int)] by rw [range_filter_succ, HHP.out, HL.out]; simp)
          go_wp2_with (first | (at_lookup; refine wpList_lookup_own_ok_int _ rfl _ _ 65 rfl 3 3 .i64 lawI Try.underlying65 Try.underlying3 (zeroI _) mb nD D rfl HOM.out _ (.int .i64 (k : Int)) rfl (keyI hwk) ?_; intro c hat hwc; rw [HH.out]; have hc := HIX.out c hat; subst hc; clear hat hwc) | ((with_reducible refine (containsF_c tl ra rc _ w3.heap.size w4.heap.size wr.heap.size (backP s.ent AB (f : Int)) HROW.out htll HASK.out true HQ.out).mono ?_); rintro e w6 ⟨rfl, rfl⟩) | (at_builtin; go_loud (refine wpList_append_lies _ rfl (.tmp 41) (.tmp 43) 31 rfl (w4.heap.size + 1) 3 i0 (.int .i64 0) 1 8 Try.underlying31 hi0 hz0 hz1 hz2 rfl (by decide) (.slice a7 l.length c7) l.length (ints l) rfl ((HO.out.alloc _).alloc _) _ 1 1 [.int .i64 (k : Int)] rfl rfl (cell_new1 _ _ _ _ (by simp)) (by simp [Value.oneCell']) (by omega) (by unfold maxLen; omega) (by omega) (by simp <;> omega) (wr.heap.size + 1 + 1) (by simp) ?_; intro g9 cap9 w9 hown hgrow hat hlt9; have HO9 := Lib.hid hown; have HB9 := Lib.hid (((HBR.out.alloc hb5 _).alloc (by simp <;> omega) _).grown hgrow (by simp <;> omega) (fun q e => by have := (HO.out.lt q e).1; omega)); clear hown hgrow hat hlt9)))
          go_roundw
          case rel => exact ⟨k + 1, l ++ [(k : Int)], by omega, by go_num, HL2, by simp; omega, Lib.hid (by simpa using HO9.out), HB9⟩
          case measure => simp [intOf]; omega
        | false =>
          have HL2 := Lib.hid (show ((List.range (k + 1)).map Int.ofNat).filter (headP G s) = l by rw [range_filter_succ, HHP.out, HL.out]; simp)
          go_wp2_with (first | (at_lookup; refine wpList_lookup_own_ok_int _ rfl _ _ 65 rfl 3 3 .i64 lawI Try.underlying65 Try.underlying3 (zeroI _) mb nD D rfl HOM.out _ (.int .i64 (k : Int)) rfl (keyI hwk) ?_; intro c hat hwc; rw [HH.out]; have hc := HIX.out c hat; subst hc; clear hat hwc) | ((with_reducible refine (containsF_c tl ra rc _ w3.heap.size w4.heap.size wr.heap.size (backP s.ent AB (f : Int)) HROW.out htll HASK.out false HQ.out).mono ?_); rintro e w6 ⟨rfl, rfl⟩))
          go_roundw
          case rel => exact ⟨k + 1, l, by omega, by go_num, HL2, by omega, Lib.hid (HO.out.alloc _), Lib.hid (HBR.out.alloc hb5 _)⟩
          case measure => simp [intOf]; omega
      · have HH : Hid (Maps.has D (.int .i64 (k : Int)) = false) := Lib.hid (by rw [hpm1]; simpa using hke)
        have HHP := Lib.hid (show headP G s (k : Int) = false by unfold headP; simp [hke])
        have HL2 := Lib.hid (show ((List.range (k + 1)).map Int.ofNat).filter (headP G s) = l by rw [range_filter_succ, HHP.out, HL.out]; simp)
        clear hke hpm1
        go_wp2_with (at_lookup; refine wpList_lookup_own_ok_int _ rfl _ _ 65 rfl 3 3 .i64 lawI Try.underlying65 Try.underlying3 (zeroI _) mb nD D rfl HOM.out _ (.int .i64 (k : Int)) rfl (keyI hwk) ?_; intro c hat hwc; rw [HH.out]; clear hat hwc)
        go_roundw
        case rel => exact ⟨k + 1, l, by omega, by go_num, HL2, by omega, Lib.hid (HO.out.alloc _), Lib.hid (HBR.out.alloc hb5 _)⟩
        case measure => simp [intOf]; omega
    · obtain rfl : k = G.length := by omega
      go_wp2
      go_ret
      exact ⟨s, HS.out, _, rfl, by rw [show headsOf G s = l from HL.out]; exact ownsRow_le HO.out (by omega), HB5.out.trans (HBR.out.mono (by omega))⟩
end Go.Proofs.Ytbpagfddofbjbaa
namespace Go.Proofs.Ytbpagfddofbjbaa
set_option maxRecDepth 100000
open Go.RowKit Cd Go.Maps
set_option linter.unusedVariables false
set_option linter.unusedSimpArgs false

/-- A row of booleans, asked. -/
def Cd.bt (L : List Bool) (x : Int) : Bool := L.getD x.toNat false
theorem Cd.bt_at {L : List Bool} {x : Nat} {b : Bool} (h : L[x]? = some b) : bt L (x : Int) = b := by unfold bt; rw [Int.toNat_natCast, List.getD_eq_getElem?_getD, h]; rfl
theorem bt_get {L : List Bool} {x : Nat} (h : x < L.length) : L[x]? = some (bt L (x : Int)) := by
  have : L[x]? = some L[x] := List.getElem?_eq_getElem h
  rw [this, bt_at this]
theorem bt_cell {w : World} {b n x : Nat} {L : List Bool} (h : VRow w b 4 (bools L)) (hl : L.length = n) (hx : x < n) : w.cell? ⟨b, x, none⟩ = some (.bool (bt L (x : Int))) := h.cell (by rw [List.getElem?_map, bt_get (by omega)]; rfl)
/-- Where edges come from that go back; the loop, as it is told. -/
noncomputable def Cd.srcOf (G : List (List Int)) (h : Int) : List Int := (egs (turned G) h).filter (fun x => bt (foundB G [0] (-1)) x && !bt (foundB G [0] h) x)
noncomputable def Cd.loopR (G : List (List Int)) (h : Int) : List Int :=
  if srcOf G h = [] then [] else ((List.range G.length).map Int.ofNat).filter (fun x => bt ((foundB (turned G) (srcOf G h) h).set h.toNat true) x && bt (foundB G [0] (-1)) x)
theorem range_filter_succ2 (p : Int → Bool) (k : Nat) : ((List.range (k + 1)).map Int.ofNat).filter p = ((List.range k).map Int.ofNat).filter p ++ (if p (k : Int) then [(k : Int)] else []) := by
  rw [List.range_succ, List.map_append, List.filter_append]
  congr 1
  by_cases h : p (k : Int)
  · rw [if_pos h, List.map_cons, List.map_nil, List.filter_cons_of_pos (by exact h), List.filter_nil]; rfl
  · rw [if_neg h, List.map_cons, List.map_nil, List.filter_cons_of_neg (by exact h), List.filter_nil]
theorem take_filter_succ {p : Int → Bool} {l : List Int} {k : Nat} {x : Int} (h : l[k]? = some x) : (l.take (k + 1)).filter p = (l.take k).filter p ++ (if p x then [x] else []) := by
  rw [take_more h, List.filter_append]
  congr 1
  by_cases hp : p x
  · rw [if_pos hp, List.filter_cons_of_pos hp, List.filter_nil]
  · rw [if_neg hp, List.filter_cons_of_neg hp, List.filter_nil]
theorem setB_row {w : World} {b : Nat} {L : List Bool} (h : VRow w b 4 (bools L)) (i : Nat) (x : Bool) : VRow (w.setCell ⟨b, i, none⟩ (.bool x)) b 4 (bools (L.set i x)) := by
  have := VRow.set h i (.bool x)
  unfold bools
  rw [List.map_set]
  exact this
set_option maxHeartbeats 4000000 in
set_option maxRecDepth 100000 in
theorem loop_out (r : FnR) (hd : Int) (w : World) (h : FnOk w r) (G : List (List Int)) (hG : followG r.f = G) (hout : ¬ (0 ≤ hd ∧ hd < (G.length : Int))) : Calls Try.prog 30 #[fnV r, .int .i64 hd] w (ListPost [] w) := by
  have H := Lib.hid (h.below (bx1_below w r)); have HG := Lib.hid hG
  clear h hG
  obtain ⟨x0, x1, x2, x3, x4⟩ := nv5 (heap_alloc_new w (fnO r))
  by_cases hneg : hd < 0
  · have t0 : decide (hd < 0) = true := by simpa using hneg
    clear hneg hout
    go_enter Try.func30, Try.ntmps30
    go_wp2_with ((with_reducible refine (follows_v H.out G HG.out).mono ?_); rintro e w1 ⟨ga, gc, rfl, hg, hb1⟩; have HB1 := Lib.hid ((bx1_below w r).trans (hb1.mono (by simp))); clear hg hb1)
    go_ret
    exact ⟨_, rfl, World.ownsRow_nil _ _ _ _, HB1.out⟩
  · have t0 : decide (hd < 0) = false := by simpa using hneg
    have t1 : decide (hd ≥ (G.length : Int)) = true := by simp; omega
    have t2 : decide ((G.length : Int) ≤ hd) = true := t1
    clear hneg hout
    go_enter Try.func30, Try.ntmps30
    go_wp2_with ((with_reducible refine (follows_v H.out G HG.out).mono ?_); rintro e w1 ⟨ga, gc, rfl, hg, hb1⟩; have HB1 := Lib.hid ((bx1_below w r).trans (hb1.mono (by simp))); clear hg hb1)
    go_ret
    exact ⟨_, rfl, World.ownsRow_nil _ _ _ _, HB1.out⟩
set_option maxHeartbeats 16000000 in
set_option maxRecDepth 100000 in
theorem loop_in (r : FnR) (n : Nat) (w : World) (h : FnOk w r) (G : List (List Int)) (hG : followG r.f = G) (hn : n < G.length) : Calls Try.prog 30 #[fnV r, .int .i64 (n : Int)] w (ListPost (loopR G (n : Int)) w) := by
  have hok := followG_ok r.f
  rw [hG] at hok
  have H := Lib.hid (h.below (bx1_below w r)); have HOK := Lib.hid hok; have HG := Lib.hid hG
  have hgl : G.length ≤ 10000 := by have := hok.2.1; omega
  have htl := turned_len G
  have HTI := Lib.hid (turned_in hok.1)
  clear h hok hG
  obtain ⟨i0, hi0, hz0, hz1, hz2⟩ := info_parts infoInt
  obtain ⟨x0, x1, x2, x3, x4⟩ := nv5 (heap_alloc_new w (fnO r))
  have n0 : (0 : Int) ≤ (n : Int) := Int.natCast_nonneg _
  have n1 : (n : Int) < (G.length : Int) := by omega
  have t0 : decide ((n : Int) < 0) = false := by simp
  have t1 : decide ((n : Int) ≥ (G.length : Int)) = false := by simp; omega
  have t2 : decide ((G.length : Int) ≤ (n : Int)) = false := t1
  have hgp : 0 < G.length := by omega
  obtain ⟨R, hR⟩ : ∃ R, foundB G [0] (-1) = R := ⟨_, rfl⟩
  obtain ⟨Q, hQ⟩ : ∃ Q, foundB G [0] (n : Int) = Q := ⟨_, rfl⟩
  have hRl : R.length = G.length := by rw [← hR, foundB_len]
  have hQl : Q.length = G.length := by rw [← hQ, foundB_len]
  obtain ⟨T, hT⟩ : ∃ T, turned G = T := ⟨_, rfl⟩
  have hTl : T.length = G.length := by rw [← hT, htl]
  obtain ⟨tl, htk⟩ : ∃ tl, T[n]? = some tl := ⟨_, List.getElem?_eq_getElem (by omega)⟩
  have htlin : ∀ y ∈ tl, 0 ≤ y ∧ y < (G.length : Int) := by have := HTI.out tl (hT ▸ List.mem_of_getElem? htk); rwa [htl] at this
  have htll : tl.length ≤ G.length := turned_row HOK.out.1 (hT ▸ List.mem_of_getElem? htk)
  obtain ⟨p, hp⟩ : ∃ p : Int → Bool, p = fun x => bt R x && !bt Q x := ⟨_, rfl⟩
  have HSRC := Lib.hid (show srcOf G (n : Int) = tl.filter p by unfold srcOf; rw [hR, hQ, hT, hp, egs_at (l := tl) (by simpa using htk)])
  have HR := Lib.hid hR; have HQ := Lib.hid hQ; have HT := Lib.hid hT; have HTK := Lib.hid htk; have HIN := Lib.hid htlin; have HP := Lib.hid hp
  clear hR hQ hT htk htlin hp htl
  go_enter Try.func30, Try.ntmps30
  go_wp2_with (first | ((with_reducible refine (follows_v H.out G HG.out).mono ?_); rintro e w1 ⟨ga, gc, rfl, hg, hb1⟩; have HG1 := Lib.hid hg; have HB1 := Lib.hid ((bx1_below w r).trans (hb1.mono (by simp))); clear hg hb1) | ((with_reducible refine (HT.out ▸ turned_c G ga gc _ HG1.out HOK.out.1 hgl (fun l hl => by have := HOK.out.2.2 l hl; omega)).mono ?_); rintro e w2 ⟨ta, tc, rfl, ht, hb2⟩; rw [hTl]; have HT2 := Lib.hid ht; have HB2 := Lib.hid (HB1.out.trans (hb2.mono HB1.out.size)); have HG2 := Lib.hid (RowsAt.mono (HG1.out.below hb2) hb2.size (Nat.le_refl _)); clear ht hb2) | ((with_reducible refine (HR.out ▸ found_z G ga gc (-1) w2 HG2.out HOK.out.1 hgl hgp (fun l hl => by have := HOK.out.2.2 l hl; omega)).mono ?_); rintro e w3 ⟨rb, rfl, hb, hrow, hb3⟩; rw [hRl]; have hq := (((Below.refl w2.heap.size w2).alloc (Nat.le_refl _) (.cells #[.int .i64 0] 3)).trans (Below.mono hb3 (by simp))); have HG3 := Lib.hid (RowsAt.mono (HG2.out.below hq) hq.size (Nat.le_refl _)); have HT3 := Lib.hid (RowsAt.mono (HT2.out.below hq) hq.size (Nat.le_refl _)); have HR3 := Lib.hid hrow; have HB3 := Lib.hid (HB2.out.trans (hq.mono HB2.out.size)); clear hrow hb3 hb hq) | ((with_reducible refine (HQ.out ▸ found_z G ga gc (n : Int) w3 HG3.out HOK.out.1 hgl hgp (fun l hl => by have := HOK.out.2.2 l hl; omega)).mono ?_); rintro e w4 ⟨qb, rfl, hb, hrow, hb4⟩; rw [hQl]; have hq := (((Below.refl w3.heap.size w3).alloc (Nat.le_refl _) (.cells #[.int .i64 0] 3)).trans (Below.mono hb4 (by simp))); have HT4 := Lib.hid (RowsAt.mono (HT3.out.below hq) hq.size (Nat.le_refl _)); have HR4 := Lib.hid (HR3.out.below hq HR3.out.lt); have HQ4 := Lib.hid hrow; have HB4 := Lib.hid (HB3.out.trans (hq.mono HB3.out.size)); obtain ⟨tb, toff, ra, rc, rfl, htb, _, htc, htrow, hcap1, hcap2⟩ := HT4.out.at HTK.out; have HTR := Lib.hid htrow; clear hrow hb4 hb hq htrow))
  have htll2 : tl.length ≤ 10000 := by omega
  go_loopw [9, 40] (fun s9 s40 wr => ∃ (k : Nat) (l : List Int), k ≤ tl.length ∧ s40 = .int .i64 (k : Int) ∧ Hid ((tl.take k).filter p = l) ∧ l.length ≤ k ∧ Hid (wr.ownsRow w4.heap.size 3 1 s9 l.length (ints l)) ∧ Hid (Below w4.heap.size w4 wr)) (fun _ s40 wr => tl.length - (intOf s40).toNat)
  case atStart => exact ⟨0, [], by omega, rfl, Lib.hid (by simp), by simp, Lib.hid (World.ownsRow_nil _ _ _ _), Lib.hid (Below.refl _ _)⟩
  case round =>
    obtain ⟨k, l, hk, rfl, HL, hlk, HO, HBR⟩ := hrel
    obtain ⟨a9, c9, rfl⟩ := row_slice HO.out
    have k0 : (0 : Int) ≤ (k : Int) := Int.natCast_nonneg _
    have hb5 : w4.heap.size ≤ wr.heap.size := HBR.out.size
    have HRr := Lib.hid (HR4.out.below HBR.out HR4.out.lt)
    by_cases hlt : k < tl.length
    · have k1 : (k : Int) < (tl.length : Int) := by omega
      obtain ⟨y, hy⟩ : ∃ y, tl[k]? = some y := ⟨_, List.getElem?_eq_getElem hlt⟩
      obtain ⟨yb, yoff, rfl, hyb, _, hyc⟩ := IntsAt.cellsB (HTR.out.below HBR.out) hy
      have hyin := HIN.out y (List.mem_of_getElem? hy)
      obtain ⟨i, rfl⟩ : ∃ i : Nat, y = (i : Int) := ⟨y.toNat, by omega⟩
      have i0' : (0 : Int) ≤ (i : Int) := Int.natCast_nonneg _
      have i1 : (i : Int) < (G.length : Int) := hyin.2
      have cR := bt_cell HRr.out hRl (x := i) (by omega)
      have cQ := bt_cell (HQ4.out.below HBR.out HQ4.out.lt) hQl (x := i) (by omega)
      have hstep := take_filter_succ (p := p) hy
      rw [HL.out] at hstep
      have hpi : p (i : Int) = (bt R (i : Int) && !bt Q (i : Int)) := by rw [HP.out]
      obtain ⟨r1, hr1⟩ : ∃ r1, bt R (i : Int) = r1 := ⟨_, rfl⟩
      obtain ⟨q1, hq1⟩ : ∃ q1, bt Q (i : Int) = q1 := ⟨_, rfl⟩
      rw [hr1] at cR hpi
      rw [hq1] at cQ hpi
      rw [hpi] at hstep
      have HSTEP := Lib.hid hstep
      clear hy hstep hpi hr1 hq1
      cases r1 with
      | false =>
        have E := Lib.hid (show (tl.take (k + 1)).filter p = l by rw [HSTEP.out]; simp)
        go_wp2
        go_roundw
        case rel => exact ⟨k + 1, l, by omega, by go_num, E, by omega, HO, HBR⟩
        case measure => simp [intOf]; omega
      | true =>
        cases q1 with
        | true =>
          have E := Lib.hid (show (tl.take (k + 1)).filter p = l by rw [HSTEP.out]; simp)
          go_wp2
          go_roundw
          case rel => exact ⟨k + 1, l, by omega, by go_num, E, by omega, HO, HBR⟩
          case measure => simp [intOf]; omega
        | false =>
          have E := Lib.hid (show (tl.take (k + 1)).filter p = l ++ [(i : Int)] by rw [HSTEP.out]; simp)
          go_wp2_with (at_builtin; go_loud (refine wpList_append_lies _ rfl (.tmp 55) (.tmp 57) 31 rfl w4.heap.size 3 i0 (.int .i64 0) 1 8 Try.underlying31 hi0 hz0 hz1 hz2 rfl (by decide) (.slice a9 l.length c9) l.length (ints l) rfl (HO.out.alloc _) _ 1 1 [.int .i64 (i : Int)] rfl rfl (cell_new1 _ _ _ _ (by simp)) (by simp [Value.oneCell']) (by omega) (by unfold maxLen; omega) (by omega) (by simp <;> omega) (wr.heap.size + 1) (by simp) ?_; intro g9 cap9 w9 hown hgrow hat hlt9; have HO9 := Lib.hid hown; have HB9 := Lib.hid ((HBR.out.alloc hb5 _).grown hgrow (by simp <;> omega) (fun q e => by have := (HO.out.lt q e).1; omega)); clear hown hgrow hat hlt9))
          go_roundw
          case rel => exact ⟨k + 1, l ++ [(i : Int)], by omega, by go_num, E, by simp; omega, Lib.hid (by simpa using HO9.out), HB9⟩
          case measure => simp [intOf]; omega
    · obtain rfl : k = tl.length := by omega
      have hfl : tl.filter p = l := by have := HL.out; rwa [List.take_length] at this
      have HFL := Lib.hid (HSRC.out.trans hfl)
      have hlin : ∀ y ∈ l, 0 ≤ y ∧ y < (T.length : Int) := fun y hy => by rw [hTl]; rw [← hfl] at hy; exact HIN.out y (List.mem_filter.1 hy).1
      have HLIN := Lib.hid hlin
      clear hfl hlin
      by_cases hl0 : l = []
      · subst hl0
        have E := Lib.hid (show loopR G (n : Int) = [] by unfold loopR; rw [HFL.out]; exact if_pos rfl)
        go_wp2
        go_ret
        rw [E.out]
        exact ⟨_, rfl, World.ownsRow_nil _ _ _ _, HB4.out.trans (HBR.out.mono HB4.out.size)⟩
      · have hlp : 0 < l.length := List.length_pos_iff.2 hl0
        have t5 : ((l.length : Int) == 0) = false := by rw [beq_eq_false_iff_ne]; omega
        obtain ⟨W0, hW0⟩ : ∃ W0, foundB T l (n : Int) = W0 := ⟨_, rfl⟩
        have hW0l : W0.length = G.length := by rw [← hW0, foundB_len, hTl]
        obtain ⟨P2, hP2⟩ : ∃ P2 : Int → Bool, P2 = fun x => bt (W0.set n true) x && bt R x := ⟨_, rfl⟩
        have HLR := Lib.hid (show loopR G (n : Int) = ((List.range G.length).map Int.ofNat).filter P2 by unfold loopR; rw [HFL.out, if_neg hl0, HT.out, hW0, HR.out, hP2, Int.toNat_natCast])
        have HW0 := Lib.hid hW0; have HP2 := Lib.hid hP2
        have HTr := Lib.hid (RowsAt.mono (HT4.out.below HBR.out) HBR.out.size (Nat.le_refl _))
        have HTI2 : Hid (GIn T) := Lib.hid (by rw [← HT.out]; exact HTI.out)
        have HTV : Hid (∀ l ∈ T, l.length ≤ 100000) := Lib.hid (fun l hl => by have := turned_row HOK.out.1 (by rw [HT.out]; exact hl); omega)
        have HLrow : Hid (RowAt wr wr.heap.size a9 (ints l)) := Lib.hid (LiesIn.row (LiesIn.of_own HO.out))
        have hl9 : l.length ≤ 100000 := by omega
        have hTl9 : T.length ≤ 10000 := by omega
        have hfc := found_c T (some ⟨tb, toff, none⟩) tc l a9 c9 (n : Int) wr HTr.out HTI2.out HLrow.out HLIN.out hl9 hTl9 HTV.out
        rw [hW0, hTl] at hfc
        have HFC := Lib.hid hfc
        clear hl0 hW0 hP2 hfc
        go_wp2_with ((with_reducible refine HFC.out.mono ?_); rintro e w5 ⟨wb, rfl, hb, hrow, hb5'⟩; rw [hW0l]; have HWR := Lib.hid hrow; have HRR := Lib.hid (HRr.out.below hb5' HRr.out.lt); have HB5 := Lib.hid (HB4.out.trans ((HBR.out.trans (hb5'.mono HBR.out.size)).mono HB4.out.size)); have fw := VRow.frozen hrow n; have cw := bt_cell hrow hW0l hn; have hwb : rb ≠ wb := (by have := HRr.out.lt; omega); have hwb2 : w.heap.size ≤ wb := (by have := HB4.out.size; omega); clear hrow hb5' hb)
        have HW6 := Lib.hid (setB_row HWR.out n true)
        have hW6l : (W0.set n true).length = G.length := by simpa using hW0l
        have HR6 := Lib.hid (VRow.keep HRR.out (show (w5.setCell ⟨wb, n, none⟩ (.bool true)).heap[rb]? = w5.heap[rb]? from Below.heap_setCell _ _ _ _ hwb))
        have HB6 := Lib.hid (show Below w.heap.size w (w5.setCell ⟨wb, n, none⟩ (.bool true)) from HB5.out.setCell (show w.heap.size ≤ wb from hwb2) _)
        obtain ⟨w6, hw6⟩ : ∃ w6, w5.setCell ⟨wb, n, none⟩ (.bool true) = w6 := ⟨_, rfl⟩
        have hs6 : w6.heap.size = w5.heap.size := by rw [← hw6]; simp
        rw [hw6] at HW6 HR6 HB6 ⊢
        clear hw6 fw cw HWR HRR HB5
        go_loopw [13, 72] (fun s13 s72 wr => ∃ (k : Nat) (l2 : List Int), k ≤ G.length ∧ s72 = .int .i64 (k : Int) ∧ Hid (((List.range k).map Int.ofNat).filter P2 = l2) ∧ l2.length ≤ k ∧ Hid (wr.ownsRow w5.heap.size 3 1 s13 l2.length (ints l2)) ∧ Hid (Below w5.heap.size w6 wr)) (fun _ s72 wr => G.length - (intOf s72).toNat)
        case atStart => exact ⟨0, [], by omega, rfl, Lib.hid (by simp), by simp, Lib.hid (World.ownsRow_nil _ _ _ _), Lib.hid (Below.refl _ _)⟩
        case round =>
          obtain ⟨k, l2, hk2, rfl, HL2, hlk2, HO2, HBR2⟩ := hrel
          obtain ⟨a13, c13, rfl⟩ := row_slice HO2.out
          have k0 : (0 : Int) ≤ (k : Int) := Int.natCast_nonneg _
          have hb6 : w5.heap.size ≤ wr.heap.size := by have := HBR2.out.size; omega
          by_cases hlt2 : k < G.length
          · have k1 : (k : Int) < (G.length : Int) := by omega
            have cW := bt_cell (HW6.out.below HBR2.out (by rw [← hs6]; exact HW6.out.lt)) hW6l (x := k) hlt2
            have cR := bt_cell (HR6.out.below HBR2.out (by rw [← hs6]; exact HR6.out.lt)) hRl (x := k) hlt2
            have hstep := range_filter_succ2 P2 k
            rw [HL2.out] at hstep
            have hpi : P2 (k : Int) = (bt (W0.set n true) (k : Int) && bt R (k : Int)) := by rw [HP2.out]
            obtain ⟨r1, hr1⟩ : ∃ r1, bt (W0.set n true) (k : Int) = r1 := ⟨_, rfl⟩
            obtain ⟨q1, hq1⟩ : ∃ q1, bt R (k : Int) = q1 := ⟨_, rfl⟩
            rw [hr1] at cW hpi
            rw [hq1] at cR hpi
            rw [hpi] at hstep
            have HSTEP := Lib.hid hstep
            clear hstep hpi hr1 hq1
            cases r1 with
            | false =>
              have E := Lib.hid (show ((List.range (k + 1)).map Int.ofNat).filter P2 = l2 by rw [HSTEP.out]; simp)
              go_wp2
              go_roundw
              case rel => exact ⟨k + 1, l2, by omega, by go_num, E, by omega, HO2, HBR2⟩
              case measure => simp [intOf]; omega
            | true =>
              cases q1 with
              | false =>
                have E := Lib.hid (show ((List.range (k + 1)).map Int.ofNat).filter P2 = l2 by rw [HSTEP.out]; simp)
                go_wp2
                go_roundw
                case rel => exact ⟨k + 1, l2, by omega, by go_num, E, by omega, HO2, HBR2⟩
                case measure => simp [intOf]; omega
              | true =>
                have E := Lib.hid (show ((List.range (k + 1)).map Int.ofNat).filter P2 = l2 ++ [(k : Int)] by rw [HSTEP.out]; simp)
                go_wp2_with (at_builtin; go_loud (refine wpList_append_lies _ rfl (.tmp 84) (.tmp 86) 31 rfl w5.heap.size 3 i0 (.int .i64 0) 1 8 Try.underlying31 hi0 hz0 hz1 hz2 rfl (by decide) (.slice a13 l2.length c13) l2.length (ints l2) rfl (HO2.out.alloc _) _ 1 1 [.int .i64 (k : Int)] rfl rfl (cell_new1 _ _ _ _ (by simp)) (by simp [Value.oneCell']) (by omega) (by unfold maxLen; omega) (by omega) (by simp <;> omega) (wr.heap.size + 1) (by simp) ?_; intro g8 cap8 w8 hown hgrow hat hlt9; have HO8 := Lib.hid hown; have HB8 := Lib.hid ((HBR2.out.alloc hb6 _).grown hgrow (by simp <;> omega) (fun q e => by have := (HO2.out.lt q e).1; omega)); clear hown hgrow hat hlt9))
                go_roundw
                case rel => exact ⟨k + 1, l2 ++ [(k : Int)], by omega, by go_num, E, by simp; omega, Lib.hid (by simpa using HO8.out), HB8⟩
                case measure => simp [intOf]; omega
          · obtain rfl : k = G.length := by omega
            go_wp2
            go_ret
            rw [HLR.out, HL2.out]
            exact ⟨_, rfl, ownsRow_le HO2.out (by have := HB6.out.size; omega), HB6.out.trans (HBR2.out.mono (by have := HB6.out.size; omega))⟩
theorem loop_g (r : FnR) (hd : Int) (w : World) (h : FnOk w r) (G : List (List Int)) (hG : followG r.f = G) : Calls Try.prog 30 #[fnV r, .int .i64 hd] w (ListPost (if 0 ≤ hd ∧ hd < (G.length : Int) then loopR G hd else []) w) := by
  by_cases hin : 0 ≤ hd ∧ hd < (G.length : Int)
  · obtain ⟨n, rfl⟩ : ∃ n : Nat, hd = (n : Int) := ⟨hd.toNat, by omega⟩
    rw [if_pos hin]
    exact loop_in r n w h G hG (by omega)
  · rw [if_neg hin]
    exact loop_out r hd w h G hG hin
end Go.Proofs.Ytbpagfddofbjbaa
namespace Go.Proofs.Ytbpagfddofbjbaa
open Cd
set_option linter.unusedVariables false

theorem Cd.domR_dom {c : List Ins} (hc : Closed c) (h0 : 0 < c.length) (a b : Int) : domR (nextG c) a b = true ↔ Dom c a b := by
  rw [domR_iff, nextG_len, path_reach hc h0, path_reach hc h0]
  constructor
  · rintro ⟨h1, h2, h3, h4, h5, h6⟩
    refine ⟨?_, h5, .inr h6⟩
    rcases Reach.either (a := a) h5 with h | h
    · exact absurd h h6
    · exact h
  · rintro ⟨h1, h2, h3⟩
    have i1 := h1.inside hc (zero_inside h0)
    have i2 := h2.inside hc (zero_inside h0)
    refine ⟨i1.1, i2.1, i1.2, i2.2, h2, fun h => ?_⟩
    rcases h3 with h3 | h3
    · exact h.not h3.symm
    · exact h3 h
theorem Cd.domR_domB {c : List Ins} (hc : Closed c) (h0 : 0 < c.length) (a b : Int) : domR (nextG c) a b = domB c a b := by
  rw [Bool.eq_iff_iff, domR_dom hc h0, domB_iff hc h0]
theorem Cd.domR_nil (a b : Int) : domR [] a b = false := by
  rw [Bool.eq_false_iff]
  intro h
  have := domR_iff.1 h
  simp at this; omega
theorem Cd.bt_path {G : List (List Int)} {fr : List Int} {no : Int} {x : Int} (hx : 0 ≤ x ∧ x < (G.length : Int)) : bt (foundB G fr no) x = true ↔ Path G no fr x := by
  obtain ⟨k, rfl⟩ : ∃ k : Nat, x = (k : Int) := ⟨x.toNat, by omega⟩
  have h := bt_get (L := foundB G fr no) (x := k) (by rw [foundB_len]; omega)
  exact foundB_v (by omega) h
theorem Cd.mem_rng {n : Nat} {x : Int} : x ∈ (List.range n).map Int.ofNat ↔ 0 ≤ x ∧ x < (n : Int) := by
  rw [List.mem_map]
  constructor
  · rintro ⟨k, hk, rfl⟩
    rw [List.mem_range] at hk
    exact ⟨Int.natCast_nonneg _, by show (k : Int) < n; omega⟩
  · rintro ⟨h1, h2⟩
    exact ⟨x.toNat, List.mem_range.2 (by omega), by show ((x.toNat : Nat) : Int) = x; omega⟩
theorem Cd.src_tails {c : List Ins} (hc : Closed c) (h0 : 0 < c.length) {h : Nat} (hh : h < c.length) : srcOf (nextG c) (h : Int) = tails c (h : Int) := by
  have e : egs (turned (nextG c)) (h : Int) = beforeN c (h : Int) := egs_at (by simpa using turned_before hc hh)
  unfold srcOf tails
  rw [e]
  unfold beforeN
  rw [List.filter_filter]
  apply List.filter_congr
  intro x hx
  have hx' := mem_rng.1 hx
  have hxl : 0 ≤ x ∧ x < ((nextG c).length : Int) := by rw [nextG_len]; exact hx'
  have p1 := bt_path (G := nextG c) (fr := [0]) (no := -1) hxl
  have p2 := bt_path (G := nextG c) (fr := [0]) (no := (h : Int)) hxl
  rw [path_reach hc h0] at p1 p2
  have d := domB_iff hc h0 (h : Int) x
  have r := reachedB_iff hc h0 x
  rw [← r] at p1
  have e1 : bt (foundB (nextG c) [0] (-1)) x = reachedB c x := Bool.eq_iff_iff.2 p1
  rw [e1]
  have d2 : domB c (h : Int) x = true ↔ reachedB c x = true ∧ ¬ bt (foundB (nextG c) [0] (h : Int)) x = true := by
    rw [d, p2, r]
    constructor
    · rintro ⟨q1, q2, q3⟩
      exact ⟨q2, fun q => by rcases q3 with q3 | q3; exact q.not q3.symm; exact q3 q⟩
    · rintro ⟨q1, q2⟩
      refine ⟨?_, q1, .inr q2⟩
      rcases Reach.either (a := (h : Int)) q1 with q | q
      · exact absurd q q2
      · exact q
  cases hr : reachedB c x <;> cases hb : bt (foundB (nextG c) [0] (h : Int)) x <;> cases hd : domB c (h : Int) x <;> cases hn : (nexts c x).contains (h : Int) <;> simp_all
theorem Cd.loopR_loopN {c : List Ins} (hc : Closed c) (h0 : 0 < c.length) {h : Nat} (hh : h < c.length) : loopR (nextG c) (h : Int) = loopN c (h : Int) := by
  unfold loopR loopN
  rw [src_tails hc h0 hh, nextG_len]
  by_cases ht : tails c (h : Int) = []
  · rw [if_pos ht, if_pos ht]
  · rw [if_neg ht, if_neg ht]
    have hS : ∀ t ∈ tails c (h : Int), Inside c t := fun t hm => by
      have := mem_rng.1 (List.mem_filter.1 hm).1
      exact this
    have hhr : reachedB c (h : Int) = true := by
      obtain ⟨t, hm⟩ := List.exists_mem_of_ne_nil _ ht
      have := (List.mem_filter.1 hm).2
      simp only [Bool.and_eq_true] at this
      exact (reachedB_iff hc h0 _).2 ((domB_iff hc h0 _ _).1 this.2).ra
    apply List.filter_congr
    intro x hx
    have hx' := mem_rng.1 hx
    have hxl : 0 ≤ x ∧ x < ((nextG c).length : Int) := by rw [nextG_len]; exact hx'
    have hxt : 0 ≤ x ∧ x < ((turned (nextG c)).length : Int) := by rw [turned_len]; exact hxl
    have p1 := bt_path (G := nextG c) (fr := [0]) (no := -1) hxl
    rw [path_reach hc h0, ← reachedB_iff hc h0] at p1
    have e1 : bt (foundB (nextG c) [0] (-1)) x = reachedB c x := Bool.eq_iff_iff.2 p1
    rw [e1]
    unfold inLoop
    by_cases hxh : x = (h : Int)
    · subst hxh
      have e2 : bt ((foundB (turned (nextG c)) (tails c (h : Int)) (h : Int)).set (h : Int).toNat true) (h : Int) = true := bt_at (by rw [Int.toNat_natCast, List.getElem?_set_self (by rw [foundB_len, turned_len, nextG_len]; exact hh)])
      rw [e2, hhr]; simp
    · have e2 : bt ((foundB (turned (nextG c)) (tails c (h : Int)) (h : Int)).set (h : Int).toNat true) x = bt (foundB (turned (nextG c)) (tails c (h : Int)) (h : Int)) x := by
        unfold bt
        rw [List.getD_eq_getElem?_getD, List.getD_eq_getElem?_getD, List.getElem?_set_ne (by omega)]
      rw [e2, Bool.eq_iff_iff, Bool.and_eq_true, bt_path hxt, path_back hc hS]
      simp only [Bool.or_eq_true, decide_eq_true_eq, hxh, false_or, List.any_eq_true, Bool.and_eq_true, List.contains_iff_mem]
      constructor
      · rintro ⟨⟨q1, t, q2, q3⟩, q4⟩
        exact ⟨t, q2, q4, (without_mem hc q1 t).2 q3⟩
      · rintro ⟨t, q2, q4, q3⟩
        exact ⟨⟨hx', t, q2, (without_mem hc hx' t).1 q3⟩, q4⟩
end Go.Proofs.Ytbpagfddofbjbaa
namespace Go.Proofs.Ytbpagfddofbjbaa
open Go.RowKit Cd
set_option linter.unusedVariables false

theorem Ended.fin {c : List Ins} (h0 : 0 < c.length) (hc : Closed c) {s : Dfs} (h : Ended (nextG c) s) : Fin (nextG c) s := by
  obtain ⟨⟨h1, _⟩ | ⟨h1, h2⟩, h3⟩ := h
  · have := nextG_len c; rw [h1] at this; simp at this; omega
  · exact Fin.of (nextG_in hc) h1 h2 h3
/-- All heads. -/
def Cd.headsN (c : List Ins) : List Int := ((List.range c.length).map Int.ofNat).filter (fun n => decide (loopN c n ≠ []))
theorem headsOf_doc {c : List Ins} (h0 : 0 < c.length) (hc : Closed c) {s : Dfs} (h : Ended (nextG c) s) : headsOf (nextG c) s = headsN c := by
  unfold headsOf headsN
  rw [nextG_len]
  apply List.filter_congr
  intro x hx
  have hx' := mem_rng.1 hx
  obtain ⟨k, rfl⟩ : ∃ k : Nat, x = (k : Int) := ⟨x.toNat, by omega⟩
  rw [Bool.eq_iff_iff, decide_eq_true_iff]
  have h1 : headP (nextG c) s (k : Int) = true ↔ tails c (k : Int) ≠ [] := (h.fin h0 hc).backs hc h0 hx'
  exact h1.trans (not_congr (loopN_nil (by omega)).symm)
theorem loop_of {c : List Ins} (h0 : 0 < c.length) (hc : Closed c) {h : Nat} (hh : h < c.length) (hn : loopN c (h : Int) ≠ []) : (∀ y ∈ loopN c (h : Int), 0 ≤ y ∧ y < (c.length : Int) ∧ Dom c (h : Int) y) ∧ (loopN c (h : Int)).any (fun y => (nexts c y).contains (h : Int)) = true := by
  have ht : tails c (h : Int) ≠ [] := fun e => hn ((loopN_nil hh).2 e)
  have tl : ∀ t ∈ tails c (h : Int), Cd.Reach c (-1) 0 t ∧ (h : Int) ∈ nexts c t ∧ Dom c (h : Int) t := fun t hm => by
    have h1 := (List.mem_filter.1 hm).2
    rw [Bool.and_eq_true, Bool.and_eq_true, reachedB_iff hc h0, domB_iff hc h0, List.contains_iff_mem] at h1
    exact ⟨h1.1.1, h1.1.2, h1.2⟩
  have lm : ∀ y, y ∈ loopN c (h : Int) ↔ (0 ≤ y ∧ y < (c.length : Int)) ∧ inLoop c (h : Int) y = true := fun y => by
    unfold loopN
    rw [if_neg ht, List.mem_filter, mem_rng]
  obtain ⟨t, htm⟩ := List.exists_mem_of_ne_nil _ ht
  obtain ⟨t1, t2, t3⟩ := tl t htm
  constructor
  · intro y hy
    obtain ⟨h1, h2⟩ := (lm y).1 hy
    refine ⟨h1.1, h1.2, ?_⟩
    unfold inLoop at h2
    rw [Bool.or_eq_true, decide_eq_true_iff, List.any_eq_true] at h2
    rcases h2 with rfl | ⟨u, hu, h3⟩
    · exact Dom.refl t3.ra
    · obtain ⟨u1, u2, u3⟩ := tl u hu
      rw [Bool.and_eq_true, reachedB_iff hc h0, List.contains_iff_mem, without_mem hc h1] at h3
      refine ⟨u3.ra, h3.1, .inr fun hr => ?_⟩
      have h4 := hr.trans h3.2
      rcases u3.all with e | e
      · exact h4.not e.symm
      · exact e h4
  · rw [List.any_eq_true]
    have hti := t1.inside hc (zero_inside h0)
    refine ⟨t, (lm t).2 ⟨hti, ?_⟩, List.contains_iff_mem.2 t2⟩
    unfold inLoop
    rw [Bool.or_eq_true, decide_eq_true_iff, List.any_eq_true]
    by_cases hth : t = (h : Int)
    · exact .inl hth
    · refine .inr ⟨t, htm, ?_⟩
      rw [Bool.and_eq_true, reachedB_iff hc h0, List.contains_iff_mem, without_mem hc hti]
      exact ⟨t1, .start hth⟩
/-- What is true of each head that is told. -/
theorem heads_facts {f : Fnc} {G : List (List Int)} (hG : followG f = G) {s : Dfs} (h : Ended G s) {x : Int} (hx : x ∈ headsOf G s) : RightF f ∧ (0 ≤ x ∧ x < (G.length : Int)) ∧ (loopR G x).length ≤ G.length ∧ (∀ y ∈ loopR G x, 0 ≤ y ∧ y < (f.code.length : Int) ∧ domR G x y = true) ∧ (loopR G x).any (fun y => (nexts f.code y).contains x) = true := by
  have hxr := mem_rng.1 (List.mem_filter.1 hx).1
  subst hG
  unfold followG at *
  by_cases hf : rightF f = true
  · rw [if_pos hf] at *
    have hr := rightF_iff.1 hf
    have hc := closed_of hr
    have h0 := hr.code.1
    rw [headsOf_doc h0 hc h] at hx
    obtain ⟨k, rfl⟩ : ∃ k : Nat, x = (k : Int) := ⟨x.toNat, by omega⟩
    have hk : k < f.code.length := by have := nextG_len f.code; omega
    have h1 := (List.mem_filter.1 hx).2
    rw [decide_eq_true_iff] at h1
    obtain ⟨h2, h3⟩ := loop_of h0 hc hk h1
    rw [loopR_loopN hc h0 hk]
    refine ⟨hr, hxr, ?_, fun y hy => ?_, h3⟩
    · rw [nextG_len]
      unfold loopN
      split
      · exact Nat.zero_le _
      · have := List.length_filter_le (inLoop f.code (k : Int)) ((List.range f.code.length).map Int.ofNat)
        simpa using this
    · obtain ⟨a, b, d⟩ := h2 y hy
      exact ⟨a, b, (domR_dom hc h0 _ _).2 d⟩
  · rw [if_neg hf] at *
    simp at hxr; omega
theorem headsOf_len (G : List (List Int)) (s : Dfs) : (headsOf G s).length ≤ G.length := by
  unfold headsOf
  have := List.length_filter_le (headP G s) ((List.range G.length).map Int.ofNat)
  simpa using this
end Go.Proofs.Ytbpagfddofbjbaa
