/-
  Layer 10: contract of live: ahead of which, and behind which instructions a register is live.
-/
import Derived.Test.YtgnpbodhjmappaaPMD
import Derived.Test.YtgnpbodhjmappaaPLA
import Derived.Deep.CutRange
import Derived.Deep.DeepCutAuto
import Derived.RegionTactic
import Derived.ChangeAlike
import Derived.Deep.RegionWith
import Derived.Test.YtgnpbodhjmappaaPLast
set_option linter.unusedVariables false
set_option linter.unusedSimpArgs false
namespace Go.Proofs.Ytgnpbodhjmappaa
set_option maxRecDepth 100000
open Go.RowKit Cd Go.Maps
open List renaming getElem_toArray → zA, getElem_cons_succ → zB, getElem_cons_zero → zC, setIfInBounds_toArray → zD, set_cons_succ → zE, set_cons_zero → zF
open Classical in
noncomputable def Cd.behB (F : List (List Int)) (st : List Int) (r : Int) (R : List Int) (n : Nat) : List Bool := (List.range n).map (fun p : Nat => decide (∃ x, Path (backG F st r) (-1) R x ∧ (p : Int) ∈ egs F x))
theorem behB_len (F : List (List Int)) (st : List Int) (r : Int) (R : List Int) (n : Nat) : (behB F st r R n).length = n := by simp [behB]
theorem behB_at {F : List (List Int)} {st : List Int} {r : Int} {R : List Int} {n p : Nat} (hp : p < n) : (behB F st r R n)[p]? = some true ↔ ∃ x, Path (backG F st r) (-1) R x ∧ (p : Int) ∈ egs F x := by
  unfold behB
  rw [List.getElem?_map, List.getElem?_range hp]
  simp
theorem behS_behB {F : List (List Int)} {st : List Int} {r : Int} {R : List Int} {n : Nat} {l : List Int} (h : ∀ x, x ∈ l ↔ Path (backG F st r) (-1) R x) : behS n (l.flatMap (egs F)) = behB F st r R n := by
  apply List.ext_getElem?
  intro p
  by_cases hp : p < n
  · have h1 := behS_at (S := l.flatMap (egs F)) hp
    have h2 := behB_at (F := F) (st := st) (r := r) (R := R) hp
    obtain ⟨b, hb⟩ : ∃ b, (behB F st r R n)[p]? = some b := ⟨_, List.getElem?_eq_getElem (by rw [behB_len]; exact hp)⟩
    rw [h1, hb]
    rw [hb] at h2
    congr 1
    rw [Bool.eq_iff_iff, List.contains_iff_mem, List.mem_flatMap]
    constructor
    · rintro ⟨x, q1, q2⟩
      exact Option.some.inj (h2.2 ⟨x, (h x).1 q1, q2⟩)
    · rintro rfl
      obtain ⟨x, q1, q2⟩ := h2.1 rfl
      exact ⟨x, (h x).2 q1, q2⟩
  · rw [List.getElem?_eq_none (by rw [behS_len]; omega), List.getElem?_eq_none (by rw [behB_len]; omega)]
theorem backG_len (F : List (List Int)) (st : List Int) (r : Int) : (backG F st r).length = F.length := by simp [backG]
theorem backG_in {F : List (List Int)} (h : GIn F) (st : List Int) (r : Int) : GIn (backG F st r) := by
  intro l hl y hy
  rw [backG_len]
  unfold backG at hl
  obtain ⟨l0, h1, rfl⟩ := List.mem_map.1 hl
  exact h l0 h1 y (List.mem_filter.1 hy).1
theorem step_x (M N : Nat) (F : List (List Int)) (st : List Int) (r : Int) (ga sa : Option Addr) (gc sc : Nat) (vr vp vg : Value) (hst : st.length = F.length) (hGI : GIn F) (hr : ∀ l ∈ F, l.length ≤ 100000) (hF : F.length ≤ 10000) (hN : M + 3 < N)
    (l : List Int) (s : FS) (x : Nat) (w1 : World) (hS : SSt N s w1) (hL : LSt M M (M + 1 + 1) (M + 1) (M + 1 + 1 + 1) F st r ga sa gc sc vr vp vg (l.flatMap (egs F)) w1) (hx : x < F.length) (hs1 : s.1.length = F.length) (hs2 : lacks s.1 + s.2.length ≤ 100000) (hNw : N + 2 < w1.heap.size) :
    Calls Try.prog 89 #[.int .i64 (x : Int), .func (.func 87) #[] #[.pointer (some ⟨N + 1, 0, none⟩), .pointer (some ⟨N + 1 + 1, 0, none⟩)], .pointer (some ⟨M, 0, none⟩), .pointer (some ⟨M + 1 + 1, 0, none⟩), .pointer (some ⟨M + 1, 0, none⟩)] w1 fun e w2 => e = .returned (.tuple #[]) ∧ SSt N (seeL (-1) s (egs (backG F st r) (x : Int))) w2 ∧ LSt M M (M + 1 + 1) (M + 1) (M + 1 + 1 + 1) F st r ga sa gc sc vr vp vg ((l ++ [(x : Int)]).flatMap (egs F)) w2 ∧ Below M w1 w2 := by
  have h := step_c M M (M + 1 + 1) (M + 1) (M + 1 + 1 + 1) N F st r ga sa gc sc vr vp vg (l.flatMap (egs F)) s x w1 hst hGI hr ⟨by omega, by omega, by omega, by omega⟩ ⟨by omega, by omega, by omega, by omega⟩ ⟨by omega, by omega, by omega⟩ hx hs1 hs2 hF hNw hS hL
  rw [egs_backG, List.flatMap_append]
  simpa using h
def LivePost (A Bh : List Bool) (n : Nat) (w : World) (e : Ending) (w' : World) : Prop :=
  ∃ b1 b2, e = .returned (.tuple #[.slice (some ⟨b1, 0, none⟩) n n, .slice (some ⟨b2, 0, none⟩) n n]) ∧ w.heap.size ≤ b1 ∧ w.heap.size ≤ b2 ∧ VRow w' b1 4 (bools A) ∧ VRow w' b2 4 (bools Bh) ∧ Below w.heap.size w w'
set_option maxHeartbeats 8000000 in
theorem live_c (B n : Nat) (F : List (List Int)) (st : List Int) (gone : List Bool) (Rd Pu : Int → List Int) (rk pk : List Int) (ga sa oa : Option Addr) (gc sc oc rm pm : Nat) (r : Int) (w : World) (hU : UsAt w B n F st gone Rd Pu rk pk ga sa oa rm pm) (hO : UsOk n F st gone Rd Pu) (hB : B ≤ w.heap.size) (hr : (Lit.int .i64 r).wf = true) :
    Calls Try.prog 66 #[usV ga n gc sa n sc rm pm oa n oc, .int .i64 r] w (LivePost (foundB (backG F st r) (rdr gone (Rd r)) (-1)) (behB F st r (rdr gone (Rd r)) n) n w) := by
  have hmix : Try.prog.follows .mixedOrders = true := by kernel_rfl
  have hn := hO.nl
  have hmk := make_bools n (by omega)
  have n0 : (0 : Int) ≤ (n : Int) := Int.natCast_nonneg _
  have HU := Lib.hid (hU.mono hB (Nat.le_refl _)); have HO := Lib.hid hO; have HR := Lib.hid hr
  have HB4 : Hid (Below w.heap.size w ((((w.alloc (usO ga n gc sa n sc rm pm oa n oc)).alloc (.cells #[.int .i64 r] 3)).alloc (.cells #[.slice (some ⟨w.heap.size + 1 + 1 + 1, 0, none⟩) n n] 55)).alloc (bObj (List.replicate n false)))) := Lib.hid (((((Below.refl w.heap.size w).alloc (Nat.le_refl _) _).alloc (by simp) _).alloc (by simp <;> omega) _).alloc (by simp <;> omega) _)
  have hs4 : ((((w.alloc (usO ga n gc sa n sc rm pm oa n oc)).alloc (.cells #[.int .i64 r] 3)).alloc (.cells #[.slice (some ⟨w.heap.size + 1 + 1 + 1, 0, none⟩) n n] 55)).alloc (bObj (List.replicate n false))).heap.size = w.heap.size + 4 := by simp
  have HKP : Hid (∀ w5, Below ((((w.alloc (usO ga n gc sa n sc rm pm oa n oc)).alloc (.cells #[.int .i64 r] 3)).alloc (.cells #[.slice (some ⟨w.heap.size + 1 + 1 + 1, 0, none⟩) n n] 55)).alloc (bObj (List.replicate n false))).drew.heap.size ((((w.alloc (usO ga n gc sa n sc rm pm oa n oc)).alloc (.cells #[.int .i64 r] 3)).alloc (.cells #[.slice (some ⟨w.heap.size + 1 + 1 + 1, 0, none⟩) n n] 55)).alloc (bObj (List.replicate n false))).drew w5 → (∀ g, g < w.heap.size + 4 → w5.heap[g]? = ((((w.alloc (usO ga n gc sa n sc rm pm oa n oc)).alloc (.cells #[.int .i64 r] 3)).alloc (.cells #[.slice (some ⟨w.heap.size + 1 + 1 + 1, 0, none⟩) n n] 55)).alloc (bObj (List.replicate n false))).heap[g]?) ∧ w.heap.size + 4 ≤ w5.heap.size ∧ ((((w.alloc (usO ga n gc sa n sc rm pm oa n oc)).alloc (.cells #[.int .i64 r] 3)).alloc (.cells #[.slice (some ⟨w.heap.size + 1 + 1 + 1, 0, none⟩) n n] 55)).alloc (bObj (List.replicate n false))).heap.size ≤ w5.heap.size) := Lib.hid (fun w5 h => by
    have h1 : ((((w.alloc (usO ga n gc sa n sc rm pm oa n oc)).alloc (.cells #[.int .i64 r] 3)).alloc (.cells #[.slice (some ⟨w.heap.size + 1 + 1 + 1, 0, none⟩) n n] 55)).alloc (bObj (List.replicate n false))).drew.heap.size = w.heap.size + 4 := hs4
    refine ⟨fun g hg => h.block g (by omega), by have := h.size; omega, by have := h.size; omega⟩)
  have HGL : Hid ((backG F st r).length = n) := Lib.hid (by rw [backG_len]; exact hO.fl)
  have HGI : Hid (GIn (backG F st r)) := Lib.hid (backG_in hO.gin st r)
  have HFI : Hid (∀ x ∈ rdr gone (Rd r), 0 ≤ x ∧ x < ((backG F st r).length : Int)) := Lib.hid (fun x hx => by rw [backG_len, hO.fl]; exact (hO.rd r).2 x (List.mem_filter.1 hx).1)
  have HFL : Hid ((rdr gone (Rd r)).length ≤ 100000) := Lib.hid (Nat.le_trans (rdr_len _ _) (hO.rd r).1)
  have HSTEP : Hid (∀ N, w.heap.size + 3 < N → ∀ (l : List Int) (s : FS) (x : Nat) (w1 : World), SSt N s w1 → LSt w.heap.size w.heap.size (w.heap.size + 1 + 1) (w.heap.size + 1) (w.heap.size + 1 + 1 + 1) F st r ga sa gc sc (.map (some rm)) (.map (some pm)) (.slice oa n oc) (l.flatMap (egs F)) w1 → x < n → s.1.length = n → lacks s.1 + s.2.length ≤ 100000 → N + 2 < w1.heap.size → Calls Try.prog 89 #[.int .i64 (x : Int), .func (.func 87) #[] #[.pointer (some ⟨N + 1, 0, none⟩), .pointer (some ⟨N + 1 + 1, 0, none⟩)], .pointer (some ⟨w.heap.size, 0, none⟩), .pointer (some ⟨w.heap.size + 1 + 1, 0, none⟩), .pointer (some ⟨w.heap.size + 1, 0, none⟩)] w1 fun e w2 => e = .returned (.tuple #[]) ∧ SSt N (seeL (-1) s (egs (backG F st r) (x : Int))) w2 ∧ LSt w.heap.size w.heap.size (w.heap.size + 1 + 1) (w.heap.size + 1) (w.heap.size + 1 + 1 + 1) F st r ga sa gc sc (.map (some rm)) (.map (some pm)) (.slice oa n oc) ((l ++ [(x : Int)]).flatMap (egs F)) w2 ∧ Below w.heap.size w1 w2) :=
    Lib.hid (fun N hN l s x w1 h1 h2 h3 h4 h5 h6 => step_x w.heap.size N F st r ga sa gc sc _ _ _ (by rw [hO.sl, hO.fl]) hO.gin hO.rows (by have := hO.fl; omega) hN l s x w1 h1 h2 (by rw [hO.fl]; exact h3) (by rw [hO.fl]; exact h4) h5 h6)
  have HBEH : Hid (∀ l : List Int, (∀ x, x ∈ l ↔ Path (backG F st r) (-1) (rdr gone (Rd r)) x) → behS F.length (l.flatMap (egs F)) = behB F st r (rdr gone (Rd r)) n) := Lib.hid (fun l h => by rw [hO.fl]; exact behS_behB h)
  have HL4 : Hid (LSt w.heap.size w.heap.size (w.heap.size + 1 + 1) (w.heap.size + 1) (w.heap.size + 1 + 1 + 1) F st r ga sa gc sc (.map (some rm)) (.map (some pm)) (.slice oa n oc) (([] : List Int).flatMap (egs F)) ((((w.alloc (usO ga n gc sa n sc rm pm oa n oc)).alloc (.cells #[.int .i64 r] 3)).alloc (.cells #[.slice (some ⟨w.heap.size + 1 + 1 + 1, 0, none⟩) n n] 55)).alloc (bObj (List.replicate n false)))) := by
    refine Lib.hid ⟨?_, ?_, ?_, ?_, HU.out.rows.below HB4.out, HU.out.sets.below HB4.out⟩
    · rw [hO.fl, hO.sl]
      exact (Below.heap_alloc _ _ _ (by simp <;> omega)).trans ((Below.heap_alloc _ _ _ (by simp <;> omega)).trans ((Below.heap_alloc _ _ _ (by simp)).trans (heap_alloc_new w _)))
    · rw [hO.fl]
      have := heap_alloc_new ((w.alloc (usO ga n gc sa n sc rm pm oa n oc)).alloc (.cells #[.int .i64 r] 3)) (.cells #[.slice (some ⟨w.heap.size + 1 + 1 + 1, 0, none⟩) n n] 55)
      simp only [World.size_alloc] at this
      exact (Below.heap_alloc _ _ _ (by simp <;> omega)).trans this
    · have := heap_alloc_new (w.alloc (usO ga n gc sa n sc rm pm oa n oc)) (.cells #[.int .i64 r] 3)
      rw [World.size_alloc] at this
      exact (Below.heap_alloc _ _ _ (by simp <;> omega)).trans ((Below.heap_alloc _ _ _ (by simp <;> omega)).trans this)
    · have := heap_alloc_new (((w.alloc (usO ga n gc sa n sc rm pm oa n oc)).alloc (.cells #[.int .i64 r] 3)).alloc (.cells #[.slice (some ⟨w.heap.size + 1 + 1 + 1, 0, none⟩) n n] 55)) (bObj (List.replicate n false))
      simp only [World.size_alloc] at this
      rw [hO.fl]
      show VRow _ _ _ (bools (behS n []))
      rw [behS_nil]
      exact this
  have hc0 : ((((w.alloc (usO ga n gc sa n sc rm pm oa n oc)).alloc (.cells #[.int .i64 r] 3)).alloc (.cells #[.slice (some ⟨w.heap.size + 1 + 1 + 1, 0, none⟩) n n] 55)).alloc (bObj (List.replicate n false))).heap[w.heap.size]? = some (usO ga n gc sa n sc rm pm oa n oc) := (Below.heap_alloc _ _ _ (by simp <;> omega)).trans ((Below.heap_alloc _ _ _ (by simp <;> omega)).trans ((Below.heap_alloc _ _ _ (by simp)).trans (heap_alloc_new w _)))
  have hc1 : ((((w.alloc (usO ga n gc sa n sc rm pm oa n oc)).alloc (.cells #[.int .i64 r] 3)).alloc (.cells #[.slice (some ⟨w.heap.size + 1 + 1 + 1, 0, none⟩) n n] 55)).alloc (bObj (List.replicate n false))).cell? ⟨w.heap.size + 1, 0, none⟩ = some (.int .i64 r) := by rw [cell_of_row _ _ 0 _ _ _ HL4.out.rbox]; rfl
  obtain ⟨u0, u1, u2, u3, u4⟩ := nv5 hc0
  have HC0 := Lib.hid hc0
  clear hU hO hr hc0
  go_enter Try.func66, Try.ntmps66
  go_upto_region 2 with fail
  go_cut [4] from 6 to 17 (fun s4 wc => ∃ b1, s4 = .slice (some ⟨b1, 0, none⟩) n n ∧ w.heap.size + 4 ≤ b1 ∧ Hid (VRow wc b1 4 (bools (foundB (backG F st r) (rdr gone (Rd r)) (-1)))) ∧ Hid (VRow wc (w.heap.size + 1 + 1 + 1) 4 (bools (behB F st r (rdr gone (Rd r)) n))) ∧ Hid (wc.heap[w.heap.size + 1 + 1]? = some (.cells #[.slice (some ⟨w.heap.size + 1 + 1 + 1, 0, none⟩) F.length F.length] 55)) ∧ Hid (Below w.heap.size w wc))
  case first =>
    refine region_last (fun W : World => W.cell? ⟨w.heap.size, 0, none⟩ = some (.slice ga n gc) ∧ W.cell? ⟨w.heap.size, 1, none⟩ = some (.slice sa n sc) ∧ W.cell? ⟨w.heap.size, 2, none⟩ = some (.map (some rm)) ∧ W.cell? ⟨w.heap.size, 3, none⟩ = some (.map (some pm)) ∧ W.cell? ⟨w.heap.size, 4, none⟩ = some (.slice oa n oc) ∧ W.cell? ⟨w.heap.size + 1, 0, none⟩ = some (.int .i64 r)) 1000000 hmix ?_
    have hS : (fun W : World => W.cell? ⟨w.heap.size, 0, none⟩ = some (.slice ga n gc) ∧ W.cell? ⟨w.heap.size, 1, none⟩ = some (.slice sa n sc) ∧ W.cell? ⟨w.heap.size, 2, none⟩ = some (.map (some rm)) ∧ W.cell? ⟨w.heap.size, 3, none⟩ = some (.map (some pm)) ∧ W.cell? ⟨w.heap.size, 4, none⟩ = some (.slice oa n oc) ∧ W.cell? ⟨w.heap.size + 1, 0, none⟩ = some (.int .i64 r)) _ := ⟨u0, u1, u2, u3, u4, hc1⟩
    refine anyL_takeH (i := 0) (v := ?_) rfl (by decide) (by kernel_rfl) (by kernel_rfl) (by kernel_rfl) (fun _ _ _ h => h) (Or.inl ⟨by rfl, ?_⟩) hS ?_
    rotate_left
    · (intro w' hSw; obtain ⟨s1, s2, s3, s4, s5, s6⟩ := hSw; go_simp; first | done | with_reducible rfl)
    simp only [Act.put, zA, zB, zC, zD, zE, zF]
    refine anyL_takeH (i := 1) (v := ?_) rfl (by decide) (by kernel_rfl) (by kernel_rfl) (by kernel_rfl) (fun _ _ _ h => h) (Or.inl ⟨by rfl, ?_⟩) hS ?_
    rotate_left
    · (intro w' hSw; obtain ⟨s1, s2, s3, s4, s5, s6⟩ := hSw; go_simp; first | done | with_reducible rfl)
    simp only [Act.put, zA, zB, zC, zD, zE, zF]
    refine anyL_takeH (i := 2) (v := ?_) rfl (by decide) (by kernel_rfl) (by kernel_rfl) (by kernel_rfl) (fun _ _ _ h => h) (Or.inl ⟨by rfl, ?_⟩) hS ?_
    rotate_left
    · (intro w' hSw; obtain ⟨s1, s2, s3, s4, s5, s6⟩ := hSw; go_simp; first | done | with_reducible rfl)
    simp only [Act.put, zA, zB, zC, zD, zE, zF]
    refine anyL_takeH (i := 3) (v := ?_) rfl (by decide) (by kernel_rfl) (by kernel_rfl) (by kernel_rfl) (fun _ _ _ h => h) (Or.inl ⟨by rfl, ?_⟩) hS ?_
    rotate_left
    · (intro w' hSw; obtain ⟨s1, s2, s3, s4, s5, s6⟩ := hSw; go_simp; first | done | with_reducible rfl)
    simp only [Act.put, zA, zB, zC, zD, zE, zF]
    refine anyL_takeH (i := 4) (v := ?_) rfl (by decide) (by kernel_rfl) (by kernel_rfl) (by kernel_rfl) (fun _ _ _ h => h) (Or.inl ⟨by rfl, ?_⟩) hS ?_
    rotate_left
    · (intro w' hSw; obtain ⟨s1, s2, s3, s4, s5, s6⟩ := hSw; go_simp; first | done | with_reducible rfl)
    simp only [Act.put, zA, zB, zC, zD, zE, zF]
    refine anyL_takeH (i := 6) (v := ?_) rfl (by decide) (by kernel_rfl) (by kernel_rfl) (by kernel_rfl) (fun _ _ _ h => h) (Or.inl ⟨by rfl, ?_⟩) hS ?_
    rotate_left
    · (intro w' hSw; obtain ⟨s1, s2, s3, s4, s5, s6⟩ := hSw; go_simp; first | done | with_reducible rfl)
    simp only [Act.put, zA, zB, zC, zD, zE, zF]
    refine anyL_one (i := 5) (by kernel_rfl) rfl (fun K1 hK1 => ?_)
    go_simp
    refine (readers_c w.heap.size n F st gone Rd Pu rk pk ga sa oa gc sc oc rm pm r _ (HU.out.below (drW HB4.out)) HO.out (drW HB4.out).size HR.out).mono ?_
    rintro e w5 ⟨v, rfl, ho5, hb5⟩
    obtain ⟨a5, c5, rfl⟩ := row_slice ho5
    have HR5 := Lib.hid (LiesIn.row (LiesIn.of_own ho5))
    have HB5 := Lib.hid ((drW HB4.out).trans (hb5.mono HB4.out.size))
    obtain ⟨hkp, hw5, hsz5⟩ := HKP.out w5 hb5
    have HL5 := Lib.hid (LSt.keep HL4.out (N := w.heap.size + 4) (w' := w5) (by omega) (by omega) (by omega) (by omega) (by omega) hkp hsz5)
    have hc5 := (hkp w.heap.size (by omega)).trans HC0.out
    obtain ⟨z0, z1, z2, z3, z4⟩ := nv5 hc5
    have hr5 : w5.cell? ⟨w.heap.size + 1, 0, none⟩ = some (.int .i64 r) := (World.cell?_of_block (hkp (w.heap.size + 1) (by omega))).trans hc1
    clear hkp hsz5 hc5
    clear ho5 hb5
    have hS5 : (fun W : World => W.cell? ⟨w.heap.size, 0, none⟩ = some (.slice ga n gc) ∧ W.cell? ⟨w.heap.size, 1, none⟩ = some (.slice sa n sc) ∧ W.cell? ⟨w.heap.size, 2, none⟩ = some (.map (some rm)) ∧ W.cell? ⟨w.heap.size, 3, none⟩ = some (.map (some pm)) ∧ W.cell? ⟨w.heap.size, 4, none⟩ = some (.slice oa n oc) ∧ W.cell? ⟨w.heap.size + 1, 0, none⟩ = some (.int .i64 r)) w5 := ⟨z0, z1, z2, z3, z4, hr5⟩
    refine hK1.out _ _ (fun _ => hS5) ?_
    clear hK1 K1 hS
    have hS := hS5
    clear hS5
    refine anyL_one (i := 7) (by kernel_rfl) rfl (fun K1 hK1 => ?_)
    go_simp
    refine (search_live (backG F st r) n (rdr gone (Rd r)) a5 c5 (.pointer (some ⟨w.heap.size, 0, none⟩)) (.pointer (some ⟨w.heap.size + 1 + 1, 0, none⟩)) (.pointer (some ⟨w.heap.size + 1, 0, none⟩)) w.heap.size (fun l W => LSt w.heap.size w.heap.size (w.heap.size + 1 + 1) (w.heap.size + 1) (w.heap.size + 1 + 1 + 1) F st r ga sa gc sc (.map (some rm)) (.map (some pm)) (.slice oa n oc) (l.flatMap (egs F)) W) w5 HGL.out HGI.out HR5.out HFI.out HFL.out hn HB5.out.size HL5.out (fun l w1 w2 q1 q2 q3 => LSt.keep q1 (N := w5.heap.size) HB5.out.size (by omega) (by omega) (by omega) (by omega) q2 q3) (HSTEP.out w5.heap.size (by omega))).mono ?_
    rintro e w6 ⟨l, rfl, hA, hl, hX, hb6⟩
    have HA := Lib.hid hA
    have HBH := Lib.hid (HBEH.out l hl ▸ hX.brow)
    have HHB := Lib.hid hX.hbox
    have HB6 := Lib.hid (HB5.out.trans hb6)
    have hub6 := hX.ubox
    rw [HO.out.fl, HO.out.sl] at hub6
    have hr6 : w6.cell? ⟨w.heap.size + 1, 0, none⟩ = some (.int .i64 r) := by rw [cell_of_row w6 _ 0 _ _ _ hX.rbox]; rfl
    clear hA hl hX hb6
    obtain ⟨t0, t1, t2, t3, t4⟩ := nv5 hub6
    have hS6 : (fun W : World => W.cell? ⟨w.heap.size, 0, none⟩ = some (.slice ga n gc) ∧ W.cell? ⟨w.heap.size, 1, none⟩ = some (.slice sa n sc) ∧ W.cell? ⟨w.heap.size, 2, none⟩ = some (.map (some rm)) ∧ W.cell? ⟨w.heap.size, 3, none⟩ = some (.map (some pm)) ∧ W.cell? ⟨w.heap.size, 4, none⟩ = some (.slice oa n oc) ∧ W.cell? ⟨w.heap.size + 1, 0, none⟩ = some (.int .i64 r)) w6 := ⟨t0, t1, t2, t3, t4, hr6⟩
    refine hK1.out _ _ (fun _ => hS6) ?_
    clear hK1 K1 hS
    have hS := hS6
    clear hS6
    refine anyL_one (i := 8) (by kernel_rfl) rfl (fun K1 hK1 => ?_)
    go_simp
    refine hK1.out _ _ (fun _ => hS) ?_
    clear hK1 K1
    refine anyL_done (by kernel_rfl) ?_ _
    go_wp2
    go_meet
    case rel => exact ⟨_, rfl, hw5, HA, HBH, HHB, HB6⟩
  case rest =>
    obtain ⟨b1, rfl, hb1, HA, HBH, HHB, HBC⟩ := hcut
    rw [HO.out.fl] at HHB
    have ch : wc.cell? ⟨w.heap.size + 1 + 1, 0, none⟩ = some (.slice (some ⟨w.heap.size + 1 + 1 + 1, 0, none⟩) n n) := by rw [cell_of_row wc _ 0 _ _ _ HHB.out]; rfl
    have fh : wc.frozen? ⟨w.heap.size + 1 + 1, 0, none⟩ = false := by simp [World.frozen?, (show wc.heap[w.heap.size + 1 + 1]? = _ from HHB.out)]
    have hzl := lt_heap HHB.out
    clear u0 u1 u2 u3 u4 hc1
    go_wp2
    go_region_with fail
    have hV0 := cells_set HHB.out 0 (.slice (some ⟨w.heap.size + 1 + 1 + 1, 0, none⟩) n n)
    have cV : (wc.setCell ⟨w.heap.size + 1 + 1, 0, none⟩ (.slice (some ⟨w.heap.size + 1 + 1 + 1, 0, none⟩) n n)).drew.cell? ⟨w.heap.size + 1 + 1, 0, none⟩ = some (.slice (some ⟨w.heap.size + 1 + 1 + 1, 0, none⟩) n n) := by
      rw [cell_of_row (wc.setCell ⟨w.heap.size + 1 + 1, 0, none⟩ (.slice (some ⟨w.heap.size + 1 + 1 + 1, 0, none⟩) n n)).drew _ 0 _ _ _ hV0]; rfl
    have HAV : Hid (VRow (wc.setCell ⟨w.heap.size + 1 + 1, 0, none⟩ (.slice (some ⟨w.heap.size + 1 + 1 + 1, 0, none⟩) n n)).drew b1 4 (bools (foundB (backG F st r) (rdr gone (Rd r)) (-1)))) := Lib.hid (VRow.keep HA.out (Below.heap_setCell _ _ _ _ (by simp; omega)))
    have HBV : Hid (VRow (wc.setCell ⟨w.heap.size + 1 + 1, 0, none⟩ (.slice (some ⟨w.heap.size + 1 + 1 + 1, 0, none⟩) n n)).drew (w.heap.size + 1 + 1 + 1) 4 (bools (behB F st r (rdr gone (Rd r)) n))) := Lib.hid (VRow.keep HBH.out (Below.heap_setCell _ _ _ _ (by simp)))
    have HCV : Hid (Below w.heap.size w (wc.setCell ⟨w.heap.size + 1 + 1, 0, none⟩ (.slice (some ⟨w.heap.size + 1 + 1 + 1, 0, none⟩) n n)).drew) := Lib.hid (drW (HBC.out.setCell (show w.heap.size ≤ w.heap.size + 1 + 1 by omega) _))
    clear hV0
    go_wp2
    refine bodyPost_ret (v := .tuple #[.slice (some ⟨b1, 0, none⟩) n n, .slice (some ⟨w.heap.size + 1 + 1 + 1, 0, none⟩) n n]) (by simp [results, Try.results66, go_sem, cV]) rfl ⟨b1, w.heap.size + 1 + 1 + 1, rfl, by omega, by omega, HAV.out, HBV.out, HCV.out⟩
end Go.Proofs.Ytgnpbodhjmappaa
namespace Go.Proofs.Ytgnpbodhjmappaa
set_option maxRecDepth 100000
open Go.RowKit Cd Go.Maps
def Cd.deadL (gone bh : List Bool) (l : List Int) : List Int := l.filter (fun x => !gone.getD x.toNat false && !bh.getD x.toNat false)
theorem deadL_more {gone bh : List Bool} {l : List Int} {k : Nat} {x : Int} (h : l[k]? = some x) : deadL gone bh (l.take (k + 1)) = deadL gone bh (l.take k) ++ (if gone.getD x.toNat false = false ∧ bh.getD x.toNat false = false then [x] else []) := by
  unfold deadL
  rw [take_more h, List.filter_append]
  congr 1
  cases hg : gone.getD x.toNat false <;> cases hb : bh.getD x.toNat false <;> simp [List.filter_cons, hg, hb] <;> simp_all
set_option maxHeartbeats 4000000 in
theorem dead_c (B n : Nat) (F : List (List Int)) (st : List Int) (gone : List Bool) (Rd Pu : Int → List Int) (rk pk : List Int) (ga sa oa : Option Addr) (gc sc oc rm pm : Nat) (r : Int) (w : World) (hU : UsAt w B n F st gone Rd Pu rk pk ga sa oa rm pm) (hO : UsOk n F st gone Rd Pu) (hB : B ≤ w.heap.size) (hr : (Lit.int .i64 r).wf = true) :
    Calls Try.prog 41 #[usV ga n gc sa n sc rm pm oa n oc, .int .i64 r] w (ListPost (deadL gone (behB F st r (rdr gone (Rd r)) n) (Pu r)) w) := by
  obtain ⟨i0, hi0, hz0, hz1, hz2⟩ := info_parts infoInt
  have HB0 := Lib.hid ((Below.refl w.heap.size w).alloc (Nat.le_refl _) (usO ga n gc sa n sc rm pm oa n oc))
  have HX := Lib.hid (heap_alloc_new w (usO ga n gc sa n sc rm pm oa n oc))
  have HU0 := Lib.hid ((hU.mono hB (Nat.le_refl _)).below HB0.out)
  have HO := Lib.hid hO; have HR := Lib.hid hr
  obtain ⟨c0, c1, c2, c3, c4⟩ := nv5 HX.out
  obtain ⟨hl1, hl2⟩ := hO.pu r
  have hgl := hO.gl
  have hn0 := hO.nl
  have HL2 := Lib.hid hl2; have HL1 := Lib.hid hl1
  obtain ⟨bh, hbh⟩ : ∃ bh, behB F st r (rdr gone (Rd r)) n = bh := ⟨_, rfl⟩
  have hbl : bh.length = n := by rw [← hbh, behB_len]
  rw [hbh]
  have HBE := Lib.hid hbh
  clear hU hO hr hl2 hl1 hbh
  go_enter Try.func41, Try.ntmps41
  go_upto_region 3 with ((with_reducible refine (live_c w.heap.size n F st gone Rd Pu rk pk ga sa oa gc sc oc rm pm r _ HU0.out HO.out HB0.out.size HR.out).mono ?_); rintro e w1 ⟨b1, b2, rfl, hb1, hb2, ha, hbb, hbw⟩; have HBB := Lib.hid hbb; have HW1 := Lib.hid (hbw.mono (show w.heap.size ≤ (w.alloc (usO ga n gc sa n sc rm pm oa n oc)).heap.size by simp)); have HB1 := Lib.hid (HB0.out.trans (hbw.mono HB0.out.size)); have HX1 := Lib.hid ((hbw.block w.heap.size (by simp)).trans HX.out); have hb2s : w.heap.size + 1 ≤ b2 := (by simpa using hb2); clear ha hbb hbw hb1 hb2 c0 c1 c2 c3 c4)
  rw [HBE.out] at HBB
  have HU1 := Lib.hid ((HU0.out.below HW1.out))
  obtain ⟨la, lc, hrun, hrow⟩ := HU1.out.pure.look HR.out
  obtain ⟨l, hl⟩ : ∃ l, Pu r = l := ⟨_, rfl⟩
  rw [hl] at HL1 HL2 hrun hrow ⊢
  have HROW := Lib.hid hrow; have HRUN := Lib.hid hrun; have HPL := Lib.hid hl
  have hl1 := HL1.out
  clear hrow hl hrun
  obtain ⟨c0, c1, c2, c3, c4⟩ := nv5 HX1.out
  go_wp2_with (at_lookup; refine wpList_lookup_run rfl _ _ _ rfl _ _ _ rfl rfl HRUN.out ?_)
  have hs1 : w.heap.size ≤ w1.heap.size := HB1.out.size
  have hzb := HBB.out.lt
  have hzx := lt_heap HX1.out
  go_loopw [7, 21] (fun s7 s21 wr => ∃ (k : Nat) (o : List Int), k ≤ l.length ∧ s21 = .int .i64 (k : Int) ∧ Hid (deadL gone bh (l.take k) = o) ∧ o.length ≤ k ∧ Hid (wr.ownsRow w1.heap.size 3 1 s7 o.length (ints o)) ∧ Hid (Below w1.heap.size w1 wr)) (fun _ s21 wr => l.length - (intOf s21).toNat)
  case atStart => exact ⟨0, [], by omega, rfl, Lib.hid rfl, by simp, Lib.hid (World.ownsRow_nil _ _ _ _), Lib.hid (Below.refl _ _)⟩
  case round =>
    obtain ⟨k, o, hk, rfl, HE, hok, HOW, HB⟩ := hrel
    obtain ⟨a7, c7, rfl⟩ := row_slice HOW.out
    have k0 : (0 : Int) ≤ (k : Int) := Int.natCast_nonneg _
    have hsr := HB.out.size
    have HW := Lib.hid ((HB.out.block w.heap.size hzx).trans HX1.out)
    by_cases hlt : k < l.length
    · have k1 : (k : Int) < (l.length : Int) := by omega
      obtain ⟨x, hx⟩ : ∃ x, l[k]? = some x := ⟨_, List.getElem?_eq_getElem hlt⟩
      obtain ⟨b, off, rfl, hb9, hbw9, hc⟩ := IntsAt.cellsB (HROW.out.below (HB.out.mono hs1)) hx
      have hxin := HL2.out x (List.mem_of_getElem? hx)
      obtain ⟨j, rfl⟩ : ∃ j : Nat, x = (j : Int) := ⟨x.toNat, by omega⟩
      obtain ⟨ob, ooff, rfl, hob, hoc⟩ := bool_cell (k := j) ((HU1.out.below (HB.out.mono hs1)).gone) (by omega)
      have hbc : wr.cell? ⟨b2, j, none⟩ = some (.bool (bh.getD j false)) := (HB.out.cell (p := ⟨b2, j, none⟩) hzb).trans (HBB.out.cell (by unfold bools; rw [List.getElem?_map, List.getD_eq_getElem?_getD, List.getElem?_eq_getElem (show j < bh.length by omega)]; rfl))
      clear c0 c1 c2 c3 c4
      obtain ⟨d0, d1, d2, d3, d4⟩ := nv5 HW.out
      have hm := deadL_more (gone := gone) (bh := bh) hx
      rw [Int.toNat_natCast] at hm
      have j0 : (0 : Int) ≤ (j : Int) := Int.natCast_nonneg _
      have j1 : (j : Int) < (n : Int) := hxin.2
      have HLT := Lib.hid hlt
      obtain ⟨gv, hgv⟩ : ∃ gv, gone.getD j false = gv := ⟨_, rfl⟩
      obtain ⟨bv, hbv⟩ : ∃ bv, bh.getD j false = bv := ⟨_, rfl⟩
      rw [hgv] at hoc hm
      rw [hbv] at hbc hm
      clear hx hlt hgv hbv
      cases gv with
      | true =>
        have HM : Hid (deadL gone bh (l.take (k + 1)) = o) := Lib.hid (by rw [hm, if_neg (by simp), HE.out]; simp)
        clear hm
        go_wp2
        go_roundw
        case rel => exact ⟨k + 1, o, HLT.out, by go_num, HM, by omega, HOW, HB⟩
        case measure => have := HLT.out; simp [intOf]; omega
      | false =>
        cases bv with
        | true =>
          have HM : Hid (deadL gone bh (l.take (k + 1)) = o) := Lib.hid (by rw [hm, if_neg (by simp), HE.out]; simp)
          clear hm
          go_wp2
          go_roundw
          case rel => exact ⟨k + 1, o, HLT.out, by go_num, HM, by omega, HOW, HB⟩
          case measure => have := HLT.out; simp [intOf]; omega
        | false =>
          have HM : Hid (deadL gone bh (l.take (k + 1)) = o ++ [(j : Int)]) := Lib.hid (by rw [hm, if_pos ⟨rfl, rfl⟩, HE.out])
          clear hm
          go_wp2_with (at_builtin; go_loud (refine wpList_append_lies _ rfl (.tmp 38) (.tmp 40) 30 rfl w1.heap.size 3 i0 (.int .i64 0) 1 8 Try.underlying30 hi0 hz0 hz1 hz2 rfl (by decide) (.slice a7 o.length c7) o.length (ints o) rfl (HOW.out.alloc _) _ 1 1 [.int .i64 (j : Int)] rfl rfl (cell_new1 _ _ _ _ (by simp)) (by simp [Value.oneCell']) (by omega) (by unfold maxLen; omega) (by omega) (by simp <;> omega) (wr.heap.size + 1) (by simp) ?_; intro g9 cap9 w5 hown hgrow hat hlt9; have HO5 := Lib.hid hown; have HB5 := Lib.hid ((HB.out.alloc (by omega) _).grown hgrow (by simp <;> omega) (fun q e => by have := (HOW.out.lt q e).1; omega)); clear hown hgrow hat hlt9))
          go_roundw
          case rel => exact ⟨k + 1, o ++ [(j : Int)], HLT.out, by go_num, HM, by simp; omega, Lib.hid (by simpa using HO5.out), HB5⟩
          case measure => have := HLT.out; simp [intOf]; omega
    · obtain rfl : k = l.length := by omega
      have HE2 := HE.out
      rw [List.take_length] at HE2
      go_wp2
      go_ret
      refine ⟨_, rfl, ?_, HB1.out.trans (HB.out.mono hs1)⟩
      have e1 : deadL gone bh (Pu r) = o := by rw [HPL.out]; exact HE2
      first
        | (rw [e1]; exact ownsRow_le HOW.out hs1)
        | (rw [HBE.out, e1]; exact ownsRow_le HOW.out hs1)
        | (rw [HE2]; exact ownsRow_le HOW.out hs1)
end Go.Proofs.Ytgnpbodhjmappaa
