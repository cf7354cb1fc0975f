/-
  Contract of doppellaw10's Does, of units that do the same.
-/
import Derived.Test.YtgnpbodhjmappaaPPE
import Derived.Test.YtgnpbodhjmappaaPPair
import Derived.Test.YtgnpbodhjmappaaPMR
import Derived.Test.YtgnpbodhjmappaaPNM
set_option linter.unusedVariables false
set_option linter.unusedSimpArgs false
namespace Go.Proofs.Ytgnpbodhjmappaa
set_option maxRecDepth 100000
open Go.RowKit Cd
open List renaming getElem_toArray → zA, getElem_cons_succ → zB, getElem_cons_zero → zC, setIfInBounds_toArray → zD, set_cons_succ → zE, set_cons_zero → zF
theorem bytes_of_own {w : World} {B n c : Nat} {a : Option Addr} {l : List UInt8} (h : w.ownsRow B 5 1 (.slice a n c) n (u8s l)) : BytesAt w a l := by
  obtain ⟨hl, ⟨_, h0⟩ | ⟨g, cap, cur, hv, hg, hh, h1, h2, h3, ht⟩⟩ := h
  · intro hp
    rw [h0] at hl
    simp [u8s] at hl
    rw [hl] at hp
    simp at hp
  · intro hp
    injection hv with ha _ _
    refine ⟨g, 0, ha, lt_heap hh, Nat.le_refl _, fun j u hu => ?_⟩
    rw [cell_of_row w g _ _ _ _ hh]
    have hu' : (u8s l)[j]? = some u := hu
    rw [← ht] at hu'
    have hj : j < n * 1 := by
      have := (List.getElem?_eq_some_iff.1 hu').1
      rw [List.length_take] at this
      omega
    rw [List.getElem?_take_of_lt hj] at hu'
    rw [Nat.zero_add]
    simpa using hu'
theorem own_capW {w : World} {B n c : Nat} {e : TypeId} {a : Option Addr} {xs : List Value} (h : w.ownsRow B e 1 (.slice a n c) n xs) : n ≤ c ∧ c ≤ maxLen := by
  obtain ⟨_, ⟨hv, h0⟩ | ⟨g, cap, cur, hv, _, _, h1, h2, _⟩⟩ := h
  · injection hv with _ h3 h4
    subst h0
    rw [h4]
    exact ⟨Nat.le_refl _, by unfold maxLen; omega⟩
  · injection hv with _ _ h4
    rw [h4]
    exact ⟨h1, h2⟩
theorem BytesAt.take {w : World} {a : Option Addr} {l : List UInt8} (h : BytesAt w a l) (n : Nat) : BytesAt w a (l.take n) := by
  intro hp
  obtain ⟨b, off, ha, hb, hB, hc⟩ := h (by simp at hp ⊢; omega)
  refine ⟨b, off, ha, hb, hB, fun j u hu => hc j u ?_⟩
  rw [List.map_take] at hu
  have hj : j < n := by
    have := (List.getElem?_eq_some_iff.1 hu).1
    rw [List.length_take] at this
    omega
  rwa [List.getElem?_take_of_lt hj] at hu
theorem InAt.below {w w' : World} {v : Value} {l : List UInt8} (h : InAt w v l) (hb : Below w.heap.size w w') : InAt w' v l := by
  obtain ⟨a, c, h1, h2, h3, h4⟩ := h
  exact ⟨a, c, h1, h2, h3, RowAt.mono (h4.below hb) hb.size (Nat.le_refl _)⟩
set_option maxHeartbeats 8000000 in
set_option maxRecDepth 100000 in
theorem does_both (Ua Ub : UnR) (ia : Option Addr) (inp : List UInt8) (ic : Nat) (fuel : Int) (w : World) (x y : Rsu) (hUa : UnAt w w.heap.size Ua) (hUb : UnAt w w.heap.size Ub) (hin : InAt w (.slice ia inp.length ic) inp) (hx : runU Ua.un inp fuel = x) (hy : runU Ub.un inp fuel = y)
    (hfx : x.fin ≠ 4) (hfy : y.fin ≠ 4) (hxy : sameR x y = true) :
    Calls Try.prog 22 #[unV Ua, unV Ub, .slice ia inp.length ic, .int .i64 fuel] w (RPost (.bool true) w) := by
  have HXY := Lib.hid hxy; clear hxy
  have t0 : (x.fin != (4 : Int)) = true := by simpa using hfx
  have t1 : (y.fin != (4 : Int)) = true := by simpa using hfy
  have hsz : ((w.alloc (unO Ua)).alloc (unO Ub)).heap.size = w.heap.size + 2 := by simp
  have hb2 : Below w.heap.size w ((w.alloc (unO Ua)).alloc (unO Ub)) := ((Below.refl _ _).alloc (Nat.le_refl _) _).alloc (by simp) _
  have hba : ((w.alloc (unO Ua)).alloc (unO Ub)).heap[w.heap.size]? = some (unO Ua) := (Below.heap_alloc _ _ _ (by simp)).trans (heap_alloc_new w _)
  have hbb : ((w.alloc (unO Ua)).alloc (unO Ub)).heap[w.heap.size + 1]? = some (unO Ub) := by have := heap_alloc_new (w.alloc (unO Ua)) (unO Ub); rw [World.size_alloc] at this; exact this
  go_enter Try.func22, Try.ntmps22
  go_wp2
  obtain ⟨W2, hW2⟩ : ∃ wS : World, (w.alloc (unO Ua)).alloc (unO Ub) = wS := ⟨_, rfl⟩
  rw [hW2] at hsz hb2 hba hbb
  rw [hW2]
  clear hW2
  have ra : ∀ w', Below W2.heap.size W2 w' → Calls Try.prog 46 #[unV Ua, .slice ia inp.length ic, .int .i64 fuel] w' (RunPost x w') := fun w' h => hx ▸ run_any Ua ia inp ic fuel w.heap.size w' (hUa.below (hb2.trans (h.mono (by omega)))) (by have := h.size; omega) (hin.below (hb2.trans (h.mono (by omega))))
  have rb : ∀ w', Below W2.heap.size W2 w' → Calls Try.prog 46 #[unV Ub, .slice ia inp.length ic, .int .i64 fuel] w' (RunPost y w') := fun w' h => hy ▸ run_any Ub ia inp ic fuel w.heap.size w' (hUb.below (hb2.trans (h.mono (by omega)))) (by have := h.size; omega) (hin.below (hb2.trans (h.mono (by omega))))
  have ga : ∀ {w' : World}, Below W2.heap.size W2 w' → w'.heap[w.heap.size]? = some (unO Ua) := fun h => (h.block _ (by omega)).trans hba
  have gb : ∀ {w' : World}, Below W2.heap.size W2 w' → w'.heap[w.heap.size + 1]? = some (unO Ub) := fun h => (h.block _ (by omega)).trans hbb
  clear hx hy
  have hmix : Try.prog.follows .mixedOrders = true := by kernel_rfl
  have hSg : ∀ {w' : World}, Below W2.heap.size W2 w' → (w'.cell? ⟨w.heap.size, 0, none⟩ = some (.slice Ua.fa Ua.fs.length Ua.fc) ∧ w'.cell? ⟨w.heap.size, 1, none⟩ = some (.slice Ua.ga Ua.gs.length Ua.gc) ∧ w'.cell? ⟨w.heap.size, 2, none⟩ = some (.int .i64 Ua.top) ∧ w'.cell? ⟨w.heap.size + 1, 0, none⟩ = some (.slice Ub.fa Ub.fs.length Ub.fc) ∧ w'.cell? ⟨w.heap.size + 1, 1, none⟩ = some (.slice Ub.ga Ub.gs.length Ub.gc) ∧ w'.cell? ⟨w.heap.size + 1, 2, none⟩ = some (.int .i64 Ub.top)) := fun h => by
    obtain ⟨a0, a1, a2⟩ := nv3 (ga h)
    obtain ⟨b0, b1, b2⟩ := nv3 (gb h)
    exact ⟨a0, a1, a2, b0, b1, b2⟩
  refine region_lastS (fun w' => w'.cell? ⟨w.heap.size, 0, none⟩ = some (.slice Ua.fa Ua.fs.length Ua.fc) ∧ w'.cell? ⟨w.heap.size, 1, none⟩ = some (.slice Ua.ga Ua.gs.length Ua.gc) ∧ w'.cell? ⟨w.heap.size, 2, none⟩ = some (.int .i64 Ua.top) ∧ w'.cell? ⟨w.heap.size + 1, 0, none⟩ = some (.slice Ub.fa Ub.fs.length Ub.fc) ∧ w'.cell? ⟨w.heap.size + 1, 1, none⟩ = some (.slice Ub.ga Ub.gs.length Ub.gc) ∧ w'.cell? ⟨w.heap.size + 1, 2, none⟩ = some (.int .i64 Ub.top)) 11 hmix (hSg (drW (Below.refl _ _))) (fun hS => ?main)
  refine anyL_take (i := 0) (v := ?_) rfl rfl (by kernel_rfl) (by kernel_rfl) (by kernel_rfl) (by kernel_rfl) (fun _ _ _ h => h) (Or.inl ⟨by rfl, ?_⟩) hS ?_
  rotate_left
  · (intro w' hSw; obtain ⟨k0, k1, k2, k3, k4, k5⟩ := hSw; go_simp; first | done | with_reducible rfl)
  simp only [Act.put, zA, zB, zC, zD, zE, zF]
  refine anyL_take (i := 1) (v := ?_) rfl rfl (by kernel_rfl) (by kernel_rfl) (by kernel_rfl) (by kernel_rfl) (fun _ _ _ h => h) (Or.inl ⟨by rfl, ?_⟩) hS ?_
  rotate_left
  · (intro w' hSw; obtain ⟨k0, k1, k2, k3, k4, k5⟩ := hSw; go_simp; first | done | with_reducible rfl)
  simp only [Act.put, zA, zB, zC, zD, zE, zF]
  refine anyL_take (i := 2) (v := ?_) rfl rfl (by kernel_rfl) (by kernel_rfl) (by kernel_rfl) (by kernel_rfl) (fun _ _ _ h => h) (Or.inl ⟨by rfl, ?_⟩) hS ?_
  rotate_left
  · (intro w' hSw; obtain ⟨k0, k1, k2, k3, k4, k5⟩ := hSw; go_simp; first | done | with_reducible rfl)
  simp only [Act.put, zA, zB, zC, zD, zE, zF]
  refine anyL_take (i := 4) (v := ?_) rfl rfl (by kernel_rfl) (by kernel_rfl) (by kernel_rfl) (by kernel_rfl) (fun _ _ _ h => h) (Or.inl ⟨by rfl, ?_⟩) hS ?_
  rotate_left
  · (intro w' hSw; obtain ⟨k0, k1, k2, k3, k4, k5⟩ := hSw; go_simp; first | done | with_reducible rfl)
  simp only [Act.put, zA, zB, zC, zD, zE, zF]
  refine anyL_take (i := 5) (v := ?_) rfl rfl (by kernel_rfl) (by kernel_rfl) (by kernel_rfl) (by kernel_rfl) (fun _ _ _ h => h) (Or.inl ⟨by rfl, ?_⟩) hS ?_
  rotate_left
  · (intro w' hSw; obtain ⟨k0, k1, k2, k3, k4, k5⟩ := hSw; go_simp; first | done | with_reducible rfl)
  simp only [Act.put, zA, zB, zC, zD, zE, zF]
  refine anyL_take (i := 6) (v := ?_) rfl rfl (by kernel_rfl) (by kernel_rfl) (by kernel_rfl) (by kernel_rfl) (fun _ _ _ h => h) (Or.inl ⟨by rfl, ?_⟩) hS ?_
  rotate_left
  · (intro w' hSw; obtain ⟨k0, k1, k2, k3, k4, k5⟩ := hSw; go_simp; first | done | with_reducible rfl)
  simp only [Act.put, zA, zB, zC, zD, zE, zF]
  refine pair_run W2 x y resO 3 7 8 9 10 15 19 9 10 _ _ _ _ rfl rfl rfl rfl (by decide) (by decide) (by kernel_rfl) (fun _ h => hSg h) ?cA ?cB ?cP ?cQ 2 ?hend 4 0 none none none none _ (by omega) rfl rfl rfl ⟨drW (Below.refl _ _), by simp, by simp, by simp, by simp, by simp, by simp, by simp, by simp, by simp⟩
  case cA =>
    intro p q w' K' hb hK
    cases p <;> cases q <;> simp only [A4, putO] <;> (go_simp; refine (ra w' hb).mono ?_; rintro e v5 ⟨xa, xc, rfl, hox, hbx⟩; exact hK (xa, xc) v5 hox hbx)
  case cB =>
    intro v p q w' K' hb hK
    cases p <;> cases q <;> simp only [A4, putO] <;> (go_simp; refine (rb w' hb).mono ?_; rintro e v5 ⟨xa, xc, rfl, hox, hbx⟩; exact hK (xa, xc) v5 hox hbx)
  case cP =>
    intro b w' K' hK
    go_simp
    exact hK
  case cQ =>
    intro b w' K' hK
    go_simp
    exact hK
  case hend =>
    intro s t b d w' hst
    obtain ⟨sa, sc⟩ := s
    obtain ⟨ta, tc⟩ := t
    have hbd := hst.pq b d rfl rfl
    obtain ⟨z0, z1, z2⟩ := frozen3 (hst.boxP b rfl).1
    obtain ⟨y0, y1, y2⟩ := nv3 (hst.boxP b rfl).1
    obtain ⟨z3, z4, z5⟩ := frozen3 (hst.boxQ d rfl).1
    obtain ⟨y3, y4, y5⟩ := nv3 (hst.boxQ d rfl).1
    simp only [A4, putO, resX, ptrB]
    refine anyL_one (i := 10) (by kernel_rfl) rfl (fun K1 hK1 => ?_)
    go_simp
    refine hK1.out _ _ (fun _ => ?_) ?_
    · exact hSg (((hst.bel.setCell (show W2.heap.size ≤ b from (hst.boxP b rfl).2) _).setCell (show W2.heap.size ≤ b from (hst.boxP b rfl).2) _).setCell (show W2.heap.size ≤ b from (hst.boxP b rfl).2) _)
    clear hK1 K1
    obtain ⟨h1, h2, h3, h4, h5⟩ := hst.both
    refine anyL_one (i := 11) (by kernel_rfl) rfl (fun K1 hK1 => ?_)
    go_simp
    refine hK1.out _ _ (fun h => absurd rfl h) ?_
    clear hK1 K1
    refine anyL_done (by kernel_rfl) ?_ _
    obtain ⟨W4, hW4⟩ : ∃ wS : World, (((((w'.setCell ⟨b, 0, none⟩ (.int .i64 x.fin)).setCell ⟨b, 1, none⟩ (.int .i64 x.code)).setCell ⟨b, 2, none⟩ (.slice sa x.out.length sc)).setCell ⟨d, 0, none⟩ (.int .i64 y.fin)).setCell ⟨d, 1, none⟩ (.int .i64 y.code)).setCell ⟨d, 2, none⟩ (.slice ta y.out.length tc) = wS := ⟨_, rfl⟩
    simp only at h1 h2 h3 h4 h5
    rw [hW4] at h1 h2 h3 h4 h5
    rw [hW4]
    clear hW4
    have HX1 : Hid (BytesAt W4 sa x.out) := Lib.hid (bytes_of_own h3)
    have HX2 : Hid (BytesAt W4 ta y.out) := Lib.hid (bytes_of_own h4)
    have hlx : x.out.length ≤ maxLen := Nat.le_trans (own_capW h3).1 (own_capW h3).2
    have hly : y.out.length ≤ maxLen := Nat.le_trans (own_capW h4).1 (own_capW h4).2
    have hcx := (own_capW h3).1
    have hcy := (own_capW h4).1
    simp only at hcx hcy
    obtain ⟨c0, c1, c2⟩ := nv3 h1
    obtain ⟨e0, e1, e2⟩ := nv3 h2
    have HB4 : Hid (Below w.heap.size w W4) := Lib.hid (hb2.trans (h5.mono hb2.size))
    have HH1 := Lib.hid h1
    have HH2 := Lib.hid h2
    clear h1 h2 h3 h4 h5 hst ra rb ga gb hSg hba hbb z0 z1 z2 z3 z4 z5 y0 y1 y2 y3 y4 y5 hS
    go_wp2_with ((with_reducible refine (result_v x y sa ta sc tc true _ HX1.out HX2.out hlx hly HXY.out).mono ?_); rintro e v6 ⟨rfl, hb6⟩; have HB6 := Lib.hid hb6; clear hb6)
    go_ret
    exact ⟨rfl, HB4.out.trans (HB6.out.mono HB4.out.size)⟩
set_option maxHeartbeats 8000000 in
set_option maxRecDepth 100000 in
theorem does_a (Ua Ub : UnR) (ia : Option Addr) (inp : List UInt8) (ic : Nat) (fuel : Int) (w : World) (x y : Rsu) (hUa : UnAt w w.heap.size Ua) (hUb : UnAt w w.heap.size Ub) (hin : InAt w (.slice ia inp.length ic) inp) (hx : runU Ua.un inp fuel = x) (hy : runU Ub.un inp fuel = y)
    (hfx : x.fin = 4) (hfy : y.fin = 4) (hle : y.out.length < x.out.length) (hxy : x.out.take y.out.length = y.out.take y.out.length) :
    Calls Try.prog 22 #[unV Ua, unV Ub, .slice ia inp.length ic, .int .i64 fuel] w (RPost (.bool true) w) := by
  have HXY := Lib.hid hxy; clear hxy
  have t0 : (x.fin != (4 : Int)) = false := by simpa using hfx
  have t1 : (y.fin != (4 : Int)) = false := by simpa using hfy
  clear hfx hfy
  have hsz : ((w.alloc (unO Ua)).alloc (unO Ub)).heap.size = w.heap.size + 2 := by simp
  have hb2 : Below w.heap.size w ((w.alloc (unO Ua)).alloc (unO Ub)) := ((Below.refl _ _).alloc (Nat.le_refl _) _).alloc (by simp) _
  have hba : ((w.alloc (unO Ua)).alloc (unO Ub)).heap[w.heap.size]? = some (unO Ua) := (Below.heap_alloc _ _ _ (by simp)).trans (heap_alloc_new w _)
  have hbb : ((w.alloc (unO Ua)).alloc (unO Ub)).heap[w.heap.size + 1]? = some (unO Ub) := by have := heap_alloc_new (w.alloc (unO Ua)) (unO Ub); rw [World.size_alloc] at this; exact this
  go_enter Try.func22, Try.ntmps22
  go_wp2
  obtain ⟨W2, hW2⟩ : ∃ wS : World, (w.alloc (unO Ua)).alloc (unO Ub) = wS := ⟨_, rfl⟩
  rw [hW2] at hsz hb2 hba hbb
  rw [hW2]
  clear hW2
  have ra : ∀ w', Below W2.heap.size W2 w' → Calls Try.prog 46 #[unV Ua, .slice ia inp.length ic, .int .i64 fuel] w' (RunPost x w') := fun w' h => hx ▸ run_any Ua ia inp ic fuel w.heap.size w' (hUa.below (hb2.trans (h.mono (by omega)))) (by have := h.size; omega) (hin.below (hb2.trans (h.mono (by omega))))
  have rb : ∀ w', Below W2.heap.size W2 w' → Calls Try.prog 46 #[unV Ub, .slice ia inp.length ic, .int .i64 fuel] w' (RunPost y w') := fun w' h => hy ▸ run_any Ub ia inp ic fuel w.heap.size w' (hUb.below (hb2.trans (h.mono (by omega)))) (by have := h.size; omega) (hin.below (hb2.trans (h.mono (by omega))))
  have ga : ∀ {w' : World}, Below W2.heap.size W2 w' → w'.heap[w.heap.size]? = some (unO Ua) := fun h => (h.block _ (by omega)).trans hba
  have gb : ∀ {w' : World}, Below W2.heap.size W2 w' → w'.heap[w.heap.size + 1]? = some (unO Ub) := fun h => (h.block _ (by omega)).trans hbb
  clear hx hy
  have hmix : Try.prog.follows .mixedOrders = true := by kernel_rfl
  have hSg : ∀ {w' : World}, Below W2.heap.size W2 w' → (w'.cell? ⟨w.heap.size, 0, none⟩ = some (.slice Ua.fa Ua.fs.length Ua.fc) ∧ w'.cell? ⟨w.heap.size, 1, none⟩ = some (.slice Ua.ga Ua.gs.length Ua.gc) ∧ w'.cell? ⟨w.heap.size, 2, none⟩ = some (.int .i64 Ua.top) ∧ w'.cell? ⟨w.heap.size + 1, 0, none⟩ = some (.slice Ub.fa Ub.fs.length Ub.fc) ∧ w'.cell? ⟨w.heap.size + 1, 1, none⟩ = some (.slice Ub.ga Ub.gs.length Ub.gc) ∧ w'.cell? ⟨w.heap.size + 1, 2, none⟩ = some (.int .i64 Ub.top)) := fun h => by
    obtain ⟨a0, a1, a2⟩ := nv3 (ga h)
    obtain ⟨b0, b1, b2⟩ := nv3 (gb h)
    exact ⟨a0, a1, a2, b0, b1, b2⟩
  refine region_lastS (fun w' => w'.cell? ⟨w.heap.size, 0, none⟩ = some (.slice Ua.fa Ua.fs.length Ua.fc) ∧ w'.cell? ⟨w.heap.size, 1, none⟩ = some (.slice Ua.ga Ua.gs.length Ua.gc) ∧ w'.cell? ⟨w.heap.size, 2, none⟩ = some (.int .i64 Ua.top) ∧ w'.cell? ⟨w.heap.size + 1, 0, none⟩ = some (.slice Ub.fa Ub.fs.length Ub.fc) ∧ w'.cell? ⟨w.heap.size + 1, 1, none⟩ = some (.slice Ub.ga Ub.gs.length Ub.gc) ∧ w'.cell? ⟨w.heap.size + 1, 2, none⟩ = some (.int .i64 Ub.top)) 11 hmix (hSg (drW (Below.refl _ _))) (fun hS => ?main)
  refine anyL_take (i := 0) (v := ?_) rfl rfl (by kernel_rfl) (by kernel_rfl) (by kernel_rfl) (by kernel_rfl) (fun _ _ _ h => h) (Or.inl ⟨by rfl, ?_⟩) hS ?_
  rotate_left
  · (intro w' hSw; obtain ⟨k0, k1, k2, k3, k4, k5⟩ := hSw; go_simp; first | done | with_reducible rfl)
  simp only [Act.put, zA, zB, zC, zD, zE, zF]
  refine anyL_take (i := 1) (v := ?_) rfl rfl (by kernel_rfl) (by kernel_rfl) (by kernel_rfl) (by kernel_rfl) (fun _ _ _ h => h) (Or.inl ⟨by rfl, ?_⟩) hS ?_
  rotate_left
  · (intro w' hSw; obtain ⟨k0, k1, k2, k3, k4, k5⟩ := hSw; go_simp; first | done | with_reducible rfl)
  simp only [Act.put, zA, zB, zC, zD, zE, zF]
  refine anyL_take (i := 2) (v := ?_) rfl rfl (by kernel_rfl) (by kernel_rfl) (by kernel_rfl) (by kernel_rfl) (fun _ _ _ h => h) (Or.inl ⟨by rfl, ?_⟩) hS ?_
  rotate_left
  · (intro w' hSw; obtain ⟨k0, k1, k2, k3, k4, k5⟩ := hSw; go_simp; first | done | with_reducible rfl)
  simp only [Act.put, zA, zB, zC, zD, zE, zF]
  refine anyL_take (i := 4) (v := ?_) rfl rfl (by kernel_rfl) (by kernel_rfl) (by kernel_rfl) (by kernel_rfl) (fun _ _ _ h => h) (Or.inl ⟨by rfl, ?_⟩) hS ?_
  rotate_left
  · (intro w' hSw; obtain ⟨k0, k1, k2, k3, k4, k5⟩ := hSw; go_simp; first | done | with_reducible rfl)
  simp only [Act.put, zA, zB, zC, zD, zE, zF]
  refine anyL_take (i := 5) (v := ?_) rfl rfl (by kernel_rfl) (by kernel_rfl) (by kernel_rfl) (by kernel_rfl) (fun _ _ _ h => h) (Or.inl ⟨by rfl, ?_⟩) hS ?_
  rotate_left
  · (intro w' hSw; obtain ⟨k0, k1, k2, k3, k4, k5⟩ := hSw; go_simp; first | done | with_reducible rfl)
  simp only [Act.put, zA, zB, zC, zD, zE, zF]
  refine anyL_take (i := 6) (v := ?_) rfl rfl (by kernel_rfl) (by kernel_rfl) (by kernel_rfl) (by kernel_rfl) (fun _ _ _ h => h) (Or.inl ⟨by rfl, ?_⟩) hS ?_
  rotate_left
  · (intro w' hSw; obtain ⟨k0, k1, k2, k3, k4, k5⟩ := hSw; go_simp; first | done | with_reducible rfl)
  simp only [Act.put, zA, zB, zC, zD, zE, zF]
  refine pair_run W2 x y resO 3 7 8 9 10 15 19 9 10 _ _ _ _ rfl rfl rfl rfl (by decide) (by decide) (by kernel_rfl) (fun _ h => hSg h) ?cA ?cB ?cP ?cQ 2 ?hend 4 0 none none none none _ (by omega) rfl rfl rfl ⟨drW (Below.refl _ _), by simp, by simp, by simp, by simp, by simp, by simp, by simp, by simp, by simp⟩
  case cA =>
    intro p q w' K' hb hK
    cases p <;> cases q <;> simp only [A4, putO] <;> (go_simp; refine (ra w' hb).mono ?_; rintro e v5 ⟨xa, xc, rfl, hox, hbx⟩; exact hK (xa, xc) v5 hox hbx)
  case cB =>
    intro v p q w' K' hb hK
    cases p <;> cases q <;> simp only [A4, putO] <;> (go_simp; refine (rb w' hb).mono ?_; rintro e v5 ⟨xa, xc, rfl, hox, hbx⟩; exact hK (xa, xc) v5 hox hbx)
  case cP =>
    intro b w' K' hK
    go_simp
    exact hK
  case cQ =>
    intro b w' K' hK
    go_simp
    exact hK
  case hend =>
    intro s t b d w' hst
    obtain ⟨sa, sc⟩ := s
    obtain ⟨ta, tc⟩ := t
    have hbd := hst.pq b d rfl rfl
    obtain ⟨z0, z1, z2⟩ := frozen3 (hst.boxP b rfl).1
    obtain ⟨y0, y1, y2⟩ := nv3 (hst.boxP b rfl).1
    obtain ⟨z3, z4, z5⟩ := frozen3 (hst.boxQ d rfl).1
    obtain ⟨y3, y4, y5⟩ := nv3 (hst.boxQ d rfl).1
    simp only [A4, putO, resX, ptrB]
    refine anyL_one (i := 10) (by kernel_rfl) rfl (fun K1 hK1 => ?_)
    go_simp
    refine hK1.out _ _ (fun _ => ?_) ?_
    · exact hSg (((hst.bel.setCell (show W2.heap.size ≤ b from (hst.boxP b rfl).2) _).setCell (show W2.heap.size ≤ b from (hst.boxP b rfl).2) _).setCell (show W2.heap.size ≤ b from (hst.boxP b rfl).2) _)
    clear hK1 K1
    obtain ⟨h1, h2, h3, h4, h5⟩ := hst.both
    refine anyL_one (i := 11) (by kernel_rfl) rfl (fun K1 hK1 => ?_)
    go_simp
    refine hK1.out _ _ (fun h => absurd rfl h) ?_
    clear hK1 K1
    refine anyL_done (by kernel_rfl) ?_ _
    obtain ⟨W4, hW4⟩ : ∃ wS : World, (((((w'.setCell ⟨b, 0, none⟩ (.int .i64 x.fin)).setCell ⟨b, 1, none⟩ (.int .i64 x.code)).setCell ⟨b, 2, none⟩ (.slice sa x.out.length sc)).setCell ⟨d, 0, none⟩ (.int .i64 y.fin)).setCell ⟨d, 1, none⟩ (.int .i64 y.code)).setCell ⟨d, 2, none⟩ (.slice ta y.out.length tc) = wS := ⟨_, rfl⟩
    simp only at h1 h2 h3 h4 h5
    rw [hW4] at h1 h2 h3 h4 h5
    rw [hW4]
    clear hW4
    have HX1 : Hid (BytesAt W4 sa x.out) := Lib.hid (bytes_of_own h3)
    have HX2 : Hid (BytesAt W4 ta y.out) := Lib.hid (bytes_of_own h4)
    have hlx : x.out.length ≤ maxLen := Nat.le_trans (own_capW h3).1 (own_capW h3).2
    have hly : y.out.length ≤ maxLen := Nat.le_trans (own_capW h4).1 (own_capW h4).2
    have hcx := (own_capW h3).1
    have hcy := (own_capW h4).1
    simp only at hcx hcy
    obtain ⟨c0, c1, c2⟩ := nv3 h1
    obtain ⟨e0, e1, e2⟩ := nv3 h2
    have HB4 : Hid (Below w.heap.size w W4) := Lib.hid (hb2.trans (h5.mono hb2.size))
    have HH1 := Lib.hid h1
    have HH2 := Lib.hid h2
    clear h1 h2 h3 h4 h5 hst ra rb ga gb hSg hba hbb z0 z1 z2 z3 z4 z5 y0 y1 y2 y3 y4 y5 hS
    have hslx : ∀ w, (Instr.sliceAt 37 (.slice sa x.out.length sc) none (some (.int .i64 (y.out.length : Int))) none).run Try.prog w = .ok (.slice sa y.out.length sc) w := by
      intro w
      obtain ⟨ti, hti⟩ : ∃ ti, Try.prog.info? 5 = some ti := by
        cases hx : Try.prog.info? 5 with
        | none => have h : (Try.prog.info? 5).isSome = true := by kernel_rfl
                  rw [hx] at h; cases h
        | some ti => exact ⟨ti, rfl⟩
      rw [run_sliceAt_slice w _ _ _ _ _ (by kernel_rfl), run_slice_h w _ _ _ _ (by kernel_rfl) .i64 _ (by omega) (by omega)]
      have e : (sizeOf 5).run Try.prog w = .ok (Try.prog.cellsOf 5) w := run_sizeOf w hti
      have e2 : Try.prog.elem 37 = 5 := by kernel_rfl
      have e3 : Try.prog.cellsOf 5 = 1 := by kernel_rfl
      rw [e2, e, e3]
      simp [sliced, Result.andThen, Addr.add] <;> omega
    have hsly : ∀ w, (Instr.sliceAt 37 (.slice ta y.out.length tc) none (some (.int .i64 (y.out.length : Int))) none).run Try.prog w = .ok (.slice ta y.out.length tc) w := by
      intro w
      obtain ⟨ti, hti⟩ : ∃ ti, Try.prog.info? 5 = some ti := by
        cases hx : Try.prog.info? 5 with
        | none => have h : (Try.prog.info? 5).isSome = true := by kernel_rfl
                  rw [hx] at h; cases h
        | some ti => exact ⟨ti, rfl⟩
      rw [run_sliceAt_slice w _ _ _ _ _ (by kernel_rfl), run_slice_h w _ _ _ _ (by kernel_rfl) .i64 _ (by omega) (by omega)]
      have e : (sizeOf 5).run Try.prog w = .ok (Try.prog.cellsOf 5) w := run_sizeOf w hti
      have e2 : Try.prog.elem 37 = 5 := by kernel_rfl
      have e3 : Try.prog.cellsOf 5 = 1 := by kernel_rfl
      rw [e2, e, e3]
      simp [sliced, Result.andThen, Addr.add] <;> omega
    have HX5 := Lib.hid (BytesAt.take HX1.out y.out.length)
    have HX6 := Lib.hid (BytesAt.take HX2.out y.out.length)
    have HT : Hid (sameR ⟨0, 0, x.out.take y.out.length⟩ ⟨0, 0, y.out.take y.out.length⟩ = true) := Lib.hid (by unfold sameR; rw [HXY.out]; simp)
    have hlt1 : (x.out.take y.out.length).length = y.out.length := by rw [List.length_take]; omega
    have hlt2 : (y.out.take y.out.length).length = y.out.length := by rw [List.length_take]; omega
    have HR : ∀ w', Below W4.heap.size W4 w' → Calls Try.prog 47 #[.agg #[.int .i64 0, .int .i64 0, .slice sa y.out.length sc], .agg #[.int .i64 0, .int .i64 0, .slice ta y.out.length tc]] w' (RPost (.bool true) w') := fun w' h => by
      have h9 := result_v ⟨0, 0, x.out.take y.out.length⟩ ⟨0, 0, y.out.take y.out.length⟩ sa ta sc tc true w' (HX5.out.below h) (HX6.out.below h) (by show (x.out.take y.out.length).length ≤ maxLen; omega) (by show (y.out.take y.out.length).length ≤ maxLen; omega) HT.out
      unfold rsV at h9
      simp only [hlt1, hlt2] at h9
      exact h9
    clear hlt1 hlt2
    go_wp2
    all_goals first | (exfalso; omega) | skip
    go_region_with ((with_reducible refine (HR _ (drW (Below.refl _ _))).mono ?_); rintro e v6 ⟨rfl, hb6⟩; have HB6 := Lib.hid hb6; clear hb6)
    all_goals go_wp2
    all_goals go_ret
    all_goals exact ⟨rfl, HB4.out.trans (((drW (Below.refl W4.heap.size W4)).trans (show Below W4.heap.size W4.drew v6 from HB6.out)).mono HB4.out.size)⟩
set_option maxHeartbeats 8000000 in
set_option maxRecDepth 100000 in
theorem does_b (Ua Ub : UnR) (ia : Option Addr) (inp : List UInt8) (ic : Nat) (fuel : Int) (w : World) (x y : Rsu) (hUa : UnAt w w.heap.size Ua) (hUb : UnAt w w.heap.size Ub) (hin : InAt w (.slice ia inp.length ic) inp) (hx : runU Ua.un inp fuel = x) (hy : runU Ub.un inp fuel = y)
    (hfx : x.fin = 4) (hfy : y.fin = 4) (hle : x.out.length ≤ y.out.length) (hxy : x.out.take x.out.length = y.out.take x.out.length) :
    Calls Try.prog 22 #[unV Ua, unV Ub, .slice ia inp.length ic, .int .i64 fuel] w (RPost (.bool true) w) := by
  have HXY := Lib.hid hxy; clear hxy
  have t0 : (x.fin != (4 : Int)) = false := by simpa using hfx
  have t1 : (y.fin != (4 : Int)) = false := by simpa using hfy
  clear hfx hfy
  have hsz : ((w.alloc (unO Ua)).alloc (unO Ub)).heap.size = w.heap.size + 2 := by simp
  have hb2 : Below w.heap.size w ((w.alloc (unO Ua)).alloc (unO Ub)) := ((Below.refl _ _).alloc (Nat.le_refl _) _).alloc (by simp) _
  have hba : ((w.alloc (unO Ua)).alloc (unO Ub)).heap[w.heap.size]? = some (unO Ua) := (Below.heap_alloc _ _ _ (by simp)).trans (heap_alloc_new w _)
  have hbb : ((w.alloc (unO Ua)).alloc (unO Ub)).heap[w.heap.size + 1]? = some (unO Ub) := by have := heap_alloc_new (w.alloc (unO Ua)) (unO Ub); rw [World.size_alloc] at this; exact this
  go_enter Try.func22, Try.ntmps22
  go_wp2
  obtain ⟨W2, hW2⟩ : ∃ wS : World, (w.alloc (unO Ua)).alloc (unO Ub) = wS := ⟨_, rfl⟩
  rw [hW2] at hsz hb2 hba hbb
  rw [hW2]
  clear hW2
  have ra : ∀ w', Below W2.heap.size W2 w' → Calls Try.prog 46 #[unV Ua, .slice ia inp.length ic, .int .i64 fuel] w' (RunPost x w') := fun w' h => hx ▸ run_any Ua ia inp ic fuel w.heap.size w' (hUa.below (hb2.trans (h.mono (by omega)))) (by have := h.size; omega) (hin.below (hb2.trans (h.mono (by omega))))
  have rb : ∀ w', Below W2.heap.size W2 w' → Calls Try.prog 46 #[unV Ub, .slice ia inp.length ic, .int .i64 fuel] w' (RunPost y w') := fun w' h => hy ▸ run_any Ub ia inp ic fuel w.heap.size w' (hUb.below (hb2.trans (h.mono (by omega)))) (by have := h.size; omega) (hin.below (hb2.trans (h.mono (by omega))))
  have ga : ∀ {w' : World}, Below W2.heap.size W2 w' → w'.heap[w.heap.size]? = some (unO Ua) := fun h => (h.block _ (by omega)).trans hba
  have gb : ∀ {w' : World}, Below W2.heap.size W2 w' → w'.heap[w.heap.size + 1]? = some (unO Ub) := fun h => (h.block _ (by omega)).trans hbb
  clear hx hy
  have hmix : Try.prog.follows .mixedOrders = true := by kernel_rfl
  have hSg : ∀ {w' : World}, Below W2.heap.size W2 w' → (w'.cell? ⟨w.heap.size, 0, none⟩ = some (.slice Ua.fa Ua.fs.length Ua.fc) ∧ w'.cell? ⟨w.heap.size, 1, none⟩ = some (.slice Ua.ga Ua.gs.length Ua.gc) ∧ w'.cell? ⟨w.heap.size, 2, none⟩ = some (.int .i64 Ua.top) ∧ w'.cell? ⟨w.heap.size + 1, 0, none⟩ = some (.slice Ub.fa Ub.fs.length Ub.fc) ∧ w'.cell? ⟨w.heap.size + 1, 1, none⟩ = some (.slice Ub.ga Ub.gs.length Ub.gc) ∧ w'.cell? ⟨w.heap.size + 1, 2, none⟩ = some (.int .i64 Ub.top)) := fun h => by
    obtain ⟨a0, a1, a2⟩ := nv3 (ga h)
    obtain ⟨b0, b1, b2⟩ := nv3 (gb h)
    exact ⟨a0, a1, a2, b0, b1, b2⟩
  refine region_lastS (fun w' => w'.cell? ⟨w.heap.size, 0, none⟩ = some (.slice Ua.fa Ua.fs.length Ua.fc) ∧ w'.cell? ⟨w.heap.size, 1, none⟩ = some (.slice Ua.ga Ua.gs.length Ua.gc) ∧ w'.cell? ⟨w.heap.size, 2, none⟩ = some (.int .i64 Ua.top) ∧ w'.cell? ⟨w.heap.size + 1, 0, none⟩ = some (.slice Ub.fa Ub.fs.length Ub.fc) ∧ w'.cell? ⟨w.heap.size + 1, 1, none⟩ = some (.slice Ub.ga Ub.gs.length Ub.gc) ∧ w'.cell? ⟨w.heap.size + 1, 2, none⟩ = some (.int .i64 Ub.top)) 11 hmix (hSg (drW (Below.refl _ _))) (fun hS => ?main)
  refine anyL_take (i := 0) (v := ?_) rfl rfl (by kernel_rfl) (by kernel_rfl) (by kernel_rfl) (by kernel_rfl) (fun _ _ _ h => h) (Or.inl ⟨by rfl, ?_⟩) hS ?_
  rotate_left
  · (intro w' hSw; obtain ⟨k0, k1, k2, k3, k4, k5⟩ := hSw; go_simp; first | done | with_reducible rfl)
  simp only [Act.put, zA, zB, zC, zD, zE, zF]
  refine anyL_take (i := 1) (v := ?_) rfl rfl (by kernel_rfl) (by kernel_rfl) (by kernel_rfl) (by kernel_rfl) (fun _ _ _ h => h) (Or.inl ⟨by rfl, ?_⟩) hS ?_
  rotate_left
  · (intro w' hSw; obtain ⟨k0, k1, k2, k3, k4, k5⟩ := hSw; go_simp; first | done | with_reducible rfl)
  simp only [Act.put, zA, zB, zC, zD, zE, zF]
  refine anyL_take (i := 2) (v := ?_) rfl rfl (by kernel_rfl) (by kernel_rfl) (by kernel_rfl) (by kernel_rfl) (fun _ _ _ h => h) (Or.inl ⟨by rfl, ?_⟩) hS ?_
  rotate_left
  · (intro w' hSw; obtain ⟨k0, k1, k2, k3, k4, k5⟩ := hSw; go_simp; first | done | with_reducible rfl)
  simp only [Act.put, zA, zB, zC, zD, zE, zF]
  refine anyL_take (i := 4) (v := ?_) rfl rfl (by kernel_rfl) (by kernel_rfl) (by kernel_rfl) (by kernel_rfl) (fun _ _ _ h => h) (Or.inl ⟨by rfl, ?_⟩) hS ?_
  rotate_left
  · (intro w' hSw; obtain ⟨k0, k1, k2, k3, k4, k5⟩ := hSw; go_simp; first | done | with_reducible rfl)
  simp only [Act.put, zA, zB, zC, zD, zE, zF]
  refine anyL_take (i := 5) (v := ?_) rfl rfl (by kernel_rfl) (by kernel_rfl) (by kernel_rfl) (by kernel_rfl) (fun _ _ _ h => h) (Or.inl ⟨by rfl, ?_⟩) hS ?_
  rotate_left
  · (intro w' hSw; obtain ⟨k0, k1, k2, k3, k4, k5⟩ := hSw; go_simp; first | done | with_reducible rfl)
  simp only [Act.put, zA, zB, zC, zD, zE, zF]
  refine anyL_take (i := 6) (v := ?_) rfl rfl (by kernel_rfl) (by kernel_rfl) (by kernel_rfl) (by kernel_rfl) (fun _ _ _ h => h) (Or.inl ⟨by rfl, ?_⟩) hS ?_
  rotate_left
  · (intro w' hSw; obtain ⟨k0, k1, k2, k3, k4, k5⟩ := hSw; go_simp; first | done | with_reducible rfl)
  simp only [Act.put, zA, zB, zC, zD, zE, zF]
  refine pair_run W2 x y resO 3 7 8 9 10 15 19 9 10 _ _ _ _ rfl rfl rfl rfl (by decide) (by decide) (by kernel_rfl) (fun _ h => hSg h) ?cA ?cB ?cP ?cQ 2 ?hend 4 0 none none none none _ (by omega) rfl rfl rfl ⟨drW (Below.refl _ _), by simp, by simp, by simp, by simp, by simp, by simp, by simp, by simp, by simp⟩
  case cA =>
    intro p q w' K' hb hK
    cases p <;> cases q <;> simp only [A4, putO] <;> (go_simp; refine (ra w' hb).mono ?_; rintro e v5 ⟨xa, xc, rfl, hox, hbx⟩; exact hK (xa, xc) v5 hox hbx)
  case cB =>
    intro v p q w' K' hb hK
    cases p <;> cases q <;> simp only [A4, putO] <;> (go_simp; refine (rb w' hb).mono ?_; rintro e v5 ⟨xa, xc, rfl, hox, hbx⟩; exact hK (xa, xc) v5 hox hbx)
  case cP =>
    intro b w' K' hK
    go_simp
    exact hK
  case cQ =>
    intro b w' K' hK
    go_simp
    exact hK
  case hend =>
    intro s t b d w' hst
    obtain ⟨sa, sc⟩ := s
    obtain ⟨ta, tc⟩ := t
    have hbd := hst.pq b d rfl rfl
    obtain ⟨z0, z1, z2⟩ := frozen3 (hst.boxP b rfl).1
    obtain ⟨y0, y1, y2⟩ := nv3 (hst.boxP b rfl).1
    obtain ⟨z3, z4, z5⟩ := frozen3 (hst.boxQ d rfl).1
    obtain ⟨y3, y4, y5⟩ := nv3 (hst.boxQ d rfl).1
    simp only [A4, putO, resX, ptrB]
    refine anyL_one (i := 10) (by kernel_rfl) rfl (fun K1 hK1 => ?_)
    go_simp
    refine hK1.out _ _ (fun _ => ?_) ?_
    · exact hSg (((hst.bel.setCell (show W2.heap.size ≤ b from (hst.boxP b rfl).2) _).setCell (show W2.heap.size ≤ b from (hst.boxP b rfl).2) _).setCell (show W2.heap.size ≤ b from (hst.boxP b rfl).2) _)
    clear hK1 K1
    obtain ⟨h1, h2, h3, h4, h5⟩ := hst.both
    refine anyL_one (i := 11) (by kernel_rfl) rfl (fun K1 hK1 => ?_)
    go_simp
    refine hK1.out _ _ (fun h => absurd rfl h) ?_
    clear hK1 K1
    refine anyL_done (by kernel_rfl) ?_ _
    obtain ⟨W4, hW4⟩ : ∃ wS : World, (((((w'.setCell ⟨b, 0, none⟩ (.int .i64 x.fin)).setCell ⟨b, 1, none⟩ (.int .i64 x.code)).setCell ⟨b, 2, none⟩ (.slice sa x.out.length sc)).setCell ⟨d, 0, none⟩ (.int .i64 y.fin)).setCell ⟨d, 1, none⟩ (.int .i64 y.code)).setCell ⟨d, 2, none⟩ (.slice ta y.out.length tc) = wS := ⟨_, rfl⟩
    simp only at h1 h2 h3 h4 h5
    rw [hW4] at h1 h2 h3 h4 h5
    rw [hW4]
    clear hW4
    have HX1 : Hid (BytesAt W4 sa x.out) := Lib.hid (bytes_of_own h3)
    have HX2 : Hid (BytesAt W4 ta y.out) := Lib.hid (bytes_of_own h4)
    have hlx : x.out.length ≤ maxLen := Nat.le_trans (own_capW h3).1 (own_capW h3).2
    have hly : y.out.length ≤ maxLen := Nat.le_trans (own_capW h4).1 (own_capW h4).2
    have hcx := (own_capW h3).1
    have hcy := (own_capW h4).1
    simp only at hcx hcy
    obtain ⟨c0, c1, c2⟩ := nv3 h1
    obtain ⟨e0, e1, e2⟩ := nv3 h2
    have HB4 : Hid (Below w.heap.size w W4) := Lib.hid (hb2.trans (h5.mono hb2.size))
    have HH1 := Lib.hid h1
    have HH2 := Lib.hid h2
    clear h1 h2 h3 h4 h5 hst ra rb ga gb hSg hba hbb z0 z1 z2 z3 z4 z5 y0 y1 y2 y3 y4 y5 hS
    have hslx : ∀ w, (Instr.sliceAt 37 (.slice sa x.out.length sc) none (some (.int .i64 (x.out.length : Int))) none).run Try.prog w = .ok (.slice sa x.out.length sc) w := by
      intro w
      obtain ⟨ti, hti⟩ : ∃ ti, Try.prog.info? 5 = some ti := by
        cases hx : Try.prog.info? 5 with
        | none => have h : (Try.prog.info? 5).isSome = true := by kernel_rfl
                  rw [hx] at h; cases h
        | some ti => exact ⟨ti, rfl⟩
      rw [run_sliceAt_slice w _ _ _ _ _ (by kernel_rfl), run_slice_h w _ _ _ _ (by kernel_rfl) .i64 _ (by omega) (by omega)]
      have e : (sizeOf 5).run Try.prog w = .ok (Try.prog.cellsOf 5) w := run_sizeOf w hti
      have e2 : Try.prog.elem 37 = 5 := by kernel_rfl
      have e3 : Try.prog.cellsOf 5 = 1 := by kernel_rfl
      rw [e2, e, e3]
      simp [sliced, Result.andThen, Addr.add] <;> omega
    have hsly : ∀ w, (Instr.sliceAt 37 (.slice ta y.out.length tc) none (some (.int .i64 (x.out.length : Int))) none).run Try.prog w = .ok (.slice ta x.out.length tc) w := by
      intro w
      obtain ⟨ti, hti⟩ : ∃ ti, Try.prog.info? 5 = some ti := by
        cases hx : Try.prog.info? 5 with
        | none => have h : (Try.prog.info? 5).isSome = true := by kernel_rfl
                  rw [hx] at h; cases h
        | some ti => exact ⟨ti, rfl⟩
      rw [run_sliceAt_slice w _ _ _ _ _ (by kernel_rfl), run_slice_h w _ _ _ _ (by kernel_rfl) .i64 _ (by omega) (by omega)]
      have e : (sizeOf 5).run Try.prog w = .ok (Try.prog.cellsOf 5) w := run_sizeOf w hti
      have e2 : Try.prog.elem 37 = 5 := by kernel_rfl
      have e3 : Try.prog.cellsOf 5 = 1 := by kernel_rfl
      rw [e2, e, e3]
      simp [sliced, Result.andThen, Addr.add] <;> omega
    have HX5 := Lib.hid (BytesAt.take HX1.out x.out.length)
    have HX6 := Lib.hid (BytesAt.take HX2.out x.out.length)
    have HT : Hid (sameR ⟨0, 0, x.out.take x.out.length⟩ ⟨0, 0, y.out.take x.out.length⟩ = true) := Lib.hid (by unfold sameR; rw [HXY.out]; simp)
    have hlt1 : (x.out.take x.out.length).length = x.out.length := by rw [List.length_take]; omega
    have hlt2 : (y.out.take x.out.length).length = x.out.length := by rw [List.length_take]; omega
    have HR : ∀ w', Below W4.heap.size W4 w' → Calls Try.prog 47 #[.agg #[.int .i64 0, .int .i64 0, .slice sa x.out.length sc], .agg #[.int .i64 0, .int .i64 0, .slice ta x.out.length tc]] w' (RPost (.bool true) w') := fun w' h => by
      have h9 := result_v ⟨0, 0, x.out.take x.out.length⟩ ⟨0, 0, y.out.take x.out.length⟩ sa ta sc tc true w' (HX5.out.below h) (HX6.out.below h) (by show (x.out.take x.out.length).length ≤ maxLen; omega) (by show (y.out.take x.out.length).length ≤ maxLen; omega) HT.out
      unfold rsV at h9
      simp only [hlt1, hlt2] at h9
      exact h9
    clear hlt1 hlt2
    go_wp2
    all_goals first | (exfalso; omega) | skip
    go_region_with ((with_reducible refine (HR _ (drW (Below.refl _ _))).mono ?_); rintro e v6 ⟨rfl, hb6⟩; have HB6 := Lib.hid hb6; clear hb6)
    all_goals go_wp2
    all_goals go_ret
    all_goals exact ⟨rfl, HB4.out.trans (((drW (Below.refl W4.heap.size W4)).trans (show Below W4.heap.size W4.drew v6 from HB6.out)).mono HB4.out.size)⟩
set_option maxHeartbeats 8000000 in
set_option maxRecDepth 100000 in
theorem does_c (Ua Ub : UnR) (ia : Option Addr) (inp : List UInt8) (ic : Nat) (fuel : Int) (w : World) (x y : Rsu) (hUa : UnAt w w.heap.size Ua) (hUb : UnAt w w.heap.size Ub) (hin : InAt w (.slice ia inp.length ic) inp) (hx : runU Ua.un inp fuel = x) (hy : runU Ub.un inp fuel = y)
    (hfx : x.fin ≠ 4) (hfy : y.fin = 4) (hle : y.out.length < x.out.length) (hxy : x.out.take y.out.length = y.out.take y.out.length) :
    Calls Try.prog 22 #[unV Ua, unV Ub, .slice ia inp.length ic, .int .i64 fuel] w (RPost (.bool true) w) := by
  have HXY := Lib.hid hxy; clear hxy
  have t0 : (x.fin != (4 : Int)) = true := by simpa using hfx
  have t1 : (y.fin != (4 : Int)) = false := by simpa using hfy
  clear hfx hfy
  have hsz : ((w.alloc (unO Ua)).alloc (unO Ub)).heap.size = w.heap.size + 2 := by simp
  have hb2 : Below w.heap.size w ((w.alloc (unO Ua)).alloc (unO Ub)) := ((Below.refl _ _).alloc (Nat.le_refl _) _).alloc (by simp) _
  have hba : ((w.alloc (unO Ua)).alloc (unO Ub)).heap[w.heap.size]? = some (unO Ua) := (Below.heap_alloc _ _ _ (by simp)).trans (heap_alloc_new w _)
  have hbb : ((w.alloc (unO Ua)).alloc (unO Ub)).heap[w.heap.size + 1]? = some (unO Ub) := by have := heap_alloc_new (w.alloc (unO Ua)) (unO Ub); rw [World.size_alloc] at this; exact this
  go_enter Try.func22, Try.ntmps22
  go_wp2
  obtain ⟨W2, hW2⟩ : ∃ wS : World, (w.alloc (unO Ua)).alloc (unO Ub) = wS := ⟨_, rfl⟩
  rw [hW2] at hsz hb2 hba hbb
  rw [hW2]
  clear hW2
  have ra : ∀ w', Below W2.heap.size W2 w' → Calls Try.prog 46 #[unV Ua, .slice ia inp.length ic, .int .i64 fuel] w' (RunPost x w') := fun w' h => hx ▸ run_any Ua ia inp ic fuel w.heap.size w' (hUa.below (hb2.trans (h.mono (by omega)))) (by have := h.size; omega) (hin.below (hb2.trans (h.mono (by omega))))
  have rb : ∀ w', Below W2.heap.size W2 w' → Calls Try.prog 46 #[unV Ub, .slice ia inp.length ic, .int .i64 fuel] w' (RunPost y w') := fun w' h => hy ▸ run_any Ub ia inp ic fuel w.heap.size w' (hUb.below (hb2.trans (h.mono (by omega)))) (by have := h.size; omega) (hin.below (hb2.trans (h.mono (by omega))))
  have ga : ∀ {w' : World}, Below W2.heap.size W2 w' → w'.heap[w.heap.size]? = some (unO Ua) := fun h => (h.block _ (by omega)).trans hba
  have gb : ∀ {w' : World}, Below W2.heap.size W2 w' → w'.heap[w.heap.size + 1]? = some (unO Ub) := fun h => (h.block _ (by omega)).trans hbb
  clear hx hy
  have hmix : Try.prog.follows .mixedOrders = true := by kernel_rfl
  have hSg : ∀ {w' : World}, Below W2.heap.size W2 w' → (w'.cell? ⟨w.heap.size, 0, none⟩ = some (.slice Ua.fa Ua.fs.length Ua.fc) ∧ w'.cell? ⟨w.heap.size, 1, none⟩ = some (.slice Ua.ga Ua.gs.length Ua.gc) ∧ w'.cell? ⟨w.heap.size, 2, none⟩ = some (.int .i64 Ua.top) ∧ w'.cell? ⟨w.heap.size + 1, 0, none⟩ = some (.slice Ub.fa Ub.fs.length Ub.fc) ∧ w'.cell? ⟨w.heap.size + 1, 1, none⟩ = some (.slice Ub.ga Ub.gs.length Ub.gc) ∧ w'.cell? ⟨w.heap.size + 1, 2, none⟩ = some (.int .i64 Ub.top)) := fun h => by
    obtain ⟨a0, a1, a2⟩ := nv3 (ga h)
    obtain ⟨b0, b1, b2⟩ := nv3 (gb h)
    exact ⟨a0, a1, a2, b0, b1, b2⟩
  refine region_lastS (fun w' => w'.cell? ⟨w.heap.size, 0, none⟩ = some (.slice Ua.fa Ua.fs.length Ua.fc) ∧ w'.cell? ⟨w.heap.size, 1, none⟩ = some (.slice Ua.ga Ua.gs.length Ua.gc) ∧ w'.cell? ⟨w.heap.size, 2, none⟩ = some (.int .i64 Ua.top) ∧ w'.cell? ⟨w.heap.size + 1, 0, none⟩ = some (.slice Ub.fa Ub.fs.length Ub.fc) ∧ w'.cell? ⟨w.heap.size + 1, 1, none⟩ = some (.slice Ub.ga Ub.gs.length Ub.gc) ∧ w'.cell? ⟨w.heap.size + 1, 2, none⟩ = some (.int .i64 Ub.top)) 11 hmix (hSg (drW (Below.refl _ _))) (fun hS => ?main)
  refine anyL_take (i := 0) (v := ?_) rfl rfl (by kernel_rfl) (by kernel_rfl) (by kernel_rfl) (by kernel_rfl) (fun _ _ _ h => h) (Or.inl ⟨by rfl, ?_⟩) hS ?_
  rotate_left
  · (intro w' hSw; obtain ⟨k0, k1, k2, k3, k4, k5⟩ := hSw; go_simp; first | done | with_reducible rfl)
  simp only [Act.put, zA, zB, zC, zD, zE, zF]
  refine anyL_take (i := 1) (v := ?_) rfl rfl (by kernel_rfl) (by kernel_rfl) (by kernel_rfl) (by kernel_rfl) (fun _ _ _ h => h) (Or.inl ⟨by rfl, ?_⟩) hS ?_
  rotate_left
  · (intro w' hSw; obtain ⟨k0, k1, k2, k3, k4, k5⟩ := hSw; go_simp; first | done | with_reducible rfl)
  simp only [Act.put, zA, zB, zC, zD, zE, zF]
  refine anyL_take (i := 2) (v := ?_) rfl rfl (by kernel_rfl) (by kernel_rfl) (by kernel_rfl) (by kernel_rfl) (fun _ _ _ h => h) (Or.inl ⟨by rfl, ?_⟩) hS ?_
  rotate_left
  · (intro w' hSw; obtain ⟨k0, k1, k2, k3, k4, k5⟩ := hSw; go_simp; first | done | with_reducible rfl)
  simp only [Act.put, zA, zB, zC, zD, zE, zF]
  refine anyL_take (i := 4) (v := ?_) rfl rfl (by kernel_rfl) (by kernel_rfl) (by kernel_rfl) (by kernel_rfl) (fun _ _ _ h => h) (Or.inl ⟨by rfl, ?_⟩) hS ?_
  rotate_left
  · (intro w' hSw; obtain ⟨k0, k1, k2, k3, k4, k5⟩ := hSw; go_simp; first | done | with_reducible rfl)
  simp only [Act.put, zA, zB, zC, zD, zE, zF]
  refine anyL_take (i := 5) (v := ?_) rfl rfl (by kernel_rfl) (by kernel_rfl) (by kernel_rfl) (by kernel_rfl) (fun _ _ _ h => h) (Or.inl ⟨by rfl, ?_⟩) hS ?_
  rotate_left
  · (intro w' hSw; obtain ⟨k0, k1, k2, k3, k4, k5⟩ := hSw; go_simp; first | done | with_reducible rfl)
  simp only [Act.put, zA, zB, zC, zD, zE, zF]
  refine anyL_take (i := 6) (v := ?_) rfl rfl (by kernel_rfl) (by kernel_rfl) (by kernel_rfl) (by kernel_rfl) (fun _ _ _ h => h) (Or.inl ⟨by rfl, ?_⟩) hS ?_
  rotate_left
  · (intro w' hSw; obtain ⟨k0, k1, k2, k3, k4, k5⟩ := hSw; go_simp; first | done | with_reducible rfl)
  simp only [Act.put, zA, zB, zC, zD, zE, zF]
  refine pair_run W2 x y resO 3 7 8 9 10 15 19 9 10 _ _ _ _ rfl rfl rfl rfl (by decide) (by decide) (by kernel_rfl) (fun _ h => hSg h) ?cA ?cB ?cP ?cQ 2 ?hend 4 0 none none none none _ (by omega) rfl rfl rfl ⟨drW (Below.refl _ _), by simp, by simp, by simp, by simp, by simp, by simp, by simp, by simp, by simp⟩
  case cA =>
    intro p q w' K' hb hK
    cases p <;> cases q <;> simp only [A4, putO] <;> (go_simp; refine (ra w' hb).mono ?_; rintro e v5 ⟨xa, xc, rfl, hox, hbx⟩; exact hK (xa, xc) v5 hox hbx)
  case cB =>
    intro v p q w' K' hb hK
    cases p <;> cases q <;> simp only [A4, putO] <;> (go_simp; refine (rb w' hb).mono ?_; rintro e v5 ⟨xa, xc, rfl, hox, hbx⟩; exact hK (xa, xc) v5 hox hbx)
  case cP =>
    intro b w' K' hK
    go_simp
    exact hK
  case cQ =>
    intro b w' K' hK
    go_simp
    exact hK
  case hend =>
    intro s t b d w' hst
    obtain ⟨sa, sc⟩ := s
    obtain ⟨ta, tc⟩ := t
    have hbd := hst.pq b d rfl rfl
    obtain ⟨z0, z1, z2⟩ := frozen3 (hst.boxP b rfl).1
    obtain ⟨y0, y1, y2⟩ := nv3 (hst.boxP b rfl).1
    obtain ⟨z3, z4, z5⟩ := frozen3 (hst.boxQ d rfl).1
    obtain ⟨y3, y4, y5⟩ := nv3 (hst.boxQ d rfl).1
    simp only [A4, putO, resX, ptrB]
    refine anyL_one (i := 10) (by kernel_rfl) rfl (fun K1 hK1 => ?_)
    go_simp
    refine hK1.out _ _ (fun _ => ?_) ?_
    · exact hSg (((hst.bel.setCell (show W2.heap.size ≤ b from (hst.boxP b rfl).2) _).setCell (show W2.heap.size ≤ b from (hst.boxP b rfl).2) _).setCell (show W2.heap.size ≤ b from (hst.boxP b rfl).2) _)
    clear hK1 K1
    obtain ⟨h1, h2, h3, h4, h5⟩ := hst.both
    refine anyL_one (i := 11) (by kernel_rfl) rfl (fun K1 hK1 => ?_)
    go_simp
    refine hK1.out _ _ (fun h => absurd rfl h) ?_
    clear hK1 K1
    refine anyL_done (by kernel_rfl) ?_ _
    obtain ⟨W4, hW4⟩ : ∃ wS : World, (((((w'.setCell ⟨b, 0, none⟩ (.int .i64 x.fin)).setCell ⟨b, 1, none⟩ (.int .i64 x.code)).setCell ⟨b, 2, none⟩ (.slice sa x.out.length sc)).setCell ⟨d, 0, none⟩ (.int .i64 y.fin)).setCell ⟨d, 1, none⟩ (.int .i64 y.code)).setCell ⟨d, 2, none⟩ (.slice ta y.out.length tc) = wS := ⟨_, rfl⟩
    simp only at h1 h2 h3 h4 h5
    rw [hW4] at h1 h2 h3 h4 h5
    rw [hW4]
    clear hW4
    have HX1 : Hid (BytesAt W4 sa x.out) := Lib.hid (bytes_of_own h3)
    have HX2 : Hid (BytesAt W4 ta y.out) := Lib.hid (bytes_of_own h4)
    have hlx : x.out.length ≤ maxLen := Nat.le_trans (own_capW h3).1 (own_capW h3).2
    have hly : y.out.length ≤ maxLen := Nat.le_trans (own_capW h4).1 (own_capW h4).2
    have hcx := (own_capW h3).1
    have hcy := (own_capW h4).1
    simp only at hcx hcy
    obtain ⟨c0, c1, c2⟩ := nv3 h1
    obtain ⟨e0, e1, e2⟩ := nv3 h2
    have HB4 : Hid (Below w.heap.size w W4) := Lib.hid (hb2.trans (h5.mono hb2.size))
    have HH1 := Lib.hid h1
    have HH2 := Lib.hid h2
    clear h1 h2 h3 h4 h5 hst ra rb ga gb hSg hba hbb z0 z1 z2 z3 z4 z5 y0 y1 y2 y3 y4 y5 hS
    have hslx : ∀ w, (Instr.sliceAt 37 (.slice sa x.out.length sc) none (some (.int .i64 (y.out.length : Int))) none).run Try.prog w = .ok (.slice sa y.out.length sc) w := by
      intro w
      obtain ⟨ti, hti⟩ : ∃ ti, Try.prog.info? 5 = some ti := by
        cases hx : Try.prog.info? 5 with
        | none => have h : (Try.prog.info? 5).isSome = true := by kernel_rfl
                  rw [hx] at h; cases h
        | some ti => exact ⟨ti, rfl⟩
      rw [run_sliceAt_slice w _ _ _ _ _ (by kernel_rfl), run_slice_h w _ _ _ _ (by kernel_rfl) .i64 _ (by omega) (by omega)]
      have e : (sizeOf 5).run Try.prog w = .ok (Try.prog.cellsOf 5) w := run_sizeOf w hti
      have e2 : Try.prog.elem 37 = 5 := by kernel_rfl
      have e3 : Try.prog.cellsOf 5 = 1 := by kernel_rfl
      rw [e2, e, e3]
      simp [sliced, Result.andThen, Addr.add] <;> omega
    have hsly : ∀ w, (Instr.sliceAt 37 (.slice ta y.out.length tc) none (some (.int .i64 (y.out.length : Int))) none).run Try.prog w = .ok (.slice ta y.out.length tc) w := by
      intro w
      obtain ⟨ti, hti⟩ : ∃ ti, Try.prog.info? 5 = some ti := by
        cases hx : Try.prog.info? 5 with
        | none => have h : (Try.prog.info? 5).isSome = true := by kernel_rfl
                  rw [hx] at h; cases h
        | some ti => exact ⟨ti, rfl⟩
      rw [run_sliceAt_slice w _ _ _ _ _ (by kernel_rfl), run_slice_h w _ _ _ _ (by kernel_rfl) .i64 _ (by omega) (by omega)]
      have e : (sizeOf 5).run Try.prog w = .ok (Try.prog.cellsOf 5) w := run_sizeOf w hti
      have e2 : Try.prog.elem 37 = 5 := by kernel_rfl
      have e3 : Try.prog.cellsOf 5 = 1 := by kernel_rfl
      rw [e2, e, e3]
      simp [sliced, Result.andThen, Addr.add] <;> omega
    have HX5 := Lib.hid (BytesAt.take HX1.out y.out.length)
    have HX6 := Lib.hid (BytesAt.take HX2.out y.out.length)
    have HT : Hid (sameR ⟨0, 0, x.out.take y.out.length⟩ ⟨0, 0, y.out.take y.out.length⟩ = true) := Lib.hid (by unfold sameR; rw [HXY.out]; simp)
    have hlt1 : (x.out.take y.out.length).length = y.out.length := by rw [List.length_take]; omega
    have hlt2 : (y.out.take y.out.length).length = y.out.length := by rw [List.length_take]; omega
    have HR : ∀ w', Below W4.heap.size W4 w' → Calls Try.prog 47 #[.agg #[.int .i64 0, .int .i64 0, .slice sa y.out.length sc], .agg #[.int .i64 0, .int .i64 0, .slice ta y.out.length tc]] w' (RPost (.bool true) w') := fun w' h => by
      have h9 := result_v ⟨0, 0, x.out.take y.out.length⟩ ⟨0, 0, y.out.take y.out.length⟩ sa ta sc tc true w' (HX5.out.below h) (HX6.out.below h) (by show (x.out.take y.out.length).length ≤ maxLen; omega) (by show (y.out.take y.out.length).length ≤ maxLen; omega) HT.out
      unfold rsV at h9
      simp only [hlt1, hlt2] at h9
      exact h9
    clear hlt1 hlt2
    go_wp2
    all_goals first | (exfalso; omega) | skip
    go_region_with ((with_reducible refine (HR _ (drW (Below.refl _ _))).mono ?_); rintro e v6 ⟨rfl, hb6⟩; have HB6 := Lib.hid hb6; clear hb6)
    all_goals go_wp2
    all_goals go_ret
    all_goals exact ⟨rfl, HB4.out.trans (((drW (Below.refl W4.heap.size W4)).trans (show Below W4.heap.size W4.drew v6 from HB6.out)).mono HB4.out.size)⟩
set_option maxHeartbeats 8000000 in
set_option maxRecDepth 100000 in
theorem does_d (Ua Ub : UnR) (ia : Option Addr) (inp : List UInt8) (ic : Nat) (fuel : Int) (w : World) (x y : Rsu) (hUa : UnAt w w.heap.size Ua) (hUb : UnAt w w.heap.size Ub) (hin : InAt w (.slice ia inp.length ic) inp) (hx : runU Ua.un inp fuel = x) (hy : runU Ub.un inp fuel = y)
    (hfx : x.fin ≠ 4) (hfy : y.fin = 4) (hle : x.out.length ≤ y.out.length) (hle2 : y.out.length ≤ x.out.length) (hxy : x.out.take x.out.length = y.out.take x.out.length) :
    Calls Try.prog 22 #[unV Ua, unV Ub, .slice ia inp.length ic, .int .i64 fuel] w (RPost (.bool true) w) := by
  have HXY := Lib.hid hxy; clear hxy
  have t0 : (x.fin != (4 : Int)) = true := by simpa using hfx
  have t1 : (y.fin != (4 : Int)) = false := by simpa using hfy
  clear hfx hfy
  have hsz : ((w.alloc (unO Ua)).alloc (unO Ub)).heap.size = w.heap.size + 2 := by simp
  have hb2 : Below w.heap.size w ((w.alloc (unO Ua)).alloc (unO Ub)) := ((Below.refl _ _).alloc (Nat.le_refl _) _).alloc (by simp) _
  have hba : ((w.alloc (unO Ua)).alloc (unO Ub)).heap[w.heap.size]? = some (unO Ua) := (Below.heap_alloc _ _ _ (by simp)).trans (heap_alloc_new w _)
  have hbb : ((w.alloc (unO Ua)).alloc (unO Ub)).heap[w.heap.size + 1]? = some (unO Ub) := by have := heap_alloc_new (w.alloc (unO Ua)) (unO Ub); rw [World.size_alloc] at this; exact this
  go_enter Try.func22, Try.ntmps22
  go_wp2
  obtain ⟨W2, hW2⟩ : ∃ wS : World, (w.alloc (unO Ua)).alloc (unO Ub) = wS := ⟨_, rfl⟩
  rw [hW2] at hsz hb2 hba hbb
  rw [hW2]
  clear hW2
  have ra : ∀ w', Below W2.heap.size W2 w' → Calls Try.prog 46 #[unV Ua, .slice ia inp.length ic, .int .i64 fuel] w' (RunPost x w') := fun w' h => hx ▸ run_any Ua ia inp ic fuel w.heap.size w' (hUa.below (hb2.trans (h.mono (by omega)))) (by have := h.size; omega) (hin.below (hb2.trans (h.mono (by omega))))
  have rb : ∀ w', Below W2.heap.size W2 w' → Calls Try.prog 46 #[unV Ub, .slice ia inp.length ic, .int .i64 fuel] w' (RunPost y w') := fun w' h => hy ▸ run_any Ub ia inp ic fuel w.heap.size w' (hUb.below (hb2.trans (h.mono (by omega)))) (by have := h.size; omega) (hin.below (hb2.trans (h.mono (by omega))))
  have ga : ∀ {w' : World}, Below W2.heap.size W2 w' → w'.heap[w.heap.size]? = some (unO Ua) := fun h => (h.block _ (by omega)).trans hba
  have gb : ∀ {w' : World}, Below W2.heap.size W2 w' → w'.heap[w.heap.size + 1]? = some (unO Ub) := fun h => (h.block _ (by omega)).trans hbb
  clear hx hy
  have hmix : Try.prog.follows .mixedOrders = true := by kernel_rfl
  have hSg : ∀ {w' : World}, Below W2.heap.size W2 w' → (w'.cell? ⟨w.heap.size, 0, none⟩ = some (.slice Ua.fa Ua.fs.length Ua.fc) ∧ w'.cell? ⟨w.heap.size, 1, none⟩ = some (.slice Ua.ga Ua.gs.length Ua.gc) ∧ w'.cell? ⟨w.heap.size, 2, none⟩ = some (.int .i64 Ua.top) ∧ w'.cell? ⟨w.heap.size + 1, 0, none⟩ = some (.slice Ub.fa Ub.fs.length Ub.fc) ∧ w'.cell? ⟨w.heap.size + 1, 1, none⟩ = some (.slice Ub.ga Ub.gs.length Ub.gc) ∧ w'.cell? ⟨w.heap.size + 1, 2, none⟩ = some (.int .i64 Ub.top)) := fun h => by
    obtain ⟨a0, a1, a2⟩ := nv3 (ga h)
    obtain ⟨b0, b1, b2⟩ := nv3 (gb h)
    exact ⟨a0, a1, a2, b0, b1, b2⟩
  refine region_lastS (fun w' => w'.cell? ⟨w.heap.size, 0, none⟩ = some (.slice Ua.fa Ua.fs.length Ua.fc) ∧ w'.cell? ⟨w.heap.size, 1, none⟩ = some (.slice Ua.ga Ua.gs.length Ua.gc) ∧ w'.cell? ⟨w.heap.size, 2, none⟩ = some (.int .i64 Ua.top) ∧ w'.cell? ⟨w.heap.size + 1, 0, none⟩ = some (.slice Ub.fa Ub.fs.length Ub.fc) ∧ w'.cell? ⟨w.heap.size + 1, 1, none⟩ = some (.slice Ub.ga Ub.gs.length Ub.gc) ∧ w'.cell? ⟨w.heap.size + 1, 2, none⟩ = some (.int .i64 Ub.top)) 11 hmix (hSg (drW (Below.refl _ _))) (fun hS => ?main)
  refine anyL_take (i := 0) (v := ?_) rfl rfl (by kernel_rfl) (by kernel_rfl) (by kernel_rfl) (by kernel_rfl) (fun _ _ _ h => h) (Or.inl ⟨by rfl, ?_⟩) hS ?_
  rotate_left
  · (intro w' hSw; obtain ⟨k0, k1, k2, k3, k4, k5⟩ := hSw; go_simp; first | done | with_reducible rfl)
  simp only [Act.put, zA, zB, zC, zD, zE, zF]
  refine anyL_take (i := 1) (v := ?_) rfl rfl (by kernel_rfl) (by kernel_rfl) (by kernel_rfl) (by kernel_rfl) (fun _ _ _ h => h) (Or.inl ⟨by rfl, ?_⟩) hS ?_
  rotate_left
  · (intro w' hSw; obtain ⟨k0, k1, k2, k3, k4, k5⟩ := hSw; go_simp; first | done | with_reducible rfl)
  simp only [Act.put, zA, zB, zC, zD, zE, zF]
  refine anyL_take (i := 2) (v := ?_) rfl rfl (by kernel_rfl) (by kernel_rfl) (by kernel_rfl) (by kernel_rfl) (fun _ _ _ h => h) (Or.inl ⟨by rfl, ?_⟩) hS ?_
  rotate_left
  · (intro w' hSw; obtain ⟨k0, k1, k2, k3, k4, k5⟩ := hSw; go_simp; first | done | with_reducible rfl)
  simp only [Act.put, zA, zB, zC, zD, zE, zF]
  refine anyL_take (i := 4) (v := ?_) rfl rfl (by kernel_rfl) (by kernel_rfl) (by kernel_rfl) (by kernel_rfl) (fun _ _ _ h => h) (Or.inl ⟨by rfl, ?_⟩) hS ?_
  rotate_left
  · (intro w' hSw; obtain ⟨k0, k1, k2, k3, k4, k5⟩ := hSw; go_simp; first | done | with_reducible rfl)
  simp only [Act.put, zA, zB, zC, zD, zE, zF]
  refine anyL_take (i := 5) (v := ?_) rfl rfl (by kernel_rfl) (by kernel_rfl) (by kernel_rfl) (by kernel_rfl) (fun _ _ _ h => h) (Or.inl ⟨by rfl, ?_⟩) hS ?_
  rotate_left
  · (intro w' hSw; obtain ⟨k0, k1, k2, k3, k4, k5⟩ := hSw; go_simp; first | done | with_reducible rfl)
  simp only [Act.put, zA, zB, zC, zD, zE, zF]
  refine anyL_take (i := 6) (v := ?_) rfl rfl (by kernel_rfl) (by kernel_rfl) (by kernel_rfl) (by kernel_rfl) (fun _ _ _ h => h) (Or.inl ⟨by rfl, ?_⟩) hS ?_
  rotate_left
  · (intro w' hSw; obtain ⟨k0, k1, k2, k3, k4, k5⟩ := hSw; go_simp; first | done | with_reducible rfl)
  simp only [Act.put, zA, zB, zC, zD, zE, zF]
  refine pair_run W2 x y resO 3 7 8 9 10 15 19 9 10 _ _ _ _ rfl rfl rfl rfl (by decide) (by decide) (by kernel_rfl) (fun _ h => hSg h) ?cA ?cB ?cP ?cQ 2 ?hend 4 0 none none none none _ (by omega) rfl rfl rfl ⟨drW (Below.refl _ _), by simp, by simp, by simp, by simp, by simp, by simp, by simp, by simp, by simp⟩
  case cA =>
    intro p q w' K' hb hK
    cases p <;> cases q <;> simp only [A4, putO] <;> (go_simp; refine (ra w' hb).mono ?_; rintro e v5 ⟨xa, xc, rfl, hox, hbx⟩; exact hK (xa, xc) v5 hox hbx)
  case cB =>
    intro v p q w' K' hb hK
    cases p <;> cases q <;> simp only [A4, putO] <;> (go_simp; refine (rb w' hb).mono ?_; rintro e v5 ⟨xa, xc, rfl, hox, hbx⟩; exact hK (xa, xc) v5 hox hbx)
  case cP =>
    intro b w' K' hK
    go_simp
    exact hK
  case cQ =>
    intro b w' K' hK
    go_simp
    exact hK
  case hend =>
    intro s t b d w' hst
    obtain ⟨sa, sc⟩ := s
    obtain ⟨ta, tc⟩ := t
    have hbd := hst.pq b d rfl rfl
    obtain ⟨z0, z1, z2⟩ := frozen3 (hst.boxP b rfl).1
    obtain ⟨y0, y1, y2⟩ := nv3 (hst.boxP b rfl).1
    obtain ⟨z3, z4, z5⟩ := frozen3 (hst.boxQ d rfl).1
    obtain ⟨y3, y4, y5⟩ := nv3 (hst.boxQ d rfl).1
    simp only [A4, putO, resX, ptrB]
    refine anyL_one (i := 10) (by kernel_rfl) rfl (fun K1 hK1 => ?_)
    go_simp
    refine hK1.out _ _ (fun _ => ?_) ?_
    · exact hSg (((hst.bel.setCell (show W2.heap.size ≤ b from (hst.boxP b rfl).2) _).setCell (show W2.heap.size ≤ b from (hst.boxP b rfl).2) _).setCell (show W2.heap.size ≤ b from (hst.boxP b rfl).2) _)
    clear hK1 K1
    obtain ⟨h1, h2, h3, h4, h5⟩ := hst.both
    refine anyL_one (i := 11) (by kernel_rfl) rfl (fun K1 hK1 => ?_)
    go_simp
    refine hK1.out _ _ (fun h => absurd rfl h) ?_
    clear hK1 K1
    refine anyL_done (by kernel_rfl) ?_ _
    obtain ⟨W4, hW4⟩ : ∃ wS : World, (((((w'.setCell ⟨b, 0, none⟩ (.int .i64 x.fin)).setCell ⟨b, 1, none⟩ (.int .i64 x.code)).setCell ⟨b, 2, none⟩ (.slice sa x.out.length sc)).setCell ⟨d, 0, none⟩ (.int .i64 y.fin)).setCell ⟨d, 1, none⟩ (.int .i64 y.code)).setCell ⟨d, 2, none⟩ (.slice ta y.out.length tc) = wS := ⟨_, rfl⟩
    simp only at h1 h2 h3 h4 h5
    rw [hW4] at h1 h2 h3 h4 h5
    rw [hW4]
    clear hW4
    have HX1 : Hid (BytesAt W4 sa x.out) := Lib.hid (bytes_of_own h3)
    have HX2 : Hid (BytesAt W4 ta y.out) := Lib.hid (bytes_of_own h4)
    have hlx : x.out.length ≤ maxLen := Nat.le_trans (own_capW h3).1 (own_capW h3).2
    have hly : y.out.length ≤ maxLen := Nat.le_trans (own_capW h4).1 (own_capW h4).2
    have hcx := (own_capW h3).1
    have hcy := (own_capW h4).1
    simp only at hcx hcy
    obtain ⟨c0, c1, c2⟩ := nv3 h1
    obtain ⟨e0, e1, e2⟩ := nv3 h2
    have HB4 : Hid (Below w.heap.size w W4) := Lib.hid (hb2.trans (h5.mono hb2.size))
    have HH1 := Lib.hid h1
    have HH2 := Lib.hid h2
    clear h1 h2 h3 h4 h5 hst ra rb ga gb hSg hba hbb z0 z1 z2 z3 z4 z5 y0 y1 y2 y3 y4 y5 hS
    have hslx : ∀ w, (Instr.sliceAt 37 (.slice sa x.out.length sc) none (some (.int .i64 (x.out.length : Int))) none).run Try.prog w = .ok (.slice sa x.out.length sc) w := by
      intro w
      obtain ⟨ti, hti⟩ : ∃ ti, Try.prog.info? 5 = some ti := by
        cases hx : Try.prog.info? 5 with
        | none => have h : (Try.prog.info? 5).isSome = true := by kernel_rfl
                  rw [hx] at h; cases h
        | some ti => exact ⟨ti, rfl⟩
      rw [run_sliceAt_slice w _ _ _ _ _ (by kernel_rfl), run_slice_h w _ _ _ _ (by kernel_rfl) .i64 _ (by omega) (by omega)]
      have e : (sizeOf 5).run Try.prog w = .ok (Try.prog.cellsOf 5) w := run_sizeOf w hti
      have e2 : Try.prog.elem 37 = 5 := by kernel_rfl
      have e3 : Try.prog.cellsOf 5 = 1 := by kernel_rfl
      rw [e2, e, e3]
      simp [sliced, Result.andThen, Addr.add] <;> omega
    have hsly : ∀ w, (Instr.sliceAt 37 (.slice ta y.out.length tc) none (some (.int .i64 (x.out.length : Int))) none).run Try.prog w = .ok (.slice ta x.out.length tc) w := by
      intro w
      obtain ⟨ti, hti⟩ : ∃ ti, Try.prog.info? 5 = some ti := by
        cases hx : Try.prog.info? 5 with
        | none => have h : (Try.prog.info? 5).isSome = true := by kernel_rfl
                  rw [hx] at h; cases h
        | some ti => exact ⟨ti, rfl⟩
      rw [run_sliceAt_slice w _ _ _ _ _ (by kernel_rfl), run_slice_h w _ _ _ _ (by kernel_rfl) .i64 _ (by omega) (by omega)]
      have e : (sizeOf 5).run Try.prog w = .ok (Try.prog.cellsOf 5) w := run_sizeOf w hti
      have e2 : Try.prog.elem 37 = 5 := by kernel_rfl
      have e3 : Try.prog.cellsOf 5 = 1 := by kernel_rfl
      rw [e2, e, e3]
      simp [sliced, Result.andThen, Addr.add] <;> omega
    have HX5 := Lib.hid (BytesAt.take HX1.out x.out.length)
    have HX6 := Lib.hid (BytesAt.take HX2.out x.out.length)
    have HT : Hid (sameR ⟨0, 0, x.out.take x.out.length⟩ ⟨0, 0, y.out.take x.out.length⟩ = true) := Lib.hid (by unfold sameR; rw [HXY.out]; simp)
    have hlt1 : (x.out.take x.out.length).length = x.out.length := by rw [List.length_take]; omega
    have hlt2 : (y.out.take x.out.length).length = x.out.length := by rw [List.length_take]; omega
    have HR : ∀ w', Below W4.heap.size W4 w' → Calls Try.prog 47 #[.agg #[.int .i64 0, .int .i64 0, .slice sa x.out.length sc], .agg #[.int .i64 0, .int .i64 0, .slice ta x.out.length tc]] w' (RPost (.bool true) w') := fun w' h => by
      have h9 := result_v ⟨0, 0, x.out.take x.out.length⟩ ⟨0, 0, y.out.take x.out.length⟩ sa ta sc tc true w' (HX5.out.below h) (HX6.out.below h) (by show (x.out.take x.out.length).length ≤ maxLen; omega) (by show (y.out.take x.out.length).length ≤ maxLen; omega) HT.out
      unfold rsV at h9
      simp only [hlt1, hlt2] at h9
      exact h9
    clear hlt1 hlt2
    go_wp2
    all_goals first | (exfalso; omega) | skip
    go_region_with ((with_reducible refine (HR _ (drW (Below.refl _ _))).mono ?_); rintro e v6 ⟨rfl, hb6⟩; have HB6 := Lib.hid hb6; clear hb6)
    all_goals go_wp2
    all_goals go_ret
    all_goals exact ⟨rfl, HB4.out.trans (((drW (Below.refl W4.heap.size W4)).trans (show Below W4.heap.size W4.drew v6 from HB6.out)).mono HB4.out.size)⟩
set_option maxHeartbeats 8000000 in
set_option maxRecDepth 100000 in
theorem does_e (Ua Ub : UnR) (ia : Option Addr) (inp : List UInt8) (ic : Nat) (fuel : Int) (w : World) (x y : Rsu) (hUa : UnAt w w.heap.size Ua) (hUb : UnAt w w.heap.size Ub) (hin : InAt w (.slice ia inp.length ic) inp) (hx : runU Ua.un inp fuel = x) (hy : runU Ub.un inp fuel = y)
    (hfx : x.fin = 4) (hfy : y.fin ≠ 4) (hle : x.out.length ≤ y.out.length) (hxy : x.out.take x.out.length = y.out.take x.out.length) :
    Calls Try.prog 22 #[unV Ua, unV Ub, .slice ia inp.length ic, .int .i64 fuel] w (RPost (.bool true) w) := by
  have HXY := Lib.hid hxy; clear hxy
  have t0 : (x.fin != (4 : Int)) = false := by simpa using hfx
  have t1 : (y.fin != (4 : Int)) = true := by simpa using hfy
  clear hfx hfy
  have hsz : ((w.alloc (unO Ua)).alloc (unO Ub)).heap.size = w.heap.size + 2 := by simp
  have hb2 : Below w.heap.size w ((w.alloc (unO Ua)).alloc (unO Ub)) := ((Below.refl _ _).alloc (Nat.le_refl _) _).alloc (by simp) _
  have hba : ((w.alloc (unO Ua)).alloc (unO Ub)).heap[w.heap.size]? = some (unO Ua) := (Below.heap_alloc _ _ _ (by simp)).trans (heap_alloc_new w _)
  have hbb : ((w.alloc (unO Ua)).alloc (unO Ub)).heap[w.heap.size + 1]? = some (unO Ub) := by have := heap_alloc_new (w.alloc (unO Ua)) (unO Ub); rw [World.size_alloc] at this; exact this
  go_enter Try.func22, Try.ntmps22
  go_wp2
  obtain ⟨W2, hW2⟩ : ∃ wS : World, (w.alloc (unO Ua)).alloc (unO Ub) = wS := ⟨_, rfl⟩
  rw [hW2] at hsz hb2 hba hbb
  rw [hW2]
  clear hW2
  have ra : ∀ w', Below W2.heap.size W2 w' → Calls Try.prog 46 #[unV Ua, .slice ia inp.length ic, .int .i64 fuel] w' (RunPost x w') := fun w' h => hx ▸ run_any Ua ia inp ic fuel w.heap.size w' (hUa.below (hb2.trans (h.mono (by omega)))) (by have := h.size; omega) (hin.below (hb2.trans (h.mono (by omega))))
  have rb : ∀ w', Below W2.heap.size W2 w' → Calls Try.prog 46 #[unV Ub, .slice ia inp.length ic, .int .i64 fuel] w' (RunPost y w') := fun w' h => hy ▸ run_any Ub ia inp ic fuel w.heap.size w' (hUb.below (hb2.trans (h.mono (by omega)))) (by have := h.size; omega) (hin.below (hb2.trans (h.mono (by omega))))
  have ga : ∀ {w' : World}, Below W2.heap.size W2 w' → w'.heap[w.heap.size]? = some (unO Ua) := fun h => (h.block _ (by omega)).trans hba
  have gb : ∀ {w' : World}, Below W2.heap.size W2 w' → w'.heap[w.heap.size + 1]? = some (unO Ub) := fun h => (h.block _ (by omega)).trans hbb
  clear hx hy
  have hmix : Try.prog.follows .mixedOrders = true := by kernel_rfl
  have hSg : ∀ {w' : World}, Below W2.heap.size W2 w' → (w'.cell? ⟨w.heap.size, 0, none⟩ = some (.slice Ua.fa Ua.fs.length Ua.fc) ∧ w'.cell? ⟨w.heap.size, 1, none⟩ = some (.slice Ua.ga Ua.gs.length Ua.gc) ∧ w'.cell? ⟨w.heap.size, 2, none⟩ = some (.int .i64 Ua.top) ∧ w'.cell? ⟨w.heap.size + 1, 0, none⟩ = some (.slice Ub.fa Ub.fs.length Ub.fc) ∧ w'.cell? ⟨w.heap.size + 1, 1, none⟩ = some (.slice Ub.ga Ub.gs.length Ub.gc) ∧ w'.cell? ⟨w.heap.size + 1, 2, none⟩ = some (.int .i64 Ub.top)) := fun h => by
    obtain ⟨a0, a1, a2⟩ := nv3 (ga h)
    obtain ⟨b0, b1, b2⟩ := nv3 (gb h)
    exact ⟨a0, a1, a2, b0, b1, b2⟩
  refine region_lastS (fun w' => w'.cell? ⟨w.heap.size, 0, none⟩ = some (.slice Ua.fa Ua.fs.length Ua.fc) ∧ w'.cell? ⟨w.heap.size, 1, none⟩ = some (.slice Ua.ga Ua.gs.length Ua.gc) ∧ w'.cell? ⟨w.heap.size, 2, none⟩ = some (.int .i64 Ua.top) ∧ w'.cell? ⟨w.heap.size + 1, 0, none⟩ = some (.slice Ub.fa Ub.fs.length Ub.fc) ∧ w'.cell? ⟨w.heap.size + 1, 1, none⟩ = some (.slice Ub.ga Ub.gs.length Ub.gc) ∧ w'.cell? ⟨w.heap.size + 1, 2, none⟩ = some (.int .i64 Ub.top)) 11 hmix (hSg (drW (Below.refl _ _))) (fun hS => ?main)
  refine anyL_take (i := 0) (v := ?_) rfl rfl (by kernel_rfl) (by kernel_rfl) (by kernel_rfl) (by kernel_rfl) (fun _ _ _ h => h) (Or.inl ⟨by rfl, ?_⟩) hS ?_
  rotate_left
  · (intro w' hSw; obtain ⟨k0, k1, k2, k3, k4, k5⟩ := hSw; go_simp; first | done | with_reducible rfl)
  simp only [Act.put, zA, zB, zC, zD, zE, zF]
  refine anyL_take (i := 1) (v := ?_) rfl rfl (by kernel_rfl) (by kernel_rfl) (by kernel_rfl) (by kernel_rfl) (fun _ _ _ h => h) (Or.inl ⟨by rfl, ?_⟩) hS ?_
  rotate_left
  · (intro w' hSw; obtain ⟨k0, k1, k2, k3, k4, k5⟩ := hSw; go_simp; first | done | with_reducible rfl)
  simp only [Act.put, zA, zB, zC, zD, zE, zF]
  refine anyL_take (i := 2) (v := ?_) rfl rfl (by kernel_rfl) (by kernel_rfl) (by kernel_rfl) (by kernel_rfl) (fun _ _ _ h => h) (Or.inl ⟨by rfl, ?_⟩) hS ?_
  rotate_left
  · (intro w' hSw; obtain ⟨k0, k1, k2, k3, k4, k5⟩ := hSw; go_simp; first | done | with_reducible rfl)
  simp only [Act.put, zA, zB, zC, zD, zE, zF]
  refine anyL_take (i := 4) (v := ?_) rfl rfl (by kernel_rfl) (by kernel_rfl) (by kernel_rfl) (by kernel_rfl) (fun _ _ _ h => h) (Or.inl ⟨by rfl, ?_⟩) hS ?_
  rotate_left
  · (intro w' hSw; obtain ⟨k0, k1, k2, k3, k4, k5⟩ := hSw; go_simp; first | done | with_reducible rfl)
  simp only [Act.put, zA, zB, zC, zD, zE, zF]
  refine anyL_take (i := 5) (v := ?_) rfl rfl (by kernel_rfl) (by kernel_rfl) (by kernel_rfl) (by kernel_rfl) (fun _ _ _ h => h) (Or.inl ⟨by rfl, ?_⟩) hS ?_
  rotate_left
  · (intro w' hSw; obtain ⟨k0, k1, k2, k3, k4, k5⟩ := hSw; go_simp; first | done | with_reducible rfl)
  simp only [Act.put, zA, zB, zC, zD, zE, zF]
  refine anyL_take (i := 6) (v := ?_) rfl rfl (by kernel_rfl) (by kernel_rfl) (by kernel_rfl) (by kernel_rfl) (fun _ _ _ h => h) (Or.inl ⟨by rfl, ?_⟩) hS ?_
  rotate_left
  · (intro w' hSw; obtain ⟨k0, k1, k2, k3, k4, k5⟩ := hSw; go_simp; first | done | with_reducible rfl)
  simp only [Act.put, zA, zB, zC, zD, zE, zF]
  refine pair_run W2 x y resO 3 7 8 9 10 15 19 9 10 _ _ _ _ rfl rfl rfl rfl (by decide) (by decide) (by kernel_rfl) (fun _ h => hSg h) ?cA ?cB ?cP ?cQ 2 ?hend 4 0 none none none none _ (by omega) rfl rfl rfl ⟨drW (Below.refl _ _), by simp, by simp, by simp, by simp, by simp, by simp, by simp, by simp, by simp⟩
  case cA =>
    intro p q w' K' hb hK
    cases p <;> cases q <;> simp only [A4, putO] <;> (go_simp; refine (ra w' hb).mono ?_; rintro e v5 ⟨xa, xc, rfl, hox, hbx⟩; exact hK (xa, xc) v5 hox hbx)
  case cB =>
    intro v p q w' K' hb hK
    cases p <;> cases q <;> simp only [A4, putO] <;> (go_simp; refine (rb w' hb).mono ?_; rintro e v5 ⟨xa, xc, rfl, hox, hbx⟩; exact hK (xa, xc) v5 hox hbx)
  case cP =>
    intro b w' K' hK
    go_simp
    exact hK
  case cQ =>
    intro b w' K' hK
    go_simp
    exact hK
  case hend =>
    intro s t b d w' hst
    obtain ⟨sa, sc⟩ := s
    obtain ⟨ta, tc⟩ := t
    have hbd := hst.pq b d rfl rfl
    obtain ⟨z0, z1, z2⟩ := frozen3 (hst.boxP b rfl).1
    obtain ⟨y0, y1, y2⟩ := nv3 (hst.boxP b rfl).1
    obtain ⟨z3, z4, z5⟩ := frozen3 (hst.boxQ d rfl).1
    obtain ⟨y3, y4, y5⟩ := nv3 (hst.boxQ d rfl).1
    simp only [A4, putO, resX, ptrB]
    refine anyL_one (i := 10) (by kernel_rfl) rfl (fun K1 hK1 => ?_)
    go_simp
    refine hK1.out _ _ (fun _ => ?_) ?_
    · exact hSg (((hst.bel.setCell (show W2.heap.size ≤ b from (hst.boxP b rfl).2) _).setCell (show W2.heap.size ≤ b from (hst.boxP b rfl).2) _).setCell (show W2.heap.size ≤ b from (hst.boxP b rfl).2) _)
    clear hK1 K1
    obtain ⟨h1, h2, h3, h4, h5⟩ := hst.both
    refine anyL_one (i := 11) (by kernel_rfl) rfl (fun K1 hK1 => ?_)
    go_simp
    refine hK1.out _ _ (fun h => absurd rfl h) ?_
    clear hK1 K1
    refine anyL_done (by kernel_rfl) ?_ _
    obtain ⟨W4, hW4⟩ : ∃ wS : World, (((((w'.setCell ⟨b, 0, none⟩ (.int .i64 x.fin)).setCell ⟨b, 1, none⟩ (.int .i64 x.code)).setCell ⟨b, 2, none⟩ (.slice sa x.out.length sc)).setCell ⟨d, 0, none⟩ (.int .i64 y.fin)).setCell ⟨d, 1, none⟩ (.int .i64 y.code)).setCell ⟨d, 2, none⟩ (.slice ta y.out.length tc) = wS := ⟨_, rfl⟩
    simp only at h1 h2 h3 h4 h5
    rw [hW4] at h1 h2 h3 h4 h5
    rw [hW4]
    clear hW4
    have HX1 : Hid (BytesAt W4 sa x.out) := Lib.hid (bytes_of_own h3)
    have HX2 : Hid (BytesAt W4 ta y.out) := Lib.hid (bytes_of_own h4)
    have hlx : x.out.length ≤ maxLen := Nat.le_trans (own_capW h3).1 (own_capW h3).2
    have hly : y.out.length ≤ maxLen := Nat.le_trans (own_capW h4).1 (own_capW h4).2
    have hcx := (own_capW h3).1
    have hcy := (own_capW h4).1
    simp only at hcx hcy
    obtain ⟨c0, c1, c2⟩ := nv3 h1
    obtain ⟨e0, e1, e2⟩ := nv3 h2
    have HB4 : Hid (Below w.heap.size w W4) := Lib.hid (hb2.trans (h5.mono hb2.size))
    have HH1 := Lib.hid h1
    have HH2 := Lib.hid h2
    clear h1 h2 h3 h4 h5 hst ra rb ga gb hSg hba hbb z0 z1 z2 z3 z4 z5 y0 y1 y2 y3 y4 y5 hS
    have hslx : ∀ w, (Instr.sliceAt 37 (.slice sa x.out.length sc) none (some (.int .i64 (x.out.length : Int))) none).run Try.prog w = .ok (.slice sa x.out.length sc) w := by
      intro w
      obtain ⟨ti, hti⟩ : ∃ ti, Try.prog.info? 5 = some ti := by
        cases hx : Try.prog.info? 5 with
        | none => have h : (Try.prog.info? 5).isSome = true := by kernel_rfl
                  rw [hx] at h; cases h
        | some ti => exact ⟨ti, rfl⟩
      rw [run_sliceAt_slice w _ _ _ _ _ (by kernel_rfl), run_slice_h w _ _ _ _ (by kernel_rfl) .i64 _ (by omega) (by omega)]
      have e : (sizeOf 5).run Try.prog w = .ok (Try.prog.cellsOf 5) w := run_sizeOf w hti
      have e2 : Try.prog.elem 37 = 5 := by kernel_rfl
      have e3 : Try.prog.cellsOf 5 = 1 := by kernel_rfl
      rw [e2, e, e3]
      simp [sliced, Result.andThen, Addr.add] <;> omega
    have hsly : ∀ w, (Instr.sliceAt 37 (.slice ta y.out.length tc) none (some (.int .i64 (x.out.length : Int))) none).run Try.prog w = .ok (.slice ta x.out.length tc) w := by
      intro w
      obtain ⟨ti, hti⟩ : ∃ ti, Try.prog.info? 5 = some ti := by
        cases hx : Try.prog.info? 5 with
        | none => have h : (Try.prog.info? 5).isSome = true := by kernel_rfl
                  rw [hx] at h; cases h
        | some ti => exact ⟨ti, rfl⟩
      rw [run_sliceAt_slice w _ _ _ _ _ (by kernel_rfl), run_slice_h w _ _ _ _ (by kernel_rfl) .i64 _ (by omega) (by omega)]
      have e : (sizeOf 5).run Try.prog w = .ok (Try.prog.cellsOf 5) w := run_sizeOf w hti
      have e2 : Try.prog.elem 37 = 5 := by kernel_rfl
      have e3 : Try.prog.cellsOf 5 = 1 := by kernel_rfl
      rw [e2, e, e3]
      simp [sliced, Result.andThen, Addr.add] <;> omega
    have HX5 := Lib.hid (BytesAt.take HX1.out x.out.length)
    have HX6 := Lib.hid (BytesAt.take HX2.out x.out.length)
    have HT : Hid (sameR ⟨0, 0, x.out.take x.out.length⟩ ⟨0, 0, y.out.take x.out.length⟩ = true) := Lib.hid (by unfold sameR; rw [HXY.out]; simp)
    have hlt1 : (x.out.take x.out.length).length = x.out.length := by rw [List.length_take]; omega
    have hlt2 : (y.out.take x.out.length).length = x.out.length := by rw [List.length_take]; omega
    have HR : ∀ w', Below W4.heap.size W4 w' → Calls Try.prog 47 #[.agg #[.int .i64 0, .int .i64 0, .slice sa x.out.length sc], .agg #[.int .i64 0, .int .i64 0, .slice ta x.out.length tc]] w' (RPost (.bool true) w') := fun w' h => by
      have h9 := result_v ⟨0, 0, x.out.take x.out.length⟩ ⟨0, 0, y.out.take x.out.length⟩ sa ta sc tc true w' (HX5.out.below h) (HX6.out.below h) (by show (x.out.take x.out.length).length ≤ maxLen; omega) (by show (y.out.take x.out.length).length ≤ maxLen; omega) HT.out
      unfold rsV at h9
      simp only [hlt1, hlt2] at h9
      exact h9
    clear hlt1 hlt2
    go_wp2
    all_goals first | (exfalso; omega) | skip
    go_region_with ((with_reducible refine (HR _ (drW (Below.refl _ _))).mono ?_); rintro e v6 ⟨rfl, hb6⟩; have HB6 := Lib.hid hb6; clear hb6)
    all_goals go_wp2
    all_goals go_ret
    all_goals exact ⟨rfl, HB4.out.trans (((drW (Below.refl W4.heap.size W4)).trans (show Below W4.heap.size W4.drew v6 from HB6.out)).mono HB4.out.size)⟩
theorem prefix_take {α : Type} {l m : List α} (h : l <+: m) : l.take l.length = m.take l.length := by
  obtain ⟨t, rfl⟩ := h
  simp
theorem does_along (Ua Ub : UnR) (ia : Option Addr) (inp : List UInt8) (ic : Nat) (fuel : Int) (w : World) (hUa : UnAt w w.heap.size Ua) (hUb : UnAt w w.heap.size Ub) (hin : InAt w (.slice ia inp.length ic) inp) (h : Along (runU Ua.un inp fuel) (runU Ub.un inp fuel)) :
    Calls Try.prog 22 #[unV Ua, unV Ub, .slice ia inp.length ic, .int .i64 fuel] w (RPost (.bool true) w) := by
  obtain ⟨x, hx⟩ : ∃ x, runU Ua.un inp fuel = x := ⟨_, rfl⟩
  obtain ⟨y, hy⟩ : ∃ y, runU Ub.un inp fuel = y := ⟨_, rfl⟩
  rw [hx, hy] at h
  by_cases fx : x.fin = 4
  · by_cases fy : y.fin = 4
    · by_cases hl : y.out.length < x.out.length
      · refine does_a Ua Ub ia inp ic fuel w x y hUa hUb hin hx hy fx fy hl ?_
        have hp : y.out <+: x.out := by
          rcases h.any with h1 | h1
          · have := h1.length_le; omega
          · exact h1
        exact (prefix_take hp).symm
      · refine does_b Ua Ub ia inp ic fuel w x y hUa hUb hin hx hy fx fy (by omega) ?_
        have hp : x.out <+: y.out := by
          rcases h.any with h1 | h1
          · exact h1
          · have h2 := h1.length_le
            have h3 := h1.eq_of_length (by omega)
            rw [h3]; exact List.prefix_refl _
        exact prefix_take hp
    · have hp : x.out <+: y.out := by
        rcases h.right fy with h1 | h1
        · exact h1
        · exact h1.1.elim
      exact does_e Ua Ub ia inp ic fuel w x y hUa hUb hin hx hy fx fy hp.length_le (prefix_take hp)
  · by_cases fy : y.fin = 4
    · have hp := h.left fx
      have hl := hp.length_le
      by_cases he : x.out.length = y.out.length
      · refine does_d Ua Ub ia inp ic fuel w x y hUa hUb hin hx hy fx fy (by omega) (by omega) ?_
        have := hp.eq_of_length he.symm
        rw [this]
      · exact does_c Ua Ub ia inp ic fuel w x y hUa hUb hin hx hy fx fy (by omega) (prefix_take hp).symm
    · refine does_both Ua Ub ia inp ic fuel w x y hUa hUb hin hx hy fx fy ?_
      rcases h.both fx fy with h1 | h1
      · rw [h1]; unfold sameR; simp
      · exact h1.1.elim
end Go.Proofs.Ytgnpbodhjmappaa
