/-
  Layer 9: contract of semidominators.
  Layer 9: contracts of dominators and dominates.
-/
import Derived.Test.YtbpagfddofbjbaaQG9D
import Derived.Test.YtbpagfddofbjbaaQG9C
import Derived.Deep.CutRange
import Derived.Deep.DeepCutAuto
namespace Go.Proofs.Ytbpagfddofbjbaa
set_option maxRecDepth 100000
open Go.RowKit Cd Go.Maps
set_option linter.unusedVariables false
set_option linter.unusedSimpArgs false

/-- What semidominators has: its box, its three rows. -/
structure SemAt (N lb ub : Nat) (bx : Obj) (s : SLU) (w wr : World) : Prop where
  semi : IRow wr (N + 1) s.semi
  low : IRow wr lb s.low
  up : IRow wr ub s.up
  box : wr.heap[N]? = some bx
  below : Below N w wr
theorem SemAt.drew {N lb ub : Nat} {bx : Obj} {s : SLU} {w wr : World} (h : SemAt N lb ub bx s w wr) : SemAt N lb ub bx s w wr.drew := ⟨h.semi, h.low, h.up, h.box, drW h.below⟩
/-- Each place as its own lowest, so far. -/
def LowTo (m k : Nat) (l : List Int) : Prop := l.length = m ∧ ∀ i, i < k → l[i]? = some (i : Int)
theorem LowTo.more {m k : Nat} {l : List Int} (h : LowTo m k l) (hk : k < m) : LowTo m (k + 1) (l.set k (k : Int)) := by
  refine ⟨by simp [h.1], fun i hi => ?_⟩
  by_cases hik : k = i
  · subst hik; rw [List.getElem?_set_self (by rw [h.1]; exact hk)]
  · rw [List.getElem?_set_ne hik]; exact h.2 i (by omega)
theorem LowTo.full {m : Nat} {l : List Int} (h : LowTo m m l) : l = (List.range m).map Int.ofNat := by
  apply List.ext_getElem?
  intro i
  by_cases hi : i < m
  · rw [h.2 i hi, List.getElem?_map, List.getElem?_range hi]; rfl
  · rw [List.getElem?_eq_none (by rw [h.1]; omega), List.getElem?_eq_none (by simp; omega)]
theorem gt_nat {l : List Int} {m n : Nat} (hl : l.length = m) (hn : n < m) : l[n]? = some (Cd.gt l (n : Int)) := by
  have := gt_get (l := l) (n := (n : Int)) (by simp; omega)
  simpa using this
/-- A search's struct as an argument. -/
structure WkAt (w : World) (e p : List Int) (ae ap : Option Addr) (mb : Nat) : Prop where
  ent : RowAt w w.heap.size ae (ints e)
  par : RowAt w w.heap.size ap (ints p)
  map : PlAt w mb e
theorem WkAt.below {w w' : World} {e p : List Int} {ae ap : Option Addr} {mb : Nat} (h : WkAt w e p ae ap mb) (hb : Below w.heap.size w w') : WkAt w' e p ae ap mb :=
  ⟨RowAt.mono (RowAt.below h.ent hb) hb.size (Nat.le_refl _), RowAt.mono (RowAt.below h.par hb) hb.size (Nat.le_refl _), h.map.keep (hb.block _ h.map.lt)⟩
set_option maxHeartbeats 16000000 in
set_option maxRecDepth 100000 in
theorem semi_c (B : List (List Int)) (ba : Option Addr) (bc : Nat) (e p : List Int) (ae ap : Option Addr) (ce cp mb : Nat) (vl : Value) (w : World) (hB : RowsAt w w.heap.size ba B) (hW : WkAt w e p ae ap mb) (hei : ∀ x ∈ e, 0 ≤ x ∧ x < (B.length : Int)) (hp : ParOk e.length p) (hm : e.length ≤ 10000) (hBl : B.length ≤ 100000) (hr : ∀ l ∈ B, l.length ≤ 100000) (hrI : ∀ l ∈ B, ∀ y ∈ l, 0 ≤ y ∧ y ≤ 100000) :
    Calls Try.prog 91 #[.agg #[.slice ae e.length ce, .slice ap p.length cp, vl, .map (some mb)], .slice ba B.length bc] w fun r w' => ∃ b, r = .returned (.slice (some ⟨b, 0, none⟩) e.length e.length) ∧ w.heap.size ≤ b ∧ IRow w' b (semiD B e p e.length).semi ∧ Below w.heap.size w w' := by
  have hmix : Try.prog.follows .mixedOrders = true := by kernel_rfl
  obtain ⟨m, hme⟩ : ∃ m, e.length = m := ⟨_, rfl⟩
  have hpm : p.length = m := hp.1.trans hme
  rw [hme] at hp hm ⊢
  rw [hpm]
  have HB := Lib.hid hB; have HW := Lib.hid hW; have HEI := Lib.hid hei; have HP := Lib.hid hp; have HR := Lib.hid hr; have HRI := Lib.hid hrI; have HME := Lib.hid hme; have HPM := Lib.hid hpm
  clear hB hW hei hp hr hrI hme hpm
  have hmk := make_ints m (by omega)
  have m0 : (0 : Int) ≤ (m : Int) := Int.natCast_nonneg _
  obtain ⟨bx, hbx⟩ : ∃ bx, wkO (.slice ae m ce) (.slice ap m cp) vl (.map (some mb)) = bx := ⟨_, rfl⟩
  have HBX0 : Hid ((w.alloc bx).heap[w.heap.size]? = some bx) := Lib.hid (heap_alloc_new w bx)
  have HB0 : Hid (Below w.heap.size w ((w.alloc bx).alloc (iObj (List.replicate m 0)))) := Lib.hid (((Below.refl w.heap.size w).alloc (Nat.le_refl _) _).alloc (by simp) _)
  have HS0 : Hid (IRow ((w.alloc bx).alloc (iObj (List.replicate m 0))) (w.heap.size + 1) (List.replicate m 0)) := Lib.hid (by have := VRow.newI (w.alloc bx) (List.replicate m 0); simpa using this)
  have HBX1 : Hid (((w.alloc bx).alloc (iObj (List.replicate m 0))).heap[w.heap.size]? = some bx) := Lib.hid ((Below.heap_alloc _ _ _ (by simp)).trans HBX0.out)
  have hs2 : ((w.alloc bx).alloc (iObj (List.replicate m 0))).heap.size = w.heap.size + 2 := by simp
  rw [← hbx] at HB0 HS0 HBX1 hs2
  obtain ⟨W2, hW2⟩ : ∃ W2, (w.alloc (wkO (.slice ae m ce) (.slice ap m cp) vl (.map (some mb)))).alloc (iObj (List.replicate m 0)) = W2 := ⟨_, rfl⟩
  rw [hW2] at HB0 HS0 HBX1 hs2
  have HW2 := Lib.hid hW2; have HBXE := Lib.hid hbx
  have HBX2 : Hid (W2.heap[w.heap.size]? = some bx) := Lib.hid (by rw [← hbx]; exact HBX1.out)
  clear hW2 hbx HBX0 HBX1
  go_enter Try.func91, Try.ntmps91
  go_upto_region 2 with fail
  rw [HW2.out]
  go_cut [6, 7] from 18 to 24 (fun s6 s7 wx => ∃ lb ub : Nat, lb ≠ ub ∧ w.heap.size + 2 ≤ lb ∧ w.heap.size + 2 ≤ ub ∧ s6 = .slice (some ⟨lb, 0, none⟩) m m ∧ s7 = .slice (some ⟨ub, 0, none⟩) m m ∧ Hid (IRow wx lb (List.replicate m 0)) ∧ Hid (IRow wx ub (List.replicate m (-1))) ∧ Hid (IRow wx (w.heap.size + 1) (List.replicate m 0)) ∧ Hid (wx.heap[w.heap.size]? = some bx) ∧ Hid (Below w.heap.size w wx))
  case first =>
    refine region_last (fun W : World => True) 1000000 hmix ?_
    have hS : (fun W : World => True) W2.drew := trivial
    have hd2 : W2.drew.heap.size = w.heap.size + 2 := hs2
    refine anyL_takeH (i := 0) (v := ?_) rfl (by decide) (by kernel_rfl) (by kernel_rfl) (by kernel_rfl) (fun _ _ _ h => h) (Or.inl ⟨by rfl, ?_⟩) hS ?_
    rotate_left
    · (intro w' hSw; go_simp; first | done | with_reducible rfl)
    simp only [Act.put, List.getElem_toArray, List.getElem_cons_succ, List.getElem_cons_zero, List.setIfInBounds_toArray, List.set_cons_succ, List.set_cons_zero]
    refine anyL_takeH (i := 1) (v := ?_) rfl (by decide) (by kernel_rfl) (by kernel_rfl) (by kernel_rfl) (fun _ _ _ h => h) (Or.inl ⟨by rfl, ?_⟩) hS ?_
    rotate_left
    · (intro w' hSw; go_simp; first | done | with_reducible rfl)
    simp only [Act.put, List.getElem_toArray, List.getElem_cons_succ, List.getElem_cons_zero, List.setIfInBounds_toArray, List.set_cons_succ, List.set_cons_zero]
    refine anyL_takeH (i := 4) (v := ?_) rfl (by decide) (by kernel_rfl) (by kernel_rfl) (by kernel_rfl) (fun _ _ _ h => h) (Or.inl ⟨by rfl, ?_⟩) hS ?_
    rotate_left
    · (intro w' hSw; go_simp; first | done | with_reducible rfl)
    simp only [Act.put, List.getElem_toArray, List.getElem_cons_succ, List.getElem_cons_zero, List.setIfInBounds_toArray, List.set_cons_succ, List.set_cons_zero]
    refine anyL_takeH (i := 5) (v := ?_) rfl (by decide) (by kernel_rfl) (by kernel_rfl) (by kernel_rfl) (fun _ _ _ h => h) (Or.inl ⟨by rfl, ?_⟩) hS ?_
    rotate_left
    · (intro w' hSw; go_simp; first | done | with_reducible rfl)
    simp only [Act.put, List.getElem_toArray, List.getElem_cons_succ, List.getElem_cons_zero, List.setIfInBounds_toArray, List.set_cons_succ, List.set_cons_zero]
    refine anyL_two (i := 2) (j := 3) (by kernel_rfl) rfl rfl (fun K1 hK1 => ?_) (fun K1 hK1 => ?_)
    · go_simp
      refine hK1.out _ _ (fun _ => trivial) ?_
      clear hK1 K1
      refine anyL_one (i := 3) (by kernel_rfl) rfl (fun K1 hK1 => ?_)
      go_simp
      refine hK1.out _ _ (fun _ => trivial) ?_
      clear hK1 K1
      have hx : IRow ((W2.drew.alloc (iObj (List.replicate m 0))).alloc (.cells #[.int .i64 (-1)] 3)) (w.heap.size + 3) [-1] := by have := heap_alloc_new (W2.drew.alloc (iObj (List.replicate m 0))) (.cells #[.int .i64 (-1)] 3); rw [World.size_alloc, hd2] at this; exact this
      have hl : IRow ((W2.drew.alloc (iObj (List.replicate m 0))).alloc (.cells #[.int .i64 (-1)] 3)) (w.heap.size + 2) (List.replicate m 0) := by have := VRow.newI W2.drew (List.replicate m 0); rw [hd2] at this; exact VRow.keep this (Below.heap_alloc _ _ _ (by rw [World.size_alloc, hd2]; omega))
      have hb : Below (w.heap.size + 2) W2 ((W2.drew.alloc (iObj (List.replicate m 0))).alloc (.cells #[.int .i64 (-1)] 3)) := by rw [← hs2]; exact ((drW (Below.refl W2.heap.size W2)).alloc (Nat.le_refl _) _).alloc (by rw [World.size_alloc]; exact Nat.le_succ _) _
      have hsz : ((W2.drew.alloc (iObj (List.replicate m 0))).alloc (.cells #[.int .i64 (-1)] 3)).heap.size = w.heap.size + 4 := by rw [World.size_alloc, World.size_alloc, hd2]
      refine anyL_one (i := 6) (by kernel_rfl) rfl (fun K1 hK1 => ?_)
      go_simp
      refine (repeat_c m (w.heap.size + 3) (by omega) ((W2.drew.alloc (iObj (List.replicate m 0))).alloc (.cells #[.int .i64 (-1)] 3)) hx).mono ?_
      rintro r w5 ⟨rfl, g1, g2⟩
      refine hK1.out _ _ (fun _ => trivial) ?_
      clear hK1 K1
      refine anyL_one (i := 7) (by kernel_rfl) rfl (fun K1 hK1 => ?_)
      go_simp
      refine hK1.out _ _ (fun _ => trivial) ?_
      clear hK1 K1
      refine anyL_one (i := 8) (by kernel_rfl) rfl (fun K1 hK1 => ?_)
      go_simp
      refine hK1.out _ _ (fun _ => trivial) ?_
      clear hK1 K1
      refine anyL_done (by kernel_rfl) ?_ _
      rw [hsz] at g1 g2
      go_wp2_with fail
      go_meet
      case rel =>
        have hb5 := hb.trans (g2.mono (by omega))
        exact ⟨w.heap.size + 2, w.heap.size + 4, by omega, by omega, by omega, rfl, rfl, Lib.hid (hl.below g2 (by omega)), Lib.hid g1, Lib.hid (HS0.out.below hb5 (by omega)), Lib.hid ((hb5.block _ (by omega)).trans HBX2.out), Lib.hid (HB0.out.trans (hb5.mono (by omega)))⟩
    · go_simp
      refine hK1.out _ _ (fun _ => trivial) ?_
      clear hK1 K1
      refine anyL_two (i := 2) (j := 6) (by kernel_rfl) rfl rfl (fun K1 hK1 => ?_) (fun K1 hK1 => ?_)
      · go_simp
        refine hK1.out _ _ (fun _ => trivial) ?_
        clear hK1 K1
        have hx : IRow ((W2.drew.alloc (.cells #[.int .i64 (-1)] 3)).alloc (iObj (List.replicate m 0))) (w.heap.size + 2) [-1] := by have := heap_alloc_new W2.drew (.cells #[.int .i64 (-1)] 3); rw [hd2] at this; exact VRow.keep this (Below.heap_alloc _ _ _ (by rw [World.size_alloc, hd2]; omega))
        have hl : IRow ((W2.drew.alloc (.cells #[.int .i64 (-1)] 3)).alloc (iObj (List.replicate m 0))) (w.heap.size + 3) (List.replicate m 0) := by have := VRow.newI (W2.drew.alloc (.cells #[.int .i64 (-1)] 3)) (List.replicate m 0); rw [World.size_alloc, hd2] at this; exact this
        have hb : Below (w.heap.size + 2) W2 ((W2.drew.alloc (.cells #[.int .i64 (-1)] 3)).alloc (iObj (List.replicate m 0))) := by rw [← hs2]; exact ((drW (Below.refl W2.heap.size W2)).alloc (Nat.le_refl _) _).alloc (by rw [World.size_alloc]; exact Nat.le_succ _) _
        have hsz : ((W2.drew.alloc (.cells #[.int .i64 (-1)] 3)).alloc (iObj (List.replicate m 0))).heap.size = w.heap.size + 4 := by rw [World.size_alloc, World.size_alloc, hd2]
        refine anyL_one (i := 6) (by kernel_rfl) rfl (fun K1 hK1 => ?_)
        go_simp
        refine (repeat_c m (w.heap.size + 2) (by omega) ((W2.drew.alloc (.cells #[.int .i64 (-1)] 3)).alloc (iObj (List.replicate m 0))) hx).mono ?_
        rintro r w5 ⟨rfl, g1, g2⟩
        refine hK1.out _ _ (fun _ => trivial) ?_
        clear hK1 K1
        refine anyL_one (i := 7) (by kernel_rfl) rfl (fun K1 hK1 => ?_)
        go_simp
        refine hK1.out _ _ (fun _ => trivial) ?_
        clear hK1 K1
        refine anyL_one (i := 8) (by kernel_rfl) rfl (fun K1 hK1 => ?_)
        go_simp
        refine hK1.out _ _ (fun _ => trivial) ?_
        clear hK1 K1
        refine anyL_done (by kernel_rfl) ?_ _
        rw [hsz] at g1 g2
        go_wp2_with fail
        go_meet
        case rel =>
          have hb5 := hb.trans (g2.mono (by omega))
          exact ⟨w.heap.size + 3, w.heap.size + 4, by omega, by omega, by omega, rfl, rfl, Lib.hid (hl.below g2 (by omega)), Lib.hid g1, Lib.hid (HS0.out.below hb5 (by omega)), Lib.hid ((hb5.block _ (by omega)).trans HBX2.out), Lib.hid (HB0.out.trans (hb5.mono (by omega)))⟩
      · have hx : IRow (W2.drew.alloc (.cells #[.int .i64 (-1)] 3)) (w.heap.size + 2) [-1] := by have := heap_alloc_new W2.drew (.cells #[.int .i64 (-1)] 3); rw [hd2] at this; exact this
        have hb : Below (w.heap.size + 2) W2 (W2.drew.alloc (.cells #[.int .i64 (-1)] 3)) := by rw [← hs2]; exact (drW (Below.refl W2.heap.size W2)).alloc (Nat.le_refl _) _
        have hsz : (W2.drew.alloc (.cells #[.int .i64 (-1)] 3)).heap.size = w.heap.size + 3 := by rw [World.size_alloc, hd2]
        go_simp
        refine (repeat_c m (w.heap.size + 2) (by omega) (W2.drew.alloc (.cells #[.int .i64 (-1)] 3)) hx).mono ?_
        rintro r w5 ⟨rfl, g1, g2⟩
        refine hK1.out _ _ (fun _ => trivial) ?_
        clear hK1 K1
        refine anyL_one (i := 2) (by kernel_rfl) rfl (fun K1 hK1 => ?_)
        go_simp
        refine hK1.out _ _ (fun _ => trivial) ?_
        clear hK1 K1
        refine anyL_one (i := 7) (by kernel_rfl) rfl (fun K1 hK1 => ?_)
        go_simp
        refine hK1.out _ _ (fun _ => trivial) ?_
        clear hK1 K1
        refine anyL_one (i := 8) (by kernel_rfl) rfl (fun K1 hK1 => ?_)
        go_simp
        refine hK1.out _ _ (fun _ => trivial) ?_
        clear hK1 K1
        refine anyL_done (by kernel_rfl) ?_ _
        rw [hsz] at g1 g2
        have hs5 := g2.size
        rw [hsz] at hs5
        have hlt5 := g1.lt
        go_wp2_with fail
        go_meet
        case rel =>
          have hb5 := hb.trans (g2.mono (by omega))
          have hb6 := hb5.alloc (show w.heap.size + 2 ≤ w5.heap.size by omega) (iObj (List.replicate m 0))
          exact ⟨w5.heap.size, w.heap.size + 3, by omega, by omega, by omega, rfl, rfl, Lib.hid (VRow.newI w5 _), Lib.hid (VRow.keep g1 (Below.heap_alloc _ _ _ (by omega))), Lib.hid (HS0.out.below hb6 (by omega)), Lib.hid ((hb6.block _ (by omega)).trans HBX2.out), Lib.hid (HB0.out.trans (hb6.mono (by omega)))⟩
  case rest =>
    obtain ⟨lb, ub, hne, hlo1, hlo2, rfl, rfl, HL, HU, HS, HX, HBw⟩ := hcut
    go_wp2
    go_loopw [27] (fun s27 wr => ∃ (k : Nat) (l : List Int), k ≤ m ∧ s27 = .int .i64 (k : Int) ∧ Hid (LowTo m k l) ∧ Hid (SemAt w.heap.size lb ub bx ⟨List.replicate m 0, l, List.replicate m (-1)⟩ w wr)) (fun s27 wr => m - (intOf s27).toNat)
    case atStart => exact ⟨0, _, by omega, rfl, Lib.hid ⟨by simp, fun i hi => by omega⟩, Lib.hid ⟨HS.out, HL.out, HU.out, HX.out, HBw.out⟩⟩
    case round =>
      obtain ⟨k, l, hk, rfl, HLT, HSA⟩ := hrel
      have k0 : (0 : Int) ≤ (k : Int) := Int.natCast_nonneg _
      by_cases hlt : k < m
      · have k1 : (k : Int) < (m : Int) := by omega
        have cl := gt_cell HSA.out.low HLT.out.1 (n := k) hlt
        have fl := VRow.frozen HSA.out.low k
        go_wp2
        go_roundw
        case rel => exact ⟨k + 1, _, by omega, by go_num, Lib.hid (HLT.out.more hlt), Lib.hid ⟨VRow.keep HSA.out.semi (Below.heap_setCell _ _ _ _ (by simp <;> omega)), IRow.set HSA.out.low k _, VRow.keep HSA.out.up (Below.heap_setCell _ _ _ _ (by simp <;> omega)), (Below.heap_setCell _ _ _ _ (by simp <;> omega)).trans HSA.out.box, HSA.out.below.setCell (show w.heap.size ≤ lb by omega) _⟩⟩
        case measure => simp [intOf]; omega
      · obtain rfl : m = k := by omega
        have HD0 : Hid (SemAt w.heap.size lb ub bx (semiD B e p 0) w wr) := Lib.hid (by have := HSA.out; rw [HLT.out.full] at this; unfold semiD semi0; rw [HME.out]; exact this)
        clear HLT HSA
        go_wp2
        go_loopw [9] (fun s9 wr => ∃ j : Nat, j ≤ m ∧ s9 = .int .i64 ((m : Int) - 1 - (j : Int)) ∧ Hid (SemAt w.heap.size lb ub bx (semiD B e p j) w wr)) (fun s9 wr => (intOf s9 + 1).toNat)
        case atStart => exact ⟨0, by omega, by simp, HD0⟩
        case round =>
          obtain ⟨j, hj, rfl, HSA⟩ := hrel
          by_cases hjm : j < m
          · obtain ⟨n, hn⟩ : ∃ n : Nat, n = m - 1 - j := ⟨_, rfl⟩
            have en : (m : Int) - 1 - (j : Int) = (n : Int) := by omega
            rw [en]
            have n0 : (0 : Int) ≤ (n : Int) := Int.natCast_nonneg _
            have n1 : (n : Int) < (m : Int) := by omega
            have hnm : n < m := by omega
            obtain ⟨s, hs⟩ : ∃ s, semiD B e p j = s := ⟨_, rfl⟩
            have hsok : SOk e.length s := hs ▸ semiD_ok (by rw [HME.out]; exact HP.out) j (by rw [HME.out]; exact hj)
            have HSTEP := Lib.hid (show semiD B e p (j + 1) = semiStep B e p s n by rw [semiD, hs, HME.out, ← hn])
            rw [hs] at HSA
            have HBG : Hid (SOk e.length (semiBegin s n)) := Lib.hid (semiBegin_ok (by rw [HME.out]; exact hnm) hsok)
            have hsl := hsok.semi.1
            rw [HME.out] at hsl
            have cse := gt_cell HSA.out.semi hsl (n := n) hnm
            have fse := VRow.frozen HSA.out.semi n
            have HS1 : Hid (SemAt w.heap.size lb ub bx (semiBegin s n) w (wr.setCell ⟨w.heap.size + 1, n, none⟩ (.int .i64 (n : Int)))) := Lib.hid ⟨IRow.set HSA.out.semi n _, VRow.keep HSA.out.low (Below.heap_setCell _ _ _ _ (by simp <;> omega)), VRow.keep HSA.out.up (Below.heap_setCell _ _ _ _ (by simp <;> omega)), (Below.heap_setCell _ _ _ _ (by simp <;> omega)).trans HSA.out.box, HSA.out.below.setCell (show w.heap.size ≤ w.heap.size + 1 by omega) _⟩
            obtain ⟨b0, b1, b2, b3⟩ := nv4 (w := wr) (by rw [HSA.out.box, ← HBXE.out])
            obtain ⟨eb, eoff, rfl, heb, _, hec⟩ := IntsAt.cellsB (HW.out.ent.below HSA.out.below) (gt_nat HME.out hnm)
            have hxin := HEI.out _ (List.mem_of_getElem? (gt_nat HME.out hnm))
            obtain ⟨xi, hxi⟩ : ∃ xi : Nat, Cd.gt e (n : Int) = (xi : Int) := ⟨(Cd.gt e (n : Int)).toNat, by omega⟩
            rw [hxi] at hec hxin
            obtain ⟨l, hl⟩ : ∃ l, B[xi]? = some l := ⟨_, List.getElem?_eq_getElem (by omega)⟩
            obtain ⟨bb, boff, ra, rc, rfl, hbb, _, hbc0, hrow, hcap1, hcap2⟩ := HB.out.at hl
            have hbc := (HSA.out.below.cell (p := ⟨bb, boff + xi, none⟩) hbb).trans hbc0
            have HROW := Lib.hid hrow
            have hll := HR.out l (List.mem_of_getElem? hl)
            have HLI := Lib.hid (HRI.out l (List.mem_of_getElem? hl))
            have HINTO := Lib.hid (show into B e n = l by unfold into; rw [hxi]; exact egs_at (by simpa using hl))
            have x0 : (0 : Int) ≤ (xi : Int) := Int.natCast_nonneg _
            have x1 : (xi : Int) < (B.length : Int) := hxin.2
            have q1 : ¬ eb = w.heap.size + 1 := by omega
            have q2 : ¬ w.heap.size + 1 = eb := by omega
            have q3 : ¬ bb = w.heap.size + 1 := by omega
            have q4 : ¬ w.heap.size + 1 = bb := by omega
            clear hn hs hsok hl hrow hbc0 hxi hxin hsl b2 b3
            go_wp2
            go_loopw [55] (fun s55 wr => ∃ i : Nat, i ≤ l.length ∧ s55 = .int .i64 (i : Int) ∧ Hid (SemAt w.heap.size lb ub bx (semiIn e n (semiBegin s n) (l.take i)) w wr)) (fun s55 wr => l.length - (intOf s55).toNat)
            case atStart => exact ⟨0, by omega, rfl, HS1⟩
            case round =>
              obtain ⟨i, hi, rfl, HSI⟩ := hrel
              have i0 : (0 : Int) ≤ (i : Int) := Int.natCast_nonneg _
              obtain ⟨t, ht⟩ : ∃ t, semiIn e n (semiBegin s n) (l.take i) = t := ⟨_, rfl⟩
              have htok : SOk e.length t := ht ▸ semiIn_ok (by rw [HME.out]; exact hnm) _ _ HBG.out
              rw [ht] at HSI
              have HTOK := Lib.hid htok
              have htl1 := htok.semi.1; have htl2 := htok.lu.low.1; have htl3 := htok.lu.up.1
              simp only at htl2 htl3
              rw [HME.out] at htl1 htl2 htl3
              clear htok
              by_cases hil : i < l.length
              · obtain ⟨a, ha⟩ : ∃ a, l[i]? = some a := ⟨_, List.getElem?_eq_getElem hil⟩
                have HNX := Lib.hid (show semiIn e n (semiBegin s n) (l.take (i + 1)) = semiOne e n t a by rw [take_more ha, semiIn_snoc, ht])
                obtain ⟨rb, roff, rfl, hrb, _, hrc⟩ := IntsAt.cellsB (HROW.out.below HSI.out.below) ha
                have hain := HLI.out a (List.mem_of_getElem? ha)
                have hwa : (Lit.int .i64 a).wf = true := wfI hain.1 (by omega)
                have i1 : (i : Int) < (l.length : Int) := by omega
                obtain ⟨c0, c1, c2, c3⟩ := nv4 (w := wr) (by rw [HSI.out.box, ← HBXE.out])
                obtain ⟨D, nD, hnD, hom, hpm⟩ := HW.out.map.keep (HSI.out.below.block _ HW.out.map.lt)
                have HOM := Lib.hid hom; have HPMD := Lib.hid hpm
                have hpm1 := hpm.has a
                clear hom hpm ha ht c0 c1 c2
                by_cases hae : a ∈ e
                · have HH : Hid (Maps.has D (.int .i64 a) = true) := Lib.hid (by rw [hpm1]; simpa using hae)
                  obtain ⟨f, hf⟩ : ∃ f, e.idxOf a = f := ⟨_, rfl⟩
                  have hfm : f < m := by rw [← hf, ← HME.out]; exact List.idxOf_lt_length_of_mem hae
                  have HIX : Hid (∀ c : Int, D.atKey (.int .i64 a) (.lit (.int .i64 0)) = .lit (.int .i64 c) → (f : Int) = c) := Lib.hid (fun c hc => by rw [HPMD.out.at_ a _ hae, hf] at hc; exact cvI hc)
                  obtain ⟨z, hz⟩ : ∃ z, shortF e.length (f : Int) (t.low, t.up) = z := ⟨_, rfl⟩
                  have HONE := Lib.hid (show semiOne e n t a = ⟨t.semi.set n (min (Cd.gt t.semi (n : Int)) (Cd.gt z.1 (f : Int))), z.1, z.2⟩ by unfold semiOne; rw [if_pos hae, hf, hz])
                  have hlu : LUOk m (t.low, t.up) := by have := HTOK.out.lu; rwa [HME.out] at this
                  have hc := short_c m lb ub hne (by omega) e.length (f : Int) (t.low, t.up) wr hlu (Int.natCast_nonneg _) (by omega) (by rw [HME.out]; omega) HSI.out.low HSI.out.up
                  rw [hz] at hc
                  have HC := Lib.hid hc
                  clear hc hlu
                  have hzl : z.1.length = m := by rw [← hz, ← HME.out]; exact ((shortF_far e.length (f : Int) (t.low, t.up) HTOK.out.lu (Int.natCast_nonneg _) (by rw [HME.out]; omega)).1.low).1
                  have f0 : (0 : Int) ≤ (f : Int) := Int.natCast_nonneg _
                  have f1 : (f : Int) < (m : Int) := by omega
                  clear hae hf hz hpm1
                  go_wp2_with (first | (at_lookup; refine wpList_lookup_own_ok_int _ rfl _ _ 65 rfl 3 3 .i64 lawI Try.underlying65 Try.underlying3 (zeroI _) mb nD D rfl HOM.out _ (.int .i64 a) rfl (keyI hwa) ?_; intro c hat hwc; rw [HH.out]; have hc := HIX.out c hat; subst hc; clear hat hwc) | ((with_reducible refine HC.out.mono ?_); rintro r w4 ⟨rfl, g1, g2, g3⟩; have G1 := Lib.hid g1; have G2 := Lib.hid g2; have G3 := Lib.hid g3; clear g1 g2 g3))
                  have HSE4 : Hid (IRow w4 (w.heap.size + 1) t.semi) := Lib.hid (VRow.keep HSI.out.semi (G3.out.block _ (by omega) (by omega)))
                  obtain ⟨x, hx⟩ : ∃ x, Cd.gt t.semi (n : Int) = x := ⟨_, rfl⟩
                  obtain ⟨y, hy⟩ : ∃ y, Cd.gt z.1 (f : Int) = y := ⟨_, rfl⟩
                  have d1 := hx ▸ gt_cell HSE4.out htl1 (n := n) hnm
                  have d2 := hy ▸ gt_cell G1.out hzl (n := f) hfm
                  have d3 := VRow.frozen HSE4.out n
                  rw [hx, hy] at HONE
                  clear hx hy
                  refine region_last (fun W : World => W.cell? ⟨w.heap.size + 1, n, none⟩ = some (.int .i64 x) ∧ W.cell? ⟨lb, f, none⟩ = some (.int .i64 y) ∧ W.frozen? ⟨w.heap.size + 1, n, none⟩ = false) 12 hmix ?_
                  have hS : (fun W : World => W.cell? ⟨w.heap.size + 1, n, none⟩ = some (.int .i64 x) ∧ W.cell? ⟨lb, f, none⟩ = some (.int .i64 y) ∧ W.frozen? ⟨w.heap.size + 1, n, none⟩ = false) w4.drew := ⟨d1, d2, d3⟩
                  clear d1 d2 d3
                  refine anyL_take (i := 0) (v := ?_) rfl rfl (by kernel_rfl) (by kernel_rfl) (by kernel_rfl) (by kernel_rfl) (fun _ _ _ h => h) (Or.inl ⟨by rfl, ?_⟩) hS ?_
                  rotate_left
                  · (intro w' hSw; obtain ⟨s1, s2, s3⟩ := hSw; go_simp; first | done | with_reducible rfl)
                  simp only [Act.put, List.getElem_toArray, List.getElem_cons_succ, List.getElem_cons_zero, List.setIfInBounds_toArray, List.set_cons_succ, List.set_cons_zero]
                  refine anyL_take (i := 1) (v := ?_) rfl rfl (by kernel_rfl) (by kernel_rfl) (by kernel_rfl) (by kernel_rfl) (fun _ _ _ h => h) (Or.inl ⟨by rfl, ?_⟩) hS ?_
                  rotate_left
                  · (intro w' hSw; obtain ⟨s1, s2, s3⟩ := hSw; go_simp; first | done | with_reducible rfl)
                  simp only [Act.put, List.getElem_toArray, List.getElem_cons_succ, List.getElem_cons_zero, List.setIfInBounds_toArray, List.set_cons_succ, List.set_cons_zero]
                  refine anyL_take (i := 2) (v := ?_) rfl rfl (by kernel_rfl) (by kernel_rfl) (by kernel_rfl) (by kernel_rfl) (fun _ _ _ h => h) (Or.inl ⟨by rfl, ?_⟩) hS ?_
                  rotate_left
                  · (intro w' hSw; obtain ⟨s1, s2, s3⟩ := hSw; go_simp; first | done | with_reducible rfl)
                  simp only [Act.put, List.getElem_toArray, List.getElem_cons_succ, List.getElem_cons_zero, List.setIfInBounds_toArray, List.set_cons_succ, List.set_cons_zero]
                  refine anyL_take (i := 3) (v := ?_) rfl rfl (by kernel_rfl) (by kernel_rfl) (by kernel_rfl) (by kernel_rfl) (fun _ _ _ h => h) (Or.inl ⟨by rfl, ?_⟩) hS ?_
                  rotate_left
                  · (intro w' hSw; obtain ⟨s1, s2, s3⟩ := hSw; go_simp; first | done | with_reducible rfl)
                  simp only [Act.put, List.getElem_toArray, List.getElem_cons_succ, List.getElem_cons_zero, List.setIfInBounds_toArray, List.set_cons_succ, List.set_cons_zero]
                  refine anyL_take (i := 4) (v := ?_) rfl rfl (by kernel_rfl) (by kernel_rfl) (by kernel_rfl) (by kernel_rfl) (fun _ _ _ h => h) (Or.inl ⟨by rfl, ?_⟩) hS ?_
                  rotate_left
                  · (intro w' hSw; obtain ⟨s1, s2, s3⟩ := hSw; go_simp; first | done | with_reducible rfl)
                  simp only [Act.put, List.getElem_toArray, List.getElem_cons_succ, List.getElem_cons_zero, List.setIfInBounds_toArray, List.set_cons_succ, List.set_cons_zero]
                  refine anyL_take (i := 5) (v := ?_) rfl rfl (by kernel_rfl) (by kernel_rfl) (by kernel_rfl) (by kernel_rfl) (fun _ _ _ h => h) (Or.inl ⟨by rfl, ?_⟩) hS ?_
                  rotate_left
                  · (intro w' hSw; obtain ⟨s1, s2, s3⟩ := hSw; go_simp; first | done | with_reducible rfl)
                  simp only [Act.put, List.getElem_toArray, List.getElem_cons_succ, List.getElem_cons_zero, List.setIfInBounds_toArray, List.set_cons_succ, List.set_cons_zero]
                  refine anyL_take (i := 6) (v := ?_) rfl rfl (by kernel_rfl) (by kernel_rfl) (by kernel_rfl) (by kernel_rfl) (fun _ _ _ h => h) (Or.inl ⟨by rfl, ?_⟩) hS ?_
                  rotate_left
                  · (intro w' hSw; obtain ⟨s1, s2, s3⟩ := hSw; go_simp; first | done | with_reducible rfl)
                  simp only [Act.put, List.getElem_toArray, List.getElem_cons_succ, List.getElem_cons_zero, List.setIfInBounds_toArray, List.set_cons_succ, List.set_cons_zero]
                  refine anyL_take (i := 7) (v := ?_) rfl rfl (by kernel_rfl) (by kernel_rfl) (by kernel_rfl) (by kernel_rfl) (fun _ _ _ h => h) (Or.inl ⟨by rfl, ?_⟩) hS ?_
                  rotate_left
                  · (intro w' hSw; obtain ⟨s1, s2, s3⟩ := hSw; go_simp; first | done | with_reducible rfl)
                  simp only [Act.put, List.getElem_toArray, List.getElem_cons_succ, List.getElem_cons_zero, List.setIfInBounds_toArray, List.set_cons_succ, List.set_cons_zero]
                  refine anyL_take (i := 8) (v := ?_) rfl rfl (by kernel_rfl) (by kernel_rfl) (by kernel_rfl) (by kernel_rfl) (fun _ _ _ h => h) (Or.inl ⟨by rfl, ?_⟩) hS ?_
                  rotate_left
                  · (intro w' hSw; obtain ⟨s1, s2, s3⟩ := hSw; go_simp; first | done | with_reducible rfl)
                  simp only [Act.put, List.getElem_toArray, List.getElem_cons_succ, List.getElem_cons_zero, List.setIfInBounds_toArray, List.set_cons_succ, List.set_cons_zero]
                  refine anyL_take (i := 9) (v := ?_) rfl rfl (by kernel_rfl) (by kernel_rfl) (by kernel_rfl) (by kernel_rfl) (fun _ _ _ h => h) (Or.inl ⟨by rfl, ?_⟩) hS ?_
                  rotate_left
                  · (intro w' hSw; obtain ⟨s1, s2, s3⟩ := hSw; go_simp; first | done | with_reducible rfl)
                  simp only [Act.put, List.getElem_toArray, List.getElem_cons_succ, List.getElem_cons_zero, List.setIfInBounds_toArray, List.set_cons_succ, List.set_cons_zero]
                  refine anyL_take (i := 10) (v := ?_) rfl rfl (by kernel_rfl) (by kernel_rfl) (by kernel_rfl) (by kernel_rfl) (fun _ _ _ h => h) (Or.inl ⟨by rfl, ?_⟩) hS ?_
                  rotate_left
                  · (intro w' hSw; obtain ⟨s1, s2, s3⟩ := hSw; go_simp; first | done | with_reducible rfl)
                  simp only [Act.put, List.getElem_toArray, List.getElem_cons_succ, List.getElem_cons_zero, List.setIfInBounds_toArray, List.set_cons_succ, List.set_cons_zero]
                  refine anyL_take (i := 11) (v := ?_) rfl rfl (by kernel_rfl) (by kernel_rfl) (by kernel_rfl) (by kernel_rfl) (fun _ _ _ h => h) (Or.inl ⟨by rfl, ?_⟩) hS ?_
                  rotate_left
                  · (intro w' hSw; obtain ⟨s1, s2, s3⟩ := hSw; go_simp; first | done | with_reducible rfl)
                  simp only [Act.put, List.getElem_toArray, List.getElem_cons_succ, List.getElem_cons_zero, List.setIfInBounds_toArray, List.set_cons_succ, List.set_cons_zero]
                  obtain ⟨s1, s2, s3⟩ := hS
                  refine anyL_one (i := 12) (by kernel_rfl) rfl (fun K1 hK1 => ?_)
                  go_simp
                  refine hK1.out _ _ (fun hne' => absurd rfl hne') ?_
                  clear hK1 K1 s1 s2 s3
                  refine anyL_done (by kernel_rfl) ?_ _
                  obtain ⟨mn, hmn⟩ : ∃ mn, (if y < x then y else x) = mn := ⟨_, rfl⟩
                  have hmin : mn = min x y := by rw [← hmn, Int.min_def]; split <;> split <;> omega
                  rw [hmn]
                  rw [← hmin] at HONE
                  clear hmin hmn
                  go_wp2
                  go_roundw
                  case rel =>
                    refine ⟨i + 1, by omega, by go_num, Lib.hid ?_⟩
                    rw [HNX.out, HONE.out]
                    exact ⟨IRow.set HSE4.out n _, VRow.keep G1.out (Below.heap_setCell _ _ _ _ (by simp <;> omega)), VRow.keep G2.out (Below.heap_setCell _ _ _ _ (by simp <;> omega)), (Below.heap_setCell _ _ _ _ (by simp)).trans ((G3.out.block _ (by omega) (by omega)).trans HSI.out.box), (drW (HSI.out.below.trans (G3.out.below (by omega) (by omega)))).setCell (show w.heap.size ≤ w.heap.size + 1 by omega) _⟩
                  case measure => simp [intOf]; omega
                · have HH : Hid (Maps.has D (.int .i64 a) = false) := Lib.hid (by rw [hpm1]; simpa using hae)
                  have HONE := Lib.hid (show semiOne e n t a = t by unfold semiOne; exact if_neg hae)
                  clear hae hpm1
                  go_wp2_with (at_lookup; refine wpList_lookup_own_ok_int _ rfl _ _ 65 rfl 3 3 .i64 lawI Try.underlying65 Try.underlying3 (zeroI _) mb nD D rfl HOM.out _ (.int .i64 a) rfl (keyI hwa) ?_; intro c hat hwc; rw [HH.out]; clear hat hwc)
                  go_roundw
                  case rel => exact ⟨i + 1, by omega, by go_num, by rw [HNX.out, HONE.out]; exact HSI⟩
                  case measure => simp [intOf]; omega
              · obtain rfl : i = l.length := by omega
                rw [List.take_length] at ht
                obtain ⟨x, hx⟩ : ∃ x, Cd.gt t.semi (n : Int) = x := ⟨_, rfl⟩
                obtain ⟨pn, hpn⟩ : ∃ pn, Cd.gt p (n : Int) = pn := ⟨_, rfl⟩
                have cs1 := hx ▸ gt_cell HSI.out.semi htl1 (n := n) hnm
                obtain ⟨pb, poff, rfl, hpb, _, hpc⟩ := IntsAt.cellsB (HW.out.par.below HSI.out.below) (gt_nat HPM.out hnm)
                rw [hpn] at hpc
                obtain ⟨c0, c1, c2, c3⟩ := nv4 (w := wr) (by rw [HSI.out.box, ← HBXE.out])
                have HFIN := Lib.hid (show semiD B e p (j + 1) = ⟨t.semi, t.low.set n x, t.up.set n pn⟩ by rw [HSTEP.out]; unfold semiStep; rw [HINTO.out, ht]; unfold semiEnd; rw [hx, hpn])
                have HCE : Hid (∀ W : World, ((∀ g, g ≠ lb → g ≠ ub → W.heap[g]? = wr.heap[g]?) ∧ (∃ l1, IRow W lb l1 ∧ l1.length = m) ∧ (∃ l2, IRow W ub l2 ∧ l2.length = m)) → W.cell? ⟨w.heap.size + 1, n, none⟩ = some (.int .i64 x) ∧ W.cell? ⟨pb, poff + n, none⟩ = some (.int .i64 pn) ∧ W.cell? ⟨w.heap.size, 1, none⟩ = some (.slice (some ⟨pb, poff, none⟩) m cp) ∧ W.frozen? ⟨lb, n, none⟩ = false ∧ W.frozen? ⟨ub, n, none⟩ = false ∧ (∃ v, W.cell? ⟨lb, n, none⟩ = some v) ∧ (∃ v, W.cell? ⟨ub, n, none⟩ = some v)) := Lib.hid (fun W ⟨h1, ⟨l1, h2, h3⟩, ⟨l2, h4, h5⟩⟩ => ⟨(World.cell?_of_block (w := wr) (h1 (w.heap.size + 1) (by omega) (by omega))).trans cs1, (World.cell?_of_block (w := wr) (h1 pb (by omega) (by omega))).trans hpc, (World.cell?_of_block (w := wr) (h1 w.heap.size (by omega) (by omega))).trans c1, VRow.frozen h2 n, VRow.frozen h4 n, ⟨_, gt_cell h2 h3 hnm⟩, ⟨_, gt_cell h4 h5 hnm⟩⟩)
                clear hx hpn hpc cs1 c0 c1 c2 c3 ht
                go_wp2
                refine region_last (fun W : World => (∀ g, g ≠ lb → g ≠ ub → W.heap[g]? = wr.heap[g]?) ∧ (∃ l1, IRow W lb l1 ∧ l1.length = m) ∧ (∃ l2, IRow W ub l2 ∧ l2.length = m)) 1000000 hmix ?_
                have hS : (fun W : World => (∀ g, g ≠ lb → g ≠ ub → W.heap[g]? = wr.heap[g]?) ∧ (∃ l1, IRow W lb l1 ∧ l1.length = m) ∧ (∃ l2, IRow W ub l2 ∧ l2.length = m)) wr.drew := ⟨fun _ _ _ => rfl, ⟨_, HSI.out.low, htl2⟩, ⟨_, HSI.out.up, htl3⟩⟩
                refine anyL_takeH (i := 0) (v := ?_) rfl (by decide) (by kernel_rfl) (by kernel_rfl) (by kernel_rfl) (fun _ _ _ h => h) (Or.inl ⟨by rfl, ?_⟩) hS ?_
                rotate_left
                · (intro w' hSw; obtain ⟨s1, s2, s3, s4, s5, ⟨v1, s6⟩, ⟨v2, s7⟩⟩ := HCE.out _ hSw; go_simp; first | done | with_reducible rfl)
                simp only [Act.put, List.getElem_toArray, List.getElem_cons_succ, List.getElem_cons_zero, List.setIfInBounds_toArray, List.set_cons_succ, List.set_cons_zero]
                refine anyL_takeH (i := 1) (v := ?_) rfl (by decide) (by kernel_rfl) (by kernel_rfl) (by kernel_rfl) (fun _ _ _ h => h) (Or.inl ⟨by rfl, ?_⟩) hS ?_
                rotate_left
                · (intro w' hSw; obtain ⟨s1, s2, s3, s4, s5, ⟨v1, s6⟩, ⟨v2, s7⟩⟩ := HCE.out _ hSw; go_simp; first | done | with_reducible rfl)
                simp only [Act.put, List.getElem_toArray, List.getElem_cons_succ, List.getElem_cons_zero, List.setIfInBounds_toArray, List.set_cons_succ, List.set_cons_zero]
                refine anyL_takeH (i := 2) (v := ?_) rfl (by decide) (by kernel_rfl) (by kernel_rfl) (by kernel_rfl) (fun _ _ _ h => h) (Or.inl ⟨by rfl, ?_⟩) hS ?_
                rotate_left
                · (intro w' hSw; obtain ⟨s1, s2, s3, s4, s5, ⟨v1, s6⟩, ⟨v2, s7⟩⟩ := HCE.out _ hSw; go_simp; first | done | with_reducible rfl)
                simp only [Act.put, List.getElem_toArray, List.getElem_cons_succ, List.getElem_cons_zero, List.setIfInBounds_toArray, List.set_cons_succ, List.set_cons_zero]
                refine anyL_takeH (i := 3) (v := ?_) rfl (by decide) (by kernel_rfl) (by kernel_rfl) (by kernel_rfl) (fun _ _ _ h => h) (Or.inl ⟨by rfl, ?_⟩) hS ?_
                rotate_left
                · (intro w' hSw; obtain ⟨s1, s2, s3, s4, s5, ⟨v1, s6⟩, ⟨v2, s7⟩⟩ := HCE.out _ hSw; go_simp; first | done | with_reducible rfl)
                simp only [Act.put, List.getElem_toArray, List.getElem_cons_succ, List.getElem_cons_zero, List.setIfInBounds_toArray, List.set_cons_succ, List.set_cons_zero]
                refine anyL_takeH (i := 4) (v := ?_) rfl (by decide) (by kernel_rfl) (by kernel_rfl) (by kernel_rfl) (fun _ _ _ h => h) (Or.inl ⟨by rfl, ?_⟩) hS ?_
                rotate_left
                · (intro w' hSw; obtain ⟨s1, s2, s3, s4, s5, ⟨v1, s6⟩, ⟨v2, s7⟩⟩ := HCE.out _ hSw; go_simp; first | done | with_reducible rfl)
                simp only [Act.put, List.getElem_toArray, List.getElem_cons_succ, List.getElem_cons_zero, List.setIfInBounds_toArray, List.set_cons_succ, List.set_cons_zero]
                refine anyL_takeH (i := 5) (v := ?_) rfl (by decide) (by kernel_rfl) (by kernel_rfl) (by kernel_rfl) (fun _ _ _ h => h) (Or.inl ⟨by rfl, ?_⟩) hS ?_
                rotate_left
                · (intro w' hSw; obtain ⟨s1, s2, s3, s4, s5, ⟨v1, s6⟩, ⟨v2, s7⟩⟩ := HCE.out _ hSw; go_simp; first | done | with_reducible rfl)
                simp only [Act.put, List.getElem_toArray, List.getElem_cons_succ, List.getElem_cons_zero, List.setIfInBounds_toArray, List.set_cons_succ, List.set_cons_zero]
                refine anyL_takeH (i := 6) (v := ?_) rfl (by decide) (by kernel_rfl) (by kernel_rfl) (by kernel_rfl) (fun _ _ _ h => h) (Or.inl ⟨by rfl, ?_⟩) hS ?_
                rotate_left
                · (intro w' hSw; obtain ⟨s1, s2, s3, s4, s5, ⟨v1, s6⟩, ⟨v2, s7⟩⟩ := HCE.out _ hSw; go_simp; first | done | with_reducible rfl)
                simp only [Act.put, List.getElem_toArray, List.getElem_cons_succ, List.getElem_cons_zero, List.setIfInBounds_toArray, List.set_cons_succ, List.set_cons_zero]
                refine anyL_takeH (i := 7) (v := ?_) rfl (by decide) (by kernel_rfl) (by kernel_rfl) (by kernel_rfl) (fun _ _ _ h => h) (Or.inl ⟨by rfl, ?_⟩) hS ?_
                rotate_left
                · (intro w' hSw; obtain ⟨s1, s2, s3, s4, s5, ⟨v1, s6⟩, ⟨v2, s7⟩⟩ := HCE.out _ hSw; go_simp; first | done | with_reducible rfl)
                simp only [Act.put, List.getElem_toArray, List.getElem_cons_succ, List.getElem_cons_zero, List.setIfInBounds_toArray, List.set_cons_succ, List.set_cons_zero]
                refine anyL_takeH (i := 8) (v := ?_) rfl (by decide) (by kernel_rfl) (by kernel_rfl) (by kernel_rfl) (fun _ _ _ h => h) (Or.inl ⟨by rfl, ?_⟩) hS ?_
                rotate_left
                · (intro w' hSw; obtain ⟨s1, s2, s3, s4, s5, ⟨v1, s6⟩, ⟨v2, s7⟩⟩ := HCE.out _ hSw; go_simp; first | done | with_reducible rfl)
                simp only [Act.put, List.getElem_toArray, List.getElem_cons_succ, List.getElem_cons_zero, List.setIfInBounds_toArray, List.set_cons_succ, List.set_cons_zero]
                refine anyL_takeH (i := 9) (v := ?_) rfl (by decide) (by kernel_rfl) (by kernel_rfl) (by kernel_rfl) (fun _ _ _ h => h) (Or.inl ⟨by rfl, ?_⟩) hS ?_
                rotate_left
                · (intro w' hSw; obtain ⟨s1, s2, s3, s4, s5, ⟨v1, s6⟩, ⟨v2, s7⟩⟩ := HCE.out _ hSw; go_simp; first | done | with_reducible rfl)
                simp only [Act.put, List.getElem_toArray, List.getElem_cons_succ, List.getElem_cons_zero, List.setIfInBounds_toArray, List.set_cons_succ, List.set_cons_zero]
                refine anyL_takeH (i := 10) (v := ?_) rfl (by decide) (by kernel_rfl) (by kernel_rfl) (by kernel_rfl) (fun _ _ _ h => h) (Or.inl ⟨by rfl, ?_⟩) hS ?_
                rotate_left
                · (intro w' hSw; obtain ⟨s1, s2, s3, s4, s5, ⟨v1, s6⟩, ⟨v2, s7⟩⟩ := HCE.out _ hSw; go_simp; first | done | with_reducible rfl)
                simp only [Act.put, List.getElem_toArray, List.getElem_cons_succ, List.getElem_cons_zero, List.setIfInBounds_toArray, List.set_cons_succ, List.set_cons_zero]
                refine anyL_takeH (i := 11) (v := ?_) rfl (by decide) (by kernel_rfl) (by kernel_rfl) (by kernel_rfl) (fun _ _ _ h => h) (Or.inl ⟨by rfl, ?_⟩) hS ?_
                rotate_left
                · (intro w' hSw; obtain ⟨s1, s2, s3, s4, s5, ⟨v1, s6⟩, ⟨v2, s7⟩⟩ := HCE.out _ hSw; go_simp; first | done | with_reducible rfl)
                simp only [Act.put, List.getElem_toArray, List.getElem_cons_succ, List.getElem_cons_zero, List.setIfInBounds_toArray, List.set_cons_succ, List.set_cons_zero]
                refine anyL_takeH (i := 12) (v := ?_) rfl (by decide) (by kernel_rfl) (by kernel_rfl) (by kernel_rfl) (fun _ _ _ h => h) (Or.inl ⟨by rfl, ?_⟩) hS ?_
                rotate_left
                · (intro w' hSw; obtain ⟨s1, s2, s3, s4, s5, ⟨v1, s6⟩, ⟨v2, s7⟩⟩ := HCE.out _ hSw; go_simp; first | done | with_reducible rfl)
                simp only [Act.put, List.getElem_toArray, List.getElem_cons_succ, List.getElem_cons_zero, List.setIfInBounds_toArray, List.set_cons_succ, List.set_cons_zero]
                refine anyL_takeH (i := 13) (v := ?_) rfl (by decide) (by kernel_rfl) (by kernel_rfl) (by kernel_rfl) (fun _ _ _ h => h) (Or.inl ⟨by rfl, ?_⟩) hS ?_
                rotate_left
                · (intro w' hSw; obtain ⟨s1, s2, s3, s4, s5, ⟨v1, s6⟩, ⟨v2, s7⟩⟩ := HCE.out _ hSw; go_simp; first | done | with_reducible rfl)
                simp only [Act.put, List.getElem_toArray, List.getElem_cons_succ, List.getElem_cons_zero, List.setIfInBounds_toArray, List.set_cons_succ, List.set_cons_zero]
                obtain ⟨s1, s2, s3, s4, s5, ⟨v1, s6⟩, ⟨v2, s7⟩⟩ := HCE.out _ hS
                have e1 := gt_cell HSI.out.low htl2 (n := n) hnm
                have e2 := gt_cell HSI.out.up htl3 (n := n) hnm
                have f1 := VRow.frozen HSI.out.low n
                have f2 := VRow.frozen HSI.out.up n
                have hb1 : ¬ ub = lb := fun h => hne h.symm
                have hb2 : ¬ lb = ub := hne
                refine anyL_one (i := 14) (by kernel_rfl) rfl (fun K1 hK1 => ?_)
                go_simp
                have hS1 : (fun W : World => (∀ g, g ≠ lb → g ≠ ub → W.heap[g]? = wr.heap[g]?) ∧ (∃ l1, IRow W lb l1 ∧ l1.length = m) ∧ (∃ l2, IRow W ub l2 ∧ l2.length = m)) (wr.drew.setCell ⟨lb, n, none⟩ (.int .i64 x)) := ⟨fun g h1 h2 => Below.heap_setCell _ _ _ _ h1, ⟨_, IRow.set (w := wr.drew) HSI.out.low n _, by simpa using htl2⟩, ⟨_, VRow.keep HSI.out.up (Below.heap_setCell _ _ _ _ (Ne.symm hne)), htl3⟩⟩
                refine hK1.out _ _ (fun _ => hS1) ?_
                clear hK1 K1 s1 s2 s3 s4 s5 s6 s7 hS
                refine anyL_one (i := 15) (by kernel_rfl) rfl (fun K1 hK1 => ?_)
                go_simp
                refine hK1.out _ _ (fun _ => hS1) ?_
                clear hK1 K1
                refine anyL_one (i := 16) (by kernel_rfl) rfl (fun K1 hK1 => ?_)
                go_simp
                have hS2 : (fun W : World => (∀ g, g ≠ lb → g ≠ ub → W.heap[g]? = wr.heap[g]?) ∧ (∃ l1, IRow W lb l1 ∧ l1.length = m) ∧ (∃ l2, IRow W ub l2 ∧ l2.length = m)) ((wr.drew.setCell ⟨lb, n, none⟩ (.int .i64 x)).setCell ⟨ub, n, none⟩ (.int .i64 pn)) := ⟨fun g h1 h2 => (Below.heap_setCell _ _ _ _ h2).trans (Below.heap_setCell _ _ _ _ h1), ⟨_, VRow.keep (IRow.set (w := wr.drew) HSI.out.low n _) (Below.heap_setCell _ _ _ _ hne), by simpa using htl2⟩, ⟨_, IRow.set (VRow.keep HSI.out.up (Below.heap_setCell _ _ _ _ (Ne.symm hne))) n _, by simpa using htl3⟩⟩
                refine hK1.out _ _ (fun _ => hS2) ?_
                clear hK1 K1 hS1
                refine anyL_done (by kernel_rfl) ?_ _
                go_wp2
                go_roundw
                case rel =>
                  refine ⟨j + 1, by omega, congrArg (Value.int .i64) (by omega), Lib.hid ?_⟩
                  rw [HFIN.out]
                  exact ⟨VRow.keep HSI.out.semi (hS2.1 _ (by omega) (by omega)), VRow.keep (IRow.set (w := wr.drew) HSI.out.low n _) (Below.heap_setCell _ _ _ _ hne), IRow.set (VRow.keep HSI.out.up (Below.heap_setCell _ _ _ _ (Ne.symm hne))) n _, (hS2.1 _ (by omega) (by omega)).trans HSI.out.box, ((drW HSI.out.below).setCell (show w.heap.size ≤ lb by omega) _).setCell (show w.heap.size ≤ ub by omega) _⟩
                case measure => simp [intOf] <;> omega
          · obtain rfl : m = j := by omega
            have e1 : (m : Int) - 1 - (m : Int) = -1 := by omega
            rw [e1]
            go_wp2
            go_ret
            exact ⟨w.heap.size + 1, rfl, by omega, HSA.out.semi, HSA.out.below⟩
end Go.Proofs.Ytbpagfddofbjbaa
namespace Go.Proofs.Ytbpagfddofbjbaa
set_option maxRecDepth 100000
open Go.RowKit Cd Go.Maps
set_option linter.unusedVariables false
set_option linter.unusedSimpArgs false

theorem domD_more (p semi : List Int) (m k : Nat) : domD p semi m (k + 1) = (domD p semi m k).set k (upTo (domD p semi m k) (Cd.gt semi (k : Int)) k (Cd.gt p (k : Int))) := rfl
set_option maxHeartbeats 8000000 in
set_option maxRecDepth 100000 in
theorem dominators_c (B : List (List Int)) (ba : Option Addr) (bc : Nat) (e p : List Int) (ae ap : Option Addr) (ce cp mb : Nat) (vl : Value) (w : World) (hB : RowsAt w w.heap.size ba B) (hW : WkAt w e p ae ap mb) (hei : ∀ x ∈ e, 0 ≤ x ∧ x < (B.length : Int)) (hp : ParOk e.length p) (hm : e.length ≤ 10000) (hBl : B.length ≤ 100000) (hr : ∀ l ∈ B, l.length ≤ 100000) (hrI : ∀ l ∈ B, ∀ y ∈ l, 0 ≤ y ∧ y ≤ 100000) :
    Calls Try.prog 64 #[.agg #[.slice ae e.length ce, .slice ap p.length cp, vl, .map (some mb)], .slice ba B.length bc] w fun r w' => ∃ b, r = .returned (.slice (some ⟨b, 0, none⟩) e.length e.length) ∧ w.heap.size ≤ b ∧ IRow w' b (domD p (semiD B e p e.length).semi e.length e.length) ∧ Below w.heap.size w w' := by
  have hbA := (Below.refl w.heap.size w).alloc (Nat.le_refl _) (wkO (.slice ae e.length ce) (.slice ap p.length cp) vl (.map (some mb)))
  have hsemi := semi_c B ba bc e p ae ap ce cp mb vl (w.alloc (wkO (.slice ae e.length ce) (.slice ap p.length cp) vl (.map (some mb)))) ((hB.below hbA).mono (by simp) (Nat.le_refl _)) (hW.below hbA) hei hp hm hBl hr hrI
  have hsok := (semiD_ok (B := B) hp e.length (Nat.le_refl _)).semi
  obtain ⟨m, hme⟩ : ∃ m, e.length = m := ⟨_, rfl⟩
  have hpm : p.length = m := hp.1.trans hme
  obtain ⟨semi, hse⟩ : ∃ semi, (semiD B e p e.length).semi = semi := ⟨_, rfl⟩
  rw [hse] at hsemi hsok ⊢
  rw [hme] at hp hm hsemi hsok ⊢
  rw [hpm] at hsemi ⊢
  have hsl := hsok.1
  have HS := Lib.hid hsemi; have HSOK := Lib.hid hsok; have HW := Lib.hid hW; have HP := Lib.hid hp; have HPM := Lib.hid hpm
  have hmk := make_ints m (by omega)
  have HBX0 := Lib.hid (heap_alloc_new w (wkO (.slice ae m ce) (.slice ap m cp) vl (.map (some mb))))
  have HBA : Hid (Below w.heap.size w (w.alloc (wkO (.slice ae m ce) (.slice ap m cp) vl (.map (some mb))))) := Lib.hid ((Below.refl w.heap.size w).alloc (Nat.le_refl _) _)
  clear hsemi hsok hW hp hpm hB hei hr hrI hme hse hbA
  go_enter Try.func64, Try.ntmps64
  go_wp2_with ((with_reducible refine HS.out.mono ?_); rintro r w1 ⟨sb, rfl, hsb, hrow, hb1⟩; have HSB := Lib.hid hrow; have HB1 := Lib.hid (HBA.out.trans (hb1.mono (by simp))); have HBX1 := Lib.hid ((hb1.block w.heap.size (by simp)).trans HBX0.out); have hsb2 : w.heap.size + 1 ≤ sb := (by simpa using hsb); clear hrow hb1 hsb)
  have hz1 := HSB.out.lt
  have hz2 := lt_heap HBX1.out
  have hs1 := HB1.out.size
  go_loopw [17] (fun s17 wr => ∃ k : Nat, k ≤ m ∧ s17 = .int .i64 (k : Int) ∧ Hid (IRow wr w1.heap.size (domD p semi m k)) ∧ Hid (IRow wr sb semi) ∧ Hid (wr.heap[w.heap.size]? = some (wkO (.slice ae m ce) (.slice ap m cp) vl (.map (some mb)))) ∧ Hid (Below w.heap.size w wr)) (fun s17 wr => m - (intOf s17).toNat)
  case atStart => exact ⟨0, by omega, rfl, Lib.hid (VRow.newI w1 _), Lib.hid (VRow.keep HSB.out (Below.heap_alloc _ _ _ hz1)), Lib.hid ((Below.heap_alloc _ _ _ hz2).trans HBX1.out), Lib.hid (HB1.out.alloc hs1 _)⟩
  case round =>
    obtain ⟨k, hk, rfl, HA, HSE, HX, HB⟩ := hrel
    have k0 : (0 : Int) ≤ (k : Int) := Int.natCast_nonneg _
    by_cases hlt : k < m
    · have k1 : (k : Int) < (m : Int) := by omega
      obtain ⟨hdl, hdo⟩ := domD_ok HP.out HSOK.out k hk
      obtain ⟨A, hA⟩ : ∃ A, domD p semi m k = A := ⟨_, rfl⟩
      rw [hA] at HA hdl hdo
      have hmore := domD_more p semi m k
      rw [hA] at hmore
      obtain ⟨pb, poff, rfl, hpb, _, hpc⟩ := IntsAt.cellsB (HW.out.par.below HB.out) (gt_nat HPM.out hlt)
      obtain ⟨x0, x1, x2, x3⟩ := nv4 HX.out
      have cse := gt_cell HSE.out hsl (n := k) hlt
      obtain ⟨lim, hlim⟩ : ∃ lim, Cd.gt semi (k : Int) = lim := ⟨_, rfl⟩
      obtain ⟨d0, hd0⟩ : ∃ d0, Cd.gt p (k : Int) = d0 := ⟨_, rfl⟩
      have hlim0 := (HSOK.out.gt (n := (k : Int)) (by simpa using hlt)).1
      have hd1 := HP.out.2 k _ (gt_nat HPM.out hlt)
      rw [hlim] at hmore cse hlim0
      rw [hd0] at hmore hpc hd1
      obtain ⟨tgt, htg⟩ : ∃ tgt, upTo A lim k d0 = tgt := ⟨_, rfl⟩
      rw [htg] at hmore
      have HMORE := Lib.hid hmore; have HDO := Lib.hid hdo; have HTG := Lib.hid htg
      have hpb2 : pb < wr.heap.size := by have := HB.out.size; omega
      clear hmore hdo htg hA hlim hd0 x0 x2 x3
      go_wp2
      go_loopw [8] (fun s8 wr => ∃ (f : Nat) (d : Int), s8 = .int .i64 d ∧ -1 ≤ d ∧ d < (k : Int) ∧ d < (f : Int) + 1 ∧ Hid (upTo A lim f d = tgt) ∧ Hid (IRow wr w1.heap.size A) ∧ Hid (IRow wr sb semi) ∧ Hid (wr.heap[w.heap.size]? = some (wkO (.slice ae m ce) (.slice (some ⟨pb, poff, none⟩) m cp) vl (.map (some mb)))) ∧ Hid (Below w.heap.size w wr)) (fun s8 wr => (intOf s8 + 1).toNat)
      case atStart => exact ⟨k, d0, rfl, hd1.1, hd1.2, by omega, HTG, HA, HSE, HX, HB⟩
      case round =>
        obtain ⟨f, d, rfl, hd2, hd3, hd4, HU, HA2, HSE2, HX2, HB2⟩ := hrel
        have cse2 : wr.cell? ⟨sb, k, none⟩ = some (.int .i64 lim) := (World.cell?_of_block (w := wr) rfl).trans (by have h := HSE2.out; have h2 := HSE.out; unfold IRow VRow at h h2; rw [← cse]; exact World.cell?_of_block (by rw [h, h2]))
        by_cases hdl2 : d > lim
        · have t0 : decide (d > lim) = true := by simpa using hdl2
          have t1 : decide (lim < d) = true := by simpa using hdl2
          obtain ⟨i, rfl⟩ : ∃ i : Nat, d = (i : Int) := ⟨d.toNat, by omega⟩
          obtain ⟨f', rfl⟩ : ∃ f', f = f' + 1 := ⟨f - 1, by omega⟩
          have i0 : (0 : Int) ≤ (i : Int) := Int.natCast_nonneg _
          have i1 : (i : Int) < (m : Int) := by omega
          have hik := HDO.out i (by omega)
          have ca := gt_cell HA2.out hdl (n := i) (by omega)
          have HU2 := Lib.hid ((upTo_step (f := f') hdl2).symm.trans HU.out)
          obtain ⟨nx, hnx⟩ : ∃ nx, Cd.gt A (i : Int) = nx := ⟨_, rfl⟩
          rw [hnx] at hik ca HU2
          clear hdl2 hnx
          go_wp2
          go_roundw
          case rel => exact ⟨f', nx, rfl, hik.1, by omega, by omega, HU2, HA2, HSE2, HX2, HB2⟩
          case measure => simp [intOf] <;> omega
        · have t0 : decide (d > lim) = false := by simpa using hdl2
          have t1 : decide (lim < d) = false := by simpa using hdl2
          have HD := Lib.hid ((upTo_stop (f := f) hdl2).symm.trans HU.out)
          have ca := gt_cell HA2.out hdl (n := k) hlt
          have fa := VRow.frozen HA2.out k
          clear hdl2
          go_wp2
          go_roundw
          case rel =>
            refine ⟨k + 1, by omega, by go_num, Lib.hid ?_, Lib.hid (VRow.keep HSE2.out (Below.heap_setCell _ _ _ _ (by simp <;> omega))), Lib.hid ((Below.heap_setCell _ _ _ _ (by simp <;> omega)).trans HX2.out), Lib.hid (HB2.out.setCell (show w.heap.size ≤ w1.heap.size from hs1) _)⟩
            rw [HMORE.out, ← HD.out]
            exact IRow.set HA2.out k _
          case measure => simp [intOf]; omega
    · obtain rfl : m = k := by omega
      go_wp2
      go_ret
      exact ⟨w1.heap.size, rfl, hs1, HA.out, HB.out⟩
set_option maxHeartbeats 2000000 in
theorem dominates_c (ab : List Int) (aa : Option Addr) (ac : Nat) (a b : Int) (w : World) (hA : RowAt w w.heap.size aa (ints ab)) (ha : 0 ≤ a ∧ a < (ab.length : Int)) (hb : 0 ≤ b ∧ b < (ab.length : Int)) (hab : ∀ i : Nat, i < ab.length → -1 ≤ Cd.gt ab (i : Int) ∧ Cd.gt ab (i : Int) < (i : Int)) (hl : ab.length ≤ 100000) (r : Bool) (hr : domsP ab a b = r) :
    Calls Try.prog 67 #[.slice aa ab.length ac, .int .i64 a, .int .i64 b] w fun e w' => e = .returned (.bool r) ∧ w = w' := by
  have HA := Lib.hid hA; have HAB := Lib.hid hab
  obtain ⟨tgt, htg⟩ : ∃ tgt, upTo ab a ab.length b = tgt := ⟨_, rfl⟩
  have HR : Hid (decide (a = tgt) = r) := Lib.hid (by rw [← hr]; unfold domsP; rw [htg])
  have HTG := Lib.hid htg
  clear hA hab hr htg
  go_enter Try.func67, Try.ntmps67
  go_wp2
  go_loopw [2] (fun s2 wr => ∃ (f : Nat) (d : Int), s2 = .int .i64 d ∧ -1 ≤ d ∧ d < (ab.length : Int) ∧ d < (f : Int) + 1 ∧ Hid (upTo ab a f d = tgt) ∧ wr = w) (fun s2 wr => (intOf s2 + 1).toNat)
  case atStart => exact ⟨ab.length, b, rfl, by omega, hb.2, by omega, HTG, rfl⟩
  case round =>
    obtain ⟨f, d, rfl, hd2, hd3, hd4, HU, rfl⟩ := hrel
    by_cases hdl2 : d > a
    · have t0 : decide (d > a) = true := by simpa using hdl2
      have t1 : decide (a < d) = true := by simpa using hdl2
      obtain ⟨i, rfl⟩ : ∃ i : Nat, d = (i : Int) := ⟨d.toNat, by omega⟩
      obtain ⟨f', rfl⟩ : ∃ f', f = f' + 1 := ⟨f - 1, by omega⟩
      have i0 : (0 : Int) ≤ (i : Int) := Int.natCast_nonneg _
      obtain ⟨bb, off, rfl, hbb, _, ca⟩ := IntsAt.cellsB HA.out (gt_nat (l := ab) rfl (n := i) (by omega))
      have hik := HAB.out i (by omega)
      have HU2 := Lib.hid ((upTo_step (f := f') hdl2).symm.trans HU.out)
      obtain ⟨nx, hnx⟩ : ∃ nx, Cd.gt ab (i : Int) = nx := ⟨_, rfl⟩
      rw [hnx] at hik ca HU2
      clear hdl2 hnx
      go_wp2
      go_roundw
      case rel => exact ⟨f', nx, rfl, hik.1, by omega, by omega, HU2, (by first | rfl | trivial)⟩
      case measure => simp [intOf] <;> omega
    · have t0 : decide (d > a) = false := by simpa using hdl2
      have t1 : decide (a < d) = false := by simpa using hdl2
      have HD := Lib.hid ((upTo_stop (f := f) hdl2).symm.trans HU.out)
      have HE : Hid ((a == d) = r) := Lib.hid (by rw [← HR.out, ← HD.out]; rfl)
      clear hdl2
      go_wp2
      go_ret
      exact ⟨by rw [← HE.out]; rfl, (by first | rfl | trivial)⟩
end Go.Proofs.Ytbpagfddofbjbaa
