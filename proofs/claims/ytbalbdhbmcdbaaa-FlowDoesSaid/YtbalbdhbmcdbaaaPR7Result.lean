/-
  Contract of doppellaw07's Result.
-/
import Derived.Test.YtbalbdhbmcdbaaaPNB
import Derived.Test.YtbalbdhbmcdbaaaPR7Find
import Derived.Test.YtbalbdhbmcdbaaaPLB
set_option linter.unusedVariables false
set_option linter.unusedSimpArgs false
namespace Go.Proofs.Ytbalbdhbmcdbaaa
set_option maxRecDepth 100000
open Go.RowKit Cd
def BytesAt (w : World) (a : Option Addr) (l : List UInt8) : Prop := RowAt w w.heap.size a (l.map fun c => Value.int .u8 c.toNat)
theorem BytesAt.below {w w' : World} {a : Option Addr} {l : List UInt8} (h : BytesAt w a l) (hb : Below w.heap.size w w') : BytesAt w' a l := RowAt.mono (RowAt.below h hb) hb.size (Nat.le_refl _)
theorem BytesAt.at {w : World} {a : Option Addr} {l : List UInt8} {k : Nat} {x : UInt8} (h : BytesAt w a l) (hk : l[k]? = some x) : ∃ b off, a = some ⟨b, off, none⟩ ∧ b < w.heap.size ∧ w.cell? ⟨b, off + k, none⟩ = some (.int .u8 x.toNat) := by
  have hlt := (List.getElem?_eq_some_iff.1 hk).1
  obtain ⟨b, off, ha, hb, _, hc⟩ := h (by rw [List.length_map]; omega)
  exact ⟨b, off, ha, hb, hc k _ (by rw [List.getElem?_map, hk]; rfl)⟩
abbrev rsV (r : Rsu) (a : Option Addr) (c : Nat) : Value := .agg #[.int .i64 r.fin, .int .i64 r.code, .slice a r.out.length c]
abbrev rsO (r : Rsu) (a : Option Addr) (c : Nat) : Obj := .cells #[.int .i64 r.fin, .int .i64 r.code, .slice a r.out.length c] 69
def Cd.sameR (x y : Rsu) : Bool := decide (x.fin = y.fin) && decide (x.code = y.code) && decide (x.out = y.out)
theorem take_moreB {l : List UInt8} {k : Nat} {x : UInt8} (h : l[k]? = some x) : l.take (k + 1) = l.take k ++ [x] := by
  obtain ⟨hk, hx⟩ := List.getElem?_eq_some_iff.1 h
  rw [List.take_succ_eq_append_getElem hk, hx]
set_option maxHeartbeats 4000000 in
theorem result_v (x y : Rsu) (xa ya : Option Addr) (xc yc : Nat) (m : Bool) (w : World) (hx : BytesAt w xa x.out) (hy : BytesAt w ya y.out) (hl : x.out.length ≤ maxLen) (hl2 : y.out.length ≤ maxLen) (hm : sameR x y = m) :
    Calls Try.prog 53 #[rsV x xa xc, rsV y ya yc] w (RPost (.bool m) w) := by
  unfold maxLen at hl hl2
  have HX := Lib.hid hx; have HY := Lib.hid hy; have HM := Lib.hid hm; clear hx hy hm
  by_cases y0 : x.fin = y.fin
  rotate_left
  · have t0 : (x.fin != y.fin) = true := by simpa using y0
    have E := Lib.hid (show m = false by rw [← HM.out]; unfold sameR; rw [decide_eq_false y0]; rfl)
    go_enter Try.func53, Try.ntmps53
    go_wp2
    go_ret
    exact ⟨by rw [E.out]; rfl, ((Below.refl _ _).alloc (Nat.le_refl _) _).alloc (by simp) _⟩
  have t0 : (x.fin != y.fin) = false := by simpa using y0
  by_cases y1 : x.code = y.code
  rotate_left
  · have t1 : (x.code != y.code) = true := by simpa using y1
    have E := Lib.hid (show m = false by rw [← HM.out]; unfold sameR; rw [decide_eq_false y1]; simp)
    go_enter Try.func53, Try.ntmps53
    go_wp2
    go_ret
    exact ⟨by rw [E.out]; rfl, ((Below.refl _ _).alloc (Nat.le_refl _) _).alloc (by simp) _⟩
  have t1 : (x.code != y.code) = false := by simpa using y1
  by_cases y2 : x.out.length = y.out.length
  rotate_left
  · have t2 : ((x.out.length : Int) != (y.out.length : Int)) = true := by simp; omega
    have E := Lib.hid (show m = false by rw [← HM.out]; unfold sameR; rw [decide_eq_false (show ¬ x.out = y.out from fun h => y2 (by rw [h]))]; simp)
    go_enter Try.func53, Try.ntmps53
    go_wp2
    go_ret
    exact ⟨by rw [E.out]; rfl, ((Below.refl _ _).alloc (Nat.le_refl _) _).alloc (by simp) _⟩
  have t2 : ((x.out.length : Int) != (y.out.length : Int)) = false := by simp; omega
  have HM2 := Lib.hid (show decide (x.out = y.out) = m by rw [← HM.out]; unfold sameR; rw [decide_eq_true y0, decide_eq_true y1]; simp)
  clear y0 y1 HM
  have HL := Lib.hid y2
  have y2' : y.out.length = x.out.length := y2.symm
  have hle : x.out.length ≤ y.out.length := by omega
  clear y2 y2'
  go_enter Try.func53, Try.ntmps53
  go_wp2
  go_loopw [30] (fun s30 wr => ∃ k : Nat, k ≤ x.out.length ∧ s30 = .int .i64 k ∧ Hid (Below w.heap.size w wr) ∧ Hid (wr.heap[w.heap.size]? = some (rsO x xa xc)) ∧ Hid (wr.heap[w.heap.size + 1]? = some (rsO y ya yc)) ∧ Hid (x.out.take k = y.out.take k)) (fun i wr => x.out.length - (intOf i).toNat)
  case atStart => exact ⟨0, by omega, rfl, Lib.hid (((Below.refl _ _).alloc (Nat.le_refl _) _).alloc (by simp) _), Lib.hid ((Below.heap_alloc _ _ _ (by simp)).trans (heap_alloc_new w _)), Lib.hid (by have := heap_alloc_new (w.alloc (rsO x xa xc)) (rsO y ya yc); rw [World.size_alloc] at this; exact this), Lib.hid (by simp)⟩
  case round =>
    obtain ⟨k, hk, rfl, HB, HW, HV, HA⟩ := hrel
    obtain ⟨d0, d1, d2⟩ := nv3 HW.out
    obtain ⟨e0, e1, e2⟩ := nv3 HV.out
    by_cases hlt : k < x.out.length
    · obtain ⟨u, hu⟩ : ∃ u, x.out[k]? = some u := ⟨_, List.getElem?_eq_getElem hlt⟩
      obtain ⟨v, hv⟩ : ∃ v, y.out[k]? = some v := ⟨_, List.getElem?_eq_getElem (by omega)⟩
      obtain ⟨b, off, hxa, hb, c0⟩ := (HX.out.below HB.out).at hu
      subst hxa
      obtain ⟨b2, off2, hya, hb2, c1⟩ := (HY.out.below HB.out).at hv
      subst hya
      have HU := Lib.hid hu; have HVV := Lib.hid hv; clear hu hv
      have p0 : (0 : Int) ≤ (k : Int) := Int.natCast_nonneg _
      have p1 : (k : Int) < (x.out.length : Int) := by omega
      have p2 : (k : Int) < (y.out.length : Int) := by omega
      by_cases huv : u = v
      · have t9 : (((u.toNat : Nat) : Int) != ((v.toNat : Nat) : Int)) = false := by simp [huv]
        have HA2 := Lib.hid (show x.out.take (k + 1) = y.out.take (k + 1) by have e1 := take_moreB HU.out; have e2 := take_moreB HVV.out; rw [e1, e2, HA.out, huv])
        clear huv
        go_wp2
        go_quiet (fail)
        go_wp2
        go_roundw
        case rel => exact ⟨k + 1, by omega, by go_num, Lib.hid (drN HB.out _), Lib.hid HW.out, Lib.hid HV.out, HA2⟩
        case measure => simp [intOf]; omega
      · have t9 : (((u.toNat : Nat) : Int) != ((v.toNat : Nat) : Int)) = true := by simp; intro h; exact huv (UInt8.toNat_inj.1 (by omega))
        have E := Lib.hid (show m = false by rw [← HM2.out]; exact decide_eq_false (fun h => huv (by have h1 := HU.out; rw [h, HVV.out] at h1; injection h1 with h1; exact h1.symm)))
        clear huv
        go_wp2
        go_quiet (fail)
        go_wp2
        go_ret
        exact ⟨by rw [E.out]; rfl, drN HB.out _⟩
    · obtain rfl : k = x.out.length := by omega
      have E := Lib.hid (show m = true by rw [← HM2.out]; exact decide_eq_true (by have h := HA.out; rw [List.take_length, HL.out, List.take_length] at h; exact h))
      go_wp2
      go_ret
      exact ⟨by rw [E.out]; rfl, HB.out⟩
end Go.Proofs.Ytbalbdhbmcdbaaa
