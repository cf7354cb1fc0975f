/-
  The walk of LexPlaces.
-/
import Derived.Test.YtbafkkifdfmldaaDoorUse
import Derived.Test.YtbafkkifdfmldaaDoorPlaced
import Derived.IntWalk
import Derived.Deep.QuietTactic
import Derived.BigQuiet
import Derived.Deep.LoopGhost
namespace Go.Proofs.YtbafkkifdfmldaaDoor.lexPlaces
open Go.RowKit Sp
set_option linter.unusedVariables false

theorem bs_size (l : List UInt8) : (bs l).size = l.length := rfl
theorem bs_list (l : List UInt8) : (bs l).data.toList = l := rfl
theorem extract_is (s : ByteArray) (p q : Nat) (x : List UInt8) (h : (s.data.toList.drop p).take (q - p) = x) : s.extract p q = bs x := by
  rw [extract_bs, List.drop_take, h]
set_option maxHeartbeats 4000000 in
set_option maxRecDepth 100000 in
theorem walk (a0 : ByteArray) (_w0 : a0.size ≤ maxLen) (w : World) (henv : Env w) :
    Calls Tryd.prog 6 #[.string a0] w fun e w' => e = .returned (.bool true) ∧ Below w.heap.size w w' := by
  have HM := Lib.hid _w0
  unfold maxLen at _w0
  have HE := Lib.hid henv; clear henv
  by_cases hl : 4000 < a0.size
  · go_enter Tryd.func6, Tryd.ntmps6
    go_wp2_with ((with_reducible refine (awake_any _ HE.out).mono ?_); rintro e w1 ⟨rfl, hb⟩)
    go_ret
    exact ⟨rfl, hb⟩
  · have hl2 : a0.size ≤ 4000 := by omega
    clear hl
    cases hsc : Sp.scan a0.data.toList with
    | error x =>
      obtain ⟨p, x⟩ := x
      have HSC := Lib.hid hsc
      have hx := scan_code hsc
      clear hsc
      have hne : ((x : Int) != 0) = true := by simp; omega
      clear hx
      go_enter Tryd.func6, Tryd.ntmps6
      go_wp2_with (first | ((with_reducible refine (scan_err _ p x _ HE.out HM.out HSC.out).mono ?_); rintro e w1 ⟨rfl, hb⟩; have HB := Lib.hid hb; have HE1 : Hid (Env w1) := Lib.hid (HE.out.below hb HE.out.sz); clear hb) | ((with_reducible refine (awake_any _ HE1.out).mono ?_); rintro e w2 ⟨rfl, hb2⟩))
      go_ret
      exact ⟨rfl, HB.out.trans (hb2.mono HB.out.size)⟩
    | ok ts =>
      have HSC := Lib.hid hsc
      have HPL := Lib.hid (scan_placed hsc)
      have hts : ts.length ≤ 8193 := scan_few hsc
      have hts1 : 0 < ts.length := List.length_pos_iff.2 (scan_ne hsc)
      clear hsc
      go_enter Tryd.func6, Tryd.ntmps6
      go_wp2_with ((with_reducible refine (scan_ok _ ts _ HE.out HM.out HSC.out).mono ?_); rintro e w1 ⟨g, cap, rfl, ht, hb⟩; have HT := Lib.hid ht; have HB := Lib.hid hb; have HE1 : Hid (Env w1) := Lib.hid (HE.out.below hb HE.out.sz); have hg := ht.ge; clear ht hb)
      have hz1 : w1.heap.size = w1.heap.size := rfl
      go_loopg [6, 24] ts.length (fun gg s6 s24 wr => ∃ i a : Nat, gg = ts.length - i ∧ i ≤ ts.length ∧ s6 = .int .i64 a ∧ s24 = .int .i64 i ∧ Hid ((i < ts.length → Pl a0.data.toList a (ts.drop i)) ∧ Below w1.heap.size w1 wr))
      case atStart => exact ⟨0, 0, rfl, by omega, rfl, rfl, Lib.hid ⟨fun _ => HPL.out, Below.refl _ _⟩⟩
      case round =>
        obtain ⟨i, a, hgg, hi, rfl, rfl, HR⟩ := hrel
        subst hgg
        by_cases hlt : i < ts.length
        · obtain ⟨t, hti⟩ : ∃ t, ts[i]? = some t := ⟨ts[i], List.getElem?_eq_getElem hlt⟩
          have hdr : ts.drop i = t :: ts.drop (i + 1) := by
            rw [List.drop_eq_getElem_cons hlt, (List.getElem?_eq_some_iff.1 hti).2]
          have hpl := HR.out.1 hlt
          rw [hdr] at hpl
          obtain ⟨c0, c1, c2, c3⟩ := (HT.out.below HR.out.2 (Nat.le_refl _)).at hti
          have HTI := Lib.hid hti; clear hti
          obtain ⟨m, hm⟩ : ∃ m, ts.length - 1 = m := ⟨_, rfl⟩
          have hwm : IntKind.i64.wrap ((ts.length : Int) - 1) = (m : Int) := by rw [IntWalk.i64_in _ (by omega)]; omega
          obtain ⟨x, hx⟩ : ∃ x, bs t.text = x := ⟨_, rfl⟩
          have hxs : x.size = t.text.length := by rw [← hx]; rfl
          obtain ⟨q, hq⟩ : ∃ q, t.pos + x.size = q := ⟨_, rfl⟩
          have hqi : (t.pos : Int) + (x.size : Int) = (q : Int) := by omega
          cases hrest : ts.drop (i + 1) with
          | nil =>
            rw [hrest] at hpl
            obtain ⟨p1, p2, p3, p4, p5⟩ := hpl
            have him : i = m := by
              have := congrArg List.length hrest
              simp at this
              omega
            have hx0 : x.size = 0 := by rw [hxs, p2]; rfl
            simp at p4 p5
            have hq1 : (q : Int) ≤ (a0.size : Int) := by omega
            have hq0 : (t.pos : Int) ≤ (q : Int) := by omega
            have hp0 : (0 : Int) ≤ (t.pos : Int) := Int.natCast_nonneg _
            have hqz : (0 : Int) ≤ (q : Int) := Int.natCast_nonneg _
            have hk : ((t.k : Int) == 0) = true := by simp [p1]
            have hib : ((i : Int) == (m : Int)) = true := by simp [him]
            have hd1 : decide (t.pos < a) = false := by simp; omega
            have hd2 : decide (a0.size < q) = false := by simp; omega
            have hd3 : decide ((t.n : Int) < 0) = false := by simp
            have hd4 : decide ((4294967296 : Int) ≤ (t.n : Int)) = false := by simp; omega
            have hwr : IntKind.i64.wrap ((t.pos : Int) + (x.size : Int)) = (q : Int) := by rw [IntWalk.i64_in _ (by omega)]; omega
            have hex : a0.extract t.pos q = x := by rw [← hx]; exact extract_is _ _ _ _ (by rw [show q - t.pos = 0 by omega, p2]; rfl)
            have hxe : x.toList.isEmpty = true := by rw [ByteArray.toList_eq, ← hx, p2]; rfl
            rw [hx] at c1
            have HX := Lib.hid hx; have HXS := Lib.hid hxs; have HQ := Lib.hid hq; have HM2 := Lib.hid hm; have HIM := Lib.hid him
            have k0 : (0 : Int) ≤ (i : Int) := Int.natCast_nonneg _
            have k1 : (i : Int) < (ts.length : Int) := by omega
            clear p1 p2 p3 p4 p5 hdr hrest hx hxs hq hm him hx0
            go_wp2
            go_quiet (fail)
            go_wp2
            go_roundg (ts.length - (i + 1))
            case measure => omega
            case rel => exact ⟨i + 1, q, rfl, by omega, rfl, by go_num, Lib.hid ⟨fun h => absurd h (by have := HIM.out; have := HM2.out; omega), HR.out.2.trans ((((Below.refl _ _).alloc (HR.out.2.size) _)).trans (below_drewN _ _ _))⟩⟩
          | cons u r =>
            rw [hrest] at hpl
            obtain ⟨p1, p2, p3, p4, p5, p6, p7⟩ := hpl
            have him : i ≠ m := by
              intro e
              have := congrArg List.length hrest
              simp at this
              omega
            have hq1 : (q : Int) ≤ (a0.size : Int) := by simp at p2; omega
            have hq0 : (t.pos : Int) ≤ (q : Int) := by omega
            have hp0 : (0 : Int) ≤ (t.pos : Int) := Int.natCast_nonneg _
            have hqz : (0 : Int) ≤ (q : Int) := Int.natCast_nonneg _
            have hpa : (a : Int) ≤ (t.pos : Int) := by omega
            have hn0 : (0 : Int) ≤ (t.n : Int) := Int.natCast_nonneg _
            have hn1 : (t.n : Int) ≤ 4294967295 := by omega
            have hk : ((t.k : Int) == 0) = false := by simp; omega
            have hib : ((i : Int) == (m : Int)) = false := by simp; omega
            have hd1 : decide (t.pos < a) = false := by simp; omega
            have hd2 : decide (a0.size < q) = false := by simp; omega
            have hd3 : decide ((t.n : Int) < 0) = false := by simp
            have hd4 : decide ((4294967296 : Int) ≤ (t.n : Int)) = false := by simp; omega
            have hwr : IntKind.i64.wrap ((t.pos : Int) + (x.size : Int)) = (q : Int) := by rw [IntWalk.i64_in _ (by simp at p2; omega)]; omega
            have hex : a0.extract t.pos q = x := by rw [← hx]; exact extract_is _ _ _ _ (by rw [show q - t.pos = t.text.length by omega]; exact p3)
            have hxe : x.toList.isEmpty = false := by rw [ByteArray.toList_eq, ← hx]; cases ht : t.text with | nil => exact absurd ht p5 | cons _ _ => rfl
            have HP7 : Hid (Pl a0.data.toList q (u :: r)) := Lib.hid (by rw [← hq, hxs]; exact p7)
            have HDR := Lib.hid hrest
            rw [hx] at c1
            have HX := Lib.hid hx; have HXS := Lib.hid hxs; have HQ := Lib.hid hq; have HM2 := Lib.hid hm
            have k0 : (0 : Int) ≤ (i : Int) := Int.natCast_nonneg _
            have k1 : (i : Int) < (ts.length : Int) := by omega
            clear p1 p2 p3 p4 p5 p6 p7 hdr hrest hx hxs hq hm him
            go_wp2
            go_quiet (fail)
            go_wp2
            go_roundg (ts.length - (i + 1))
            case measure => omega
            case rel => exact ⟨i + 1, q, rfl, by omega, rfl, by go_num, Lib.hid ⟨fun _ => by rw [HDR.out]; exact HP7.out, HR.out.2.trans ((((Below.refl _ _).alloc (HR.out.2.size) _)).trans (below_drewN _ _ _))⟩⟩
        · obtain ⟨t, hti, hlast⟩ := HPL.out.last
          obtain ⟨m, hm⟩ : ∃ m, ts.length - 1 = m := ⟨_, rfl⟩
          rw [hm] at hti
          obtain ⟨c0, c1, c2, c3⟩ := (HT.out.below HR.out.2 (Nat.le_refl _)).at hti
          have hps : t.pos = a0.size := by simpa using hlast
          rw [hps] at c3
          have hmi : ((ts.length : Int) - 1) = (m : Int) := by omega
          have hm0 : (0 : Int) ≤ (m : Int) := Int.natCast_nonneg _
          have hm1 : (m : Int) < (ts.length : Int) := by omega
          have hpos : decide ((0 : Int) < (ts.length : Int)) = true := by simp; omega
          have HEW : Hid (Env wr) := Lib.hid (HE1.out.below HR.out.2 HE1.out.sz)
          have HBW : Hid (Below w.heap.size w wr) := Lib.hid (HB.out.trans (HR.out.2.mono HB.out.size))
          have hii : ts.length = i := by omega
          clear hti hlast hps hm c0 c1 c2
          subst hii
          go_wp2_with ((with_reducible refine (awake_any _ HEW.out).mono ?_); rintro e w4 ⟨rfl, hb4⟩)
          go_ret
          exact ⟨rfl, HBW.out.trans (hb4.mono HBW.out.size)⟩
end Go.Proofs.YtbafkkifdfmldaaDoor.lexPlaces
