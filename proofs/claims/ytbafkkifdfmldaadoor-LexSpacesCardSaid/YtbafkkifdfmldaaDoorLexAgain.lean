/-
  The walk of LexAgain.
-/
import Derived.Test.YtbafkkifdfmldaaDoorSame
import Derived.Laws.Concat
namespace Go.Proofs.YtbafkkifdfmldaaDoor.lexAgain
open Go.RowKit Sp
set_option linter.unusedVariables false

theorem toks_of {g cap b : Nat} {ts ts' : List Tok} {w : World} (h : Toks g cap b ts w) (e : ts = ts') : Toks g cap b ts' w := e ▸ h
theorem bs_app' (a b : List UInt8) : bs a ++ bs b = bs (a ++ b) := by
  apply ByteArray.ext
  apply Array.toList_inj.1
  simp [bs]
theorem add_bs (a b : List UInt8) (c : List UInt8) (hc : a ++ b = c) (h : a.length + b.length ≤ 9223372036854775807) (w : World) : (Op.stringOp .add (bs a) (bs b)).run Tryd.prog w = .ok (.string (bs c)) w := by
  rw [run_string_add_sum w (bs a) (bs b) (show (bs a).size + (bs b).size ≤ _ from h), bs_app', hc]
set_option maxHeartbeats 4000000 in
set_option maxRecDepth 100000 in
theorem walk (a0 : ByteArray) (_w0 : a0.size ≤ maxLen) (w : World) (henv : Env w) :
    Calls Tryd.prog 5 #[.string a0] w fun e w' => e = .returned (.bool true) ∧ Below w.heap.size w w' := by
  have HM := Lib.hid _w0
  unfold maxLen at _w0
  have HE := Lib.hid henv; clear henv
  by_cases hl : 4000 < a0.size
  · go_enter Tryd.func5, Tryd.ntmps5
    go_wp2_with ((with_reducible refine (awake_any _ HE.out).mono ?_); rintro e w1 ⟨rfl, hb⟩)
    go_ret
    exact ⟨rfl, hb⟩
  · have hl2 : a0.size ≤ 4000 := by omega
    clear hl
    cases hsc : Sp.scan a0.data.toList with
    | error x =>
      obtain ⟨p, x⟩ := x
      have HSC := Lib.hid hsc
      have hx := scan_code hsc
      clear hsc
      have hne : ((x : Int) != 0) = true := by simp; omega
      clear hx
      go_enter Tryd.func5, Tryd.ntmps5
      go_wp2_with (first | ((with_reducible refine (scan_err _ p x _ HE.out HM.out HSC.out).mono ?_); rintro e w1 ⟨rfl, hb⟩; have HB := Lib.hid hb; have HE1 : Hid (Env w1) := Lib.hid (HE.out.below hb HE.out.sz); clear hb) | ((with_reducible refine (awake_any _ HE1.out).mono ?_); rintro e w2 ⟨rfl, hb2⟩))
      go_ret
      exact ⟨rfl, HB.out.trans (hb2.mono HB.out.size)⟩
    | ok ts =>
      have HSC := Lib.hid hsc
      have hts : ts.length ≤ 8193 := scan_few hsc
      have hts1 : 0 < ts.length := List.length_pos_iff.2 (scan_ne hsc)
      obtain ⟨hj, ts', hs', hmap⟩ := scan_again (by simpa using hl2) hsc
      have hlen : ts'.length = ts.length := by have := congrArg List.length hmap; simpa using this
      have HJ := Lib.hid hj
      have HS2 : Hid (Sp.scan (bs (joinT ts)).data.toList = .ok ts') := Lib.hid hs'
      have HMAP := Lib.hid hmap
      have HLEN := Lib.hid hlen
      clear hsc hj hs' hmap hlen
      have HM2 : Hid ((bs (joinT ts)).size ≤ maxLen) := Lib.hid (by have : (bs (joinT ts)).size = (joinT ts).length := rfl; have := HJ.out; unfold maxLen; omega)
      go_enter Tryd.func5, Tryd.ntmps5
      go_wp2_with ((with_reducible refine (scan_ok _ ts _ HE.out HM.out HSC.out).mono ?_); rintro e w1 ⟨g, cap, rfl, ht, hb⟩; have HT := Lib.hid ht; have HB := Lib.hid hb; have HE1 : Hid (Env w1) := Lib.hid (HE.out.below hb HE.out.sz); have hg := ht.ge; clear ht hb)
      go_loopg [6, 33] ts.length (fun gg s6 s33 wr => ∃ i : Nat, gg = ts.length - i ∧ i ≤ ts.length ∧ s6 = .string (bs (joinT (ts.take i))) ∧ s33 = .int .i64 i ∧ Hid (Below w1.heap.size w1 wr))
      case atStart => exact ⟨0, rfl, by omega, rfl, rfl, Lib.hid (Below.refl _ _)⟩
      case round =>
        obtain ⟨i, hgg, hi, rfl, rfl, HR⟩ := hrel
        subst hgg
        by_cases hlt : i < ts.length
        · obtain ⟨t, hti⟩ : ∃ t, ts[i]? = some t := ⟨ts[i], List.getElem?_eq_getElem hlt⟩
          obtain ⟨c0, c1, c2, c3⟩ := (HT.out.below HR.out (Nat.le_refl _)).at hti
          have HTK := Lib.hid (joinT_take ts i t hti)
          clear hti
          have k0 : (0 : Int) ≤ (i : Int) := Int.natCast_nonneg _
          have k1 : (i : Int) < (ts.length : Int) := by omega
          have hle := joinT_mono ts (i + 1)
          rw [HTK.out] at hle
          simp only [List.length_append, List.length_cons, List.length_nil] at hle
          have hj := HJ.out
          have a1 : ∀ W : World, (Op.stringOp .add (bs t.text) ⟨#[32]⟩).run Tryd.prog W = .ok (.string (bs (t.text ++ [32]))) W := fun W => add_bs t.text [32] _ rfl (by simp; omega) W
          have a2 : ∀ W : World, (Op.stringOp .add (bs (joinT (ts.take i))) (bs (t.text ++ [32]))).run Tryd.prog W = .ok (.string (bs (joinT (ts.take (i + 1))))) W := fun W => add_bs _ _ _ HTK.out.symm (by simp; omega) W
          clear hle hj
          go_wp2
          go_roundg (ts.length - (i + 1))
          case measure => omega
          case rel => exact ⟨i + 1, rfl, by omega, rfl, by go_num, Lib.hid (HR.out.trans ((Below.refl _ _).alloc HR.out.size _))⟩
        · obtain rfl : i = ts.length := by omega
          rw [List.take_length]
          have HEW : Hid (Env wr) := Lib.hid (HE1.out.below HR.out HE1.out.sz)
          have HBW : Hid (Below w.heap.size w wr) := Lib.hid (HB.out.trans (HR.out.mono HB.out.size))
          have HT1 : Hid (Toks g cap w.heap.size ts wr) := Lib.hid (HT.out.below HR.out (Nat.le_refl _))
          have hzr := HR.out.size
          have hl' := HLEN.out
          have HL2 := Lib.hid hl'
          go_wp2_with ((with_reducible refine (scan_ok _ ts' _ HEW.out HM2.out HS2.out).mono ?_); rintro e w2 ⟨g2, cap2, rfl, ht2, hb2⟩; have HT2 := Lib.hid ht2; have HB2 := Lib.hid hb2; have HE2 : Hid (Env w2) := Lib.hid (HEW.out.below hb2 HEW.out.sz); have HT1b : Hid (Toks g cap w.heap.size ts w2) := Lib.hid (HT1.out.below hb2 (Nat.le_refl _)); have hg2 := ht2.ge; clear ht2 hb2)
          have hg1 : g < wr.heap.size := HT1.out.ge.2
          have hgb : w.heap.size ≤ g := HT.out.ge.1
          have hne : g ≠ g2 := by omega
          have hne2 : g2 ≠ g := by omega
          have HRW : Hid (Below w.heap.size w w2) := Lib.hid (HBW.out.trans (HB2.out.mono HBW.out.size))
          have HG2 : Hid (w.heap.size ≤ g2) := Lib.hid (by omega)
          obtain ⟨bz, hbz⟩ : ∃ n, wr.heap.size = n := ⟨_, rfl⟩
          have HT3 : Hid (Toks g2 cap2 bz ts' w2) := Lib.hid (hbz ▸ HT2.out)
          clear HT2
          go_loopg [60] ts.length (fun gg s60 wr => ∃ i : Nat, gg = ts.length - i ∧ i ≤ ts.length ∧ s60 = .int .i64 i ∧ Hid (Toks g cap w.heap.size (zeroed i ts) wr ∧ Toks g2 cap2 bz (zeroed i ts') wr ∧ Below w.heap.size w wr))
          case atStart => exact ⟨0, rfl, by omega, rfl, Lib.hid ⟨by rw [zeroed_0]; exact HT1b.out, by rw [zeroed_0]; exact HT3.out, HRW.out⟩⟩
          case round =>
            obtain ⟨i, hgg, hi, rfl, HX⟩ := hrel
            subst hgg
            by_cases hlt : i < ts.length
            · obtain ⟨t, hti⟩ : ∃ t, ts[i]? = some t := ⟨ts[i], List.getElem?_eq_getElem hlt⟩
              obtain ⟨t', hti'⟩ : ∃ t', ts'[i]? = some t' := ⟨ts'[i]'(by rw [HL2.out]; exact hlt), List.getElem?_eq_getElem (by rw [HL2.out]; exact hlt)⟩
              obtain ⟨c0, c1, c2, c3⟩ := HX.out.1.at (zeroed_at ts i t hti)
              obtain ⟨d0, d1, d2, d3⟩ := HX.out.2.1.at (zeroed_at ts' i t' hti')
              have f1 := HX.out.1.free (i * 4 + 3)
              have f2 := HX.out.2.1.free (i * 4 + 3)
              have HTI := Lib.hid hti
              have HTI' := Lib.hid hti'
              clear hti hti' c0 c1 c2 d0 d1 d2
              have k0 : (0 : Int) ≤ (i : Int) := Int.natCast_nonneg _
              have k1 : (i : Int) < (ts.length : Int) := by omega
              go_wp2
              go_roundg (ts.length - (i + 1))
              case measure => omega
              case rel =>
                exact ⟨i + 1, rfl, by omega, by go_num, Lib.hid ⟨toks_of ((HX.out.1.strip (zeroed_at ts i t HTI.out)).far hne _) (zeroed_succ ts i t HTI.out), toks_of ((HX.out.2.1.far hne2 _).strip (zeroed_at ts' i t' HTI'.out)) (zeroed_succ ts' i t' HTI'.out), (HX.out.2.2.setCell hgb _).setCell HG2.out _⟩⟩
            · obtain rfl : i = ts.length := by omega
              have hz1 : ((zeroed ts.length ts).length) = ts.length := zeroed_len _ _ (by omega)
              have e1 : zeroed ts.length ts = ts.map Sp.strip := zeroed_all _ _ (by omega)
              have e2 : zeroed ts.length ts' = ts.map Sp.strip := by rw [zeroed_all _ _ (by rw [HL2.out]; exact Nat.le_refl _)]; exact HMAP.out
              have T1 : Hid (Toks g cap w.heap.size (ts.map Sp.strip) wr) := Lib.hid (toks_of HX.out.1 e1)
              have T2 : Hid (Toks g2 cap2 bz (ts.map Sp.strip) wr) := Lib.hid (toks_of HX.out.2.1 e2)
              have hml : (ts.map Sp.strip).length = ts.length := by simp
              have HML := Lib.hid hml
              have HEX : Hid (Env wr) := Lib.hid (HE.out.below HX.out.2.2 HE.out.sz)
              have hwz : Hid (w.heap.size ≤ wr.heap.size) := Lib.hid HX.out.2.2.size
              clear hml hz1 e1 e2
              go_wp2_with (first | ((with_reducible refine (same_true g cap w.heap.size g2 cap2 bz (ts.map Sp.strip) wr ts.length ts.length T1.out T2.out (by rw [HML.out]; exact hts) HML.out HML.out).mono ?_); rintro e w3 ⟨rfl, hb3⟩; have HB3 := Lib.hid hb3; have HE3 : Hid (Env w3) := Lib.hid (HEX.out.below hb3 HEX.out.sz); clear hb3) | ((with_reducible refine (awake_any _ HE3.out).mono ?_); rintro e w4 ⟨rfl, hb4⟩))
              go_ret
              exact ⟨rfl, HX.out.2.2.trans ((HB3.out.trans (hb4.mono HB3.out.size)).mono hwz.out)⟩
end Go.Proofs.YtbafkkifdfmldaaDoor.lexAgain
