/-
  The contract of the document's own Scan.
-/
import Derived.Test.YtbafkkifdfmldaaDoorRefScanA
import Derived.Deep.LoopGhost
import Derived.Deep.CutBlock
import Derived.Deep.DeepCutAuto
import Derived.Deep.AppendLies
import Derived.OwnWalk
import Derived.Deep.QuietTactic
import Derived.BigQuiet
namespace Go.Proofs.YtbafkkifdfmldaaDoor
open Go.RowKit Sp
set_option linter.unusedVariables false

theorem r_scan_long (s : ByteArray) (w : World) (hs : s.size ≤ maxLen) (hl : 32768 < s.size) :
    Calls Tryd.prog 12 #[.string s] w (ScanPost s.data.toList w) := by
  have hsc : Sp.scan s.data.toList = .error (0, 4) := by unfold Sp.scan; rw [if_pos (by simpa using hl)]
  have HS := Lib.hid hsc; clear hsc
  set_option maxRecDepth 100000 in
  go_enter Tryd.func12, Tryd.ntmps12
  go_wp2
  go_ret3
  exact ⟨_, _, _, rfl, by rw [HS.out]; exact ⟨rfl, rfl, rfl⟩, Below.refl _ _⟩
theorem r_digit39 (w : World) : Calls Tryd.prog 26 #[.int .u8 39] w fun e w' => e = .returned (.bool false) ∧ w = w' := r_digit 39 w
set_option maxRecDepth 100000 in
set_option maxHeartbeats 6400000 in
theorem r_scan_short (s : ByteArray) (w : World) (hs : s.size ≤ 32768) :
    Calls Tryd.prog 12 #[.string s] w (ScanPost s.data.toList w) := by
  obtain ⟨i0, hi0, hz0, hz1, hz2⟩ := info_parts infoTok
  have hd : decide ((32768 : Int) < (s.size : Int)) = false := by simp; omega
  go_enter Tryd.func12, Tryd.ntmps12
  go_wp2
  go_loopg [5, 6] s.size (fun g s5 s6 wr => ∃ (p : Nat) (acc : List Tok) (an : Option Addr) (cp : Nat), g = s.size - p ∧ p ≤ s.size ∧ s6 = .int .i64 p ∧ s5 = .slice an acc.length cp ∧ Hid (RAt w s p acc (.slice an acc.length cp) wr))
  case atStart => exact ⟨0, [], none, 0, by simp, by omega, rfl, rfl, Lib.hid (RAt.start w s)⟩
  case round =>
    obtain ⟨p, acc, an, cp, hg, hp, rfl, rfl, HAT⟩ := hrel
    subst hg
    obtain ⟨m, b, hgap⟩ : ∃ m b, gapR (s.data.toList.drop p) = (m, b) := ⟨_, _, rfl⟩
    have hm : p + m ≤ s.size := by have := gapR_le (s.data.toList.drop p); rw [hgap] at this; simp at this; omega
    obtain ⟨q, hq⟩ : ∃ q, p + m = q := ⟨_, rfl⟩
    have hq1 : q ≤ s.size := by omega
    have hqp : p ≤ q := by omega
    have HGA := Lib.hid hgap
    have HQ := Lib.hid hq
    clear hgap hq hm
    have hqq : (0 : Int) ≤ (q : Int) := Int.natCast_nonneg _
    cases b with
    | false =>
      have hE := HAT.out.err hs (x := (q, 2)) (by rw [scan_open p _ HGA.out, HQ.out])
      have HX := Lib.hid hE; clear hE
      go_wp2_with ((with_reducible refine (r_skip_n s p m q false _ hs hp HGA.out HQ.out).mono ?_); rintro e w' ⟨rfl, rfl⟩)
      go_ret3
      exact ⟨_, _, _, rfl, res_err HX.out _ _, HAT.out.below⟩
    | true =>
      have HDR : Hid (List.drop m (List.drop p s.data.toList) = s.data.toList.drop q) := Lib.hid (by rw [List.drop_drop, HQ.out])
      by_cases hfin : q = s.size
      · have hd3 : decide (s.size ≤ q) = true := by simp; omega
        have hO := HAT.out.ok hs (scan_fin p _ HGA.out (by rw [HDR.out, hfin]; exact List.drop_eq_nil_of_le (by simp)))
        rw [HQ.out] at hO
        have HO := Lib.hid hO
        have hfew := HAT.out.few
        have HOWN := Lib.hid (HAT.out.own.alloc (.cells #[.int .i64 0, .string ⟨#[]⟩, .int .i64 0, .int .i64 q] 32))
        have hwz := HAT.out.below.size
        have HRW : Hid (∀ k, (Value.slice an acc.length cp).ownBlock = some k → w.heap.size ≤ k) := Lib.hid fun k hk => (HAT.out.own.lt k hk).1
        have HF := Lib.hid hfin
        clear hO hfin
        go_wp2_with (first | ((with_reducible refine (r_skip_n s p m q true _ hs hp HGA.out HQ.out).mono ?_); rintro e w' ⟨rfl, rfl⟩) | (at_builtin; go_loud (refine wpList_append_lies _ rfl _ _ _ rfl w.heap.size 32 i0 _ 4 40 Tryd.underlying23 hi0 hz0 hz1 hz2 rfl (by omega) (.slice an acc.length cp) acc.length (cellsOf acc) (by rfl) HOWN.out ⟨wr.heap.size, 0, none⟩ 1 1 [.int .i64 0, .string ⟨#[]⟩, .int .i64 0, .int .i64 q] (by rfl) (by rfl) (World.news_of_block (heap_alloc_new wr _)) (by simp [Value.oneCell']) (by omega) (by unfold maxLen; omega) (by omega) (by simp; omega) (wr.heap.size + 1) (by simp) ?_); intro gg cap w1 hown1 hgrow hat hlt1; have HBL1 : Hid (Below w.heap.size w w1) := Lib.hid ((HAT.out.below.alloc hwz _).grown hgrow (by simp; omega) HRW.out); have HOW1 := Lib.hid hown1; clear hown1 hgrow hat hlt1))
        go_ret3
        exact ⟨_, _, _, rfl, res_ok HO.out rfl (own_snoc (t := ⟨0, [], 0, q⟩) HOW1.out rfl (Nat.le_refl _)), HBL1.out⟩
      · have hlt : q < s.size := by omega
        have hd3 : decide (s.size ≤ q) = false := by simp; omega
        obtain ⟨W1, hW1⟩ : ∃ W1, wr.alloc (.cells #[.int .i64 0, .string ⟨#[]⟩, .int .i64 0, .int .i64 q] 32) = W1 := ⟨_, rfl⟩
        have HB := HAT.out.build q
        rw [hW1] at HB
        have HBI := Lib.hid HB; clear HB
        clear hfin
        go_upto_block 2 with ((with_reducible refine (r_skip_n s p m q true _ hs hp HGA.out HQ.out).mono ?_); rintro e w' ⟨rfl, rfl⟩)
        obtain ⟨L, hL⟩ : ∃ L, (lets (s.data.toList.drop q)).length = L := ⟨_, rfl⟩
        have hLs : q + L ≤ s.size := by have := lets_le (s.data.toList.drop q); rw [hL] at this; simp at this; omega
        obtain ⟨e, he⟩ : ∃ e, q + L = e := ⟨_, rfl⟩
        rw [he] at hLs
        have HL := Lib.hid hL
        have HEQ := Lib.hid he
        clear hL he hW1
        go_cut [10] (fun s10 wx => s10 = .int .i64 e ∧ W1 = wx)
        case first =>
          go_wp2_with fail
          go_loopg [10] (s.size - q) (fun g s10 wx => ∃ j : Nat, g = s.size - j ∧ j ≤ s.size ∧ s10 = .int .i64 j ∧ W1 = wx ∧ Hid (LtIs s q L j))
          case atStart => exact ⟨q, rfl, hq1, rfl, rfl, Lib.hid ⟨HL.out, by rw [HL.out]; omega, Nat.le_refl _⟩⟩
          case round =>
            obtain ⟨j, hg, hj, rfl, rfl, HJ⟩ := hrel
            subst hg
            by_cases hlj : j < s.size
            · cases hLt : isLet s[j] with
              | true =>
                have HN := Lib.hid (HJ.out.next hlj (by unfold isLD; rw [hLt]; rfl))
                have HLT := Lib.hid hLt; clear hLt
                go_wp2_with ((with_reducible refine (r_letter _ _).mono ?_); rintro e w' ⟨rfl, rfl⟩; rw [HLT.out])
                go_roundg (s.size - (j + 1))
                case measure => omega
                case rel => exact ⟨j + 1, rfl, by omega, by go_num, rfl, HN⟩
              | false =>
                have HLT := Lib.hid hLt; clear hLt
                cases hDg : isDig s[j] with
                | true =>
                  have HN := Lib.hid (HJ.out.next hlj (by unfold isLD; rw [hDg]; simp))
                  have HDG := Lib.hid hDg; clear hDg
                  go_wp2_with (first | ((with_reducible refine (r_letter _ _).mono ?_); rintro e w' ⟨rfl, rfl⟩; rw [HLT.out]) | ((with_reducible refine (r_digit _ _).mono ?_); rintro e w' ⟨rfl, rfl⟩; rw [HDG.out]))
                  go_roundg (s.size - (j + 1))
                  case measure => omega
                  case rel => exact ⟨j + 1, rfl, by omega, by go_num, rfl, HN⟩
                | false =>
                  have hje : j = e := by rw [← HEQ.out]; exact HJ.out.stop hlj (by unfold isLD; rw [HLT.out, hDg]; rfl)
                  have HDG := Lib.hid hDg; clear hDg
                  have HJE := Lib.hid hje; clear hje
                  go_wp2_with (first | ((with_reducible refine (r_letter _ _).mono ?_); rintro e w' ⟨rfl, rfl⟩; rw [HLT.out]) | ((with_reducible refine (r_digit _ _).mono ?_); rintro e w' ⟨rfl, rfl⟩; rw [HDG.out]))
                  go_meet
                  case rel => exact ⟨by rw [HJE.out], rfl⟩
            · obtain rfl : j = s.size := by omega
              have hje : s.size = e := by rw [← HEQ.out]; exact HJ.out.fin
              have HJE := Lib.hid hje; clear hje
              go_wp2_with fail
              go_meet
              case rel => exact ⟨by rw [HJE.out], rfl⟩
        case rest =>
          obtain ⟨rfl, rfl⟩ := hcut
          obtain ⟨b0, b1, b2, b3⟩ := HBI.out.cells
          have f0 := HBI.out.free 0
          have f1 := HBI.out.free 1
          have f2 := HBI.out.free 2
          obtain ⟨b, hb⟩ : ∃ b, wr.heap.size = b := ⟨_, rfl⟩
          have hbw : w.heap.size ≤ b := by rw [← hb]; exact HAT.out.below.size
          rw [hb] at b0 b1 b2 b3 f0 f1 f2 HBI ⊢
          have hbl := HBI.out.lt
          have hd2 : s.data.toList.drop q = s[q] :: s.data.toList.drop (q + 1) := drop_cons' s q hlt
          obtain ⟨cb, hcb⟩ : ∃ cb, isLet s[q] = cb := ⟨_, rfl⟩
          have HCL := Lib.hid hcb
          clear hcb
          go_upto_if 63 with ((with_reducible refine (r_letter _ _).mono ?_); rintro e w' ⟨rfl, rfl⟩; rw [HCL.out])
          go_cut [63] (fun s63 wx => ∃ (k : Int) (len n : Nat) (x : ByteArray), Hid (tokSt s[q] (s.data.toList.drop (q + 1)) = .tok k len n ∧ Built w (.slice an acc.length cp) acc b k x n q wx ∧ x = bs ((s.data.toList.drop q).take len)))
          case first =>
            cases cb with
            | true =>
              have hst : tokSt s[q] (s.data.toList.drop (q + 1)) = .tok (if isWord (lets (s.data.toList.drop q)) then 2 else 1) L 0 := by rw [tokSt_let HCL.out, ← hd2, HL.out]
              obtain ⟨x, hx⟩ : ∃ x, s.extract q e = x := ⟨_, rfl⟩
              have hxl : x.data.toList = lets (s.data.toList.drop q) := by
                rw [← hx, ext_list, List.drop_take, ← HEQ.out, show q + L - q = L by omega, ← HL.out, take_lets]
              have hxt : x = bs ((s.data.toList.drop q).take L) := by rw [← HL.out, take_lets, ← hxl]; rfl
              have HXT := Lib.hid hxt
              have B2 := (HBI.out.kind 1).text x
              obtain ⟨W2, hW2⟩ : ∃ W2, (W1.setCell ⟨b, 0, none⟩ (.int .i64 1)).setCell ⟨b, 1, none⟩ (.string x) = W2 := ⟨_, rfl⟩
              rw [hW2] at B2
              have HB2 := Lib.hid B2
              clear B2 hxt
              obtain ⟨c0, c1, c2, c3⟩ := HB2.out.cells
              have hqe : (q : Int) ≤ (e : Int) := by have := HEQ.out; omega
              cases hw : isWord x.data.toList with
              | true =>
                have HIS := Lib.hid hw
                rw [← hxl, hw] at hst
                have HST := Lib.hid hst
                clear hst hw hxl
                go_wp2_with ((with_reducible refine (r_is x true _ HIS.out).mono ?_); rintro e w3 ⟨rfl, hb3⟩; have HB3 := Lib.hid (HB2.out.grow hb3); have g0 := HB3.out.cells.1; have g1 := HB3.out.free 0; clear hb3)
                go_meet
                case rel => exact ⟨2, L, 0, x, Lib.hid ⟨HST.out, HB3.out.kind 2, HXT.out⟩⟩
              | false =>
                have HIS := Lib.hid hw
                rw [← hxl, hw] at hst
                have HST := Lib.hid hst
                clear hst hw hxl
                go_wp2_with ((with_reducible refine (r_is x false _ HIS.out).mono ?_); rintro e w3 ⟨rfl, hb3⟩; have HB3 := Lib.hid (HB2.out.grow hb3); clear hb3)
                go_meet
                case rel => exact ⟨1, L, 0, x, Lib.hid ⟨HST.out, HB3.out, HXT.out⟩⟩
            | false =>
              cases hdg : isDig s[q] with
              | true =>
                have HDG := Lib.hid hdg
                have hst := tokSt_dig (t := s.data.toList.drop (q + 1)) HCL.out hdg
                rw [← hd2] at hst
                obtain ⟨x, hx⟩ : ∃ x, s.extract q e = x := ⟨_, rfl⟩
                have hxl : x.data.toList = lets (s.data.toList.drop q) := by
                  rw [← hx, ext_list, List.drop_take, ← HEQ.out, show q + L - q = L by omega, ← HL.out, take_lets]
                have hxt : x = bs ((s.data.toList.drop q).take L) := by rw [← HL.out, take_lets, ← hxl]; rfl
                have HXT := Lib.hid hxt
                have hxs : x.size ≤ 32768 := by rw [← hx]; simp; omega
                have hqe : (q : Int) ≤ (e : Int) := by have := HEQ.out; omega
                rw [HL.out, ← hxl] at hst
                clear hdg hxt hxl
                cases hv : value x.data.toList with
                | none =>
                  rw [hv] at hst
                  have HV := Lib.hid hv
                  have hE := HAT.out.err hs (x := (q, 3)) (by rw [scan_bad p _ HGA.out (HDR.out.trans hd2) hst, HQ.out])
                  have HX := Lib.hid hE
                  clear hE hst hv
                  go_wp2_with (first | ((with_reducible refine (r_digit _ _).mono ?_); rintro e w' ⟨rfl, rfl⟩; rw [HDG.out]) | ((with_reducible refine (r_value_none x _ hxs HV.out).mono ?_); rintro e w' ⟨rfl, rfl⟩))
                  go_ret3
                  exact ⟨_, _, _, rfl, res_err HX.out _ _, HBI.out.below⟩
                | some n =>
                  rw [hv] at hst
                  have HV := Lib.hid hv
                  have HST := Lib.hid hst
                  clear hst hv
                  go_wp2_with (first | ((with_reducible refine (r_digit _ _).mono ?_); rintro e w' ⟨rfl, rfl⟩; rw [HDG.out]) | ((with_reducible refine (r_value_some x n _ hxs HV.out).mono ?_); rintro e w' ⟨rfl, rfl⟩))
                  go_meet
                  case rel => exact ⟨3, L, n, x, Lib.hid ⟨HST.out, ((HBI.out.kind 3).num n).text x, HXT.out⟩⟩
              | false =>
                have HDG := Lib.hid hdg
                by_cases h39 : s[q].toNat = 39
                · have hst := tokSt_quo (t := s.data.toList.drop (q + 1)) HCL.out hdg h39
                  clear hdg
                  cases hv : Sp.quoted (s.data.toList.drop (q + 1)) with
                  | none =>
                    rw [hv] at hst
                    have HV := Lib.hid hv
                    have hE := HAT.out.err hs (x := (q, 2)) (by rw [scan_bad p _ HGA.out (HDR.out.trans hd2) hst, HQ.out])
                    have HX := Lib.hid hE
                    clear hE hst hv
                    go_wp2_with (first | ((with_reducible refine (r_digit39 _).mono ?_); rintro e w' ⟨rfl, rfl⟩) | ((with_reducible refine (r_char_none s q _ hs hlt HV.out).mono ?_); rintro e w' ⟨rfl, rfl⟩))
                    go_ret3
                    exact ⟨_, _, _, rfl, res_err HX.out _ _, HBI.out.below⟩
                  | some pr =>
                    obtain ⟨len, n⟩ := pr
                    rw [hv] at hst
                    have hql := quoted_len hv
                    simp only at hql
                    obtain ⟨e2, he2⟩ : ∃ e2, q + len = e2 := ⟨_, rfl⟩
                    have he2s : e2 ≤ s.size := by have := hql.2.1; simp at this; omega
                    have hz : ((len : Int) == 0) = false := by simp; omega
                    have hwe : IntKind.i64.wrap ((q : Int) + (len : Int)) = (e2 : Int) := by rw [IntWalk.i64_in _ (by omega)]; omega
                    have hqe2 : (q : Int) ≤ (e2 : Int) := by omega
                    have he2i : (e2 : Int) ≤ (s.size : Int) := by omega
                    obtain ⟨x, hx⟩ : ∃ x, s.extract q e2 = x := ⟨_, rfl⟩
                    have hxt : x = bs ((s.data.toList.drop q).take len) := by rw [← hx, extract_bs, List.drop_take, ← he2, show q + len - q = len by omega]
                    have HXT := Lib.hid hxt
                    have HV := Lib.hid hv
                    have HST := Lib.hid hst
                    have HE2 := Lib.hid he2
                    clear hst hv hxt hql he2
                    go_wp2_with (first | ((with_reducible refine (r_digit39 _).mono ?_); rintro e w' ⟨rfl, rfl⟩) | ((with_reducible refine (r_char_some s q len n _ hs hlt HV.out).mono ?_); rintro e w' ⟨rfl, rfl⟩))
                    go_meet
                    case rel => exact ⟨3, len, n, x, Lib.hid ⟨HST.out, ((HBI.out.kind 3).num n).text x, HXT.out⟩⟩
                · have hst := tokSt_sig (t := s.data.toList.drop (q + 1)) HCL.out hdg h39
                  rw [← hd2] at hst
                  have hq39 : ((s[q].toNat : Int) == 39) = false := by simp; omega
                  clear hdg
                  obtain ⟨W2, hW2⟩ : ∃ W2, W2 = W1.alloc (.cells signsV 9) := ⟨_, rfl⟩
                  obtain ⟨b2, hb2⟩ : ∃ b2, W1.heap.size = b2 := ⟨_, rfl⟩
                  have HS0 : Hid (SignAt w (.slice an acc.length cp) acc b b2 (s.data.toList.drop q) q 0 0 ⟨#[]⟩ W2) := Lib.hid (by
                    subst hb2
                    refine ⟨?_, ⟨rfl, rfl⟩, ?_, by omega⟩
                    · rw [hW2]; exact HBI.out.grow ((Below.refl _ _).alloc (Nat.le_refl _) _)
                    · rw [hW2]; exact heap_alloc_new W1 _)
                  have HST := Lib.hid hst
                  have HW2 := Lib.hid hW2
                  clear hst hW2
                  go_wp2_with (first | ((with_reducible refine (r_digit _ _).mono ?_); rintro e w' ⟨rfl, rfl⟩; rw [HDG.out]) | ((with_reducible refine (signs_ref _).mono ?_); rintro e w1 ⟨rfl, hw⟩; rw [← HW2.out] at hw; subst hw; rw [hb2]))
                  go_loopg [16] 45 (fun g s16 wx => ∃ (i : Nat) (k : Int) (x : ByteArray), g = 45 - i ∧ i ≤ 45 ∧ s16 = .int .i64 i ∧ Hid (SignAt w (.slice an acc.length cp) acc b b2 (s.data.toList.drop q) q i k x wx))
                  case atStart => exact ⟨0, 0, ⟨#[]⟩, rfl, by omega, rfl, HS0⟩
                  case round =>
                    obtain ⟨i, k, x, hg, hi, rfl, HS⟩ := hrel
                    subst hg
                    by_cases hi45 : i < 45
                    · have cl : wr.cell? ⟨b2, i, none⟩ = some (.string (sg i)) := by rw [cell_of_row wr _ i _ _ _ HS.out.row, signs_at i hi45]
                      obtain ⟨c0, c1, c2, c3⟩ := HS.out.bl.cells
                      have g0 := HS.out.bl.free 0
                      have g1 := HS.out.bl.free 1
                      have i0' : (0 : Int) ≤ (i : Int) := Int.natCast_nonneg _
                      have i1' : (i : Int) < 45 := by omega
                      have hsz := sg_pos i hi45
                      obtain ⟨sgi, hsgi⟩ : ∃ y, sg i = y := ⟨_, rfl⟩
                      have hsl : sgi.size ≤ 100 := by rw [← hsgi]; have := (signs_len _ (List.mem_of_getElem? (sg_at i hi45))).2; show (signsL.getD i []).length ≤ 100; omega
                      have HSG := Lib.hid hsgi
                      rw [hsgi] at cl hsz
                      clear hsgi
                      cases hpf : (signsL.getD i []).isPrefixOf (s.data.toList.drop q) with
                      | false =>
                        have HPF : Hid (sgi.data.toList.isPrefixOf (s.data.toList.drop q) = false) := Lib.hid (by rw [← HSG.out]; exact hpf)
                        have HN := Lib.hid (HS.out.not hi45 hpf)
                        clear hpf
                        go_wp2
                        go_quiet ((go_at_call 29; exact Calls.quiet_of_same ((r_at s sgi q false _ hs hq1 hsl HPF.out).mono fun _ _ h => ⟨h.1, h.2.symm⟩)))
                        go_wp2
                        go_roundg (45 - (i + 1))
                        case measure => omega
                        case rel => exact ⟨i + 1, k, x, rfl, by omega, by go_num, Lib.hid (HN.out.draw _)⟩
                      | true =>
                        have HPF : Hid (sgi.data.toList.isPrefixOf (s.data.toList.drop q) = true) := Lib.hid (by rw [← HSG.out]; exact hpf)
                        cases hfo : firstOf (signsL.take i) (s.data.toList.drop q) with
                        | some r =>
                          have HN := Lib.hid (HS.out.same hi45 hfo)
                          have hlo := HS.out.longer hi45 hfo
                          rw [HSG.out] at hlo
                          have hlo1 : ((sgi.size : Int) ≤ (x.size : Int)) := by omega
                          have hlo2 : decide (x.size < sgi.size) = false := by simp; omega
                          clear hpf hfo
                          go_wp2
                          go_quiet ((go_at_call 29; exact Calls.quiet_of_same ((r_at s sgi q true _ hs hq1 hsl HPF.out).mono fun _ _ h => ⟨h.1, h.2.symm⟩)))
                          go_wp2
                          go_roundg (45 - (i + 1))
                          case measure => omega
                          case rel => exact ⟨i + 1, k, x, rfl, by omega, by go_num, Lib.hid (HN.out.draw _)⟩
                        | none =>
                          have his := HS.out.is_
                          rw [hfo] at his
                          have hx0 : x.size = 0 := by rw [his.2]; rfl
                          have hlo1 : ((x.size : Int) < (sgi.size : Int)) := by omega
                          have hlo2 : decide (x.size < sgi.size) = true := by simp; omega
                          have HFO := Lib.hid hfo
                          have HPX := Lib.hid hpf
                          clear hpf hfo his hx0
                          go_wp2
                          go_quiet ((go_at_call 29; exact Calls.quiet_of_same ((r_at s sgi q true _ hs hq1 hsl HPF.out).mono fun _ _ h => ⟨h.1, h.2.symm⟩)))
                          go_wp2
                          go_roundg (45 - (i + 1))
                          case measure => omega
                          case rel =>
                            refine ⟨i + 1, 4, sgi, rfl, by omega, by go_num, Lib.hid ?_⟩
                            have h := fun n => (HS.out.draw n).take hi45 HFO.out HPX.out
                            rw [HSG.out] at h
                            exact h _
                    · obtain rfl : i = 45 := by omega
                      obtain ⟨c0, c1, c2, c3⟩ := HS.out.bl.cells
                      have his := HS.out.is_
                      have ht45 : signsL.take 45 = signsL := rfl
                      rw [ht45] at his
                      have hst := HST.out
                      cases hfo : firstOf signsL (s.data.toList.drop q) with
                      | none =>
                        rw [hfo] at his hst
                        obtain ⟨rfl, rfl⟩ := his
                        have hE := HAT.out.err hs (x := (q, 2)) (by rw [scan_bad p _ HGA.out (HDR.out.trans hd2) hst, HQ.out])
                        have HX := Lib.hid hE
                        clear hE hst hfo ht45
                        go_wp2
                        go_ret3
                        exact ⟨_, _, _, rfl, res_err HX.out _ _, HS.out.bl.below⟩
                      | some r =>
                        rw [hfo] at his hst
                        obtain ⟨rfl, hxr⟩ := his
                        have HXR : Hid (x = bs ((s.data.toList.drop q).take r.length)) := Lib.hid (by rw [hxr, ← List.prefix_iff_eq_take.1 (firstOf_mem hfo).2])
                        have HST2 := Lib.hid hst
                        clear hst hfo ht45 hxr
                        go_wp2
                        go_meet
                        case rel => exact ⟨4, r.length, 0, x, Lib.hid ⟨HST2.out, HS.out.bl, HXR.out⟩⟩
          case rest =>
            obtain ⟨k, len, n, x, HC⟩ := hcut
            obtain ⟨c0, c1, c2, c3⟩ := HC.out.2.1.cells
            have hlen := tokSt_len HC.out.1
            have hlen1 := hlen.1
            have hlen2 : q + len ≤ s.size := by have := hlen.2; rw [← hd2] at this; simp at this; omega
            have hxs : x.size = len := by rw [HC.out.2.2]; show ((s.data.toList.drop q).take len).length = len; simp; omega
            have HXS := Lib.hid hxs
            have hbc := HC.out.2.1.lt
            have hwc := HC.out.2.1.below.size
            clear hlen hxs
            by_cases hfull : acc.length = 8192
            · have hE := HAT.out.err hs (x := (q, 4)) (by rw [scan_tok p _ HGA.out (HDR.out.trans hd2) HC.out.1, if_pos hfull, HQ.out])
              have HX := Lib.hid hE; clear hE
              have hfu : decide ((8192 : Int) ≤ (acc.length : Int)) = true := by simp; omega
              have hfn : decide (8192 ≤ acc.length) = true := by simp; omega
              have HFU := Lib.hid hfull; clear hfull
              go_wp2
              go_ret3
              exact ⟨_, _, _, rfl, res_err HX.out _ _, HC.out.2.1.below⟩
            · have hR : Sp.scanR (s.data.toList.drop p) p acc.length = (Sp.scanR (s.data.toList.drop (q + len)) (q + len) (acc.length + 1)).map (⟨k, (s.data.toList.drop q).take len, n, q⟩ :: ·) := by
                rw [scan_tok p _ HGA.out (HDR.out.trans hd2) HC.out.1, if_neg hfull, ← hd2, List.drop_drop, HQ.out]
              have HX := Lib.hid hR; clear hR
              have hfew := HAT.out.few
              have hlt8 : (acc.length : Int) < 8192 := by omega
              have HFAR := Lib.hid HC.out.2.1.far
              have HRW : Hid (∀ k, (Value.slice an acc.length cp).ownBlock = some k → w.heap.size ≤ k) := Lib.hid fun k hk => (HC.out.2.1.own.lt k hk).1
              have hxs := HXS.out
              have HOW := HC.out.2.1.own.alloc (.cells #[.int .i64 k, .string x, .int .i64 n, .int .i64 q] 32)
              have HOWN := Lib.hid HOW; clear HOW
              go_wp2_with (at_builtin; go_loud (refine wpList_append_lies _ rfl _ _ _ rfl w.heap.size 32 i0 _ 4 40 Tryd.underlying23 hi0 hz0 hz1 hz2 rfl (by omega) (.slice an acc.length cp) acc.length (cellsOf acc) (by rfl) HOWN.out ⟨wc.heap.size, 0, none⟩ 1 1 [.int .i64 k, .string x, .int .i64 n, .int .i64 q] (by rfl) (by rfl) (World.news_of_block (heap_alloc_new wc _)) (by simp [Value.oneCell']) (by omega) (by unfold maxLen; omega) (by omega) (by simp; omega) (wc.heap.size + 1) (by simp) ?_); intro gg cap w1 hown1 hgrow hat hlt1; have d1 : w1.cell? ⟨b, 1, none⟩ = some (.string x) := (by rw [cell_of_row w1 b 1 _ _ _ ((hgrow.block b (by simp; omega) (Ne.symm HFAR.out)).trans (heap_alloc_eq HC.out.2.1.blk _))]; rfl); have HBL1 : Hid (Below w.heap.size w w1) := Lib.hid ((HC.out.2.1.below.alloc hwc _).grown hgrow (by simp; omega) HRW.out); have HOW1 := Lib.hid hown1; clear hown1 hgrow hat hlt1)
              go_roundg (s.size - (q + len))
              case measure => omega
              case rel =>
                exact ⟨q + len, acc ++ [⟨k, (s.data.toList.drop q).take len, n, q⟩], some ⟨gg, 0, none⟩, cap, rfl, hlen2, by go_num, by simp, Lib.hid (by
                  have h := HAT.out.next HX.out HC.out.2.2 HOW1.out HBL1.out (by omega)
                  simpa using h)⟩
theorem r_scan (s : ByteArray) (w : World) (hs : s.size ≤ maxLen) :
    Calls Tryd.prog 12 #[.string s] w (ScanPost s.data.toList w) := by
  by_cases h : s.size ≤ 32768
  · exact r_scan_short s w h
  · exact r_scan_long s w hs (by omega)
theorem r_scan_ok (s : ByteArray) (ts : List Tok) (w : World) (hs : s.size ≤ maxLen) (h : Sp.scan s.data.toList = .ok ts) :
    Calls Tryd.prog 12 #[.string s] w (OkPost ts w) := by
  refine (r_scan s w hs).mono ?_
  rintro e w' ⟨v, pos, er, rfl, hi, hb⟩
  rw [h] at hi
  obtain ⟨hown, rfl, rfl⟩ := hi
  have hl : 0 < ts.length := List.length_pos_iff.2 (scan_ne h)
  obtain ⟨g, cap, rfl, _, _⟩ := hown.form hl
  exact ⟨g, cap, rfl, ⟨hown⟩, hb⟩
theorem r_scan_err (s : ByteArray) (p : Nat) (x : Int) (w : World) (hs : s.size ≤ maxLen) (h : Sp.scan s.data.toList = .error (p, x)) :
    Calls Tryd.prog 12 #[.string s] w fun e w' => e = .returned (.tuple #[.slice none 0 0, .int .i64 p, .int .i64 x]) ∧ Below w.heap.size w w' := by
  refine (r_scan s w hs).mono ?_
  rintro e w' ⟨v, pos, er, rfl, hi, hb⟩
  rw [h] at hi
  obtain ⟨rfl, rfl, rfl⟩ := hi
  exact ⟨rfl, hb⟩
end Go.Proofs.YtbafkkifdfmldaaDoor
