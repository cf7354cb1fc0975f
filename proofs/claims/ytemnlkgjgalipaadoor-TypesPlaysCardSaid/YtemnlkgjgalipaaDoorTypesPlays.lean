/-
  The walk of TypesPlays.
-/
import Derived.Test.YtemnlkgjgalipaaDoorSteps
namespace Go.Proofs.YtemnlkgjgalipaaDoor.typesPlays
open Go.RowKit Go.Maps Tp
set_option linter.unusedVariables false

def PlSt (w0 : World) (t rb : Nat) (a : Option Addr) (ds : List DoR) (k : Nat) (w : World) : Prop := ∃ T Y v la lc da dc, StIn w0 t rb a ds k T Y v la lc da dc w
set_option maxHeartbeats 4000000 in
set_option maxRecDepth 100000 in
theorem walk_few (a : Option Addr) (cap : Nat) (ds : List DoR) (n : Int) (nm : List UInt8) (w : World) (henv : Env w) (hd : DArg w a ds) (hl : ds.length ≤ maxLen) (hb : ∀ d ∈ ds, d.nm.length ≤ maxLen ∧ d.l.length ≤ maxLen ∧ ∀ f ∈ d.l, f.1.length ≤ maxLen) (hnm : nm.length ≤ 100) (hf : few ds = true) :
    Calls Tryd.prog 3 #[.slice a ds.length cap, .int .i64 n, .string (bs nm)] w fun e w' => e = .returned (.bool true) ∧ Below w.heap.size w w' := by
  have HFB := Lib.hid hf
  have hfew : (∀ d ∈ ds, few1 d) ∧ ds.length ≤ 40 := by unfold few at hf; exact of_decide_eq_true hf
  obtain ⟨hf1, h40⟩ := hfew
  have HF1 := Lib.hid hf1
  have HE := Lib.hid henv
  have HD := Lib.hid hd
  have HBD := Lib.hid hb
  have HLN := Lib.hid hl
  have b100 : decide ((100 : Int) < (nm.length : Int)) = false := by simp; omega
  clear hf hf1 henv hd hb hl
  go_enter Tryd.func3, Tryd.ntmps3
  go_wp2_with fail
  refine (few_any HD.out HLN.out HBD.out).mono ?_
  rw [HFB.out]
  rintro x w1 ⟨rfl, b1⟩
  have HB1 := Lib.hid b1
  clear b1
  go_wp2_with fail
  refine (new_any w1).mono ?_
  rintro x w2 ⟨v1, rfl, h2, b2⟩
  have H2 := Lib.hid h2
  have HB2 := Lib.hid b2
  clear h2 b2
  go_wp2_with fail
  refine (r_new w2).mono ?_
  rintro x w3 ⟨g, rfl, hg, h3, b3⟩
  have hz1 : w1.heap.size < w2.heap.size := H2.out.lt.2
  have hz2 := b3.size
  have S0 : Hid (PlSt w1 w1.heap.size w3.heap.size a ds 0 (w3.alloc (.cells #[.slice (some ⟨g, 0, none⟩) 4 4, .slice none 0 0] 30))) := Lib.hid ⟨newT, [], v1, _, _, _, _, st_new H2.out HB2.out h3 b3⟩
  clear h3 b3 hg
  unfold refV
  go_wp2
  go_loopw [26] (fun s26 wr => ∃ k : Nat, k ≤ ds.length ∧ s26 = .int .i64 k ∧ Hid (PlSt w1 w1.heap.size w3.heap.size a ds k wr)) (fun i wr => ds.length - (intOf i).toNat)
  case atStart => exact ⟨0, Nat.zero_le _, rfl, S0⟩
  case round =>
    obtain ⟨k, hk, rfl, HP⟩ := hrel
    obtain ⟨T, Y, v, la, lc, da, dc, hs⟩ := HP.out
    have HS := Lib.hid hs
    clear hs
    by_cases hlt : k < ds.length
    · obtain ⟨d, hdk⟩ : ∃ d, ds[k]? = some d := ⟨_, List.getElem?_eq_getElem hlt⟩
      have HDK := Lib.hid hdk
      obtain ⟨b, off, rfl, hbl, hc⟩ := (HS.out.args (HD.out.below HB1.out)).at_ (by omega)
      have q0 : wr.cell? ⟨b, off + k * 5, none⟩ = some (.int .i64 d.vb) := hc k d hdk 0 _ rfl
      have q1 : wr.cell? ⟨b, off + k * 5 + 1, none⟩ = some (.int .i64 d.el) := hc k d hdk 1 _ rfl
      have q2 : wr.cell? ⟨b, off + k * 5 + 2, none⟩ = some (.int .i64 d.n) := hc k d hdk 2 _ rfl
      have q3 : wr.cell? ⟨b, off + k * 5 + 3, none⟩ = some (.string (bs d.nm)) := hc k d hdk 3 _ rfl
      have q4 : wr.cell? ⟨b, off + k * 5 + 4, none⟩ = some (.slice d.fa d.l.length d.fc) := hc k d hdk 4 _ rfl
      obtain ⟨c0, c1, cf⟩ := HS.out.cells
      have hrb := HS.out.lt
      have HW1 : Hid (Below wr.heap.size wr (wr.alloc (.cells #[.int .i64 d.vb, .int .i64 d.el, .int .i64 d.n, .string (bs d.nm), .slice d.fa d.l.length d.fc] 34))) := Lib.hid ((Below.refl _ _).alloc (Nat.le_refl _) _)
      have HM := Lib.hid (List.mem_of_getElem? hdk)
      clear hdk hc
      go_wp2_with fail
      refine (does_any (HS.out.both.below HW1.out) d (by have := HS.out.len; omega) (HF1.out d HM.out) (((HD.out.below HB1.out).flds d HM.out).below (HS.out.below.trans (HW1.out.mono HS.out.below.size))) (HS.out.apart ((HD.out.below HB1.out).flds d HM.out))).mono ?_
      rintro x w4 ⟨v', T', Y', la', lc', da', dc', rfl, hB, hT, hY', hG⟩
      have HBo := Lib.hid hB
      have HTu := Lib.hid hT
      have HG := Lib.hid hG
      have hx := HS.out.does HW1.out hT
      have HX := Lib.hid hx
      have hr4 : w3.heap.size < w4.heap.size := (Array.getElem?_eq_some_iff.1 hx.1).1
      have d0 : w4.cell? ⟨w3.heap.size, 0, none⟩ = some (.slice la T.length lc) := by rw [cell_of_row w4 _ 0 _ _ _ hx.1]; rfl
      have d1 : w4.cell? ⟨w3.heap.size, 1, none⟩ = some (.slice da Y.length dc) := by rw [cell_of_row w4 _ 1 _ _ _ hx.1]; rfl
      have df : ∀ o, w4.frozen? ⟨w3.heap.size, o, none⟩ = false := fun o => by simp [World.frozen?, hx.1]
      have HN := Lib.hid ((HS.out.next HW1.out hB hT hY' (Below.refl _ _)).more ((Below.refl _ _).alloc (Nat.le_refl _) (.cells #[.slice la' T'.length lc', .slice da' Y'.length dc'] 30)))
      clear hB hT hY' hG hx q0 q1 q2 q3 q4 c0 c1 cf
      have hT0 : 0 < T'.length := HN.out.both.pos
      have hT256 : T'.length ≤ 256 := HN.out.both.rel.good.few
      have hk1 := HN.out.len
      have HBN := Lib.hid (HB1.out.trans (HN.out.below.mono HB1.out.size))
      go_wp2_with fail
      refine (is_any HN.out.both (by omega) (HE.out.below HBN.out HE.out.sz) n nm hnm).mono ?_
      rintro x w5 ⟨rfl, b5⟩
      have HS5 := Lib.hid (HN.out.more b5)
      have HB5 := Lib.hid (HB1.out.trans (HS5.out.below.mono HB1.out.size))
      have hr5 := HS5.out.lt
      obtain ⟨e0, e1, ef⟩ := HS5.out.cells
      clear b5 d0 d1 df
      go_wp2_with fail
      refine (is_any HS5.out.both (by omega) (HE.out.below HB5.out HE.out.sz) _ nm hnm).mono ?_
      rintro x w6 ⟨rfl, b6⟩
      have HS6 := Lib.hid (HS5.out.more b6)
      clear b6 e0 e1 ef
      go_wp2
      go_roundw
      case rel => exact ⟨k + 1, by omega, by go_num, Lib.hid ⟨T', Y', v', la', lc', da', dc', HS6.out⟩⟩
      case measure => simp [intOf]; omega
    · have hB := HS.out.below
      have HBW := Lib.hid (HB1.out.trans (hB.mono HB1.out.size))
      clear hB
      go_wp2_with fail
      refine (awake_any _ (HE.out.below HBW.out HE.out.sz)).mono ?_
      rintro x w8 ⟨rfl, b8⟩
      go_wp2
      go_ret
      exact ⟨rfl, HBW.out.trans (b8.mono HBW.out.size)⟩
set_option maxHeartbeats 4000000 in
set_option maxRecDepth 100000 in
theorem walk (a : Option Addr) (cap : Nat) (ds : List DoR) (n : Int) (nm : List UInt8) (w : World) (henv : Env w) (hd : DArg w a ds) (hl : ds.length ≤ maxLen) (hb : ∀ d ∈ ds, d.nm.length ≤ maxLen ∧ d.l.length ≤ maxLen ∧ ∀ f ∈ d.l, f.1.length ≤ maxLen) (hnm : nm.length ≤ maxLen) :
    Calls Tryd.prog 3 #[.slice a ds.length cap, .int .i64 n, .string (bs nm)] w fun e w' => e = .returned (.bool true) ∧ Below w.heap.size w w' := by
  unfold maxLen at hnm
  cases hf : few ds with
  | true =>
    by_cases h100 : nm.length ≤ 100
    · exact walk_few a cap ds n nm w henv hd hl hb h100 hf
    · have HFB := Lib.hid hf
      have HE := Lib.hid henv
      have HD := Lib.hid hd
      have HBD := Lib.hid hb
      have HLN := Lib.hid hl
      have b100 : decide ((100 : Int) < (nm.length : Int)) = true := by simp; omega
      clear hf henv hd hb hl h100
      go_enter Tryd.func3, Tryd.ntmps3
      go_wp2_with fail
      refine (few_any HD.out HLN.out HBD.out).mono ?_
      rw [HFB.out]
      rintro x w1 ⟨rfl, b1⟩
      have HB1 := Lib.hid b1
      clear b1
      go_wp2_with fail
      refine (awake_any _ (HE.out.below HB1.out HE.out.sz)).mono ?_
      rintro x w8 ⟨rfl, b8⟩
      go_wp2
      go_ret
      exact ⟨rfl, HB1.out.trans (b8.mono HB1.out.size)⟩
  | false =>
    have HFB := Lib.hid hf
    have HE := Lib.hid henv
    have HD := Lib.hid hd
    have HBD := Lib.hid hb
    have HLN := Lib.hid hl
    clear hf henv hd hb hl
    go_enter Tryd.func3, Tryd.ntmps3
    go_wp2_with fail
    refine (few_any HD.out HLN.out HBD.out).mono ?_
    rw [HFB.out]
    rintro x w1 ⟨rfl, b1⟩
    have HB1 := Lib.hid b1
    clear b1
    go_wp2_with fail
    refine (awake_any _ (HE.out.below HB1.out HE.out.sz)).mono ?_
    rintro x w8 ⟨rfl, b8⟩
    go_wp2
    go_ret
    exact ⟨rfl, HB1.out.trans (b8.mono HB1.out.size)⟩
end Go.Proofs.YtemnlkgjgalipaaDoor.typesPlays
