/-
  Layer 10: contract of reached.
-/
import Derived.Test.YtgnpbodhjmappaaPMD
import Derived.Test.YtgnpbodhjmappaaPLH
import Derived.Test.YtgnpbodhjmappaaPME
import Derived.Maps.AppendAt
import Derived.Test.YtgnpbodhjmappaaPMA
import Derived.Test.YtgnpbodhjmappaaPMC
import Derived.Test.YtgnpbodhjmappaaPLast
import Derived.Test.YtgnpbodhjmappaaPLA
import Derived.Test.YtgnpbodhjmappaaPNA
import Derived.Deep.LoopGhost
import Derived.RegionTactic
import Derived.ChangeAlike
import Derived.Test.YtgnpbodhjmappaaPNB
set_option linter.unusedVariables false
set_option linter.unusedSimpArgs false
namespace Go.Proofs.Ytgnpbodhjmappaa
set_option maxRecDepth 100000
open Go.RowKit Cd
structure RSt (M : Nat) (r : FnR) (w : World) : Prop where
  box : w.heap[M]? = some (fnO r)
  code : CodeAt w M r
theorem RSt.keep {M N : Nat} {r : FnR} {w w' : World} (h : RSt M r w) (hM : M < N) (hk : ∀ g, g < N → w'.heap[g]? = w.heap[g]?) (hs : w.heap.size ≤ w'.heap.size) : RSt M r w' :=
  ⟨(hk _ hM).trans h.box, RowAt.keepB h.code (fun g hg => hk g (by omega)) hs⟩
theorem next_d (x : Ins) (p : Int) (ns : List Int) (hp : 0 ≤ p ∧ p ≤ 1000000) (hns : next x p = ns) (w : World) :
    Calls Try.prog 58 #[inV x, .int .i64 p] w fun e w' => ∃ (a : Option Addr) (c : Nat), e = .returned (.slice a ns.length c) ∧ LiesIn w' w.heap.size a (ints ns) ∧ Below w.heap.size w w' := by
  subst hns
  refine (cnext_any x p hp w).mono ?_
  rintro e w' ⟨v, rfl, ho, hb⟩
  obtain ⟨a, c, rfl⟩ := row_slice ho
  exact ⟨a, c, rfl, LiesIn.of_own ho, hb⟩
set_option maxHeartbeats 4000000 in
theorem step_r (name : List UInt8) (params regs frame : Int) (code : List Ins) (ca : Option Addr) (cc : Nat) (M N : Nat) (s : FS) (x : Nat) (w : World)
    (hcl : Closed code) (hlen : code.length ≤ 10000) (hN : M < N) (hx : x < code.length) (hs1 : s.1.length = code.length) (hs2 : lacks s.1 + s.2.length ≤ 100000) (hNw : N + 2 < w.heap.size) (hS : SSt N s w) (hR : RSt M ⟨⟨name, params, regs, frame, code⟩, ca, cc⟩ w) :
    Calls Try.prog 62 #[.int .i64 (x : Int), .func (.func 87) #[] #[.pointer (some ⟨N + 1, 0, none⟩), .pointer (some ⟨N + 1 + 1, 0, none⟩)], .pointer (some ⟨M, 0, none⟩)] w fun e w' => e = .returned (.tuple #[]) ∧ SSt N (seeL (-1) s (egs (nextG code) (x : Int))) w' ∧ RSt M ⟨⟨name, params, regs, frame, code⟩, ca, cc⟩ w' ∧ Below N w w' := by
  obtain ⟨z, hz⟩ : ∃ z, code[x]? = some z := ⟨_, List.getElem?_eq_getElem hx⟩
  obtain ⟨b, off, hca, hb, hBw, q0, q1, q2, q3, q4, q5, q6, q7, q8, q9, q10, q11, q12, q13, q14⟩ := hR.code.cells hz
  simp only at hca
  subst hca
  obtain ⟨d0, d1, d2, d3, d4⟩ := nv5 hR.box
  obtain ⟨ns, hns⟩ : ∃ ns, next z (x : Int) = ns := ⟨_, rfl⟩
  have hnl := nexts_len z (x : Int)
  rw [hns] at hnl
  have heg : egs (nextG code) (x : Int) = ns := by rw [egs_nextG code (Int.natCast_nonneg _), nexts_at (i := z) (by rw [Int.toNat_natCast]; exact hz), hns]
  have hin : ∀ y ∈ ns, 0 ≤ y ∧ y < (code.length : Int) := fun y hy => hcl (x : Int) ⟨Int.natCast_nonneg _, by omega⟩ y (by rw [nexts_at (i := z) (by rw [Int.toNat_natCast]; exact hz), hns]; exact hy)
  rw [heg]
  have HS := Lib.hid hS; have HR := Lib.hid hR; have HNS := Lib.hid hns; have HIN := Lib.hid hin
  have x0 : (0 : Int) ≤ (x : Int) := Int.natCast_nonneg _
  have x1 : (x : Int) ≤ 1000000 := by omega
  have x2 : (x : Int) < (code.length : Int) := by omega
  clear hS hR hns heg hin hz hcl
  go_enter Try.func62, Try.ntmps62
  go_wp2_with ((with_reducible refine (next_d z (x : Int) ns ⟨x0, x1⟩ HNS.out _).mono ?_); rintro e w1 ⟨na, nc, rfl, hn1, hb1⟩; have HN1 := Lib.hid hn1; have HB1 := Lib.hid (hb1.mono (show N ≤ w.heap.size by omega)); have HS1 := Lib.hid (HS.out.keep (w' := w1) (fun g _ hg => hb1.block g hg)); have HR1 := Lib.hid (HR.out.keep (w' := w1) (N := w.heap.size) (by omega) (fun g hg => hb1.block g hg) hb1.size); have hw1 : w.heap.size ≤ w1.heap.size := hb1.size; have HOP1 : Hid (∀ g, Opn N w1 g → g < w.heap.size ∨ w1.heap.size ≤ g) := Lib.hid (fun g ⟨a', n', c', e1, e2⟩ => .inl (SSt.opn HS.out ⟨a', n', c', (hb1.block (N + 2) (by omega)).symm.trans e1, e2⟩).2); clear hn1 hb1)
  go_loopw [15] (fun s15 wr => ∃ k : Nat, k ≤ ns.length ∧ s15 = .int .i64 (k : Int) ∧ Hid (SSt N (seeL (-1) s (ns.take k)) wr) ∧ Hid (RSt M ⟨⟨name, params, regs, frame, code⟩, some ⟨b, off, none⟩, cc⟩ wr) ∧ Hid (Below N w wr) ∧ Hid (∀ g, w.heap.size ≤ g → g < w1.heap.size → wr.heap[g]? = w1.heap[g]?) ∧ Hid (∀ g, Opn N wr g → g < w.heap.size ∨ w1.heap.size ≤ g) ∧ w1.heap.size ≤ wr.heap.size) (fun s15 wr => ns.length - (intOf s15).toNat)
  case atStart => exact ⟨0, by omega, rfl, by rw [List.take_zero]; exact HS1, HR1, HB1, Lib.hid (fun _ _ _ => rfl), HOP1, Nat.le_refl _⟩
  case round =>
    obtain ⟨k, hk, rfl, HSK, HRK, HB, HKP, HOP, hsz⟩ := hrel
    have HI : Hid (IntsAt wr na ns) := Lib.hid (LiesIn.row (HN1.out.keep hsz HKP.out))
    have k0 : (0 : Int) ≤ (k : Int) := Int.natCast_nonneg _
    by_cases hlt : k < ns.length
    · have k1 : (k : Int) < (ns.length : Int) := by omega
      obtain ⟨y, hy⟩ : ∃ y, ns[k]? = some y := ⟨_, List.getElem?_eq_getElem hlt⟩
      obtain ⟨yb, yoff, rfl, hyb, hyc⟩ := HI.out.at hy
      have hyin := HIN.out y (List.mem_of_getElem? hy)
      obtain ⟨j, rfl⟩ : ∃ j : Nat, y = (j : Int) := ⟨y.toNat, by omega⟩
      have E := Lib.hid (seeL_take (no := -1) (s := s) hy)
      have hsl : (seeL (-1) s (ns.take k)).1.length = code.length := by rw [seeL_len]; exact hs1
      have hsum := seeL_sum (-1) (ns.take k) s
      have HLT := Lib.hid hlt
      clear hy hlt
      go_wp2_with ((with_reducible refine (add_cd N _ j _ HSK.out (by omega) (by omega) (by omega)).mono ?_); rintro e w2 ⟨rfl, hs9, hb9, hk9, ho9⟩; have HS9 := Lib.hid hs9; have HB9 := Lib.hid (HB.out.trans hb9); have HR9 := Lib.hid (HRK.out.keep (N := N) (w' := w2) hN (fun g hg => hb9.block g hg) hb9.size); have HK9 : Hid (∀ g, w.heap.size ≤ g → g < w1.heap.size → w2.heap[g]? = w1.heap[g]?) := Lib.hid (fun g h1 h2 => (hk9 g (by omega) (by omega) (fun q => by have := HOP.out g q; omega)).trans (HKP.out g h1 h2)); have HO9 : Hid (∀ g, Opn N w2 g → g < w.heap.size ∨ w1.heap.size ≤ g) := Lib.hid (fun g h1 => (ho9 g h1).elim (HOP.out g) (fun q => .inr (by omega))); have hz9 : w1.heap.size ≤ w2.heap.size := (by have := hb9.size; omega); clear hs9 hb9 hk9 ho9)
      go_roundw
      case rel => exact ⟨k + 1, HLT.out, by go_num, by rw [E.out]; exact HS9, HR9, HB9, HK9, HO9, hz9⟩
      case measure => have := HLT.out; simp [intOf]; omega
    · obtain rfl : k = ns.length := by omega
      have HS2 := HSK.out
      rw [List.take_length] at HS2
      go_wp2
      go_end0
      exact ⟨rfl, HS2, HRK.out, HB.out⟩
set_option maxHeartbeats 4000000 in
theorem reached_c (name : List UInt8) (params regs frame : Int) (code : List Ins) (ca : Option Addr) (cc : Nat) (w : World) (hcl : Closed code) (hc0 : 0 < code.length) (hlen : code.length ≤ 10000) (hC : CodeAt w w.heap.size ⟨⟨name, params, regs, frame, code⟩, ca, cc⟩) :
    Calls Try.prog 36 #[fnV ⟨⟨name, params, regs, frame, code⟩, ca, cc⟩] w (fun e w' => ∃ b, e = .returned (.slice (some ⟨b, 0, none⟩) code.length code.length) ∧ w.heap.size ≤ b ∧ VRow w' b 4 (bools (foundB (nextG code) [0] (-1))) ∧ Below w.heap.size w w') := by
  have hgl := nextG_len code
  have HGI := Lib.hid (nextG_in hcl)
  have HB1 : Hid (Below w.heap.size w (w.alloc (fnO ⟨⟨name, params, regs, frame, code⟩, ca, cc⟩))) := Lib.hid ((Below.refl _ _).alloc (Nat.le_refl _) _)
  have HX := Lib.hid (heap_alloc_new w (fnO ⟨⟨name, params, regs, frame, code⟩, ca, cc⟩))
  have HR1 : Hid (RSt w.heap.size ⟨⟨name, params, regs, frame, code⟩, ca, cc⟩ (w.alloc (fnO ⟨⟨name, params, regs, frame, code⟩, ca, cc⟩))) := Lib.hid ⟨HX.out, hC.below HB1.out⟩
  obtain ⟨d0, d1, d2, d3, d4⟩ := nv5 HX.out
  have HR2 : Hid (RSt w.heap.size ⟨⟨name, params, regs, frame, code⟩, ca, cc⟩ ((w.alloc (fnO ⟨⟨name, params, regs, frame, code⟩, ca, cc⟩)).alloc (.cells #[.int .i64 0] 3))) := Lib.hid (HR1.out.keep (N := w.heap.size + 1) (by omega) (fun g hg => Below.heap_alloc _ _ _ (by simp; omega)) (by simp))
  have HB2 : Hid (Below w.heap.size w ((w.alloc (fnO ⟨⟨name, params, regs, frame, code⟩, ca, cc⟩)).alloc (.cells #[.int .i64 0] 3))) := Lib.hid (HB1.out.alloc (by simp) _)
  have HF2 : Hid (RowAt ((w.alloc (fnO ⟨⟨name, params, regs, frame, code⟩, ca, cc⟩)).alloc (.cells #[.int .i64 0] 3)) ((w.alloc (fnO ⟨⟨name, params, regs, frame, code⟩, ca, cc⟩)).alloc (.cells #[.int .i64 0] 3)).heap.size (some ⟨w.heap.size + 1, 0, none⟩) (ints [0])) := Lib.hid (fun _ => ⟨w.heap.size + 1, 0, rfl, by simp, Nat.le_refl _, fun j u hu => by
    have h9 := heap_alloc_new (w.alloc (fnO ⟨⟨name, params, regs, frame, code⟩, ca, cc⟩)) (.cells #[.int .i64 0] 3)
    rw [World.size_alloc] at h9
    rw [cell_of_row _ _ _ _ _ _ h9, Nat.zero_add]
    simpa using hu⟩)
  have hs2 : ((w.alloc (fnO ⟨⟨name, params, regs, frame, code⟩, ca, cc⟩)).alloc (.cells #[.int .i64 0] 3)).heap.size = w.heap.size + 2 := by simp
  have hse := (search_reached (nextG code) code.length [0] (some ⟨w.heap.size + 1, 0, none⟩) 1 (.pointer (some ⟨w.heap.size, 0, none⟩)) w.heap.size (fun _ W => RSt w.heap.size ⟨⟨name, params, regs, frame, code⟩, ca, cc⟩ W) ((w.alloc (fnO ⟨⟨name, params, regs, frame, code⟩, ca, cc⟩)).alloc (.cells #[.int .i64 0] 3)) hgl HGI.out HF2.out (fun x hx => by rw [List.mem_singleton] at hx; rw [hgl]; omega) (by simp) hlen HB2.out.size HR2.out (fun l w1 w2 h1 h2 h3 => RSt.keep h1 (by omega) h2 h3) (fun l s x w1 h1 h2 h3 h4 h5 h6 => (step_r name params regs frame code ca cc w.heap.size _ s x w1 hcl hlen (by omega) h3 h4 h5 h6 h1 h2).mono (fun e w2 q => ⟨q.1, q.2.1, q.2.2.1, q.2.2.2.mono (by omega)⟩)))
  rw [List.length_singleton] at hse
  have HSE := Lib.hid hse
  clear hC hcl hse
  go_enter Try.func36, Try.ntmps36
  go_wp2_with ((with_reducible refine HSE.out.mono ?_); rintro e w3 ⟨l, rfl, hr, _, _, hb3⟩; have HRW := Lib.hid hr; have HB3 := Lib.hid (HB2.out.trans hb3); clear hr hb3)
  go_ret
  exact ⟨w.heap.size + 2, rfl, by omega, hs2 ▸ HRW.out, HB3.out⟩
end Go.Proofs.Ytgnpbodhjmappaa
