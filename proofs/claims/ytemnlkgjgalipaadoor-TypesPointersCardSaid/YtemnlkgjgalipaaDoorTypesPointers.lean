/-
  The walk of TypesPointers.
-/
import Derived.Test.YtemnlkgjgalipaaDoorPtrs
import Derived.Lib.QuietBelow
import Derived.BigQuiet
import Derived.Deep.Cut
import Derived.Deep.CutBlock
import Derived.Deep.DeepCutAuto
namespace Go.Proofs.YtemnlkgjgalipaaDoor.typesPointers
open Go.RowKit Go.Maps Tp
set_option linter.unusedVariables false

theorem wf8 {a : Int} (h : (Lit.int .u8 a).wf = true) : 0 ≤ a ∧ a ≤ 255 := by
  simpa [Lit.wf, IntKind.min, IntKind.max, IntKind.signed, IntKind.bits] using h
theorem cat_run (A S : List UInt8) (j : Nat) (h : A ++ List.replicate j 42 = S) (hl : S.length ≤ 1000) (W : World) : (Op.stringOp .add (bs A) ((bs S).extract (S.length - j) S.length)).run Tryd.prog W = .ok (.string (bs S)) W := by
  have hj : S.length = A.length + j := by rw [← h]; simp
  rw [run_string_add_sum W _ _ (by simp [ByteArray.size]; omega)]
  congr 2
  apply ByteArray.ext
  apply Array.toList_inj.1
  subst h
  simp
theorem star_at (A S : List UInt8) (j q : Nat) (h : A ++ List.replicate j 42 = S) (hq : q < j) (hi : S.length - 1 - q < (bs S).size) : (bs S)[S.length - 1 - q]'hi = 42 := by
  have hj : S.length = A.length + j := by rw [← h]; simp
  show S[S.length - 1 - q]'hi = 42
  have e0 : ∀ i, A.length ≤ i → i < A.length + j → (A ++ List.replicate j (42 : UInt8))[i]? = some 42 := fun i h1 h2 => by
    rw [List.getElem?_append_right h1, List.getElem?_replicate, if_pos (by omega)]
  have e := e0 (S.length - 1 - q) (by omega) (by omega)
  rw [h] at e
  rw [List.getElem?_eq_getElem (by exact hi)] at e
  injection e
def PtrIn (w : World) (b i : Nat) (wr : World) : Prop := ∃ v, TabIn wr w.heap.size w.heap.size v (ptrT b i) ∧ Below w.heap.size w wr
set_option maxHeartbeats 700000 in
set_option maxRecDepth 100000 in
theorem walk (a0 : Int) (_w0 : (Lit.int .u8 a0).wf = true) (a1 : Int) (_w1 : (Lit.int .u8 a1).wf = true) (w : World) (henv : Env w) :
    Calls Tryd.prog 8 #[.int .u8 a0, .int .u8 a1] w fun e w' => e = .returned (.bool true) ∧ Below w.heap.size w w' := by
  have HE := Lib.hid henv; clear henv
  obtain ⟨x00, x01⟩ := wf8 _w0
  obtain ⟨x10, x11⟩ := wf8 _w1
  clear _w0 _w1
  go_enter Tryd.func8, Tryd.ntmps8
  go_wp2_with fail
  have k0 : 0 ≤ a0 % 30 ∧ a0 % 30 < 30 := by omega
  have b0 : 0 ≤ a1 % 4 ∧ a1 % 4 < 4 := by omega
  generalize hk : a0 % 30 = kI at k0 ⊢
  generalize hb : a1 % 4 = bI at b0 ⊢
  clear hk hb
  obtain ⟨k, rfl⟩ := Int.eq_ofNat_of_zero_le k0.1
  obtain ⟨b, rfl⟩ := Int.eq_ofNat_of_zero_le b0.1
  have hk : k < 30 := by omega
  have hb : b < 4 := by omega
  clear k0 b0
  refine (new_any w).mono ?_
  rintro x w1 ⟨v1, rfl, h1, b1⟩
  have H1 : Hid (PtrIn w b 0 w1) := Lib.hid ⟨v1, h1, b1⟩
  clear h1 b1
  go_wp2
  go_loopw [22, 8] (fun i x wr => ∃ j : Nat, j ≤ k ∧ i = .int .i64 j ∧ x = .int .i64 (xk b j) ∧ Hid (PtrIn w b j wr)) (fun i _ wr => k - (intOf i).toNat)
  case atStart => exact ⟨0, Nat.zero_le _, rfl, rfl, H1⟩
  case round =>
    obtain ⟨j, hj, rfl, rfl, HP⟩ := hrel
    obtain ⟨v, hT, hbw⟩ := HP.out
    have HT := Lib.hid hT
    have HB := Lib.hid hbw
    clear hT hbw
    by_cases hlt : j < k
    · have hlen := ptrT_len b j
      have hl256 : (ptrT b j).length ≤ 256 := by omega
      have hn1 : ((((4 + (j + 1) : Nat) : Int) - 1)) = ((4 + j : Nat) : Int) := by omega
      clear hlen
      go_wp2_with fail
      refine (pointer_any HT.out hl256 (xk b j)).mono ?_
      rw [ptr_step hb j (by omega)]
      rintro x w2 ⟨v2, rfl, h2, t2⟩
      have H2 := Lib.hid h2
      have HP2 : Hid (PtrIn w b (j + 1) w2) := Lib.hid ⟨v2, h2, HB.out.trans (HT.out.turn t2)⟩
      clear h2 t2
      go_wp2_with fail
      refine (len_any H2.out).mono ?_
      rw [ptrT_len]
      rintro x w3 ⟨rfl, rfl⟩
      have HX1 : Hid ((4 : Int) + (j : Int) = ((xk b (j + 1) : Nat) : Int)) := Lib.hid (by unfold xk; rw [if_neg (by omega)]; omega)
      go_wp2
      go_roundw
      case rel => exact ⟨j + 1, by omega, by go_num, by rw [HX1.out], HP2⟩
      case measure => simp [intOf]; omega
    · obtain rfl : j = k := by omega
      have hG := ptr_good hb j (by omega)
      have HG := Lib.hid hG
      have HTX : Hid (text (ptrT b j) (xk b j) = baseText b ++ List.replicate j 42) := Lib.hid (by rw [text_nat]; exact ptr_txt hb (by omega) j (Nat.le_refl _))
      have HTB : Hid (text (ptrT b j) b = baseText b) := Lib.hid (by rw [text_nat]; show txt (ptrT b j) (xk b 0) = _; rw [ptr_txt hb (by omega) 0 (by omega)]; simp)
      have hbl := base_len hb
      clear hG
      go_wp2_with fail
      refine (text_any HT.out HG.out (HE.out.below HB.out HE.out.sz) (xk b j)).mono ?_
      rw [HTX.out]
      rintro x w2 ⟨rfl, b2⟩
      have HT2 := Lib.hid (HT.out.below b2)
      have HB2 := Lib.hid (HB.out.trans (b2.mono HB.out.size))
      clear b2
      obtain ⟨S, hS⟩ : ∃ S, baseText b ++ List.replicate j 42 = S := ⟨_, rfl⟩
      have HS := Lib.hid hS
      have hSl : S.length = (baseText b).length + j := by rw [← hS]; simp
      rw [hS]
      clear hS
      have HSL := Lib.hid hSl
      have hjL : j ≤ S.length := by omega
      have hL40 : S.length ≤ 40 := by omega
      clear hSl
      have e1 : decide (S.length < j) = false := by simp; omega
      have s0 : IntKind.i64.wrap ((S.length : Int) - (j : Int)) = ((S.length - j : Nat) : Int) := by rw [IntWalk.i64_in _ (by omega)]; omega
      go_wp2
      have cT : ∀ d os, Calls Tryd.prog 24 #[.pointer (some ⟨w.heap.size, 0, none⟩), .int .i64 b] (Go.Sort.grow (redrawn w2 d) os) fun e w' => e = .returned (.string (bs (baseText b))) ∧ Below (Go.Sort.grow (redrawn w2 d) os).heap.size (Go.Sort.grow (redrawn w2 d) os) w' := fun d os => by
        have := text_any (HT2.out.below (below_regrown w2 d os)) HG.out (HE.out.below (HB2.out.trans ((below_regrown w2 d os).mono HB2.out.size)) HE.out.sz) b
        rwa [HTB.out] at this
      have HC := Lib.hid cT; clear cT
      have ha := cat_run (baseText b) S j HS.out (by omega)
      refine wp_region_quiet_below (by kernel_rfl) (by kernel_rfl) ?_
      repeat (any_goals (first | go_big_quiet_step ((go_at_call 24; exact Calls.regrown_of (HC.out _ _))) | quiet_step ((go_at_call 24; exact Calls.regrown_of (HC.out _ _)))))
      refine wpQuiet_nil ?_
      intro _ hw'
      obtain ⟨⟨dq, osq⟩, hw''⟩ := hw'
      subst hw''
      have HB4 : Hid (Below w.heap.size w (Go.Sort.grow (redrawn w2 dq) osq)) := Lib.hid (HB2.out.trans ((below_regrown w2 dq osq).mono HB2.out.size))
      have HT4 := Lib.hid (HT2.out.below (below_regrown w2 dq osq))
      generalize Go.Sort.grow (redrawn w2 dq) osq = w4 at *
      clear s0
      go_wp2
      go_loop [63] (fun i => ∃ q : Nat, q ≤ j ∧ i = .int .i64 q) (fun i => j - (intOf i).toNat)
      case atStart => exact ⟨0, Nat.zero_le _, rfl⟩
      case round =>
        obtain ⟨q, hq, rfl⟩ := hrel
        by_cases hlt : q < j
        · have hS1 : 0 < S.length := by omega
          have hidx : (S.length : Int) - 1 - (q : Int) = ((S.length - 1 - q : Nat) : Int) := by omega
          have hi : S.length - 1 - q < (bs S).size := by show _ < S.length; omega
          have h42 : ((((bs S)[S.length - 1 - q]'hi).toNat : Int) != 42) = false := by rw [star_at (baseText b) S j q HS.out hlt hi]; rfl
          go_wp2
          go_round
          case rel => exact ⟨q + 1, by omega, by go_num⟩
          case measure => simp [intOf]; omega
        · obtain rfl : q = j := by omega
          go_wp2_with fail
          refine (len_any HT4.out).mono ?_
          rw [ptrT_len]
          rintro x w5 ⟨rfl, rfl⟩
          go_wp2_with fail
          refine (awake_any _ (HE.out.below HB4.out HE.out.sz)).mono ?_
          rintro x w6 ⟨rfl, b6⟩
          go_wp2
          go_ret
          exact ⟨rfl, HB4.out.trans (b6.mono HB4.out.size)⟩
end Go.Proofs.YtemnlkgjgalipaaDoor.typesPointers
