/-
  Contracts of the reference's digits and Text.
-/
import Derived.Test.YtemnlkgjgalipaaDoorRefSizeB
import Derived.Laws.BytesArg
namespace Go.Proofs.YtemnlkgjgalipaaDoor
open Go.RowKit Go.Maps Tp Go.Sort
set_option linter.unusedVariables false

theorem conv_dig (k : Nat) (hk : k < 10) (W : World) (b : Nat) (h : W.cell? ⟨b, 0, none⟩ = some (.int .u8 (48 + k))) : (convert 44 9 (.slice (some ⟨b, 0, none⟩) 1 1)).run Tryd.prog W = .ok (.string (bs (Lib.decDigits k))) W := by
  have := run_convert_bytes_arg W 44 5 Tryd.underlying44 Tryd.underlying5 b 0 1 1 [48 + (k : Int)] rfl (fun i hi => by
    obtain rfl : i = 0 := by omega
    exact h) 9 Tryd.underlying9
  rw [this, Lib.decDigits_one hk]
  congr 2
theorem digits_step {n : Nat} (h : ¬ n < 10) : Lib.decDigits n = Lib.decDigits (n / 10) ++ Lib.decDigits (n % 10) := by
  conv => lhs; rw [Lib.decDigits, dif_neg h]
  rw [Lib.decDigits_one (show n % 10 < 10 by omega)]
set_option maxHeartbeats 1000000 in
theorem r_digits : ∀ (n : Nat), n ≤ 1024 → ∀ w : World, Calls Tryd.prog 40 #[.int .i64 n] w fun e w' => e = .returned (.string (bs (Lib.decDigits n))) ∧ Below w.heap.size w w' := by
  intro n
  induction n using Nat.strongRecOn with
  | _ n ih =>
    intro hn w
    by_cases h : n < 10
    · have hc := conv_dig n h (w.alloc (.cells #[.int .u8 (48 + n)] 5)) w.heap.size (by rw [cell_of_row _ _ 0 _ _ _ (heap_alloc_new w _)]; rfl)
      have h1 : decide ((n : Int) < 10) = true := by simp; omega
      have n0 : (0 : Int) ≤ (n : Int) := Int.natCast_nonneg _
      have n1 : (n : Int) < 10 := by omega
      clear ih
      go_enter Tryd.func40, Tryd.ntmps40
      go_wp2
      go_ret
      exact ⟨rfl, (Below.refl _ _).alloc (Nat.le_refl _) _⟩
    · have h1 : decide ((n : Int) < 10) = false := by simp; omega
      have I1 := Lib.hid (ih (n / 10) (by omega) (by omega))
      have I2 := Lib.hid (ih (n % 10) (by omega) (by omega))
      have HD := Lib.hid (digits_step h)
      have hl := digits_few hn
      have e1 : (n : Int) / 10 = ((n / 10 : Nat) : Int) := by omega
      have e2 : (n : Int) % 10 = ((n % 10 : Nat) : Int) := by omega
      have HE1 := Lib.hid e1
      have HE2 := Lib.hid e2
      have n0 : (0 : Int) ≤ (n : Int) := Int.natCast_nonneg _
      have a1 : ∀ W : World, (Op.stringOp .add (bs (Lib.decDigits (n / 10))) (bs (Lib.decDigits (n % 10)))).run Tryd.prog W = .ok (.string (bs (Lib.decDigits n))) W := fun W => add_bs _ _ _ HD.out.symm (by rw [digits_step h] at hl; simp at hl; omega) W
      clear ih e1 e2 h hl
      go_enter Tryd.func40, Tryd.ntmps40
      go_wp2_with fail
      rw [HE1.out]
      refine (I1.out w).mono ?_
      rintro x w1 ⟨rfl, b1⟩
      have B1 := Lib.hid b1
      clear b1
      go_wp2_with fail
      rw [HE2.out]
      refine (I2.out w1).mono ?_
      rintro x w2 ⟨rfl, b2⟩
      have B2 := Lib.hid (B1.out.trans (b2.mono B1.out.size))
      clear b2
      go_wp2
      go_ret
      exact ⟨rfl, B2.out⟩
theorem txt_len {T : Tab} (h : Tp.Good T) : ∀ i, i < T.length → (txt T i).length ≤ 30 * i + 110 := by
  intro i
  induction i using Nat.strongRecOn with
  | _ i ih =>
    intro hi
    obtain ⟨e, he⟩ : ∃ e, T[i]? = some e := ⟨_, List.getElem?_eq_getElem hi⟩
    have hk := h.kind i e he
    by_cases h3 : e.self.kind ≤ 3
    · rw [txt_base he h3]
      have : e.self.kind = 0 ∨ e.self.kind = 1 ∨ e.self.kind = 2 ∨ e.self.kind = 3 := by omega
      rcases this with h | h | h | h <;> rw [h] <;> simp [baseText] <;> omega
    · by_cases h6 : e.self.kind = 6
      · rw [txt_str he h6]
        have := h.short i e he
        have h7 : structL.length = 7 := rfl
        simp; omega
      · have hd := h.down i e he (by omega)
        obtain ⟨j, hj⟩ := Int.eq_ofNat_of_zero_le hd.1
        by_cases h4 : e.self.kind = 4
        · obtain ⟨e1, h1⟩ := txt_ptr h he h4 hj
          have := ih j h1 (by omega)
          rw [e1]; simp; omega
        · obtain ⟨e1, h1⟩ := txt_arr h he (by omega) hj
          have := ih j h1 (by omega)
          have hc := h.count i e he
          have hdl := digits_few (u := e.self.n.toNat) (by omega)
          rw [e1]; simp; omega
set_option maxHeartbeats 4000000 in
set_option maxRecDepth 100000 in
theorem r_text_in {T : Tab} {D : Dl} {la : Option Addr} {lc : Nat} {da : Option Addr} {dn dc : Nat} (hG : Tp.Good T) : ∀ (i : Nat), i < T.length → ∀ w : World, SzIn w T D la lc da dn dc →
    Calls Tryd.prog 31 #[.agg #[.slice la T.length lc, .slice da dn dc], .int .i64 i] w fun e w' => e = .returned (.string (bs (txt T i))) ∧ Below w.heap.size w w' := by
  intro i
  induction i using Nat.strongRecOn with
  | _ i ih =>
    intro hil w h
    obtain ⟨e, hi⟩ : ∃ e, T[i]? = some e := ⟨_, List.getElem?_eq_getElem hil⟩
    have H := Lib.hid h
    have IH := Lib.hid ih
    have HG := Lib.hid hG
    have HI := Lib.hid hi
    obtain ⟨g, rfl, hgl, c0, c1, c2, c3⟩ := h.cells hi
    have HN : Hid (ent T i = some e) := Lib.hid (by rw [ent_nat]; exact hi)
    have hkd := hG.kind i e hi
    clear h hi ih hG
    have i0 : (0 : Int) ≤ (i : Int) := Int.natCast_nonneg _
    have i1 : (i : Int) < (T.length : Int) := by omega
    have hT := H.out.few
    go_enter Tryd.func31, Tryd.ntmps31
    go_wp2_with fail
    refine ((H.out.below ((Below.refl _ _).alloc (Nat.le_refl _) _)).is i).mono ?_
    rw [HN.out]
    rintro x w1 ⟨rfl, hb⟩
    have HB : Hid (Below w.heap.size w w1) := Lib.hid (((Below.refl _ _).alloc (Nat.le_refl _) _).trans (hb.mono (by simp)))
    obtain ⟨d, _, dz⟩ := kept_new hb
    have d0 := d 0
    have d1 := d 1
    have e0 := (HB.out.cell (p := ⟨g, i * 4, none⟩) hgl).trans c0
    have e1 := (HB.out.cell (p := ⟨g, i * 4 + 1, none⟩) hgl).trans c1
    have e2 := (HB.out.cell (p := ⟨g, i * 4 + 2, none⟩) hgl).trans c2
    have e3 := (HB.out.cell (p := ⟨g, i * 4 + 3, none⟩) hgl).trans c3
    have hz1 := HB.out.size
    clear hb d c0 c1 c2 c3
    have HW : Hid (Below w.heap.size w (w1.alloc (.cells #[.int .i64 e.self.kind, .int .i64 e.self.elem, .int .i64 e.self.n, .string (bs e.self.name)] 41))) := Lib.hid (HB.out.alloc hz1 _)
    by_cases h3 : e.self.kind ≤ 3
    · obtain ⟨kn, hkn⟩ := Int.eq_ofNat_of_zero_le hkd.1
      have HB3 := Lib.hid (txt_base HI.out h3)
      rw [hkn] at HB3 e0
      have hk4 : kn = 0 ∨ kn = 1 ∨ kn = 2 ∨ kn = 3 := by omega
      clear hkn hkd h3
      rcases hk4 with rfl | rfl | rfl | rfl
      all_goals
        go_wp2
        go_ret
        exact ⟨by rw [HB3.out]; rfl, (HB.out.alloc hz1 _).alloc (by simp; omega) _⟩
    · by_cases h6 : e.self.kind = 6
      · have HB6 := Lib.hid (txt_str HI.out h6)
        have hnl := HG.out.short i e HI.out
        have hsl : structL.length = 7 := rfl
        have a1 : ∀ W : World, (Op.stringOp .add ⟨#[115, 116, 114, 117, 99, 116, 32]⟩ (bs e.self.name)).run Tryd.prog W = .ok (.string (bs (txt T i))) W := fun W => add_bs structL _ _ HB6.out.symm (by omega) W
        have b4 : ((e.self.kind : Int) == 4) = false := by simp; omega
        have b5 : ((e.self.kind : Int) == 5) = false := by simp; omega
        have b6 : ((e.self.kind : Int) == 6) = true := by simp [h6]
        clear hsl h6 h3 hkd
        go_wp2
        go_ret
        exact ⟨rfl, HW.out⟩
      · have hdn := HG.out.down i e HI.out (by omega)
        obtain ⟨j, hj⟩ := Int.eq_ofNat_of_zero_le hdn.1
        have hji : j < i := by omega
        have hlen := txt_len HG.out i hil
        have hlj := txt_len HG.out j (by omega)
        rw [hj] at e1
        by_cases h4 : e.self.kind = 4
        · have HP := Lib.hid (txt_ptr HG.out HI.out h4 hj).1
          have a1 : ∀ W : World, (Op.stringOp .add (bs (txt T j)) ⟨#[42]⟩).run Tryd.prog W = .ok (.string (bs (txt T i))) W := fun W => add_bs _ [42] _ HP.out.symm (by simp; omega) W
          have b4 : ((e.self.kind : Int) == 4) = true := by simp [h4]
          clear h4 h6 h3 hkd hdn hlen
          rw [hj] at HW
          clear hj
          go_wp2_with fail
          refine (IH.out j hji (by omega) _ (H.out.below HW.out)).mono ?_
          rintro x w2 ⟨rfl, b2⟩
          have HB2 := Lib.hid (HW.out.trans (b2.mono HW.out.size))
          clear b2
          go_wp2
          go_ret
          exact ⟨rfl, HB2.out⟩
        · have h5 : e.self.kind = 5 := by omega
          have hct := HG.out.count i e HI.out
          obtain ⟨c, hcn⟩ := Int.eq_ofNat_of_zero_le hct.1
          have HPA := (txt_arr HG.out HI.out h5 hj).1
          rw [hcn, Int.toNat_natCast] at HPA
          have HP := Lib.hid HPA
          have hc4 := digits_few (u := c) (by omega)
          rw [hcn] at e2 hct HW
          have a1 : ∀ W : World, (Op.stringOp .add (bs (txt T j)) ⟨#[91]⟩).run Tryd.prog W = .ok (.string (bs (txt T j ++ [91]))) W := fun W => add_bs _ [91] _ rfl (by simp; omega) W
          have a2 : ∀ W : World, (Op.stringOp .add (bs (txt T j ++ [91])) (bs (Lib.decDigits c))).run Tryd.prog W = .ok (.string (bs (txt T j ++ 91 :: Lib.decDigits c))) W := fun W => add_bs _ _ _ (by simp) (by simp; omega) W
          have a3 : ∀ W : World, (Op.stringOp .add (bs (txt T j ++ 91 :: Lib.decDigits c)) ⟨#[93]⟩).run Tryd.prog W = .ok (.string (bs (txt T i))) W := fun W => add_bs _ [93] _ (by rw [HP.out]; simp) (by simp; omega) W
          have b4 : ((e.self.kind : Int) == 4) = false := by simp; omega
          have b5 : ((e.self.kind : Int) == 5) = true := by simp [h5]
          have hcc := hct.2
          rw [hj] at HW
          have hT2 : Hid (∀ dd os, Calls Tryd.prog 31 #[.agg #[.slice (some ⟨g, 0, none⟩) T.length lc, .slice da dn dc], .int .i64 j] (grow (redrawn (w1.alloc (.cells #[.int .i64 e.self.kind, .int .i64 j, .int .i64 c, .string (bs e.self.name)] 41)) dd) os) fun x w' => x = .returned (.string (bs (txt T j))) ∧ Below (grow (redrawn (w1.alloc (.cells #[.int .i64 e.self.kind, .int .i64 j, .int .i64 c, .string (bs e.self.name)] 41)) dd) os).heap.size (grow (redrawn (w1.alloc (.cells #[.int .i64 e.self.kind, .int .i64 j, .int .i64 c, .string (bs e.self.name)] 41)) dd) os) w') :=
            Lib.hid (fun dd os => IH.out j hji (by omega) _ ((H.out.below HW.out).below (below_regrown _ dd os)))
          have hDg : Hid (∀ W : World, Calls Tryd.prog 40 #[.int .i64 c] W fun x w' => x = .returned (.string (bs (Lib.decDigits c))) ∧ Below W.heap.size W w') := Lib.hid (fun W => r_digits c (by omega) W)
          clear h5 h4 h6 h3 hkd hdn hlen hcn hct hj HPA
          go_wp2
          generalize hWd : w1.alloc (.cells #[.int .i64 e.self.kind, .int .i64 j, .int .i64 c, .string (bs e.self.name)] 41) = W at *
          have f1 : W.cell? ⟨w1.heap.size, 1, none⟩ = some (.int .i64 j) := by rw [← hWd, cell_of_row _ _ 1 _ _ _ (heap_alloc_new w1 _)]; rfl
          have f2 : W.cell? ⟨w1.heap.size, 2, none⟩ = some (.int .i64 c) := by rw [← hWd, cell_of_row _ _ 2 _ _ _ (heap_alloc_new w1 _)]; rfl
          have g0 : W.cell? ⟨w.heap.size, 0, none⟩ = some (.slice (some ⟨g, 0, none⟩) T.length lc) := by rw [← hWd]; exact (((Below.refl w1.heap.size w1).alloc (Nat.le_refl _) _).cell (p := ⟨w.heap.size, 0, none⟩) dz).trans d0
          have g1 : W.cell? ⟨w.heap.size, 1, none⟩ = some (.slice da dn dc) := by rw [← hWd]; exact (((Below.refl w1.heap.size w1).alloc (Nat.le_refl _) _).cell (p := ⟨w.heap.size, 1, none⟩) dz).trans d1
          clear hWd
          have f1' : ∀ dd os, (grow (redrawn W dd) os).cell? ⟨w1.heap.size, 1, none⟩ = some (.int .i64 j) := fun dd os => cell_regrown f1 dd os
          have f2' : ∀ dd os, (grow (redrawn W dd) os).cell? ⟨w1.heap.size, 2, none⟩ = some (.int .i64 c) := fun dd os => cell_regrown f2 dd os
          have g0' : ∀ dd os, (grow (redrawn W dd) os).cell? ⟨w.heap.size, 0, none⟩ = some (.slice (some ⟨g, 0, none⟩) T.length lc) := fun dd os => cell_regrown g0 dd os
          have g1' : ∀ dd os, (grow (redrawn W dd) os).cell? ⟨w.heap.size, 1, none⟩ = some (.slice da dn dc) := fun dd os => cell_regrown g1 dd os
          clear f1 f2 g0 g1 d0 d1 e0 e1 e2 e3
          refine wp_region_quiet_below (by kernel_rfl) (by kernel_rfl) ?_
          repeat (any_goals (first | go_big_quiet_step (first | (go_at_call 31; exact Calls.regrown_of (hT2.out _ _)) | (go_at_call 40; exact Calls.regrown_of (hDg.out _))) | quiet_step (first | (go_at_call 31; exact Calls.regrown_of (hT2.out _ _)) | (go_at_call 40; exact Calls.regrown_of (hDg.out _)))))
          refine wpQuiet_nil ?_
          intro _ hw'
          obtain ⟨⟨dq, osq⟩, hw''⟩ := hw'
          subst hw''
          go_wp2
          go_ret
          exact ⟨rfl, HW.out.trans ((below_regrown W dq osq).mono HW.out.size)⟩
end Go.Proofs.YtemnlkgjgalipaaDoor
