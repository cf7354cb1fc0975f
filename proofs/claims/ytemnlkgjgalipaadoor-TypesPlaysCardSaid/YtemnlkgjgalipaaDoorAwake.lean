/-
  The contract of the laws' own 'awake'.
-/
import Derived.Test.YtemnlkgjgalipaaDoorText
namespace Go.Proofs.YtemnlkgjgalipaaDoor
open Go.RowKit Go.Maps Tp Go.ChangeMaps
set_option linter.unusedVariables false

theorem flCells_length : ∀ l : List Fl, (flCells l).length = l.length * 2
  | [] => rfl
  | f :: l => by
    have ih := flCells_length l
    simp only [flCells, List.flatMap_cons] at ih ⊢
    rw [List.length_append, ih]
    simp; omega
/-- Fields that have just been laid into a block. -/
theorem fldsIn_built {w : World} {cs : Array Value} {l : List Fl} (hc : cs.toList = flCells l) (hl : l.length ≤ 4096) : FldsIn (w.alloc (.cells cs 50)) (.slice (some ⟨w.heap.size, 0, none⟩) l.length l.length) l := by
  have hlen : (flCells l).length = l.length * 2 := flCells_length l
  refine ⟨hlen, .inr ⟨w.heap.size, l.length, cs, rfl, Nat.zero_le _, heap_alloc_new w _, Nat.le_refl _, by unfold maxLen; omega, ?_, ?_⟩⟩
  · rw [← Array.length_toList, hc, hlen]
  · rw [hc, ← hlen, List.take_length]
def awT1 : Tab := newT ++ [⟨⟨5, 1, 3, []⟩, 3, none⟩]
def awL : List Fl := [([97], 1), ([98], 4)]
def awT2 : Tab := awT1 ++ [⟨⟨6, 0, 0, [115]⟩, 4, some [([97], 0, 1), ([98], 1, 4)]⟩]
theorem aw1 : array newT 1 3 = (4, 0, awT1) := by rfl
theorem aw2 : define awT1 [115] awL = (0, awT2) := by kernel_rfl
theorem aw3 : strct awT2 [115] = (5, 0, awT2) := by rfl
theorem aw4 : Tp.sizeOf awT2 5 = 4 := by rfl
theorem aw5 : pickO ((ent awT2 5).getD zeroE).flds [98] = (1, 4, true) := by rfl
theorem aw6 : text awT2 4 = [105, 110, 116, 91, 51, 93] := by
  have h : text awT2 4 = [105, 110, 116] ++ ([91] ++ Lib.decDigits 3 ++ [93]) := by rfl
  rw [h, Lib.decDigits_one (by omega)]
  rfl
theorem good_aw1 : Tp.Good awT1 := by
  have := @good_array newT 1 3 good_new
  rwa [aw1] at this
theorem good_aw2 : Tp.Good awT2 := by
  have := @good_define awT1 [115] awL good_aw1 (by decide)
  rwa [aw2] at this
set_option maxHeartbeats 2000000 in
set_option maxRecDepth 100000 in
theorem awake_any (w : World) (henv : Env w) : Calls Tryd.prog 10 #[] w fun e w' => e = .returned (.bool true) ∧ Below w.heap.size w w' := by
  have HE := Lib.hid henv; clear henv
  go_enter Tryd.func10, Tryd.ntmps10
  go_wp2_with fail
  refine (new_any w).mono ?_
  rintro x w1 ⟨v1, rfl, h1, b1⟩
  have H1 := Lib.hid h1
  have B1 := Lib.hid b1
  clear h1 b1
  go_wp2_with fail
  refine (array_any H1.out good_new 1 3).mono ?_
  rw [aw1]
  rintro x w2 ⟨v2, rfl, h2, t2⟩
  have H2 := Lib.hid h2
  have B2 := Lib.hid (B1.out.trans (H1.out.turn t2))
  clear h2 t2
  go_wp2_with fail
  have b3 : Below w2.heap.size w2 (w2.alloc (.cells #[.string ⟨#[97]⟩, .int .i64 1, .string ⟨#[98]⟩, .int .i64 4] 50)) := (Below.refl _ _).alloc (Nat.le_refl _) _
  refine (define_any (H2.out.below b3) good_aw1 [115] (by decide) awL _ (fldsIn_built rfl (by decide)) (by decide) (by decide) (fun g hg => ?_)).mono ?_
  · injection hg with hg
    subst hg
    exact ⟨Nat.ne_of_gt H2.out.lt.2, fun e => Nat.lt_irrefl _ (H2.out.own.1 _ e).2⟩
  rw [aw2]
  rintro x w3 ⟨v3, rfl, h3, t3⟩
  have H3 := Lib.hid h3
  have B3 := Lib.hid ((B2.out.trans (b3.mono B2.out.size)).trans ((H2.out.below b3).turn t3))
  clear h3 t3 b3
  go_wp2_with fail
  refine (struct_any H3.out (by decide) [115]).mono ?_
  rw [aw3]
  rintro x w4 ⟨v4, rfl, h4, t4⟩
  have H4 := Lib.hid h4
  have B4 := Lib.hid (B3.out.trans (H3.out.turn t4))
  clear h4 t4
  go_wp2_with fail
  refine (size_any H4.out 5).mono ?_
  rw [aw4]
  rintro x w5 ⟨rfl, b5⟩
  have H5 := Lib.hid (H4.out.below b5)
  have B5 := Lib.hid (B4.out.trans (b5.mono B4.out.size))
  clear b5
  go_wp2_with fail
  obtain ⟨m, hE, hF⟩ := entAt_any H5.out 5
  refine (field_of hE hF (bs [98]) (by decide)).mono ?_
  rw [aw5]
  rintro x w6 ⟨rfl, b6⟩
  have H6 := Lib.hid (H5.out.below b6)
  have B6 := Lib.hid (B5.out.trans (b6.mono B5.out.size))
  clear b6 hE hF
  go_wp2_with fail
  refine (text_any H6.out good_aw2 (HE.out.below B6.out HE.out.sz) 4).mono ?_
  rw [aw6]
  rintro x w7 ⟨rfl, b7⟩
  have B7 := Lib.hid (B6.out.trans (b7.mono B6.out.size))
  clear b7
  go_wp2
  go_ret
  exact ⟨rfl, B7.out⟩
end Go.Proofs.YtemnlkgjgalipaaDoor
