/-
  The walk of TypesNobody.
-/
import Derived.Test.YtemnlkgjgalipaaDoorAwake
namespace Go.Proofs.YtemnlkgjgalipaaDoor.typesNobody
open Go.RowKit Go.Maps Tp
set_option linter.unusedVariables false

set_option maxHeartbeats 4000000 in
set_option maxRecDepth 100000 in
theorem walk (a0 : Int) (_w0 : (Lit.int .i64 a0).wf = true) (a1 : ByteArray) (_w1 : a1.size ≤ maxLen) (w : World) (henv : Env w) :
    Calls Tryd.prog 6 #[.int .i64 a0, .string a1] w fun e w' => e = .returned (.bool true) ∧ Below w.heap.size w w' := by
  have HM := Lib.hid _w1
  unfold maxLen at _w1
  clear _w0
  have HE := Lib.hid henv; clear henv
  by_cases hl : 100 < a1.size
  · go_enter Tryd.func6, Tryd.ntmps6
    go_wp2_with ((with_reducible refine (awake_any _ HE.out).mono ?_); rintro e w1 ⟨rfl, hb⟩)
    go_ret
    exact ⟨rfl, hb⟩
  · have hl2 : a1.size ≤ 100 := by omega
    clear hl
    go_enter Tryd.func6, Tryd.ntmps6
    go_wp2_with fail
    refine (at_of (entAt_nil _ a0)).mono ?_
    rintro x w1 ⟨rfl, b1⟩
    unfold tyV
    have B1 : Hid (Below w.heap.size w (w1.alloc (.cells #[.int .i64 0, .int .i64 0, .int .i64 0, .string ⟨#[]⟩] 41))) := Lib.hid (b1.alloc b1.size _)
    have z1 : w.heap.size < w1.heap.size + 1 := by have := b1.size; omega
    clear b1
    go_wp2_with fail
    refine (size_of (entAt_nil _ a0)).mono ?_
    rintro x w2 ⟨rfl, b2⟩
    have C2 := Lib.hid b2
    clear b2
    go_wp2_with fail
    refine (field_of (entAt_nil _ a0) rfl a1 HM.out).mono ?_
    rintro x w3 ⟨rfl, b3⟩
    have C3 := Lib.hid (C2.out.trans (b3.mono C2.out.size))
    clear b3
    go_wp2_with fail
    refine (pointer_bad (entAt_nil _ a0)).mono ?_
    rintro x w4 ⟨rfl, b4⟩
    have C4 := Lib.hid (C3.out.trans (b4.mono C3.out.size))
    clear b4
    go_wp2_with fail
    refine (array_bad (entAt_nil _ a0)).mono ?_
    rintro x w5 ⟨rfl, b5⟩
    have C5 := Lib.hid (C4.out.trans (b5.mono C4.out.size))
    clear b5
    go_wp2_with fail
    refine (struct_nil a1 _).mono ?_
    rintro x w6 ⟨rfl, b6⟩
    have C6 := Lib.hid (C5.out.trans (b6.mono C5.out.size))
    clear b6
    obtain ⟨d, _, dz⟩ := kept_new C6.out
    have d0 := d 0
    have d1 := d 1
    have d2 := d 2
    have d3 := d 3
    clear d
    go_wp2_with fail
    refine (define_nil a1 _).mono ?_
    rintro x w7 ⟨rfl, b7⟩
    have C7 := Lib.hid (C6.out.trans (b7.mono C6.out.size))
    clear b7 d0 d1 d2 d3
    go_wp2_with fail
    refine (len_nil_any _).mono ?_
    rintro x w8 ⟨rfl, rfl⟩
    go_wp2_with fail
    refine (scalar_of (entAt_nil _ a0)).mono ?_
    rintro x w9 ⟨rfl, b9⟩
    have C9 := Lib.hid (C7.out.trans (b9.mono C7.out.size))
    clear b9
    go_wp2_with fail
    refine (text_none (entAt_nil _ a0)).mono ?_
    rintro x w10 ⟨rfl, b10⟩
    have C10 := Lib.hid (C9.out.trans (b10.mono C9.out.size))
    clear b10
    have BB : Hid (Below w.heap.size w w10) := Lib.hid (B1.out.trans (C10.out.mono B1.out.size))
    go_wp2_with fail
    refine (awake_any _ (HE.out.below BB.out HE.out.sz)).mono ?_
    rintro x w11 ⟨rfl, b11⟩
    go_wp2
    go_ret
    exact ⟨rfl, BB.out.trans (b11.mono BB.out.size)⟩
end Go.Proofs.YtemnlkgjgalipaaDoor.typesNobody
