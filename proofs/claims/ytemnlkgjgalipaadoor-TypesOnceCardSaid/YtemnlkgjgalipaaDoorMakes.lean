/-
  Contracts of Pointer, Array and Struct.
-/
import Derived.Test.YtemnlkgjgalipaaDoorNumber
namespace Go.Proofs.YtemnlkgjgalipaaDoor
open Go.RowKit Go.Maps Tp Go.ChangeMaps
set_option linter.unusedVariables false

def Err2 (k : Int) (w : World) (e : Ending) (w' : World) : Prop := e = .returned (.tuple #[.int .i64 0, .int .i64 k]) ∧ Below w.heap.size w w'
theorem Err2.num {k : Int} {w w' : World} {e : Ending} {t B : Nat} {v : Value} {T : Tab} (h : Err2 k w e w') (hT : TabIn w t B v T) {r : Int × Int × Tab} (hr : r = (0, k, T)) : NumPost t B v r w e w' := by
  subst hr
  exact ⟨v, h.1, hT.below h.2, Turn.of_below h.2⟩
theorem pointer_bad {w : World} {p : Value} {n : Int} (h : EntAt w p n zeroE none false) : Calls Tryd.prog 22 #[p, .int .i64 n] w (Err2 1 w) := by
  have H := Lib.hid h; clear h
  go_enter Tryd.func22, Tryd.ntmps22
  go_wp2_with ((with_reducible refine (at_of H.out).mono ?_); rintro x w1 ⟨rfl, hb⟩; unfold tyV; have HB := Lib.hid hb; clear hb)
  go_ret2
  exact ⟨rfl, HB.out.alloc HB.out.size _⟩
theorem pointer_any {w : World} {t B : Nat} {v : Value} {T : Tab} (h : TabIn w t B v T) (hT : T.length ≤ 256) (n : Int) : Calls Tryd.prog 22 #[.pointer (some ⟨t, 0, none⟩), .int .i64 n] w (NumPost t B v (pointer T n) w) := by
  cases hn : ent T n with
  | none => exact (pointer_bad (entAt_out h n hn)).mono fun e w' hx => hx.num h (by unfold pointer; rw [hn])
  | some e =>
    have hp : pointer T n = num T ⟨4, n, 0, []⟩ 1 := by unfold pointer; rw [hn]
    rw [hp]
    obtain ⟨m, hE, _⟩ := entAt_any h n
    rw [hn] at hE
    have H := Lib.hid hE; clear hE hp hn
    have HT := Lib.hid h; clear h
    go_enter Tryd.func22, Tryd.ntmps22
    go_wp2_with (first | ((with_reducible refine (at_of H.out).mono ?_); rintro x w1 ⟨rfl, hb⟩; unfold tyV; have HB := Lib.hid hb; have HB2 : Hid (Below w.heap.size w (w1.alloc (.cells #[.int .i64 e.self.kind, .int .i64 e.self.elem, .int .i64 e.self.n, .string (bs e.self.name)] 41))) := Lib.hid (hb.alloc hb.size _); clear hb) | ((with_reducible refine (number_any (HT.out.below HB2.out) ⟨4, n, 0, []⟩ 1 hT).mono ?_); rintro x w2 ⟨v2, rfl, h2, t2⟩; have H2 := Lib.hid h2; have T2 := Lib.hid t2; clear h2 t2))
    go_ret2
    exact ⟨_, rfl, H2.out, (Turn.of_below HB2.out).trans T2.out⟩
theorem struct_nil (s : ByteArray) (w : World) : Calls Tryd.prog 19 #[.pointer none, .string s] w (Err2 1 w) := by
  go_enter Tryd.func19, Tryd.ntmps19
  go_wp2
  go_ret2
  exact ⟨rfl, Below.refl _ _⟩
theorem struct_any {w : World} {t B : Nat} {v : Value} {T : Tab} (h : TabIn w t B v T) (hT : T.length ≤ 256) (l : List UInt8) : Calls Tryd.prog 19 #[.pointer (some ⟨t, 0, none⟩), .string (bs l)] w (NumPost t B v (strct T l) w) := by
  cases l with
  | nil =>
    have HT := Lib.hid h; clear h
    go_enter Tryd.func19, Tryd.ntmps19
    go_wp2
    go_ret2
    exact ⟨v, rfl, HT.out, Turn.of_below (Below.refl _ _)⟩
  | cons c r =>
    have hp : strct T (c :: r) = num T ⟨6, 0, 0, c :: r⟩ 0 := by unfold strct; rw [if_neg (by simp)]
    rw [hp]
    clear hp
    have HT := Lib.hid h; clear h
    generalize hl : c :: r = l
    have he : l.isEmpty = false := by rw [← hl]; rfl
    have he2 : (l == []) = false := by rw [← hl]; rfl
    have hne : ¬ l = [] := by rw [← hl]; simp
    clear hl
    go_enter Tryd.func19, Tryd.ntmps19
    go_wp2_with ((with_reducible refine (number_any HT.out ⟨6, 0, 0, l⟩ 0 hT).mono ?_); rintro x w2 ⟨v2, rfl, h2, t2⟩; have H2 := Lib.hid h2; have T2 := Lib.hid t2; clear h2 t2)
    go_ret2
    exact ⟨_, rfl, H2.out, T2.out⟩
end Go.Proofs.YtemnlkgjgalipaaDoor
