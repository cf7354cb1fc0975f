/-
  Contracts of the reference's is and Fields.
-/
import Derived.Test.YtemnlkgjgalipaaDoorRefMem
namespace Go.Proofs.YtemnlkgjgalipaaDoor
open Go.RowKit Go.Maps Tp
set_option linter.unusedVariables false

theorem r_is {w : World} {F : Nat → Prop} {T : Tab} {Y : List ((List UInt8 × List Fl) × Value)} {la da : Option Addr} {lc dc : Nat} (hT : T.length ≤ 256) (n : Int) :
    Calls Tryd.prog 37 #[.agg #[.slice la T.length lc, .slice da Y.length dc], .int .i64 n] w fun e w' => e = .returned (.bool (ent T n).isSome) ∧ Below w.heap.size w w' := by
  by_cases h0 : n < 0
  · have h1 : decide ((0 : Int) ≤ n) = false := by simp; omega
    have he : (ent T n).isSome = false := by unfold ent; rw [if_pos h0]; rfl
    rw [he]
    clear h0 he
    go_enter Tryd.func37, Tryd.ntmps37
    go_wp2
    go_ret
    exact ⟨rfl, (Below.refl _ _).alloc (Nat.le_refl _) _⟩
  · have h1 : decide ((0 : Int) ≤ n) = true := by simp; omega
    have he : (ent T n).isSome = decide (n < (T.length : Int)) := by
      unfold ent
      rw [if_neg h0, Bool.eq_iff_iff]
      simp
      omega
    rw [he]
    clear h0 he
    go_enter Tryd.func37, Tryd.ntmps37
    go_wp2
    go_ret
    exact ⟨rfl, (Below.refl _ _).alloc (Nat.le_refl _) _⟩
def yfind (Y : List ((List UInt8 × List Fl) × Value)) (nm : List UInt8) : Option ((List UInt8 × List Fl) × Value) := Y.find? (fun y => y.1.1 = nm)
def yval (o : Option ((List UInt8 × List Fl) × Value)) : Value := match o with | some y => .tuple #[y.2, .bool true] | none => .tuple #[.slice none 0 0, .bool false]
theorem yfind_next {Y : List ((List UInt8 × List Fl) × Value)} {nm : List UInt8} {k : Nat} {y : (List UInt8 × List Fl) × Value} (h : yfind (Y.take k) nm = none) (hy : Y[k]? = some y) (hne : y.1.1 ≠ nm) : yfind (Y.take (k + 1)) nm = none := by
  unfold yfind at *
  rw [List.take_add_one, hy, List.find?_append, h]
  simp [hne]
theorem yfind_here {Y : List ((List UInt8 × List Fl) × Value)} {nm : List UInt8} {k : Nat} {y : (List UInt8 × List Fl) × Value} (h : yfind (Y.take k) nm = none) (hy : Y[k]? = some y) (he : y.1.1 = nm) : yfind Y nm = some y := by
  have hk : k < Y.length := (List.getElem?_eq_some_iff.1 hy).1
  unfold yfind at *
  have e : Y = Y.take k ++ (y :: Y.drop (k + 1)) := by
    conv => lhs; rw [← List.take_append_drop k Y]
    rw [List.drop_eq_getElem_cons hk]
    rw [List.getElem?_eq_getElem hk] at hy
    injection hy with hy
    rw [hy]
  rw [e, List.find?_append, h]
  simp [he]
set_option maxHeartbeats 1000000 in
theorem r_fields {w : World} {F : Nat → Prop} {T : Tab} {Y : List ((List UInt8 × List Fl) × Value)} {la da : Option Addr} {lc dc : Nat} (h : RefX w F T Y la lc da dc) (hY : Y.length ≤ 1000) (nm : List UInt8) :
    Calls Tryd.prog 39 #[.agg #[.slice la T.length lc, .slice da Y.length dc], .string (bs nm)] w fun e w' => e = .returned (yval (yfind Y nm)) ∧ Below w.heap.size w w' := by
  have H := Lib.hid h; clear h
  go_enter Tryd.func39, Tryd.ntmps39
  go_wp2
  go_loop [6] (fun i => ∃ k : Nat, k ≤ Y.length ∧ i = .int .i64 k ∧ Hid (yfind (Y.take k) nm = none)) (fun i => Y.length - (intOf i).toNat)
  case atStart => exact ⟨0, Nat.zero_le _, rfl, Lib.hid rfl⟩
  case round =>
    obtain ⟨k, hk, rfl, HF⟩ := hrel
    by_cases hlt : k < Y.length
    · obtain ⟨y, hy⟩ : ∃ y, Y[k]? = some y := ⟨_, List.getElem?_eq_getElem hlt⟩
      obtain ⟨g, cap2, hg, _, hgl⟩ := H.out.rowD.form (by omega)
      simp only [Value.slice.injEq] at hg
      obtain ⟨rfl, _, rfl⟩ := hg
      obtain ⟨c0, c1⟩ := def_at H.out hy
      have HYK := Lib.hid hy
      clear hy
      by_cases he : y.1.1 = nm
      · have HN := Lib.hid (yfind_here HF.out HYK.out he)
        subst he
        go_wp2
        go_ret2
        exact ⟨by rw [HN.out]; rfl, (Below.refl _ _).alloc (Nat.le_refl _) _⟩
      · have HN := Lib.hid (yfind_next HF.out HYK.out he)
        have hb : (y.1.1 == nm) = false := by simpa using he
        go_wp2
        go_round
        case rel => exact ⟨k + 1, by omega, by go_num, HN⟩
        case measure => simp [intOf]; omega
    · have hn : yfind Y nm = none := by have := HF.out; rwa [List.take_of_length_le (by omega)] at this
      have HN := Lib.hid hn; clear hn
      go_wp2
      go_ret2
      exact ⟨by rw [HN.out]; rfl, (Below.refl _ _).alloc (Nat.le_refl _) _⟩
end Go.Proofs.YtemnlkgjgalipaaDoor
