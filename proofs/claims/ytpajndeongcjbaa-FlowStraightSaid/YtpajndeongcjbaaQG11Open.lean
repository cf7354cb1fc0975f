/-
  The laws' arguments opened: a row of rows of four bytes.
-/
import Derived.Test.YtpajndeongcjbaaQLN
namespace Go.Proofs.Ytpajndeongcjbaa
set_option maxRecDepth 100000
open Go.RowKit Go.ChangeShapes Go.WideShapes Go.Deep Cd
set_option linter.unusedVariables false
set_option linter.unusedSimpArgs false
structure Cd.Qd where
  k : Int
  d : Int
  a : Int
  b : Int
def qdCells (q : Qd) : List Value := [.int .u8 q.k, .int .u8 q.d, .int .u8 q.a, .int .u8 q.b]
def Cd.Qd.Ok (q : Qd) : Prop := (0 ≤ q.k ∧ q.k ≤ 255) ∧ (0 ≤ q.d ∧ q.d ≤ 255) ∧ (0 ≤ q.a ∧ q.a ≤ 255) ∧ 0 ≤ q.b ∧ q.b ≤ 255
theorem qdCells_len (q : Qd) : (qdCells q).length = 4 := rfl
section
variable {H : Type} {enc : TypeId × Value → H} {w : World} {base : Nat} {spare : Nat → Bool} {held : Bool}
theorem one_byte {fuel : Nat} {c : Value} {o : Option (DataW H × List MemPlace)} (h : DataW.trod enc Try.prog w base spare held fuel 5 [c] = o) (ho : ∃ y, o = some y) : ∃ z, c = .int .u8 z ∧ 0 ≤ z ∧ z ≤ 255 := by
  obtain ⟨y, rfl⟩ := ho
  obtain ⟨z, hz, _, hw⟩ := DataW.trod_int Try.underlying5 h
  injection hz with hz _
  exact ⟨z, hz, by simpa [Lit.wf, IntKind.min, IntKind.max, IntKind.signed, IntKind.bits] using hw⟩
theorem open_quad {fuel : Nat} {cs : List Value} {x : DataW H × List MemPlace} (h : DataW.trod enc Try.prog w base spare held fuel 60 cs = some x) : ∃ q : Qd, cs = qdCells q ∧ Qd.Ok q := by
  obtain ⟨zs, m, _, _, hl, hzl, hz⟩ := DataW.trod_array Try.underlying60 h
  have hC : Try.prog.cellsOf 60 = 4 := by kernel_rfl
  have hc3 : Try.prog.cellsOf 5 = 1 := by kernel_rfl
  rw [hC] at hl
  have hzy : ∀ j, j < 4 → ∃ y, zs[j]? = some y := fun j hj => ⟨_, List.getElem?_eq_getElem (by rw [hzl]; exact hj)⟩
  match cs, hl with
  | [c0, c1, c2, c3], _ =>
    have g0 := hz 0 (by omega)
    simp [hc3] at g0
    have g1 := hz 1 (by omega)
    simp [hc3] at g1
    have g2 := hz 2 (by omega)
    simp [hc3] at g2
    have g3 := hz 3 (by omega)
    simp [hc3] at g3
    obtain ⟨z0, rfl, b0⟩ := one_byte g0 (hzy 0 (by omega))
    obtain ⟨z1, rfl, b1⟩ := one_byte g1 (hzy 1 (by omega))
    obtain ⟨z2, rfl, b2⟩ := one_byte g2 (hzy 2 (by omega))
    obtain ⟨z3, rfl, b3⟩ := one_byte g3 (hzy 3 (by omega))
    exact ⟨⟨z0, z1, z2, z3⟩, rfl, b0, b1, b2, b3⟩
theorem open_quads {fuel : Nat} {v : Value} {x : DataW H × List MemPlace} (h : DataW.trod enc Try.prog w base spare held fuel 57 [v] = some x) :
    ∃ (a : Option Addr) (l : List Qd) (c : Nat), v = .slice a l.length c ∧ RowAt w w.heap.size a (l.flatMap qdCells) ∧ l.length ≤ maxLen ∧ ∀ q ∈ l, Qd.Ok q :=
  open_row qdCells_len (by omega) Qd.Ok Try.underlying57 (by kernel_rfl) (fun n cs y hy => open_quad hy) h
end
end Go.Proofs.Ytpajndeongcjbaa
