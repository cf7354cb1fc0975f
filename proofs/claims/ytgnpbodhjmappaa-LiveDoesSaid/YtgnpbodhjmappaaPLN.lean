/-
  The laws' arguments opened: a function's code, a function.
-/
import Derived.Test.YtgnpbodhjmappaaPNJ
import Derived.OpenShut
import Derived.Deep.Slices
import Derived.Deep.Fields
import Derived.ChangeSame
import Derived.ChangeSlices
set_option linter.unusedVariables false
set_option linter.unusedSimpArgs false
namespace Go.Proofs.Ytgnpbodhjmappaa
set_option maxRecDepth 100000
open Go.RowKit Go.ChangeShapes Go.WideShapes Go.Deep Cd
theorem list_of {α : Type} {Q : Nat → α → Prop} : ∀ (n : Nat), (∀ i, i < n → ∃ x, Q i x) → ∃ l : List α, l.length = n ∧ ∀ (i : Nat) (x : α), l[i]? = some x → Q i x
  | 0, _ => ⟨[], rfl, fun i x h => by simp at h⟩
  | n + 1, h => by
    obtain ⟨l, hl, hq⟩ := list_of n (fun i hi => h i (by omega))
    obtain ⟨x, hx⟩ := h n (by omega)
    refine ⟨l ++ [x], by simp [hl], fun i y hy => ?_⟩
    by_cases hi : i < l.length
    · rw [List.getElem?_append_left hi] at hy; exact hq i y hy
    · rw [List.getElem?_append_right (by omega)] at hy
      have h0 : i - l.length = 0 := by
        have := (List.getElem?_eq_some_iff.1 hy).1
        simp at this; omega
      rw [h0] at hy
      have : x = y := by simpa using hy
      rw [← this, show i = n by omega]; exact hx
theorem sb_of (s : ByteArray) : sb s.data.toList = s := by cases s; simp
theorem at_off {w : World} {b off : Nat} {i : Nat} {u : Value} {sp : Option Nat} (h : w.cell? ((⟨b, off, sp⟩ : Addr).add i) = some u) : w.cell? ⟨b, off + i, none⟩ = some u := by
  by_cases hi : i = 0
  · subst hi
    have hspot : sp = none := by simpa [Addr.add] using World.cell?_spot h
    subst hspot
    simpa [Addr.add] using h
  · simpa [Addr.add, hi] using h
theorem at_zero {w : World} {b off : Nat} {u : Value} {sp : Option Nat} (h : w.cell? ((⟨b, off, sp⟩ : Addr).add 0) = some u) : sp = none ∧ b < w.heap.size := by
  have hspot : sp = none := by simpa [Addr.add] using World.cell?_spot h
  subst hspot
  exact ⟨rfl, World.block_lt_of_cell? w _ (at_off h)⟩
section
variable {H : Type} {enc : TypeId × Value → H} {w : World} {base : Nat} {spare : Nat → Bool} {held : Bool}
theorem open_rowC {α : Type} {f : α → List Value} {k : Nat} (hk : ∀ x, (f x).length = k) (hk0 : 0 < k) {t e : TypeId} {fuel : Nat} {v : Value} {x : DataW H × List MemPlace} (R : α → Prop) (ht : Try.prog.underlying t = some (.slice e)) (hC : Try.prog.cellsOf e = k)
    (hop : ∀ (n : Nat) (cs : List Value) (y : DataW H × List MemPlace), DataW.trod enc Try.prog w base spare held n e cs = some y → ∃ a : α, cs = f a ∧ R a) (h : DataW.trod enc Try.prog w base spare held fuel t [v] = some x) :
    ∃ (a : Option Addr) (l : List α) (c : Nat), v = .slice a l.length c ∧ RowAt w w.heap.size a (l.flatMap f) ∧ l.length ≤ maxLen ∧ (∀ y ∈ l, R y) ∧ l.length ≤ c ∧ c ≤ maxLen ∧ (a = none → c = 0) := by
  rcases open_slice ht h with ⟨h0, _⟩ | ⟨a, len, cap, m, n, Dd, Pl, hcs, hb, hl, hm, hmm, hx, hi⟩
  · injection h0 with h0 _
    exact ⟨none, [], 0, h0, RowAt.nil _ _ _, by simp, fun y hy => (by cases hy), by simp, by unfold maxLen; omega, fun _ => rfl⟩
  · injection hcs with hcs _
    have hle : len ≤ m := by rw [hmm]; split <;> omega
    have hall : ∀ i, i < len → ∃ y : α, R y ∧ ∀ j u, (f y)[j]? = some u → w.cell? (a.add (i * k + j)) = some u := fun i hil => by
      obtain ⟨cs', hc, htr⟩ := hi i (by omega)
      rw [hC] at hc
      obtain ⟨y, rfl, hR⟩ := hop _ _ _ htr
      obtain ⟨_, hcl, hat⟩ := World.cells?_some hc
      refine ⟨y, hR, fun j u hu => ?_⟩
      have hj : j < k := by rw [← hk y]; exact (List.getElem?_eq_some_iff.1 hu).1
      rw [← Go.Deep.add_add, hat j hj, hu]
    obtain ⟨l, hll, hq⟩ := list_of len hall
    subst hll
    refine ⟨some a, l, cap, hcs, fun hpos => ?_, by omega, fun y hy => ?_, by omega, by omega, fun e => (by cases e)⟩
    · obtain ⟨b, off, sp⟩ := a
      have hlp : 0 < l.length := by
        rw [flat_len hk] at hpos
        exact Nat.pos_of_mul_pos_right hpos |> fun _ => by
          rcases Nat.eq_zero_or_pos l.length with h0 | h0
          · rw [h0, Nat.zero_mul] at hpos; omega
          · exact h0
      obtain ⟨y0, hy0⟩ : ∃ y, l[0]? = some y := ⟨_, List.getElem?_eq_getElem hlp⟩
      obtain ⟨u0, hu0⟩ : ∃ u, (f y0)[0]? = some u := ⟨_, List.getElem?_eq_getElem (by rw [hk]; exact hk0)⟩
      obtain ⟨hsp, hbl⟩ := at_zero (by have := (hq 0 y0 hy0).2 0 u0 hu0; simpa using this)
      subst hsp
      refine ⟨b, off, rfl, hbl, Nat.le_refl _, fun j u hu => ?_⟩
      have hj : j < l.length * k := by rw [← flat_len hk]; exact (List.getElem?_eq_some_iff.1 hu).1
      have hjk : j / k < l.length := Nat.div_lt_of_lt_mul (by rw [Nat.mul_comm]; exact hj)
      obtain ⟨y, hy⟩ : ∃ y, l[j / k]? = some y := ⟨_, List.getElem?_eq_getElem hjk⟩
      have hd : j / k * k + j % k = j := by have := Nat.div_add_mod j k; rw [Nat.mul_comm] at this; exact this
      have hc := flat_at hk l (j / k) (j % k) y hy (Nat.mod_lt _ hk0)
      rw [hd, hu] at hc
      have := at_off ((hq (j / k) y hy).2 (j % k) u hc.symm)
      rw [hd] at this
      exact this
    · obtain ⟨i, hi⟩ := List.mem_iff_getElem?.1 hy
      exact (hq i y hi).1
theorem open_row {α : Type} {f : α → List Value} {k : Nat} (hk : ∀ x, (f x).length = k) (hk0 : 0 < k) {t e : TypeId} {fuel : Nat} {v : Value} {x : DataW H × List MemPlace} (R : α → Prop) (ht : Try.prog.underlying t = some (.slice e)) (hC : Try.prog.cellsOf e = k)
    (hop : ∀ (n : Nat) (cs : List Value) (y : DataW H × List MemPlace), DataW.trod enc Try.prog w base spare held n e cs = some y → ∃ a : α, cs = f a ∧ R a) (h : DataW.trod enc Try.prog w base spare held fuel t [v] = some x) :
    ∃ (a : Option Addr) (l : List α) (c : Nat), v = .slice a l.length c ∧ RowAt w w.heap.size a (l.flatMap f) ∧ l.length ≤ maxLen ∧ ∀ y ∈ l, R y := by
  obtain ⟨a, l, c, h1, h2, h3, h4, _⟩ := open_rowC hk hk0 R ht hC hop h
  exact ⟨a, l, c, h1, h2, h3, h4⟩
theorem one_int {fuel : Nat} {t : TypeId} (ht : Try.prog.underlying t = some (.int .i64)) {c : Value} {o : Option (DataW H × List MemPlace)} (h : DataW.trod enc Try.prog w base spare held fuel t [c] = o) (ho : ∃ y, o = some y) : ∃ z, c = .int .i64 z := by
  obtain ⟨y, rfl⟩ := ho
  obtain ⟨z, hz, _, _⟩ := DataW.trod_int ht h
  injection hz with hz _
  exact ⟨z, hz⟩
set_option maxHeartbeats 1000000 in
theorem open_instr {fuel : Nat} {cs : List Value} {x : DataW H × List MemPlace} (h : DataW.trod enc Try.prog w base spare held fuel 46 cs = some x) : ∃ i : Ins, cs = inCells i := by
  obtain ⟨ys, n, _, _, hl, hyl, hf⟩ := DataW.trod_struct Try.underlying46 h
  have hC : Try.prog.cellsOf 46 = 15 := by kernel_rfl
  have hc3 : Try.prog.cellsOf 3 = 1 := by kernel_rfl
  have hc9 : Try.prog.cellsOf 9 = 1 := by kernel_rfl
  have hco : Try.prog.cellsOf 43 = 1 := by kernel_rfl
  have hca : Try.prog.cellsOf 44 = 6 := by kernel_rfl
  rw [hC] at hl
  have hy : ∀ j, j < 10 → ∃ y, ys[j]? = some y := fun j hj => ⟨_, List.getElem?_eq_getElem (by rw [hyl]; exact hj)⟩
  match cs, hl with
  | [c0, c1, c2, c3, c4, c5, c6, c7, c8, c9, c10, c11, c12, c13, c14], _ =>
    have h0 := hf 0 _ rfl
    simp [hc3] at h0
    have h1 := hf 1 _ rfl
    simp [hco] at h1
    have h2 := hf 2 _ rfl
    simp [hc3] at h2
    have h3 := hf 3 _ rfl
    simp [hc3] at h3
    have h4 := hf 4 _ rfl
    simp [hc3] at h4
    have h5 := hf 5 _ rfl
    simp [hc3] at h5
    have h6 := hf 6 _ rfl
    simp [hc9] at h6
    have h7 := hf 7 _ rfl
    simp [hca] at h7
    have h8 := hf 8 _ rfl
    simp [hc3] at h8
    have h9 := hf 9 _ rfl
    simp [hc3] at h9
    obtain ⟨z0, rfl⟩ := one_int Try.underlying3 h0 (hy 0 (by omega))
    obtain ⟨z1, rfl⟩ := one_int Try.underlying43 h1 (hy 1 (by omega))
    obtain ⟨z2, rfl⟩ := one_int Try.underlying3 h2 (hy 2 (by omega))
    obtain ⟨z3, rfl⟩ := one_int Try.underlying3 h3 (hy 3 (by omega))
    obtain ⟨z4, rfl⟩ := one_int Try.underlying3 h4 (hy 4 (by omega))
    obtain ⟨z5, rfl⟩ := one_int Try.underlying3 h5 (hy 5 (by omega))
    obtain ⟨z13, rfl⟩ := one_int Try.underlying3 h8 (hy 8 (by omega))
    obtain ⟨z14, rfl⟩ := one_int Try.underlying3 h9 (hy 9 (by omega))
    obtain ⟨y6, e6⟩ := hy 6 (by omega)
    rw [e6] at h6
    obtain ⟨s, hs, _, _⟩ := DataW.trod_string Try.underlying9 h6
    injection hs with hs _
    subst hs
    obtain ⟨y7, e7⟩ := hy 7 (by omega)
    rw [e7] at h7
    obtain ⟨zs, m, _, _, _, hzl, hz⟩ := DataW.trod_array Try.underlying44 h7
    have hzy : ∀ j, j < 6 → ∃ y, zs[j]? = some y := fun j hj => ⟨_, List.getElem?_eq_getElem (by rw [hzl]; exact hj)⟩
    have g0 := hz 0 (by omega)
    simp [hc3] at g0
    obtain ⟨z7, rfl⟩ := one_int Try.underlying3 g0 (hzy 0 (by omega))
    have g1 := hz 1 (by omega)
    simp [hc3] at g1
    obtain ⟨z8, rfl⟩ := one_int Try.underlying3 g1 (hzy 1 (by omega))
    have g2 := hz 2 (by omega)
    simp [hc3] at g2
    obtain ⟨z9, rfl⟩ := one_int Try.underlying3 g2 (hzy 2 (by omega))
    have g3 := hz 3 (by omega)
    simp [hc3] at g3
    obtain ⟨z10, rfl⟩ := one_int Try.underlying3 g3 (hzy 3 (by omega))
    have g4 := hz 4 (by omega)
    simp [hc3] at g4
    obtain ⟨z11, rfl⟩ := one_int Try.underlying3 g4 (hzy 4 (by omega))
    have g5 := hz 5 (by omega)
    simp [hc3] at g5
    obtain ⟨z12, rfl⟩ := one_int Try.underlying3 g5 (hzy 5 (by omega))
    exact ⟨⟨z0, z1, z2, z3, z4, z5, s.data.toList, z7, z8, z9, z10, z11, z12, z13, z14⟩, by unfold inCells; rw [sb_of]⟩
theorem open_code {fuel : Nat} {v : Value} {x : DataW H × List MemPlace} (h : DataW.trod enc Try.prog w base spare held fuel 22 [v] = some x) :
    ∃ (a : Option Addr) (l : List Ins) (c : Nat), v = .slice a l.length c ∧ RowAt w w.heap.size a (l.flatMap inCells) ∧ l.length ≤ maxLen := by
  obtain ⟨a, l, c, h1, h2, h3, _⟩ := open_row inCells_len (by omega) (fun _ => True) Try.underlying22 (by kernel_rfl) (fun n cs y hy => by obtain ⟨i, hi⟩ := open_instr hy; exact ⟨i, hi, trivial⟩) h
  exact ⟨a, l, c, h1, h2, h3⟩
theorem open_fn {fuel : Nat} {cs : List Value} {x : DataW H × List MemPlace} (h : DataW.trod enc Try.prog w base spare held fuel 24 cs = some x) : ∃ r : FnR, cs = fnCells r ∧ CodeAt w w.heap.size r ∧ r.f.code.length ≤ maxLen := by
  obtain ⟨ys, n, _, _, hl, hyl, hf⟩ := DataW.trod_struct Try.underlying24 h
  have hC : Try.prog.cellsOf 24 = 5 := by kernel_rfl
  have hc3 : Try.prog.cellsOf 3 = 1 := by kernel_rfl
  have hc9 : Try.prog.cellsOf 9 = 1 := by kernel_rfl
  have hcs : Try.prog.cellsOf 22 = 1 := by kernel_rfl
  rw [hC] at hl
  have hy : ∀ j, j < 5 → ∃ y, ys[j]? = some y := fun j hj => ⟨_, List.getElem?_eq_getElem (by rw [hyl]; exact hj)⟩
  match cs, hl with
  | [c0, c1, c2, c3, c4], _ =>
    have h0 := hf 0 _ rfl
    simp [hc9] at h0
    have h1 := hf 1 _ rfl
    simp [hc3] at h1
    have h2 := hf 2 _ rfl
    simp [hc3] at h2
    have h3 := hf 3 _ rfl
    simp [hc3] at h3
    have h4 := hf 4 _ rfl
    simp [hcs] at h4
    obtain ⟨y0, e0⟩ := hy 0 (by omega)
    rw [e0] at h0
    obtain ⟨s, hs, _, _⟩ := DataW.trod_string Try.underlying9 h0
    injection hs with hs _
    subst hs
    obtain ⟨z1, rfl⟩ := one_int Try.underlying3 h1 (hy 1 (by omega))
    obtain ⟨z2, rfl⟩ := one_int Try.underlying3 h2 (hy 2 (by omega))
    obtain ⟨z3, rfl⟩ := one_int Try.underlying3 h3 (hy 3 (by omega))
    obtain ⟨y4, e4⟩ := hy 4 (by omega)
    rw [e4] at h4
    obtain ⟨a, l, c, rfl, hr, hm⟩ := open_code h4
    exact ⟨⟨⟨s.data.toList, z1, z2, z3, l⟩, a, c⟩, by unfold fnCells; rw [sb_of], hr, hm⟩
end
end Go.Proofs.Ytgnpbodhjmappaa
