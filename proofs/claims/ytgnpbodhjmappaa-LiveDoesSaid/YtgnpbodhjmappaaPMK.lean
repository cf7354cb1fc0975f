/-
  doppellaw10's awake.
-/
import Derived.Test.YtgnpbodhjmappaaPMI
import Derived.Test.YtgnpbodhjmappaaPNB
import Derived.Test.YtgnpbodhjmappaaPLA
import Derived.Test.YtgnpbodhjmappaaPLG
import Derived.Lib.QuietBelow
import Derived.Test.YtgnpbodhjmappaaPNM
import Derived.Test.YtgnpbodhjmappaaPLQ
import Derived.BigQuiet
set_option linter.unusedVariables false
set_option linter.unusedSimpArgs false
namespace Go.Proofs.Ytgnpbodhjmappaa
set_option maxRecDepth 100000
open Go.RowKit Cd
abbrev Cd.lwC : List Ins := [⟨1, 0, 0, 0, 0, 0, [], 0, 0, 0, 0, 0, 0, 0, -1⟩, ⟨1, 0, 1, 0, 0, 0, [], 0, 0, 0, 0, 0, 0, 0, -1⟩, ⟨13, 0, -1, 1, 0, 0, [], 0, 0, 0, 0, 0, 0, 0, -1⟩]
abbrev Cd.lwF : Fnc := ⟨[102], 0, 2, 0, lwC⟩
theorem lw_right : RightF lwF := rightF_iff.1 (by decide +kernel)
theorem lw_dead : deadF lwC = [0] := by decide +kernel
theorem lw_call (W : World) (g : Nat) (h : W.heap[g]? = some (.cells (lwC.flatMap inCells).toArray 46)) : Calls Try.prog 16 #[.agg #[.string ⟨#[102]⟩, .int .i64 0, .int .i64 2, .int .i64 0, .slice (some ⟨g, 0, none⟩) 3 3]] W
    (fun e w' => ∃ dg dc, e = .returned (.slice (some ⟨dg, 0, none⟩) 1 dc) ∧ w'.cell? ⟨dg, 0, none⟩ = some (.int .i64 0) ∧ W.heap.size ≤ dg ∧ dg < w'.heap.size ∧ Below W.heap.size W w') := by
  have hd := dead_yes ⟨lwF, some ⟨g, 0, none⟩, 3⟩ W (fun _ => ⟨g, 0, rfl, lt_heap h, Nat.le_refl _, fun j u hu => by rw [Nat.zero_add, cell_of_row W g _ _ _ _ h]; simpa using hu⟩) (by show 3 ≤ maxLen; unfold maxLen; omega) lw_right
  refine Calls.mono hd ?_
  rintro e w' ⟨v, rfl, ho, hb⟩
  have hl : deadF lwF.code = [0] := lw_dead
  rw [hl] at ho
  rcases ho.2 with ⟨_, h5⟩ | ⟨dg, cap, cur, rfl, h6, h7, h8, h9, h10, h11⟩
  · cases h5
  · refine ⟨dg, cap, rfl, ?_, h6, lt_heap h7, hb⟩
    rw [cell_of_row w' dg _ _ _ _ h7]
    have h12 : cur.toList.take 1 = [.int .i64 0] := h11
    have h13 : cur.toList[0]? = some (.int .i64 0) := by
      have := congrArg (fun l => l[0]?) h12
      simpa using this
    simpa using h13
theorem lw_new (X : World) (n : Nat) (hn : n = X.heap.size) (o : Obj) (ho : o = .cells (lwC.flatMap inCells).toArray 46) : (X.alloc o).heap[n]? = some (.cells (lwC.flatMap inCells).toArray 46) := by
  subst hn ho; exact heap_alloc_new X _
set_option maxHeartbeats 8000000 in
theorem awake10_any (w : World) : Calls Try.prog 12 #[] w (RPost (.bool true) w) := by
  go_enter Try.func12, Try.ntmps12
  go_wp2_with (first | ((with_reducible refine (cplain_any 13 _).mono ?_); rintro e w3 ⟨rfl, hb3⟩; have HB3 := Lib.hid (HB2.out.trans (hb3.mono HB2.out.size)); clear hb3) | ((with_reducible refine (cplain_any 1 w).mono ?_); rintro e w1 ⟨rfl, hb1⟩; have HB1 := Lib.hid hb1; clear hb1) | ((with_reducible refine (cplain_any 1 _).mono ?_); rintro e w2 ⟨rfl, hb2⟩; have HB2 := Lib.hid (HB1.out.trans (hb2.mono HB1.out.size)); clear hb2))
  have h3 : w.heap.size ≤ w3.heap.size := HB3.out.size
  have HPC : Hid (∀ w, Calls Try.prog 33 #[inV ⟨1, 0, 0, 0, 0, 0, [], 0, 0, 0, 0, 0, 0, 0, -1⟩] w (RPost (.bool true) w)) := Lib.hid (fun w => (show pureI ⟨1, 0, 0, 0, 0, 0, [], 0, 0, 0, 0, 0, 0, 0, -1⟩ = true by decide) ▸ lpure_any ⟨1, 0, 0, 0, 0, 0, [], 0, 0, 0, 0, 0, 0, 0, -1⟩ w)
  refine (lw_call _ _ (lw_new _ _ (by simp) _ rfl)).mono ?_
  rintro e w5 ⟨dg, dc, rfl, hc, hdg, hdl, hb5⟩
  have hba : w5.heap[w3.heap.size]? = some (inO ⟨1, 0, 0, 0, 0, 0, [], 0, 0, 0, 0, 0, 0, 0, -1⟩) := (hb5.block _ (by simp <;> omega)).trans ((Below.heap_alloc _ _ _ (by simp <;> omega)).trans ((Below.heap_alloc _ _ _ (by simp <;> omega)).trans ((Below.heap_alloc _ _ _ (by simp)).trans (heap_alloc_new w3 _))))
  have HB5 : Hid (Below w.heap.size w w5) := Lib.hid (HB3.out.trans ((((((Below.refl w3.heap.size w3).alloc (Nat.le_refl _) _).alloc (by simp) _).alloc (by simp <;> omega) _).alloc (by simp <;> omega) _).trans (hb5.mono (by simp <;> omega)) |>.mono h3))
  obtain ⟨d0, d1, d2, d3, d4, d5, d6, d7, d8, d9, d10, d11, d12, d13, d14⟩ := nv15 hba
  have hbl := lt_heap hba
  clear hb5 hba
  go_wp2_with ((with_reducible refine (HPC.out _).mono ?_); rintro e w6 ⟨rfl, hb6⟩; have HB6 := Lib.hid (HB5.out.trans (hb6.mono HB5.out.size)); clear hb6)
  go_ret
  exact ⟨rfl, HB6.out⟩
end Go.Proofs.Ytgnpbodhjmappaa
