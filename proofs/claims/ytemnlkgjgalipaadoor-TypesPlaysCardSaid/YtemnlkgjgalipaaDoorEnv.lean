/-
  What holds of the listed variables' blocks, and stays so while new blocks are made; numerals.
-/
import Derived.Test.YtemnlkgjgalipaaDoorDefine
import Derived.Test.YtemnlkgjgalipaaDoorShelf
import Derived.Lib.ItoaLen
namespace Go.Proofs.YtemnlkgjgalipaaDoor
open Go.RowKit Go.Sort Go.Maps Tp Go.ChangeMaps
set_option linter.unusedVariables false

def namesL : List (List UInt8) := [[118, 111, 105, 100], [105, 110, 116], [117, 110, 115, 105, 103, 110, 101, 100], [99, 104, 97, 114]]
structure Env (w : World) : Prop where
  names : ∀ k : Nat, k < 4 → w.cell? ⟨0, k, none⟩ = some (.string (bs (baseText k)))
  pow : Lib.TabIs Tryd.prog w "internal/strconv.uint64pow10" .u64 Lib.pow10Tab
  sz : 4 ≤ w.heap.size
theorem Env.below {w w' : World} {B : Nat} (h : Env w) (hb : Below B w w') (hB : 4 ≤ B) : Env w' := by
  have hk : ∀ k, k < 4 → w'.heap[k]? = w.heap[k]? := fun k hk => hb.block k (by omega)
  refine ⟨fun k hk4 => ?_, ?_, Nat.le_trans h.sz hb.size⟩
  · have : w'.cell? ⟨0, k, none⟩ = w.cell? ⟨0, k, none⟩ := World.cell?_of_block (hk 0 (by omega))
    rw [this]; exact h.names k hk4
  · have hg : Tryd.prog.globalNamed "internal/strconv.uint64pow10" = some 1 := by kernel_rfl
    have hp := h.pow
    unfold Lib.TabIs World.var? at hp ⊢
    rw [hg] at hp ⊢
    simp only [Option.bind_some] at hp ⊢
    rw [hk _ (by omega)]
    exact hp
theorem below_grow (w : World) (k : Nat) (os : Array Obj) : Below w.heap.size w (grow (w.drewN k) os) := by
  refine ⟨rfl, rfl, rfl, ?_, fun i hi => ?_⟩
  · show w.heap.size ≤ (w.heap ++ os).size
    simp
  · show (w.heap ++ os)[i]? = _
    rw [Array.getElem?_append_left hi]
theorem digits_few {u : Nat} (h : u ≤ 1024) : (Lib.decDigits u).length ≤ 4 := by
  rw [Lib.decDigits_length]
  by_cases h1 : u < 10
  · rw [Lib.nDigits_small h1]; omega
  · by_cases h2 : u < 100
    · rw [Lib.nDigits_unique 1 u (by omega) (by omega)]; omega
    · by_cases h3 : u < 1000
      · rw [Lib.nDigits_unique 2 u (by omega) (by omega)]; omega
      · rw [Lib.nDigits_unique 3 u (by omega) (by omega)]; omega
theorem itoa_any (n : Nat) (hn : n ≤ 1024) (w : World) (henv : Env w) : Calls Tryd.prog 36 #[.int .i64 n] w fun e w' => e = .returned (.string (bs (Lib.decDigits n))) ∧ Below w.heap.size w w' :=
  (Tryd.strconv_Itoa n (by omega) (by omega) w henv.pow).mono fun e w' ⟨he, k, os, hw⟩ => ⟨by rw [he, Lib.itoa_nonneg], by rw [hw]; exact below_grow w k os⟩
end Go.Proofs.YtemnlkgjgalipaaDoor
