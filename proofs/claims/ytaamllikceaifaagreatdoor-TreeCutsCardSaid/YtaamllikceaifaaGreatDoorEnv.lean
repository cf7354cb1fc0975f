/-
  What holds of the listed variables' blocks, and stays so while new blocks are made.
-/
import Derived.Test.YtaamllikceaifaaGreatDoorUint
namespace Go.Proofs.YtaamllikceaifaaGreatDoor
open Go.RowKit Sp

structure Env (w : World) : Prop where
  signs : ∃ t fr, w.heap[1]? = some (.cells signsV t fr)
  maxlen : ∃ m : Int, w.cell? ⟨2, 0, none⟩ = some (.int .i64 m)
  syn : ∃ ev, w.cell? ⟨6, 0, none⟩ = some ev ∧ (ev = .nilIface ∨ ∃ te pe, ev = .iface te pe)
  rng : ∃ ev, w.cell? ⟨7, 0, none⟩ = some ev ∧ (ev = .nilIface ∨ ∃ te pe, ev = .iface te pe)
  pow : Lib.TabIs Tryz.prog w "internal/strconv.uint64pow10" .u64 Lib.pow10Tab
  sz : 11 ≤ w.heap.size
theorem Env.below {w w' : World} {B : Nat} (h : Env w) (hb : Below B w w') (hB : 11 ≤ B) : Env w' := by
  have hk : ∀ k, k < 11 → w'.heap[k]? = w.heap[k]? := fun k hk => hb.block k (by omega)
  have hc : ∀ g, g < 11 → w'.cell? ⟨g, 0, none⟩ = w.cell? ⟨g, 0, none⟩ := fun g hg => World.cell?_of_block (hk g hg)
  obtain ⟨t, fr, hs⟩ := h.signs
  obtain ⟨m, hm⟩ := h.maxlen
  obtain ⟨e1, h1, h1'⟩ := h.syn
  obtain ⟨e2, h2, h2'⟩ := h.rng
  refine ⟨⟨t, fr, (hk _ (by omega)).trans hs⟩, ⟨m, (hc _ (by omega)).trans hm⟩, ⟨e1, (hc _ (by omega)).trans h1, h1'⟩, ⟨e2, (hc _ (by omega)).trans h2, h2'⟩, ?_, Nat.le_trans h.sz hb.size⟩
  have hg : Tryz.prog.globalNamed "internal/strconv.uint64pow10" = some 3 := by kernel_rfl
  have hp := h.pow
  unfold Lib.TabIs World.var? at hp ⊢
  rw [hg] at hp ⊢
  simp only [Option.bind_some] at hp ⊢
  rw [hk _ (by omega)]
  exact hp
end Go.Proofs.YtaamllikceaifaaGreatDoor
