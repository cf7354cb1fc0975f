/-
  Runs with more fuel; runs that read nothing of their input.
-/
import Derived.Test.YtgnpbodhjmappaaPLB
set_option linter.unusedVariables false
set_option linter.unusedSimpArgs false
namespace Go.Proofs.Ytgnpbodhjmappaa.Cd

def OutOk (s : Sta) : Rsu ⊕ Sta → Prop
  | .inl r => r.out = s.out
  | .inr s' => s.out <+: s'.out
theorem stepI_ok (u : Uni) (g : Fnc) (i : Ins) (f : Frm) (rest : List Frm) (s : Sta) : OutOk s (stepI u g i f rest s) := by
  have hp : s.out <+: s.out := List.prefix_refl _
  unfold stepI
  by_cases h1 : i.kind = 1
  · rw [if_pos h1]; exact hp
  rw [if_neg h1]
  by_cases h2 : i.kind = 2 ∨ i.kind = 3
  · rw [if_pos h2]
    by_cases hb : doB i.op (valB f i) = true
    · rw [if_pos hb]; exact hp
    · rw [if_neg hb]; rfl
  rw [if_neg h2]
  by_cases h4 : i.kind = 4
  · rw [if_pos h4]; exact hp
  rw [if_neg h4]
  by_cases h5 : i.kind = 5
  · rw [if_pos h5]; exact hp
  rw [if_neg h5]
  by_cases h6 : i.kind = 6 ∨ i.kind = 7
  · rw [if_pos h6]
    by_cases ha : 1 ≤ addr f i ∧ addr f i < 4096
    · rw [if_pos ha]
      by_cases hl : i.kind = 6
      · rw [if_pos hl]; exact hp
      · rw [if_neg hl]; exact hp
    · rw [if_neg ha]; rfl
  rw [if_neg h6]
  by_cases h8 : i.kind = 8
  · rw [if_pos h8]
    cases findN u.funcs i.text with
    | none => rfl
    | some k =>
      simp only
      cases u.funcs[k]? with
      | none => rfl
      | some h =>
        simp only
        by_cases hb : f.base + g.frame + h.frame > 4096
        · rw [if_pos hb]; rfl
        · rw [if_neg hb]; exact hp
  rw [if_neg h8]
  by_cases h9 : i.kind = 9
  · rw [if_pos h9]
    cases s.inp <;> exact hp
  rw [if_neg h9]
  by_cases h10 : i.kind = 10
  · rw [if_pos h10]; exact List.prefix_append _ _
  rw [if_neg h10]
  by_cases h11 : i.kind = 11
  · rw [if_pos h11]; exact hp
  rw [if_neg h11]
  by_cases h12 : i.kind = 12
  · rw [if_pos h12]; exact hp
  rw [if_neg h12]
  cases rest with
  | nil => rfl
  | cons p ps => exact hp
theorem stepI_out {u : Uni} {g : Fnc} {i : Ins} {f : Frm} {rest : List Frm} {s s' : Sta} (h : stepI u g i f rest s = .inr s') : s.out <+: s'.out := by
  have := stepI_ok u g i f rest s
  rw [h] at this
  exact this
theorem stepI_end {u : Uni} {g : Fnc} {i : Ins} {f : Frm} {rest : List Frm} {s : Sta} {r : Rsu} (h : stepI u g i f rest s = .inl r) : r.out = s.out := by
  have := stepI_ok u g i f rest s
  rw [h] at this
  exact this
theorem step_out {u : Uni} {s s' : Sta} (h : step u s = .inr s') : s.out <+: s'.out := by
  unfold step at h
  repeat' (first | split at h)
  all_goals first | (cases h) | exact stepI_out h | skip
theorem step_end {u : Uni} {s : Sta} {r : Rsu} (h : step u s = .inl r) : r.out = s.out := by
  unfold step at h
  repeat' (first | split at h)
  all_goals first | (cases h; rfl) | exact stepI_end h | skip
theorem runS_out (u : Uni) : ∀ (n : Nat) (s : Sta), s.out <+: (runS u n s).out
  | 0, s => List.prefix_refl _
  | n + 1, s => by
    unfold runS
    cases h : step u s with
    | inl r => rw [show r.out = s.out from step_end h]; exact List.prefix_refl _
    | inr s' => exact (step_out h).trans (runS_out u n s')
theorem runS_more (u : Uni) : ∀ (n m : Nat) (s : Sta), n ≤ m → (runS u n s).fin ≠ 4 → runS u m s = runS u n s
  | 0, m, s, _, h => absurd rfl h
  | n + 1, 0, s, hm, _ => by omega
  | n + 1, m + 1, s, hm, h => by
    unfold runS at h ⊢
    cases hs : step u s with
    | inl r => rfl
    | inr s' => rw [hs] at h; exact runS_more u n m s' (by omega) h
theorem runS_prefix (u : Uni) : ∀ (n m : Nat) (s : Sta), n ≤ m → (runS u n s).out <+: (runS u m s).out
  | 0, m, s, _ => runS_out u m s
  | n + 1, 0, s, hm => by omega
  | n + 1, m + 1, s, hm => by
    unfold runS
    cases hs : step u s with
    | inl r => exact List.prefix_refl _
    | inr s' => exact runS_prefix u n m s' (by omega)
end Go.Proofs.Ytgnpbodhjmappaa.Cd
namespace Go.Proofs.Ytgnpbodhjmappaa
open Go.RowKit (wrap32 wrap64)
theorem doV_two (op a b : Int) (h : 1 ≤ op ∧ op ≤ 3 ∨ 8 ≤ op ∧ op ≤ 19) : doV op a b = wrap32 (twoV op (wrap32 a) (wrap32 b)) := by
  have hB : doB op b = true := by unfold doB; simp; omega
  rw [doV, if_neg (by rw [hB]; simp), if_neg (by omega), if_pos (by omega)]
theorem doV_one (op a b : Int) (h : 20 ≤ op ∧ op ≤ 23) : doV op a b = wrap32 (oneV op (wrap32 a)) := by
  have hB : doB op b = true := by unfold doB; simp; omega
  rw [doV, if_neg (by rw [hB]; simp), if_neg (by omega), if_neg (by omega)]
theorem doV_div (op a b : Int) (h : 4 ≤ op ∧ op ≤ 7) (hb : wrap32 b ≠ 0) : doV op a b = divV op a b := by
  have hB : doB op b = true := by unfold doB; simp; omega
  rw [doV, if_neg (by rw [hB]; simp), if_pos (by omega)]
theorem doV_and (a b : Int) : bv (doV 8 a b) = bv a &&& bv b := by
  rw [doV_two _ _ _ (by omega), bv_wrap]; show bv (bits .and .i64 (wrap32 a) (wrap32 b)) = _; rw [bv_and, bv_wrap, bv_wrap]
theorem doV_or (a b : Int) : bv (doV 9 a b) = bv a ||| bv b := by
  rw [doV_two _ _ _ (by omega), bv_wrap]; show bv (bits .or .i64 (wrap32 a) (wrap32 b)) = _; rw [bv_or, bv_wrap, bv_wrap]
theorem doV_xor (a b : Int) : bv (doV 10 a b) = bv a ^^^ bv b := by
  rw [doV_two _ _ _ (by omega), bv_wrap]; show bv (bits .xor .i64 (wrap32 a) (wrap32 b)) = _; rw [bv_xor, bv_wrap, bv_wrap]
theorem doV_not (a b : Int) : bv (doV 21 a b) = ~~~ bv a := by
  rw [doV_one _ _ _ (by omega), bv_wrap]; show bv (bits .xor .i64 (-1) (wrap32 a)) = _; rw [bv_xor, bv_wrap]
  show BitVec.ofInt 32 (-1) ^^^ bv a = _
  rw [show BitVec.ofInt 32 (-1) = BitVec.allOnes 32 from by decide, BitVec.allOnes_xor]
theorem num_bd (b : Bool) : wrap32 (num b) = num b := by cases b <;> simp [num, wrap32]
theorem doV_cmp (op a b : Int) (h : 14 ≤ op ∧ op ≤ 19) : doV op a b = num (cmpB op (wrap32 a) (wrap32 b)) := by
  rw [doV_two _ _ _ (by omega), twoV, if_neg (by omega), if_neg (by omega), if_neg (by omega), if_neg (by omega), if_neg (by omega), if_neg (by omega), if_neg (by omega), if_neg (by omega), if_neg (by omega), num_bd]
theorem bv_toNat (a : Int) : ((bv a).toNat : Int) = a % 4294967296 := by
  unfold bv; rw [BitVec.toNat_ofInt]; simp only [Nat.reducePow]; omega
theorem eq_wrap {a b op : Int} {x : Int} (h : bv (doV op a b) = bv x) : doV op a b = wrap32 x := by
  rw [← doV_word op, wrap32_eq_iff]; exact h
end Go.Proofs.Ytgnpbodhjmappaa
