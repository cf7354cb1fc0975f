/-
  A number's value, read as the document's own Value does. Of no program.
-/
import Derived.Test.YtbafkkifdfmldaaDoorPure
namespace Go.Proofs.YtbafkkifdfmldaaDoor.Sp

theorem value_alt : ∀ (l : List UInt8), value l = if isHexP (unU l) then val 16 ((unU l).drop 2) else val 10 (unU l)
  | [] => by decide
  | [a] => by
    have h0 : ∀ l : List UInt8, l.length ≤ 1 → isHexP l = false := fun l hl => by
      unfold isHexP
      cases l with
      | nil => rfl
      | cons x y => cases y with
        | nil => simp [List.isPrefixOf]
        | cons _ _ => simp at hl
    have h1 : (unU [a]).length ≤ 1 := by unfold unU; split <;> simp
    unfold value
    rw [h0 _ h1, h0 [a] (by simp)]
    rfl
  | [a, b] => by
    unfold value
    by_cases hb : isU [a, b] = true
    · have h1 : isHexP [a, b] = false := by
        unfold isU at hb; unfold isHexP
        simp [List.isPrefixOf] at hb ⊢
        rcases hb with rfl | rfl <;> simp
      have h2 : unU [a, b] = [a] := by unfold unU; rw [if_pos hb]; rfl
      have h3 : isHexP [a] = false := by unfold isHexP; simp [List.isPrefixOf]
      rw [h1, h2, h3]
      rfl
    · have h2 : unU [a, b] = [a, b] := by unfold unU; rw [if_neg hb]
      rw [h2]
      rfl
  | a :: b :: c :: t => by
    have h1 : isU (a :: b :: c :: t) = isU (c :: t) := by unfold isU; simp [List.getLast?_cons_cons]
    have h2 : unU (a :: b :: c :: t) = a :: b :: unU (c :: t) := by
      unfold unU; rw [h1]
      split <;> rfl
    have h3 : isHexP (a :: b :: unU (c :: t)) = isHexP (a :: b :: c :: t) := by unfold isHexP; simp [List.isPrefixOf]
    unfold value
    rw [h2, h3]
    rfl
theorem valFrom_some : ∀ {b acc : Nat} {l : List UInt8} {v : Nat}, valFrom b acc l = some v → acc ≤ v ∧ (acc ≤ 4294967295 → v ≤ 4294967295) := by
  intro b acc l
  induction l generalizing acc with
  | nil => intro v h; simp [valFrom] at h; subst h; exact ⟨Nat.le_refl _, id⟩
  | cons c t ih =>
    intro v h
    unfold valFrom at h
    split at h
    · split at h
      · rename_i hb h1
        obtain ⟨h2, h3⟩ := ih h
        refine ⟨?_, fun _ => h3 h1⟩
        have : acc ≤ acc * b := Nat.le_mul_of_pos_right _ (by omega)
        omega
      · simp at h
    · simp at h
end Go.Proofs.YtbafkkifdfmldaaDoor.Sp
