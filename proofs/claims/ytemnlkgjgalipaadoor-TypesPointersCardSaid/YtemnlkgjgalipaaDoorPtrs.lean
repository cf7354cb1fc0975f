/-
  The table of pointers to pointers, on lists.
-/
import Derived.Test.YtemnlkgjgalipaaDoorAwake
namespace Go.Proofs.YtemnlkgjgalipaaDoor
open Go.RowKit Go.Maps Tp
set_option linter.unusedVariables false

def xk (b k : Nat) : Nat := if k = 0 then b else 3 + k
def ptrT (b : Nat) : Nat → Tab
  | 0 => newT
  | k + 1 => ptrT b k ++ [⟨⟨4, xk b k, 0, []⟩, 1, none⟩]
theorem ptrT_len (b : Nat) : ∀ k, (ptrT b k).length = 4 + k
  | 0 => rfl
  | k + 1 => by simp [ptrT, ptrT_len b k]; omega
theorem xk_lt {b : Nat} (hb : b < 4) (k : Nat) : xk b k < 4 + k := by unfold xk; split <;> omega
theorem ptr_find {b : Nat} (y : Int) : ∀ k, (∀ j, j < k → (xk b j : Int) ≠ y) → find (ptrT b k) ⟨4, y, 0, []⟩ = none
  | 0, _ => by simp [find, ptrT, newT]
  | k + 1, h => by
    rw [ptrT, find_append, ptr_find y k (fun j hj => h j (by omega))]
    have := h k (by omega)
    simp [find, this]
theorem ptr_step {b : Nat} (hb : b < 4) (k : Nat) (hk : k < 200) : pointer (ptrT b k) (xk b k) = (((4 + k : Nat) : Int), 0, ptrT b (k + 1)) := by
  have hx := xk_lt hb k
  have hl := ptrT_len b k
  have he : ent (ptrT b k) (xk b k) = some ((ptrT b k)[xk b k]'(by omega)) := by rw [ent_nat, List.getElem?_eq_getElem]
  unfold pointer
  rw [he]
  simp only
  rw [num_none (ptr_find _ k (fun j hj => by unfold xk; split <;> split <;> omega)), if_neg (by omega), hl]
  rfl
theorem ptr_good {b : Nat} (hb : b < 4) : ∀ k, k ≤ 200 → Tp.Good (ptrT b k)
  | 0, _ => good_new
  | k + 1, h => by
    have := @good_pointer (ptrT b k) (xk b k) (ptr_good hb k (by omega))
    rwa [ptr_step hb k (by omega)] at this
theorem ptr_at {b : Nat} (n : Nat) : ∀ j, j < n → (ptrT b n)[4 + j]? = some ⟨⟨4, xk b j, 0, []⟩, 1, none⟩ := by
  induction n with
  | zero => intro j h; omega
  | succ n ih =>
    intro j h
    rw [ptrT]
    have hl := ptrT_len b n
    by_cases hj : j < n
    · rw [List.getElem?_append_left (by omega)]; exact ih j hj
    · obtain rfl : j = n := by omega
      rw [List.getElem?_append_right (by omega), show 4 + j - (ptrT b j).length = 0 by omega]
      rfl
theorem ptr_base {b : Nat} (hb : b < 4) (n : Nat) : ∃ e, (ptrT b n)[b]? = some e ∧ e.self.kind = b := by
  induction n with
  | zero =>
    have : b = 0 ∨ b = 1 ∨ b = 2 ∨ b = 3 := by omega
    rcases this with rfl | rfl | rfl | rfl <;> exact ⟨_, rfl, rfl⟩
  | succ n ih =>
    obtain ⟨e, he, hk⟩ := ih
    have hl := ptrT_len b n
    exact ⟨e, by rw [ptrT, List.getElem?_append_left (by omega)]; exact he, hk⟩
theorem ptr_txt {b n : Nat} (hb : b < 4) (hn : n ≤ 200) : ∀ k, k ≤ n → txt (ptrT b n) (xk b k) = baseText b ++ List.replicate k 42
  | 0, _ => by
    obtain ⟨e, he, hk⟩ := ptr_base hb n
    show txt (ptrT b n) b = _
    rw [txt_base he (by omega), hk]
    simp
  | k + 1, h => by
    have h1 : (ptrT b n)[xk b (k + 1)]? = some ⟨⟨4, xk b k, 0, []⟩, 1, none⟩ := by
      rw [show xk b (k + 1) = 4 + k by unfold xk; rw [if_neg (by omega)]; omega]
      exact ptr_at n k (by omega)
    rw [(txt_ptr (ptr_good hb n hn) h1 rfl rfl).1, ptr_txt hb hn k (by omega), List.append_assoc, List.replicate_succ']
theorem base_len {b : Nat} (hb : b < 4) : (baseText b).length ≤ 8 := by
  have : b = 0 ∨ b = 1 ∨ b = 2 ∨ b = 3 := by omega
  rcases this with rfl | rfl | rfl | rfl <;> decide
end Go.Proofs.YtemnlkgjgalipaaDoor
