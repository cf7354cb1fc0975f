/-
  Contracts of word.Do: what it returns at each operation, whatever the numbers; the world stays as it was.
-/
import Derived.Test.YtlpbphhabeonfaaDoorWord
namespace Go.Proofs.YtlpbphhabeonfaaDoor
open Go.RowKit (wrap32 wrap64)

theorem do_two (op a b : Int) (w : World) (h : 1 ≤ op ∧ op ≤ 3 ∨ 8 ≤ op ∧ op ≤ 19) :
    Calls Tryd.prog 11 #[.int .i64 op, .int .i64 a, .int .i64 b] w fun e w' => e = .returned (.tuple #[.int .i64 (wrap32 (twoV op (wrap32 a) (wrap32 b))), .bool true]) ∧ w = w' := by
  have h4 : ((op : Int) == 4) = false := by simp; omega
  have h5 : ((op : Int) == 5) = false := by simp; omega
  have h6 : ((op : Int) == 6) = false := by simp; omega
  have h7 : ((op : Int) == 7) = false := by simp; omega
  have ht : twoB op = true := by unfold twoB; simp; omega
  go_enter Tryd.func11, Tryd.ntmps11
  go_wp2
  go_step3
  go_wp2_with (first | ((with_reducible refine (wrap_any _ _).mono ?_); rintro e w' ⟨rfl, rfl⟩) | ((with_reducible refine (two_any _ _).mono ?_); rintro e w' ⟨rfl, rfl⟩) | ((with_reducible refine (ofTwo_any _ _ _ _ (wrap32_bd _) (wrap32_bd _)).mono ?_); rintro e w' ⟨rfl, rfl⟩) | ((with_reducible refine (result_any _ _).mono ?_); rintro e w' ⟨rfl, rfl⟩))
  rw [Exit.noGoto_ret]
  go_ret2
  exact ⟨rfl, rfl⟩
theorem do_one (op a b : Int) (w : World) (h : 20 ≤ op ∧ op ≤ 23) :
    Calls Tryd.prog 11 #[.int .i64 op, .int .i64 a, .int .i64 b] w fun e w' => e = .returned (.tuple #[.int .i64 (wrap32 (oneV op (wrap32 a))), .bool true]) ∧ w = w' := by
  have h4 : ((op : Int) == 4) = false := by simp; omega
  have h5 : ((op : Int) == 5) = false := by simp; omega
  have h6 : ((op : Int) == 6) = false := by simp; omega
  have h7 : ((op : Int) == 7) = false := by simp; omega
  have ht : twoB op = false := by unfold twoB; simp; omega
  have h1 : oneB op = true := by unfold oneB; simp; omega
  go_enter Tryd.func11, Tryd.ntmps11
  go_wp2
  go_step3
  go_wp2_with (first | ((with_reducible refine (wrap_any _ _).mono ?_); rintro e w' ⟨rfl, rfl⟩) | ((with_reducible refine (two_any _ _).mono ?_); rintro e w' ⟨rfl, rfl⟩) | ((with_reducible refine (one_any _ _).mono ?_); rintro e w' ⟨rfl, rfl⟩) | ((with_reducible refine (ofOne_any _ _ _ (wrap32_bd _)).mono ?_); rintro e w' ⟨rfl, rfl⟩) | ((with_reducible refine (result_any _ _).mono ?_); rintro e w' ⟨rfl, rfl⟩))
  rw [Exit.noGoto_ret]
  go_ret2
  exact ⟨rfl, rfl⟩
theorem do_none (op a b : Int) (w : World) (h : op < 1 ∨ 23 < op) :
    Calls Tryd.prog 11 #[.int .i64 op, .int .i64 a, .int .i64 b] w fun e w' => e = .returned (.tuple #[.int .i64 0, .bool false]) ∧ w = w' := by
  have h4 : ((op : Int) == 4) = false := by simp; omega
  have h5 : ((op : Int) == 5) = false := by simp; omega
  have h6 : ((op : Int) == 6) = false := by simp; omega
  have h7 : ((op : Int) == 7) = false := by simp; omega
  have ht : twoB op = false := by unfold twoB; simp; omega
  have h1 : oneB op = false := by unfold oneB; simp; omega
  go_enter Tryd.func11, Tryd.ntmps11
  go_wp2
  go_step3
  go_wp2_with (first | ((with_reducible refine (wrap_any _ _).mono ?_); rintro e w' ⟨rfl, rfl⟩) | ((with_reducible refine (two_any _ _).mono ?_); rintro e w' ⟨rfl, rfl⟩) | ((with_reducible refine (one_any _ _).mono ?_); rintro e w' ⟨rfl, rfl⟩))
  rw [Exit.noGoto_ret]
  go_ret2
  exact ⟨rfl, rfl⟩
section
variable {P : Program} {a : Act} {w : World} {Q : Exit → Act → World → Prop}
theorem wp_scope_forward {c rest : Code} (l : Nat) (hf : findLabel c l = some rest)
    (first : c.wp P (Exit.jump l (fun a' w' => rest.wp P (Exit.noGoto Q) a' w') Q) a w) : (Code.scope c).wp P Q a w :=
  wp_scope_jumps l _ (fun _ _ => 0) hf first fun _ _ h => Code.wp_mono (fun e _ _ hq => by
    cases e <;> first | exact hq | exact hq.elim) h
end
def divV (op a b : Int) : Int :=
  if op = 4 then wrap32 (wrap64 ((wrap32 a).tdiv (wrap32 b))) else if op = 5 then wrap32 ((wrap32 a).tmod (wrap32 b))
  else if op = 6 then wrap32 (wrap32 a % 4294967296 / (wrap32 b % 4294967296)) else wrap32 (wrap32 a % 4294967296 % (wrap32 b % 4294967296))
theorem do_div (a b : Int) (w : World) (hb : wrap32 b ≠ 0) :
    Calls Tryd.prog 11 #[.int .i64 4, .int .i64 a, .int .i64 b] w fun e w' => e = .returned (.tuple #[.int .i64 (divV 4 a b), .bool true]) ∧ w = w' := by
  have hb0 : (wrap32 b == 0) = false := by simp; omega
  have hb2 : ¬ (wrap32 b = 0) := hb
  clear hb
  go_enter Tryd.func11, Tryd.ntmps11
  go_wp2
  refine wp_scope_forward 0 rfl ?_
  go_wp2_with (first | ((with_reducible refine (wrap_any _ _).mono ?_); rintro e w' ⟨rfl, rfl⟩) | ((with_reducible refine (plain_any _ _).mono ?_); rintro e w' ⟨rfl, rfl⟩) | ((with_reducible refine (result_any _ _).mono ?_); rintro e w' ⟨rfl, rfl⟩))
  go_step3
  refine ⟨rfl, ?_⟩
  show Code.wp _ _ _ _ _
  go_wp2_with ((with_reducible refine (result_any _ _).mono ?_); rintro e w' ⟨rfl, rfl⟩)
  rw [Exit.noGoto_ret]
  go_ret2
  exact ⟨rfl, rfl⟩
theorem do_div0 (a b : Int) (w : World) (hb : wrap32 b = 0) :
    Calls Tryd.prog 11 #[.int .i64 4, .int .i64 a, .int .i64 b] w fun e w' => e = .returned (.tuple #[.int .i64 0, .bool false]) ∧ w = w' := by
  have hb0 : (wrap32 b == 0) = true := by simp; omega
  clear hb
  go_enter Tryd.func11, Tryd.ntmps11
  go_wp2
  refine wp_scope_forward 0 rfl ?_
  go_wp2_with (first | ((with_reducible refine (wrap_any _ _).mono ?_); rintro e w' ⟨rfl, rfl⟩) | ((with_reducible refine (plain_any _ _).mono ?_); rintro e w' ⟨rfl, rfl⟩) | ((with_reducible refine (result_any _ _).mono ?_); rintro e w' ⟨rfl, rfl⟩))
  go_step3
  refine ⟨rfl, ?_⟩
  show Code.wp _ _ _ _ _
  go_wp2_with ((with_reducible refine (result_any _ _).mono ?_); rintro e w' ⟨rfl, rfl⟩)
  rw [Exit.noGoto_ret]
  go_ret2
  exact ⟨rfl, rfl⟩
theorem do_rem (a b : Int) (w : World) (hb : wrap32 b ≠ 0) :
    Calls Tryd.prog 11 #[.int .i64 5, .int .i64 a, .int .i64 b] w fun e w' => e = .returned (.tuple #[.int .i64 (divV 5 a b), .bool true]) ∧ w = w' := by
  have hb0 : (wrap32 b == 0) = false := by simp; omega
  have hb2 : ¬ (wrap32 b = 0) := hb
  clear hb
  go_enter Tryd.func11, Tryd.ntmps11
  go_wp2
  refine wp_scope_forward 0 rfl ?_
  go_wp2_with (first | ((with_reducible refine (wrap_any _ _).mono ?_); rintro e w' ⟨rfl, rfl⟩) | ((with_reducible refine (plain_any _ _).mono ?_); rintro e w' ⟨rfl, rfl⟩) | ((with_reducible refine (result_any _ _).mono ?_); rintro e w' ⟨rfl, rfl⟩))
  go_step3
  refine ⟨rfl, ?_⟩
  show Code.wp _ _ _ _ _
  go_wp2_with ((with_reducible refine (result_any _ _).mono ?_); rintro e w' ⟨rfl, rfl⟩)
  rw [Exit.noGoto_ret]
  go_ret2
  exact ⟨rfl, rfl⟩
theorem do_rem0 (a b : Int) (w : World) (hb : wrap32 b = 0) :
    Calls Tryd.prog 11 #[.int .i64 5, .int .i64 a, .int .i64 b] w fun e w' => e = .returned (.tuple #[.int .i64 0, .bool false]) ∧ w = w' := by
  have hb0 : (wrap32 b == 0) = true := by simp; omega
  clear hb
  go_enter Tryd.func11, Tryd.ntmps11
  go_wp2
  refine wp_scope_forward 0 rfl ?_
  go_wp2_with (first | ((with_reducible refine (wrap_any _ _).mono ?_); rintro e w' ⟨rfl, rfl⟩) | ((with_reducible refine (plain_any _ _).mono ?_); rintro e w' ⟨rfl, rfl⟩) | ((with_reducible refine (result_any _ _).mono ?_); rintro e w' ⟨rfl, rfl⟩))
  go_step3
  refine ⟨rfl, ?_⟩
  show Code.wp _ _ _ _ _
  go_wp2_with ((with_reducible refine (result_any _ _).mono ?_); rintro e w' ⟨rfl, rfl⟩)
  rw [Exit.noGoto_ret]
  go_ret2
  exact ⟨rfl, rfl⟩
theorem do_divu (a b : Int) (w : World) (hb : wrap32 b ≠ 0) :
    Calls Tryd.prog 11 #[.int .i64 6, .int .i64 a, .int .i64 b] w fun e w' => e = .returned (.tuple #[.int .i64 (divV 6 a b), .bool true]) ∧ w = w' := by
  have hbd := wrap32_bd b
  have hb0 : (wrap32 b % 4294967296 == 0) = false := by simp; omega
  have hb2 : ¬ (wrap32 b % 4294967296 = 0) := by omega
  clear hb hbd
  go_enter Tryd.func11, Tryd.ntmps11
  go_wp2
  refine wp_scope_forward 0 rfl ?_
  go_wp2_with (first | ((with_reducible refine (wrap_any _ _).mono ?_); rintro e w' ⟨rfl, rfl⟩) | ((with_reducible refine (plain_any _ _).mono ?_); rintro e w' ⟨rfl, rfl⟩) | ((with_reducible refine (result_any _ _).mono ?_); rintro e w' ⟨rfl, rfl⟩))
  go_step3
  refine ⟨rfl, ?_⟩
  show Code.wp _ _ _ _ _
  go_wp2_with ((with_reducible refine (result_any _ _).mono ?_); rintro e w' ⟨rfl, rfl⟩)
  rw [Exit.noGoto_ret]
  go_ret2
  exact ⟨rfl, rfl⟩
theorem do_divu0 (a b : Int) (w : World) (hb : wrap32 b = 0) :
    Calls Tryd.prog 11 #[.int .i64 6, .int .i64 a, .int .i64 b] w fun e w' => e = .returned (.tuple #[.int .i64 0, .bool false]) ∧ w = w' := by
  have hbd := wrap32_bd b
  have hb0 : (wrap32 b % 4294967296 == 0) = true := by simp; omega
  clear hb hbd
  go_enter Tryd.func11, Tryd.ntmps11
  go_wp2
  refine wp_scope_forward 0 rfl ?_
  go_wp2_with (first | ((with_reducible refine (wrap_any _ _).mono ?_); rintro e w' ⟨rfl, rfl⟩) | ((with_reducible refine (plain_any _ _).mono ?_); rintro e w' ⟨rfl, rfl⟩) | ((with_reducible refine (result_any _ _).mono ?_); rintro e w' ⟨rfl, rfl⟩))
  go_step3
  refine ⟨rfl, ?_⟩
  show Code.wp _ _ _ _ _
  go_wp2_with ((with_reducible refine (result_any _ _).mono ?_); rintro e w' ⟨rfl, rfl⟩)
  rw [Exit.noGoto_ret]
  go_ret2
  exact ⟨rfl, rfl⟩
theorem do_remu (a b : Int) (w : World) (hb : wrap32 b ≠ 0) :
    Calls Tryd.prog 11 #[.int .i64 7, .int .i64 a, .int .i64 b] w fun e w' => e = .returned (.tuple #[.int .i64 (divV 7 a b), .bool true]) ∧ w = w' := by
  have hbd := wrap32_bd b
  have hb0 : (wrap32 b % 4294967296 == 0) = false := by simp; omega
  have hb2 : ¬ (wrap32 b % 4294967296 = 0) := by omega
  clear hb hbd
  go_enter Tryd.func11, Tryd.ntmps11
  go_wp2
  refine wp_scope_forward 0 rfl ?_
  go_wp2_with (first | ((with_reducible refine (wrap_any _ _).mono ?_); rintro e w' ⟨rfl, rfl⟩) | ((with_reducible refine (plain_any _ _).mono ?_); rintro e w' ⟨rfl, rfl⟩) | ((with_reducible refine (result_any _ _).mono ?_); rintro e w' ⟨rfl, rfl⟩))
  go_step3
  refine ⟨rfl, ?_⟩
  show Code.wp _ _ _ _ _
  go_wp2_with ((with_reducible refine (result_any _ _).mono ?_); rintro e w' ⟨rfl, rfl⟩)
  rw [Exit.noGoto_ret]
  go_ret2
  exact ⟨rfl, rfl⟩
theorem do_remu0 (a b : Int) (w : World) (hb : wrap32 b = 0) :
    Calls Tryd.prog 11 #[.int .i64 7, .int .i64 a, .int .i64 b] w fun e w' => e = .returned (.tuple #[.int .i64 0, .bool false]) ∧ w = w' := by
  have hbd := wrap32_bd b
  have hb0 : (wrap32 b % 4294967296 == 0) = true := by simp; omega
  clear hb hbd
  go_enter Tryd.func11, Tryd.ntmps11
  go_wp2
  refine wp_scope_forward 0 rfl ?_
  go_wp2_with (first | ((with_reducible refine (wrap_any _ _).mono ?_); rintro e w' ⟨rfl, rfl⟩) | ((with_reducible refine (plain_any _ _).mono ?_); rintro e w' ⟨rfl, rfl⟩) | ((with_reducible refine (result_any _ _).mono ?_); rintro e w' ⟨rfl, rfl⟩))
  go_step3
  refine ⟨rfl, ?_⟩
  show Code.wp _ _ _ _ _
  go_wp2_with ((with_reducible refine (result_any _ _).mono ?_); rintro e w' ⟨rfl, rfl⟩)
  rw [Exit.noGoto_ret]
  go_ret2
  exact ⟨rfl, rfl⟩

/-- Whether there is a result, and which. -/
def doB (op b : Int) : Bool := decide ((1 ≤ op ∧ op ≤ 23) ∧ ¬ ((4 ≤ op ∧ op ≤ 7) ∧ wrap32 b = 0))
def doV (op a b : Int) : Int :=
  if doB op b = false then 0 else if 4 ≤ op ∧ op ≤ 7 then divV op a b else if op ≤ 19 then wrap32 (twoV op (wrap32 a) (wrap32 b)) else wrap32 (oneV op (wrap32 a))
theorem do_any (op a b : Int) (w : World) :
    Calls Tryd.prog 11 #[.int .i64 op, .int .i64 a, .int .i64 b] w fun e w' => e = .returned (.tuple #[.int .i64 (doV op a b), .bool (doB op b)]) ∧ w = w' := by
  by_cases h1 : op < 1 ∨ 23 < op
  · have hB : doB op b = false := by unfold doB; simp; omega
    rw [doV, if_pos hB, hB]; exact do_none op a b w h1
  · by_cases h2 : 4 ≤ op ∧ op ≤ 7
    · by_cases h3 : wrap32 b = 0
      · have hB : doB op b = false := by unfold doB; simp; omega
        rw [doV, if_pos hB, hB]
        rcases (by omega : op = 4 ∨ op = 5 ∨ op = 6 ∨ op = 7) with rfl | rfl | rfl | rfl
        · exact do_div0 a b w h3
        · exact do_rem0 a b w h3
        · exact do_divu0 a b w h3
        · exact do_remu0 a b w h3
      · have hB : doB op b = true := by unfold doB; simp; omega
        rw [doV, if_neg (by rw [hB]; simp), if_pos h2, hB]
        rcases (by omega : op = 4 ∨ op = 5 ∨ op = 6 ∨ op = 7) with rfl | rfl | rfl | rfl
        · exact do_div a b w h3
        · exact do_rem a b w h3
        · exact do_divu a b w h3
        · exact do_remu a b w h3
    · have hB : doB op b = true := by unfold doB; simp; omega
      rw [doV, if_neg (by rw [hB]; simp), if_neg h2, hB]
      by_cases h4 : op ≤ 19
      · rw [if_pos h4]; exact do_two op a b w (by omega)
      · rw [if_neg h4]; exact do_one op a b w (by omega)
theorem doV_word (op a b : Int) : wrap32 (doV op a b) = doV op a b := by
  unfold doV divV
  repeat' split
  all_goals first | exact wrap32_wrap32 _ | simp [wrap32]
theorem doV_bd (op a b : Int) : -2147483648 ≤ doV op a b ∧ doV op a b ≤ 2147483647 := by rw [← doV_word]; exact wrap32_bd _
end Go.Proofs.YtlpbphhabeonfaaDoor
