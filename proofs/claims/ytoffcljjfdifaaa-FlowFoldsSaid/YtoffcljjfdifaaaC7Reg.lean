/-
  Layer 7: the closures that need a register, a place.
-/
import Derived.Test.YtoffcljjfdifaaaC7Small
import Derived.Deep.RegionWith
import Derived.Test.YtoffcljjfdifaaaLast
namespace Go.Proofs.Ytoffcljjfdifaaa
set_option maxRecDepth 100000
open Go.RowKit Cd
set_option linter.unusedVariables false
set_option linter.unusedSimpArgs false

abbrev needV (z : Nat) : Value := .func (.func 90) #[] #[.pointer (some ⟨z, 0, none⟩)]
abbrev needO (z : Nat) : Obj := .cells #[needV z] 129
theorem nv1 {w : World} {b : Nat} {x : Value} {t : TypeId} (h : w.heap[b]? = some (.cells #[x] t (0, 0))) : w.cell? ⟨b, 0, none⟩ = some x ∧ w.frozen? ⟨b, 0, none⟩ = false :=
  ⟨by rw [cell_of_row w b 0 _ _ _ h]; rfl, by simp [World.frozen?, h]⟩
theorem inB_reg (n r : Int) : inB n 0 (r - 1) = regOk r n := by
  unfold inB regOk
  congr 1
  simp only [decide_eq_decide]
  omega
set_option maxHeartbeats 1000000 in
theorem register_any (n : Int) (bn z bf : Nat) (R : Bool) (f : FnR) (hr : 0 ≤ f.f.regs ∧ f.f.regs ≤ 4096) (w : World) (hz : w.heap[z]? = some (bxB R)) (hn : w.heap[bn]? = some (needO z)) (hf : w.heap[bf]? = some (fnO f)) :
    Calls Try.prog 113 #[.int .i64 n, .pointer (some ⟨bn, 0, none⟩), .pointer (some ⟨bf, 0, none⟩)] w fun e w' => e = .returned (.int .i64 n) ∧ Nd z (R && regOk f.f.regs n) w w' := by
  obtain ⟨hr0, hr1⟩ := hr
  obtain ⟨c0, _⟩ := nv1 hn
  obtain ⟨_, _, c2, _, _⟩ := nv5 hf
  have HZ := Lib.hid hz; have HZ2 : Hid (w.drew.heap[z]? = some (bxB R)) := Lib.hid hz; clear hz hn hf
  have e := inB_reg n f.f.regs
  have hw : IntKind.i64.wrap (f.f.regs - 1) = f.f.regs - 1 := by rw [IntKind.wrap_i64]; omega
  go_enter Try.func113, Try.ntmps113
  go_wp2
  go_region_with (first | ((with_reducible refine (within_v _ _ _ _ e _).mono ?_); rintro e2 w2 ⟨rfl, rfl⟩) | ((with_reducible refine (need1_any z R _ _ HZ2.out).mono ?_); rintro e3 w3 ⟨rfl, HN⟩))
  all_goals go_wp2
  all_goals go_ret
  all_goals exact ⟨rfl, Nd.ahead ((Below.refl _ w).drew) (lt_heap HZ.out) HN⟩
set_option maxHeartbeats 1000000 in
theorem target_any (n : Int) (bn z bf : Nat) (R : Bool) (f : FnR) (hr : f.f.code.length ≤ 1000000) (w : World) (hz : w.heap[z]? = some (bxB R)) (hn : w.heap[bn]? = some (needO z)) (hf : w.heap[bf]? = some (fnO f)) :
    Calls Try.prog 114 #[.int .i64 n, .pointer (some ⟨bn, 0, none⟩), .pointer (some ⟨bf, 0, none⟩)] w fun e w' => e = .returned (.int .i64 n) ∧ Nd z (R && regOk f.f.code.length n) w w' := by
  obtain ⟨c0, _⟩ := nv1 hn
  obtain ⟨_, _, _, _, c4⟩ := nv5 hf
  have HZ := Lib.hid hz; have HZ2 : Hid (w.drew.heap[z]? = some (bxB R)) := Lib.hid hz; clear hz hn hf
  have e := inB_reg n f.f.code.length
  have hw : IntKind.i64.wrap ((f.f.code.length : Int) - 1) = (f.f.code.length : Int) - 1 := by rw [IntKind.wrap_i64]; omega
  go_enter Try.func114, Try.ntmps114
  go_wp2
  go_region_with (first | ((with_reducible refine (within_v _ _ _ _ e _).mono ?_); rintro e2 w2 ⟨rfl, rfl⟩) | ((with_reducible refine (need1_any z R _ _ HZ2.out).mono ?_); rintro e3 w3 ⟨rfl, HN⟩))
  all_goals go_wp2
  all_goals go_ret
  all_goals exact ⟨rfl, Nd.ahead ((Below.refl _ w).drew) (lt_heap HZ.out) HN⟩
end Go.Proofs.Ytoffcljjfdifaaa
