/-
  Contracts of Len, entry and what reads an entry alone.
-/
import Derived.Test.YtemnlkgjgalipaaDoorMem
import Derived.IntWalk
import Derived.Deep.QuietTactic
import Derived.BigQuiet
namespace Go.Proofs.YtemnlkgjgalipaaDoor
open Go.RowKit Go.Maps Tp
set_option linter.unusedVariables false

theorem len_nil_any (w : World) : Calls Tryd.prog 15 #[.pointer none] w fun e w' => e = .returned (.int .i64 0) ∧ w = w' := by
  go_enter Tryd.func15, Tryd.ntmps15
  go_wp2
  go_ret
  exact ⟨rfl, rfl⟩
theorem row_len {w : World} {B size n : Nat} {e : TypeId} {v : Value} {xs : List Value} (h : w.ownsRow B e size v n xs) : ∃ a c, v = .slice a n c := by
  rcases h.2 with ⟨rfl, rfl⟩ | ⟨g, cap, cur, rfl, _⟩
  · exact ⟨_, _, rfl⟩
  · exact ⟨_, _, rfl⟩
theorem len_any {w : World} {t B : Nat} {v : Value} {T : Tab} (h : TabIn w t B v T) : Calls Tryd.prog 15 #[.pointer (some ⟨t, 0, none⟩)] w fun e w' => e = .returned (.int .i64 T.length) ∧ w = w' := by
  obtain ⟨X, rfl, h⟩ := h
  have hc := h.cell
  obtain ⟨a, c, rfl⟩ := row_len h.row
  simp only [List.length_map]
  have H := Lib.hid h; clear h
  go_enter Tryd.func15, Tryd.ntmps15
  go_wp2
  go_ret
  exact ⟨rfl, rfl⟩
def EntryPost (w : World) (e : En) (m : Option Nat) (b : Bool) (x : Ending) (w' : World) : Prop := x = .returned (.tuple #[enV e m, .bool b]) ∧ Below w.heap.size w w'
theorem entry_nil (n : Int) (w : World) : Calls Tryd.prog 32 #[.pointer none, .int .i64 n] w (EntryPost w zeroE none false) := by
  by_cases h : n < 0
  · have h1 : decide (n < 0) = true := by simpa using h
    go_enter Tryd.func32, Tryd.ntmps32
    go_wp2
    exact bodyPost_ret (v := .tuple #[enV zeroE none, .bool false]) (by simp [results, Tryd.results32, go_sem]; rfl) rfl ⟨rfl, (Below.refl _ _).alloc (Nat.le_refl _) _⟩
  · have h1 : decide (n < 0) = false := by simpa using h
    have h2 : decide ((0 : Int) ≤ n) = true := by simp; omega
    go_enter Tryd.func32, Tryd.ntmps32
    go_wp2_with ((with_reducible refine (len_nil_any _).mono ?_); rintro e w' ⟨rfl, rfl⟩)
    exact bodyPost_ret (v := .tuple #[enV zeroE none, .bool false]) (by simp [results, Tryd.results32, go_sem]; rfl) rfl ⟨rfl, (Below.refl _ _).alloc (Nat.le_refl _) _⟩
theorem ent_none_ge {T : Tab} {n : Int} (h : ent T n = none) (h0 : ¬ n < 0) : (T.length : Int) ≤ n := by
  unfold ent at h
  rw [if_neg h0] at h
  have := List.getElem?_eq_none_iff.1 h
  omega
theorem entry_out {w : World} {t B : Nat} {v : Value} {T : Tab} (h : TabIn w t B v T) (n : Int) (hn : ent T n = none) : Calls Tryd.prog 32 #[.pointer (some ⟨t, 0, none⟩), .int .i64 n] w (EntryPost w zeroE none false) := by
  have HT := Lib.hid h; clear h
  by_cases h : n < 0
  · have h1 : decide (n < 0) = true := by simpa using h
    clear hn
    go_enter Tryd.func32, Tryd.ntmps32
    go_wp2
    exact bodyPost_ret (v := .tuple #[enV zeroE none, .bool false]) (by simp [results, Tryd.results32, go_sem]; rfl) rfl ⟨rfl, (Below.refl _ _).alloc (Nat.le_refl _) _⟩
  · have h1 : decide (n < 0) = false := by simpa using h
    have h2 : decide ((T.length : Int) ≤ n) = true := by have := ent_none_ge hn h; simp; omega
    clear hn
    go_enter Tryd.func32, Tryd.ntmps32
    go_wp2_with ((with_reducible refine (len_any (HT.out.below ((Below.refl _ _).alloc (by simp) _))).mono ?_); rintro e w' ⟨rfl, rfl⟩)
    exact bodyPost_ret (v := .tuple #[enV zeroE none, .bool false]) (by simp [results, Tryd.results32, go_sem]; rfl) rfl ⟨rfl, (Below.refl _ _).alloc (Nat.le_refl _) _⟩
theorem entry_in {w : World} {t B : Nat} {v : Value} {X : List (En × Option Nat)} (h : TabX w t B v X) (k : Nat) (x : En × Option Nat) (hx : X[k]? = some x) : Calls Tryd.prog 32 #[.pointer (some ⟨t, 0, none⟩), .int .i64 k] w (EntryPost w x.1 x.2 true) := by
  have hk : k < X.length := (List.getElem?_eq_some_iff.1 hx).1
  obtain ⟨g, cap, rfl, hg, hgl⟩ := h.form (by omega)
  obtain ⟨c0, c1, c2, c3, c4, c5⟩ := h.at hx
  have hc := h.cell
  have ht := h.lt
  have HT : Hid (TabIn w t B (.slice (some ⟨g, 0, none⟩) X.length cap) (X.map (·.1))) := ⟨X, rfl, h⟩
  clear h hx
  have h1 : decide ((k : Int) < 0) = false := by simp
  have h2 : decide (X.length ≤ k) = false := by simp; omega
  have k0 : (0 : Int) ≤ (k : Int) := Int.natCast_nonneg _
  have k1 : (k : Int) < (X.length : Int) := by omega
  go_enter Tryd.func32, Tryd.ntmps32
  go_wp2_with ((with_reducible refine (len_any (HT.out.below (by exact ((Below.refl _ _).alloc (by simp) _)))).mono ?_); rintro e w' ⟨rfl, rfl⟩; rw [List.length_map])
  exact bodyPost_ret (v := .tuple #[enV x.1 x.2, .bool true]) (by simp [results, Tryd.results32, go_sem]; rfl) rfl ⟨rfl, (Below.refl _ _).alloc (Nat.le_refl _) _⟩
/-- Whatever table, whatever number. -/
theorem entry_any {w : World} {t B : Nat} {v : Value} {T : Tab} (h : TabIn w t B v T) (n : Int) : Calls Tryd.prog 32 #[.pointer (some ⟨t, 0, none⟩), .int .i64 n] w
    fun x w' => ∃ m, EntryPost w ((ent T n).getD zeroE) m (ent T n).isSome x w' ∧ FldIn w m ((ent T n).getD zeroE).flds := by
  cases hn : ent T n with
  | none => exact (entry_out h n hn).mono fun x w' hx => ⟨none, hx, rfl⟩
  | some e =>
    obtain ⟨k, rfl, hk, he⟩ := ent_some hn
    obtain ⟨X, hX, hT⟩ := h
    obtain ⟨m, hm⟩ := map_at hX he
    exact (entry_in hT k _ hm).mono fun x w' hx => ⟨m, hx, hT.flds _ (List.mem_of_getElem? hm)⟩
end Go.Proofs.YtemnlkgjgalipaaDoor
