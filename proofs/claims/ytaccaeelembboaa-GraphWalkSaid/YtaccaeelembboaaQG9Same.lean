/-
  Contract of the laws' same: are two lists.
-/
import Derived.Test.YtaccaeelembboaaQG9A
namespace Go.Proofs.Ytaccaeelembboaa
open Go.RowKit Cd
set_option linter.unusedVariables false
set_option linter.unusedSimpArgs false

theorem same_len {l m : List Int} (h : l.length = m.length) (t : l.take l.length = m.take l.length) : l = m := by
  rw [List.take_length] at t
  rw [t, h, List.take_length]
theorem same_more {l m : List Int} {k : Nat} {x : Int} (t : l.take k = m.take k) (h1 : l[k]? = some x) (h2 : m[k]? = some x) : l.take (k + 1) = m.take (k + 1) := by
  rw [take_more h1, take_more h2, t]
set_option maxHeartbeats 2000000 in
theorem same_c (l m : List Int) (a b : Option Addr) (ca cb : Nat) (v : Bool) (hv : (decide (l = m)) = v) (w : World) (h1 : IntsAt w a l) (h2 : IntsAt w b m) (hl : l.length ≤ 100000) (hm : m.length ≤ 100000) :
    Calls Try.prog 15 #[.slice a l.length ca, .slice b m.length cb] w (RPost (.bool v) w) := by
  subst hv
  have H1 := Lib.hid h1; have H2 := Lib.hid h2; clear h1 h2
  go_enter Try.func15, Try.ntmps15
  by_cases hlen : (l.length : Int) = (m.length : Int)
  · have t0 : ((l.length : Int) == (m.length : Int)) = true := by simpa using hlen
    have HLN := Lib.hid (show l.length = m.length by omega)
    clear hlen
    go_wp2
    go_loopw [13] (fun s5 wr => ∃ k : Nat, k ≤ l.length ∧ s5 = .int .i64 k ∧ Hid (Below w.heap.size w wr) ∧ Hid (l.take k = m.take k)) (fun i wr => l.length - (intOf i).toNat)
    case atStart => exact ⟨0, by omega, rfl, Lib.hid (Below.refl _ _), Lib.hid (by simp)⟩
    case round =>
      obtain ⟨k, hk, rfl, HB, HN⟩ := hrel
      by_cases hlt : k < l.length
      · have hltm : k < m.length := by have := HLN.out; omega
        obtain ⟨x, hx⟩ : ∃ x, l[k]? = some x := ⟨_, List.getElem?_eq_getElem hlt⟩
        obtain ⟨y, hy⟩ : ∃ y, m[k]? = some y := ⟨_, List.getElem?_eq_getElem hltm⟩
        obtain ⟨ab, aoff, rfl, hab, hac⟩ := (H1.out.below HB.out).at hx
        obtain ⟨bb, boff, rfl, hbb, hbc⟩ := (H2.out.below HB.out).at hy
        have p0 : (0 : Int) ≤ (k : Int) := Int.natCast_nonneg _
        have p1 : (k : Int) < (l.length : Int) := by omega
        have p2 : (k : Int) < (m.length : Int) := by omega
        have HX := Lib.hid hx; have HY := Lib.hid hy; clear hx hy
        by_cases hxn : x = y
        · have t1 : (x == y) = true := by simpa using hxn
          have HN2 := Lib.hid (show l.take (k + 1) = m.take (k + 1) from same_more HN.out HX.out (hxn ▸ HY.out))
          clear hxn
          go_wp2
          go_quiet (fail)
          go_wp2
          go_roundw
          case rel => exact ⟨k + 1, by omega, by go_num, Lib.hid (drN HB.out _), HN2⟩
          case measure => simp [intOf]; omega
        · have t1 : (x == y) = false := by simpa using hxn
          have E := Lib.hid (show decide (l = m) = false from decide_eq_false fun q => hxn (by have h3 := HX.out; rw [q, HY.out] at h3; exact (Option.some.inj h3).symm))
          clear hxn
          go_wp2
          go_quiet (fail)
          go_wp2
          go_ret
          exact ⟨by rw [E.out]; rfl, drN HB.out _⟩
      · obtain rfl : k = l.length := by omega
        have E := Lib.hid (show decide (l = m) = true from decide_eq_true (same_len HLN.out HN.out))
        go_wp2
        go_ret
        exact ⟨by rw [E.out]; rfl, HB.out⟩
  · have t0 : ((l.length : Int) == (m.length : Int)) = false := by simpa using hlen
    have E := Lib.hid (show decide (l = m) = false from decide_eq_false fun q => hlen (by rw [q]))
    clear hlen
    go_wp2
    go_ret
    exact ⟨by rw [E.out]; rfl, Below.refl _ _⟩
end Go.Proofs.Ytaccaeelembboaa
