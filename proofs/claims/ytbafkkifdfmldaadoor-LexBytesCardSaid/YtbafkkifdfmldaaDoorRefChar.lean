/-
  The contract of the document's own char.
-/
import Derived.Test.YtbafkkifdfmldaaDoorRefA
import Derived.Test.YtbafkkifdfmldaaDoorBlank
namespace Go.Proofs.YtbafkkifdfmldaaDoor
open Go.RowKit Sp
set_option linter.unusedVariables false

def CharPost (q : Option (Nat × Nat)) (w : World) (e : Ending) (w' : World) : Prop := e = .returned (.tuple #[.int .i64 ((q.map (·.2)).getD 0 : Nat), .int .i64 ((q.map (·.1)).getD 0 : Nat)]) ∧ w = w'
theorem char_ret {q p : Option (Nat × Nat)} {i j : Int} (h : q = p) (hi : (((p.map (·.2)).getD 0 : Nat) : Int) = i) (hj : (((p.map (·.1)).getD 0 : Nat) : Int) = j) :
    Ending.returned (.tuple #[.int .i64 i, .int .i64 j]) = .returned (.tuple #[.int .i64 ((q.map (·.2)).getD 0 : Nat), .int .i64 ((q.map (·.1)).getD 0 : Nat)]) := by
  subst hi; subst hj; rw [h]
theorem r_quoted_two (c d : UInt8) (t : List UInt8) : Sp.quoted (c :: d :: t) = if d.toNat = 39 ∧ c.toNat ≠ 39 ∧ c.toNat ≠ 92 ∧ c.toNat ≠ 10 then some (3, c.toNat)
    else match t with
      | e :: _ => if e.toNat = 39 ∧ c.toNat = 92 then (escape d).map fun v => (4, v) else none
      | [] => none := rfl
set_option maxHeartbeats 4000000 in
theorem r_char (s : ByteArray) (k : Nat) (q : Option (Nat × Nat)) (w : World) (hs : s.size ≤ 32768) (hk : k < s.size) (hq : Sp.quoted (s.data.toList.drop (k + 1)) = q) :
    Calls Tryd.prog 28 #[.string s, .int .i64 k] w (CharPost q w) := by
  obtain ⟨k1, hk1⟩ : ∃ j, k + 1 = j := ⟨_, rfl⟩
  obtain ⟨k2, hk2⟩ : ∃ j, k + 2 = j := ⟨_, rfl⟩
  obtain ⟨k3, hk3⟩ : ∃ j, k + 3 = j := ⟨_, rfl⟩
  have w1 : IntKind.i64.wrap ((k : Int) + 1) = (k1 : Int) := by rw [IntWalk.i64_in _ (by omega)]; omega
  have w2 : IntKind.i64.wrap ((k : Int) + 2) = (k2 : Int) := by rw [IntWalk.i64_in _ (by omega)]; omega
  have w3 : IntKind.i64.wrap ((k : Int) + 3) = (k3 : Int) := by rw [IntWalk.i64_in _ (by omega)]; omega
  have p1 : (0 : Int) ≤ (k1 : Int) := Int.natCast_nonneg _
  have p2 : (0 : Int) ≤ (k2 : Int) := Int.natCast_nonneg _
  have p3 : (0 : Int) ≤ (k3 : Int) := Int.natCast_nonneg _
  rw [hk1] at hq
  by_cases h2 : k2 < s.size
  · have h1 : k1 < s.size := by omega
    have e2 : s.data.toList.drop k1 = s[k1] :: s[k2] :: s.data.toList.drop k3 := by
      rw [drop_cons' s k1 h1, show k1 + 1 = k2 by omega, drop_cons' s k2 h2, show k2 + 1 = k3 by omega]
    rw [e2, r_quoted_two] at hq
    obtain ⟨c, hc⟩ : ∃ c, s[k1] = c := ⟨_, rfl⟩
    obtain ⟨d, hd⟩ : ∃ d, s[k2] = d := ⟨_, rfl⟩
    rw [hc, hd] at hq
    have hcl := c.toNat_lt
    have hdl := d.toNat_lt
    have d2 : ((k2 : Int) < (s.size : Int)) := by omega
    have d1 : ((k1 : Int) < (s.size : Int)) := by omega
    by_cases hA : d.toNat = 39 ∧ c.toNat ≠ 39 ∧ c.toNat ≠ 92 ∧ c.toNat ≠ 10
    · rw [if_pos hA] at hq
      obtain ⟨a1, a2, a3, a4⟩ := hA
      have n2 : ((c.toNat : Int) != 39) = true := by simp; omega
      have n3 : ((c.toNat : Int) != 92) = true := by simp; omega
      have n4 : ((c.toNat : Int) != 10) = true := by simp; omega
      have HQ := Lib.hid hq
      clear hq e2 hk1 hk2 hk3
      go_enter Tryd.func28, Tryd.ntmps28
      go_wp2
      all_goals (first | (exfalso; omega) | (go_ret2; exact ⟨char_ret HQ.out.symm rfl rfl, rfl⟩))
    · rw [if_neg hA] at hq
      by_cases dd : d.toNat = 39
      · by_cases c1 : c.toNat = 39
        · by_cases h3 : k3 < s.size
          · have d3 : (k3 : Int) < (s.size : Int) := by omega
            rw [drop_cons' s k3 h3] at hq
            obtain ⟨e, he⟩ : ∃ e, s[k3] = e := ⟨_, rfl⟩
            rw [he] at hq
            have hel := e.toNat_lt
            by_cases ee : e.toNat = 39
            · have HQ : Hid (q = none) := Lib.hid (by rw [← hq]; simp only []; rw [if_neg (by intro h; first | exact absurd h.1 ee | (have := h.2; omega))])
              clear hq e2 hk1 hk2 hk3
              go_enter Tryd.func28, Tryd.ntmps28
              go_wp2
              go_ret2
              exact ⟨char_ret HQ.out rfl rfl, rfl⟩
            · have ne : ((e.toNat : Int) == 39) = false := by simp; omega
              have HQ : Hid (q = none) := Lib.hid (by rw [← hq]; simp only []; rw [if_neg (by intro h; first | exact absurd h.1 ee | (have := h.2; omega))])
              clear hq e2 hk1 hk2 hk3
              go_enter Tryd.func28, Tryd.ntmps28
              go_wp2
              go_ret2
              exact ⟨char_ret HQ.out rfl rfl, rfl⟩
          · have d3 : (s.size : Int) ≤ (k3 : Int) := by omega
            rw [List.drop_eq_nil_of_le (by simp; omega)] at hq
            have HQ : Hid (q = none) := Lib.hid (by rw [← hq])
            clear hq e2 hk1 hk2 hk3
            go_enter Tryd.func28, Tryd.ntmps28
            go_wp2
            go_ret2
            exact ⟨char_ret HQ.out rfl rfl, rfl⟩
        · by_cases c2 : c.toNat = 92
          · by_cases h3 : k3 < s.size
            · have d3 : (k3 : Int) < (s.size : Int) := by omega
              rw [drop_cons' s k3 h3] at hq
              obtain ⟨e, he⟩ : ∃ e, s[k3] = e := ⟨_, rfl⟩
              rw [he] at hq
              have hel := e.toNat_lt
              by_cases ee : e.toNat = 39
              · have HQ : Hid (q = some (4, 39)) := Lib.hid (by rw [← hq]; simp only []; rw [if_pos ⟨ee, by omega⟩]; unfold escape; simp [dd])
                clear hq e2 hk1 hk2 hk3
                go_enter Tryd.func28, Tryd.ntmps28
                go_wp2
                go_ret2
                exact ⟨char_ret HQ.out rfl rfl, rfl⟩
              · have ne : ((e.toNat : Int) == 39) = false := by simp; omega
                have HQ : Hid (q = none) := Lib.hid (by rw [← hq]; simp only []; rw [if_neg (by intro h; first | exact absurd h.1 ee | (have := h.2; omega))])
                clear hq e2 hk1 hk2 hk3
                go_enter Tryd.func28, Tryd.ntmps28
                go_wp2
                go_ret2
                exact ⟨char_ret HQ.out rfl rfl, rfl⟩
            · have d3 : (s.size : Int) ≤ (k3 : Int) := by omega
              rw [List.drop_eq_nil_of_le (by simp; omega)] at hq
              have HQ : Hid (q = none) := Lib.hid (by rw [← hq])
              clear hq e2 hk1 hk2 hk3
              go_enter Tryd.func28, Tryd.ntmps28
              go_wp2
              go_ret2
              exact ⟨char_ret HQ.out rfl rfl, rfl⟩
          · have c3 : c.toNat = 10 := by
              by_cases c3 : c.toNat = 10
              · exact c3
              · exact absurd ⟨dd, c1, c2, c3⟩ hA
            by_cases h3 : k3 < s.size
            · have d3 : (k3 : Int) < (s.size : Int) := by omega
              rw [drop_cons' s k3 h3] at hq
              obtain ⟨e, he⟩ : ∃ e, s[k3] = e := ⟨_, rfl⟩
              rw [he] at hq
              have hel := e.toNat_lt
              by_cases ee : e.toNat = 39
              · have HQ : Hid (q = none) := Lib.hid (by rw [← hq]; simp only []; rw [if_neg (by intro h; first | exact absurd h.1 ee | (have := h.2; omega))])
                clear hq e2 hk1 hk2 hk3
                go_enter Tryd.func28, Tryd.ntmps28
                go_wp2
                go_ret2
                exact ⟨char_ret HQ.out rfl rfl, rfl⟩
              · have ne : ((e.toNat : Int) == 39) = false := by simp; omega
                have HQ : Hid (q = none) := Lib.hid (by rw [← hq]; simp only []; rw [if_neg (by intro h; first | exact absurd h.1 ee | (have := h.2; omega))])
                clear hq e2 hk1 hk2 hk3
                go_enter Tryd.func28, Tryd.ntmps28
                go_wp2
                go_ret2
                exact ⟨char_ret HQ.out rfl rfl, rfl⟩
            · have d3 : (s.size : Int) ≤ (k3 : Int) := by omega
              rw [List.drop_eq_nil_of_le (by simp; omega)] at hq
              have HQ : Hid (q = none) := Lib.hid (by rw [← hq])
              clear hq e2 hk1 hk2 hk3
              go_enter Tryd.func28, Tryd.ntmps28
              go_wp2
              go_ret2
              exact ⟨char_ret HQ.out rfl rfl, rfl⟩
      · have dn := dd
        have nd : ((d.toNat : Int) == 39) = false := by simp; omega
        by_cases h3 : k3 < s.size
        · have d3 : (k3 : Int) < (s.size : Int) := by omega
          rw [drop_cons' s k3 h3] at hq
          obtain ⟨e, he⟩ : ∃ e, s[k3] = e := ⟨_, rfl⟩
          rw [he] at hq
          have hel := e.toNat_lt
          by_cases ee : e.toNat = 39
          · by_cases cc : c.toNat = 92
            · by_cases d110 : d.toNat = 110
              · have HQ : Hid (q = some (4, 10)) := Lib.hid (by rw [← hq]; simp only []; rw [if_pos ⟨ee, by omega⟩]; unfold escape; simp [d110])
                clear hq e2 hk1 hk2 hk3
                go_enter Tryd.func28, Tryd.ntmps28
                go_wp2
                go_ret2
                exact ⟨char_ret HQ.out rfl rfl, rfl⟩
              · have m110 : ((d.toNat : Int) == 110) = false := by simp; omega
                by_cases d116 : d.toNat = 116
                · have HQ : Hid (q = some (4, 9)) := Lib.hid (by rw [← hq]; simp only []; rw [if_pos ⟨ee, by omega⟩]; unfold escape; simp [d116])
                  clear hq e2 hk1 hk2 hk3
                  go_enter Tryd.func28, Tryd.ntmps28
                  go_wp2
                  go_ret2
                  exact ⟨char_ret HQ.out rfl rfl, rfl⟩
                · have m116 : ((d.toNat : Int) == 116) = false := by simp; omega
                  by_cases d48 : d.toNat = 48
                  · have HQ : Hid (q = some (4, 0)) := Lib.hid (by rw [← hq]; simp only []; rw [if_pos ⟨ee, by omega⟩]; unfold escape; simp [d48])
                    clear hq e2 hk1 hk2 hk3
                    go_enter Tryd.func28, Tryd.ntmps28
                    go_wp2
                    go_ret2
                    exact ⟨char_ret HQ.out rfl rfl, rfl⟩
                  · have m48 : ((d.toNat : Int) == 48) = false := by simp; omega
                    by_cases d92 : d.toNat = 92
                    · have HQ : Hid (q = some (4, 92)) := Lib.hid (by rw [← hq]; simp only []; rw [if_pos ⟨ee, by omega⟩]; unfold escape; simp [d92])
                      clear hq e2 hk1 hk2 hk3
                      go_enter Tryd.func28, Tryd.ntmps28
                      go_wp2
                      go_ret2
                      exact ⟨char_ret HQ.out rfl rfl, rfl⟩
                    · have m92 : ((d.toNat : Int) == 92) = false := by simp; omega
                      have HQ : Hid (q = none) := Lib.hid (by rw [← hq]; simp only []; rw [if_pos ⟨ee, by omega⟩]; unfold escape; simp [d110, d116, d48, d92, dn])
                      clear hq e2 hk1 hk2 hk3
                      go_enter Tryd.func28, Tryd.ntmps28
                      go_wp2
                      go_ret2
                      exact ⟨char_ret HQ.out rfl rfl, rfl⟩
            · have nc : ((c.toNat : Int) == 92) = false := by simp; omega
              have HQ : Hid (q = none) := Lib.hid (by rw [← hq]; simp only []; rw [if_neg (by intro h; first | exact absurd h.1 ee | (have := h.2; omega))])
              clear hq e2 hk1 hk2 hk3
              go_enter Tryd.func28, Tryd.ntmps28
              go_wp2
              go_ret2
              exact ⟨char_ret HQ.out rfl rfl, rfl⟩
          · have ne : ((e.toNat : Int) == 39) = false := by simp; omega
            have HQ : Hid (q = none) := Lib.hid (by rw [← hq]; simp only []; rw [if_neg (by intro h; first | exact absurd h.1 ee | (have := h.2; omega))])
            clear hq e2 hk1 hk2 hk3
            go_enter Tryd.func28, Tryd.ntmps28
            go_wp2
            go_ret2
            exact ⟨char_ret HQ.out rfl rfl, rfl⟩
        · have d3 : (s.size : Int) ≤ (k3 : Int) := by omega
          rw [List.drop_eq_nil_of_le (by simp; omega)] at hq
          have HQ : Hid (q = none) := Lib.hid (by rw [← hq])
          clear hq e2 hk1 hk2 hk3
          go_enter Tryd.func28, Tryd.ntmps28
          go_wp2
          go_ret2
          exact ⟨char_ret HQ.out rfl rfl, rfl⟩
  · have hn : q = none := by
      rw [← hq]
      by_cases h1 : k1 < s.size
      · rw [drop_cons' s k1 h1, List.drop_eq_nil_of_le (by simp; omega)]; rfl
      · rw [List.drop_eq_nil_of_le (by simp; omega)]; rfl
    subst hn
    have d2 : ((s.size : Int) ≤ (k2 : Int)) := by omega
    have d3 : ((s.size : Int) ≤ (k3 : Int)) := by omega
    clear hq hk1 hk2 hk3
    go_enter Tryd.func28, Tryd.ntmps28
    go_wp2
    go_ret2
    exact ⟨rfl, rfl⟩
end Go.Proofs.YtbafkkifdfmldaaDoor
