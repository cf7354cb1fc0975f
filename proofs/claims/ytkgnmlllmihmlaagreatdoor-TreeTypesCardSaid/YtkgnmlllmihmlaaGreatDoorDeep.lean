/-
  Contracts of typed, leave and deeper.
-/
import Derived.Test.YtkgnmlllmihmlaaGreatDoorTyped
import Derived.Deep.LoopGhost
import Derived.Defers
namespace Go.Proofs.YtkgnmlllmihmlaaGreatDoor
open Go.RowKit Sp Tr
set_option linter.unusedVariables false

set_option maxHeartbeats 1000000 in
theorem typed_p {w : World} {c : PC} {vn vt : Value} {E : PE} {s s' : S} {f : Nat} {r : Int} (h : PIn w c vn vt E s) (hs : typedF f E s = some (r, s')) :
    Calls Tryz.prog 97 #[.pointer (some ⟨c.p, 0, none⟩)] w (Post c vn vt E (.int .i64 r) s' w) := by
  have A0 := Lib.hid (At.start h); clear h
  unfold typedF at hs
  obtain ⟨⟨q, s1⟩, h1, h2⟩ := Option.bind_eq_some_iff.1 hs
  have H1 := Lib.hid h1; clear h1
  have H2 := Lib.hid h2; clear h2 hs
  go_enter Tryz.func97, Tryz.ntmps97
  go_wp2_with ((with_reducible refine (plain_a (Hid.out (by assumption)) H1.out).mono ?_); rintro e v1 ⟨rfl, ha⟩; have B1 := Lib.hid ha; clear ha)
  go_loopg [3] f (fun g o wr => ∃ (q : Int) (s1 : S), o = .int .i64 q ∧ Hid (starsF g E q s1 = some (r, s')) ∧ Hid (At w c vn vt E s1 [] wr))
  case atStart => exact ⟨q, s1, rfl, H2, B1⟩
  case round =>
    clear B1 H1 H2
    obtain ⟨q, s1, rfl, HS, B1⟩ := hrel
    cases gk with
    | zero => exact absurd HS.out (by simp [starsF])
    | succ g =>
      have hs := HS.out
      unfold starsF at hs
      by_cases x0 : isT E s1 [42] = true
      · rw [if_pos x0] at hs
        obtain ⟨s2, h2, h5⟩ := Option.bind_eq_some_iff.1 hs
        obtain ⟨⟨q2, s3⟩, h3, h4⟩ := Option.bind_eq_some_iff.1 h5
        have X0 := Lib.hid x0; clear x0
        have H2 := Lib.hid h2; clear h2
        have H3 := Lib.hid h3; clear h3
        have H4 := Lib.hid h4; clear h4 h5 hs HS
        go_wp2_with (first | ((with_reducible refine (took_y (Hid.out (by assumption)) X0.out H2.out).mono ?_); rintro e v2 ⟨rfl, ha⟩; have B2 := Lib.hid ha; clear ha) | ((with_reducible refine (numbered_a (Hid.out (by assumption)) H3.out).mono ?_); rintro e v3 ⟨rfl, ha⟩; have B3 := Lib.hid ha; clear ha))
        go_roundg g
        case rel => exact ⟨q2, s3, rfl, H4, B3⟩
        case measure => omega
      · rw [if_neg x0] at hs
        injection hs with h5
        injection h5 with h6 h7
        subst h6 h7
        have X0 := Lib.hid (bfalse x0); clear x0
        go_wp2_with ((with_reducible refine (took_n (Hid.out (by assumption)) X0.out).mono ?_); rintro e v2 ⟨rfl, ha⟩; have B2 := Lib.hid ha; clear ha)
        go_ret
        exact B2.out.done rfl
theorem typed_a {w0 w : World} {c : PC} {v u : Value} {E : PE} {s s' : S} {L : List (Nat × Obj)} {f : Nat} {r : Int} (h : At w0 c v u E s L w) (hs : typedF f E s = some (r, s')) :
    Calls Tryz.prog 97 #[.pointer (some ⟨c.p, 0, none⟩)] w (Ans w0 c v u E s' L (.int .i64 r)) := h.lift fun _ _ h => typed_p h hs
theorem leave_d {w : World} {c : PC} {d : Nat} (u : FrameMode) (hu : u ≠ .run) (h1 : w.cell? ⟨c.p, 6, none⟩ = some (.int .i64 ((d + 1 : Nat) : Int))) (h2 : w.frozen? ⟨c.p, 6, none⟩ = false) (hd : d < 1099511627776) :
    CallsD Tryz.prog 143 #[.pointer (some ⟨c.p, 0, none⟩)] u w fun e u' w' => u' = u ∧ (e = .returned (.tuple #[]) ∧ w' = w.setCell ⟨c.p, 6, none⟩ (.int .i64 d)) := by
  go_enter_d Tryz.func143, Tryz.ntmps143
  go_wp2
  go_end0
  exact ⟨rfl, rfl⟩
/-- What is read one level deeper. -/
theorem deeper_p {w : World} {c : PC} {vn vt : Value} {E : PE} {s s1 : S} {fn : Nat} {r : Int} (eg : ∀ args w, (callFunc fn args).run Tryz.prog w = .ok (.enter fn args) w) (h : PIn w c vn vt E s) (hd : s.depth < big) (hs : s1.depth = s.depth + 1)
    (hC : ∀ w1 vn1 vt1, PIn w1 c vn1 vt1 E { s with depth := s.depth + 1 } → Calls Tryz.prog fn #[.pointer (some ⟨c.p, 0, none⟩)] w1 (Post c vn1 vt1 E (.int .i64 r) s1 w1)) :
    Calls Tryz.prog 139 #[.pointer (some ⟨c.p, 0, none⟩), .func (.func fn) #[.pointer (some ⟨c.p, 0, none⟩)] #[]] w (Post c vn vt E (.int .i64 r) { s1 with depth := s.depth } w) := by
  have d6 := h.cells.2.2.2.2.2.2.1
  have f6 := h.frozen 6
  have hp := lt_heap h.head
  have hdd := hd
  unfold big at hdd
  have HP : Hid (PIn (w.setCell ⟨c.p, 6, none⟩ (.int .i64 ((s.depth : Int) + 1))) c vn vt E { s with depth := s.depth + 1 }) := Lib.hid (h.putDepth (s.depth + 1) (by unfold big; omega))
  have H := Lib.hid h; clear h
  go_enter_defers Tryz.func139, Tryz.ntmps139
  go_wp2_with ((with_reducible refine (hC _ _ _ HP.out).mono ?_); rintro e w1 ⟨vn', vt', rfl, h2, t2⟩; have H2 := Lib.hid h2; have T2 := Lib.hid t2; clear h2 t2)
  have c6 : w1.cell? ⟨c.p, 6, none⟩ = some (.int .i64 ((s.depth + 1 : Nat) : Int)) := by rw [← hs]; exact H2.out.cells.2.2.2.2.2.2.1
  refine leaves_cons (f := 143) (args := #[.pointer (some ⟨c.p, 0, none⟩)]) (by simp) (by simp [go_sem]) ?_
  refine (leave_d .returning (by simp) c6 (H2.out.frozen 6) hdd).mono ?_
  rintro e u' w'' ⟨rfl, rfl, rfl⟩
  exact ⟨_, results_tmp rfl _ _ _, _, _, rfl, H2.out.putDepth s.depth (by unfold big; omega), (((Turn.refl _ _ _ _).setP 6 _).trans T2.out).setP 6 _⟩
/-- A method of the parser that reads on, as a value. -/
def Reads (c : PC) (E : PE) (fn : Nat) (m : S → Option (Int × S)) : Prop :=
  ∀ w1 vn1 vt1 s r s1, m s = some (r, s1) → PIn w1 c vn1 vt1 E s → Calls Tryz.prog fn #[.pointer (some ⟨c.p, 0, none⟩)] w1 (Post c vn1 vt1 E (.int .i64 r) s1 w1)
theorem Reads.a {w0 w : World} {c : PC} {v u : Value} {E : PE} {s s' : S} {L : List (Nat × Obj)} {fn : Nat} {m : S → Option (Int × S)} {r : Int} (hm : Reads c E fn m) (h : At w0 c v u E s L w) (hs : m s = some (r, s')) :
    Calls Tryz.prog fn #[.pointer (some ⟨c.p, 0, none⟩)] w (Ans w0 c v u E s' L (.int .i64 r)) := h.lift fun _ _ h => hm _ _ _ _ _ _ hs h
theorem deeper_a {w0 w : World} {c : PC} {v u : Value} {E : PE} {s s' : S} {L : List (Nat × Obj)} {fn : Nat} {m : S → Option (Int × S)} {r : Int} (hm : Reads c E fn m) (eg : ∀ args w, (callFunc fn args).run Tryz.prog w = .ok (.enter fn args) w) (h : At w0 c v u E s L w) (hs : deep m s = some (r, s')) :
    Calls Tryz.prog 139 #[.pointer (some ⟨c.p, 0, none⟩), .func (.func fn) #[.pointer (some ⟨c.p, 0, none⟩)] #[]] w (Ans w0 c v u E s' L (.int .i64 r)) := by
  unfold deep at hs
  by_cases hd : s.depth < big
  case neg => rw [if_neg hd] at hs; cases hs
  rw [if_pos hd] at hs
  obtain ⟨⟨q, s1⟩, h1, h2⟩ := Option.bind_eq_some_iff.1 hs
  by_cases he : s1.depth = s.depth + 1
  case neg => rw [if_neg he] at h2; cases h2
  rw [if_pos he] at h2
  injection h2 with h3
  injection h3 with h4 h5
  subst h4 h5
  exact h.lift fun _ _ h => deeper_p eg h hd he fun w1 vn1 vt1 hp => hm _ _ _ _ _ _ h1 hp
end Go.Proofs.YtkgnmlllmihmlaaGreatDoor
