/-
  Contracts of the parser's methods that read a token.
-/
import Derived.Test.YtkgnmlllmihmlaaGreatDoorBase
namespace Go.Proofs.YtkgnmlllmihmlaaGreatDoor
open Go.RowKit Sp Tr
set_option linter.unusedVariables false

theorem take_p {w : World} {c : PC} {vn vt : Value} {E : PE} {s s' : S} (h : PIn w c vn vt E s) (hs : takeT s = some s') :
    Calls Tryz.prog 127 #[.pointer (some ⟨c.p, 0, none⟩)] w (Post c vn vt E (tkV (nowT E s)) s' w) := by
  unfold takeT at hs
  by_cases hc : s.depth ≤ 100 ∧ s.read < big
  · rw [if_pos hc] at hs
    injection hs with hs
    subst hs
    obtain ⟨hd, hr⟩ := hc
    obtain ⟨_, _, _, _, _, d5, d6, _, _, _⟩ := h.cells
    have hp := lt_heap h.head
    have e1 : decide ((100 : Int) < (s.depth : Int)) = false := by simp; omega
    have e2 : ¬ (100 : Int) < (s.depth : Int) := by omega
    have hrr := hr
    unfold big at hr
    have H := Lib.hid h; clear h
    obtain ⟨t, ht⟩ : ∃ t, nowT E s = t := ⟨_, rfl⟩
    have hN : ∀ {w}, PIn w c vn vt E s → Calls Tryz.prog 27 #[.pointer (some ⟨c.p, 0, none⟩)] w (RPost (tkV t) w) := fun h => ht ▸ now_any h
    rw [ht]
    clear ht
    go_enter Tryz.func127, Tryz.ntmps127
    go_wp2_with ((with_reducible refine (hN (H.out.alloc _)).mono ?_); rintro e w1 ⟨rfl, hb⟩; have hsz : w.heap.size < w1.heap.size := (by have := hb.size; simp at this; omega); have hn1 : ¬ c.p = w.heap.size := (by omega); have hn2 : ¬ w.heap.size = c.p := (by omega); obtain ⟨f0, f1, f2, f3, g0, g1, g2, g3⟩ := nv4 (new_at hb); have H1 := Lib.hid ((H.out.alloc _).below hb); obtain ⟨_, _, _, _, _, d51, _, _, _, _⟩ := H1.out.cells; have g51 := H1.out.frozen 5; have hp1 := lt_heap H1.out.head; have HB := Lib.hid hb; clear hb; dsimp only [tkV])
    refine bodyPost_ret (v := tkV t) (by simp [results, Tryz.results127, go_sem, f0, f1, f2, f3, hsz] <;> rfl) rfl ⟨vn, vt, rfl, ((H1.out.putRead (s.read + 1) (by omega)).set4 (H.out.fresh (Nat.le_refl _))).alloc _, ?_⟩
    exact ((((Turn.of_below (((Below.refl _ _).alloc (Nat.le_refl _) _).trans (HB.out.mono (by simp)))).setP 5 _).set4 (Nat.le_refl _)).alloc _)
  · rw [if_neg hc] at hs
    cases hs
theorem took_yes {w : World} {c : PC} {vn vt : Value} {E : PE} {s s' : S} (h : PIn w c vn vt E s) {x : List UInt8} (hx : isT E s x = true) (hs : takeT s = some s') :
    Calls Tryz.prog 99 #[.pointer (some ⟨c.p, 0, none⟩), .string (bt x)] w (Post c vn vt E (.bool true) s' w) := by
  have H := Lib.hid h; clear h
  have HS := Lib.hid hs; clear hs
  have hI := fun {w} (h : PIn w c vn vt E s) => hx ▸ is_p h x
  clear hx
  go_enter Tryz.func99, Tryz.ntmps99
  go_wp2_with (first | ((with_reducible refine (hI H.out).mono ?_); rintro e w1 ⟨rfl, hb⟩; have H1 := Lib.hid (H.out.below hb); have HB := Lib.hid hb; clear hb) | ((with_reducible refine (take_p H1.out HS.out).mono ?_); rintro e w2 ⟨vn', vt', rfl, h2, t2⟩; have H2 := Lib.hid h2; have T2 := Lib.hid t2; clear h2 t2))
  go_ret
  exact ⟨_, _, rfl, H2.out, (Turn.of_below HB.out).trans T2.out⟩
theorem took_no {w : World} {c : PC} {vn vt : Value} {E : PE} {s : S} (h : PIn w c vn vt E s) {x : List UInt8} (hx : isT E s x = false) :
    Calls Tryz.prog 99 #[.pointer (some ⟨c.p, 0, none⟩), .string (bt x)] w (RPost (.bool false) w) := by
  have H := Lib.hid h; clear h
  have hI := fun {w} (h : PIn w c vn vt E s) => hx ▸ is_p h x
  clear hx
  go_enter Tryz.func99, Tryz.ntmps99
  go_wp2_with ((with_reducible refine (hI H.out).mono ?_); rintro e w1 ⟨rfl, hb⟩; have HB := Lib.hid hb; clear hb)
  go_ret
  exact ⟨rfl, HB.out⟩
theorem need_p {w : World} {c : PC} {vn vt : Value} {E : PE} {s s' : S} (h : PIn w c vn vt E s) {x : List UInt8} (hs : needT E x s = some s') :
    Calls Tryz.prog 102 #[.pointer (some ⟨c.p, 0, none⟩), .string (bt x)] w (Post c vn vt E (.tuple #[]) s' w) := by
  unfold needT at hs
  by_cases hx : isT E s x = true
  · rw [if_pos hx] at hs
    have H := Lib.hid h; clear h
    have HS := Lib.hid hs; clear hs
    have HX := Lib.hid hx; clear hx
    go_enter Tryz.func102, Tryz.ntmps102
    go_wp2_with ((with_reducible refine (took_yes H.out HX.out HS.out).mono ?_); rintro e w2 ⟨vn', vt', rfl, h2, t2⟩; have H2 := Lib.hid h2; have T2 := Lib.hid t2; clear h2 t2)
    go_end0
    exact ⟨_, _, rfl, H2.out, T2.out⟩
  · rw [if_neg hx] at hs
    cases hs
theorem kind_p {w : World} {c : PC} {vn vt : Value} {E : PE} {s s' : S} {k : Int} {t : Tok} (h : PIn w c vn vt E s) (hs : kindT E k s = some (t, s')) :
    Calls Tryz.prog 126 #[.pointer (some ⟨c.p, 0, none⟩), .int .i64 k] w (Post c vn vt E (tkV t) s' w) := by
  unfold kindT at hs
  by_cases hx : (nowT E s).k = k
  · rw [if_pos hx] at hs
    obtain ⟨s1, hs1, hs2⟩ := Option.map_eq_some_iff.1 hs
    injection hs2 with h1 h2
    subst h2
    have H := Lib.hid h; clear h
    have HS := Lib.hid hs1; clear hs hs1
    have hN : ∀ {w}, PIn w c vn vt E s → Calls Tryz.prog 27 #[.pointer (some ⟨c.p, 0, none⟩)] w (RPost (tkV t) w) := fun h => h1 ▸ now_any h
    have hT : ∀ {w}, PIn w c vn vt E s → Calls Tryz.prog 127 #[.pointer (some ⟨c.p, 0, none⟩)] w (Post c vn vt E (tkV t) s1 w) := fun h => h1 ▸ take_p h HS.out
    rw [h1] at hx
    have e1 : (t.k != k) = false := by simp [hx]
    have y0 := fld0
    clear hx h1
    go_enter Tryz.func126, Tryz.ntmps126
    go_wp2_with (first | ((with_reducible refine (hN (H.out.alloc _)).mono ?_); rintro e w1 ⟨rfl, hb⟩; have hsz : w.heap.size < w1.heap.size := (by have := hb.size; simp at this; omega); have hh := new_at hb; have H1 := Lib.hid ((H.out.alloc _).below hb); have HB := Lib.hid hb; clear hb) | ((with_reducible refine (hT H1.out).mono ?_); rintro e w2 ⟨vn', vt', rfl, h2, t2⟩; obtain ⟨f0, f1, f2, f3, g0, g1, g2, g3⟩ := nv4 ((t2.kept (H.out.fresh (Nat.le_refl _)) hsz).trans hh); have H2 := Lib.hid h2; have T2 := Lib.hid t2; clear h2 t2 hh; dsimp only [tkV]))
    refine bodyPost_ret (v := tkV t) (by simp [results, Tryz.results126, go_sem, f0, f1, f2, f3] <;> rfl) rfl ⟨_, _, rfl, H2.out.set4 ((H.out.fresh (Nat.le_refl _)).turn hsz T2.out), ?_⟩
    exact ((Turn.of_below (((Below.refl _ _).alloc (Nat.le_refl _) _).trans (HB.out.mono (by simp)))).trans T2.out).set4 (Nat.le_refl _)
  · rw [if_neg hx] at hs
    cases hs
theorem name_p {w : World} {c : PC} {vn vt : Value} {E : PE} {s s' : S} {t : Tok} (h : PIn w c vn vt E s) (hs : kindT E 1 s = some (t, s')) :
    Calls Tryz.prog 98 #[.pointer (some ⟨c.p, 0, none⟩)] w (Post c vn vt E (.string (bt t.text)) s' w) := by
  have H := Lib.hid h; clear h
  have HS := Lib.hid hs; clear hs
  have y1 := fld1
  go_enter Tryz.func98, Tryz.ntmps98
  go_wp2_with ((with_reducible refine (kind_p H.out HS.out).mono ?_); rintro e w2 ⟨vn', vt', rfl, h2, t2⟩; have H2 := Lib.hid h2; have T2 := Lib.hid t2; clear h2 t2)
  go_ret
  exact ⟨_, _, rfl, H2.out, T2.out⟩
theorem number_p {w : World} {c : PC} {vn vt : Value} {E : PE} {s s' : S} {t : Tok} (h : PIn w c vn vt E s) (hs : kindT E 3 s = some (t, s')) :
    Calls Tryz.prog 130 #[.pointer (some ⟨c.p, 0, none⟩)] w (Post c vn vt E (.int .i64 t.n) s' w) := by
  have H := Lib.hid h; clear h
  have HS := Lib.hid hs; clear hs
  have y2 := fld2
  go_enter Tryz.func130, Tryz.ntmps130
  go_wp2_with ((with_reducible refine (kind_p H.out HS.out).mono ?_); rintro e w2 ⟨vn', vt', rfl, h2, t2⟩; have H2 := Lib.hid h2; have T2 := Lib.hid t2; clear h2 t2)
  go_ret
  exact ⟨_, _, rfl, H2.out, T2.out⟩
end Go.Proofs.YtkgnmlllmihmlaaGreatDoor
