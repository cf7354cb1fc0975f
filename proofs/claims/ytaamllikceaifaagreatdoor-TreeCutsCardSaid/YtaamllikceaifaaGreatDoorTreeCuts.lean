/-
  The walk of TreeCuts.
-/
import Derived.Test.YtaamllikceaifaaGreatDoorCuts
import Derived.Test.YtaamllikceaifaaGreatDoorAwake
import Derived.IntWalk
namespace Go.Proofs.YtaamllikceaifaaGreatDoor
open Go.RowKit Sp Tr Go.Shelf
set_option linter.unusedVariables false

theorem cuts_long {w : World} {s : ByteArray} (hs : 3000 < s.size) (henv : EnvT w) :
    Calls Tryz.prog 5 #[.string s] w fun e w' => e = .returned (.bool true) ∧ Below w.heap.size w w' := by
  have HE := Lib.hid henv; clear henv
  have p1 : (s.size : Int) > 3000 := by omega
  have p2 : decide ((s.size : Int) > 3000) = true := by simp; omega
  go_enter Tryz.func5, Tryz.ntmps5
  go_wp2_with ((with_reducible refine (awake_any _ HE.out).mono ?_); rintro e v2 ⟨rfl, hb⟩; have HD := Lib.hid hb; clear hb)
  go_ret
  exact ⟨rfl, HD.out⟩
theorem cuts_err {w : World} {s : ByteArray} {p : Nat} {x : Int} (hs : s.size ≤ 3000) (hx : x ≠ 0) (h : Sp.scan s.data.toList = .error (p, x)) (henv : EnvT w) :
    Calls Tryz.prog 5 #[.string s] w fun e w' => e = .returned (.bool true) ∧ Below w.heap.size w w' := by
  have hsz := henv.lex.sz
  have HE := Lib.hid henv; clear henv
  have HEB : Hid (∀ v, Below w.heap.size w v → EnvT v) := Lib.hid (fun v h => HE.out.below h hsz)
  have hm : s.size ≤ maxLen := by unfold maxLen; omega
  have HM := Lib.hid hm; clear hm
  have HS := Lib.hid h; clear h
  have p1 : ¬ (s.size : Int) > 3000 := by omega
  have p2 : decide ((s.size : Int) > 3000) = false := by simp; omega
  have p3 : (x != 0) = true := by simp [hx]
  go_enter Tryz.func5, Tryz.ntmps5
  go_wp2_with (first | ((with_reducible refine (scan_err s _ _ _ HE.out.lex HM.out HS.out).mono ?_); rintro e v1 ⟨rfl, hb⟩; have HC := Lib.hid hb; clear hb) | ((with_reducible refine (awake_any _ (HEB.out _ HC.out)).mono ?_); rintro e v2 ⟨rfl, hb⟩; have HD := Lib.hid (HC.out.trans (hb.mono HC.out.size)); clear hb))
  go_ret
  exact ⟨rfl, HD.out⟩
theorem cuts_none {w : World} {s : ByteArray} {ts : List Tok} (hs : s.size ≤ 3000) (h : Sp.scan s.data.toList = .ok ts) (hl : ts.length < 2) (henv : EnvT w) :
    Calls Tryz.prog 5 #[.string s] w fun e w' => e = .returned (.bool true) ∧ Below w.heap.size w w' := by
  have hsz := henv.lex.sz
  have HE := Lib.hid henv; clear henv
  have HEB : Hid (∀ v, Below w.heap.size w v → EnvT v) := Lib.hid (fun v h => HE.out.below h hsz)
  have hm : s.size ≤ maxLen := by unfold maxLen; omega
  have HM := Lib.hid hm; clear hm
  have HS := Lib.hid h; clear h
  have p1 : ¬ (s.size : Int) > 3000 := by omega
  have p2 : decide ((s.size : Int) > 3000) = false := by simp; omega
  have p3 : (ts.length : Int) < 2 := by omega
  have p4 : decide ((ts.length : Int) < 2) = true := by simp; omega
  go_enter Tryz.func5, Tryz.ntmps5
  go_wp2_with (first | ((with_reducible refine (scan_ok s _ _ HE.out.lex HM.out HS.out).mono ?_); rintro e v1 ⟨g, cap, rfl, ht, hb⟩; have HC := Lib.hid hb; clear hb ht) | ((with_reducible refine (awake_any _ (HEB.out _ HC.out)).mono ?_); rintro e v2 ⟨rfl, hb⟩; have HD := Lib.hid (HC.out.trans (hb.mono HC.out.size)); clear hb))
  go_ret
  exact ⟨rfl, HD.out⟩
theorem cuts_bad {w : World} {s : ByteArray} {ts : List Tok} {E : PE} {er : Int} {s2 : S} (hs : s.size ≤ 3000) (h : Sp.scan s.data.toList = .ok ts) (hE : envOf ts = some E) (hl : 2 ≤ ts.length) (hb : programM 100000 E = .bad er s2) (her : er ≠ 0) (henv : EnvT w) :
    Calls Tryz.prog 5 #[.string s] w fun e w' => e = .returned (.bool true) ∧ Below w.heap.size w w' := by
  have hsz := henv.lex.sz
  have HE := Lib.hid henv; clear henv
  have HEB : Hid (∀ v, Below w.heap.size w v → EnvT v) := Lib.hid (fun v h => HE.out.below h hsz)
  have hm : s.size ≤ maxLen := by unfold maxLen; omega
  have HM := Lib.hid hm; clear hm
  have hlen : ts.length = E.toks.length + 1 := by rw [(envOf_eq hE).1]; simp
  have hP := fun {w : World} {g cap : Nat} (h : ToksIn w g cap E.toks E.fin) => parse_q (f := 100000) (by omega) h (by rw [hb]; intro h; cases h) (by rw [hb]; intro er s h; cases h; exact her)
  rw [show (⟨E.toks, E.fin⟩ : PE) = E from rfl, hb] at hP
  have HK := Lib.hid (scan_kinds h)
  have HS := Lib.hid h; clear h
  have HF := Lib.hid hE; clear hE hb
  have p1 : ¬ (s.size : Int) > 3000 := by omega
  have p2 : decide ((s.size : Int) > 3000) = false := by simp; omega
  have p3 : ¬ (E.toks.length : Int) + 1 < 2 := by omega
  have p4 : decide ((E.toks.length : Int) + 1 < 2) = false := by simp; omega
  have p5 : (er != 0) = true := by simp [her]
  have HL := Lib.hid hlen; clear hlen
  go_enter Tryz.func5, Tryz.ntmps5
  go_wp2_with (first | ((with_reducible refine (scan_ok s _ _ HE.out.lex HM.out HS.out).mono ?_); rintro e v1 ⟨g, cap, rfl, ht, hb⟩; have HT := Lib.hid (toksIn_of ht (by omega) (HE.out.below hb hsz).names HS.out HK.out HF.out); have HC := Lib.hid hb; rw [HL.out]; clear hb ht) | ((with_reducible refine (hP HT.out).mono ?_); rintro e v3 ⟨rfl, hb⟩; have HC3 := Lib.hid ((HC.out.trans (hb.mono HC.out.size)).alloc (by have := HC.out.size; have := hb.size; omega) (.cells #[.slice none 0 0, .slice none 0 0, .int .i64 0] 26)); clear hb) | ((with_reducible refine (awake_any _ (HEB.out _ HC3.out)).mono ?_); rintro e v2 ⟨rfl, hb⟩; have HD := Lib.hid (HC3.out.trans (hb.mono HC3.out.size)); clear hb))
  go_ret
  exact ⟨rfl, HD.out⟩
theorem cuts_ok {w : World} {s : ByteArray} {ts : List Tok} {E : PE} {q : Int} {s2 s3 : S} {m K : Nat} {t : Tok} (hs : s.size ≤ 3000) (h : Sp.scan s.data.toList = .ok ts) (hE : envOf ts = some E) (hb : programM 100000 E = .ok q s2)
    (hKK : K ≤ 3000) (hK : K = m + 1) (hm : E.toks.length = m + 2) (ht : E.toks[m]? = some t) (hk : t.k ≠ 0) (htp : t.pos + t.text.length ≤ 32768) (hB : programM 100000 ⟨E.toks.dropLast, ⟨0, [], 0, t.pos + t.text.length⟩⟩ = .bad 5 s3) (henv : EnvT w) :
    Calls Tryz.prog 5 #[.string s] w fun e w' => e = .returned (.bool true) ∧ Below w.heap.size w w' := by
  have hsz := henv.lex.sz
  have HE := Lib.hid henv; clear henv
  have HEB : Hid (∀ v, Below w.heap.size w v → EnvT v) := Lib.hid (fun v h => HE.out.below h hsz)
  have hmx : s.size ≤ maxLen := by unfold maxLen; omega
  have HM := Lib.hid hmx; clear hmx
  have hlen0 : ts.length = E.toks.length + 1 := by rw [(envOf_eq hE).1]; simp
  have hlen : ts.length = K + 2 := by omega
  have hP := fun {w : World} {g cap : Nat} (h : ToksIn w g cap E.toks E.fin) => parse_q (f := 100000) (by omega) h (by rw [hb]; intro h; cases h) (by rw [hb]; intro er s h; cases h)
  rw [show (⟨E.toks, E.fin⟩ : PE) = E from rfl, hb, show E.toks.length + 1 = K + 2 by omega] at hP
  have hQ := fun {w : World} {g cap : Nat} (h : ToksIn w g cap E.toks E.fin) => parse_c h hK hm ht hk htp hB
  have HK := Lib.hid (scan_kinds h)
  have HS := Lib.hid h; clear h
  have HF := Lib.hid hE; clear hE hb hB ht hk htp
  have p1 : ¬ (s.size : Int) > 3000 := by omega
  have p2 : decide ((s.size : Int) > 3000) = false := by simp; omega
  have p3 : ¬ (K : Int) + 2 < 2 := by omega
  have p4 : decide ((K : Int) + 2 < 2) = false := by simp; omega
  have hl1 : E.toks.length = K + 1 := by omega
  have HL := Lib.hid hlen; clear hlen hlen0 hK hm
  have q0 : (0 : Int) ≤ (K : Int) := Int.natCast_nonneg _
  go_enter Tryz.func5, Tryz.ntmps5
  go_wp2_with (first | ((with_reducible refine (scan_ok s _ _ HE.out.lex HM.out HS.out).mono ?_); rintro e v1 ⟨g, cap, rfl, ht, hb⟩; have HT := Lib.hid (toksIn_of ht (by omega) (HE.out.below hb hsz).names HS.out HK.out HF.out); have hcap : (K : Int) ≤ (cap : Int) := (by have := HT.out.hc; omega); have HC := Lib.hid hb; rw [HL.out]; clear hb ht) | ((with_reducible refine (hP HT.out).mono ?_); rintro e v3 ⟨vn, vt, rfl, ht3, hb⟩; obtain ⟨an, cn, rfl⟩ := row_slice ht3.nodes; obtain ⟨ay, cy, rfl⟩ := row_slice ht3.types; have HC3 := Lib.hid ((HC.out.trans (hb.mono HC.out.size)).alloc (by have := HC.out.size; have := hb.size; omega) (.cells #[.slice an s2.nodes.length cn, .slice ay s2.types.length cy, .int .i64 q] 26)); have HT3 := Lib.hid (HT.out.below (hb.alloc hb.size (.cells #[.slice an s2.nodes.length cn, .slice ay s2.types.length cy, .int .i64 q] 26))); clear hb ht3) | ((with_reducible refine (hQ HT3.out).mono ?_); rintro e v4 ⟨p, rfl, hb⟩; have HC4 := Lib.hid ((HC3.out.trans (hb.mono HC3.out.size)).alloc (by have := HC3.out.size; have := hb.size; omega) (.cells #[.slice none 0 0, .slice none 0 0, .int .i64 0] 26)); clear hb) | ((with_reducible refine (awake_any _ (HEB.out _ HC4.out)).mono ?_); rintro e v2 ⟨rfl, hb⟩; have HD := Lib.hid (HC4.out.trans (hb.mono HC4.out.size)); clear hb))
  go_ret
  exact ⟨rfl, HD.out⟩
end Go.Proofs.YtaamllikceaifaaGreatDoor
namespace Go.Proofs.YtaamllikceaifaaGreatDoor.treeCuts
open Go.RowKit Sp Tr
theorem walk (a0 : ByteArray) (_w0 : a0.size ≤ maxLen) (w : World) (henv : EnvT w) :
    Calls Tryz.prog 5 #[.string a0] w fun e w' => e = .returned (.bool true) ∧ Below w.heap.size w w' := by
  by_cases hs : a0.size ≤ 3000
  · have hl : a0.data.toList.length = a0.size := by rw [Array.length_toList]; rfl
    cases h : Sp.scan a0.data.toList with
    | error pe => exact cuts_err hs (scan_code h) h henv
    | ok ts =>
      obtain ⟨E, hE, hP, hn⟩ := peok_of (by omega) h
      have hf := program_f (f := 100000) hP (by omega) (by unfold big; omega)
      have hlen : ts.length = E.toks.length + 1 := by rw [(envOf_eq hE).1]; simp
      by_cases h2 : ts.length < 2
      · exact cuts_none hs h h2 henv
      · cases hr : programM 100000 E with
        | ok q s2 =>
          obtain ⟨m, t, s3, h3, h4, h5, h6, h7⟩ := cut_facts (by omega) h hE (by omega) hr
          exact cuts_ok hs h hE hr (by omega) rfl h3 h4 h5 h6 h7 henv
        | bad er s2 => exact cuts_bad hs h hE (by omega) hr (by rw [hr] at hf; exact hf.1) henv
        | out => rw [hr] at hf; exact absurd hf (by intro h; exact h)
  · exact cuts_long (by omega) henv
end Go.Proofs.YtaamllikceaifaaGreatDoor.treeCuts
