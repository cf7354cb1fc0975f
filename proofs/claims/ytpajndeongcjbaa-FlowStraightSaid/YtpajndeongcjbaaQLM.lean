/-
  Layer 11: what Ahead and Fold tell, by what holds together; there is such; a row of instructions without jumps.
  Contracts of doppellaw07's Small, Few and Result.
  doppellaw11's awake, and few.
-/
import Derived.Test.YtpajndeongcjbaaQG11FoldM
import Derived.Test.YtpajndeongcjbaaQLL
import Derived.Test.YtpajndeongcjbaaR7RightF
namespace Go.Proofs.Ytpajndeongcjbaa
set_option maxRecDepth 100000
open Go.RowKit Cd
set_option linter.unusedVariables false
set_option linter.unusedSimpArgs false

theorem round_all {g : Fnc} (hR : RightF g) {S : List (List Val)} {o : List Int} {k : Nat} {i : Ins} {v : List Val} (h : InvV g S o (fun q => q = k)) (hi : g.code[k]? = some i) (hv : S[k]? = some v) (hf : fullV v) (ws : List Int) (hws : waysV i v (k : Int) = ws) (xq : Val) (hxq : (behV i v).getD ⟨2, 0⟩ = xq) :
    ∀ j, j ≤ ws.length → ∃ (S' : List (List Val)) (op' : List Int), lackS S' + op'.length ≤ lackS S + o.length ∧ InvV g S' op' (fun q => q = k) ∧ S'[k]? = some v ∧ ∀ q ∈ ws.take j, ∀ u, S'[q.toNat]? = some u → withinL (setV i v xq) u
  | 0, _ => ⟨S, o, Nat.le_refl _, h, hv, fun q hq => by simp at hq⟩
  | j + 1, hj => by
    obtain ⟨S', op', h1, h2, h3, h4⟩ := round_all hR h hi hv hf ws hws xq hxq j (by omega)
    obtain ⟨q, hq⟩ : ∃ q, ws[j]? = some q := ⟨_, List.getElem?_eq_getElem (by omega)⟩
    have hqw : q ∈ waysV i v (k : Int) := by rw [hws]; exact List.mem_of_getElem? hq
    obtain ⟨hbs, hgo⟩ := ways_some hqw
    rw [hxq] at hbs
    have hkn := (List.getElem?_eq_some_iff.1 hi).1
    have hins := closed_of hR (k : Int) ⟨by omega, by omega⟩ q (by rw [nexts_at (by rw [Int.toNat_natCast]; exact hi)]; exact goesV_next hgo)
    obtain ⟨p, rfl⟩ : ∃ p : Nat, q = (p : Int) := ⟨q.toNat, by have := hins.1; omega⟩
    obtain ⟨old, hold⟩ : ∃ u, S'[p]? = some u := ⟨_, List.getElem?_eq_getElem (by have := h2.len; have := hins.2; omega)⟩
    obtain ⟨e1, e2, e3, e4⟩ := edge_step hR h2 hi h3 hf hbs hgo hold h4 hq
    refine ⟨_, _, ?_, e1, e2, e3⟩
    split at e4
    · rename_i he; rw [if_pos he]; omega
    · rename_i he; rw [if_neg he]; simp; omega
theorem sol_from {g : Fnc} (hR : RightF g) : ∀ (n : Nat) (S : List (List Val)) (op : List Int), lackS S + op.length ≤ n → InvV g S op (fun _ => False) → ∃ S', Sol g S' := by
  intro n
  induction n with
  | zero =>
    intro S op hn h
    obtain rfl : op = [] := List.eq_nil_of_length_eq_zero (by omega)
    exact ⟨S, h.sol⟩
  | succ n ih =>
    intro S op hn h
    rcases List.eq_nil_or_concat op with rfl | ⟨o, x, rfl⟩
    · exact ⟨S, h.sol⟩
    · rw [List.concat_eq_append] at *
      obtain ⟨k, v, rfl, hv, hf⟩ := h.opn x (by simp)
      obtain ⟨i, hi⟩ : ∃ i, g.code[k]? = some i := ⟨_, List.getElem?_eq_getElem (by have := (List.getElem?_eq_some_iff.1 hv).1; have := h.len; omega)⟩
      obtain ⟨S', op', h1, h2, h3, h4⟩ := round_all hR h.pop hi hv hf _ rfl _ rfl _ (Nat.le_refl _)
      rw [List.take_length] at h4
      simp only [List.length_append, List.length_cons, List.length_nil] at hn
      exact ih S' op' (by omega) (h2.done hi h3 (fun x hx p hp u hu => by
        obtain ⟨e1, e2⟩ := ways_done hx hp
        rw [e2]
        exact h4 p e1 u hu))
theorem sol_exists {g : Fnc} (hR : RightF g) : ∃ S, Sol g S := sol_from hR _ _ _ (Nat.le_refl _) (InvV.begin hR)
/-- The function's code lies in memory. -/
structure FnK (w : World) (r : FnR) : Prop where
  code : CodeAt w w.heap.size r
  len : r.f.code.length ≤ maxLen
theorem FnK.below {w w' : World} {r : FnR} (h : FnK w r) (hb : Below w.heap.size w w') : FnK w' r := ⟨RowAt.mono (h.code.below hb) hb.size (Nat.le_refl _), h.len⟩
theorem ahead_s {r : FnR} {w : World} {S : List (List Val)} (h : FnK w r) (hr : RightF r.f) (hsz : r.f.code.length * (r.f.regs.toNat + 1) ≤ 65536) (hS : Sol r.f S) : Calls Try.prog 41 #[fnV r] w (AhPost S w) := by
  refine (ahead_yes r w h.code h.len hr hsz).mono ?_
  rintro e w' ⟨S', h1, h2⟩
  rw [hS.unique h1]
  exact h2
theorem ahead_n {r : FnR} {w : World} (h : FnK w r) (hr : rightF r.f = false) : Calls Try.prog 41 #[fnV r] w (AhPost [] w) := ahead_no r w h.code h.len hr
theorem sol_ne {g : Fnc} {S : List (List Val)} (hR : RightF g) (hS : Sol g S) : S ≠ [] := fun e => by have := hS.pre.len; have := hR.code; rw [e] at *; simp at *; omega
theorem fold_s {r : FnR} {w : World} {S : List (List Val)} (h : FnK w r) (hr : RightF r.f) (hsz : r.f.code.length * (r.f.regs.toNat + 1) ≤ 65536) (hS : Sol r.f S) : Calls Try.prog 42 #[fnV r] w (FoPost (foldF S r.f) (foldN r.f.code S) w) :=
  foldm_any (Lib.hid (fun i b v V => fold_c i b v V)) r w S h.code (by have := hr.code; omega) (fun V hV => ahead_s ⟨hV, h.len⟩ hr hsz hS) (.inr ⟨hr, hS⟩) _ _ (by rw [if_neg (sol_ne hr hS)]) rfl
theorem fold_n {r : FnR} {w : World} (h : FnK w r) (hl : r.f.code.length ≤ 10000) (hr : rightF r.f = false) : Calls Try.prog 42 #[fnV r] w (FoPost r.f 0 w) :=
  foldm_any (Lib.hid (fun i b v V => fold_c i b v V)) r w [] h.code hl (fun V hV => ahead_n ⟨hV, h.len⟩ hr) (.inl rfl) _ _ (by rw [if_pos rfl]) (by cases r.f.code <;> rfl)
/-- What is known of a row of instructions that goes straight on. -/
theorem chain_sol {g : Fnc} {S L : List (List Val)} (hR : RightF g) (hS : Sol g S) (hl : L.length = g.code.length) (h0 : L[0]? = some (firstL g))
    (hst : ∀ (k : Nat) (i : Ins) (v : List Val), g.code[k]? = some i → L[k]? = some v → (k + 1 < g.code.length → ∃ x, behV i v = some x ∧ goesV i v k = [(k : Int) + 1] ∧ L[k + 1]? = some (setV i v x)) ∧ (k + 1 = g.code.length → goesV i v k = [])) : S = L := by
  have hlen : ∀ (k : Nat) (v : List Val), L[k]? = some v → (v.length : Int) = g.regs := by
    intro k
    induction k with
    | zero =>
      intro v hv
      rw [h0] at hv; injection hv with hv; subst hv
      rw [firstL_len]
      have := hR.params; have := hR.regs; omega
    | succ k ih =>
      intro v hv
      have hk := (List.getElem?_eq_some_iff.1 hv).1
      obtain ⟨u, hu⟩ : ∃ u, L[k]? = some u := ⟨_, List.getElem?_eq_getElem (by omega)⟩
      obtain ⟨i, hi⟩ : ∃ i, g.code[k]? = some i := ⟨_, List.getElem?_eq_getElem (by omega)⟩
      obtain ⟨x, _, _, h3⟩ := (hst k i u hi hu).1 (by omega)
      rw [h3] at hv; injection hv with hv; subst hv
      rw [setV_len]; exact ih u hu
  have pL : PreV g L := by
    refine ⟨hl, fun v hv => ?_, fun v hv => ?_, fun k i v x hi hv hf hx p hp w hw => ?_⟩
    · obtain ⟨k, hk⟩ := List.mem_iff_getElem?.1 hv
      exact hlen k v hk
    · rw [h0] at hv; injection hv with hv; subst hv; exact .refl _
    · have hk := (List.getElem?_eq_some_iff.1 hi).1
      by_cases hk1 : k + 1 < g.code.length
      · obtain ⟨y, h1, h2, h3⟩ := (hst k i v hi hv).1 hk1
        rw [h1] at hx; injection hx with hx; subst hx
        rw [h2, List.mem_singleton] at hp
        rw [hp, show ((k : Int) + 1).toNat = k + 1 by omega, h3] at hw
        injection hw with hw; subst hw
        exact .refl _
      · rw [(hst k i v hi hv).2 (by omega)] at hp; cases hp
  have key : ∀ k : Nat, k < g.code.length → S[k]? = L[k]? := by
    intro k
    induction k with
    | zero =>
      intro hk
      obtain ⟨v, hv⟩ : ∃ v, S[0]? = some v := ⟨_, List.getElem?_eq_getElem (by rw [hS.pre.len]; exact hk)⟩
      rw [hv, h0]
      exact congrArg some (withinL.anti (hS.ok v (List.mem_of_getElem? hv)) (firstL_ok g) (hS.least L pL 0 v _ hv h0) (hS.pre.first v hv))
    | succ k ih =>
      intro hk
      have hk0 := ih (by omega)
      obtain ⟨u, hu⟩ : ∃ u, L[k]? = some u := ⟨_, List.getElem?_eq_getElem (by omega)⟩
      obtain ⟨i, hi⟩ : ∃ i, g.code[k]? = some i := ⟨_, List.getElem?_eq_getElem (by omega)⟩
      obtain ⟨v, hv⟩ : ∃ v, S[k + 1]? = some v := ⟨_, List.getElem?_eq_getElem (by rw [hS.pre.len]; exact hk)⟩
      obtain ⟨x, h1, h2, h3⟩ := (hst k i u hi hu).1 hk
      rw [hu] at hk0
      have hI := hR.all i (List.mem_of_getElem? hi)
      have hlu := hlen k u hu
      have hoku := hS.ok u (List.mem_of_getElem? hk0)
      have hful : fullV u := by
        have hge : ∀ j : Nat, j ≤ k → ∀ u : List Val, L[j]? = some u → fullV u := by
          intro j
          induction j with
          | zero => intro _ u hu; rw [h0] at hu; injection hu with hu; subst hu; exact firstL_full g
          | succ j ihj =>
            intro hj u hu
            obtain ⟨u', hu'⟩ : ∃ u', L[j]? = some u' := ⟨_, List.getElem?_eq_getElem (by omega)⟩
            obtain ⟨i', hi'⟩ : ∃ i, g.code[j]? = some i := ⟨_, List.getElem?_eq_getElem (by omega)⟩
            obtain ⟨x', e1, _, e3⟩ := (hst j i' u' hi' hu').1 (by omega)
            rw [e3] at hu; injection hu with hu; subst hu
            have hf' := ihj (by omega) u' hu'
            exact set_full hf' (beh_full (hR.all i' (List.mem_of_getElem? hi')) (hlen j u' hu') hf' e1)
        exact hge k (Nat.le_refl _) u hu
      rw [hv, h3]
      refine congrArg some (withinL.anti (hS.ok v (List.mem_of_getElem? hv)) (set_ok hoku (beh_ok hI hlu hoku h1)) (hS.least L pL (k + 1) v _ hv h3) ?_)
      exact hS.pre.edge k i u x hi hk0 hful h1 ((k : Int) + 1) (by rw [h2]; simp) v (by rw [show ((k : Int) + 1).toNat = k + 1 by omega]; exact hv)
  apply List.ext_getElem?
  intro k
  by_cases hk : k < g.code.length
  · exact key k hk
  · rw [List.getElem?_eq_none (by have := hS.pre.len; omega), List.getElem?_eq_none (by omega)]
end Go.Proofs.Ytpajndeongcjbaa
namespace Go.Proofs.Ytpajndeongcjbaa
set_option maxRecDepth 100000
open Go.RowKit Cd
set_option linter.unusedVariables false
set_option linter.unusedSimpArgs false

/-- May a function be gone through? -/
def Cd.smallB (f : Fnc) : Bool := decide (f.name.length ≤ 50) && decide (f.code.length ≤ 60) && !(decide (40 < f.regs) && decide (f.regs ≤ 4096)) && f.code.all (fun i => decide (i.text.length ≤ 50))
def Cd.fewB (u : Uni) : Bool := decide (u.funcs.length ≤ 6) && decide (u.globals.length ≤ 10) && u.funcs.all smallB && u.globals.all (fun g => decide (g.name.length ≤ 50))
theorem all_noT {α : Type} {p : α → Bool} {l : List α} {k : Nat} {x : α} (h : l[k]? = some x) (hp : p x = false) : l.all p = false := by
  rw [List.all_eq_false]; exact ⟨x, List.mem_of_getElem? h, by simp [hp]⟩
theorem all_yesT {α : Type} {p : α → Bool} {l : List α} {k : Nat} {x : α} (ha : (l.take k).all p = true) (h : l[k]? = some x) (hp : p x = true) : (l.take (k + 1)).all p = true := by
  obtain ⟨hk, hx⟩ := List.getElem?_eq_some_iff.1 h
  rw [List.take_succ_eq_append_getElem hk, hx, List.all_append, ha]; simp [hp]
set_option maxHeartbeats 4000000 in
theorem small_w (name : List UInt8) (params regs frame : Int) (code : List Ins) (ca : Option Addr) (cc : Nat) (m : Bool) (B : Nat) (w : World) (hc : CodeAt w B ⟨⟨name, params, regs, frame, code⟩, ca, cc⟩) (hml : code.length ≤ 2 ^ 63 - 1) (hBw : B ≤ w.heap.size) (hm : smallB ⟨name, params, regs, frame, code⟩ = m) (y0 : name.length ≤ 50) (y1 : code.length ≤ 60) (y2 : ¬ 40 < regs ∨ ¬ regs ≤ 4096) :
    Calls Try.prog 43 #[fnV ⟨⟨name, params, regs, frame, code⟩, ca, cc⟩] w (RPost (.bool m) w) := by
  have HC := Lib.hid hc; clear hc
  have HM := Lib.hid (show code.all (fun i => decide (i.text.length ≤ 50)) = m by rw [← hm]; unfold smallB; rw [decide_eq_true (show (Fnc.name ⟨name, params, regs, frame, code⟩).length ≤ 50 from y0), decide_eq_true (show (Fnc.code ⟨name, params, regs, frame, code⟩).length ≤ 60 from y1)]; rcases y2 with y2 | y2; rw [decide_eq_false (show ¬ 40 < (Fnc.regs ⟨name, params, regs, frame, code⟩) from y2)]; simp; rw [decide_eq_false (show ¬ (Fnc.regs ⟨name, params, regs, frame, code⟩) ≤ 4096 from y2)]; simp)
  clear hm
  have t0 : decide ((name.length : Int) > (50 : Int)) = false := by simp <;> omega
  have t0' : decide ((50 : Int) < (name.length : Int)) = false := by simp <;> omega
  have t1 : decide ((code.length : Int) > (60 : Int)) = false := by simp <;> omega
  have t1' : decide ((60 : Int) < (code.length : Int)) = false := by simp <;> omega
  by_cases y3 : 40 < regs
  rotate_left
  · have t2 : decide (regs > (40 : Int)) = false := by simp <;> omega
    have t2' : decide ((40 : Int) < regs) = false := by simp <;> omega
    go_enter Try.func43, Try.ntmps43
    go_wp2
    go_loopw [28] (fun s28 wr => ∃ k : Nat, k ≤ code.length ∧ s28 = .int .i64 k ∧ Hid (Below w.heap.size w wr) ∧ Hid ((code.take k).all (fun i => decide (i.text.length ≤ 50)) = true)) (fun i wr => code.length - (intOf i).toNat)
    case atStart => exact ⟨0, by omega, rfl, Lib.hid ((Below.refl _ _).alloc (Nat.le_refl _) _), Lib.hid (by simp)⟩
    case round =>
      obtain ⟨k, hk, rfl, HB, HA⟩ := hrel
      by_cases hlt : k < code.length
      · obtain ⟨x, hx⟩ : ∃ x, code[k]? = some x := ⟨_, List.getElem?_eq_getElem hlt⟩
        have HC2 := Lib.hid (HC.out.below (HB.out.mono hBw))
        obtain ⟨b, off, hca, hb, hBw2, q0, q1, q2, q3, q4, q5, q6, q7, q8, q9, q10, q11, q12, q13, q14⟩ := HC2.out.cells hx
        simp only at hca
        subst hca
        have HX := Lib.hid hx; clear hx
        have p0 : (0 : Int) ≤ (k : Int) := Int.natCast_nonneg _
        have p1 : (k : Int) < (code.length : Int) := by omega
        have HB2 := Lib.hid (HB.out.alloc HB.out.size (inO x))
        by_cases z0 : x.text.length ≤ 50
        · have u0 : decide ((x.text.length : Int) > (50 : Int)) = false := by simp <;> omega
          have u1 : decide ((50 : Int) < (x.text.length : Int)) = false := by simp <;> omega
          have HA2 := Lib.hid (all_yesT HA.out HX.out (by simpa using z0))
          go_wp2
          go_roundw
          case rel => exact ⟨k + 1, by omega, by go_num, HB2, HA2⟩
          case measure => simp [intOf]; omega
        · have u0 : decide ((x.text.length : Int) > (50 : Int)) = true := by simp <;> omega
          have u1 : decide ((50 : Int) < (x.text.length : Int)) = true := by simp <;> omega
          have E := Lib.hid (show m = false by rw [← HM.out]; exact all_noT HX.out (by simpa using z0))
          go_wp2
          go_ret
          exact ⟨by rw [E.out]; rfl, HB2.out⟩
      · obtain rfl : k = code.length := by omega
        have E := Lib.hid (show m = true by rw [← HM.out]; have := HA.out; rwa [List.take_length] at this)
        go_wp2
        go_ret
        exact ⟨by rw [E.out]; rfl, HB.out⟩
  · have t2 : decide (regs > (40 : Int)) = true := by simp <;> omega
    have t2' : decide ((40 : Int) < regs) = true := by simp <;> omega
    have t3 : decide (regs ≤ (4096 : Int)) = false := by simp <;> omega
    go_enter Try.func43, Try.ntmps43
    go_wp2
    go_loopw [28] (fun s28 wr => ∃ k : Nat, k ≤ code.length ∧ s28 = .int .i64 k ∧ Hid (Below w.heap.size w wr) ∧ Hid ((code.take k).all (fun i => decide (i.text.length ≤ 50)) = true)) (fun i wr => code.length - (intOf i).toNat)
    case atStart => exact ⟨0, by omega, rfl, Lib.hid ((Below.refl _ _).alloc (Nat.le_refl _) _), Lib.hid (by simp)⟩
    case round =>
      obtain ⟨k, hk, rfl, HB, HA⟩ := hrel
      by_cases hlt : k < code.length
      · obtain ⟨x, hx⟩ : ∃ x, code[k]? = some x := ⟨_, List.getElem?_eq_getElem hlt⟩
        have HC2 := Lib.hid (HC.out.below (HB.out.mono hBw))
        obtain ⟨b, off, hca, hb, hBw2, q0, q1, q2, q3, q4, q5, q6, q7, q8, q9, q10, q11, q12, q13, q14⟩ := HC2.out.cells hx
        simp only at hca
        subst hca
        have HX := Lib.hid hx; clear hx
        have p0 : (0 : Int) ≤ (k : Int) := Int.natCast_nonneg _
        have p1 : (k : Int) < (code.length : Int) := by omega
        have HB2 := Lib.hid (HB.out.alloc HB.out.size (inO x))
        by_cases z0 : x.text.length ≤ 50
        · have u0 : decide ((x.text.length : Int) > (50 : Int)) = false := by simp <;> omega
          have u1 : decide ((50 : Int) < (x.text.length : Int)) = false := by simp <;> omega
          have HA2 := Lib.hid (all_yesT HA.out HX.out (by simpa using z0))
          go_wp2
          go_roundw
          case rel => exact ⟨k + 1, by omega, by go_num, HB2, HA2⟩
          case measure => simp [intOf]; omega
        · have u0 : decide ((x.text.length : Int) > (50 : Int)) = true := by simp <;> omega
          have u1 : decide ((50 : Int) < (x.text.length : Int)) = true := by simp <;> omega
          have E := Lib.hid (show m = false by rw [← HM.out]; exact all_noT HX.out (by simpa using z0))
          go_wp2
          go_ret
          exact ⟨by rw [E.out]; rfl, HB2.out⟩
      · obtain rfl : k = code.length := by omega
        have E := Lib.hid (show m = true by rw [← HM.out]; have := HA.out; rwa [List.take_length] at this)
        go_wp2
        go_ret
        exact ⟨by rw [E.out]; rfl, HB.out⟩
set_option maxHeartbeats 4000000 in
theorem small_v (name : List UInt8) (params regs frame : Int) (code : List Ins) (ca : Option Addr) (cc : Nat) (m : Bool) (B : Nat) (w : World) (hc : CodeAt w B ⟨⟨name, params, regs, frame, code⟩, ca, cc⟩) (hml : code.length ≤ maxLen) (hBw : B ≤ w.heap.size) (hm : smallB ⟨name, params, regs, frame, code⟩ = m) :
    Calls Try.prog 43 #[fnV ⟨⟨name, params, regs, frame, code⟩, ca, cc⟩] w (RPost (.bool m) w) := by
  unfold maxLen at hml
  have HC := Lib.hid hc; clear hc
  have HM := Lib.hid hm; clear hm
  by_cases y0 : name.length ≤ 50
  rotate_left
  · have t0 : decide ((name.length : Int) > (50 : Int)) = true := by simp <;> omega
    have t0' : decide ((50 : Int) < (name.length : Int)) = true := by simp <;> omega
    have E := Lib.hid (show m = false by rw [← HM.out]; unfold smallB; rw [decide_eq_false y0]; rfl)
    go_enter Try.func43, Try.ntmps43
    go_wp2
    go_ret
    exact ⟨by rw [E.out]; rfl, (Below.refl _ _).alloc (Nat.le_refl _) _⟩
  have t0 : decide ((name.length : Int) > (50 : Int)) = false := by simp <;> omega
  have t0' : decide ((50 : Int) < (name.length : Int)) = false := by simp <;> omega
  by_cases y1 : code.length ≤ 60
  rotate_left
  · have t1 : decide ((code.length : Int) > (60 : Int)) = true := by simp <;> omega
    have t1' : decide ((60 : Int) < (code.length : Int)) = true := by simp <;> omega
    have E := Lib.hid (show m = false by rw [← HM.out]; unfold smallB; rw [decide_eq_false y1]; simp)
    go_enter Try.func43, Try.ntmps43
    go_wp2
    go_ret
    exact ⟨by rw [E.out]; rfl, (Below.refl _ _).alloc (Nat.le_refl _) _⟩
  have t1 : decide ((code.length : Int) > (60 : Int)) = false := by simp <;> omega
  have t1' : decide ((60 : Int) < (code.length : Int)) = false := by simp <;> omega
  by_cases y2 : 40 < regs
  · have t2 : decide (regs > (40 : Int)) = true := by simp <;> omega
    have t2' : decide ((40 : Int) < regs) = true := by simp <;> omega
    by_cases y3 : regs ≤ 4096
    · have t3 : decide (regs ≤ (4096 : Int)) = true := by simp <;> omega
      have E := Lib.hid (show m = false by rw [← HM.out]; unfold smallB; rw [decide_eq_true (show 40 < (Fnc.regs ⟨name, params, regs, frame, code⟩) from y2), decide_eq_true (show (Fnc.regs ⟨name, params, regs, frame, code⟩) ≤ 4096 from y3)]; simp)
      go_enter Try.func43, Try.ntmps43
      go_wp2
      go_ret
      exact ⟨by rw [E.out]; rfl, (Below.refl _ _).alloc (Nat.le_refl _) _⟩
    · have t3 : decide (regs ≤ (4096 : Int)) = false := by simp <;> omega
      exact small_w name params regs frame code ca cc m B w HC.out hml hBw HM.out y0 y1 (.inr y3)
  · exact small_w name params regs frame code ca cc m B w HC.out hml hBw HM.out y0 y1 (.inl y2)
theorem small_any (r : FnR) (m : Bool) (B : Nat) (w : World) (hc : CodeAt w B r) (hml : r.f.code.length ≤ maxLen) (hBw : B ≤ w.heap.size) (hm : smallB r.f = m) :
    Calls Try.prog 43 #[fnV r] w (RPost (.bool m) w) := small_v r.f.name r.f.params r.f.regs r.f.frame r.f.code r.ca r.cc m B w hc hml hBw hm
end Go.Proofs.Ytpajndeongcjbaa
namespace Go.Proofs.Ytpajndeongcjbaa
set_option maxRecDepth 100000
open Go.RowKit Cd
set_option linter.unusedVariables false
set_option linter.unusedSimpArgs false

abbrev awP : Ins := ⟨3, 1, 2, 0, 1, 0, [], 0, 0, 0, 0, 0, 0, 0, -1⟩
abbrev awR : Ins := ⟨13, 0, -1, 2, 0, 0, [], 0, 0, 0, 0, 0, 0, 0, -1⟩
abbrev awC : List Ins := [constI 0 2, constI 1 3, awP, awR]
abbrev awF : Fnc := ⟨[102], 0, 3, 0, awC⟩
theorem aw_right : RightF awF := rightF_iff.1 (by decide +kernel)
def awL : List (List Val) := [[⟨1, 0⟩, ⟨1, 0⟩, ⟨1, 0⟩], [⟨1, 2⟩, ⟨1, 0⟩, ⟨1, 0⟩], [⟨1, 2⟩, ⟨1, 3⟩, ⟨1, 0⟩], [⟨1, 2⟩, ⟨1, 3⟩, ⟨1, 5⟩]]
theorem aw_sol {S : List (List Val)} (h : Sol awF S) : S = awL := by
  refine chain_sol aw_right h rfl (by decide +kernel) (fun k i v hi hv => ?_)
  have hk := (List.getElem?_eq_some_iff.1 hi).1
  have hk4 : k < 4 := hk
  rcases (by omega : k = 0 ∨ k = 1 ∨ k = 2 ∨ k = 3) with rfl | rfl | rfl | rfl
  · obtain rfl : constI 0 2 = i := by simpa using hi
    obtain rfl : [⟨1, 0⟩, ⟨1, 0⟩, ⟨1, 0⟩] = v := by simpa [awL] using hv
    exact ⟨fun _ => ⟨⟨1, 2⟩, by decide +kernel, by decide +kernel, by decide +kernel⟩, fun h => absurd h (by decide)⟩
  · obtain rfl : constI 1 3 = i := by simpa using hi
    obtain rfl : [⟨1, 2⟩, ⟨1, 0⟩, ⟨1, 0⟩] = v := by simpa [awL] using hv
    exact ⟨fun _ => ⟨⟨1, 3⟩, by decide +kernel, by decide +kernel, by decide +kernel⟩, fun h => absurd h (by decide)⟩
  · obtain rfl : awP = i := by simpa using hi
    obtain rfl : [⟨1, 2⟩, ⟨1, 3⟩, ⟨1, 0⟩] = v := by simpa [awL] using hv
    exact ⟨fun _ => ⟨⟨1, 5⟩, by decide +kernel, by decide +kernel, by decide +kernel⟩, fun h => absurd h (by decide)⟩
  · obtain rfl : awR = i := by simpa using hi
    obtain rfl : [⟨1, 2⟩, ⟨1, 3⟩, ⟨1, 5⟩] = v := by simpa [awL] using hv
    exact ⟨fun h => absurd h (by decide), fun _ => by decide +kernel⟩
theorem insrow_new (X : World) (n : Nat) (hn : n = X.heap.size) (c : List Ins) (o : Obj) (ho : o = .cells (c.flatMap inCells).toArray 35) : InsRow (X.alloc o) n c := by
  subst hn ho; exact heap_alloc_new X _
theorem aw_fold (W : World) (g : Nat) (h : InsRow W g awC) : Calls Try.prog 42 #[.agg #[.string ⟨#[102]⟩, .int .i64 0, .int .i64 3, .int .i64 0, .slice (some ⟨g, 0, none⟩) 4 4]] W
    (fun e w' => ∃ cg, e = .returned (.tuple #[.agg #[.string ⟨#[102]⟩, .int .i64 0, .int .i64 3, .int .i64 0, .slice (some ⟨cg, 0, none⟩) 4 4], .int .i64 1]) ∧ w'.cell? ⟨cg, 30, none⟩ = some (.int .i64 1) ∧ w'.cell? ⟨cg, 35, none⟩ = some (.int .i64 5) ∧ cg < w'.heap.size ∧ Below W.heap.size W w') := by
  obtain ⟨S, hS⟩ := sol_exists aw_right
  have hF := fold_s (r := ⟨awF, some ⟨g, 0, none⟩, 4⟩) (w := W) ⟨h.row h.lt (Nat.le_refl _), by unfold maxLen; simp⟩ aw_right (show 4 * (3 + 1) ≤ 65536 by decide) hS
  refine Calls.mono hF ?_
  rintro e w' ⟨cg, rfl, h1, h2, h3⟩
  rw [aw_sol hS] at h2 ⊢
  have e2 : (foldF awL awF).code = [constI 0 2, constI 1 3, constI 2 5, awR] := by decide +kernel
  have e3 : foldN awF.code awL = 1 := by decide +kernel
  rw [e2] at h2
  refine ⟨cg, ?_, ?_, ?_, h2.lt, h3⟩
  · have e4 : foldN awF.code awL = 1 := e3
    show Ending.returned (.tuple #[fnV ⟨foldF awL awF, some ⟨cg, 0, none⟩, (foldF awL awF).code.length⟩, .int .i64 (foldN awF.code awL : Int)]) = _
    rw [e3]
    simp only [fnV, e2]
    rfl
  · rw [cell_of_row w' cg _ _ _ _ h2]; rfl
  · rw [cell_of_row w' cg _ _ _ _ h2]; rfl
set_option maxHeartbeats 8000000 in
theorem awake11_any (w : World) : Calls Try.prog 38 #[] w (RPost (.bool true) w) := by
  go_enter Try.func38, Try.ntmps38
  go_wp2_with (first | ((with_reducible refine (cplain_any 3 _).mono ?_); rintro e w3 ⟨rfl, hb3⟩; have HB3 := Lib.hid (HB2.out.trans (hb3.mono HB2.out.size)); clear hb3) | ((with_reducible refine (cplain_any 13 _).mono ?_); rintro e w4 ⟨rfl, hb4⟩; have HB4 := Lib.hid (HB3.out.trans (hb4.mono HB3.out.size)); clear hb4) | ((with_reducible refine (cplain_any 1 w).mono ?_); rintro e w1 ⟨rfl, hb1⟩; have HB1 := Lib.hid hb1; clear hb1) | ((with_reducible refine (cplain_any 1 _).mono ?_); rintro e w2 ⟨rfl, hb2⟩; have HB2 := Lib.hid (HB1.out.trans (hb2.mono HB1.out.size)); clear hb2))
  have h4 : w.heap.size ≤ w4.heap.size := HB4.out.size
  refine (aw_fold _ _ (insrow_new _ _ (by simp) awC _ rfl)).mono ?_
  rintro e w5 ⟨cg, rfl, k0, k1, hcg, hb5⟩
  have HB5 : Hid (Below w.heap.size w w5) := Lib.hid (HB4.out.trans ((((((((Below.refl w4.heap.size w4).alloc (Nat.le_refl _) _).alloc (by simp) _).alloc (by simp <;> omega) _).alloc (by simp <;> omega) _).alloc (by simp <;> omega) _).trans (hb5.mono (by simp <;> omega))).mono h4))
  clear hb5
  go_wp2
  go_ret
  exact ⟨rfl, HB5.out.alloc (by have := HB5.out.size; omega) _⟩
def Cd.few11 (f : Fnc) : Bool := smallB f && decide (f.code.length ≤ 25)
theorem small_regs {f : Fnc} (h : smallB f = true) (hr : RightF f) : f.code.length ≤ 60 ∧ f.regs ≤ 40 := by
  unfold smallB at h
  simp only [Bool.and_eq_true, decide_eq_true_eq, Bool.not_eq_true', Bool.and_eq_false_iff, decide_eq_false_iff_not] at h
  have := hr.regs
  obtain ⟨⟨⟨_, h1⟩, h2⟩, _⟩ := h
  exact ⟨h1, by omega⟩
theorem few11_size {f : Fnc} (h : few11 f = true) (hr : RightF f) : f.code.length * (f.regs.toNat + 1) ≤ 65536 := by
  unfold few11 at h
  rw [Bool.and_eq_true, decide_eq_true_eq] at h
  have := small_regs h.1 hr
  have h2 : f.regs.toNat + 1 ≤ 41 := by omega
  exact Nat.le_trans (Nat.mul_le_mul h.2 h2) (by decide)
end Go.Proofs.Ytpajndeongcjbaa
