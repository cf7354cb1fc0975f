/-
  White space, or a comment, between two sources is as a blank between, on lists. Of no program.
-/
import Derived.Test.YtbafkkifdfmldaaDoorJoin
namespace Go.Proofs.YtbafkkifdfmldaaDoor.Sp

/-! ### A byte 10 behind -/
theorem pre_extN : ∀ {p : List UInt8} (l X : List UInt8), (10 : UInt8) ∉ p → p.isPrefixOf (l ++ 10 :: X) = p.isPrefixOf l
  | [], l, X, _ => by simp
  | a :: p, [], X, h => by
    have ha : a ≠ 10 := fun e => h (by simp [e])
    simp [List.isPrefixOf, ha]
  | a :: p, b :: l, X, h => by
    have := pre_extN (p := p) l X (fun e => h (by simp [e]))
    simp [List.isPrefixOf, this]
theorem lets_extN : ∀ (l X : List UInt8), lets (l ++ 10 :: X) = lets l
  | [], X => by simp [lets, show isLD 10 = false by decide]
  | a :: l, X => by
    have := lets_extN l X
    unfold lets at *
    rw [List.cons_append, List.takeWhile_cons, List.takeWhile_cons, this]
theorem firstOf_extN : ∀ {ps : List (List UInt8)} (l X : List UInt8), (∀ p ∈ ps, (10 : UInt8) ∉ p) → firstOf ps (l ++ 10 :: X) = firstOf ps l
  | [], _, _, _ => rfl
  | p :: ps, l, X, h => by
    unfold firstOf
    rw [pre_extN l X (h p (by simp)), firstOf_extN l X (fun q hq => h q (by simp [hq]))]
theorem signs_10N : ∀ p ∈ signsL, (10 : UInt8) ∉ p := by decide +kernel
theorem tokSt_extN {c : UInt8} {t : List UInt8} (X : List UInt8) {k : Int} {len n : Nat} (h : tokSt c t = .tok k len n) : tokSt c (t ++ 10 :: X) = .tok k len n := by
  have hl : lets (c :: (t ++ 10 :: X)) = lets (c :: t) := lets_extN (c :: t) X
  have hs : firstOf signsL (c :: (t ++ 10 :: X)) = firstOf signsL (c :: t) := firstOf_extN (c :: t) X signs_10N
  unfold tokSt at h ⊢
  rw [hl, hs]
  split
  · rename_i h1; rw [if_pos h1] at h; exact h
  · rename_i h1; rw [if_neg h1] at h
    split
    · rename_i h2; rw [if_pos h2] at h; exact h
    · rename_i h2; rw [if_neg h2] at h
      split
      · rename_i h3; rw [if_pos h3] at h
        cases hq : quoted t with
        | none => rw [hq] at h; simp at h
        | some p => rw [hq] at h; rw [quoted_ext _ hq]; exact h
      · rename_i h3; rw [if_neg h3] at h; exact h
theorem step_ext_tokN {l : List UInt8} (X : List UInt8) {k : Int} {len n : Nat} (h : step l = .tok k len n) : step (l ++ 10 :: X) = .tok k len n := by
  cases l with
  | nil => simp [step] at h
  | cons c t =>
    rw [step_cons] at h
    rw [List.cons_append, step_cons]
    have e1 : [47, 47].isPrefixOf (c :: (t ++ 10 :: X)) = [47, 47].isPrefixOf (c :: t) := pre_extN (c :: t) X (by decide)
    have e2 : [47, 42].isPrefixOf (c :: (t ++ 10 :: X)) = [47, 42].isPrefixOf (c :: t) := pre_extN (c :: t) X (by decide)
    rw [e1, e2]
    split at h
    · simp at h
    · rename_i h1; rw [if_neg h1]
      split at h
      · split at h <;> simp at h
      · rename_i h2; rw [if_neg h2]
        split at h
        · split at h <;> simp at h
        · rename_i h3; rw [if_neg h3]
          exact tokSt_extN X h
theorem step_ext_whiteN {l : List UInt8} (X : List UInt8) {n : Nat} (h : step l = .white n) : step (l ++ 10 :: X) = .white n := by
  cases l with
  | nil => simp [step] at h
  | cons c t =>
    rw [step_cons] at h
    rw [List.cons_append, step_cons]
    have e1 : [47, 47].isPrefixOf (c :: (t ++ 10 :: X)) = [47, 47].isPrefixOf (c :: t) := pre_extN (c :: t) X (by decide)
    have e2 : [47, 42].isPrefixOf (c :: (t ++ 10 :: X)) = [47, 42].isPrefixOf (c :: t) := pre_extN (c :: t) X (by decide)
    rw [e1, e2]
    split at h
    · rename_i h1; rw [if_pos h1]; exact h
    · rename_i h1; rw [if_neg h1]
      split at h
      · rename_i h2; rw [if_pos h2]
        cases hf : findNl (c :: t) with
        | none => rw [hf] at h; simp at h
        | some e =>
          rw [hf] at h
          have := findNl_ext (10 :: X) hf
          rw [List.cons_append] at this
          rw [this]; exact h
      · rename_i h2; rw [if_neg h2]
        split at h
        · rename_i h3; rw [if_pos h3]
          cases hf : findClose (t.drop 1) with
          | none => rw [hf] at h; simp at h
          | some e =>
            rw [hf] at h
            have hle := findClose_lt hf
            have h4 : 1 ≤ t.length := by simp at hle; omega
            have := findClose_ext (10 :: X) hf
            rw [List.drop_append_of_le_length h4, this]; exact h
        · exact absurd h (tokSt_not.2.2 n)


/-! ### Where the tokens are -/
def stripR (r : Res) : Except Int (List Tok) := match r with | .ok ts => .ok (ts.map strip) | .error x => .error x.2
theorem stripR_map {r r' : Res} (f g : List Tok → List Tok) (h : stripR r = stripR r') (hf : ∀ ts ts' : List Tok, ts.map strip = ts'.map strip → (f ts).map strip = (g ts').map strip) : stripR (r.map f) = stripR (r'.map g) := by
  cases r with
  | error x => cases r' with
    | error y => exact h
    | ok ts => simp [stripR] at h
  | ok ts => cases r' with
    | error y => simp [stripR] at h
    | ok ts' =>
      simp only [stripR, Except.ok.injEq] at h
      simp only [Except.map, stripR, hf ts ts' h]
theorem scanR_shift : ∀ (n : Nat) (l : List UInt8) (p p' c : Nat), l.length ≤ n → stripR (scanR l p c) = stripR (scanR l p' c) := by
  intro n
  induction n with
  | zero =>
    intro l p p' c hn
    obtain rfl : l = [] := List.eq_nil_of_length_eq_zero (by omega)
    rw [scanR_eq, scanR_eq]
    rfl
  | succ n ih =>
    intro l p p' c hn
    rw [scanR_eq l p, scanR_eq l p']
    cases hs : step l with
    | fin => rfl
    | line => rfl
    | bad e => rfl
    | white m =>
      have hm := step_white hs
      exact ih _ _ _ _ (by simp; omega)
    | tok k len v =>
      have hl := step_tok hs
      simp only
      split
      · rfl
      · exact stripR_map _ _ (ih _ (p + len) (p' + len) (c + 1) (by simp; omega)) (fun ts ts' h => by simp [h, strip])

/-! ### What stands behind a source -/
theorem findNl_none_app : ∀ {l : List UInt8} (X : List UInt8), findNl l = none → findNl (l ++ X) = (findNl X).map (· + l.length)
  | [], X, _ => by cases h : findNl X <;> simp [h]
  | c :: t, X, h => by
    unfold findNl at h
    split at h
    · simp at h
    · rename_i hc
      have ht : findNl t = none := by cases hf : findNl t with | none => rfl | some a => rw [hf] at h; simp at h
      rw [List.cons_append]
      conv => lhs; unfold findNl
      rw [if_neg hc, findNl_none_app X ht, Option.map_map]
      congr 1
theorem step_line {l : List UInt8} (h : step l = .line) : ∃ c t, l = c :: t ∧ isWhite c = false ∧ [47, 47].isPrefixOf (c :: t) = true ∧ findNl (c :: t) = none := by
  cases l with
  | nil => simp [step] at h
  | cons c t =>
    rw [step_cons] at h
    split at h
    · simp at h
    · rename_i h1
      split at h
      · rename_i h2
        cases hf : findNl (c :: t) with
        | none => exact ⟨c, t, rfl, by simpa using h1, h2, hf⟩
        | some e => rw [hf] at h; simp at h
      · split at h
        · split at h <;> simp at h
        · exact absurd h tokSt_not.2.1
theorem step_line_app {l : List UInt8} (X : List UInt8) (h : step l = .line) : step (l ++ X) = match findNl X with | none => .line | some e => .white (e + l.length) := by
  obtain ⟨c, t, rfl, h1, h2, h3⟩ := step_line h
  have h4 := pre_app X h2
  have h5 := findNl_none_app X h3
  rw [List.cons_append] at h4 h5 ⊢
  rw [step_cons, if_neg (by rw [h1]; simp), if_pos h4, h5]
  cases findNl X <;> rfl
/-- Does a source end as if nothing had been open, or in a comment that goes up to the end of its line? -/
def Ends (a : List UInt8) (p c : Nat) (t0 : List Tok) : Prop :=
  (∀ X, scanR (a ++ 32 :: X) p c = (scanR (32 :: X) (p + a.length) (c + t0.length)).map (t0 ++ ·)) ∨
  ((∃ q, scanR (a ++ [32, 120]) p c = .ok (t0 ++ [⟨0, [], 0, q⟩])) ∧ ∀ X, scanR (a ++ 10 :: X) p c = (scanR (10 :: X) (p + a.length) (c + t0.length)).map (t0 ++ ·))
theorem map_idn (r : Res) : (Except.map (fun x => x) r) = r := by cases r <;> rfl
theorem ends_of : ∀ (n : Nat) (a : List UInt8) (p c : Nat) (ts : List Tok), a.length ≤ n → scanR a p c = .ok ts → ∃ t0 : List Tok, t0.length ≤ a.length ∧ Ends a p c t0 := by
  intro n
  induction n with
  | zero =>
    intro a p c ts hn h
    obtain rfl : a = [] := List.eq_nil_of_length_eq_zero (by omega)
    exact ⟨[], by simp, .inl fun X => by simp [map_idn]⟩
  | succ n ih =>
    intro a p c ts hn h
    rw [scanR_eq] at h
    cases hs : step a with
    | fin =>
      obtain rfl := step_fin hs
      exact ⟨[], by simp, .inl fun X => by simp [map_idn]⟩
    | bad e => rw [hs] at h; cases h
    | line =>
      refine ⟨[], by simp, .inr ⟨⟨p + a.length + 2, ?_⟩, fun X => ?_⟩⟩
      · rw [scanR_eq, step_line_app _ hs, show findNl [32, 120] = none from rfl]
        simp [Nat.add_assoc]
      · rw [scanR_eq, step_line_app _ hs, show findNl (10 :: X) = some 0 by simp [findNl]]
        simp [map_idn]
    | white m =>
      rw [hs] at h
      have hm := step_white hs
      obtain ⟨t0, h0, he⟩ := ih (a.drop m) (p + m) c ts (by simp; omega) h
      have hl : (a.drop m).length = a.length - m := by simp
      have hadd : p + m + (a.drop m).length = p + a.length := by omega
      refine ⟨t0, by omega, ?_⟩
      rcases he with he | ⟨⟨q, h1⟩, h2⟩
      · refine .inl fun X => ?_
        rw [scanR_eq, step_ext_white X hs]
        simp only
        rw [List.drop_append_of_le_length hm.2, he X, hadd]
      · refine .inr ⟨⟨q, ?_⟩, fun X => ?_⟩
        · rw [scanR_eq, step_ext_white [120] hs]
          simp only
          rw [List.drop_append_of_le_length hm.2, h1]
        · rw [scanR_eq, step_ext_whiteN X hs]
          simp only
          rw [List.drop_append_of_le_length hm.2, h2 X, hadd]
    | tok k len v =>
      rw [hs] at h
      have hl := step_tok hs
      simp only at h
      split at h
      · cases h
      · rename_i hc
        cases hr : scanR (a.drop len) (p + len) (c + 1) with
        | error e => rw [hr] at h; cases h
        | ok r =>
          obtain ⟨t0, h0, he⟩ := ih (a.drop len) (p + len) (c + 1) r (by simp; omega) hr
          have hdl : (a.drop len).length = a.length - len := by simp
          have hadd : p + len + (a.drop len).length = p + a.length := by omega
          have hcnt : c + 1 + t0.length = c + (t0.length + 1) := by omega
          refine ⟨⟨k, a.take len, v, p⟩ :: t0, by simp; omega, ?_⟩
          have hcons : ∀ r : Res, (r.map (t0 ++ ·)).map ((⟨k, a.take len, v, p⟩ : Tok) :: ·) = r.map (((⟨k, a.take len, v, p⟩ : Tok) :: t0) ++ ·) := fun r => by cases r <;> rfl
          rcases he with he | ⟨⟨q, h1⟩, h2⟩
          · refine .inl fun X => ?_
            rw [scanR_eq, step_ext_tok X hs]
            simp only
            rw [if_neg hc, List.drop_append_of_le_length hl.2, List.take_append_of_le_length hl.2, he X, hadd, hcons, hcnt, List.length_cons]
          · refine .inr ⟨⟨q, ?_⟩, fun X => ?_⟩
            · rw [scanR_eq, step_ext_tok [120] hs]
              simp only
              rw [if_neg hc, List.drop_append_of_le_length hl.2, List.take_append_of_le_length hl.2, h1]
              rfl
            · rw [scanR_eq, step_ext_tokN X hs]
              simp only
              rw [if_neg hc, List.drop_append_of_le_length hl.2, List.take_append_of_le_length hl.2, h2 X, hadd, hcons, hcnt, List.length_cons]
/-! ### What may stand between -/
def Gapped (g : List UInt8) : Prop := ∀ X p c, scanR (g ++ X) p c = scanR X (p + g.length) c
theorem gapped_white (d : UInt8) (h : isWhite d = true) : Gapped [d] := fun X p c => by
  have hs : step ([d] ++ X) = .white 1 := by
    show step (d :: X) = _
    rw [step_cons, if_pos h]
  rw [scanR_eq, hs]; rfl
theorem Gapped.append {g g' : List UInt8} (h : Gapped g) (h' : Gapped g') : Gapped (g ++ g') := fun X p c => by
  rw [List.append_assoc, h, h', List.length_append, Nat.add_assoc]
theorem findNl_at : ∀ (cm X : List UInt8), (10 : UInt8) ∉ cm → findNl (cm ++ 10 :: X) = some cm.length
  | [], X, _ => by simp [findNl]
  | c :: t, X, h => by
    have hc : ¬ c = 10 := fun e => h (by simp [e])
    have ih := findNl_at t X (fun e => h (by simp [e]))
    rw [List.cons_append]
    unfold findNl
    rw [if_neg hc, ih]; rfl
theorem findClose_at : ∀ (cm X : List UInt8), (42 : UInt8) ∉ cm → findClose (cm ++ 42 :: 47 :: X) = some cm.length
  | [], X, _ => by simp [findClose, List.isPrefixOf]
  | c :: t, X, h => by
    have hc : ¬ c = 42 := fun e => h (by simp [e])
    have ih := findClose_at t X (fun e => h (by simp [e]))
    rw [List.cons_append]
    unfold findClose
    rw [if_neg (by simp [List.isPrefixOf]; intro e; exact absurd e.symm hc), ih]; rfl
theorem gapped_line (cm : List UInt8) (h : (10 : UInt8) ∉ cm) : Gapped (47 :: 47 :: (cm ++ [10])) := fun X p c => by
  have hs : step (47 :: 47 :: (cm ++ [10]) ++ X) = .white (cm.length + 2) := by
    show step (47 :: 47 :: ((cm ++ [10]) ++ X)) = _
    rw [List.append_assoc, step_cons, if_neg (by decide), if_pos (by simp [List.isPrefixOf])]
    have : findNl (47 :: 47 :: (cm ++ [10] ++ X)) = some (cm.length + 2) := by
      rw [show cm ++ [10] ++ X = cm ++ 10 :: X by simp]
      have := findNl_at (47 :: 47 :: cm) X (by simp [h])
      simpa using this
    rw [List.append_assoc] at this
    rw [this]
  rw [scanR_eq, hs]
  simp only
  have hd : (47 :: 47 :: (cm ++ [10]) ++ X).drop (cm.length + 2) = [10] ++ X := by
    show ((cm ++ [10]) ++ X).drop cm.length = _
    rw [List.append_assoc]; simp
  rw [hd, gapped_white 10 (by decide)]
  congr 1
  simp; omega
theorem gapped_block (cm : List UInt8) (h : (42 : UInt8) ∉ cm) : Gapped (47 :: 42 :: (cm ++ [42, 47])) := fun X p c => by
  have hs : step (47 :: 42 :: (cm ++ [42, 47]) ++ X) = .white (cm.length + 4) := by
    show step (47 :: 42 :: ((cm ++ [42, 47]) ++ X)) = _
    rw [step_cons, if_neg (by decide), if_neg (by simp [List.isPrefixOf]), if_pos (by simp [List.isPrefixOf])]
    have : findClose (List.drop 1 (42 :: (cm ++ [42, 47] ++ X))) = some cm.length := by
      rw [show cm ++ [42, 47] ++ X = cm ++ 42 :: 47 :: X by simp]
      exact findClose_at cm X h
    rw [this]
  rw [scanR_eq, hs]
  simp only
  have hd : (47 :: 42 :: (cm ++ [42, 47]) ++ X).drop (cm.length + 4) = X := by
    rw [List.drop_append]
    simp
  rw [hd]
  congr 1
  simp
/-- The four kinds of what stands between. -/
def between (cm : List UInt8) (j : Nat) : List UInt8 :=
  match j with | 0 => [10] | 1 => [9, 32, 13, 10] | 2 => 47 :: 47 :: (cm ++ [10]) | _ => 47 :: 42 :: (cm ++ [42, 47])
theorem gapped_between (cm : List UInt8) (j : Nat) (h1 : (10 : UInt8) ∉ cm) (h2 : (42 : UInt8) ∉ cm) : Gapped (between cm j) := by
  unfold between
  split
  · exact gapped_white 10 (by decide)
  · exact ((gapped_white 9 (by decide)).append (gapped_white 32 (by decide))).append ((gapped_white 13 (by decide)).append (gapped_white 10 (by decide)))
  · exact gapped_line cm h1
  · exact gapped_block cm h2
def lenR (r : Res) : Nat := match r with | .ok ts => ts.length | .error _ => 0
theorem scanR_x (p c : Nat) (h : c ≠ 8192) : scanR [10, 120] p c = .ok [⟨1, [120], 0, p + 1⟩, ⟨0, [], 0, p + 2⟩] := by
  have h1 : scanR ([10] ++ [120]) p c = scanR [120] (p + 1) c := gapped_white 10 (by decide) [120] p c
  have hs : step [120] = .tok 1 1 0 := by rfl
  rw [show ([10, 120] : List UInt8) = [10] ++ [120] from rfl, h1, scanR_eq, hs]
  simp only
  rw [if_neg h, scanR_eq]
  rfl
/-- THE CLAIM. -/
theorem spaces (a b bw : List UInt8) (ta : List Tok) (hg : Gapped bw) (ha : a.length ≤ 2000) (hb : b.length ≤ 2000) (hw : bw.length ≤ 200) (hs : scan a = .ok ta)
    (ho : lenR (scan (a ++ [10, 120])) = lenR (scan (a ++ [32, 120]))) : stripR (scan (a ++ 32 :: b)) = stripR (scan (a ++ 32 :: (bw ++ b))) := by
  rw [scan_eq, if_neg (by omega)] at hs
  rw [scan_eq, scan_eq, if_neg (by simp; omega), if_neg (by simp; omega)] at ho
  rw [scan_eq, scan_eq, if_neg (by simp; omega), if_neg (by simp; omega)]
  obtain ⟨t0, hl, he⟩ := ends_of _ a 0 0 ta (Nat.le_refl _) hs
  rcases he with he | ⟨⟨q, h1⟩, h2⟩
  · rw [he b, he (bw ++ b)]
    have hb1 : ∀ X p c, scanR (32 :: X) p c = scanR X (p + 1) c := fun X p c => gapped_white 32 (by decide) X p c
    rw [hb1, hb1, hg]
    exact stripR_map _ _ (scanR_shift _ b _ _ _ (Nat.le_refl _)) (fun ts ts' h => by simp [h])
  · exfalso
    rw [h1, h2 [120], scanR_x _ _ (by omega)] at ho
    simp [lenR, Except.map] at ho
end Go.Proofs.YtbafkkifdfmldaaDoor.Sp
