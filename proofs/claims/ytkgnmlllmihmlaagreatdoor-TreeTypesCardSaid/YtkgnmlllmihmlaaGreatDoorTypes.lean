/-
  A source of one variable of a type, on lists: how it is scanned and parsed, and the text of its type. Of no program.
-/
import Derived.Test.YtkgnmlllmihmlaaGreatDoorSteps
import Derived.Test.YtkgnmlllmihmlaaGreatDoorNumsP
import Derived.Test.YtkgnmlllmihmlaaGreatDoorText
import Derived.Test.YtkgnmlllmihmlaaGreatDoorAwake
namespace Go.Proofs.YtkgnmlllmihmlaaGreatDoor
open Sp Tr Go.Lib
set_option linter.unusedVariables false

theorem Steps.app2 {A B r : List UInt8} {k1 k2 p q : Nat} {ts us : List Tok} (h1 : Steps A (B ++ r) k1 p ts) (h2 : Steps B r k2 q us) (hq : q = p + A.length) : Steps (A ++ B) r (k1 + k2) p (ts ++ us) := by
  subst hq
  exact h1.app h2
def bsL : Nat → List UInt8
  | 0 => wInt
  | 1 => wUnsigned
  | 2 => wChar
  | _ => wStruct ++ ([32] ++ [115])
def bsT : Nat → List Tok
  | 0 => [⟨2, wInt, 0, 0⟩]
  | 1 => [⟨2, wUnsigned, 0, 0⟩]
  | 2 => [⟨2, wChar, 0, 0⟩]
  | _ => [⟨2, wStruct, 0, 0⟩, ⟨1, [115], 0, 7⟩]
def bsK : Nat → Nat
  | 0 => 1
  | 1 => 1
  | 2 => 1
  | _ => 3
def starT : Nat → Nat → List Tok
  | 0, _ => []
  | k + 1, p => ⟨4, [42], 0, p⟩ :: starT k (p + 1)
def bhL (n : Nat) : List UInt8 := if n = 0 then [] else [91] ++ (decDigits n ++ [93])
def bhT (n p : Nat) : List Tok := if n = 0 then [] else [⟨4, [91], 0, p⟩, ⟨3, decDigits n, n, p + 1⟩, ⟨4, [93], 0, p + 1 + (decDigits n).length⟩]
def bhK (n : Nat) : Nat := if n = 0 then 0 else 3
def srcT (b k n : Nat) : List UInt8 := bsL b ++ (repeatL [42] k ++ ([32] ++ ([120] ++ (bhL n ++ [59]))))
def toksT (b k n : Nat) : List Tok := bsT b ++ (starT k (bsL b).length ++ (⟨1, [120], 0, (bsL b).length + k + 1⟩ :: (bhT n ((bsL b).length + k + 2) ++ [⟨4, [59], 0, (bsL b).length + k + 2 + (bhL n).length⟩])))
theorem starT_len : ∀ k p, (starT k p).length = k
  | 0, _ => rfl
  | k + 1, p => by simp [starT, starT_len k]
theorem lets_app {l r : List UInt8} (h : ∀ c ∈ l, isLD c = true) : lets (l ++ 93 :: r) = l := by
  unfold lets
  induction l with
  | nil => rfl
  | cons a t ih => rw [List.cons_append, List.takeWhile_cons, if_pos (h a (by simp)), ih fun c hc => h c (by simp [hc])]
theorem step_dec {n : Nat} {r : List UInt8} (hn : n ≤ 4294967295) : Sp.step (decDigits n ++ (93 :: r)) = .tok 3 (decDigits n).length n := by
  have hv := value_dec n
  rw [if_pos hn] at hv
  have hall := dec_all n
  cases hd : decDigits n with
  | nil => exact absurd hd (dec_ne n)
  | cons c t =>
    rw [hd] at hv hall
    have hc := hall c (by simp)
    have h1 : isWhite c = false ∧ isLet c = false ∧ c ≠ 47 := by
      refine ⟨?_, ?_, ?_⟩
      · unfold isWhite
        simp
        refine ⟨⟨⟨?_, ?_⟩, ?_⟩, ?_⟩ <;> (intro e; subst e; revert hc; decide)
      · unfold isDig at hc; unfold isLet; simp at hc ⊢; omega
      · intro e; subst e; revert hc; decide
    rw [List.cons_append, step_cons, if_neg (by rw [h1.1]; simp), if_neg (by simp [List.isPrefixOf]; intro e; exact absurd e.symm h1.2.2), if_neg (by simp [List.isPrefixOf]; intro e; exact absurd e.symm h1.2.2)]
    unfold tokSt
    rw [if_neg (by rw [h1.2.1]; simp), if_pos hc, ← List.cons_append, lets_app fun d hd2 => dig_LD (hall d hd2)]
    simp only [hv]
theorem steps_b (b : Nat) (c : UInt8) (hc : c = 42 ∨ c = 32) (r : List UInt8) : Steps (bsL b) (c :: r) (bsK b) 0 (bsT b) := by
  rcases hc with rfl | rfl
  all_goals
    match b with
    | 0 => exact Steps.one (by kernel_rfl)
    | 1 => exact Steps.one (by kernel_rfl)
    | 2 => exact Steps.one (by kernel_rfl)
    | b + 3 =>
      exact (Steps.one (A := wStruct) (k := 2) (n := 0) (by kernel_rfl)).app (B := [32] ++ [115]) (k2 := 2)
        ((Steps.gap (A := [32]) (by kernel_rfl)).app (B := [115]) (k2 := 1) (Steps.one (A := [115]) (k := 1) (n := 0) (by kernel_rfl)))
theorem steps_stars : ∀ (k p : Nat) (r : List UInt8), Steps (repeatL [42] k) (32 :: r) k p (starT k p)
  | 0, p, r => Steps.none _ p
  | 1, p, r => Steps.one (A := [42]) (k := 4) (n := 0) (by kernel_rfl)
  | k + 2, p, r => by
    have h := (Steps.one (A := [42]) (r := repeatL [42] (k + 1) ++ (32 :: r)) (p := p) (k := 4) (n := 0) (by kernel_rfl)).app (steps_stars (k + 1) (p + 1) r)
    show Steps ([42] ++ repeatL [42] (k + 1)) (32 :: r) (k + 2) p ([⟨4, [42], 0, p⟩] ++ starT (k + 1) (p + 1))
    rw [show k + 2 = 1 + (k + 1) by omega]
    exact h
theorem steps_bh (n p : Nat) (hn : n ≤ 1000000) : Steps (bhL n) [59] (bhK n) p (bhT n p) := by
  unfold bhL bhK bhT
  by_cases h : n = 0
  · rw [if_pos h, if_pos h, if_pos h]; exact Steps.none _ p
  · rw [if_neg h, if_neg h, if_neg h]
    have a1 : Steps [91] (decDigits n ++ [93] ++ [59]) 1 p [⟨4, [91], 0, p⟩] := Steps.one (by kernel_rfl)
    have a2 : Steps (decDigits n) ([93] ++ [59]) 1 (p + 1) [⟨3, decDigits n, n, p + 1⟩] := Steps.one (step_dec (r := [59]) (by omega))
    have a3 : Steps [93] [59] 1 (p + 1 + (decDigits n).length) [⟨4, [93], 0, p + 1 + (decDigits n).length⟩] := Steps.one (by kernel_rfl)
    exact a1.app (B := decDigits n ++ [93]) (a2.app a3)
theorem bhL_head (n : Nat) (r : List UInt8) : ∃ c t, bhL n ++ ([59] ++ r) = c :: t ∧ (c = 59 ∨ c = 91) := by
  unfold bhL
  by_cases h : n = 0
  · rw [if_pos h]; exact ⟨59, r, rfl, .inl rfl⟩
  · rw [if_neg h]; exact ⟨91, _, rfl, .inr rfl⟩
theorem step_x (c : UInt8) (hc : c = 59 ∨ c = 91) (t : List UInt8) : Sp.step ([120] ++ (c :: t)) = .tok 1 1 0 := by
  rcases hc with rfl | rfl <;> kernel_rfl
theorem dec7 {n : Nat} (hn : n ≤ 1000000) : (decDigits n).length ≤ 7 := dec_len 6 n (by omega)
theorem bs_len (b : Nat) : (bsL b).length ≤ 8 ∧ bsK b ≤ (bsL b).length ∧ (bsT b).length ≤ 2 := by
  match b with
  | 0 => decide
  | 1 => decide
  | 2 => decide
  | b + 3 => exact ⟨by show (8 : Nat) ≤ 8; omega, by show (3 : Nat) ≤ 8; omega, by show (2 : Nat) ≤ 2; omega⟩
theorem bh_len {n : Nat} (hn : n ≤ 1000000) (p : Nat) : (bhL n).length ≤ 9 ∧ bhK n ≤ (bhL n).length ∧ (bhT n p).length ≤ 3 := by
  unfold bhL bhK bhT
  by_cases h : n = 0
  · simp [h]
  · rw [if_neg h, if_neg h, if_neg h]
    have := dec7 hn
    have h0 : 0 < (decDigits n).length := List.length_pos_iff.2 (dec_ne n)
    simp
    omega
theorem srcT_len {b k n : Nat} (hk : k ≤ 19) (hn : n ≤ 1000000) : (srcT b k n).length ≤ 50 := by
  have h1 := (bs_len b).1
  have h2 := (bh_len hn 0).1
  simp [srcT, repeatL_length]; omega
theorem scan_T (b k n : Nat) (hk : k ≤ 19) (hn : n ≤ 1000000) : Sp.scan (srcT b k n) = .ok (toksT b k n ++ [⟨0, [], 0, (srcT b k n).length⟩]) := by
  obtain ⟨p, hp⟩ : ∃ p, (bsL b).length = p := ⟨_, rfl⟩
  have a6 : Steps [59] [] 1 (p + k + 2 + (bhL n).length) [⟨4, [59], 0, p + k + 2 + (bhL n).length⟩] := Steps.one (n := 0) (by kernel_rfl)
  have a5 : Steps (bhL n ++ [59]) [] (bhK n + 1) (p + k + 2) (bhT n (p + k + 2) ++ [⟨4, [59], 0, p + k + 2 + (bhL n).length⟩]) := Steps.app2 (by simpa using steps_bh n (p + k + 2) hn) a6 rfl
  obtain ⟨c, t, hct, hc⟩ := bhL_head n []
  have a4 : Steps [120] (bhL n ++ [59] ++ []) 1 (p + k + 1) [⟨1, [120], 0, p + k + 1⟩] := Steps.one (by rw [List.append_assoc, hct]; exact step_x c hc t)
  have a4' := a4.app2 a5 rfl
  have a3 : Steps [32] ([120] ++ (bhL n ++ [59]) ++ []) 1 (p + k) [] := Steps.gap (by kernel_rfl)
  have a3' := a3.app2 a4' rfl
  have a2 : Steps (repeatL [42] k) ([32] ++ ([120] ++ (bhL n ++ [59])) ++ []) k p (starT k p) := steps_stars k p _
  have a2' := a2.app2 a3' (by rw [repeatL_length]; simp)
  have hh : ∃ c r, repeatL [42] k ++ ([32] ++ ([120] ++ (bhL n ++ [59]))) ++ [] = c :: r ∧ (c = 42 ∨ c = 32) := by
    cases k with
    | zero => exact ⟨32, _, rfl, .inr rfl⟩
    | succ k => exact ⟨42, _, rfl, .inl rfl⟩
  obtain ⟨c1, r1, hr1, hc1⟩ := hh
  have a1 : Steps (bsL b) (repeatL [42] k ++ ([32] ++ ([120] ++ (bhL n ++ [59]))) ++ []) (bsK b) 0 (bsT b) := by rw [hr1]; exact steps_b b c1 hc1 r1
  have a0 := a1.app2 a2' (by omega)
  have l1 := bs_len b
  have l2 := bh_len hn (p + k + 2)
  have l3 := srcT_len (b := b) hk hn
  have l4 := starT_len k p
  have := Steps.whole a0 (by simp [repeatL_length]; omega) (by exact Nat.le_trans l3 (by omega)) (by simp [l4]; omega)
  show Sp.scan (bsL b ++ _) = _
  rw [this]
  simp [toksT, srcT, hp]
end Go.Proofs.YtkgnmlllmihmlaaGreatDoor
namespace Go.Proofs.YtkgnmlllmihmlaaGreatDoor
open Sp Tr Go.Lib
set_option linter.unusedVariables false

def Y0 : List Ty := [⟨0, 0, 0, []⟩, ⟨1, 0, 0, []⟩, ⟨2, 0, 0, []⟩, ⟨3, 0, 0, []⟩]
def bsY : Nat → List Ty
  | 0 => Y0
  | 1 => Y0
  | 2 => Y0
  | _ => Y0 ++ [⟨6, 0, 0, [115]⟩]
def bsQ : Nat → Nat
  | 0 => 1
  | 1 => 2
  | 2 => 3
  | _ => 4
def stY : Nat → Nat → List Ty → List Ty
  | 0, _, Y => Y
  | k + 1, q, Y => stY k Y.length (Y ++ [⟨4, q, 0, []⟩])
def stQ : Nat → Nat → Nat → Nat
  | 0, q, _ => q
  | k + 1, _, l => stQ k l (l + 1)
/-- What holds of a table in which q was the last one made, or a base. -/
structure YOk (Y : List Ty) (q : Nat) : Prop where
  lt : q < Y.length
  ptr : ∀ (i : Nat) t, Y[i]? = some t → t.kind = 4 → 0 ≤ t.elem ∧ t.elem < i ∧ t.elem < q
  arr : ∀ t ∈ Y, t.kind ≠ 5
  ok : TyOk Y
theorem findT_none {x : Ty} : ∀ {Y : List Ty}, (∀ t ∈ Y, t ≠ x) → findT Y x = none
  | [], _ => rfl
  | e :: Y, h => by
    unfold findT
    rw [if_neg (h e (by simp)), findT_none fun t ht => h t (by simp [ht])]
    rfl
theorem YOk.star {Y : List Ty} {q : Nat} (h : YOk Y q) (hl : Y.length ≤ 200) : findT Y ⟨4, q, 0, []⟩ = none ∧ YOk (Y ++ [⟨4, q, 0, []⟩]) Y.length := by
  refine ⟨findT_none fun t ht e => ?_, ⟨by simp, fun i t hi hk => ?_, fun t ht => ?_, fun t ht => ?_⟩⟩
  · obtain ⟨i, hi⟩ := List.getElem?_of_mem ht
    have := (h.ptr i t hi (by rw [e])).2.2
    rw [e] at this
    simp at this
  · by_cases hil : i < Y.length
    · rw [List.getElem?_append_left hil] at hi
      have := h.ptr i t hi hk
      have := h.lt
      omega
    · rw [List.getElem?_append_right (by omega)] at hi
      have hz : i - Y.length = 0 := by
        by_cases hz : i - Y.length = 0
        · exact hz
        · rw [List.getElem?_eq_none (by simp; omega)] at hi; cases hi
      rw [hz] at hi
      simp at hi
      subst hi
      have := h.lt
      simp; omega
  · rcases List.mem_append.1 ht with ht | ht
    · exact h.arr t ht
    · simp at ht; subst ht; simp
  · rcases List.mem_append.1 ht with ht | ht
    · exact h.ok t ht
    · simp at ht; subst ht
      have := h.lt
      simp; omega
theorem bsY_ok (b : Nat) : YOk (bsY b) (bsQ b) ∧ (bsY b).length ≤ 5 := by
  have h4 : ∀ Y : List Ty, (∀ t ∈ Y, t.kind ≠ 4) → ∀ (i : Nat) t, Y[i]? = some t → t.kind = 4 → 0 ≤ t.elem ∧ t.elem < i ∧ t.elem < (bsQ b) := fun Y h i t hi hk => absurd hk (h t (List.mem_of_getElem? hi))
  match b with
  | 0 => exact ⟨⟨by decide, h4 _ (by decide), by decide, by unfold TyOk; decide⟩, by decide⟩
  | 1 => exact ⟨⟨by decide, h4 _ (by decide), by decide, by unfold TyOk; decide⟩, by decide⟩
  | 2 => exact ⟨⟨by decide, h4 _ (by decide), by decide, by unfold TyOk; decide⟩, by decide⟩
  | b + 3 => exact ⟨⟨by show (4 : Nat) < 5; decide, h4 (Y0 ++ [⟨6, 0, 0, [115]⟩]) (by decide), by show ∀ t ∈ (Y0 ++ [⟨6, 0, 0, [115]⟩] : List Ty), t.kind ≠ 5; decide, by show TyOk (Y0 ++ [⟨6, 0, 0, [115]⟩]); unfold TyOk; decide⟩, by show (5 : Nat) ≤ 5; decide⟩
theorem stY_ok : ∀ (k q : Nat) (Y : List Ty), YOk Y q → Y.length + k ≤ 200 → YOk (stY k q Y) (stQ k q Y.length) ∧ (stY k q Y).length = Y.length + k
  | 0, q, Y, h, _ => ⟨h, rfl⟩
  | k + 1, q, Y, h, hl => by
    have h2 := stY_ok k Y.length (Y ++ [⟨4, q, 0, []⟩]) (h.star (by omega)).2 (by simp; omega)
    rw [List.length_append, List.length_singleton] at h2
    exact ⟨h2.1, by show (stY k Y.length _).length = _; rw [h2.2]; omega⟩
/-! ### Parsing -/
theorem nsame' (t : Tok) (x : List UInt8) (h : sameT t x = false) : ¬ sameT t x = true := by rw [h]; simp
theorem stars_T {E : PE} {d f : Nat} {ts : List Tok} (t : Tok) (ht : sameT t [42] = false) : ∀ (k r p q : Nat) (N : List Nd) (Y : List Ty), Rd E r (starT k p ++ t :: ts) → YOk Y q → Y.length + k ≤ 200 → r + k < 40000 → d ≤ 100 →
    starsF (f + k + 1) E q ⟨r, d, N, Y⟩ = some (((stQ k q Y.length : Nat) : Int), ⟨r + k, d, N, stY k q Y⟩)
  | 0, r, p, q, N, Y, h, _, _, _, _ => by
    show starsF (f + 1) E q ⟨r, d, N, Y⟩ = _
    unfold starsF
    rw [Rd.is (ts := ts) h, if_neg (nsame' _ _ ht)]
    rfl
  | k + 1, r, p, q, N, Y, h, hY, hl, hr, hd => by
    show starsF ((f + k + 1) + 1) E q ⟨r, d, N, Y⟩ = _
    conv => lhs; unfold starsF
    rw [Rd.is (t := ⟨4, [42], 0, p⟩) h, if_pos (by rfl), take_ok N Y hd (by omega)]
    show (numbered ⟨4, q, 0, []⟩ ⟨r + 1, d, N, Y⟩).bind _ = _
    obtain ⟨e1, e2⟩ := hY.star (by omega)
    unfold numbered
    rw [e1]
    show ((if Y.length < 256 then some ((Y.length : Int), (⟨r + 1, d, N, Y ++ [⟨4, q, 0, []⟩]⟩ : S)) else none).bind _) = _
    rw [if_pos (by omega)]
    have := stars_T (f := f) (d := d) t ht k (r + 1) (p + 1) Y.length N (Y ++ [⟨4, q, 0, []⟩]) (Rd.next h) e2 (by simp; omega) (by omega) hd
    rw [List.length_append, List.length_singleton] at this
    show starsF (f + k + 1) E Y.length ⟨r + 1, d, N, Y ++ [⟨4, q, 0, []⟩]⟩ = _
    rw [this]
    show some (((stQ k Y.length (Y.length + 1) : Nat) : Int), _) = some (((stQ k Y.length (Y.length + 1) : Nat) : Int), _)
    rw [show r + 1 + k = r + (k + 1) by omega]
    rfl
theorem plain_T {E : PE} (b : Nat) {t : Tok} {ts : List Tok} (h : Rd E 0 (bsT b ++ ts)) (N : List Nd) : plainF E ⟨0, 0, N, Y0⟩ = some (((bsQ b : Nat) : Int), ⟨(bsT b).length, 0, N, bsY b⟩) := by
  match b, h with
  | 0, h =>
    unfold plainF
    rw [Rd.is (t := ⟨2, wInt, 0, 0⟩) h, if_neg (nsame' _ _ (by rfl)), Rd.is (t := ⟨2, wInt, 0, 0⟩) h, if_pos (by rfl), take_ok N Y0 (by omega) (by omega)]; rfl
  | 1, h =>
    unfold plainF
    rw [Rd.is (t := ⟨2, wUnsigned, 0, 0⟩) h, if_neg (nsame' _ _ (by rfl)), Rd.is (t := ⟨2, wUnsigned, 0, 0⟩) h, if_neg (nsame' _ _ (by rfl)), Rd.is (t := ⟨2, wUnsigned, 0, 0⟩) h, if_pos (by rfl), take_ok N Y0 (by omega) (by omega)]; rfl
  | 2, h =>
    unfold plainF
    rw [Rd.is (t := ⟨2, wChar, 0, 0⟩) h, if_neg (nsame' _ _ (by rfl)), Rd.is (t := ⟨2, wChar, 0, 0⟩) h, if_neg (nsame' _ _ (by rfl)), Rd.is (t := ⟨2, wChar, 0, 0⟩) h, if_neg (nsame' _ _ (by rfl)), Rd.is (t := ⟨2, wChar, 0, 0⟩) h, if_pos (by rfl), take_ok N Y0 (by omega) (by omega)]; rfl
  | b + 3, h =>
    unfold plainF
    rw [Rd.is (t := ⟨2, wStruct, 0, 0⟩) h, if_neg (nsame' _ _ (by rfl)), Rd.is (t := ⟨2, wStruct, 0, 0⟩) h, if_neg (nsame' _ _ (by rfl)), Rd.is (t := ⟨2, wStruct, 0, 0⟩) h, if_neg (nsame' _ _ (by rfl)), Rd.is (t := ⟨2, wStruct, 0, 0⟩) h, if_neg (nsame' _ _ (by rfl)),
      need_ok (t := ⟨2, wStruct, 0, 0⟩) (x := wStruct) h N Y0 (by rfl) (by omega) (by omega)]
    show (kindT E 1 ⟨1, 0, N, Y0⟩).bind _ = _
    rw [kind_ok (t := ⟨1, [115], 0, 7⟩) (Rd.next h) N Y0 rfl (by omega) (by omega)]
    rfl
def endY (k n b : Nat) : List Ty := if n = 0 then stY k (bsQ b) (bsY b) else stY k (bsQ b) (bsY b) ++ [⟨5, ((stQ k (bsQ b) (bsY b).length : Nat) : Int), n, []⟩]
def endQ (k n b : Nat) : Nat := if n = 0 then stQ k (bsQ b) (bsY b).length else (bsY b).length + k
theorem counted_T {E : PE} {r d p n q : Nat} {t : Tok} {ts : List Tok} (ht : sameT t [91] = false) (h : Rd E r (bhT n p ++ t :: ts)) (N : List Nd) (Y : List Ty) (hY : YOk Y q) (hl : Y.length ≤ 200) (hr : r + 3 < 40000) (hd : d ≤ 100) :
    countedF E q ⟨r, d, N, Y⟩ = some (((if n = 0 then q else Y.length : Nat) : Int), ⟨r + (bhT n p).length, d, N, if n = 0 then Y else Y ++ [⟨5, q, n, []⟩]⟩) := by
  unfold countedF
  by_cases hn : n = 0
  · subst hn
    rw [Rd.is (t := t) (ts := ts) h, if_neg (nsame' _ _ ht)]
    rfl
  · have e : bhT n p = [⟨4, [91], 0, p⟩, ⟨3, decDigits n, n, p + 1⟩, ⟨4, [93], 0, p + 1 + (decDigits n).length⟩] := by unfold bhT; rw [if_neg hn]
    rw [e] at h ⊢
    rw [Rd.is (t := ⟨4, [91], 0, p⟩) h, if_pos (by rfl), take_ok N Y hd (by omega)]
    show (kindT E 3 ⟨r + 1, d, N, Y⟩).bind _ = _
    rw [kind_ok (t := ⟨3, decDigits n, n, p + 1⟩) (Rd.next h) N Y rfl hd (by omega)]
    show (needT E [93] ⟨r + 1 + 1, d, N, Y⟩).bind _ = _
    rw [need_ok (t := ⟨4, [93], 0, p + 1 + (decDigits n).length⟩) (x := [93]) (Rd.next (Rd.next h)) N Y (by rfl) hd (by omega)]
    show numbered ⟨5, q, n, []⟩ ⟨r + 1 + 1 + 1, d, N, Y⟩ = _
    unfold numbered
    rw [findT_none fun t ht e => hY.arr t ht (by rw [e])]
    show (if Y.length < 256 then some ((Y.length : Int), (⟨r + 1 + 1 + 1, d, N, Y ++ [⟨5, q, n, []⟩]⟩ : S)) else none) = _
    rw [if_pos (by omega), if_neg hn, if_neg hn]
    rfl
theorem bh_head (n p q : Nat) : ∃ t ts, bhT n p ++ [⟨4, [59], 0, q⟩] = t :: ts ∧ sameT t [40] = false ∧ sameT t [42] = false := by
  unfold bhT
  by_cases h : n = 0
  · rw [if_pos h]; exact ⟨_, _, rfl, rfl, rfl⟩
  · rw [if_neg h]; exact ⟨_, _, rfl, rfl, rfl⟩
theorem no_struct {b k n : Nat} {fin : Tok} : ¬ (isT ⟨toksT b k n, fin⟩ ⟨0, 0, [], Y0⟩ wStruct = true ∧ (ahd ⟨toksT b k n, fin⟩ ⟨0, 0, [], Y0⟩ 1).k = 1 ∧ sameT (ahd ⟨toksT b k n, fin⟩ ⟨0, 0, [], Y0⟩ 2) [123] = true) := by
  rintro ⟨h1, h2, h3⟩
  match b with
  | 0 => revert h1; exact nsame' ⟨2, wInt, 0, 0⟩ wStruct rfl
  | 1 => revert h1; exact nsame' ⟨2, wUnsigned, 0, 0⟩ wStruct rfl
  | 2 => revert h1; exact nsame' ⟨2, wChar, 0, 0⟩ wStruct rfl
  | b + 3 =>
    cases k with
    | zero => revert h3; exact nsame' ⟨1, [120], 0, _⟩ [123] rfl
    | succ k => revert h3; exact nsame' ⟨4, [42], 0, _⟩ [123] rfl
theorem whole_T (b k n F : Nat) (hk : k ≤ 19) (fin : Tok) :
    wholeF (F + k + 1) ⟨toksT b k n, fin⟩ ⟨0, 0, [], Y0⟩ = some (0, ⟨(toksT b k n).length, 0, [⟨52, -1, -1, -1, -1, [120], 0, ((endQ k n b : Nat) : Int), 0⟩], endY k n b⟩) := by
  obtain ⟨hb1, hb2⟩ := bsY_ok b
  have hl := bs_len b
  obtain ⟨hs1, hs2⟩ := stY_ok k (bsQ b) (bsY b) hb1 (by omega)
  have h0 : Rd ⟨toksT b k n, fin⟩ 0 (toksT b k n) := rfl
  have h1 := Rd.skip (us := bsT b) h0
  rw [Nat.zero_add] at h1
  have h2 := Rd.skip (us := starT k (bsL b).length) h1
  rw [starT_len] at h2
  obtain ⟨t, ts, ht, ht1, ht2⟩ := bh_head n ((bsL b).length + k + 2) ((bsL b).length + k + 2 + (bhL n).length)
  have h3 := h2.next
  have h3' := h3
  rw [ht] at h3'
  have h4 := Rd.skip (us := bhT n ((bsL b).length + k + 2)) h3
  have hbh : (bhT n ((bsL b).length + k + 2)).length ≤ 3 := by unfold bhT; split <;> simp
  unfold wholeF
  rw [if_neg no_struct]
  have ht0 : typedF (F + k + 1) ⟨toksT b k n, fin⟩ ⟨0, 0, [], Y0⟩ = some (((stQ k (bsQ b) (bsY b).length : Nat) : Int), ⟨(bsT b).length + k, 0, [], stY k (bsQ b) (bsY b)⟩) := by
    unfold typedF
    rw [plain_T b (t := ⟨1, [120], 0, 0⟩) h0 []]
    exact stars_T _ rfl k (bsT b).length (bsL b).length (bsQ b) [] (bsY b) h1 hb1 (by omega) (by omega) (by omega)
  rw [ht0]
  show (kindT _ 1 ⟨(bsT b).length + k, 0, [], stY k (bsQ b) (bsY b)⟩).bind _ = _
  rw [kind_ok h2 _ _ rfl (by omega) (by omega)]
  show (if isT _ ⟨(bsT b).length + k + 1, 0, [], stY k (bsQ b) (bsY b)⟩ [40] = true then _ else (countedF _ _ ⟨(bsT b).length + k + 1, 0, [], stY k (bsQ b) (bsY b)⟩).bind _) = _
  rw [Rd.is h3', if_neg (nsame' _ _ ht1), counted_T (t := ⟨4, [59], 0, (bsL b).length + k + 2 + (bhL n).length⟩) (ts := []) rfl h3 [] _ hs1 (by omega) (by omega) (by omega)]
  show (if isT _ ⟨(bsT b).length + k + 1 + (bhT n ((bsL b).length + k + 2)).length, 0, [], _⟩ [61] = true then none else (needT _ [59] ⟨(bsT b).length + k + 1 + (bhT n ((bsL b).length + k + 2)).length, 0, [], _⟩).bind _) = _
  rw [Rd.is h4, if_neg (nsame' _ _ rfl), need_ok h4 _ _ rfl (by omega) (by omega)]
  show addT _ ⟨_, 0, [], _⟩ = _
  rw [add_ok _ _ (by simp)]
  have hlen : (toksT b k n).length = (bsT b).length + k + 1 + (bhT n ((bsL b).length + k + 2)).length + 1 := by simp [toksT, starT_len]; omega
  have hnow : (nowT ⟨toksT b k n, fin⟩ ⟨0, 0, [], Y0⟩).pos = 0 := by
    match b with
    | 0 => rfl
    | 1 => rfl
    | 2 => rfl
    | b + 3 => rfl
  unfold nodeAt endY endQ
  rw [hnow, hlen, hs2]
  by_cases h : n = 0
  · subst h; rfl
  · simp only [if_neg h]; rfl
def treeT (b k n : Nat) : Tr.Tree := ⟨[⟨52, -1, -1, -1, -1, [120], 0, ((endQ k n b : Nat) : Int), 0⟩, ⟨20, 0, -1, -1, -1, [], 0, 0, 0⟩], endY k n b, 1⟩
theorem read_T (b k n : Nat) (hk : k ≤ 19) (hn : n ≤ 1000000) : readT 100 (srcT b k n) = some (treeT b k n) := by
  unfold readT
  rw [scan_T b k n hk hn]
  show (envOf (toksT b k n ++ [_])).bind (parseT 100) = _
  rw [envOf_snoc]
  show parseT 100 ⟨toksT b k n, _⟩ = _
  obtain ⟨fin, hfin⟩ : ∃ fin : Tok, (⟨0, [], 0, (srcT b k n).length⟩ : Tok) = fin := ⟨_, rfl⟩
  rw [hfin]
  unfold parseT
  have hw : wholesF 100 (wholeF 100 ⟨toksT b k n, fin⟩) ⟨toksT b k n, fin⟩ start0 = some ([0], ⟨(toksT b k n).length, 0, [⟨52, -1, -1, -1, -1, [120], 0, ((endQ k n b : Nat) : Int), 0⟩], endY k n b⟩) := by
    show wholesF (99 + 1) _ _ ⟨0, 0, [], Y0⟩ = _
    conv => lhs; unfold wholesF
    have hpos : 0 < (toksT b k n).length := by simp [toksT]; omega
    have hwt := whole_T b k n (99 - k) hk fin
    rw [show 99 - k + k + 1 = 100 by omega] at hwt
    rw [if_pos hpos, hwt]
    show (wholesF (98 + 1) _ _ ⟨(toksT b k n).length, 0, _, _⟩).bind _ = _
    unfold wholesF
    rw [if_neg (by simp)]
    rfl
  rw [hw]
  rfl
/-! ### The type's text -/
theorem join_flat : ∀ (l : List (List UInt8)), Lib.join l [] = l.flatten
  | [] => rfl
  | x :: r => by rw [join_cons]; simp [joinTail]
theorem tyAt_nat (Y : List Ty) (q : Nat) : tyAt Y (q : Int) = Y[q]? := by
  unfold tyAt
  rw [if_neg (by omega), Int.toNat_natCast]
theorem wrF_app (Z : List Ty) {Y : List Ty} (h : ∀ (i : Nat) t, Y[i]? = some t → t.kind = 4 ∨ t.kind = 5 → 0 ≤ t.elem ∧ t.elem < Y.length) : ∀ (f q : Nat), q < Y.length → wrF f (Y ++ Z) q = wrF f Y q
  | 0, _, _ => rfl
  | f + 1, q, hq => by
    have e : tyAt (Y ++ Z) (q : Int) = tyAt Y q := by rw [tyAt_nat, tyAt_nat, List.getElem?_append_left hq]
    unfold wrF
    rw [e]
    cases ht : tyAt Y (q : Int) with
    | none => rfl
    | some t =>
      rw [tyAt_nat] at ht
      dsimp only
      by_cases h45 : t.kind = 4 ∨ t.kind = 5
      · obtain ⟨e0, e1⟩ := h q t ht h45
        obtain ⟨m, hm⟩ : ∃ m : Nat, t.elem = m := ⟨t.elem.toNat, by omega⟩
        rw [hm, wrF_app Z h f m (by omega)]
      · rw [if_neg (fun e => h45 (.inl e)), if_neg (fun e => h45 (.inr e)), if_neg (fun e => h45 (.inl e)), if_neg (fun e => h45 (.inr e))]
theorem YOk.refs {Y : List Ty} {q : Nat} (h : YOk Y q) : ∀ (i : Nat) t, Y[i]? = some t → t.kind = 4 ∨ t.kind = 5 → 0 ≤ t.elem ∧ t.elem < Y.length := by
  intro i t hi hk
  rcases hk with hk | hk
  · have := h.ptr i t hi hk
    have := (List.getElem?_eq_some_iff.1 hi).1
    omega
  · exact absurd hk (h.arr t (List.mem_of_getElem? hi))
theorem wr_stars : ∀ (k q f : Nat) (Y : List Ty), YOk Y q → Y.length + k ≤ 200 → wrF (f + k) (stY k q Y) (stQ k q Y.length) = List.replicate k [42] ++ wrF f Y q
  | 0, q, f, Y, _, _ => rfl
  | k + 1, q, f, Y, h, hl => by
    have ih := wr_stars k Y.length (f + 1) (Y ++ [⟨4, q, 0, []⟩]) (h.star (by omega)).2 (by simp; omega)
    rw [List.length_append, List.length_singleton] at ih
    rw [show f + (k + 1) = f + 1 + k by omega]
    show wrF (f + 1 + k) (stY k Y.length (Y ++ [⟨4, q, 0, []⟩])) (stQ k Y.length (Y.length + 1)) = _
    rw [ih, wrF_4 (t := ⟨4, q, 0, []⟩) (by rw [tyAt_nat, List.getElem?_append_right (Nat.le_refl _), Nat.sub_self]; rfl) rfl, wrF_app _ h.refs f q h.lt, List.replicate_succ']
    simp
def bsW : Nat → List (List UInt8)
  | 0 => [wInt]
  | 1 => [wUnsigned]
  | 2 => [wChar]
  | _ => [[115], wStruct]
theorem wr_base (b f : Nat) : wrF (f + 1) (bsY b) (bsQ b) = bsW b := by
  match b with
  | 0 => rfl
  | 1 => rfl
  | 2 => rfl
  | b + 3 => rfl
theorem tx_base (b : Nat) (l : List (List UInt8)) : (txL ((bsW b).reverse ++ l)).flatten = bsL b ++ l.flatten := by
  match b with
  | 0 => rfl
  | 1 => rfl
  | 2 => rfl
  | b + 3 => rfl
theorem stars_flat : ∀ k, (List.replicate k ([42] : List UInt8)).flatten = repeatL [42] k
  | 0 => rfl
  | k + 1 => by rw [List.replicate_succ, List.flatten_cons, stars_flat k]; rfl
theorem endY_len {k n b : Nat} (hk : k ≤ 19) : (bsY b).length + k ≤ (endY k n b).length ∧ (endY k n b).length ≤ 30 := by
  obtain ⟨hb1, hb2⟩ := bsY_ok b
  obtain ⟨hs1, hs2⟩ := stY_ok k (bsQ b) (bsY b) hb1 (by omega)
  unfold endY
  split
  · omega
  · simp; omega
theorem endY_ok {k n b : Nat} (hk : k ≤ 19) (hn : n ≤ 1000000) : TyOk (endY k n b) := by
  obtain ⟨hb1, hb2⟩ := bsY_ok b
  obtain ⟨hs1, hs2⟩ := stY_ok k (bsQ b) (bsY b) hb1 (by omega)
  unfold endY
  split
  · exact hs1.ok
  · intro t ht
    rcases List.mem_append.1 ht with ht | ht
    · exact hs1.ok t ht
    · simp at ht; subst ht
      have := hs1.lt
      simp; omega
theorem wr_T {k n b : Nat} (hk : k ≤ 19) (f : Nat) : wrF (f + 1 + k + 1) (endY k n b) (endQ k n b) = (if n = 0 then [] else [[93], decDigits n, [91]]) ++ (List.replicate k [42] ++ bsW b) := by
  obtain ⟨hb1, hb2⟩ := bsY_ok b
  obtain ⟨hs1, hs2⟩ := stY_ok k (bsQ b) (bsY b) hb1 (by omega)
  unfold endY endQ
  by_cases h : n = 0
  · rw [if_pos h, if_pos h, if_pos h, show f + 1 + k + 1 = (f + 1 + 1) + k by omega, wr_stars k _ (f + 1 + 1) _ hb1 (by omega), wr_base]
    rfl
  · rw [if_neg h, if_neg h, if_neg h]
    rw [wrF_5 (t := ⟨5, ((stQ k (bsQ b) (bsY b).length : Nat) : Int), n, []⟩) (by rw [tyAt_nat, ← hs2, List.getElem?_append_right (Nat.le_refl _), Nat.sub_self]; rfl) rfl, wrF_app _ hs1.refs (f + 1 + k) _ hs1.lt, wr_stars k _ (f + 1) _ hb1 (by omega), wr_base]
    have e : Lib.itoa ((n : Nat) : Int) = decDigits n := by unfold Lib.itoa; rw [if_neg (by omega), Int.toNat_natCast]
    show [93] :: Lib.itoa ((n : Nat) : Int) :: [91] :: _ = _
    rw [e]
    rfl
theorem text_T {k n b : Nat} (hk : k ≤ 19) : textF (endY k n b) (endQ k n b) = bsL b ++ (repeatL [42] k ++ bhL n) := by
  obtain ⟨hb1, hb2⟩ := bsY_ok b
  have hl := (endY_len (n := n) (b := b) hk).1
  have hb4 : 4 ≤ (bsY b).length := by
    match b with
    | 0 => decide
    | 1 => decide
    | 2 => decide
    | b + 3 => show (4 : Nat) ≤ 5; omega
  unfold textF
  obtain ⟨f, hf⟩ : ∃ f, (endY k n b).length + 1 = f + 1 + k + 1 := ⟨(endY k n b).length - k - 1, by omega⟩
  rw [hf, wr_T hk, List.reverse_append, List.reverse_append, List.reverse_replicate, List.append_assoc, join_flat, tx_base]
  rw [List.flatten_append, stars_flat]
  unfold bhL
  by_cases h : n = 0
  · rw [if_pos h, if_pos h]; rfl
  · rw [if_neg h, if_neg h]
    simp
end Go.Proofs.YtkgnmlllmihmlaaGreatDoor
