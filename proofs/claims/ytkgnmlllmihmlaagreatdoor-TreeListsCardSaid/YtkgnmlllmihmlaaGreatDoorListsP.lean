/-
  A source of so many globals, and as many statements in a function, on lists. Of no program.
-/
import Derived.Test.YtkgnmlllmihmlaaGreatDoorSteps
import Derived.Test.YtkgnmlllmihmlaaGreatDoorAwake
namespace Go.Proofs.YtkgnmlllmihmlaaGreatDoor
open Sp Tr
set_option linter.unusedVariables false

abbrev sX : List UInt8 := [105, 110, 116, 32, 120, 59]
abbrev sH : List UInt8 := [105, 110, 116, 32, 109, 97, 105, 110, 40, 41, 123]
abbrev sMain : List UInt8 := [109, 97, 105, 110]
def xs : Nat → Nat → List Tok
  | 0, _ => []
  | m + 1, p => ⟨2, wInt, 0, p⟩ :: ⟨1, [120], 0, p + 4⟩ :: ⟨4, [59], 0, p + 5⟩ :: xs m (p + 6)
def semis : Nat → Nat → List Tok
  | 0, _ => []
  | n + 1, p => ⟨4, [59], 0, p⟩ :: semis n (p + 1)
def tokH (p : Nat) : List Tok := [⟨2, wInt, 0, p⟩, ⟨1, sMain, 0, p + 4⟩, ⟨4, [40], 0, p + 8⟩, ⟨4, [41], 0, p + 9⟩, ⟨4, [123], 0, p + 10⟩]
theorem xs_len : ∀ m p, (xs m p).length = 3 * m
  | 0, _ => rfl
  | m + 1, p => by simp only [xs, List.length_cons, xs_len m]; omega
theorem semis_len : ∀ n p, (semis n p).length = n
  | 0, _ => rfl
  | n + 1, p => by simp only [semis, List.length_cons, semis_len n]
/-! ### Scanning -/
theorem steps_x (r : List UInt8) (p : Nat) : Steps sX r 4 p [⟨2, wInt, 0, p⟩, ⟨1, [120], 0, p + 4⟩, ⟨4, [59], 0, p + 5⟩] :=
  (Steps.one (A := wInt) (r := [32] ++ ([120] ++ ([59] ++ r))) (k := 2) (n := 0) (by kernel_rfl)).app (B := [32] ++ ([120] ++ [59])) (k2 := 3)
    ((Steps.gap (A := [32]) (by kernel_rfl)).app (B := [120] ++ [59]) (k2 := 2)
      ((Steps.one (A := [120]) (r := [59] ++ r) (k := 1) (n := 0) (by kernel_rfl)).app (B := [59]) (k2 := 1) (Steps.one (A := [59]) (k := 4) (n := 0) (by kernel_rfl))))
theorem steps_xs : ∀ (m p : Nat) (r : List UInt8), Steps (Lib.repeatL sX m) r (4 * m) p (xs m p)
  | 0, p, r => Steps.none r p
  | m + 1, p, r => by
    have := (steps_x (Lib.repeatL sX m ++ r) p).app (steps_xs m (p + 6) r)
    rw [show 4 * (m + 1) = 4 + 4 * m by omega]
    exact this
theorem steps_H (r : List UInt8) (p : Nat) : Steps sH r 6 p (tokH p) := by
  have a1 : Steps wInt ([32] ++ (sMain ++ ([40] ++ ([41] ++ ([123] ++ r))))) 1 p [⟨2, wInt, 0, p⟩] := Steps.one (by kernel_rfl)
  have a2 : Steps [32] (sMain ++ ([40] ++ ([41] ++ ([123] ++ r)))) 1 (p + 3) [] := Steps.gap (by kernel_rfl)
  have a3 : Steps sMain ([40] ++ ([41] ++ ([123] ++ r))) 1 (p + 4) [⟨1, sMain, 0, p + 4⟩] := Steps.one (by kernel_rfl)
  have a4 : Steps [40] ([41] ++ ([123] ++ r)) 1 (p + 8) [⟨4, [40], 0, p + 8⟩] := Steps.one (by kernel_rfl)
  have a5 : Steps [41] ([123] ++ r) 1 (p + 9) [⟨4, [41], 0, p + 9⟩] := Steps.one (by kernel_rfl)
  have a6 : Steps [123] r 1 (p + 10) [⟨4, [123], 0, p + 10⟩] := Steps.one (by kernel_rfl)
  have b5 : Steps ([41] ++ [123]) r 2 (p + 9) [⟨4, [41], 0, p + 9⟩, ⟨4, [123], 0, p + 10⟩] := a5.app a6
  have b4 : Steps ([40] ++ ([41] ++ [123])) r 3 (p + 8) [⟨4, [40], 0, p + 8⟩, ⟨4, [41], 0, p + 9⟩, ⟨4, [123], 0, p + 10⟩] := a4.app (B := [41] ++ [123]) b5
  have b3 : Steps (sMain ++ ([40] ++ ([41] ++ [123]))) r 4 (p + 4) [⟨1, sMain, 0, p + 4⟩, ⟨4, [40], 0, p + 8⟩, ⟨4, [41], 0, p + 9⟩, ⟨4, [123], 0, p + 10⟩] := a3.app (B := [40] ++ ([41] ++ [123])) b4
  have b2 : Steps ([32] ++ (sMain ++ ([40] ++ ([41] ++ [123])))) r 5 (p + 3) [⟨1, sMain, 0, p + 4⟩, ⟨4, [40], 0, p + 8⟩, ⟨4, [41], 0, p + 9⟩, ⟨4, [123], 0, p + 10⟩] := a2.app (B := sMain ++ ([40] ++ ([41] ++ [123]))) b3
  exact a1.app (B := [32] ++ (sMain ++ ([40] ++ ([41] ++ [123])))) b2
theorem steps_semis : ∀ (n p : Nat) (r : List UInt8), Steps (Lib.repeatL [59] n) r n p (semis n p)
  | 0, p, r => Steps.none r p
  | n + 1, p, r => by
    have := (Steps.one (A := [59]) (r := Lib.repeatL [59] n ++ r) (p := p) (k := 4) (n := 0) (by kernel_rfl)).app (steps_semis n (p + 1) r)
    show Steps ([59] ++ Lib.repeatL [59] n) r (n + 1) p ([⟨4, [59], 0, p⟩] ++ semis n (p + 1))
    rw [Nat.add_comm n 1]
    exact this
def srcL (m n : Nat) : List UInt8 := Lib.repeatL sX m ++ (sH ++ (Lib.repeatL [59] n ++ [125]))
def toksL (m n : Nat) : List Tok := xs m 0 ++ (tokH (6 * m) ++ (semis n (6 * m + 11) ++ [⟨4, [125], 0, 6 * m + 11 + n⟩]))
theorem srcL_len (m n : Nat) : (srcL m n).length = 6 * m + 11 + n + 1 := by
  simp [srcL, Lib.repeatL_length]; omega
theorem toksL_len (m n : Nat) : (toksL m n).length = 3 * m + 5 + n + 1 := by
  simp [toksL, xs_len, semis_len, tokH]; omega
theorem scan_L (m n : Nat) (hm : m ≤ 100) (hn : n ≤ 100) : Sp.scan (srcL m n) = .ok (toksL m n ++ [⟨0, [], 0, (srcL m n).length⟩]) := by
  have h4 : Steps [125] [] 1 (6 * m + 11 + n) [⟨4, [125], 0, 6 * m + 11 + n⟩] := Steps.one (n := 0) (by kernel_rfl)
  have h3 := (steps_semis n (6 * m + 11) ([125] ++ [])).app (B := [125]) (k2 := 1) (us := [⟨4, [125], 0, 6 * m + 11 + n⟩]) (by rw [Lib.repeatL_length]; simpa using h4)
  have h2 := (steps_H (Lib.repeatL [59] n ++ [125] ++ []) (6 * m)).app (B := Lib.repeatL [59] n ++ [125]) h3
  have h1 := (steps_xs m 0 (sH ++ (Lib.repeatL [59] n ++ [125]) ++ [])).app (B := sH ++ (Lib.repeatL [59] n ++ [125])) (by rw [Lib.repeatL_length, Nat.zero_add]; rw [show m * sX.length = 6 * m by simp; omega]; exact h2)
  have e := srcL_len m n
  have e2 := toksL_len m n
  exact Steps.whole (A := srcL m n) (ts := toksL m n) h1 (by omega) (by omega) (by omega)
/-! ### Parsing -/
theorem plain_int {E : PE} {r d n p : Nat} {ts : List Tok} (h : Rd E r (⟨2, wInt, n, p⟩ :: ts)) (N : List Nd) (Y : List Ty) (hd : d ≤ 100) (hr : r < 40000) : plainF E ⟨r, d, N, Y⟩ = some (1, ⟨r + 1, d, N, Y⟩) := by
  unfold plainF
  rw [h.is, if_neg (by show ¬ sameT ⟨2, wInt, n, p⟩ wVoid = true; rw [show sameT ⟨2, wInt, n, p⟩ wVoid = false from rfl]; simp), h.is, if_pos (by rfl), take_ok N Y hd hr]; rfl
theorem stars_no {E : PE} {r d f : Nat} {t : Tok} {ts : List Tok} {q : Int} (h : Rd E r (t :: ts)) (N : List Nd) (Y : List Ty) (ht : sameT t [42] = false) : starsF (f + 1) E q ⟨r, d, N, Y⟩ = some (q, ⟨r, d, N, Y⟩) := by
  unfold starsF
  rw [h.is, ht]; rfl
theorem typed_int {E : PE} {r d n p f : Nat} {t : Tok} {ts : List Tok} (h : Rd E r (⟨2, wInt, n, p⟩ :: t :: ts)) (N : List Nd) (Y : List Ty) (ht : sameT t [42] = false) (hd : d ≤ 100) (hr : r < 40000) : typedF (f + 1) E ⟨r, d, N, Y⟩ = some (1, ⟨r + 1, d, N, Y⟩) := by
  unfold typedF
  rw [plain_int h N Y hd hr]
  exact stars_no h.next N Y ht
theorem nsame (t : Tok) (x : List UInt8) (h : sameT t x = false) : ¬ sameT t x = true := by rw [h]; simp
theorem whole_x {E : PE} {r f p : Nat} {ts : List Tok} (h : Rd E r (⟨2, wInt, 0, p⟩ :: ⟨1, [120], 0, p + 4⟩ :: ⟨4, [59], 0, p + 5⟩ :: ts)) (N : List Nd) (Y : List Ty) (hr : r + 3 < 40000) (hN : N.length < 8192) :
    wholeF (f + 1) E ⟨r, 0, N, Y⟩ = some ((N.length : Int), ⟨r + 3, 0, N ++ [⟨52, -1, -1, -1, -1, [120], 0, 1, p⟩], Y⟩) := by
  unfold wholeF
  rw [if_neg (by rw [h.is]; rintro ⟨h1, _⟩; revert h1; exact nsame _ _ rfl), typed_int h N Y (by rfl) (by omega) (by omega)]
  show (kindT E 1 ⟨r + 1, 0, N, Y⟩).bind _ = _
  rw [kind_ok h.next N Y rfl (by omega) (by omega)]
  have h2 := h.next.next
  show (if isT E ⟨r + 1 + 1, 0, N, Y⟩ [40] = true then _ else (countedF E 1 ⟨r + 1 + 1, 0, N, Y⟩).bind _) = _
  rw [h2.is, if_neg (nsame _ _ rfl)]
  unfold countedF
  rw [h2.is, if_neg (nsame _ _ rfl)]
  show (if isT E ⟨r + 1 + 1, 0, N, Y⟩ [61] = true then none else (needT E [59] ⟨r + 1 + 1, 0, N, Y⟩).bind _) = _
  rw [h2.is, if_neg (nsame _ _ rfl), need_ok h2 N Y rfl (by omega) (by omega)]
  show addT { nodeAt E ⟨r, 0, N, Y⟩ 52 with ty := 1, text := [120] } ⟨r + 1 + 1 + 1, 0, N, Y⟩ = _
  rw [add_ok _ _ hN]
  unfold nodeAt
  rw [h.now]
def idxs : Nat → Nat → List Int
  | 0, _ => []
  | m + 1, k => (k : Int) :: idxs m (k + 1)
theorem idxs_len : ∀ m k, (idxs m k).length = m
  | 0, _ => rfl
  | m + 1, k => by simp [idxs, idxs_len m]
theorem idxs_mem : ∀ (m k : Nat) (y : Int), y ∈ idxs m k → (k : Int) ≤ y ∧ y < ((k + m : Nat) : Int)
  | 0, _, _, h => by simp [idxs] at h
  | m + 1, k, y, h => by
    rcases List.mem_cons.1 h with rfl | h
    · omega
    · have := idxs_mem m (k + 1) y h; omega
def nodesX : Nat → Nat → List Nd
  | 0, _ => []
  | m + 1, p => ⟨52, -1, -1, -1, -1, [120], 0, 1, p⟩ :: nodesX m (p + 6)
theorem nodesX_len : ∀ m p, (nodesX m p).length = m
  | 0, _ => rfl
  | m + 1, p => by simp [nodesX, nodesX_len m]
theorem nodesX_fit : ∀ m p, FitL (nodesX m p)
  | 0, _ => fun x hx => by simp [nodesX] at hx
  | m + 1, p => fun x hx => by
    rcases List.mem_cons.1 hx with rfl | hx
    · unfold FitN; simp
    · exact nodesX_fit m _ x hx
theorem wholes_x {E : PE} {f : Nat} {ts : List Tok} : ∀ (m k r p : Nat) (N : List Nd) (Y : List Ty), Rd E r (xs m p ++ ts) → r + 3 * m < 30000 → N.length + m < 8192 →
    wholesF (k + m) (wholeF (f + 1) E) E ⟨r, 0, N, Y⟩ = (wholesF k (wholeF (f + 1) E) E ⟨r + 3 * m, 0, N ++ nodesX m p, Y⟩).map fun q => (idxs m N.length ++ q.1, q.2)
  | 0, k, r, p, N, Y, _, _, _ => by
    simp only [nodesX, idxs, List.append_nil, List.nil_append, Nat.mul_zero, Nat.add_zero]
    cases wholesF k (wholeF (f + 1) E) E ⟨r, 0, N, Y⟩ <;> rfl
  | m + 1, k, r, p, N, Y, h, hr, hN => by
    have hlt : r < E.toks.length := by
      have h1 := congrArg List.length h
      simp only [xs, List.cons_append, List.length_cons, List.length_drop] at h1
      omega
    show wholesF ((k + m) + 1) _ _ _ = _
    conv => lhs; unfold wholesF
    rw [if_pos (show (⟨r, 0, N, Y⟩ : S).read < E.toks.length from hlt), whole_x h N Y (by omega) (by omega)]
    show (wholesF (k + m) _ E ⟨r + 3, 0, N ++ [⟨52, -1, -1, -1, -1, [120], 0, 1, p⟩], Y⟩).bind _ = _
    rw [wholes_x m k (r + 3) (p + 6) _ Y h.next.next.next (by omega) (by simp; omega)]
    rw [show r + 3 + 3 * m = r + 3 * (m + 1) by omega]
    simp only [List.length_append, List.length_cons, List.length_nil, Nat.zero_add, List.append_assoc, List.singleton_append]
    show (Option.map _ (wholesF k _ E ⟨_, 0, N ++ nodesX (m + 1) p, Y⟩)).bind _ = _
    cases wholesF k (wholeF (f + 1) E) E ⟨r + 3 * (m + 1), 0, N ++ nodesX (m + 1) p, Y⟩ with
    | none => rfl
    | some q => rfl
end Go.Proofs.YtkgnmlllmihmlaaGreatDoor
