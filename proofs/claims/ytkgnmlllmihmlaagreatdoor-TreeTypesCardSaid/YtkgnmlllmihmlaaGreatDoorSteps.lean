/-
  Scanning and parsing of a text put together from pieces, on lists. Of no program.
-/
import Derived.Test.YtkgnmlllmihmlaaGreatDoorListG
import Derived.Lib.Repeat
namespace Go.Proofs.YtkgnmlllmihmlaaGreatDoor
open Sp Tr
set_option linter.unusedVariables false

/-! ### Scanning -/
/-- So many steps of scanning read a text, whatever follows, as these tokens. -/
def Steps (A r : List UInt8) (k p : Nat) (ts : List Tok) : Prop :=
  ∀ f c, c + ts.length ≤ 8192 → scanF (f + k) (A ++ r) p c = (scanF f r (p + A.length) (c + ts.length)).map (ts ++ ·)
theorem map_map_ex {x : Res} (a b : List Tok) : Except.map (a ++ ·) (Except.map (b ++ ·) x) = Except.map ((a ++ b) ++ ·) x := by
  cases x with
  | error e => rfl
  | ok l => simp [Except.map]
theorem Steps.none (r : List UInt8) (p : Nat) : Steps [] r 0 p [] := by
  intro f c _
  simp only [List.nil_append, Nat.add_zero, List.length_nil]
  cases scanF f r p c <;> rfl
theorem Steps.app {A B r : List UInt8} {k1 k2 p : Nat} {ts us : List Tok} (h1 : Steps A (B ++ r) k1 p ts) (h2 : Steps B r k2 (p + A.length) us) : Steps (A ++ B) r (k1 + k2) p (ts ++ us) := by
  intro f c hc
  rw [List.length_append] at hc
  rw [List.append_assoc, show f + (k1 + k2) = (f + k2) + k1 by omega, h1 _ _ (by omega), h2 _ _ (by omega), map_map_ex, List.length_append, List.length_append, Nat.add_assoc, Nat.add_assoc]
theorem Steps.one {A r : List UInt8} {p n : Nat} {k : Int} (h : Sp.step (A ++ r) = .tok k A.length n) : Steps A r 1 p [⟨k, A, n, p⟩] := by
  intro f c hc
  have hc2 : c ≠ 8192 := by simp at hc; omega
  show scanF (f + 1) _ _ _ = _
  conv => lhs; unfold scanF
  rw [h]
  simp only [hc2, if_false, List.drop_left, List.take_left, List.length_cons, List.length_nil, Nat.zero_add]
  rfl
theorem Steps.gap {A r : List UInt8} {p : Nat} (h : Sp.step (A ++ r) = .white A.length) : Steps A r 1 p [] := by
  intro f c hc
  show scanF (f + 1) _ _ _ = _
  conv => lhs; unfold scanF
  rw [h]
  simp only [List.drop_left, List.length_nil, Nat.add_zero]
  cases scanF f r (p + A.length) c <;> rfl
theorem Steps.whole {A : List UInt8} {k : Nat} {ts : List Tok} (h : Steps A [] k 0 ts) (hk : k ≤ A.length) (hA : A.length ≤ 32768) (ht : ts.length ≤ 8192) : Sp.scan A = .ok (ts ++ [⟨0, [], 0, A.length⟩]) := by
  unfold Sp.scan
  rw [if_neg (by omega)]
  have := h (A.length + 1 - k) 0 (by omega)
  rw [List.append_nil, show A.length + 1 - k + k = A.length + 1 by omega] at this
  rw [this]
  obtain ⟨f, hf⟩ : ∃ f, A.length + 1 - k = f + 1 := ⟨A.length - k, by omega⟩
  rw [hf, Nat.zero_add]
  rfl
theorem envOf_snoc (ts : List Tok) (p : Nat) : envOf (ts ++ [⟨0, [], 0, p⟩]) = some ⟨ts, ⟨0, [], 0, p⟩⟩ := by
  unfold envOf
  simp
/-! ### Parsing -/
def Rd (E : PE) (r : Nat) (ts : List Tok) : Prop := E.toks.drop r = ts
theorem Rd.ahd {E : PE} {r : Nat} {ts : List Tok} (h : Rd E r ts) (d : Nat) (N : List Nd) (Y : List Ty) (k : Nat) : ahd E ⟨r, d, N, Y⟩ k = ts.getD k E.fin := by
  unfold Tr.ahd
  rw [List.getD_eq_getElem?_getD, List.getD_eq_getElem?_getD, ← h, List.getElem?_drop]
theorem Rd.now {E : PE} {r : Nat} {t : Tok} {ts : List Tok} (h : Rd E r (t :: ts)) (d : Nat) (N : List Nd) (Y : List Ty) : nowT E ⟨r, d, N, Y⟩ = t := h.ahd d N Y 0
theorem Rd.next {E : PE} {r : Nat} {t : Tok} {ts : List Tok} (h : Rd E r (t :: ts)) : Rd E (r + 1) ts := by
  unfold Rd at *
  rw [← List.drop_drop, h]; rfl
theorem Rd.skip {E : PE} {r : Nat} {us ts : List Tok} (h : Rd E r (us ++ ts)) : Rd E (r + us.length) ts := by
  unfold Rd at *
  rw [← List.drop_drop, h, List.drop_left]
theorem Rd.is {E : PE} {r : Nat} {t : Tok} {ts : List Tok} (h : Rd E r (t :: ts)) (d : Nat) (N : List Nd) (Y : List Ty) (x : List UInt8) : isT E ⟨r, d, N, Y⟩ x = sameT t x := by
  unfold isT; rw [h.now]
theorem take_ok {r d : Nat} (N : List Nd) (Y : List Ty) (hd : d ≤ 100) (hr : r < 40000) : takeT ⟨r, d, N, Y⟩ = some ⟨r + 1, d, N, Y⟩ := by
  unfold takeT
  rw [if_pos ⟨hd, by unfold big; show r < _; omega⟩]
theorem need_ok {E : PE} {r d : Nat} {t : Tok} {ts : List Tok} {x : List UInt8} (h : Rd E r (t :: ts)) (N : List Nd) (Y : List Ty) (hx : sameT t x = true) (hd : d ≤ 100) (hr : r < 40000) : needT E x ⟨r, d, N, Y⟩ = some ⟨r + 1, d, N, Y⟩ := by
  unfold needT
  rw [h.is, if_pos hx, take_ok N Y hd hr]
theorem kind_ok {E : PE} {r d : Nat} {t : Tok} {ts : List Tok} {k : Int} (h : Rd E r (t :: ts)) (N : List Nd) (Y : List Ty) (hx : t.k = k) (hd : d ≤ 100) (hr : r < 40000) : kindT E k ⟨r, d, N, Y⟩ = some (t, ⟨r + 1, d, N, Y⟩) := by
  unfold kindT
  rw [h.now, if_pos hx, take_ok N Y hd hr]; rfl
theorem add_ok {r d : Nat} {N : List Nd} (n : Nd) (Y : List Ty) (h : N.length < 8192) : addT n ⟨r, d, N, Y⟩ = some ((N.length : Int), ⟨r, d, N ++ [n], Y⟩) := by
  unfold addT
  rw [if_pos h]
/-- What the parts of a node may be. -/
def FitN (x : Nd) : Prop := -1 ≤ x.a ∧ x.a ≤ 8192 ∧ -1 ≤ x.b ∧ x.b ≤ 8192
def FitL (N : List Nd) : Prop := ∀ x ∈ N, FitN x
theorem FitL.app {N M : List Nd} (h : FitL N) (k : FitL M) : FitL (N ++ M) := fun x hx => (List.mem_append.1 hx).elim (h x) (k x)
theorem FitL.one {x : Nd} (h : FitN x) : FitL [x] := fun y hy => by rw [List.mem_singleton.1 hy]; exact h
theorem FitL.fits {T : Tr.Tree} (h : FitL T.nodes) : Fits T := fun x hx => by
  obtain ⟨h1, h2, h3, h4⟩ := h x hx
  exact ⟨⟨by omega, by omega⟩, by omega, by omega⟩
/-- A list's nodes stand in the tree. -/
def Has (T : Tr.Tree) (N : List Nd) : Prop := ∀ (i : Nat) (x : Nd), N[i]? = some x → T.nodes[i]? = some x
theorem Has.left {T : Tr.Tree} {N M : List Nd} (h : Has T (N ++ M)) : Has T N := fun i x hx => h i x (by rw [List.getElem?_append_left (List.getElem?_eq_some_iff.1 hx).1]; exact hx)
theorem Has.last {T : Tr.Tree} {N : List Nd} {x : Nd} (h : Has T (N ++ [x])) : T.nodes[N.length]? = some x := h N.length x (by simp)
theorem isNd_of {T : Tr.Tree} {i : Nat} {x : Nd} {k : Int} (h : T.nodes[i]? = some x) (hk : x.kind = k) : isNd T i k = true ∧ ndAt T i = some x := by
  have h1 : ndAt T i = some x := by unfold ndAt; rw [if_neg (by omega), Int.toNat_natCast]; exact h
  refine ⟨?_, h1⟩
  unfold isNd
  rw [h1]
  simpa using hk
theorem listR_ok : ∀ (ys : List Int) (rest : Int) (r d : Nat) (N : List Nd) (Y : List Ty), (∀ y ∈ ys, 0 ≤ y ∧ y < (N.length : Int)) → N.length + ys.length ≤ 8192 → FitL N → -1 ≤ rest → rest ≤ 8192 →
    ∃ (q : Int) (M : List Nd), listR ys rest ⟨r, d, N, Y⟩ = some (q, ⟨r, d, N ++ M, Y⟩) ∧ M.length = ys.length ∧ FitL (N ++ M) ∧ -1 ≤ q ∧ q ≤ 8192 ∧
      ∀ T, Has T (N ++ M) → ∀ F k, k + ys.length ≤ T.nodes.length → itemsF (F + ys.length) T q k = ys.reverse ++ itemsF F T rest (k + ys.length)
  | [], rest, r, d, N, Y, _, _, hf, h1, h2 => ⟨rest, [], by simp [listR], rfl, by simpa using hf, h1, h2, fun T _ F k _ => by simp⟩
  | y :: ys, rest, r, d, N, Y, hy, hl, hf, h1, h2 => by
    obtain ⟨y0, y1⟩ := hy y (by simp)
    simp only [List.length_cons] at hl
    obtain ⟨nd, hnd⟩ : ∃ nd, N[y.toNat]? = some nd := ⟨_, List.getElem?_eq_getElem (by omega)⟩
    have hf2 : FitL (N ++ [⟨20, y, rest, -1, -1, [], 0, 0, nd.pos⟩]) := hf.app (FitL.one ⟨by show -1 ≤ y; omega, by show y ≤ 8192; omega, h1, h2⟩)
    obtain ⟨q, M, e1, e2, e3, e4, e5, e6⟩ := listR_ok ys N.length r d (N ++ [⟨20, y, rest, -1, -1, [], 0, 0, nd.pos⟩]) Y (fun z hz => by have := hy z (by simp [hz]); simp; omega) (by simp; omega) hf2 (by omega) (by omega)
    refine ⟨q, ⟨20, y, rest, -1, -1, [], 0, 0, nd.pos⟩ :: M, ?_, by simp [e2], ?_, e4, e5, ?_⟩
    · unfold listR
      rw [if_neg (by omega)]
      simp only [hnd]
      rw [add_ok _ _ (by omega)]
      show listR ys _ _ = _
      rw [e1]
      simp
    · simpa using e3
    · intro T hT F k hk
      simp only [List.length_cons] at hk
      have hT2 : Has T ((N ++ [⟨20, y, rest, -1, -1, [], 0, 0, nd.pos⟩]) ++ M) := by simpa using hT
      have hx := isNd_of (k := 20) hT2.left.last rfl
      rw [List.length_cons, show F + (ys.length + 1) = (F + 1) + ys.length by omega, e6 T hT2 (F + 1) k (by omega), itemsF_step hx.1 (by omega) hx.2]
      simp only [List.reverse_cons, List.append_assoc, List.singleton_append]
      rw [Nat.add_assoc]
theorem list_ok {xs : List Int} {r d : Nat} {N : List Nd} {Y : List Ty} (hy : ∀ y ∈ xs, 0 ≤ y ∧ y < (N.length : Int)) (hl : N.length + xs.length ≤ 8192) (hf : FitL N) :
    ∃ (q : Int) (M : List Nd), listOf xs ⟨r, d, N, Y⟩ = some (q, ⟨r, d, N ++ M, Y⟩) ∧ M.length = xs.length ∧ FitL (N ++ M) ∧ -1 ≤ q ∧ q ≤ 8192 ∧
      ∀ T, Has T (N ++ M) → ∀ F, xs.length < F → xs.length ≤ T.nodes.length → itemsF F T q 0 = xs := by
  obtain ⟨q, M, h1, h2, h3, h4, h5, h6⟩ := listR_ok xs.reverse (-1) r d N Y (fun y h => hy y (by simpa using h)) (by simpa using hl) hf (by omega) (by omega)
  refine ⟨q, M, h1, by simpa using h2, h3, h4, h5, fun T hT F hF hn => ?_⟩
  have := h6 T hT (F - xs.length) 0 (by simpa using hn)
  rw [List.length_reverse, show F - xs.length + xs.length = F by omega, List.reverse_reverse] at this
  rw [this, itemsF_no (by unfold isNd ndAt; rw [if_pos (by omega)]), List.append_nil]
end Go.Proofs.YtkgnmlllmihmlaaGreatDoor
