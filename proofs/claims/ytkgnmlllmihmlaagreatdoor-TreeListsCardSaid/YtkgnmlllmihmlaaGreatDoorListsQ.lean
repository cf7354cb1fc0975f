/-
  The tree of a source of so many globals, and as many statements in a function. Of no program.
-/
import Derived.Test.YtkgnmlllmihmlaaGreatDoorListsP
namespace Go.Proofs.YtkgnmlllmihmlaaGreatDoor
open Sp Tr
set_option linter.unusedVariables false

theorem Rd.isf {E : PE} {r : Nat} {t : Tok} {ts : List Tok} (h : Rd E r (t :: ts)) (d : Nat) (N : List Nd) (Y : List Ty) : isT E ⟨r, d, N, Y⟩ = sameT t := funext fun x => h.is d N Y x
theorem st_semi {E : PE} {r f p : Nat} {ts : List Tok} (h : Rd E r (⟨4, [59], 0, p⟩ :: ts)) (N : List Nd) (Y : List Ty) (hr : r < 40000) (hN : N.length < 8192) :
    stF f E ⟨r, 1, N, Y⟩ = some ((N.length : Int), ⟨r + 1, 1, N ++ [⟨44, -1, -1, -1, -1, [], 0, 0, p⟩], Y⟩) := by
  unfold stF
  rw [h.isf, if_neg (nsame _ _ rfl), if_neg (show ¬ stWords.any (sameT ⟨4, [59], 0, p⟩) = true by rw [show stWords.any (sameT ⟨4, [59], 0, p⟩) = false from rfl]; simp), h.now, if_neg (by simp)]
  unfold simpF
  rw [h.isf, if_pos (by rfl)]
  show (needT E [59] ⟨r, 1, N, Y⟩).bind _ = _
  rw [need_ok h N Y rfl (by omega) hr]
  show addT { nodeAt E ⟨r, 1, N, Y⟩ 30 with kind := 44 } ⟨r + 1, 1, N, Y⟩ = _
  rw [add_ok _ _ hN]
  unfold nodeAt
  rw [h.now]
def nodesE : Nat → Nat → List Nd
  | 0, _ => []
  | n + 1, p => ⟨44, -1, -1, -1, -1, [], 0, 0, p⟩ :: nodesE n (p + 1)
theorem nodesE_len : ∀ m p, (nodesE m p).length = m
  | 0, _ => rfl
  | m + 1, p => by simp [nodesE, nodesE_len m]
theorem nodesE_fit : ∀ m p, FitL (nodesE m p)
  | 0, _ => fun x hx => by simp [nodesE] at hx
  | m + 1, p => fun x hx => by
    rcases List.mem_cons.1 hx with rfl | hx
    · unfold FitN; simp
    · exact nodesE_fit m _ x hx
theorem sts_ok {E : PE} {f b : Nat} {ts : List Tok} (Y : List Ty) : ∀ (n k r p : Nat) (N : List Nd), Rd E r (semis n p ++ ⟨4, [125], 0, b⟩ :: ts) → n < k → r + n < 40000 → N.length + n < 8192 →
    stsF k (stF f E) E ⟨r, 0, N, Y⟩ = some (idxs n N.length, ⟨r + n, 0, N ++ nodesE n p, Y⟩)
  | 0, k + 1, r, p, N, h, _, _, _ => by
    have h' : Rd E r (⟨4, [125], 0, b⟩ :: ts) := h
    unfold stsF
    rw [h'.is, if_pos (by rfl)]
    simp [idxs, nodesE]
  | n + 1, k + 1, r, p, N, h, hk, hr, hN => by
    have h' : Rd E r (⟨4, [59], 0, p⟩ :: (semis n (p + 1) ++ ⟨4, [125], 0, b⟩ :: ts)) := h
    unfold stsF
    rw [h'.is, if_neg (nsame _ _ rfl)]
    unfold deep
    rw [if_pos (show 0 < big by decide)]
    show (((stF f E ⟨r, 1, N, Y⟩).bind _).bind _) = _
    rw [st_semi h' N Y (by omega) (by omega)]
    show (stsF k (stF f E) E ⟨r + 1, 0, N ++ [⟨44, -1, -1, -1, -1, [], 0, 0, p⟩], Y⟩).bind _ = _
    rw [sts_ok Y n k (r + 1) (p + 1) _ h'.next (by omega) (by omega) (by simp; omega)]
    rw [show r + 1 + n = r + (n + 1) by omega]
    simp only [List.length_append, List.length_cons, List.length_nil, Nat.zero_add, List.append_assoc, List.singleton_append]
    rfl
theorem func_ok {E : PE} {f r p n b : Nat} {ts : List Tok} {N : List Nd} {Y : List Ty} (h : Rd E r (tokH p ++ (semis n (p + 11) ++ ⟨4, [125], 0, b⟩ :: ts))) (hn : n < f + 1) (hr : r + 6 + n < 40000) (hN : N.length + 2 * n + 2 ≤ 8192) (hf : FitL N) :
    ∃ (q : Int) (M : List Nd), wholeF (f + 1) E ⟨r, 0, N, Y⟩ = some ((((N ++ nodesE n (p + 11) ++ M) ++ [⟨43, q, -1, -1, -1, [], 0, 0, ((p + 10 : Nat) : Int)⟩] : List Nd).length : Int), ⟨r + 6 + n, 0, (N ++ nodesE n (p + 11) ++ M) ++ [⟨43, q, -1, -1, -1, [], 0, 0, ((p + 10 : Nat) : Int)⟩] ++ [⟨50, -1, (N ++ nodesE n (p + 11) ++ M).length, -1, -1, sMain, 0, 1, p⟩], Y⟩)
      ∧ M.length = n ∧ FitL (N ++ nodesE n (p + 11) ++ M) ∧ -1 ≤ q ∧ q ≤ 8192 ∧ ∀ T, Has T (N ++ nodesE n (p + 11) ++ M) → ∀ F, n < F → n ≤ T.nodes.length → itemsF F T q 0 = idxs n N.length := by
  have h0 : Rd E r (⟨2, wInt, 0, p⟩ :: ⟨1, sMain, 0, p + 4⟩ :: ⟨4, [40], 0, p + 8⟩ :: ⟨4, [41], 0, p + 9⟩ :: ⟨4, [123], 0, p + 10⟩ :: (semis n (p + 11) ++ ⟨4, [125], 0, b⟩ :: ts)) := h
  have h1 := h0.next
  have h2 := h1.next
  have h3 := h2.next
  have h4 := h3.next
  have h5 := h4.next
  have h6 : Rd E (r + 5 + n) (⟨4, [125], 0, b⟩ :: ts) := by have := h5.skip; rw [semis_len] at this; exact this
  obtain ⟨q, M, l1, l2, l3, l4, l5, l6⟩ := list_ok (xs := idxs n N.length) (r := r + 5 + n) (d := 0) (N := N ++ nodesE n (p + 11)) (Y := Y) (fun y hy => by have := idxs_mem n N.length y hy; rw [List.length_append, nodesE_len]; omega) (by rw [List.length_append, nodesE_len, idxs_len]; omega) (hf.app (nodesE_fit _ _))
  rw [idxs_len] at l2 l6
  refine ⟨q, M, ?_, l2, l3, l4, l5, l6⟩
  have hlen : (N ++ nodesE n (p + 11) ++ M).length = N.length + 2 * n := by rw [List.length_append, List.length_append, nodesE_len, l2]; omega
  unfold wholeF
  rw [if_neg (by rw [h0.is]; rintro ⟨x1, _⟩; revert x1; exact nsame _ _ rfl), typed_int h0 N Y (by rfl) (by omega) (by omega)]
  show (kindT E 1 ⟨r + 1, 0, N, Y⟩).bind _ = _
  rw [kind_ok h1 N Y rfl (by omega) (by omega)]
  show (if isT E ⟨r + 1 + 1, 0, N, Y⟩ [40] = true then (takeT ⟨r + 1 + 1, 0, N, Y⟩).bind _ else _) = _
  rw [h2.is, if_pos (by rfl), take_ok N Y (by omega) (by omega)]
  show (if isT E ⟨r + 1 + 1 + 1, 0, N, Y⟩ [41] = true then (takeT ⟨r + 1 + 1 + 1, 0, N, Y⟩).bind _ else _) = _
  rw [h3.is, if_pos (by rfl), take_ok N Y (by omega) (by omega)]
  show (blockF (f + 1) E ⟨r + 1 + 1 + 1 + 1, 0, N, Y⟩).bind _ = _
  unfold blockF
  rw [need_ok h4 N Y rfl (by omega) (by omega)]
  show ((stsF (f + 1) _ E ⟨r + 1 + 1 + 1 + 1 + 1, 0, N, Y⟩).bind _).bind _ = _
  rw [sts_ok Y n (f + 1) _ (p + 11) N h5 hn (by omega) (by omega)]
  show ((listOf (idxs n N.length) ⟨r + 5 + n, 0, N ++ nodesE n (p + 11), Y⟩).bind _).bind _ = _
  rw [l1]
  show ((needT E [125] ⟨r + 5 + n, 0, N ++ nodesE n (p + 11) ++ M, Y⟩).bind _).bind _ = _
  rw [need_ok h6 _ Y rfl (by omega) (by omega)]
  show (addT { nodeAt E ⟨r + 1 + 1 + 1 + 1, 0, N, Y⟩ 43 with a := q } ⟨r + 5 + n + 1, 0, N ++ nodesE n (p + 11) ++ M, Y⟩).bind _ = _
  rw [add_ok _ _ (by omega)]
  unfold nodeAt
  rw [h4.now]
  show addT { nodeAt E ⟨r, 0, N, Y⟩ 50 with ty := 1, text := sMain, b := _ } ⟨r + 5 + n + 1, 0, _, Y⟩ = _
  rw [add_ok _ _ (by rw [List.length_append, hlen]; simp; omega)]
  unfold nodeAt
  rw [h0.now, show r + 5 + n + 1 = r + 6 + n by omega]
/-- What is known of the tree of so many globals, and as many statements in a function. -/
structure TreeL (m n : Nat) (T : Tr.Tree) (fi bi : Nat) (q pF pB : Int) : Prop where
  fit : FitL T.nodes
  len : T.nodes.length ≤ 8192
  top : -1 ≤ T.top ∧ T.top ≤ 8192
  items : itemsF 9000 T T.top 0 = idxs m 0 ++ [(fi : Int)]
  func : T.nodes[fi]? = some ⟨50, -1, bi, -1, -1, sMain, 0, 1, pF⟩
  block : T.nodes[bi]? = some ⟨43, q, -1, -1, -1, [], 0, 0, pB⟩
  sts : itemsF 9000 T q 0 = idxs n m
theorem parse_L (m n z : Nat) (hm : m ≤ 100) (hn : n ≤ 100) : ∃ T fi bi q pF pB, parseT 300 ⟨toksL m n, ⟨0, [], 0, z⟩⟩ = some T ∧ TreeL m n T fi bi q pF pB := by
  obtain ⟨E, hE⟩ : ∃ E : PE, E = ⟨toksL m n, ⟨0, [], 0, z⟩⟩ := ⟨_, rfl⟩
  rw [← hE]
  have ht : E.toks = toksL m n := by rw [hE]
  have hl : E.toks.length = 3 * m + 5 + n + 1 := by rw [ht, toksL_len]
  have h0 : Rd E 0 (xs m 0 ++ (tokH (6 * m) ++ (semis n (6 * m + 11) ++ [⟨4, [125], 0, 6 * m + 11 + n⟩]))) := by unfold Rd; rw [ht]; rfl
  have h1 : Rd E (3 * m) (tokH (6 * m) ++ (semis n (6 * m + 11) ++ [⟨4, [125], 0, 6 * m + 11 + n⟩])) := by have := h0.skip; rw [xs_len, Nat.zero_add] at this; exact this
  clear ht hE
  obtain ⟨Y0, hY⟩ : ∃ Y, Y = start0.types := ⟨_, rfl⟩
  have hw := wholes_x (f := 299) m (300 - m) 0 0 [] Y0 h0 (by omega) (by simp; omega)
  rw [show 300 - m + m = 300 by omega, Nat.zero_add, List.nil_append] at hw
  obtain ⟨q, M, f1, f2, f3, f4, f5, f6⟩ := func_ok (f := 299) (N := nodesX m 0) (Y := Y0) h1 (by omega) (by omega) (by rw [nodesX_len]; omega) (nodesX_fit _ _)
  rw [nodesX_len] at f6
  obtain ⟨A, hA⟩ : ∃ A, nodesX m 0 ++ nodesE n (6 * m + 11) ++ M = A := ⟨_, rfl⟩
  have hAl : A.length = m + 2 * n := by rw [← hA, List.length_append, List.length_append, nodesX_len, nodesE_len, f2]; omega
  rw [hA] at f1 f3 f6
  obtain ⟨j, hj⟩ : ∃ j, 300 - m = j + 1 + 1 := ⟨298 - m, by omega⟩
  have hw2 : wholesF (300 - m) (wholeF 300 E) E ⟨3 * m, 0, nodesX m 0, Y0⟩ = some ([((A ++ [⟨43, q, -1, -1, -1, [], 0, 0, ((6 * m + 10 : Nat) : Int)⟩] : List Nd).length : Int)], ⟨3 * m + 6 + n, 0, A ++ [⟨43, q, -1, -1, -1, [], 0, 0, ((6 * m + 10 : Nat) : Int)⟩] ++ [⟨50, -1, A.length, -1, -1, sMain, 0, 1, ((6 * m : Nat) : Int)⟩], Y0⟩) := by
    rw [hj]
    conv => lhs; unfold wholesF
    rw [if_pos (show (⟨3 * m, 0, nodesX m 0, Y0⟩ : S).read < E.toks.length by show 3 * m < _; omega), f1]
    show (wholesF (j + 1) _ E ⟨3 * m + 6 + n, 0, _, Y0⟩).bind _ = _
    unfold wholesF
    rw [if_neg (show ¬ (⟨3 * m + 6 + n, 0, _, Y0⟩ : S).read < E.toks.length by show ¬ 3 * m + 6 + n < _; omega)]
    rfl
  rw [hw2] at hw
  obtain ⟨fi, hfi⟩ : ∃ fi, (A ++ [⟨43, q, -1, -1, -1, [], 0, 0, ((6 * m + 10 : Nat) : Int)⟩] : List Nd).length = fi := ⟨_, rfl⟩
  obtain ⟨B, hB⟩ : ∃ B, A ++ [⟨43, q, -1, -1, -1, [], 0, 0, ((6 * m + 10 : Nat) : Int)⟩] ++ [⟨50, -1, A.length, -1, -1, sMain, 0, 1, ((6 * m : Nat) : Int)⟩] = B := ⟨_, rfl⟩
  have hBl : B.length = m + 2 * n + 2 := by rw [← hB, List.length_append, List.length_append, hAl]; rfl
  have hfi2 : fi = m + 2 * n + 1 := by rw [← hfi, List.length_append, hAl]; rfl
  have hBf : FitL B := by
    rw [← hB]
    refine (f3.app (FitL.one ?_)).app (FitL.one ?_)
    · unfold FitN; simp; omega
    · unfold FitN; simp; omega
  rw [hB, hfi] at hw
  obtain ⟨t, M2, g1, g2, g3, g4, g5, g6⟩ := list_ok (xs := idxs m 0 ++ [(fi : Int)]) (r := 3 * m + 6 + n) (d := 0) (N := B) (Y := Y0) (fun y hy => by
      rcases List.mem_append.1 hy with hy | hy
      · have := idxs_mem m 0 y hy; omega
      · rw [List.mem_singleton.1 hy]; omega) (by rw [List.length_append, idxs_len]; simp; omega) hBf
  have hfull : Has ⟨B ++ M2, Y0, t⟩ (B ++ M2) := fun i x hx => hx
  have hBhas := hfull.left
  have hAhas : Has ⟨B ++ M2, Y0, t⟩ ((A ++ [⟨43, q, -1, -1, -1, [], 0, 0, ((6 * m + 10 : Nat) : Int)⟩]) ++ [⟨50, -1, A.length, -1, -1, sMain, 0, 1, ((6 * m : Nat) : Int)⟩]) := by rw [hB]; exact hBhas
  have hll : (B ++ M2).length = 2 * m + 2 * n + 3 := by rw [List.length_append, hBl, g2, List.length_append, idxs_len]; simp; omega
  refine ⟨⟨B ++ M2, Y0, t⟩, fi, A.length, q, ((6 * m : Nat) : Int), ((6 * m + 10 : Nat) : Int), ?_, g3, by show (B ++ M2).length ≤ _; omega, ⟨g4, g5⟩, ?_, ?_, ?_, ?_⟩
  · unfold parseT
    show (wholesF 300 (wholeF 300 E) E ⟨0, 0, [], start0.types⟩).bind _ = _
    rw [← hY, hw]
    show (listOf (idxs m 0 ++ [(fi : Int)]) ⟨3 * m + 6 + n, 0, B, Y0⟩).bind _ = _
    rw [g1]; rfl
  · exact g6 _ hfull 9000 (by rw [List.length_append, idxs_len]; simp; omega) (by show _ ≤ (B ++ M2).length; rw [hll, List.length_append, idxs_len]; simp; omega)
  · have := hAhas.last; rw [hfi] at this; exact this
  · exact hAhas.left.last
  · exact f6 _ hAhas.left.left 9000 (by omega) (by show _ ≤ (B ++ M2).length; omega)
end Go.Proofs.YtkgnmlllmihmlaaGreatDoor
