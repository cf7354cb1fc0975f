/-
  Contracts of is and List.
-/
import Derived.Test.YtkgnmlllmihmlaaGreatDoorReads
namespace Go.Proofs.YtkgnmlllmihmlaaGreatDoor
open Go.RowKit Sp Tr Go.Shelf
set_option linter.unusedVariables false

def trV (vn vt : Value) (T : Tr.Tree) : Value := .agg #[vn, vt, .int .i64 T.top]
def ndAt (T : Tr.Tree) (n : Int) : Option Nd := if n < 0 then none else T.nodes[n.toNat]?
def isNd (T : Tr.Tree) (n k : Int) : Bool := match ndAt T n with | some x => x.kind == k | none => false
/-- A list's items. -/
def itemsF : Nat → Tr.Tree → Int → Nat → List Int
  | 0, _, _, _ => []
  | f + 1, T, n, have_ => if isNd T n 20 && decide (have_ < T.nodes.length) then (match ndAt T n with | some x => x.a :: itemsF f T x.b (have_ + 1) | none => []) else []
theorem TreeIn.node {w : World} {B g n cap : Nat} {vt : Value} {T : Tr.Tree} (h : TreeIn w B (.slice (some ⟨g, 0, none⟩) n cap) vt T) {i : Nat} {x : Nd} (hi : T.nodes[i]? = some x) :
    ∀ j u, j < 9 → (ndCells x)[j]? = some u → w.cell? ⟨g, i * 9 + j, none⟩ = some u := by
  intro j u hj hu
  have hc := h.nodes.cells (g := g) rfl (i * 9 + j) u (by rw [flat_at ndCells 9 (fun _ => rfl) T.nodes i j x hi hj]; exact hu)
  have hadd : (⟨g, 0, none⟩ : Addr).add (i * 9 + j) = ⟨g, i * 9 + j, none⟩ := by unfold Addr.add; split <;> simp_all
  rwa [hadd] at hc
theorem is_t {w : World} {B : Nat} {vn vt : Value} {T : Tr.Tree} (h : TreeIn w B vn vt T) (n k : Int) (hn : -9223372036854775808 ≤ n ∧ n ≤ 9223372036854775807) :
    Calls Tryz.prog 21 #[.agg #[vn, vt, .int .i64 T.top], .int .i64 n, .int .i64 k] w (RPost (.bool (isNd T n k)) w) := by
  obtain ⟨an, cn, rfl⟩ := row_slice h.nodes
  obtain ⟨ay, cy, rfl⟩ := row_slice h.types
  have hln := h.ln
  by_cases h0 : n < 0
  · have e : isNd T n k = false := by unfold isNd ndAt; rw [if_pos h0]
    rw [e]
    have e1 : decide ((0 : Int) ≤ n) = false := by simpa using h0
    clear h
    go_enter Tryz.func21, Tryz.ntmps21
    go_wp2
    go_ret
    exact ⟨rfl, (Below.refl _ _).alloc (Nat.le_refl _) _⟩
  · obtain ⟨q, rfl⟩ : ∃ q : Nat, n = q := ⟨n.toNat, by omega⟩
    have e1 : decide ((0 : Int) ≤ (q : Int)) = true := by simp
    by_cases hq : q < T.nodes.length
    · obtain ⟨x, hx⟩ : ∃ x, T.nodes[q]? = some x := ⟨_, List.getElem?_eq_getElem hq⟩
      obtain ⟨g, cap, hv, _, hg⟩ := h.nodes.form (by omega)
      simp only [Value.slice.injEq] at hv
      obtain ⟨rfl, _, rfl⟩ := hv
      have c0 : w.cell? ⟨g, q * 9, none⟩ = some (.int .i64 x.kind) := h.node hx 0 _ (by omega) rfl
      have e : isNd T q k = (x.kind == k) := by unfold isNd ndAt; rw [if_neg h0, Int.toNat_natCast, hx]
      rw [e]
      have q0 : (0 : Int) ≤ (q : Int) := Int.natCast_nonneg _
      have q1 : (q : Int) < (T.nodes.length : Int) := by omega
      have e2 : decide (q < T.nodes.length) = true := by simpa using hq
      clear h hx
      go_enter Tryz.func21, Tryz.ntmps21
      go_wp2
      go_ret
      exact ⟨rfl, (Below.refl _ _).alloc (Nat.le_refl _) _⟩
    · have e : isNd T q k = false := by unfold isNd ndAt; rw [if_neg h0, Int.toNat_natCast, List.getElem?_eq_none (by omega)]
      rw [e]
      have e2 : decide (q < T.nodes.length) = false := by simpa using hq
      clear h
      go_enter Tryz.func21, Tryz.ntmps21
      go_wp2
      go_ret
      exact ⟨rfl, (Below.refl _ _).alloc (Nat.le_refl _) _⟩
theorem is_lit {w : World} {B : Nat} {vn vt : Value} {T : Tr.Tree} {n k : Int} {b : Bool} (h : TreeIn w B vn vt T) (hn : -9223372036854775808 ≤ n ∧ n ≤ 9223372036854775807) (hb : isNd T n k = b) :
    Calls Tryz.prog 21 #[.agg #[vn, vt, .int .i64 T.top], .int .i64 n, .int .i64 k] w (RPost (.bool b) w) := hb ▸ is_t h n k hn
/-- The parts of a tree's nodes are words that an int can be. -/
def Fits (T : Tr.Tree) : Prop := ∀ x ∈ T.nodes, (-9223372036854775808 ≤ x.a ∧ x.a ≤ 9223372036854775807) ∧ (-9223372036854775808 ≤ x.b ∧ x.b ≤ 9223372036854775807)
def ListPost (xs : List Int) (w : World) (e : Ending) (w' : World) : Prop :=
  ∃ v, e = .returned v ∧ w'.ownsRow w.heap.size 3 1 v xs.length (xs.map (Value.int .i64)) ∧ Below w.heap.size w w'
theorem ownsRow_le {w : World} {base base' size n : Nat} {e : TypeId} {v : Value} {xs : List Value} (h : w.ownsRow base e size v n xs) (hb : base' ≤ base) : w.ownsRow base' e size v n xs := by
  obtain ⟨h1, h2⟩ := h
  exact ⟨h1, h2.imp id fun ⟨g, cap, cur, hv, hg, r⟩ => ⟨g, cap, cur, hv, Nat.le_trans hb hg, r⟩⟩
theorem itemsF_no {f : Nat} {T : Tr.Tree} {n : Int} {k : Nat} (h : isNd T n 20 = false) : itemsF f T n k = [] := by
  cases f with
  | zero => rfl
  | succ f => unfold itemsF; rw [h]; rfl
theorem itemsF_full {f : Nat} {T : Tr.Tree} {n : Int} {k : Nat} (h : ¬ k < T.nodes.length) : itemsF f T n k = [] := by
  cases f with
  | zero => rfl
  | succ f => unfold itemsF; rw [decide_eq_false h, Bool.and_false]; rfl
theorem itemsF_step {f : Nat} {T : Tr.Tree} {n : Int} {k : Nat} {x : Nd} (h : isNd T n 20 = true) (hk : k < T.nodes.length) (hx : ndAt T n = some x) : itemsF (f + 1) T n k = x.a :: itemsF f T x.b (k + 1) := by
  conv => lhs; unfold itemsF
  rw [h, decide_eq_true hk, hx]; rfl
set_option maxHeartbeats 2000000 in
theorem list_t {w : World} {B F : Nat} {vn vt : Value} {T : Tr.Tree} (h : TreeIn w B vn vt T) (hF : Fits T) (n : Int) (hn : -9223372036854775808 ≤ n ∧ n ≤ 9223372036854775807) (hFF : T.nodes.length < F) :
    Calls Tryz.prog 11 #[.agg #[vn, vt, .int .i64 T.top], .int .i64 n] w (ListPost (itemsF F T n 0) w) := by
  obtain ⟨an, cn, rfl⟩ := row_slice h.nodes
  obtain ⟨ay, cy, rfl⟩ := row_slice h.types
  have hln := h.ln
  obtain ⟨i0, hi0, hz0, hz1, hz2⟩ := info_parts infoInt
  have H := Lib.hid h; clear h
  have HF := Lib.hid hF; clear hF
  go_enter Tryz.func11, Tryz.ntmps11
  go_wp2
  go_loopg [1, 5] F (fun gk s1 s5 wr => ∃ (m : Int) (pre : List Int), s1 = .int .i64 m ∧ (-9223372036854775808 ≤ m ∧ m ≤ 9223372036854775807) ∧ Hid (pre ++ itemsF gk T m pre.length = itemsF F T n 0) ∧ gk + pre.length = F ∧ pre.length ≤ T.nodes.length ∧ Hid (wr.ownsRow (w.heap.size + 1) 3 1 s5 pre.length (pre.map (Value.int .i64))) ∧ Hid (Below w.heap.size w wr) ∧ Hid (wr.heap[w.heap.size]? = some (.cells #[.slice an T.nodes.length cn, .slice ay T.types.length cy, .int .i64 T.top] 26 (0, 0))))
  case atStart => exact ⟨n, [], rfl, hn, Lib.hid (by rfl), rfl, Nat.zero_le _, Lib.hid ⟨rfl, .inl ⟨rfl, rfl⟩⟩, Lib.hid ((Below.refl _ _).alloc (Nat.le_refl _) _), Lib.hid (heap_alloc_new w _)⟩
  case round =>
    obtain ⟨m, pre, rfl, hm, HI, hgk, hpl, HR, HB, HH⟩ := hrel
    obtain ⟨r0, r1, r2, _, _, _⟩ := nv3 HH.out
    have hz := lt_heap HH.out
    obtain ⟨a5, c5, rfl⟩ := row_slice HR.out
    have HT := Lib.hid (H.out.below HB.out)
    by_cases hi : isNd T m 20 = true
    · have HX := Lib.hid hi
      by_cases hk : pre.length < T.nodes.length
      · cases gk with
        | zero => omega
        | succ g =>
          obtain ⟨q, x, rfl, hx⟩ : ∃ (q : Nat) (x : Nd), m = q ∧ T.nodes[q]? = some x := by
            unfold isNd ndAt at hi
            by_cases h0 : m < 0
            · rw [if_pos h0] at hi; cases hi
            · rw [if_neg h0] at hi
              cases hx : T.nodes[m.toNat]? with
              | none => rw [hx] at hi; cases hi
              | some x => exact ⟨m.toNat, x, by omega, hx⟩
          have hI := HI.out
          have hnd : ndAt T q = some x := by unfold ndAt; rw [if_neg (by omega), Int.toNat_natCast, hx]
          rw [itemsF_step hi hk hnd] at hI
          have HI2 := Lib.hid hI
          have hq : q < T.nodes.length := (List.getElem?_eq_some_iff.1 hx).1
          obtain ⟨gg, cap, hv, _, hg⟩ := H.out.nodes.form (by omega)
          simp only [Value.slice.injEq] at hv
          obtain ⟨rfl, _, rfl⟩ := hv
          have q0 : (0 : Int) ≤ (q : Int) := Int.natCast_nonneg _
          have q1 : (q : Int) < (T.nodes.length : Int) := by omega
          have e2 : decide (pre.length < T.nodes.length) = true := by simpa using hk
          have hxm := HF.out x (List.mem_of_getElem? hx)
          have HXX := Lib.hid hx
          clear hI hi hx hnd HI
          go_wp2_with (first | ((with_reducible refine (is_lit HT.out hm HX.out).mono ?_); rintro e v1 ⟨rfl, hb⟩; obtain ⟨p0, p1, p2, _, _, _⟩ := nv3 ((hb.block _ hz).trans HH.out); have hs1 := hb.size; have hR1 := own_keep HR.out (fun g hg => hb.block g (HR.out.lt g hg).2); have hT1 := HT.out.below hb; have ca := hT1.node HXX.out 1 (.int .i64 x.a) (by omega) rfl; have cb := hT1.node HXX.out 2 (.int .i64 x.b) (by omega) rfl; have zg := (hT1.nodes.lt gg rfl).2; have HB1 := Lib.hid hb; clear hT1 hb) | (at_builtin; refine wpList_append_lies _ rfl (.tmp 17) (.tmp 24) 37 rfl (w.heap.size + 1) 3 i0 (.int .i64 0) 1 8 Tryz.underlying37 hi0 hz0 hz1 hz2 rfl (by decide) _ pre.length (pre.map (Value.int .i64)) rfl (hR1.alloc _) ⟨v1.heap.size, 0, none⟩ 1 1 [.int .i64 x.a] rfl rfl (cell_one_new _ _ _) (by simp [Value.oneCell']) (by omega) (by unfold maxLen; omega) (by omega) (by simp; omega) (v1.heap.size + 1) (by simp) ?_; intro g2 cap2 w1 hown1 hgrow hat hlt1; have HO := Lib.hid hown1; have hbl : Below w.heap.size w w1 := (((HB.out.trans (HB1.out.mono HB.out.size)).alloc (by have := HB.out.size; omega) _).grown hgrow (by have := HB.out.size; simp; omega) (fun k e => by have := (hR1.lt k e).1; omega)); have HBL := Lib.hid hbl; have hT2 := H.out.below hbl; have ca2 := hT2.node HXX.out 1 (.int .i64 x.a) (by omega) rfl; have cb2 := hT2.node HXX.out 2 (.int .i64 x.b) (by omega) rfl; have hh2 : w1.heap[w.heap.size]? = _ := (hgrow.block _ (by simp; omega) (fun e => by have := (hR1.lt _ e.symm).1; omega)).trans ((Below.heap_alloc _ _ _ (by omega)).trans ((HB1.out.block _ hz).trans HH.out)); obtain ⟨u0, u1, u2, _, _, _⟩ := nv3 hh2; have HH2 := Lib.hid hh2; clear hown1 hgrow hat hbl hT2 hh2))
          go_roundg g
          case rel => exact ⟨x.b, pre ++ [x.a], rfl, hxm.2, Lib.hid (by rw [List.append_assoc, List.length_append]; exact HI2.out), by simp; omega, by simp; omega, Lib.hid (by simpa using HO.out), HBL, HH2⟩
          case measure => omega
      · have e2 : decide (pre.length < T.nodes.length) = false := by simpa using hk
        have hI := HI.out
        rw [itemsF_full hk, List.append_nil] at hI
        have HI2 := Lib.hid hI; clear hI HI
        go_wp2_with ((with_reducible refine (is_lit HT.out hm HX.out).mono ?_); rintro e v1 ⟨rfl, hb⟩; obtain ⟨p0, p1, p2, _, _, _⟩ := nv3 ((hb.block _ hz).trans HH.out); have HB1 := Lib.hid hb; clear hb)
        go_ret
        exact ⟨_, rfl, by rw [← HI2.out]; exact ownsRow_le (own_keep HR.out (fun g hg => HB1.out.block g (HR.out.lt g hg).2)) (by omega), HB.out.trans (HB1.out.mono HB.out.size)⟩
    · have HX := Lib.hid (bfalse hi)
      have hI := HI.out
      rw [itemsF_no HX.out, List.append_nil] at hI
      have HI2 := Lib.hid hI; clear hI HI
      go_wp2_with ((with_reducible refine (is_lit HT.out hm HX.out).mono ?_); rintro e v1 ⟨rfl, hb⟩; have HB1 := Lib.hid hb; clear hb)
      go_ret
      exact ⟨_, rfl, by rw [← HI2.out]; exact ownsRow_le (own_keep HR.out (fun g hg => HB1.out.block g (HR.out.lt g hg).2)) (by omega), HB.out.trans (HB1.out.mono HB.out.size)⟩
end Go.Proofs.YtkgnmlllmihmlaaGreatDoor
