/-
  The walk of TreeLists.
-/
import Derived.Test.YtkgnmlllmihmlaaGreatDoorListsQ
import Derived.Test.YtkgnmlllmihmlaaGreatDoorShelf
import Derived.IntWalk
namespace Go.Proofs.YtkgnmlllmihmlaaGreatDoor
open Go.RowKit Sp Tr Go.Shelf
set_option linter.unusedVariables false

theorem read_L {w : World} {m n : Nat} {s : ByteArray} (henv : EnvT w) (hm : m ≤ 100) (hn : n ≤ 100) (hs : s.data.toList = srcL m n) :
    Calls Tryz.prog 9 #[.string s] w fun e w' => ∃ T fi bi q pF pB, TreeL m n T fi bi q pF pB ∧ ParsePost T w e w' := by
  obtain ⟨T, fi, bi, q, pF, pB, hT, hL⟩ := parse_L m n (srcL m n).length hm hn
  have hl : s.size ≤ maxLen := by
    show s.data.size ≤ _
    rw [← Array.length_toList, hs, srcL_len]
    unfold maxLen; omega
  have hk : ∀ t ∈ toksL m n ++ [⟨0, [], 0, (srcL m n).length⟩], t.k ≤ 4 := by
    have h1 : ∀ m p, ∀ t ∈ xs m p, t.k ≤ 4 := by
      intro m
      induction m with
      | zero => intro p t ht; simp [xs] at ht
      | succ m ih =>
        intro p t ht
        simp only [xs, List.mem_cons] at ht
        rcases ht with rfl | rfl | rfl | ht
        · simp
        · simp
        · simp
        · exact ih _ t ht
    have h2 : ∀ n p, ∀ t ∈ semis n p, t.k ≤ 4 := by
      intro n
      induction n with
      | zero => intro p t ht; simp [semis] at ht
      | succ n ih =>
        intro p t ht
        simp only [semis, List.mem_cons] at ht
        rcases ht with rfl | ht
        · simp
        · exact ih _ t ht
    intro t ht
    simp only [toksL, tokH, List.mem_append, List.mem_cons, List.not_mem_nil, or_false] at ht
    rcases ht with (ht | (rfl | rfl | rfl | rfl | rfl) | ht | rfl) | rfl
    · exact h1 _ _ t ht
    · simp
    · simp
    · simp
    · simp
    · simp
    · exact h2 _ _ t ht
    · simp
    · simp
  exact (read_p (by omega) henv hl (by rw [hs]; exact scan_L m n hm hn) hk (envOf_snoc _ _) hT).mono fun e w' h => ⟨T, fi, bi, q, pF, pB, hL, h⟩
theorem rep_x (m : Nat) (hm : m ≤ 100) : ∃ s : ByteArray, (s.data.toList = Lib.repeatL sX m ∧ s.size = 6 * m) ∧ ∀ w, Calls Tryz.prog 14 #[.string ⟨#[105, 110, 116, 32, 120, 59]⟩, .int .i64 m] w (RPost (.string s) w) :=
  ⟨⟨(Lib.repeatL sX m).toArray⟩, ⟨rfl, by show (Lib.repeatL sX m).toArray.size = _; rw [List.size_toArray, Lib.repeatL_length]; simp; omega⟩, fun w => Tryz.strings_Repeat ⟨#[105, 110, 116, 32, 120, 59]⟩ m w (by omega) (by show 6 * m ≤ _; omega)⟩
theorem rep_s (n : Nat) (hn : n ≤ 100) : ∃ s : ByteArray, (s.data.toList = Lib.repeatL [59] n ∧ s.size = n) ∧ ∀ w, Calls Tryz.prog 14 #[.string ⟨#[59]⟩, .int .i64 n] w (RPost (.string s) w) :=
  ⟨⟨(Lib.repeatL [59] n).toArray⟩, ⟨rfl, by show (Lib.repeatL [59] n).toArray.size = _; rw [List.size_toArray, Lib.repeatL_length]; simp⟩, fun w => Tryz.strings_Repeat ⟨#[59]⟩ n w (by omega) (by show 1 * n ≤ _; omega)⟩
theorem idxs_last : ∀ (m k : Nat) (fi : Int), (idxs m k ++ [fi])[m]? = some fi := by
  intro m k fi
  rw [List.getElem?_append_right (by rw [idxs_len]; exact Nat.le_refl _), idxs_len, Nat.sub_self]; rfl
def LPost (k : Nat) (xs : List Int) (w : World) (e : Ending) (w' : World) : Prop :=
  ∃ a c, e = .returned (.slice a k c) ∧ w'.ownsRow w.heap.size 3 1 (.slice a k c) k (xs.map (Value.int .i64)) ∧ Below w.heap.size w w'
theorem list_b {w : World} {b B k : Nat} {vn vt : Value} {T : Tr.Tree} {n : Int} {xs : List Int} (h : TB w b B vn vt T) (hF : FitL T.nodes) (hl : T.nodes.length ≤ 8192) (hn : -9223372036854775808 ≤ n ∧ n ≤ 9223372036854775807) (hx : itemsF 9000 T n 0 = xs) (hk : xs.length = k) :
    Calls Tryz.prog 11 #[.agg #[vn, vt, .int .i64 T.top], .int .i64 n] w (LPost k xs w) := by
  subst hk
  refine (list_t (F := 9000) h.t hF.fits n hn (by omega)).mono ?_
  rintro e w' ⟨v, rfl, ho, hb⟩
  rw [hx] at ho
  obtain ⟨a, c, rfl⟩ := row_slice ho
  exact ⟨a, c, rfl, ho, hb⟩
theorem row_form {w : World} {B n k : Nat} {a : Option Addr} {c : Nat} {xs : List Value} {v : Value} (h : w.ownsRow B 3 1 (.slice a n c) n xs) (hk : k < n) (hv : xs[k]? = some v) :
    ∃ g, a = some ⟨g, 0, none⟩ ∧ B ≤ g ∧ g < w.heap.size ∧ w.cell? ⟨g, k, none⟩ = some v := by
  obtain ⟨g, cap2, hh, hg1, hg⟩ := h.form (by omega)
  simp only [Value.slice.injEq] at hh
  obtain ⟨rfl, _, rfl⟩ := hh
  refine ⟨g, rfl, hg1, hg, ?_⟩
  have := h.cells (g := g) rfl k v hv
  have hadd : (⟨g, 0, none⟩ : Addr).add k = ⟨g, k, none⟩ := by unfold Addr.add; split <;> simp_all
  rwa [hadd] at this
theorem list_top {w : World} {b B m n fi bi : Nat} {vn vt : Value} {T : Tr.Tree} {q pF pB : Int} (h : TB w b B vn vt T) (hL : TreeL m n T fi bi q pF pB) :
    Calls Tryz.prog 11 #[.agg #[vn, vt, .int .i64 T.top], .int .i64 T.top] w fun e w' => ∃ g c, e = .returned (.slice (some ⟨g, 0, none⟩) (m + 1 : Nat) c) ∧ w.heap.size ≤ g ∧ g < w'.heap.size ∧ w'.cell? ⟨g, m, none⟩ = some (.int .i64 fi) ∧ Below w.heap.size w w' := by
  refine (list_b h hL.fit hL.len ⟨by have := hL.top.1; omega, by have := hL.top.2; omega⟩ hL.items (k := m + 1) (by rw [List.length_append, idxs_len]; rfl)).mono ?_
  rintro e w' ⟨a, c, rfl, ho, hb⟩
  obtain ⟨g, rfl, hg1, hg2, hcell⟩ := row_form ho (k := m) (v := .int .i64 fi) (by omega) (by rw [List.getElem?_map, idxs_last]; rfl)
  exact ⟨g, c, rfl, hg1, hg2, hcell, hb⟩
/-- What the last statement reads. -/
def S7 (bt bf B g cn bi : Nat) (q pF : Int) (ay : Option Addr) (cy : Nat) (T : Tr.Tree) (w : World) : Prop :=
  w.cell? ⟨bt, 0, none⟩ = some (.slice (some ⟨g, 0, none⟩) T.nodes.length cn) ∧ w.cell? ⟨bt, 1, none⟩ = some (.slice ay T.types.length cy) ∧ w.cell? ⟨bt, 2, none⟩ = some (.int .i64 T.top) ∧
  w.cell? ⟨bf, 0, none⟩ = some (.int .i64 50) ∧ w.cell? ⟨bf, 1, none⟩ = some (.int .i64 (-1)) ∧ w.cell? ⟨bf, 2, none⟩ = some (.int .i64 bi) ∧ w.cell? ⟨g, bi * 9 + 1, none⟩ = some (.int .i64 q) ∧
  Hid (TB w bt B (.slice (some ⟨g, 0, none⟩) T.nodes.length cn) (.slice ay T.types.length cy) T) ∧ Hid (w.heap[bf]? = some (ndO ⟨50, -1, bi, -1, -1, sMain, 0, 1, pF⟩))
theorem S7.of {bt bf B g cn bi m n fi : Nat} {q pF pB : Int} {ay : Option Addr} {cy : Nat} {T : Tr.Tree} {w : World} (hL : TreeL m n T fi bi q pF pB) (h : TB w bt B (.slice (some ⟨g, 0, none⟩) T.nodes.length cn) (.slice ay T.types.length cy) T) (hf : w.heap[bf]? = some (ndO ⟨50, -1, bi, -1, -1, sMain, 0, 1, pF⟩)) :
    S7 bt bf B g cn bi q pF ay cy T w := by
  obtain ⟨r0, r1, r2, _⟩ := nv3 h.b
  obtain ⟨f0, f1, f2, _⟩ := nv9 hf
  exact ⟨r0, r1, r2, f0, f1, f2, (h.t.row hL.block).2.1, Lib.hid h, Lib.hid hf⟩
theorem S7.below {bt bf B g cn bi m n fi : Nat} {q pF pB : Int} {ay : Option Addr} {cy : Nat} {T : Tr.Tree} {w w' : World} (hL : TreeL m n T fi bi q pF pB) (h : S7 bt bf B g cn bi q pF ay cy T w) (hb : Below w.heap.size w w') : S7 bt bf B g cn bi q pF ay cy T w' := by
  obtain ⟨_, _, _, _, _, _, _, h1, h2⟩ := h
  exact S7.of hL (h1.out.below hb) ((hb.block _ (lt_heap h2.out)).trans h2.out)
theorem list_m {bt bf B g cn bi m n fi k : Nat} {q pF pB x : Int} {ay : Option Addr} {cy : Nat} {T : Tr.Tree} {w : World} {xs : List Int} (hL : TreeL m n T fi bi q pF pB) (h : S7 bt bf B g cn bi q pF ay cy T w) (hx : -9223372036854775808 ≤ x ∧ x ≤ 9223372036854775807) (hi : itemsF 9000 T x 0 = xs) (hk : xs.length = k) :
    Calls Tryz.prog 11 #[.agg #[.slice (some ⟨g, 0, none⟩) T.nodes.length cn, .slice ay T.types.length cy, .int .i64 T.top], .int .i64 x] w fun e w' => ∃ a c, e = .returned (.slice a k c) ∧ S7 bt bf B g cn bi q pF ay cy T w' ∧ Below w.heap.size w w' := by
  obtain ⟨_, _, _, _, _, _, _, h1, h2⟩ := id h
  refine (list_b h1.out hL.fit hL.len hx hi hk).mono ?_
  rintro e w' ⟨a, c, rfl, _, hb⟩
  exact ⟨a, c, rfl, h.below hL hb, hb⟩
theorem awake_m {bt bf B g cn bi m n fi : Nat} {q pF pB : Int} {ay : Option Addr} {cy : Nat} {T : Tr.Tree} {w : World} (hL : TreeL m n T fi bi q pF pB) (h : S7 bt bf B g cn bi q pF ay cy T w) (henv : EnvT w) :
    Calls Tryz.prog 8 #[] w fun e w' => e = .returned (.bool true) ∧ S7 bt bf B g cn bi q pF ay cy T w' ∧ Below w.heap.size w w' := by
  refine (awake_any w henv).mono ?_
  rintro e w' ⟨rfl, hb⟩
  exact ⟨rfl, h.below hL hb, hb⟩
theorem drW {B : Nat} {a w : World} (h : Below B a w) : Below B a w.drew := ⟨h.os, h.tape, h.output, h.size, h.block⟩
theorem region_lastS {P : Program} {ops : Array Oper} {Q : Exit → Act → World → Prop} {id : Nat} {a : Act} {w : World} (S : World → Prop) (m : Nat) (hm : P.follows .mixedOrders = true) (hS : S w.drew)
    (h : S w.drew → anyL P .any ops Q S m ops.size (Array.replicate ops.size false) a w.drew) : (Code.region id ops true).wp P Q a w := region_last S m hm (h hS)
set_option maxRecDepth 100000 in
set_option maxHeartbeats 4000000 in
theorem lists_w {w : World} (a b : Int) (ha0 : 0 ≤ a) (ha : a ≤ 255) (hb0 : 0 ≤ b) (hb : b ≤ 255) (henv : EnvT w) :
    Calls Tryz.prog 6 #[.int .u8 a, .int .u8 b] w fun e w' => e = .returned (.bool true) ∧ Below w.heap.size w w' := by
  have hsz := henv.lex.sz
  have HE := Lib.hid henv; clear henv
  have t1 : a.tmod 100 = a % 100 := Int.tmod_eq_emod_of_nonneg ha0
  have t2 : b.tmod 100 = b % 100 := Int.tmod_eq_emod_of_nonneg hb0
  obtain ⟨m, e1⟩ : ∃ m : Nat, a.tmod 100 = (m : Int) := ⟨(a.tmod 100).toNat, by omega⟩
  obtain ⟨n, e2⟩ : ∃ n : Nat, b.tmod 100 = (n : Int) := ⟨(b.tmod 100).toNat, by omega⟩
  have hm1 : m ≤ 100 := by omega
  have hn1 : n ≤ 100 := by omega
  clear t1 t2
  obtain ⟨s1, ⟨hs1, hz1⟩, R1⟩ := rep_x m hm1
  obtain ⟨s2, ⟨hs2, hz2⟩, R2⟩ := rep_s n hn1
  have HR1 := Lib.hid R1; clear R1
  have HR2 := Lib.hid R2; clear R2
  have HS1 := Lib.hid hs1; clear hs1
  have HS2 := Lib.hid hs2; clear hs2
  go_enter Tryz.func6, Tryz.ntmps6
  have HSS : Hid ((s1 ++ ⟨#[105, 110, 116, 32, 109, 97, 105, 110, 40, 41, 123]⟩ ++ s2 ++ ⟨#[125]⟩ : ByteArray).data.toList = srcL m n) := Lib.hid (by simp [ByteArray.data_append, HS1.out, HS2.out, srcL])
  have HEB : Hid (∀ v, Below w.heap.size w v → EnvT v) := Lib.hid (fun v h => HE.out.below h hsz)
  go_wp2_with (first | ((with_reducible refine (HR1.out _).mono ?_); rintro e v1 ⟨rfl, hb⟩; have HB1 := Lib.hid hb; clear hb) | ((with_reducible refine (HR2.out _).mono ?_); rintro e v2 ⟨rfl, hb⟩; have HB2 := Lib.hid (HB1.out.trans (hb.mono HB1.out.size)); clear hb) | ((with_reducible refine (read_L (HEB.out _ HB2.out) hm1 hn1 HSS.out).mono ?_); rintro e v3 ⟨T, fi, bi, q, pF, pB, hL, vn, vt, rfl, ht, hb⟩; obtain ⟨an, cn, rfl⟩ := row_slice ht.nodes; obtain ⟨ay, cy, rfl⟩ := row_slice ht.types; have HB3 := Lib.hid (HB2.out.trans (hb.mono HB2.out.size)); have HT3 : Hid (TB (v3.alloc (trO (.slice an T.nodes.length cn) (.slice ay T.types.length cy) T)) v3.heap.size v2.heap.size (.slice an T.nodes.length cn) (.slice ay T.types.length cy) T) := Lib.hid ⟨ht.below ((Below.refl v3.heap.size v3).alloc (Nat.le_refl _) _), heap_alloc_new _ _⟩; have hlen := hL.len; have HL := Lib.hid hL; have HC3 := Lib.hid (HB3.out.alloc HB3.out.size (trO (.slice an T.nodes.length cn) (.slice ay T.types.length cy) T)); clear ht hb hL) | ((with_reducible refine (list_top HT3.out HL.out).mono ?_); rintro e v4 ⟨g10, c10, rfl, hg1, hg2, hcell, hb⟩; have HT4 := Lib.hid (HT3.out.below hb); have HC4 := Lib.hid (HC3.out.trans (hb.mono HC3.out.size)); clear hb))
  have hbi : bi < T.nodes.length := (List.getElem?_eq_some_iff.1 HL.out.block).1
  have hfi : fi < T.nodes.length := (List.getElem?_eq_some_iff.1 HL.out.func).1
  obtain ⟨g, rfl, hg⟩ := HT4.out.t.nodeForm (by omega)
  obtain ⟨r0, r1, r2, _⟩ := nv3 HT4.out.b
  have hbt := lt_heap HT4.out.b
  obtain ⟨c0, c1, c2, c3, c4, c5, c6, c7, c8⟩ := HT4.out.t.row HL.out.func
  have q0 : (0 : Int) ≤ (bi : Int) := Int.natCast_nonneg _
  have q1 : (bi : Int) < (T.nodes.length : Int) := by omega
  have q2 : (0 : Int) ≤ (fi : Int) := Int.natCast_nonneg _
  have q3 : (fi : Int) < (T.nodes.length : Int) := by omega
  have q4 : (0 : Int) ≤ (m : Int) := Int.natCast_nonneg _
  have q5 : (m : Int) < (m : Int) + 1 := by omega
  go_region
  go_wp2
  have hmix : Tryz.prog.follows .mixedOrders = true := by kernel_rfl
  have hq : -9223372036854775808 ≤ q ∧ q ≤ 9223372036854775807 := by have := HL.out.fit _ (List.mem_of_getElem? HL.out.block); unfold FitN at this; simp only at this; omega
  refine region_lastS (S7 v3.heap.size v4.heap.size v2.heap.size g cn bi q pF ay cy T) 34 hmix ?held (fun hS => ?main)
  case held => exact S7.of HL.out (HT4.out.below (drW (drW ((Below.refl _ _).alloc (Nat.le_refl _) _)))) (heap_alloc_new v4 _)
  have BB := drW (drW (HC4.out.alloc HC4.out.size (ndO ⟨50, -1, bi, -1, -1, sMain, 0, 1, pF⟩)))
  clear r0 r1 r2 c0 c1 c2 c3 c4 c5 c6 c7 c8 hcell
  refine anyL_take (i := 0) (v := ?_) rfl rfl (by kernel_rfl) (by kernel_rfl) (by kernel_rfl) (by kernel_rfl) (fun _ _ _ h => h) (Or.inl ⟨by rfl, ?_⟩) hS ?_
  rotate_left
  · (intro w' hSw; obtain ⟨k0, k1, k2, k3, k4, k5, k6, _, _⟩ := hSw; go_simp; first | done | with_reducible rfl)
  simp only [Act.put, List.getElem_toArray, List.getElem_cons_zero, List.setIfInBounds_toArray, List.set_cons_succ, List.set_cons_zero]
  refine anyL_take (i := 1) (v := ?_) rfl rfl (by kernel_rfl) (by kernel_rfl) (by kernel_rfl) (by kernel_rfl) (fun _ _ _ h => h) (Or.inl ⟨by rfl, ?_⟩) hS ?_
  rotate_left
  · (intro w' hSw; obtain ⟨k0, k1, k2, k3, k4, k5, k6, _, _⟩ := hSw; go_simp; first | done | with_reducible rfl)
  simp only [Act.put, List.getElem_toArray, List.getElem_cons_succ, List.getElem_cons_zero, List.setIfInBounds_toArray, List.set_cons_succ, List.set_cons_zero]
  refine anyL_take (i := 2) (v := ?_) rfl rfl (by kernel_rfl) (by kernel_rfl) (by kernel_rfl) (by kernel_rfl) (fun _ _ _ h => h) (Or.inl ⟨by rfl, ?_⟩) hS ?_
  rotate_left
  · (intro w' hSw; obtain ⟨k0, k1, k2, k3, k4, k5, k6, _, _⟩ := hSw; go_simp; first | done | with_reducible rfl)
  simp only [Act.put, List.getElem_toArray, List.getElem_cons_succ, List.getElem_cons_zero, List.setIfInBounds_toArray, List.set_cons_succ, List.set_cons_zero]
  refine anyL_take (i := 3) (v := ?_) rfl rfl (by kernel_rfl) (by kernel_rfl) (by kernel_rfl) (by kernel_rfl) (fun _ _ _ h => h) (Or.inl ⟨by rfl, ?_⟩) hS ?_
  rotate_left
  · (intro w' hSw; obtain ⟨k0, k1, k2, k3, k4, k5, k6, _, _⟩ := hSw; go_simp; first | done | with_reducible rfl)
  simp only [Act.put, List.getElem_toArray, List.getElem_cons_succ, List.getElem_cons_zero, List.setIfInBounds_toArray, List.set_cons_succ, List.set_cons_zero]
  refine anyL_take (i := 4) (v := ?_) rfl rfl (by kernel_rfl) (by kernel_rfl) (by kernel_rfl) (by kernel_rfl) (fun _ _ _ h => h) (Or.inl ⟨by rfl, ?_⟩) hS ?_
  rotate_left
  · (intro w' hSw; obtain ⟨k0, k1, k2, k3, k4, k5, k6, _, _⟩ := hSw; go_simp; first | done | with_reducible rfl)
  simp only [Act.put, List.getElem_toArray, List.getElem_cons_succ, List.getElem_cons_zero, List.setIfInBounds_toArray, List.set_cons_succ, List.set_cons_zero]
  refine anyL_take (i := 5) (v := ?_) rfl rfl (by kernel_rfl) (by kernel_rfl) (by kernel_rfl) (by kernel_rfl) (fun _ _ _ h => h) (Or.inl ⟨by rfl, ?_⟩) hS ?_
  rotate_left
  · (intro w' hSw; obtain ⟨k0, k1, k2, k3, k4, k5, k6, _, _⟩ := hSw; go_simp; first | done | with_reducible rfl)
  simp only [Act.put, List.getElem_toArray, List.getElem_cons_succ, List.getElem_cons_zero, List.setIfInBounds_toArray, List.set_cons_succ, List.set_cons_zero]
  refine anyL_take (i := 6) (v := ?_) rfl rfl (by kernel_rfl) (by kernel_rfl) (by kernel_rfl) (by kernel_rfl) (fun _ _ _ h => h) (Or.inl ⟨by rfl, ?_⟩) hS ?_
  rotate_left
  · (intro w' hSw; obtain ⟨k0, k1, k2, k3, k4, k5, k6, _, _⟩ := hSw; go_simp; first | done | with_reducible rfl)
  simp only [Act.put, List.getElem_toArray, List.getElem_cons_succ, List.getElem_cons_zero, List.setIfInBounds_toArray, List.set_cons_succ, List.set_cons_zero]
  refine anyL_one (i := 7) (by kernel_rfl) rfl (fun K1 hK1 => ?_)
  go_simp
  refine (list_m HL.out hS (x := -1) (xs := []) (k := 0) ⟨by omega, by omega⟩ (itemsF_no (by unfold isNd ndAt; rw [if_pos (by omega)])) rfl).mono ?_
  rintro e v7 ⟨a7, c7, rfl, hS', HBX⟩
  have BB0 := BB; clear BB
  refine hK1.out _ _ (fun _ => hS') ?_
  clear hK1 K1 hS
  have hS := hS'; clear hS'
  have BB := BB0.trans (HBX.mono BB0.size); clear BB0 HBX
  refine anyL_take (i := 8) (v := ?_) rfl rfl (by kernel_rfl) (by kernel_rfl) (by kernel_rfl) (by kernel_rfl) (fun _ _ _ h => h) (Or.inl ⟨by rfl, ?_⟩) hS ?_
  rotate_left
  · (intro w' hSw; obtain ⟨k0, k1, k2, k3, k4, k5, k6, _, _⟩ := hSw; go_simp; first | done | with_reducible rfl)
  simp only [Act.put, List.getElem_toArray, List.getElem_cons_succ, List.getElem_cons_zero, List.setIfInBounds_toArray, List.set_cons_succ, List.set_cons_zero]
  refine anyL_take (i := 9) (v := ?_) rfl rfl (by kernel_rfl) (by kernel_rfl) (by kernel_rfl) (by kernel_rfl) (fun _ _ _ h => h) (Or.inl ⟨by rfl, ?_⟩) hS ?_
  rotate_left
  · (intro w' hSw; obtain ⟨k0, k1, k2, k3, k4, k5, k6, _, _⟩ := hSw; go_simp; first | done | with_reducible rfl)
  simp only [Act.put, List.getElem_toArray, List.getElem_cons_succ, List.getElem_cons_zero, List.setIfInBounds_toArray, List.set_cons_succ, List.set_cons_zero]
  refine anyL_take (i := 10) (v := ?_) rfl rfl (by kernel_rfl) (by kernel_rfl) (by kernel_rfl) (by kernel_rfl) (fun _ _ _ h => h) (Or.inl ⟨by rfl, ?_⟩) hS ?_
  rotate_left
  · (intro w' hSw; obtain ⟨k0, k1, k2, k3, k4, k5, k6, _, _⟩ := hSw; go_simp; first | done | with_reducible rfl)
  simp only [Act.put, List.getElem_toArray, List.getElem_cons_succ, List.getElem_cons_zero, List.setIfInBounds_toArray, List.set_cons_succ, List.set_cons_zero]
  refine anyL_take (i := 11) (v := ?_) rfl rfl (by kernel_rfl) (by kernel_rfl) (by kernel_rfl) (by kernel_rfl) (fun _ _ _ h => h) (Or.inl ⟨by rfl, ?_⟩) hS ?_
  rotate_left
  · (intro w' hSw; obtain ⟨k0, k1, k2, k3, k4, k5, k6, _, _⟩ := hSw; go_simp; first | done | with_reducible rfl)
  simp only [Act.put, List.getElem_toArray, List.getElem_cons_succ, List.getElem_cons_zero, List.setIfInBounds_toArray, List.set_cons_succ, List.set_cons_zero]
  refine anyL_take (i := 12) (v := ?_) rfl rfl (by kernel_rfl) (by kernel_rfl) (by kernel_rfl) (by kernel_rfl) (fun _ _ _ h => h) (Or.inl ⟨by rfl, ?_⟩) hS ?_
  rotate_left
  · (intro w' hSw; obtain ⟨k0, k1, k2, k3, k4, k5, k6, _, _⟩ := hSw; go_simp; first | done | with_reducible rfl)
  simp only [Act.put, List.getElem_toArray, List.getElem_cons_succ, List.getElem_cons_zero, List.setIfInBounds_toArray, List.set_cons_succ, List.set_cons_zero]
  refine anyL_take (i := 13) (v := ?_) rfl rfl (by kernel_rfl) (by kernel_rfl) (by kernel_rfl) (by kernel_rfl) (fun _ _ _ h => h) (Or.inl ⟨by rfl, ?_⟩) hS ?_
  rotate_left
  · (intro w' hSw; obtain ⟨k0, k1, k2, k3, k4, k5, k6, _, _⟩ := hSw; go_simp; first | done | with_reducible rfl)
  simp only [Act.put, List.getElem_toArray, List.getElem_cons_succ, List.getElem_cons_zero, List.setIfInBounds_toArray, List.set_cons_succ, List.set_cons_zero]
  refine anyL_take (i := 14) (v := ?_) rfl rfl (by kernel_rfl) (by kernel_rfl) (by kernel_rfl) (by kernel_rfl) (fun _ _ _ h => h) (Or.inl ⟨by rfl, ?_⟩) hS ?_
  rotate_left
  · (intro w' hSw; obtain ⟨k0, k1, k2, k3, k4, k5, k6, _, _⟩ := hSw; go_simp; first | done | with_reducible rfl)
  simp only [Act.put, List.getElem_toArray, List.getElem_cons_succ, List.getElem_cons_zero, List.setIfInBounds_toArray, List.set_cons_succ, List.set_cons_zero]
  refine anyL_take (i := 15) (v := ?_) rfl rfl (by kernel_rfl) (by kernel_rfl) (by kernel_rfl) (by kernel_rfl) (fun _ _ _ h => h) (Or.inl ⟨by rfl, ?_⟩) hS ?_
  rotate_left
  · (intro w' hSw; obtain ⟨k0, k1, k2, k3, k4, k5, k6, _, _⟩ := hSw; go_simp; first | done | with_reducible rfl)
  simp only [Act.put, List.getElem_toArray, List.getElem_cons_succ, List.getElem_cons_zero, List.setIfInBounds_toArray, List.set_cons_succ, List.set_cons_zero]
  refine anyL_take (i := 16) (v := ?_) rfl rfl (by kernel_rfl) (by kernel_rfl) (by kernel_rfl) (by kernel_rfl) (fun _ _ _ h => h) (Or.inl ⟨by rfl, ?_⟩) hS ?_
  rotate_left
  · (intro w' hSw; obtain ⟨k0, k1, k2, k3, k4, k5, k6, _, _⟩ := hSw; go_simp; first | done | with_reducible rfl)
  simp only [Act.put, List.getElem_toArray, List.getElem_cons_succ, List.getElem_cons_zero, List.setIfInBounds_toArray, List.set_cons_succ, List.set_cons_zero]
  refine anyL_take (i := 17) (v := ?_) rfl rfl (by kernel_rfl) (by kernel_rfl) (by kernel_rfl) (by kernel_rfl) (fun _ _ _ h => h) (Or.inl ⟨by rfl, ?_⟩) hS ?_
  rotate_left
  · (intro w' hSw; obtain ⟨k0, k1, k2, k3, k4, k5, k6, _, _⟩ := hSw; go_simp; first | done | with_reducible rfl)
  simp only [Act.put, List.getElem_toArray, List.getElem_cons_succ, List.getElem_cons_zero, List.setIfInBounds_toArray, List.set_cons_succ, List.set_cons_zero]
  refine anyL_take (i := 18) (v := ?_) rfl rfl (by kernel_rfl) (by kernel_rfl) (by kernel_rfl) (by kernel_rfl) (fun _ _ _ h => h) (Or.inl ⟨by rfl, ?_⟩) hS ?_
  rotate_left
  · (intro w' hSw; obtain ⟨k0, k1, k2, k3, k4, k5, k6, _, _⟩ := hSw; go_simp; first | done | with_reducible rfl)
  simp only [Act.put, List.getElem_toArray, List.getElem_cons_succ, List.getElem_cons_zero, List.setIfInBounds_toArray, List.set_cons_succ, List.set_cons_zero]
  refine anyL_take (i := 19) (v := ?_) rfl rfl (by kernel_rfl) (by kernel_rfl) (by kernel_rfl) (by kernel_rfl) (fun _ _ _ h => h) (Or.inl ⟨by rfl, ?_⟩) hS ?_
  rotate_left
  · (intro w' hSw; obtain ⟨k0, k1, k2, k3, k4, k5, k6, _, _⟩ := hSw; go_simp; first | done | with_reducible rfl)
  simp only [Act.put, List.getElem_toArray, List.getElem_cons_succ, List.getElem_cons_zero, List.setIfInBounds_toArray, List.set_cons_succ, List.set_cons_zero]
  refine anyL_take (i := 22) (v := ?_) rfl rfl (by kernel_rfl) (by kernel_rfl) (by kernel_rfl) (by kernel_rfl) (fun _ _ _ h => h) (Or.inl ⟨by rfl, ?_⟩) hS ?_
  rotate_left
  · (intro w' hSw; obtain ⟨k0, k1, k2, k3, k4, k5, k6, _, _⟩ := hSw; go_simp; first | done | with_reducible rfl)
  simp only [Act.put, List.getElem_toArray, List.getElem_cons_succ, List.getElem_cons_zero, List.setIfInBounds_toArray, List.set_cons_succ, List.set_cons_zero]
  refine anyL_one (i := 20) (by kernel_rfl) rfl (fun K1 hK1 => ?_)
  go_simp
  refine (list_m HL.out hS (x := q) (xs := idxs n m) (k := n) hq HL.out.sts (idxs_len _ _)).mono ?_
  rintro e v20 ⟨a20, c20, rfl, hS', HBX⟩
  have BB0 := BB; clear BB
  refine hK1.out _ _ (fun _ => hS') ?_
  clear hK1 K1 hS
  have hS := hS'; clear hS'
  have BB := BB0.trans (HBX.mono BB0.size); clear BB0 HBX
  refine anyL_take (i := 21) (v := ?_) rfl rfl (by kernel_rfl) (by kernel_rfl) (by kernel_rfl) (by kernel_rfl) (fun _ _ _ h => h) (Or.inl ⟨by rfl, ?_⟩) hS ?_
  rotate_left
  · (intro w' hSw; obtain ⟨k0, k1, k2, k3, k4, k5, k6, _, _⟩ := hSw; go_simp; first | done | with_reducible rfl)
  simp only [Act.put, List.getElem_toArray, List.getElem_cons_succ, List.getElem_cons_zero, List.setIfInBounds_toArray, List.set_cons_succ, List.set_cons_zero]
  refine anyL_take (i := 23) (v := ?_) rfl rfl (by kernel_rfl) (by kernel_rfl) (by kernel_rfl) (by kernel_rfl) (fun _ _ _ h => h) (Or.inl ⟨by rfl, ?_⟩) hS ?_
  rotate_left
  · (intro w' hSw; obtain ⟨k0, k1, k2, k3, k4, k5, k6, _, _⟩ := hSw; go_simp; first | done | with_reducible rfl)
  simp only [Act.put, List.getElem_toArray, List.getElem_cons_succ, List.getElem_cons_zero, List.setIfInBounds_toArray, List.set_cons_succ, List.set_cons_zero]
  refine anyL_take (i := 24) (v := ?_) rfl rfl (by kernel_rfl) (by kernel_rfl) (by kernel_rfl) (by kernel_rfl) (fun _ _ _ h => h) (Or.inl ⟨by rfl, ?_⟩) hS ?_
  rotate_left
  · (intro w' hSw; obtain ⟨k0, k1, k2, k3, k4, k5, k6, _, _⟩ := hSw; go_simp; first | done | with_reducible rfl)
  simp only [Act.put, List.getElem_toArray, List.getElem_cons_succ, List.getElem_cons_zero, List.setIfInBounds_toArray, List.set_cons_succ, List.set_cons_zero]
  refine anyL_take (i := 25) (v := ?_) rfl rfl (by kernel_rfl) (by kernel_rfl) (by kernel_rfl) (by kernel_rfl) (fun _ _ _ h => h) (Or.inl ⟨by rfl, ?_⟩) hS ?_
  rotate_left
  · (intro w' hSw; obtain ⟨k0, k1, k2, k3, k4, k5, k6, _, _⟩ := hSw; go_simp; first | done | with_reducible rfl)
  simp only [Act.put, List.getElem_toArray, List.getElem_cons_succ, List.getElem_cons_zero, List.setIfInBounds_toArray, List.set_cons_succ, List.set_cons_zero]
  refine anyL_take (i := 26) (v := ?_) rfl rfl (by kernel_rfl) (by kernel_rfl) (by kernel_rfl) (by kernel_rfl) (fun _ _ _ h => h) (Or.inl ⟨by rfl, ?_⟩) hS ?_
  rotate_left
  · (intro w' hSw; obtain ⟨k0, k1, k2, k3, k4, k5, k6, _, _⟩ := hSw; go_simp; first | done | with_reducible rfl)
  simp only [Act.put, List.getElem_toArray, List.getElem_cons_succ, List.getElem_cons_zero, List.setIfInBounds_toArray, List.set_cons_succ, List.set_cons_zero]
  refine anyL_one (i := 27) (by kernel_rfl) rfl (fun K1 hK1 => ?_)
  go_simp
  refine (list_m HL.out hS (x := -1) (xs := []) (k := 0) ⟨by omega, by omega⟩ (itemsF_no (by unfold isNd ndAt; rw [if_pos (by omega)])) rfl).mono ?_
  rintro e v27 ⟨a27, c27, rfl, hS', HBX⟩
  have BB0 := BB; clear BB
  refine hK1.out _ _ (fun _ => hS') ?_
  clear hK1 K1 hS
  have hS := hS'; clear hS'
  have BB := BB0.trans (HBX.mono BB0.size); clear BB0 HBX
  refine anyL_take (i := 28) (v := ?_) rfl rfl (by kernel_rfl) (by kernel_rfl) (by kernel_rfl) (by kernel_rfl) (fun _ _ _ h => h) (Or.inl ⟨by rfl, ?_⟩) hS ?_
  rotate_left
  · (intro w' hSw; obtain ⟨k0, k1, k2, k3, k4, k5, k6, _, _⟩ := hSw; go_simp; first | done | with_reducible rfl)
  simp only [Act.put, List.getElem_toArray, List.getElem_cons_succ, List.getElem_cons_zero, List.setIfInBounds_toArray, List.set_cons_succ, List.set_cons_zero]
  refine anyL_take (i := 29) (v := ?_) rfl rfl (by kernel_rfl) (by kernel_rfl) (by kernel_rfl) (by kernel_rfl) (fun _ _ _ h => h) (Or.inl ⟨by rfl, ?_⟩) hS ?_
  rotate_left
  · (intro w' hSw; obtain ⟨k0, k1, k2, k3, k4, k5, k6, _, _⟩ := hSw; go_simp; first | done | with_reducible rfl)
  simp only [Act.put, List.getElem_toArray, List.getElem_cons_succ, List.getElem_cons_zero, List.setIfInBounds_toArray, List.set_cons_succ, List.set_cons_zero]
  refine anyL_take (i := 30) (v := ?_) rfl rfl (by kernel_rfl) (by kernel_rfl) (by kernel_rfl) (by kernel_rfl) (fun _ _ _ h => h) (Or.inl ⟨by rfl, ?_⟩) hS ?_
  rotate_left
  · (intro w' hSw; obtain ⟨k0, k1, k2, k3, k4, k5, k6, _, _⟩ := hSw; go_simp; first | done | with_reducible rfl)
  simp only [Act.put, List.getElem_toArray, List.getElem_cons_succ, List.getElem_cons_zero, List.setIfInBounds_toArray, List.set_cons_succ, List.set_cons_zero]
  refine anyL_take (i := 31) (v := ?_) rfl rfl (by kernel_rfl) (by kernel_rfl) (by kernel_rfl) (by kernel_rfl) (fun _ _ _ h => h) (Or.inl ⟨by rfl, ?_⟩) hS ?_
  rotate_left
  · (intro w' hSw; obtain ⟨k0, k1, k2, k3, k4, k5, k6, _, _⟩ := hSw; go_simp; first | done | with_reducible rfl)
  simp only [Act.put, List.getElem_toArray, List.getElem_cons_succ, List.getElem_cons_zero, List.setIfInBounds_toArray, List.set_cons_succ, List.set_cons_zero]
  refine anyL_one (i := 32) (by kernel_rfl) rfl (fun K1 hK1 => ?_)
  go_simp
  refine (awake_m HL.out hS (HEB.out _ BB)).mono ?_
  rintro e v32 ⟨rfl, hS', HBX⟩
  have BB0 := BB; clear BB
  refine hK1.out _ _ (fun _ => hS') ?_
  clear hK1 K1 hS
  have hS := hS'; clear hS'
  have BB := BB0.trans (HBX.mono BB0.size); clear BB0 HBX
  refine anyL_take (i := 33) (v := ?_) rfl rfl (by kernel_rfl) (by kernel_rfl) (by kernel_rfl) (by kernel_rfl) (fun _ _ _ h => h) (Or.inl ⟨by rfl, ?_⟩) hS ?_
  rotate_left
  · (intro w' hSw; obtain ⟨k0, k1, k2, k3, k4, k5, k6, _, _⟩ := hSw; go_simp; first | done | with_reducible rfl)
  simp only [Act.put, List.getElem_toArray, List.getElem_cons_succ, List.getElem_cons_zero, List.setIfInBounds_toArray, List.set_cons_succ, List.set_cons_zero]
  refine anyL_one (i := 34) (by kernel_rfl) rfl (fun K1 hK1 => ?_)
  go_simp
  refine hK1.out _ _ (fun h => absurd rfl h) ?_
  clear hK1 K1
  refine anyL_done (by kernel_rfl) ?_ _
  go_wp2
  go_ret
  exact ⟨rfl, BB⟩
end Go.Proofs.YtkgnmlllmihmlaaGreatDoor
namespace Go.Proofs.YtkgnmlllmihmlaaGreatDoor.treeLists
open Go.RowKit
theorem walk (a0 : Int) (_w0 : (Lit.int .u8 a0).wf = true) (a1 : Int) (_w1 : (Lit.int .u8 a1).wf = true) (w : World) (henv : EnvT w) :
    Calls Tryz.prog 6 #[.int .u8 a0, .int .u8 a1] w fun e w' => e = .returned (.bool true) ∧ Below w.heap.size w w' := by
  have e1 : IntKind.u8.min = 0 := rfl
  have e2 : IntKind.u8.max = 255 := rfl
  have h0 : 0 ≤ a0 ∧ a0 ≤ 255 := by simp [Lit.wf] at _w0; omega
  have h1 : 0 ≤ a1 ∧ a1 ≤ 255 := by simp [Lit.wf] at _w1; omega
  exact lists_w a0 a1 h0.1 h0.2 h1.1 h1.2 henv
end Go.Proofs.YtkgnmlllmihmlaaGreatDoor.treeLists
