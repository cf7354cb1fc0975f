/-
  The walk of TreeTypes.
-/
import Derived.Test.YtkgnmlllmihmlaaGreatDoorTypes
import Derived.Test.YtkgnmlllmihmlaaGreatDoorAwake
import Derived.Test.YtkgnmlllmihmlaaGreatDoorShelf
import Derived.IntWalk
namespace Go.Proofs.YtkgnmlllmihmlaaGreatDoor
open Go.RowKit Sp Tr Go.Shelf
set_option linter.unusedVariables false

theorem read_Ty {w : World} {b k n : Nat} {s : ByteArray} (henv : EnvT w) (hk : k ≤ 19) (hn : n ≤ 1000000) (hs : s.data.toList = srcT b k n) :
    Calls Tryz.prog 9 #[.string s] w (ParsePost (treeT b k n) w) := by
  have h5 := srcT_len (b := b) hk hn
  have hl : s.size ≤ maxLen := by
    show s.data.size ≤ _
    rw [← Array.length_toList, hs]
    unfold maxLen; omega
  have hkk : ∀ t ∈ toksT b k n ++ [⟨0, [], 0, (srcT b k n).length⟩], t.k ≤ 4 := by
    have h1 : ∀ m p, ∀ t ∈ starT m p, t.k ≤ 4 := by
      intro m
      induction m with
      | zero => intro p t ht; simp [starT] at ht
      | succ m ih =>
        intro p t ht
        simp only [starT, List.mem_cons] at ht
        rcases ht with rfl | ht
        · simp
        · exact ih _ t ht
    have h2 : ∀ t ∈ bsT b, t.k ≤ 4 := by
      match b with
      | 0 => decide
      | 1 => decide
      | 2 => decide
      | b + 3 => show ∀ t ∈ ([⟨2, wStruct, 0, 0⟩, ⟨1, [115], 0, 7⟩] : List Tok), t.k ≤ 4; decide
    have h3 : ∀ p, ∀ t ∈ bhT n p, t.k ≤ 4 := by
      intro p t ht
      unfold bhT at ht
      split at ht
      · simp at ht
      · simp only [List.mem_cons, List.not_mem_nil, or_false] at ht
        rcases ht with rfl | rfl | rfl <;> simp
    intro t ht
    simp only [toksT, List.mem_append, List.mem_cons, List.not_mem_nil, or_false] at ht
    rcases ht with (ht | ht | rfl | ht | rfl) | rfl
    · exact h2 t ht
    · exact h1 _ _ t ht
    · simp
    · exact h3 _ t ht
    · simp
    · simp
  exact read_p (f := 100) (by omega) henv hl (by rw [hs]; exact scan_T b k n hk hn) hkk (envOf_snoc _ _) (by have := read_T b k n hk hn; unfold readT at this; rw [scan_T b k n hk hn] at this; have h2 : (envOf (toksT b k n ++ [⟨0, [], 0, (srcT b k n).length⟩])).bind (parseT 100) = some (treeT b k n) := this; rw [envOf_snoc] at h2; exact h2)
def LPost (k : Nat) (xs : List Int) (w : World) (e : Ending) (w' : World) : Prop :=
  ∃ a c, e = .returned (.slice a k c) ∧ w'.ownsRow w.heap.size 3 1 (.slice a k c) k (xs.map (Value.int .i64)) ∧ Below w.heap.size w w'
theorem list_b {w : World} {b B k : Nat} {vn vt : Value} {T : Tr.Tree} {n : Int} {xs : List Int} (h : TB w b B vn vt T) (hF : FitL T.nodes) (hl : T.nodes.length ≤ 8192) (hn : -9223372036854775808 ≤ n ∧ n ≤ 9223372036854775807) (hx : itemsF 9000 T n 0 = xs) (hk : xs.length = k) :
    Calls Tryz.prog 11 #[.agg #[vn, vt, .int .i64 T.top], .int .i64 n] w (LPost k xs w) := by
  subst hk
  refine (list_t (F := 9000) h.t hF.fits n hn (by omega)).mono ?_
  rintro e w' ⟨v, rfl, ho, hb⟩
  rw [hx] at ho
  obtain ⟨a, c, rfl⟩ := row_slice ho
  exact ⟨a, c, rfl, ho, hb⟩
theorem row_form {w : World} {B n k : Nat} {a : Option Addr} {c : Nat} {xs : List Value} {v : Value} (h : w.ownsRow B 3 1 (.slice a n c) n xs) (hk : k < n) (hv : xs[k]? = some v) :
    ∃ g, a = some ⟨g, 0, none⟩ ∧ B ≤ g ∧ g < w.heap.size ∧ w.cell? ⟨g, k, none⟩ = some v := by
  obtain ⟨g, cap2, hh, hg1, hg⟩ := h.form (by omega)
  simp only [Value.slice.injEq] at hh
  obtain ⟨rfl, _, rfl⟩ := hh
  refine ⟨g, rfl, hg1, hg, ?_⟩
  have := h.cells (g := g) rfl k v hv
  have hadd : (⟨g, 0, none⟩ : Addr).add k = ⟨g, k, none⟩ := by unfold Addr.add; split <;> simp_all
  rwa [hadd] at this
theorem drW {B : Nat} {a w : World} (h : Below B a w) : Below B a w.drew := ⟨h.os, h.tape, h.output, h.size, h.block⟩
theorem region_lastS {P : Program} {ops : Array Oper} {Q : Exit → Act → World → Prop} {id : Nat} {a : Act} {w : World} (S : World → Prop) (m : Nat) (hm : P.follows .mixedOrders = true) (hS : S w.drew)
    (h : S w.drew → anyL P .any ops Q S m ops.size (Array.replicate ops.size false) a w.drew) : (Code.region id ops true).wp P Q a w := region_last S m hm (h hS)
theorem rep_star (k : Nat) (hk : k ≤ 19) : ∃ s : ByteArray, (s.data.toList = Lib.repeatL [42] k ∧ s.size = k) ∧ ∀ w, Calls Tryz.prog 14 #[.string ⟨#[42]⟩, .int .i64 k] w (RPost (.string s) w) :=
  ⟨⟨(Lib.repeatL [42] k).toArray⟩, ⟨rfl, by show (Lib.repeatL [42] k).toArray.size = _; rw [List.size_toArray, Lib.repeatL_length]; simp⟩, fun w => Tryz.strings_Repeat ⟨#[42]⟩ k w (by omega) (by show 1 * k ≤ _; omega)⟩
theorem itoa_s (n : Nat) (hn : n ≤ 1000000) : ∃ s : ByteArray, (s.data.toList = Lib.decDigits n ∧ s.size ≤ 7) ∧ ∀ w, EnvT w → Calls Tryz.prog 15 #[.int .i64 n] w (RPost (.string s) w) := by
  have e : Lib.itoa ((n : Nat) : Int) = Lib.decDigits n := by unfold Lib.itoa; rw [if_neg (by omega), Int.toNat_natCast]
  refine ⟨bt (Lib.decDigits n), ⟨rfl, by show (Lib.decDigits n).toArray.size ≤ _; rw [List.size_toArray]; exact dec7 hn⟩, fun w henv => ?_⟩
  rw [← e]
  exact itoa_t n (by omega) w henv
theorem tree_fit {b k n : Nat} : FitL (treeT b k n).nodes := by
  intro x hx
  simp only [treeT, List.mem_cons, List.not_mem_nil, or_false] at hx
  rcases hx with rfl | rfl <;> (unfold FitN; simp)
theorem tree_items {b k n : Nat} : itemsF 9000 (treeT b k n) 1 0 = [0] := by
  rw [itemsF_step (f := 8999) (x := ⟨20, 0, -1, -1, -1, [], 0, 0, 0⟩) rfl (by simp [treeT]) rfl, itemsF_no (by rfl)]
theorem ba_eq {a b : ByteArray} (h : a.data.toList = b.data.toList) : a = b := by
  cases a; cases b
  simp only [ByteArray.mk.injEq]
  exact Array.toList_inj.1 h
/-- The tree that a source of one variable gives, in memory; and Text of it. -/
theorem text_b {w : World} {bb B b k n : Nat} {vn vt : Value} (h : TB w bb B vn vt (treeT b k n)) (hk : k ≤ 19) (hn : n ≤ 1000000) (henv : EnvT w) {s : ByteArray} (q : Int) (hq : -9223372036854775808 ≤ q ∧ q ≤ 9223372036854775807)
    (hs : textF (endY k n b) q = s.data.toList) (hl : s.size ≤ 1000) (hr : (wrF ((endY k n b).length + 1) (endY k n b) q).length ≤ 1000) :
    Calls Tryz.prog 16 #[.agg #[vn, vt, .int .i64 1], .int .i64 q] w (RPost (.string s) w) := by
  have hlen : (textF (endY k n b) q).length ≤ 1000 := by rw [hs, Array.length_toList]; exact hl
  have := text_t h.t (endY_ok hk hn) henv q hq (Nat.le_trans hlen (by omega)) (Nat.le_trans hr (by omega))
  rw [show (bt (textF (treeT b k n).types q)) = s from ba_eq (by show (textF (endY k n b) q).toArray.toList = _; rw [List.toList_toArray]; exact hs)] at this
  exact this
theorem list_T {w : World} {bb B b k n : Nat} {vn vt : Value} (h : TB w bb B vn vt (treeT b k n)) :
    Calls Tryz.prog 11 #[.agg #[vn, vt, .int .i64 1], .int .i64 1] w fun e w' => ∃ g c, e = .returned (.slice (some ⟨g, 0, none⟩) 1 c) ∧ w.heap.size ≤ g ∧ g < w'.heap.size ∧ w'.cell? ⟨g, 0, none⟩ = some (.int .i64 0) ∧ Below w.heap.size w w' := by
  refine (list_b (k := 1) (xs := [0]) (n := 1) h tree_fit (by simp [treeT]) (by omega) tree_items rfl).mono ?_
  rintro e w' ⟨a, c, rfl, ho, hb⟩
  obtain ⟨g, rfl, hg1, hg2, hcell⟩ := row_form ho (k := 0) (v := .int .i64 0) (by omega) rfl
  exact ⟨g, c, rfl, hg1, hg2, hcell, hb⟩
theorem endQ_lt {b k n : Nat} (hk : k ≤ 19) : endQ k n b < (endY k n b).length := by
  obtain ⟨hb1, hb2⟩ := bsY_ok b
  obtain ⟨hs1, hs2⟩ := stY_ok k (bsQ b) (bsY b) hb1 (by omega)
  unfold endQ endY
  split
  · exact hs1.lt
  · simp; omega
theorem text_0 {b k n : Nat} (hk : k ≤ 19) : textF (endY k n b) 0 = wVoid ∧ wrF ((endY k n b).length + 1) (endY k n b) 0 = [wVoid] := by
  obtain ⟨hb1, hb2⟩ := bsY_ok b
  obtain ⟨hs1, hs2⟩ := stY_ok k (bsQ b) (bsY b) hb1 (by omega)
  have hst : ∀ (k q : Nat) (Y : List Ty), Y[0]? = some ⟨0, 0, 0, []⟩ → (stY k q Y)[0]? = some ⟨0, 0, 0, []⟩ := by
    intro k
    induction k with
    | zero => intro q Y h; exact h
    | succ k ih =>
      intro q Y h
      refine ih _ _ ?_
      rw [List.getElem?_append_left (List.getElem?_eq_some_iff.1 h).1]
      exact h
  have hb0 : (bsY b)[0]? = some ⟨0, 0, 0, []⟩ := by
    match b with
    | 0 => rfl
    | 1 => rfl
    | 2 => rfl
    | b + 3 => rfl
  have h0 : (endY k n b)[0]? = some ⟨0, 0, 0, []⟩ := by
    unfold endY
    split
    · exact hst _ _ _ hb0
    · rw [List.getElem?_append_left (by rw [hs2]; have := hb1.lt; omega)]
      exact hst _ _ _ hb0
  have hw : wrF ((endY k n b).length + 1) (endY k n b) 0 = [wVoid] := by
    have ht : tyAt (endY k n b) (0 : Int) = some ⟨0, 0, 0, []⟩ := h0
    rw [wrF_s (k := 0) ht rfl (by omega)]
    rfl
  refine ⟨?_, hw⟩
  unfold textF
  rw [hw]
  rfl
theorem text_no {b k n : Nat} (q : Int) (hq : q < 0 ∨ q = ((endY k n b).length : Nat)) : textF (endY k n b) q = [] ∧ wrF ((endY k n b).length + 1) (endY k n b) q = [] := by
  have hn : tyAt (endY k n b) q = none := by
    unfold tyAt
    rcases hq with h | h
    · rw [if_pos h]
    · rw [h, if_neg (by omega), Int.toNat_natCast]; exact List.getElem?_eq_none (Nat.le_refl _)
  unfold textF
  rw [wrF_none hn]
  exact ⟨rfl, rfl⟩
theorem wr_len {b k n : Nat} (hk : k ≤ 19) : (wrF ((endY k n b).length + 1) (endY k n b) (endQ k n b)).length ≤ 1000 := by
  have hl := (endY_len (n := n) (b := b) hk).1
  have hb4 : 4 ≤ (bsY b).length := by
    match b with
    | 0 => decide
    | 1 => decide
    | 2 => decide
    | b + 3 => show (4 : Nat) ≤ 5; omega
  have hw : (bsW b).length ≤ 2 := by
    match b with
    | 0 => decide
    | 1 => decide
    | 2 => decide
    | b + 3 => show (2 : Nat) ≤ 2; omega
  obtain ⟨f, hf⟩ : ∃ f, (endY k n b).length + 1 = f + 1 + k + 1 := ⟨(endY k n b).length - k - 1, by omega⟩
  rw [hf, wr_T hk]
  split <;> simp <;> omega
/-- The world of the last statement. -/
def TTy (b k n : Nat) (bb B : Nat) (an ay : Option Addr) (cn cy : Nat) (w : World) : Prop := TB w bb B (.slice an 2 cn) (.slice ay (endY k n b).length cy) (treeT b k n)
set_option maxRecDepth 100000 in
set_option maxHeartbeats 4000000 in
theorem types_01 {w : World} (a b : Int) (n k : Nat) (ha0 : 0 ≤ a) (ha : a ≤ 255) (hb0 : 0 ≤ b) (hb : b ≤ 255) (hn : n ≤ 1000000) (hn0 : n = 0) (e1 : a.tmod 4 = ((0 : Nat) : Int)) (e2 : b.tmod 20 = (k : Int)) (hk : k ≤ 19) (henv : EnvT w) :
    Calls Tryz.prog 7 #[.int .u8 a, .int .u8 b, .int .i64 n] w fun e w' => e = .returned (.bool true) ∧ Below w.heap.size w w' := by
  have hsz := henv.lex.sz
  have HE := Lib.hid henv; clear henv
  obtain ⟨s1, ⟨hs1, hz1⟩, R1⟩ := rep_star k hk
  obtain ⟨s3, ⟨hs3, hz3⟩, R3⟩ := itoa_s n hn
  have HR1 := Lib.hid R1; clear R1
  have HR3 := Lib.hid R3; clear R3
  have HS1 := Lib.hid hs1; clear hs1
  have HS3 := Lib.hid hs3; clear hs3
  have HEB : Hid (∀ v, Below w.heap.size w v → EnvT v) := Lib.hid (fun v h => HE.out.below h hsz)
  have p0 : ¬ (n : Int) < 0 := by omega
  have p1 : ¬ (n : Int) > 1000000 := by omega
  have p2 : decide ((n : Int) < 0) = false := by simp
  have p3 : decide ((n : Int) > 1000000) = false := by simp; omega
  subst hn0
  have HSS : Hid ((⟨#[105, 110, 116]⟩ ++ s1 ++ ⟨#[32, 120]⟩ ++ ⟨#[]⟩ ++ ⟨#[59]⟩ : ByteArray).data.toList = srcT 0 k 0) := Lib.hid (by simp [ByteArray.data_append, HS1.out, srcT, bsL, bhL])
  go_enter Tryz.func7, Tryz.ntmps7
  go_wp2_with (first | ((with_reducible refine (HR1.out _).mono ?_); rintro e v1 ⟨rfl, hb⟩; have HB1 := Lib.hid (((Below.refl w.heap.size w).alloc (Nat.le_refl _) _).trans (hb.mono (by simp))); clear hb) | ((with_reducible refine (read_Ty (HEB.out _ HB1.out) hk hn HSS.out).mono ?_); rintro e v3 ⟨vn, vt, rfl, ht, hb⟩; obtain ⟨an, cn, rfl⟩ := row_slice ht.nodes; obtain ⟨ay, cy, rfl⟩ := row_slice ht.types; have HB3 := Lib.hid (HB1.out.trans (hb.mono HB1.out.size)); have HT3 : Hid (TB (v3.alloc (.cells #[.slice an 2 cn, .slice ay (endY k 0 0).length cy, .int .i64 1] 26)) v3.heap.size _ (.slice an 2 cn) (.slice ay (endY k 0 0).length cy) (treeT 0 k 0)) := Lib.hid ⟨ht.below ((Below.refl v3.heap.size v3).alloc (Nat.le_refl _) _), heap_alloc_new _ _⟩; have HC3 := Lib.hid (HB3.out.alloc HB3.out.size (.cells #[.slice an 2 cn, .slice ay (endY k 0 0).length cy, .int .i64 1] 26)); clear ht hb; dsimp only [treeT]) | ((with_reducible refine (list_T HT3.out).mono ?_); rintro e v4 ⟨g10, c10, rfl, hg1, hg2, hcell, hb⟩; have HT4 := Lib.hid (HT3.out.below hb); have HC4 := Lib.hid (HC3.out.trans (hb.mono HC3.out.size)); clear hb))
  obtain ⟨g, rfl, hg⟩ := HT4.out.t.nodeForm (by simp [treeT])
  obtain ⟨r0, r1, r2, _⟩ := nv3 HT4.out.b
  have hbt := lt_heap HT4.out.b
  obtain ⟨c0, c1, c2, c3, c4, c5, c6, c7, c8⟩ := HT4.out.t.row (i := 0) (x := ⟨52, -1, -1, -1, -1, [120], 0, ((endQ k 0 0 : Nat) : Int), 0⟩) rfl
  simp only [Nat.zero_mul, Nat.zero_add] at c0 c1 c2 c3 c4 c5 c6 c7 c8
  have r2' : v4.cell? ⟨v3.heap.size, 2, none⟩ = some (.int .i64 1) := r2
  have hql := endQ_lt (b := 0) (n := 0) hk
  have hyl := (endY_len (b := 0) (n := 0) hk).2
  have l0 := (text_no (b := 0) (k := k) (n := 0) (-1) (.inl (by omega)))
  have l1 := (text_no (b := 0) (k := k) (n := 0) (((endY k 0 0).length : Nat) : Int) (.inr rfl))
  have l2 := (text_0 (b := 0) (n := 0) hk)
  have hfull : textF (endY k 0 0) ((endQ k 0 0 : Nat) : Int) = (⟨#[105, 110, 116]⟩ ++ s1 ++ ⟨#[]⟩ : ByteArray).data.toList := by rw [text_T hk]; simp [ByteArray.data_append, HS1.out, bsL, bhL]
  obtain ⟨NY, hNY⟩ : ∃ NY, (endY k 0 0).length = NY := ⟨_, rfl⟩
  obtain ⟨Q, hQ⟩ : ∃ Q, endQ k 0 0 = Q := ⟨_, rfl⟩
  have hQN : Q < NY := by omega
  have hN30 : NY ≤ 30 := by omega
  have HT5' := HT4.out.below (drW (Below.refl v4.heap.size v4))
  have HC5' := drW HC4.out
  have HTX := HT4; clear HT4 HT3
  rw [hNY] at r1 ⊢
  rw [hQ] at c7
  clear r2
  go_region
  go_wp2
  obtain ⟨wr, hwr⟩ : ∃ wr : World, v4.drew = wr := ⟨_, rfl⟩
  rw [hwr] at HT5' HC5' ⊢
  have HT5 := Lib.hid HT5'; have HC5 := Lib.hid HC5'
  have e0 : ∀ x u, v4.cell? x = some u → wr.cell? x = some u := by intro x u h; rw [← hwr]; exact h
  have k0 := fun d os => cell_regrown (e0 _ _ r0) d os
  have k1 := fun d os => cell_regrown (e0 _ _ r1) d os
  have k2 := fun d os => cell_regrown (e0 _ _ r2') d os
  have k3 := fun d os => cell_regrown (e0 _ _ c7) d os
  have k4 := fun d os => cell_regrown (e0 _ _ hcell) d os
  have HX1 : Hid (∀ d os, Calls Tryz.prog 16 #[.agg #[.slice (some ⟨g, 0, none⟩) 2 cn, .slice ay NY cy, .int .i64 1], .int .i64 ((Q : Nat) : Int)] (Go.Sort.grow (redrawn wr d) os) fun e w' => e = .returned (.string (⟨#[105, 110, 116]⟩ ++ s1 ++ ⟨#[]⟩)) ∧ Below (Go.Sort.grow (redrawn wr d) os).heap.size (Go.Sort.grow (redrawn wr d) os) w') := Lib.hid (by rw [← hNY]; (try rw [← hQ]); exact fun d os => text_b (HT5.out.below (below_regrown wr d os)) hk hn (HEB.out _ (HC5.out.trans ((below_regrown wr d os).mono HC5.out.size))) ((endQ k 0 0 : Nat) : Int) (by omega) hfull (by simp only [ByteArray.size_append]; show 3 + s1.size + 0 ≤ 1000; omega) (wr_len hk))
  have HX2 : Hid (∀ d os, Calls Tryz.prog 16 #[.agg #[.slice (some ⟨g, 0, none⟩) 2 cn, .slice ay NY cy, .int .i64 1], .int .i64 (-1)] (Go.Sort.grow (redrawn wr d) os) fun e w' => e = .returned (.string (⟨#[]⟩)) ∧ Below (Go.Sort.grow (redrawn wr d) os).heap.size (Go.Sort.grow (redrawn wr d) os) w') := Lib.hid (by rw [← hNY]; (try rw [← hQ]); exact fun d os => text_b (HT5.out.below (below_regrown wr d os)) hk hn (HEB.out _ (HC5.out.trans ((below_regrown wr d os).mono HC5.out.size))) (-1) (by omega) l0.1 (by decide) (by rw [l0.2]; decide))
  have HX3 : Hid (∀ d os, Calls Tryz.prog 16 #[.agg #[.slice (some ⟨g, 0, none⟩) 2 cn, .slice ay NY cy, .int .i64 1], .int .i64 ((NY : Nat) : Int)] (Go.Sort.grow (redrawn wr d) os) fun e w' => e = .returned (.string (⟨#[]⟩)) ∧ Below (Go.Sort.grow (redrawn wr d) os).heap.size (Go.Sort.grow (redrawn wr d) os) w') := Lib.hid (by rw [← hNY]; (try rw [← hQ]); exact fun d os => text_b (HT5.out.below (below_regrown wr d os)) hk hn (HEB.out _ (HC5.out.trans ((below_regrown wr d os).mono HC5.out.size))) (((endY k 0 0).length : Nat) : Int) (by omega) l1.1 (by decide) (by rw [l1.2]; decide))
  have HX4 : Hid (∀ d os, Calls Tryz.prog 16 #[.agg #[.slice (some ⟨g, 0, none⟩) 2 cn, .slice ay NY cy, .int .i64 1], .int .i64 0] (Go.Sort.grow (redrawn wr d) os) fun e w' => e = .returned (.string (⟨#[118, 111, 105, 100]⟩)) ∧ Below (Go.Sort.grow (redrawn wr d) os).heap.size (Go.Sort.grow (redrawn wr d) os) w') := Lib.hid (by rw [← hNY]; (try rw [← hQ]); exact fun d os => text_b (HT5.out.below (below_regrown wr d os)) hk hn (HEB.out _ (HC5.out.trans ((below_regrown wr d os).mono HC5.out.size))) 0 (by omega) l2.1 (by decide) (by rw [l2.2]; decide))
  have HX5 : Hid (∀ d os, Calls Tryz.prog 8 #[] (Go.Sort.grow (redrawn wr d) os) fun e w' => e = .returned (.bool true) ∧ Below (Go.Sort.grow (redrawn wr d) os).heap.size (Go.Sort.grow (redrawn wr d) os) w') := Lib.hid fun d os => awake_any _ (HEB.out _ (HC5.out.trans ((below_regrown wr d os).mono HC5.out.size)))
  have q0 : (0 : Int) ≤ (Q : Int) := Int.natCast_nonneg _
  clear HT5' HC5' e0 r0 r1 r2' c0 c1 c2 c3 c4 c5 c6 c7 c8 hcell l0 l1 l2 hfull hNY hQ hwr hql hyl HTX HSS HT5
  refine wp_region_quiet_below (by kernel_rfl) (by kernel_rfl) ?_
  repeat (any_goals (first | go_big_quiet_step ((first | (go_at_call 16; first | with_reducible exact Calls.regrown_of (HX1.out _ _) | with_reducible exact Calls.regrown_of (HX2.out _ _) | with_reducible exact Calls.regrown_of (HX3.out _ _) | with_reducible exact Calls.regrown_of (HX4.out _ _)) | (go_at_call 8; exact Calls.regrown_of (HX5.out _ _)))) | quiet_step ((first | (go_at_call 16; first | with_reducible exact Calls.regrown_of (HX1.out _ _) | with_reducible exact Calls.regrown_of (HX2.out _ _) | with_reducible exact Calls.regrown_of (HX3.out _ _) | with_reducible exact Calls.regrown_of (HX4.out _ _)) | (go_at_call 8; exact Calls.regrown_of (HX5.out _ _))))))
  refine wpQuiet_nil ?_
  intro _ hw'
  obtain ⟨⟨dq, osq⟩, hw''⟩ := hw'
  subst hw''
  have HB4 : Hid (Below w.heap.size w (Go.Sort.grow (redrawn wr dq) osq)) := Lib.hid (HC5.out.trans ((below_regrown wr dq osq).mono HC5.out.size))
  clear k0 k1 k2 k3 k4 HX1 HX2 HX3 HX4 HX5
  generalize Go.Sort.grow (redrawn wr dq) osq = w4 at *
  go_wp2
  go_ret
  exact ⟨rfl, HB4.out⟩
set_option maxRecDepth 100000 in
set_option maxHeartbeats 4000000 in
theorem types_11 {w : World} (a b : Int) (n k : Nat) (ha0 : 0 ≤ a) (ha : a ≤ 255) (hb0 : 0 ≤ b) (hb : b ≤ 255) (hn : n ≤ 1000000) (hn0 : n = 0) (e1 : a.tmod 4 = ((1 : Nat) : Int)) (e2 : b.tmod 20 = (k : Int)) (hk : k ≤ 19) (henv : EnvT w) :
    Calls Tryz.prog 7 #[.int .u8 a, .int .u8 b, .int .i64 n] w fun e w' => e = .returned (.bool true) ∧ Below w.heap.size w w' := by
  have hsz := henv.lex.sz
  have HE := Lib.hid henv; clear henv
  obtain ⟨s1, ⟨hs1, hz1⟩, R1⟩ := rep_star k hk
  obtain ⟨s3, ⟨hs3, hz3⟩, R3⟩ := itoa_s n hn
  have HR1 := Lib.hid R1; clear R1
  have HR3 := Lib.hid R3; clear R3
  have HS1 := Lib.hid hs1; clear hs1
  have HS3 := Lib.hid hs3; clear hs3
  have HEB : Hid (∀ v, Below w.heap.size w v → EnvT v) := Lib.hid (fun v h => HE.out.below h hsz)
  have p0 : ¬ (n : Int) < 0 := by omega
  have p1 : ¬ (n : Int) > 1000000 := by omega
  have p2 : decide ((n : Int) < 0) = false := by simp
  have p3 : decide ((n : Int) > 1000000) = false := by simp; omega
  subst hn0
  have HSS : Hid ((⟨#[117, 110, 115, 105, 103, 110, 101, 100]⟩ ++ s1 ++ ⟨#[32, 120]⟩ ++ ⟨#[]⟩ ++ ⟨#[59]⟩ : ByteArray).data.toList = srcT 1 k 0) := Lib.hid (by simp [ByteArray.data_append, HS1.out, srcT, bsL, bhL])
  go_enter Tryz.func7, Tryz.ntmps7
  go_wp2_with (first | ((with_reducible refine (HR1.out _).mono ?_); rintro e v1 ⟨rfl, hb⟩; have HB1 := Lib.hid (((Below.refl w.heap.size w).alloc (Nat.le_refl _) _).trans (hb.mono (by simp))); clear hb) | ((with_reducible refine (read_Ty (HEB.out _ HB1.out) hk hn HSS.out).mono ?_); rintro e v3 ⟨vn, vt, rfl, ht, hb⟩; obtain ⟨an, cn, rfl⟩ := row_slice ht.nodes; obtain ⟨ay, cy, rfl⟩ := row_slice ht.types; have HB3 := Lib.hid (HB1.out.trans (hb.mono HB1.out.size)); have HT3 : Hid (TB (v3.alloc (.cells #[.slice an 2 cn, .slice ay (endY k 0 1).length cy, .int .i64 1] 26)) v3.heap.size _ (.slice an 2 cn) (.slice ay (endY k 0 1).length cy) (treeT 1 k 0)) := Lib.hid ⟨ht.below ((Below.refl v3.heap.size v3).alloc (Nat.le_refl _) _), heap_alloc_new _ _⟩; have HC3 := Lib.hid (HB3.out.alloc HB3.out.size (.cells #[.slice an 2 cn, .slice ay (endY k 0 1).length cy, .int .i64 1] 26)); clear ht hb; dsimp only [treeT]) | ((with_reducible refine (list_T HT3.out).mono ?_); rintro e v4 ⟨g10, c10, rfl, hg1, hg2, hcell, hb⟩; have HT4 := Lib.hid (HT3.out.below hb); have HC4 := Lib.hid (HC3.out.trans (hb.mono HC3.out.size)); clear hb))
  obtain ⟨g, rfl, hg⟩ := HT4.out.t.nodeForm (by simp [treeT])
  obtain ⟨r0, r1, r2, _⟩ := nv3 HT4.out.b
  have hbt := lt_heap HT4.out.b
  obtain ⟨c0, c1, c2, c3, c4, c5, c6, c7, c8⟩ := HT4.out.t.row (i := 0) (x := ⟨52, -1, -1, -1, -1, [120], 0, ((endQ k 0 1 : Nat) : Int), 0⟩) rfl
  simp only [Nat.zero_mul, Nat.zero_add] at c0 c1 c2 c3 c4 c5 c6 c7 c8
  have r2' : v4.cell? ⟨v3.heap.size, 2, none⟩ = some (.int .i64 1) := r2
  have hql := endQ_lt (b := 1) (n := 0) hk
  have hyl := (endY_len (b := 1) (n := 0) hk).2
  have l0 := (text_no (b := 1) (k := k) (n := 0) (-1) (.inl (by omega)))
  have l1 := (text_no (b := 1) (k := k) (n := 0) (((endY k 0 1).length : Nat) : Int) (.inr rfl))
  have l2 := (text_0 (b := 1) (n := 0) hk)
  have hfull : textF (endY k 0 1) ((endQ k 0 1 : Nat) : Int) = (⟨#[117, 110, 115, 105, 103, 110, 101, 100]⟩ ++ s1 ++ ⟨#[]⟩ : ByteArray).data.toList := by rw [text_T hk]; simp [ByteArray.data_append, HS1.out, bsL, bhL]
  obtain ⟨NY, hNY⟩ : ∃ NY, (endY k 0 1).length = NY := ⟨_, rfl⟩
  obtain ⟨Q, hQ⟩ : ∃ Q, endQ k 0 1 = Q := ⟨_, rfl⟩
  have hQN : Q < NY := by omega
  have hN30 : NY ≤ 30 := by omega
  have HT5' := HT4.out.below (drW (Below.refl v4.heap.size v4))
  have HC5' := drW HC4.out
  have HTX := HT4; clear HT4 HT3
  rw [hNY] at r1 ⊢
  rw [hQ] at c7
  clear r2
  go_region
  go_wp2
  obtain ⟨wr, hwr⟩ : ∃ wr : World, v4.drew = wr := ⟨_, rfl⟩
  rw [hwr] at HT5' HC5' ⊢
  have HT5 := Lib.hid HT5'; have HC5 := Lib.hid HC5'
  have e0 : ∀ x u, v4.cell? x = some u → wr.cell? x = some u := by intro x u h; rw [← hwr]; exact h
  have k0 := fun d os => cell_regrown (e0 _ _ r0) d os
  have k1 := fun d os => cell_regrown (e0 _ _ r1) d os
  have k2 := fun d os => cell_regrown (e0 _ _ r2') d os
  have k3 := fun d os => cell_regrown (e0 _ _ c7) d os
  have k4 := fun d os => cell_regrown (e0 _ _ hcell) d os
  have HX1 : Hid (∀ d os, Calls Tryz.prog 16 #[.agg #[.slice (some ⟨g, 0, none⟩) 2 cn, .slice ay NY cy, .int .i64 1], .int .i64 ((Q : Nat) : Int)] (Go.Sort.grow (redrawn wr d) os) fun e w' => e = .returned (.string (⟨#[117, 110, 115, 105, 103, 110, 101, 100]⟩ ++ s1 ++ ⟨#[]⟩)) ∧ Below (Go.Sort.grow (redrawn wr d) os).heap.size (Go.Sort.grow (redrawn wr d) os) w') := Lib.hid (by rw [← hNY]; (try rw [← hQ]); exact fun d os => text_b (HT5.out.below (below_regrown wr d os)) hk hn (HEB.out _ (HC5.out.trans ((below_regrown wr d os).mono HC5.out.size))) ((endQ k 0 1 : Nat) : Int) (by omega) hfull (by simp only [ByteArray.size_append]; show 8 + s1.size + 0 ≤ 1000; omega) (wr_len hk))
  have HX2 : Hid (∀ d os, Calls Tryz.prog 16 #[.agg #[.slice (some ⟨g, 0, none⟩) 2 cn, .slice ay NY cy, .int .i64 1], .int .i64 (-1)] (Go.Sort.grow (redrawn wr d) os) fun e w' => e = .returned (.string (⟨#[]⟩)) ∧ Below (Go.Sort.grow (redrawn wr d) os).heap.size (Go.Sort.grow (redrawn wr d) os) w') := Lib.hid (by rw [← hNY]; (try rw [← hQ]); exact fun d os => text_b (HT5.out.below (below_regrown wr d os)) hk hn (HEB.out _ (HC5.out.trans ((below_regrown wr d os).mono HC5.out.size))) (-1) (by omega) l0.1 (by decide) (by rw [l0.2]; decide))
  have HX3 : Hid (∀ d os, Calls Tryz.prog 16 #[.agg #[.slice (some ⟨g, 0, none⟩) 2 cn, .slice ay NY cy, .int .i64 1], .int .i64 ((NY : Nat) : Int)] (Go.Sort.grow (redrawn wr d) os) fun e w' => e = .returned (.string (⟨#[]⟩)) ∧ Below (Go.Sort.grow (redrawn wr d) os).heap.size (Go.Sort.grow (redrawn wr d) os) w') := Lib.hid (by rw [← hNY]; (try rw [← hQ]); exact fun d os => text_b (HT5.out.below (below_regrown wr d os)) hk hn (HEB.out _ (HC5.out.trans ((below_regrown wr d os).mono HC5.out.size))) (((endY k 0 1).length : Nat) : Int) (by omega) l1.1 (by decide) (by rw [l1.2]; decide))
  have HX4 : Hid (∀ d os, Calls Tryz.prog 16 #[.agg #[.slice (some ⟨g, 0, none⟩) 2 cn, .slice ay NY cy, .int .i64 1], .int .i64 0] (Go.Sort.grow (redrawn wr d) os) fun e w' => e = .returned (.string (⟨#[118, 111, 105, 100]⟩)) ∧ Below (Go.Sort.grow (redrawn wr d) os).heap.size (Go.Sort.grow (redrawn wr d) os) w') := Lib.hid (by rw [← hNY]; (try rw [← hQ]); exact fun d os => text_b (HT5.out.below (below_regrown wr d os)) hk hn (HEB.out _ (HC5.out.trans ((below_regrown wr d os).mono HC5.out.size))) 0 (by omega) l2.1 (by decide) (by rw [l2.2]; decide))
  have HX5 : Hid (∀ d os, Calls Tryz.prog 8 #[] (Go.Sort.grow (redrawn wr d) os) fun e w' => e = .returned (.bool true) ∧ Below (Go.Sort.grow (redrawn wr d) os).heap.size (Go.Sort.grow (redrawn wr d) os) w') := Lib.hid fun d os => awake_any _ (HEB.out _ (HC5.out.trans ((below_regrown wr d os).mono HC5.out.size)))
  have q0 : (0 : Int) ≤ (Q : Int) := Int.natCast_nonneg _
  clear HT5' HC5' e0 r0 r1 r2' c0 c1 c2 c3 c4 c5 c6 c7 c8 hcell l0 l1 l2 hfull hNY hQ hwr hql hyl HTX HSS HT5
  refine wp_region_quiet_below (by kernel_rfl) (by kernel_rfl) ?_
  repeat (any_goals (first | go_big_quiet_step ((first | (go_at_call 16; first | with_reducible exact Calls.regrown_of (HX1.out _ _) | with_reducible exact Calls.regrown_of (HX2.out _ _) | with_reducible exact Calls.regrown_of (HX3.out _ _) | with_reducible exact Calls.regrown_of (HX4.out _ _)) | (go_at_call 8; exact Calls.regrown_of (HX5.out _ _)))) | quiet_step ((first | (go_at_call 16; first | with_reducible exact Calls.regrown_of (HX1.out _ _) | with_reducible exact Calls.regrown_of (HX2.out _ _) | with_reducible exact Calls.regrown_of (HX3.out _ _) | with_reducible exact Calls.regrown_of (HX4.out _ _)) | (go_at_call 8; exact Calls.regrown_of (HX5.out _ _))))))
  refine wpQuiet_nil ?_
  intro _ hw'
  obtain ⟨⟨dq, osq⟩, hw''⟩ := hw'
  subst hw''
  have HB4 : Hid (Below w.heap.size w (Go.Sort.grow (redrawn wr dq) osq)) := Lib.hid (HC5.out.trans ((below_regrown wr dq osq).mono HC5.out.size))
  clear k0 k1 k2 k3 k4 HX1 HX2 HX3 HX4 HX5
  generalize Go.Sort.grow (redrawn wr dq) osq = w4 at *
  go_wp2
  go_ret
  exact ⟨rfl, HB4.out⟩
set_option maxRecDepth 100000 in
set_option maxHeartbeats 4000000 in
theorem types_21 {w : World} (a b : Int) (n k : Nat) (ha0 : 0 ≤ a) (ha : a ≤ 255) (hb0 : 0 ≤ b) (hb : b ≤ 255) (hn : n ≤ 1000000) (hn0 : n = 0) (e1 : a.tmod 4 = ((2 : Nat) : Int)) (e2 : b.tmod 20 = (k : Int)) (hk : k ≤ 19) (henv : EnvT w) :
    Calls Tryz.prog 7 #[.int .u8 a, .int .u8 b, .int .i64 n] w fun e w' => e = .returned (.bool true) ∧ Below w.heap.size w w' := by
  have hsz := henv.lex.sz
  have HE := Lib.hid henv; clear henv
  obtain ⟨s1, ⟨hs1, hz1⟩, R1⟩ := rep_star k hk
  obtain ⟨s3, ⟨hs3, hz3⟩, R3⟩ := itoa_s n hn
  have HR1 := Lib.hid R1; clear R1
  have HR3 := Lib.hid R3; clear R3
  have HS1 := Lib.hid hs1; clear hs1
  have HS3 := Lib.hid hs3; clear hs3
  have HEB : Hid (∀ v, Below w.heap.size w v → EnvT v) := Lib.hid (fun v h => HE.out.below h hsz)
  have p0 : ¬ (n : Int) < 0 := by omega
  have p1 : ¬ (n : Int) > 1000000 := by omega
  have p2 : decide ((n : Int) < 0) = false := by simp
  have p3 : decide ((n : Int) > 1000000) = false := by simp; omega
  subst hn0
  have HSS : Hid ((⟨#[99, 104, 97, 114]⟩ ++ s1 ++ ⟨#[32, 120]⟩ ++ ⟨#[]⟩ ++ ⟨#[59]⟩ : ByteArray).data.toList = srcT 2 k 0) := Lib.hid (by simp [ByteArray.data_append, HS1.out, srcT, bsL, bhL])
  go_enter Tryz.func7, Tryz.ntmps7
  go_wp2_with (first | ((with_reducible refine (HR1.out _).mono ?_); rintro e v1 ⟨rfl, hb⟩; have HB1 := Lib.hid (((Below.refl w.heap.size w).alloc (Nat.le_refl _) _).trans (hb.mono (by simp))); clear hb) | ((with_reducible refine (read_Ty (HEB.out _ HB1.out) hk hn HSS.out).mono ?_); rintro e v3 ⟨vn, vt, rfl, ht, hb⟩; obtain ⟨an, cn, rfl⟩ := row_slice ht.nodes; obtain ⟨ay, cy, rfl⟩ := row_slice ht.types; have HB3 := Lib.hid (HB1.out.trans (hb.mono HB1.out.size)); have HT3 : Hid (TB (v3.alloc (.cells #[.slice an 2 cn, .slice ay (endY k 0 2).length cy, .int .i64 1] 26)) v3.heap.size _ (.slice an 2 cn) (.slice ay (endY k 0 2).length cy) (treeT 2 k 0)) := Lib.hid ⟨ht.below ((Below.refl v3.heap.size v3).alloc (Nat.le_refl _) _), heap_alloc_new _ _⟩; have HC3 := Lib.hid (HB3.out.alloc HB3.out.size (.cells #[.slice an 2 cn, .slice ay (endY k 0 2).length cy, .int .i64 1] 26)); clear ht hb; dsimp only [treeT]) | ((with_reducible refine (list_T HT3.out).mono ?_); rintro e v4 ⟨g10, c10, rfl, hg1, hg2, hcell, hb⟩; have HT4 := Lib.hid (HT3.out.below hb); have HC4 := Lib.hid (HC3.out.trans (hb.mono HC3.out.size)); clear hb))
  obtain ⟨g, rfl, hg⟩ := HT4.out.t.nodeForm (by simp [treeT])
  obtain ⟨r0, r1, r2, _⟩ := nv3 HT4.out.b
  have hbt := lt_heap HT4.out.b
  obtain ⟨c0, c1, c2, c3, c4, c5, c6, c7, c8⟩ := HT4.out.t.row (i := 0) (x := ⟨52, -1, -1, -1, -1, [120], 0, ((endQ k 0 2 : Nat) : Int), 0⟩) rfl
  simp only [Nat.zero_mul, Nat.zero_add] at c0 c1 c2 c3 c4 c5 c6 c7 c8
  have r2' : v4.cell? ⟨v3.heap.size, 2, none⟩ = some (.int .i64 1) := r2
  have hql := endQ_lt (b := 2) (n := 0) hk
  have hyl := (endY_len (b := 2) (n := 0) hk).2
  have l0 := (text_no (b := 2) (k := k) (n := 0) (-1) (.inl (by omega)))
  have l1 := (text_no (b := 2) (k := k) (n := 0) (((endY k 0 2).length : Nat) : Int) (.inr rfl))
  have l2 := (text_0 (b := 2) (n := 0) hk)
  have hfull : textF (endY k 0 2) ((endQ k 0 2 : Nat) : Int) = (⟨#[99, 104, 97, 114]⟩ ++ s1 ++ ⟨#[]⟩ : ByteArray).data.toList := by rw [text_T hk]; simp [ByteArray.data_append, HS1.out, bsL, bhL]
  obtain ⟨NY, hNY⟩ : ∃ NY, (endY k 0 2).length = NY := ⟨_, rfl⟩
  obtain ⟨Q, hQ⟩ : ∃ Q, endQ k 0 2 = Q := ⟨_, rfl⟩
  have hQN : Q < NY := by omega
  have hN30 : NY ≤ 30 := by omega
  have HT5' := HT4.out.below (drW (Below.refl v4.heap.size v4))
  have HC5' := drW HC4.out
  have HTX := HT4; clear HT4 HT3
  rw [hNY] at r1 ⊢
  rw [hQ] at c7
  clear r2
  go_region
  go_wp2
  obtain ⟨wr, hwr⟩ : ∃ wr : World, v4.drew = wr := ⟨_, rfl⟩
  rw [hwr] at HT5' HC5' ⊢
  have HT5 := Lib.hid HT5'; have HC5 := Lib.hid HC5'
  have e0 : ∀ x u, v4.cell? x = some u → wr.cell? x = some u := by intro x u h; rw [← hwr]; exact h
  have k0 := fun d os => cell_regrown (e0 _ _ r0) d os
  have k1 := fun d os => cell_regrown (e0 _ _ r1) d os
  have k2 := fun d os => cell_regrown (e0 _ _ r2') d os
  have k3 := fun d os => cell_regrown (e0 _ _ c7) d os
  have k4 := fun d os => cell_regrown (e0 _ _ hcell) d os
  have HX1 : Hid (∀ d os, Calls Tryz.prog 16 #[.agg #[.slice (some ⟨g, 0, none⟩) 2 cn, .slice ay NY cy, .int .i64 1], .int .i64 ((Q : Nat) : Int)] (Go.Sort.grow (redrawn wr d) os) fun e w' => e = .returned (.string (⟨#[99, 104, 97, 114]⟩ ++ s1 ++ ⟨#[]⟩)) ∧ Below (Go.Sort.grow (redrawn wr d) os).heap.size (Go.Sort.grow (redrawn wr d) os) w') := Lib.hid (by rw [← hNY]; (try rw [← hQ]); exact fun d os => text_b (HT5.out.below (below_regrown wr d os)) hk hn (HEB.out _ (HC5.out.trans ((below_regrown wr d os).mono HC5.out.size))) ((endQ k 0 2 : Nat) : Int) (by omega) hfull (by simp only [ByteArray.size_append]; show 4 + s1.size + 0 ≤ 1000; omega) (wr_len hk))
  have HX2 : Hid (∀ d os, Calls Tryz.prog 16 #[.agg #[.slice (some ⟨g, 0, none⟩) 2 cn, .slice ay NY cy, .int .i64 1], .int .i64 (-1)] (Go.Sort.grow (redrawn wr d) os) fun e w' => e = .returned (.string (⟨#[]⟩)) ∧ Below (Go.Sort.grow (redrawn wr d) os).heap.size (Go.Sort.grow (redrawn wr d) os) w') := Lib.hid (by rw [← hNY]; (try rw [← hQ]); exact fun d os => text_b (HT5.out.below (below_regrown wr d os)) hk hn (HEB.out _ (HC5.out.trans ((below_regrown wr d os).mono HC5.out.size))) (-1) (by omega) l0.1 (by decide) (by rw [l0.2]; decide))
  have HX3 : Hid (∀ d os, Calls Tryz.prog 16 #[.agg #[.slice (some ⟨g, 0, none⟩) 2 cn, .slice ay NY cy, .int .i64 1], .int .i64 ((NY : Nat) : Int)] (Go.Sort.grow (redrawn wr d) os) fun e w' => e = .returned (.string (⟨#[]⟩)) ∧ Below (Go.Sort.grow (redrawn wr d) os).heap.size (Go.Sort.grow (redrawn wr d) os) w') := Lib.hid (by rw [← hNY]; (try rw [← hQ]); exact fun d os => text_b (HT5.out.below (below_regrown wr d os)) hk hn (HEB.out _ (HC5.out.trans ((below_regrown wr d os).mono HC5.out.size))) (((endY k 0 2).length : Nat) : Int) (by omega) l1.1 (by decide) (by rw [l1.2]; decide))
  have HX4 : Hid (∀ d os, Calls Tryz.prog 16 #[.agg #[.slice (some ⟨g, 0, none⟩) 2 cn, .slice ay NY cy, .int .i64 1], .int .i64 0] (Go.Sort.grow (redrawn wr d) os) fun e w' => e = .returned (.string (⟨#[118, 111, 105, 100]⟩)) ∧ Below (Go.Sort.grow (redrawn wr d) os).heap.size (Go.Sort.grow (redrawn wr d) os) w') := Lib.hid (by rw [← hNY]; (try rw [← hQ]); exact fun d os => text_b (HT5.out.below (below_regrown wr d os)) hk hn (HEB.out _ (HC5.out.trans ((below_regrown wr d os).mono HC5.out.size))) 0 (by omega) l2.1 (by decide) (by rw [l2.2]; decide))
  have HX5 : Hid (∀ d os, Calls Tryz.prog 8 #[] (Go.Sort.grow (redrawn wr d) os) fun e w' => e = .returned (.bool true) ∧ Below (Go.Sort.grow (redrawn wr d) os).heap.size (Go.Sort.grow (redrawn wr d) os) w') := Lib.hid fun d os => awake_any _ (HEB.out _ (HC5.out.trans ((below_regrown wr d os).mono HC5.out.size)))
  have q0 : (0 : Int) ≤ (Q : Int) := Int.natCast_nonneg _
  clear HT5' HC5' e0 r0 r1 r2' c0 c1 c2 c3 c4 c5 c6 c7 c8 hcell l0 l1 l2 hfull hNY hQ hwr hql hyl HTX HSS HT5
  refine wp_region_quiet_below (by kernel_rfl) (by kernel_rfl) ?_
  repeat (any_goals (first | go_big_quiet_step ((first | (go_at_call 16; first | with_reducible exact Calls.regrown_of (HX1.out _ _) | with_reducible exact Calls.regrown_of (HX2.out _ _) | with_reducible exact Calls.regrown_of (HX3.out _ _) | with_reducible exact Calls.regrown_of (HX4.out _ _)) | (go_at_call 8; exact Calls.regrown_of (HX5.out _ _)))) | quiet_step ((first | (go_at_call 16; first | with_reducible exact Calls.regrown_of (HX1.out _ _) | with_reducible exact Calls.regrown_of (HX2.out _ _) | with_reducible exact Calls.regrown_of (HX3.out _ _) | with_reducible exact Calls.regrown_of (HX4.out _ _)) | (go_at_call 8; exact Calls.regrown_of (HX5.out _ _))))))
  refine wpQuiet_nil ?_
  intro _ hw'
  obtain ⟨⟨dq, osq⟩, hw''⟩ := hw'
  subst hw''
  have HB4 : Hid (Below w.heap.size w (Go.Sort.grow (redrawn wr dq) osq)) := Lib.hid (HC5.out.trans ((below_regrown wr dq osq).mono HC5.out.size))
  clear k0 k1 k2 k3 k4 HX1 HX2 HX3 HX4 HX5
  generalize Go.Sort.grow (redrawn wr dq) osq = w4 at *
  go_wp2
  go_ret
  exact ⟨rfl, HB4.out⟩
set_option maxRecDepth 100000 in
set_option maxHeartbeats 4000000 in
theorem types_31 {w : World} (a b : Int) (n k : Nat) (ha0 : 0 ≤ a) (ha : a ≤ 255) (hb0 : 0 ≤ b) (hb : b ≤ 255) (hn : n ≤ 1000000) (hn0 : n = 0) (e1 : a.tmod 4 = ((3 : Nat) : Int)) (e2 : b.tmod 20 = (k : Int)) (hk : k ≤ 19) (henv : EnvT w) :
    Calls Tryz.prog 7 #[.int .u8 a, .int .u8 b, .int .i64 n] w fun e w' => e = .returned (.bool true) ∧ Below w.heap.size w w' := by
  have hsz := henv.lex.sz
  have HE := Lib.hid henv; clear henv
  obtain ⟨s1, ⟨hs1, hz1⟩, R1⟩ := rep_star k hk
  obtain ⟨s3, ⟨hs3, hz3⟩, R3⟩ := itoa_s n hn
  have HR1 := Lib.hid R1; clear R1
  have HR3 := Lib.hid R3; clear R3
  have HS1 := Lib.hid hs1; clear hs1
  have HS3 := Lib.hid hs3; clear hs3
  have HEB : Hid (∀ v, Below w.heap.size w v → EnvT v) := Lib.hid (fun v h => HE.out.below h hsz)
  have p0 : ¬ (n : Int) < 0 := by omega
  have p1 : ¬ (n : Int) > 1000000 := by omega
  have p2 : decide ((n : Int) < 0) = false := by simp
  have p3 : decide ((n : Int) > 1000000) = false := by simp; omega
  subst hn0
  have HSS : Hid ((⟨#[115, 116, 114, 117, 99, 116, 32, 115]⟩ ++ s1 ++ ⟨#[32, 120]⟩ ++ ⟨#[]⟩ ++ ⟨#[59]⟩ : ByteArray).data.toList = srcT 3 k 0) := Lib.hid (by simp [ByteArray.data_append, HS1.out, srcT, bsL, bhL])
  go_enter Tryz.func7, Tryz.ntmps7
  go_wp2_with (first | ((with_reducible refine (HR1.out _).mono ?_); rintro e v1 ⟨rfl, hb⟩; have HB1 := Lib.hid (((Below.refl w.heap.size w).alloc (Nat.le_refl _) _).trans (hb.mono (by simp))); clear hb) | ((with_reducible refine (read_Ty (HEB.out _ HB1.out) hk hn HSS.out).mono ?_); rintro e v3 ⟨vn, vt, rfl, ht, hb⟩; obtain ⟨an, cn, rfl⟩ := row_slice ht.nodes; obtain ⟨ay, cy, rfl⟩ := row_slice ht.types; have HB3 := Lib.hid (HB1.out.trans (hb.mono HB1.out.size)); have HT3 : Hid (TB (v3.alloc (.cells #[.slice an 2 cn, .slice ay (endY k 0 3).length cy, .int .i64 1] 26)) v3.heap.size _ (.slice an 2 cn) (.slice ay (endY k 0 3).length cy) (treeT 3 k 0)) := Lib.hid ⟨ht.below ((Below.refl v3.heap.size v3).alloc (Nat.le_refl _) _), heap_alloc_new _ _⟩; have HC3 := Lib.hid (HB3.out.alloc HB3.out.size (.cells #[.slice an 2 cn, .slice ay (endY k 0 3).length cy, .int .i64 1] 26)); clear ht hb; dsimp only [treeT]) | ((with_reducible refine (list_T HT3.out).mono ?_); rintro e v4 ⟨g10, c10, rfl, hg1, hg2, hcell, hb⟩; have HT4 := Lib.hid (HT3.out.below hb); have HC4 := Lib.hid (HC3.out.trans (hb.mono HC3.out.size)); clear hb))
  obtain ⟨g, rfl, hg⟩ := HT4.out.t.nodeForm (by simp [treeT])
  obtain ⟨r0, r1, r2, _⟩ := nv3 HT4.out.b
  have hbt := lt_heap HT4.out.b
  obtain ⟨c0, c1, c2, c3, c4, c5, c6, c7, c8⟩ := HT4.out.t.row (i := 0) (x := ⟨52, -1, -1, -1, -1, [120], 0, ((endQ k 0 3 : Nat) : Int), 0⟩) rfl
  simp only [Nat.zero_mul, Nat.zero_add] at c0 c1 c2 c3 c4 c5 c6 c7 c8
  have r2' : v4.cell? ⟨v3.heap.size, 2, none⟩ = some (.int .i64 1) := r2
  have hql := endQ_lt (b := 3) (n := 0) hk
  have hyl := (endY_len (b := 3) (n := 0) hk).2
  have l0 := (text_no (b := 3) (k := k) (n := 0) (-1) (.inl (by omega)))
  have l1 := (text_no (b := 3) (k := k) (n := 0) (((endY k 0 3).length : Nat) : Int) (.inr rfl))
  have l2 := (text_0 (b := 3) (n := 0) hk)
  have hfull : textF (endY k 0 3) ((endQ k 0 3 : Nat) : Int) = (⟨#[115, 116, 114, 117, 99, 116, 32, 115]⟩ ++ s1 ++ ⟨#[]⟩ : ByteArray).data.toList := by rw [text_T hk]; simp [ByteArray.data_append, HS1.out, bsL, bhL]
  obtain ⟨NY, hNY⟩ : ∃ NY, (endY k 0 3).length = NY := ⟨_, rfl⟩
  obtain ⟨Q, hQ⟩ : ∃ Q, endQ k 0 3 = Q := ⟨_, rfl⟩
  have hQN : Q < NY := by omega
  have hN30 : NY ≤ 30 := by omega
  have HT5' := HT4.out.below (drW (Below.refl v4.heap.size v4))
  have HC5' := drW HC4.out
  have HTX := HT4; clear HT4 HT3
  rw [hNY] at r1 ⊢
  rw [hQ] at c7
  clear r2
  go_region
  go_wp2
  obtain ⟨wr, hwr⟩ : ∃ wr : World, v4.drew = wr := ⟨_, rfl⟩
  rw [hwr] at HT5' HC5' ⊢
  have HT5 := Lib.hid HT5'; have HC5 := Lib.hid HC5'
  have e0 : ∀ x u, v4.cell? x = some u → wr.cell? x = some u := by intro x u h; rw [← hwr]; exact h
  have k0 := fun d os => cell_regrown (e0 _ _ r0) d os
  have k1 := fun d os => cell_regrown (e0 _ _ r1) d os
  have k2 := fun d os => cell_regrown (e0 _ _ r2') d os
  have k3 := fun d os => cell_regrown (e0 _ _ c7) d os
  have k4 := fun d os => cell_regrown (e0 _ _ hcell) d os
  have HX1 : Hid (∀ d os, Calls Tryz.prog 16 #[.agg #[.slice (some ⟨g, 0, none⟩) 2 cn, .slice ay NY cy, .int .i64 1], .int .i64 ((Q : Nat) : Int)] (Go.Sort.grow (redrawn wr d) os) fun e w' => e = .returned (.string (⟨#[115, 116, 114, 117, 99, 116, 32, 115]⟩ ++ s1 ++ ⟨#[]⟩)) ∧ Below (Go.Sort.grow (redrawn wr d) os).heap.size (Go.Sort.grow (redrawn wr d) os) w') := Lib.hid (by rw [← hNY]; (try rw [← hQ]); exact fun d os => text_b (HT5.out.below (below_regrown wr d os)) hk hn (HEB.out _ (HC5.out.trans ((below_regrown wr d os).mono HC5.out.size))) ((endQ k 0 3 : Nat) : Int) (by omega) hfull (by simp only [ByteArray.size_append]; show 8 + s1.size + 0 ≤ 1000; omega) (wr_len hk))
  have HX2 : Hid (∀ d os, Calls Tryz.prog 16 #[.agg #[.slice (some ⟨g, 0, none⟩) 2 cn, .slice ay NY cy, .int .i64 1], .int .i64 (-1)] (Go.Sort.grow (redrawn wr d) os) fun e w' => e = .returned (.string (⟨#[]⟩)) ∧ Below (Go.Sort.grow (redrawn wr d) os).heap.size (Go.Sort.grow (redrawn wr d) os) w') := Lib.hid (by rw [← hNY]; (try rw [← hQ]); exact fun d os => text_b (HT5.out.below (below_regrown wr d os)) hk hn (HEB.out _ (HC5.out.trans ((below_regrown wr d os).mono HC5.out.size))) (-1) (by omega) l0.1 (by decide) (by rw [l0.2]; decide))
  have HX3 : Hid (∀ d os, Calls Tryz.prog 16 #[.agg #[.slice (some ⟨g, 0, none⟩) 2 cn, .slice ay NY cy, .int .i64 1], .int .i64 ((NY : Nat) : Int)] (Go.Sort.grow (redrawn wr d) os) fun e w' => e = .returned (.string (⟨#[]⟩)) ∧ Below (Go.Sort.grow (redrawn wr d) os).heap.size (Go.Sort.grow (redrawn wr d) os) w') := Lib.hid (by rw [← hNY]; (try rw [← hQ]); exact fun d os => text_b (HT5.out.below (below_regrown wr d os)) hk hn (HEB.out _ (HC5.out.trans ((below_regrown wr d os).mono HC5.out.size))) (((endY k 0 3).length : Nat) : Int) (by omega) l1.1 (by decide) (by rw [l1.2]; decide))
  have HX4 : Hid (∀ d os, Calls Tryz.prog 16 #[.agg #[.slice (some ⟨g, 0, none⟩) 2 cn, .slice ay NY cy, .int .i64 1], .int .i64 0] (Go.Sort.grow (redrawn wr d) os) fun e w' => e = .returned (.string (⟨#[118, 111, 105, 100]⟩)) ∧ Below (Go.Sort.grow (redrawn wr d) os).heap.size (Go.Sort.grow (redrawn wr d) os) w') := Lib.hid (by rw [← hNY]; (try rw [← hQ]); exact fun d os => text_b (HT5.out.below (below_regrown wr d os)) hk hn (HEB.out _ (HC5.out.trans ((below_regrown wr d os).mono HC5.out.size))) 0 (by omega) l2.1 (by decide) (by rw [l2.2]; decide))
  have HX5 : Hid (∀ d os, Calls Tryz.prog 8 #[] (Go.Sort.grow (redrawn wr d) os) fun e w' => e = .returned (.bool true) ∧ Below (Go.Sort.grow (redrawn wr d) os).heap.size (Go.Sort.grow (redrawn wr d) os) w') := Lib.hid fun d os => awake_any _ (HEB.out _ (HC5.out.trans ((below_regrown wr d os).mono HC5.out.size)))
  have q0 : (0 : Int) ≤ (Q : Int) := Int.natCast_nonneg _
  clear HT5' HC5' e0 r0 r1 r2' c0 c1 c2 c3 c4 c5 c6 c7 c8 hcell l0 l1 l2 hfull hNY hQ hwr hql hyl HTX HSS HT5
  refine wp_region_quiet_below (by kernel_rfl) (by kernel_rfl) ?_
  repeat (any_goals (first | go_big_quiet_step ((first | (go_at_call 16; first | with_reducible exact Calls.regrown_of (HX1.out _ _) | with_reducible exact Calls.regrown_of (HX2.out _ _) | with_reducible exact Calls.regrown_of (HX3.out _ _) | with_reducible exact Calls.regrown_of (HX4.out _ _)) | (go_at_call 8; exact Calls.regrown_of (HX5.out _ _)))) | quiet_step ((first | (go_at_call 16; first | with_reducible exact Calls.regrown_of (HX1.out _ _) | with_reducible exact Calls.regrown_of (HX2.out _ _) | with_reducible exact Calls.regrown_of (HX3.out _ _) | with_reducible exact Calls.regrown_of (HX4.out _ _)) | (go_at_call 8; exact Calls.regrown_of (HX5.out _ _))))))
  refine wpQuiet_nil ?_
  intro _ hw'
  obtain ⟨⟨dq, osq⟩, hw''⟩ := hw'
  subst hw''
  have HB4 : Hid (Below w.heap.size w (Go.Sort.grow (redrawn wr dq) osq)) := Lib.hid (HC5.out.trans ((below_regrown wr dq osq).mono HC5.out.size))
  clear k0 k1 k2 k3 k4 HX1 HX2 HX3 HX4 HX5
  generalize Go.Sort.grow (redrawn wr dq) osq = w4 at *
  go_wp2
  go_ret
  exact ⟨rfl, HB4.out⟩
set_option maxRecDepth 100000 in
set_option maxHeartbeats 4000000 in
theorem types_00 {w : World} (a b : Int) (n k : Nat) (ha0 : 0 ≤ a) (ha : a ≤ 255) (hb0 : 0 ≤ b) (hb : b ≤ 255) (hn : n ≤ 1000000) (hn0 : ¬ n = 0) (e1 : a.tmod 4 = ((0 : Nat) : Int)) (e2 : b.tmod 20 = (k : Int)) (hk : k ≤ 19) (henv : EnvT w) :
    Calls Tryz.prog 7 #[.int .u8 a, .int .u8 b, .int .i64 n] w fun e w' => e = .returned (.bool true) ∧ Below w.heap.size w w' := by
  have hsz := henv.lex.sz
  have HE := Lib.hid henv; clear henv
  obtain ⟨s1, ⟨hs1, hz1⟩, R1⟩ := rep_star k hk
  obtain ⟨s3, ⟨hs3, hz3⟩, R3⟩ := itoa_s n hn
  have HR1 := Lib.hid R1; clear R1
  have HR3 := Lib.hid R3; clear R3
  have HS1 := Lib.hid hs1; clear hs1
  have HS3 := Lib.hid hs3; clear hs3
  have HEB : Hid (∀ v, Below w.heap.size w v → EnvT v) := Lib.hid (fun v h => HE.out.below h hsz)
  have p0 : ¬ (n : Int) < 0 := by omega
  have p1 : ¬ (n : Int) > 1000000 := by omega
  have p2 : decide ((n : Int) < 0) = false := by simp
  have p3 : decide ((n : Int) > 1000000) = false := by simp; omega
  have p4 : (0 : Int) < (n : Int) := by omega
  have p5 : decide ((n : Int) > 0) = true := by simpa using p4
  have p6 : decide (0 < n) = true := by simp; omega
  have HSS : Hid ((⟨#[105, 110, 116]⟩ ++ s1 ++ ⟨#[32, 120]⟩ ++ (⟨#[91]⟩ ++ s3 ++ ⟨#[93]⟩) ++ ⟨#[59]⟩ : ByteArray).data.toList = srcT 0 k n) := Lib.hid (by simp [ByteArray.data_append, HS1.out, HS3.out, srcT, bsL, bhL, hn0])
  go_enter Tryz.func7, Tryz.ntmps7
  go_wp2_with (first | ((with_reducible refine (HR1.out _).mono ?_); rintro e v1 ⟨rfl, hb⟩; have HB1 := Lib.hid (((Below.refl w.heap.size w).alloc (Nat.le_refl _) _).trans (hb.mono (by simp))); clear hb) | ((with_reducible refine (HR3.out _ (HEB.out _ HB1.out)).mono ?_); rintro e v2 ⟨rfl, hb⟩; have HB2 := Lib.hid (HB1.out.trans (hb.mono HB1.out.size)); clear hb) | ((with_reducible refine (read_Ty (HEB.out _ HB2.out) hk hn HSS.out).mono ?_); rintro e v3 ⟨vn, vt, rfl, ht, hb⟩; obtain ⟨an, cn, rfl⟩ := row_slice ht.nodes; obtain ⟨ay, cy, rfl⟩ := row_slice ht.types; have HB3 := Lib.hid (HB2.out.trans (hb.mono HB2.out.size)); have HT3 : Hid (TB (v3.alloc (.cells #[.slice an 2 cn, .slice ay (endY k n 0).length cy, .int .i64 1] 26)) v3.heap.size _ (.slice an 2 cn) (.slice ay (endY k n 0).length cy) (treeT 0 k n)) := Lib.hid ⟨ht.below ((Below.refl v3.heap.size v3).alloc (Nat.le_refl _) _), heap_alloc_new _ _⟩; have HC3 := Lib.hid (HB3.out.alloc HB3.out.size (.cells #[.slice an 2 cn, .slice ay (endY k n 0).length cy, .int .i64 1] 26)); clear ht hb; dsimp only [treeT]) | ((with_reducible refine (list_T HT3.out).mono ?_); rintro e v4 ⟨g10, c10, rfl, hg1, hg2, hcell, hb⟩; have HT4 := Lib.hid (HT3.out.below hb); have HC4 := Lib.hid (HC3.out.trans (hb.mono HC3.out.size)); clear hb))
  obtain ⟨g, rfl, hg⟩ := HT4.out.t.nodeForm (by simp [treeT])
  obtain ⟨r0, r1, r2, _⟩ := nv3 HT4.out.b
  have hbt := lt_heap HT4.out.b
  obtain ⟨c0, c1, c2, c3, c4, c5, c6, c7, c8⟩ := HT4.out.t.row (i := 0) (x := ⟨52, -1, -1, -1, -1, [120], 0, ((endQ k n 0 : Nat) : Int), 0⟩) rfl
  simp only [Nat.zero_mul, Nat.zero_add] at c0 c1 c2 c3 c4 c5 c6 c7 c8
  have r2' : v4.cell? ⟨v3.heap.size, 2, none⟩ = some (.int .i64 1) := r2
  have hql := endQ_lt (b := 0) (n := n) hk
  have hyl := (endY_len (b := 0) (n := n) hk).2
  have l0 := (text_no (b := 0) (k := k) (n := n) (-1) (.inl (by omega)))
  have l1 := (text_no (b := 0) (k := k) (n := n) (((endY k n 0).length : Nat) : Int) (.inr rfl))
  have l2 := (text_0 (b := 0) (n := n) hk)
  have hfull : textF (endY k n 0) ((endQ k n 0 : Nat) : Int) = (⟨#[105, 110, 116]⟩ ++ s1 ++ (⟨#[91]⟩ ++ s3 ++ ⟨#[93]⟩) : ByteArray).data.toList := by rw [text_T hk]; simp [ByteArray.data_append, HS1.out, HS3.out, bsL, bhL, hn0]
  obtain ⟨NY, hNY⟩ : ∃ NY, (endY k n 0).length = NY := ⟨_, rfl⟩
  obtain ⟨Q, hQ⟩ : ∃ Q, endQ k n 0 = Q := ⟨_, rfl⟩
  have hQN : Q < NY := by omega
  have hN30 : NY ≤ 30 := by omega
  have HT5' := HT4.out.below (drW (Below.refl v4.heap.size v4))
  have HC5' := drW HC4.out
  have HTX := HT4; clear HT4 HT3
  rw [hNY] at r1 ⊢
  rw [hQ] at c7
  clear r2
  go_region
  go_wp2
  obtain ⟨wr, hwr⟩ : ∃ wr : World, v4.drew = wr := ⟨_, rfl⟩
  rw [hwr] at HT5' HC5' ⊢
  have HT5 := Lib.hid HT5'; have HC5 := Lib.hid HC5'
  have e0 : ∀ x u, v4.cell? x = some u → wr.cell? x = some u := by intro x u h; rw [← hwr]; exact h
  have k0 := fun d os => cell_regrown (e0 _ _ r0) d os
  have k1 := fun d os => cell_regrown (e0 _ _ r1) d os
  have k2 := fun d os => cell_regrown (e0 _ _ r2') d os
  have k3 := fun d os => cell_regrown (e0 _ _ c7) d os
  have k4 := fun d os => cell_regrown (e0 _ _ hcell) d os
  have HX1 : Hid (∀ d os, Calls Tryz.prog 16 #[.agg #[.slice (some ⟨g, 0, none⟩) 2 cn, .slice ay NY cy, .int .i64 1], .int .i64 ((Q : Nat) : Int)] (Go.Sort.grow (redrawn wr d) os) fun e w' => e = .returned (.string (⟨#[105, 110, 116]⟩ ++ s1 ++ (⟨#[91]⟩ ++ s3 ++ ⟨#[93]⟩))) ∧ Below (Go.Sort.grow (redrawn wr d) os).heap.size (Go.Sort.grow (redrawn wr d) os) w') := Lib.hid (by rw [← hNY]; (try rw [← hQ]); exact fun d os => text_b (HT5.out.below (below_regrown wr d os)) hk hn (HEB.out _ (HC5.out.trans ((below_regrown wr d os).mono HC5.out.size))) ((endQ k n 0 : Nat) : Int) (by omega) hfull (by simp only [ByteArray.size_append]; show 3 + s1.size + (1 + s3.size + 1) ≤ 1000; omega) (wr_len hk))
  have HX2 : Hid (∀ d os, Calls Tryz.prog 16 #[.agg #[.slice (some ⟨g, 0, none⟩) 2 cn, .slice ay NY cy, .int .i64 1], .int .i64 (-1)] (Go.Sort.grow (redrawn wr d) os) fun e w' => e = .returned (.string (⟨#[]⟩)) ∧ Below (Go.Sort.grow (redrawn wr d) os).heap.size (Go.Sort.grow (redrawn wr d) os) w') := Lib.hid (by rw [← hNY]; (try rw [← hQ]); exact fun d os => text_b (HT5.out.below (below_regrown wr d os)) hk hn (HEB.out _ (HC5.out.trans ((below_regrown wr d os).mono HC5.out.size))) (-1) (by omega) l0.1 (by decide) (by rw [l0.2]; decide))
  have HX3 : Hid (∀ d os, Calls Tryz.prog 16 #[.agg #[.slice (some ⟨g, 0, none⟩) 2 cn, .slice ay NY cy, .int .i64 1], .int .i64 ((NY : Nat) : Int)] (Go.Sort.grow (redrawn wr d) os) fun e w' => e = .returned (.string (⟨#[]⟩)) ∧ Below (Go.Sort.grow (redrawn wr d) os).heap.size (Go.Sort.grow (redrawn wr d) os) w') := Lib.hid (by rw [← hNY]; (try rw [← hQ]); exact fun d os => text_b (HT5.out.below (below_regrown wr d os)) hk hn (HEB.out _ (HC5.out.trans ((below_regrown wr d os).mono HC5.out.size))) (((endY k n 0).length : Nat) : Int) (by omega) l1.1 (by decide) (by rw [l1.2]; decide))
  have HX4 : Hid (∀ d os, Calls Tryz.prog 16 #[.agg #[.slice (some ⟨g, 0, none⟩) 2 cn, .slice ay NY cy, .int .i64 1], .int .i64 0] (Go.Sort.grow (redrawn wr d) os) fun e w' => e = .returned (.string (⟨#[118, 111, 105, 100]⟩)) ∧ Below (Go.Sort.grow (redrawn wr d) os).heap.size (Go.Sort.grow (redrawn wr d) os) w') := Lib.hid (by rw [← hNY]; (try rw [← hQ]); exact fun d os => text_b (HT5.out.below (below_regrown wr d os)) hk hn (HEB.out _ (HC5.out.trans ((below_regrown wr d os).mono HC5.out.size))) 0 (by omega) l2.1 (by decide) (by rw [l2.2]; decide))
  have HX5 : Hid (∀ d os, Calls Tryz.prog 8 #[] (Go.Sort.grow (redrawn wr d) os) fun e w' => e = .returned (.bool true) ∧ Below (Go.Sort.grow (redrawn wr d) os).heap.size (Go.Sort.grow (redrawn wr d) os) w') := Lib.hid fun d os => awake_any _ (HEB.out _ (HC5.out.trans ((below_regrown wr d os).mono HC5.out.size)))
  have q0 : (0 : Int) ≤ (Q : Int) := Int.natCast_nonneg _
  clear HT5' HC5' e0 r0 r1 r2' c0 c1 c2 c3 c4 c5 c6 c7 c8 hcell l0 l1 l2 hfull hNY hQ hwr hql hyl HTX HSS HT5
  refine wp_region_quiet_below (by kernel_rfl) (by kernel_rfl) ?_
  repeat (any_goals (first | go_big_quiet_step ((first | (go_at_call 16; first | with_reducible exact Calls.regrown_of (HX1.out _ _) | with_reducible exact Calls.regrown_of (HX2.out _ _) | with_reducible exact Calls.regrown_of (HX3.out _ _) | with_reducible exact Calls.regrown_of (HX4.out _ _)) | (go_at_call 8; exact Calls.regrown_of (HX5.out _ _)))) | quiet_step ((first | (go_at_call 16; first | with_reducible exact Calls.regrown_of (HX1.out _ _) | with_reducible exact Calls.regrown_of (HX2.out _ _) | with_reducible exact Calls.regrown_of (HX3.out _ _) | with_reducible exact Calls.regrown_of (HX4.out _ _)) | (go_at_call 8; exact Calls.regrown_of (HX5.out _ _))))))
  refine wpQuiet_nil ?_
  intro _ hw'
  obtain ⟨⟨dq, osq⟩, hw''⟩ := hw'
  subst hw''
  have HB4 : Hid (Below w.heap.size w (Go.Sort.grow (redrawn wr dq) osq)) := Lib.hid (HC5.out.trans ((below_regrown wr dq osq).mono HC5.out.size))
  clear k0 k1 k2 k3 k4 HX1 HX2 HX3 HX4 HX5
  generalize Go.Sort.grow (redrawn wr dq) osq = w4 at *
  go_wp2
  go_ret
  exact ⟨rfl, HB4.out⟩
set_option maxRecDepth 100000 in
set_option maxHeartbeats 4000000 in
theorem types_10 {w : World} (a b : Int) (n k : Nat) (ha0 : 0 ≤ a) (ha : a ≤ 255) (hb0 : 0 ≤ b) (hb : b ≤ 255) (hn : n ≤ 1000000) (hn0 : ¬ n = 0) (e1 : a.tmod 4 = ((1 : Nat) : Int)) (e2 : b.tmod 20 = (k : Int)) (hk : k ≤ 19) (henv : EnvT w) :
    Calls Tryz.prog 7 #[.int .u8 a, .int .u8 b, .int .i64 n] w fun e w' => e = .returned (.bool true) ∧ Below w.heap.size w w' := by
  have hsz := henv.lex.sz
  have HE := Lib.hid henv; clear henv
  obtain ⟨s1, ⟨hs1, hz1⟩, R1⟩ := rep_star k hk
  obtain ⟨s3, ⟨hs3, hz3⟩, R3⟩ := itoa_s n hn
  have HR1 := Lib.hid R1; clear R1
  have HR3 := Lib.hid R3; clear R3
  have HS1 := Lib.hid hs1; clear hs1
  have HS3 := Lib.hid hs3; clear hs3
  have HEB : Hid (∀ v, Below w.heap.size w v → EnvT v) := Lib.hid (fun v h => HE.out.below h hsz)
  have p0 : ¬ (n : Int) < 0 := by omega
  have p1 : ¬ (n : Int) > 1000000 := by omega
  have p2 : decide ((n : Int) < 0) = false := by simp
  have p3 : decide ((n : Int) > 1000000) = false := by simp; omega
  have p4 : (0 : Int) < (n : Int) := by omega
  have p5 : decide ((n : Int) > 0) = true := by simpa using p4
  have p6 : decide (0 < n) = true := by simp; omega
  have HSS : Hid ((⟨#[117, 110, 115, 105, 103, 110, 101, 100]⟩ ++ s1 ++ ⟨#[32, 120]⟩ ++ (⟨#[91]⟩ ++ s3 ++ ⟨#[93]⟩) ++ ⟨#[59]⟩ : ByteArray).data.toList = srcT 1 k n) := Lib.hid (by simp [ByteArray.data_append, HS1.out, HS3.out, srcT, bsL, bhL, hn0])
  go_enter Tryz.func7, Tryz.ntmps7
  go_wp2_with (first | ((with_reducible refine (HR1.out _).mono ?_); rintro e v1 ⟨rfl, hb⟩; have HB1 := Lib.hid (((Below.refl w.heap.size w).alloc (Nat.le_refl _) _).trans (hb.mono (by simp))); clear hb) | ((with_reducible refine (HR3.out _ (HEB.out _ HB1.out)).mono ?_); rintro e v2 ⟨rfl, hb⟩; have HB2 := Lib.hid (HB1.out.trans (hb.mono HB1.out.size)); clear hb) | ((with_reducible refine (read_Ty (HEB.out _ HB2.out) hk hn HSS.out).mono ?_); rintro e v3 ⟨vn, vt, rfl, ht, hb⟩; obtain ⟨an, cn, rfl⟩ := row_slice ht.nodes; obtain ⟨ay, cy, rfl⟩ := row_slice ht.types; have HB3 := Lib.hid (HB2.out.trans (hb.mono HB2.out.size)); have HT3 : Hid (TB (v3.alloc (.cells #[.slice an 2 cn, .slice ay (endY k n 1).length cy, .int .i64 1] 26)) v3.heap.size _ (.slice an 2 cn) (.slice ay (endY k n 1).length cy) (treeT 1 k n)) := Lib.hid ⟨ht.below ((Below.refl v3.heap.size v3).alloc (Nat.le_refl _) _), heap_alloc_new _ _⟩; have HC3 := Lib.hid (HB3.out.alloc HB3.out.size (.cells #[.slice an 2 cn, .slice ay (endY k n 1).length cy, .int .i64 1] 26)); clear ht hb; dsimp only [treeT]) | ((with_reducible refine (list_T HT3.out).mono ?_); rintro e v4 ⟨g10, c10, rfl, hg1, hg2, hcell, hb⟩; have HT4 := Lib.hid (HT3.out.below hb); have HC4 := Lib.hid (HC3.out.trans (hb.mono HC3.out.size)); clear hb))
  obtain ⟨g, rfl, hg⟩ := HT4.out.t.nodeForm (by simp [treeT])
  obtain ⟨r0, r1, r2, _⟩ := nv3 HT4.out.b
  have hbt := lt_heap HT4.out.b
  obtain ⟨c0, c1, c2, c3, c4, c5, c6, c7, c8⟩ := HT4.out.t.row (i := 0) (x := ⟨52, -1, -1, -1, -1, [120], 0, ((endQ k n 1 : Nat) : Int), 0⟩) rfl
  simp only [Nat.zero_mul, Nat.zero_add] at c0 c1 c2 c3 c4 c5 c6 c7 c8
  have r2' : v4.cell? ⟨v3.heap.size, 2, none⟩ = some (.int .i64 1) := r2
  have hql := endQ_lt (b := 1) (n := n) hk
  have hyl := (endY_len (b := 1) (n := n) hk).2
  have l0 := (text_no (b := 1) (k := k) (n := n) (-1) (.inl (by omega)))
  have l1 := (text_no (b := 1) (k := k) (n := n) (((endY k n 1).length : Nat) : Int) (.inr rfl))
  have l2 := (text_0 (b := 1) (n := n) hk)
  have hfull : textF (endY k n 1) ((endQ k n 1 : Nat) : Int) = (⟨#[117, 110, 115, 105, 103, 110, 101, 100]⟩ ++ s1 ++ (⟨#[91]⟩ ++ s3 ++ ⟨#[93]⟩) : ByteArray).data.toList := by rw [text_T hk]; simp [ByteArray.data_append, HS1.out, HS3.out, bsL, bhL, hn0]
  obtain ⟨NY, hNY⟩ : ∃ NY, (endY k n 1).length = NY := ⟨_, rfl⟩
  obtain ⟨Q, hQ⟩ : ∃ Q, endQ k n 1 = Q := ⟨_, rfl⟩
  have hQN : Q < NY := by omega
  have hN30 : NY ≤ 30 := by omega
  have HT5' := HT4.out.below (drW (Below.refl v4.heap.size v4))
  have HC5' := drW HC4.out
  have HTX := HT4; clear HT4 HT3
  rw [hNY] at r1 ⊢
  rw [hQ] at c7
  clear r2
  go_region
  go_wp2
  obtain ⟨wr, hwr⟩ : ∃ wr : World, v4.drew = wr := ⟨_, rfl⟩
  rw [hwr] at HT5' HC5' ⊢
  have HT5 := Lib.hid HT5'; have HC5 := Lib.hid HC5'
  have e0 : ∀ x u, v4.cell? x = some u → wr.cell? x = some u := by intro x u h; rw [← hwr]; exact h
  have k0 := fun d os => cell_regrown (e0 _ _ r0) d os
  have k1 := fun d os => cell_regrown (e0 _ _ r1) d os
  have k2 := fun d os => cell_regrown (e0 _ _ r2') d os
  have k3 := fun d os => cell_regrown (e0 _ _ c7) d os
  have k4 := fun d os => cell_regrown (e0 _ _ hcell) d os
  have HX1 : Hid (∀ d os, Calls Tryz.prog 16 #[.agg #[.slice (some ⟨g, 0, none⟩) 2 cn, .slice ay NY cy, .int .i64 1], .int .i64 ((Q : Nat) : Int)] (Go.Sort.grow (redrawn wr d) os) fun e w' => e = .returned (.string (⟨#[117, 110, 115, 105, 103, 110, 101, 100]⟩ ++ s1 ++ (⟨#[91]⟩ ++ s3 ++ ⟨#[93]⟩))) ∧ Below (Go.Sort.grow (redrawn wr d) os).heap.size (Go.Sort.grow (redrawn wr d) os) w') := Lib.hid (by rw [← hNY]; (try rw [← hQ]); exact fun d os => text_b (HT5.out.below (below_regrown wr d os)) hk hn (HEB.out _ (HC5.out.trans ((below_regrown wr d os).mono HC5.out.size))) ((endQ k n 1 : Nat) : Int) (by omega) hfull (by simp only [ByteArray.size_append]; show 8 + s1.size + (1 + s3.size + 1) ≤ 1000; omega) (wr_len hk))
  have HX2 : Hid (∀ d os, Calls Tryz.prog 16 #[.agg #[.slice (some ⟨g, 0, none⟩) 2 cn, .slice ay NY cy, .int .i64 1], .int .i64 (-1)] (Go.Sort.grow (redrawn wr d) os) fun e w' => e = .returned (.string (⟨#[]⟩)) ∧ Below (Go.Sort.grow (redrawn wr d) os).heap.size (Go.Sort.grow (redrawn wr d) os) w') := Lib.hid (by rw [← hNY]; (try rw [← hQ]); exact fun d os => text_b (HT5.out.below (below_regrown wr d os)) hk hn (HEB.out _ (HC5.out.trans ((below_regrown wr d os).mono HC5.out.size))) (-1) (by omega) l0.1 (by decide) (by rw [l0.2]; decide))
  have HX3 : Hid (∀ d os, Calls Tryz.prog 16 #[.agg #[.slice (some ⟨g, 0, none⟩) 2 cn, .slice ay NY cy, .int .i64 1], .int .i64 ((NY : Nat) : Int)] (Go.Sort.grow (redrawn wr d) os) fun e w' => e = .returned (.string (⟨#[]⟩)) ∧ Below (Go.Sort.grow (redrawn wr d) os).heap.size (Go.Sort.grow (redrawn wr d) os) w') := Lib.hid (by rw [← hNY]; (try rw [← hQ]); exact fun d os => text_b (HT5.out.below (below_regrown wr d os)) hk hn (HEB.out _ (HC5.out.trans ((below_regrown wr d os).mono HC5.out.size))) (((endY k n 1).length : Nat) : Int) (by omega) l1.1 (by decide) (by rw [l1.2]; decide))
  have HX4 : Hid (∀ d os, Calls Tryz.prog 16 #[.agg #[.slice (some ⟨g, 0, none⟩) 2 cn, .slice ay NY cy, .int .i64 1], .int .i64 0] (Go.Sort.grow (redrawn wr d) os) fun e w' => e = .returned (.string (⟨#[118, 111, 105, 100]⟩)) ∧ Below (Go.Sort.grow (redrawn wr d) os).heap.size (Go.Sort.grow (redrawn wr d) os) w') := Lib.hid (by rw [← hNY]; (try rw [← hQ]); exact fun d os => text_b (HT5.out.below (below_regrown wr d os)) hk hn (HEB.out _ (HC5.out.trans ((below_regrown wr d os).mono HC5.out.size))) 0 (by omega) l2.1 (by decide) (by rw [l2.2]; decide))
  have HX5 : Hid (∀ d os, Calls Tryz.prog 8 #[] (Go.Sort.grow (redrawn wr d) os) fun e w' => e = .returned (.bool true) ∧ Below (Go.Sort.grow (redrawn wr d) os).heap.size (Go.Sort.grow (redrawn wr d) os) w') := Lib.hid fun d os => awake_any _ (HEB.out _ (HC5.out.trans ((below_regrown wr d os).mono HC5.out.size)))
  have q0 : (0 : Int) ≤ (Q : Int) := Int.natCast_nonneg _
  clear HT5' HC5' e0 r0 r1 r2' c0 c1 c2 c3 c4 c5 c6 c7 c8 hcell l0 l1 l2 hfull hNY hQ hwr hql hyl HTX HSS HT5
  refine wp_region_quiet_below (by kernel_rfl) (by kernel_rfl) ?_
  repeat (any_goals (first | go_big_quiet_step ((first | (go_at_call 16; first | with_reducible exact Calls.regrown_of (HX1.out _ _) | with_reducible exact Calls.regrown_of (HX2.out _ _) | with_reducible exact Calls.regrown_of (HX3.out _ _) | with_reducible exact Calls.regrown_of (HX4.out _ _)) | (go_at_call 8; exact Calls.regrown_of (HX5.out _ _)))) | quiet_step ((first | (go_at_call 16; first | with_reducible exact Calls.regrown_of (HX1.out _ _) | with_reducible exact Calls.regrown_of (HX2.out _ _) | with_reducible exact Calls.regrown_of (HX3.out _ _) | with_reducible exact Calls.regrown_of (HX4.out _ _)) | (go_at_call 8; exact Calls.regrown_of (HX5.out _ _))))))
  refine wpQuiet_nil ?_
  intro _ hw'
  obtain ⟨⟨dq, osq⟩, hw''⟩ := hw'
  subst hw''
  have HB4 : Hid (Below w.heap.size w (Go.Sort.grow (redrawn wr dq) osq)) := Lib.hid (HC5.out.trans ((below_regrown wr dq osq).mono HC5.out.size))
  clear k0 k1 k2 k3 k4 HX1 HX2 HX3 HX4 HX5
  generalize Go.Sort.grow (redrawn wr dq) osq = w4 at *
  go_wp2
  go_ret
  exact ⟨rfl, HB4.out⟩
set_option maxRecDepth 100000 in
set_option maxHeartbeats 4000000 in
theorem types_20 {w : World} (a b : Int) (n k : Nat) (ha0 : 0 ≤ a) (ha : a ≤ 255) (hb0 : 0 ≤ b) (hb : b ≤ 255) (hn : n ≤ 1000000) (hn0 : ¬ n = 0) (e1 : a.tmod 4 = ((2 : Nat) : Int)) (e2 : b.tmod 20 = (k : Int)) (hk : k ≤ 19) (henv : EnvT w) :
    Calls Tryz.prog 7 #[.int .u8 a, .int .u8 b, .int .i64 n] w fun e w' => e = .returned (.bool true) ∧ Below w.heap.size w w' := by
  have hsz := henv.lex.sz
  have HE := Lib.hid henv; clear henv
  obtain ⟨s1, ⟨hs1, hz1⟩, R1⟩ := rep_star k hk
  obtain ⟨s3, ⟨hs3, hz3⟩, R3⟩ := itoa_s n hn
  have HR1 := Lib.hid R1; clear R1
  have HR3 := Lib.hid R3; clear R3
  have HS1 := Lib.hid hs1; clear hs1
  have HS3 := Lib.hid hs3; clear hs3
  have HEB : Hid (∀ v, Below w.heap.size w v → EnvT v) := Lib.hid (fun v h => HE.out.below h hsz)
  have p0 : ¬ (n : Int) < 0 := by omega
  have p1 : ¬ (n : Int) > 1000000 := by omega
  have p2 : decide ((n : Int) < 0) = false := by simp
  have p3 : decide ((n : Int) > 1000000) = false := by simp; omega
  have p4 : (0 : Int) < (n : Int) := by omega
  have p5 : decide ((n : Int) > 0) = true := by simpa using p4
  have p6 : decide (0 < n) = true := by simp; omega
  have HSS : Hid ((⟨#[99, 104, 97, 114]⟩ ++ s1 ++ ⟨#[32, 120]⟩ ++ (⟨#[91]⟩ ++ s3 ++ ⟨#[93]⟩) ++ ⟨#[59]⟩ : ByteArray).data.toList = srcT 2 k n) := Lib.hid (by simp [ByteArray.data_append, HS1.out, HS3.out, srcT, bsL, bhL, hn0])
  go_enter Tryz.func7, Tryz.ntmps7
  go_wp2_with (first | ((with_reducible refine (HR1.out _).mono ?_); rintro e v1 ⟨rfl, hb⟩; have HB1 := Lib.hid (((Below.refl w.heap.size w).alloc (Nat.le_refl _) _).trans (hb.mono (by simp))); clear hb) | ((with_reducible refine (HR3.out _ (HEB.out _ HB1.out)).mono ?_); rintro e v2 ⟨rfl, hb⟩; have HB2 := Lib.hid (HB1.out.trans (hb.mono HB1.out.size)); clear hb) | ((with_reducible refine (read_Ty (HEB.out _ HB2.out) hk hn HSS.out).mono ?_); rintro e v3 ⟨vn, vt, rfl, ht, hb⟩; obtain ⟨an, cn, rfl⟩ := row_slice ht.nodes; obtain ⟨ay, cy, rfl⟩ := row_slice ht.types; have HB3 := Lib.hid (HB2.out.trans (hb.mono HB2.out.size)); have HT3 : Hid (TB (v3.alloc (.cells #[.slice an 2 cn, .slice ay (endY k n 2).length cy, .int .i64 1] 26)) v3.heap.size _ (.slice an 2 cn) (.slice ay (endY k n 2).length cy) (treeT 2 k n)) := Lib.hid ⟨ht.below ((Below.refl v3.heap.size v3).alloc (Nat.le_refl _) _), heap_alloc_new _ _⟩; have HC3 := Lib.hid (HB3.out.alloc HB3.out.size (.cells #[.slice an 2 cn, .slice ay (endY k n 2).length cy, .int .i64 1] 26)); clear ht hb; dsimp only [treeT]) | ((with_reducible refine (list_T HT3.out).mono ?_); rintro e v4 ⟨g10, c10, rfl, hg1, hg2, hcell, hb⟩; have HT4 := Lib.hid (HT3.out.below hb); have HC4 := Lib.hid (HC3.out.trans (hb.mono HC3.out.size)); clear hb))
  obtain ⟨g, rfl, hg⟩ := HT4.out.t.nodeForm (by simp [treeT])
  obtain ⟨r0, r1, r2, _⟩ := nv3 HT4.out.b
  have hbt := lt_heap HT4.out.b
  obtain ⟨c0, c1, c2, c3, c4, c5, c6, c7, c8⟩ := HT4.out.t.row (i := 0) (x := ⟨52, -1, -1, -1, -1, [120], 0, ((endQ k n 2 : Nat) : Int), 0⟩) rfl
  simp only [Nat.zero_mul, Nat.zero_add] at c0 c1 c2 c3 c4 c5 c6 c7 c8
  have r2' : v4.cell? ⟨v3.heap.size, 2, none⟩ = some (.int .i64 1) := r2
  have hql := endQ_lt (b := 2) (n := n) hk
  have hyl := (endY_len (b := 2) (n := n) hk).2
  have l0 := (text_no (b := 2) (k := k) (n := n) (-1) (.inl (by omega)))
  have l1 := (text_no (b := 2) (k := k) (n := n) (((endY k n 2).length : Nat) : Int) (.inr rfl))
  have l2 := (text_0 (b := 2) (n := n) hk)
  have hfull : textF (endY k n 2) ((endQ k n 2 : Nat) : Int) = (⟨#[99, 104, 97, 114]⟩ ++ s1 ++ (⟨#[91]⟩ ++ s3 ++ ⟨#[93]⟩) : ByteArray).data.toList := by rw [text_T hk]; simp [ByteArray.data_append, HS1.out, HS3.out, bsL, bhL, hn0]
  obtain ⟨NY, hNY⟩ : ∃ NY, (endY k n 2).length = NY := ⟨_, rfl⟩
  obtain ⟨Q, hQ⟩ : ∃ Q, endQ k n 2 = Q := ⟨_, rfl⟩
  have hQN : Q < NY := by omega
  have hN30 : NY ≤ 30 := by omega
  have HT5' := HT4.out.below (drW (Below.refl v4.heap.size v4))
  have HC5' := drW HC4.out
  have HTX := HT4; clear HT4 HT3
  rw [hNY] at r1 ⊢
  rw [hQ] at c7
  clear r2
  go_region
  go_wp2
  obtain ⟨wr, hwr⟩ : ∃ wr : World, v4.drew = wr := ⟨_, rfl⟩
  rw [hwr] at HT5' HC5' ⊢
  have HT5 := Lib.hid HT5'; have HC5 := Lib.hid HC5'
  have e0 : ∀ x u, v4.cell? x = some u → wr.cell? x = some u := by intro x u h; rw [← hwr]; exact h
  have k0 := fun d os => cell_regrown (e0 _ _ r0) d os
  have k1 := fun d os => cell_regrown (e0 _ _ r1) d os
  have k2 := fun d os => cell_regrown (e0 _ _ r2') d os
  have k3 := fun d os => cell_regrown (e0 _ _ c7) d os
  have k4 := fun d os => cell_regrown (e0 _ _ hcell) d os
  have HX1 : Hid (∀ d os, Calls Tryz.prog 16 #[.agg #[.slice (some ⟨g, 0, none⟩) 2 cn, .slice ay NY cy, .int .i64 1], .int .i64 ((Q : Nat) : Int)] (Go.Sort.grow (redrawn wr d) os) fun e w' => e = .returned (.string (⟨#[99, 104, 97, 114]⟩ ++ s1 ++ (⟨#[91]⟩ ++ s3 ++ ⟨#[93]⟩))) ∧ Below (Go.Sort.grow (redrawn wr d) os).heap.size (Go.Sort.grow (redrawn wr d) os) w') := Lib.hid (by rw [← hNY]; (try rw [← hQ]); exact fun d os => text_b (HT5.out.below (below_regrown wr d os)) hk hn (HEB.out _ (HC5.out.trans ((below_regrown wr d os).mono HC5.out.size))) ((endQ k n 2 : Nat) : Int) (by omega) hfull (by simp only [ByteArray.size_append]; show 4 + s1.size + (1 + s3.size + 1) ≤ 1000; omega) (wr_len hk))
  have HX2 : Hid (∀ d os, Calls Tryz.prog 16 #[.agg #[.slice (some ⟨g, 0, none⟩) 2 cn, .slice ay NY cy, .int .i64 1], .int .i64 (-1)] (Go.Sort.grow (redrawn wr d) os) fun e w' => e = .returned (.string (⟨#[]⟩)) ∧ Below (Go.Sort.grow (redrawn wr d) os).heap.size (Go.Sort.grow (redrawn wr d) os) w') := Lib.hid (by rw [← hNY]; (try rw [← hQ]); exact fun d os => text_b (HT5.out.below (below_regrown wr d os)) hk hn (HEB.out _ (HC5.out.trans ((below_regrown wr d os).mono HC5.out.size))) (-1) (by omega) l0.1 (by decide) (by rw [l0.2]; decide))
  have HX3 : Hid (∀ d os, Calls Tryz.prog 16 #[.agg #[.slice (some ⟨g, 0, none⟩) 2 cn, .slice ay NY cy, .int .i64 1], .int .i64 ((NY : Nat) : Int)] (Go.Sort.grow (redrawn wr d) os) fun e w' => e = .returned (.string (⟨#[]⟩)) ∧ Below (Go.Sort.grow (redrawn wr d) os).heap.size (Go.Sort.grow (redrawn wr d) os) w') := Lib.hid (by rw [← hNY]; (try rw [← hQ]); exact fun d os => text_b (HT5.out.below (below_regrown wr d os)) hk hn (HEB.out _ (HC5.out.trans ((below_regrown wr d os).mono HC5.out.size))) (((endY k n 2).length : Nat) : Int) (by omega) l1.1 (by decide) (by rw [l1.2]; decide))
  have HX4 : Hid (∀ d os, Calls Tryz.prog 16 #[.agg #[.slice (some ⟨g, 0, none⟩) 2 cn, .slice ay NY cy, .int .i64 1], .int .i64 0] (Go.Sort.grow (redrawn wr d) os) fun e w' => e = .returned (.string (⟨#[118, 111, 105, 100]⟩)) ∧ Below (Go.Sort.grow (redrawn wr d) os).heap.size (Go.Sort.grow (redrawn wr d) os) w') := Lib.hid (by rw [← hNY]; (try rw [← hQ]); exact fun d os => text_b (HT5.out.below (below_regrown wr d os)) hk hn (HEB.out _ (HC5.out.trans ((below_regrown wr d os).mono HC5.out.size))) 0 (by omega) l2.1 (by decide) (by rw [l2.2]; decide))
  have HX5 : Hid (∀ d os, Calls Tryz.prog 8 #[] (Go.Sort.grow (redrawn wr d) os) fun e w' => e = .returned (.bool true) ∧ Below (Go.Sort.grow (redrawn wr d) os).heap.size (Go.Sort.grow (redrawn wr d) os) w') := Lib.hid fun d os => awake_any _ (HEB.out _ (HC5.out.trans ((below_regrown wr d os).mono HC5.out.size)))
  have q0 : (0 : Int) ≤ (Q : Int) := Int.natCast_nonneg _
  clear HT5' HC5' e0 r0 r1 r2' c0 c1 c2 c3 c4 c5 c6 c7 c8 hcell l0 l1 l2 hfull hNY hQ hwr hql hyl HTX HSS HT5
  refine wp_region_quiet_below (by kernel_rfl) (by kernel_rfl) ?_
  repeat (any_goals (first | go_big_quiet_step ((first | (go_at_call 16; first | with_reducible exact Calls.regrown_of (HX1.out _ _) | with_reducible exact Calls.regrown_of (HX2.out _ _) | with_reducible exact Calls.regrown_of (HX3.out _ _) | with_reducible exact Calls.regrown_of (HX4.out _ _)) | (go_at_call 8; exact Calls.regrown_of (HX5.out _ _)))) | quiet_step ((first | (go_at_call 16; first | with_reducible exact Calls.regrown_of (HX1.out _ _) | with_reducible exact Calls.regrown_of (HX2.out _ _) | with_reducible exact Calls.regrown_of (HX3.out _ _) | with_reducible exact Calls.regrown_of (HX4.out _ _)) | (go_at_call 8; exact Calls.regrown_of (HX5.out _ _))))))
  refine wpQuiet_nil ?_
  intro _ hw'
  obtain ⟨⟨dq, osq⟩, hw''⟩ := hw'
  subst hw''
  have HB4 : Hid (Below w.heap.size w (Go.Sort.grow (redrawn wr dq) osq)) := Lib.hid (HC5.out.trans ((below_regrown wr dq osq).mono HC5.out.size))
  clear k0 k1 k2 k3 k4 HX1 HX2 HX3 HX4 HX5
  generalize Go.Sort.grow (redrawn wr dq) osq = w4 at *
  go_wp2
  go_ret
  exact ⟨rfl, HB4.out⟩
set_option maxRecDepth 100000 in
set_option maxHeartbeats 4000000 in
theorem types_30 {w : World} (a b : Int) (n k : Nat) (ha0 : 0 ≤ a) (ha : a ≤ 255) (hb0 : 0 ≤ b) (hb : b ≤ 255) (hn : n ≤ 1000000) (hn0 : ¬ n = 0) (e1 : a.tmod 4 = ((3 : Nat) : Int)) (e2 : b.tmod 20 = (k : Int)) (hk : k ≤ 19) (henv : EnvT w) :
    Calls Tryz.prog 7 #[.int .u8 a, .int .u8 b, .int .i64 n] w fun e w' => e = .returned (.bool true) ∧ Below w.heap.size w w' := by
  have hsz := henv.lex.sz
  have HE := Lib.hid henv; clear henv
  obtain ⟨s1, ⟨hs1, hz1⟩, R1⟩ := rep_star k hk
  obtain ⟨s3, ⟨hs3, hz3⟩, R3⟩ := itoa_s n hn
  have HR1 := Lib.hid R1; clear R1
  have HR3 := Lib.hid R3; clear R3
  have HS1 := Lib.hid hs1; clear hs1
  have HS3 := Lib.hid hs3; clear hs3
  have HEB : Hid (∀ v, Below w.heap.size w v → EnvT v) := Lib.hid (fun v h => HE.out.below h hsz)
  have p0 : ¬ (n : Int) < 0 := by omega
  have p1 : ¬ (n : Int) > 1000000 := by omega
  have p2 : decide ((n : Int) < 0) = false := by simp
  have p3 : decide ((n : Int) > 1000000) = false := by simp; omega
  have p4 : (0 : Int) < (n : Int) := by omega
  have p5 : decide ((n : Int) > 0) = true := by simpa using p4
  have p6 : decide (0 < n) = true := by simp; omega
  have HSS : Hid ((⟨#[115, 116, 114, 117, 99, 116, 32, 115]⟩ ++ s1 ++ ⟨#[32, 120]⟩ ++ (⟨#[91]⟩ ++ s3 ++ ⟨#[93]⟩) ++ ⟨#[59]⟩ : ByteArray).data.toList = srcT 3 k n) := Lib.hid (by simp [ByteArray.data_append, HS1.out, HS3.out, srcT, bsL, bhL, hn0])
  go_enter Tryz.func7, Tryz.ntmps7
  go_wp2_with (first | ((with_reducible refine (HR1.out _).mono ?_); rintro e v1 ⟨rfl, hb⟩; have HB1 := Lib.hid (((Below.refl w.heap.size w).alloc (Nat.le_refl _) _).trans (hb.mono (by simp))); clear hb) | ((with_reducible refine (HR3.out _ (HEB.out _ HB1.out)).mono ?_); rintro e v2 ⟨rfl, hb⟩; have HB2 := Lib.hid (HB1.out.trans (hb.mono HB1.out.size)); clear hb) | ((with_reducible refine (read_Ty (HEB.out _ HB2.out) hk hn HSS.out).mono ?_); rintro e v3 ⟨vn, vt, rfl, ht, hb⟩; obtain ⟨an, cn, rfl⟩ := row_slice ht.nodes; obtain ⟨ay, cy, rfl⟩ := row_slice ht.types; have HB3 := Lib.hid (HB2.out.trans (hb.mono HB2.out.size)); have HT3 : Hid (TB (v3.alloc (.cells #[.slice an 2 cn, .slice ay (endY k n 3).length cy, .int .i64 1] 26)) v3.heap.size _ (.slice an 2 cn) (.slice ay (endY k n 3).length cy) (treeT 3 k n)) := Lib.hid ⟨ht.below ((Below.refl v3.heap.size v3).alloc (Nat.le_refl _) _), heap_alloc_new _ _⟩; have HC3 := Lib.hid (HB3.out.alloc HB3.out.size (.cells #[.slice an 2 cn, .slice ay (endY k n 3).length cy, .int .i64 1] 26)); clear ht hb; dsimp only [treeT]) | ((with_reducible refine (list_T HT3.out).mono ?_); rintro e v4 ⟨g10, c10, rfl, hg1, hg2, hcell, hb⟩; have HT4 := Lib.hid (HT3.out.below hb); have HC4 := Lib.hid (HC3.out.trans (hb.mono HC3.out.size)); clear hb))
  obtain ⟨g, rfl, hg⟩ := HT4.out.t.nodeForm (by simp [treeT])
  obtain ⟨r0, r1, r2, _⟩ := nv3 HT4.out.b
  have hbt := lt_heap HT4.out.b
  obtain ⟨c0, c1, c2, c3, c4, c5, c6, c7, c8⟩ := HT4.out.t.row (i := 0) (x := ⟨52, -1, -1, -1, -1, [120], 0, ((endQ k n 3 : Nat) : Int), 0⟩) rfl
  simp only [Nat.zero_mul, Nat.zero_add] at c0 c1 c2 c3 c4 c5 c6 c7 c8
  have r2' : v4.cell? ⟨v3.heap.size, 2, none⟩ = some (.int .i64 1) := r2
  have hql := endQ_lt (b := 3) (n := n) hk
  have hyl := (endY_len (b := 3) (n := n) hk).2
  have l0 := (text_no (b := 3) (k := k) (n := n) (-1) (.inl (by omega)))
  have l1 := (text_no (b := 3) (k := k) (n := n) (((endY k n 3).length : Nat) : Int) (.inr rfl))
  have l2 := (text_0 (b := 3) (n := n) hk)
  have hfull : textF (endY k n 3) ((endQ k n 3 : Nat) : Int) = (⟨#[115, 116, 114, 117, 99, 116, 32, 115]⟩ ++ s1 ++ (⟨#[91]⟩ ++ s3 ++ ⟨#[93]⟩) : ByteArray).data.toList := by rw [text_T hk]; simp [ByteArray.data_append, HS1.out, HS3.out, bsL, bhL, hn0]
  obtain ⟨NY, hNY⟩ : ∃ NY, (endY k n 3).length = NY := ⟨_, rfl⟩
  obtain ⟨Q, hQ⟩ : ∃ Q, endQ k n 3 = Q := ⟨_, rfl⟩
  have hQN : Q < NY := by omega
  have hN30 : NY ≤ 30 := by omega
  have HT5' := HT4.out.below (drW (Below.refl v4.heap.size v4))
  have HC5' := drW HC4.out
  have HTX := HT4; clear HT4 HT3
  rw [hNY] at r1 ⊢
  rw [hQ] at c7
  clear r2
  go_region
  go_wp2
  obtain ⟨wr, hwr⟩ : ∃ wr : World, v4.drew = wr := ⟨_, rfl⟩
  rw [hwr] at HT5' HC5' ⊢
  have HT5 := Lib.hid HT5'; have HC5 := Lib.hid HC5'
  have e0 : ∀ x u, v4.cell? x = some u → wr.cell? x = some u := by intro x u h; rw [← hwr]; exact h
  have k0 := fun d os => cell_regrown (e0 _ _ r0) d os
  have k1 := fun d os => cell_regrown (e0 _ _ r1) d os
  have k2 := fun d os => cell_regrown (e0 _ _ r2') d os
  have k3 := fun d os => cell_regrown (e0 _ _ c7) d os
  have k4 := fun d os => cell_regrown (e0 _ _ hcell) d os
  have HX1 : Hid (∀ d os, Calls Tryz.prog 16 #[.agg #[.slice (some ⟨g, 0, none⟩) 2 cn, .slice ay NY cy, .int .i64 1], .int .i64 ((Q : Nat) : Int)] (Go.Sort.grow (redrawn wr d) os) fun e w' => e = .returned (.string (⟨#[115, 116, 114, 117, 99, 116, 32, 115]⟩ ++ s1 ++ (⟨#[91]⟩ ++ s3 ++ ⟨#[93]⟩))) ∧ Below (Go.Sort.grow (redrawn wr d) os).heap.size (Go.Sort.grow (redrawn wr d) os) w') := Lib.hid (by rw [← hNY]; (try rw [← hQ]); exact fun d os => text_b (HT5.out.below (below_regrown wr d os)) hk hn (HEB.out _ (HC5.out.trans ((below_regrown wr d os).mono HC5.out.size))) ((endQ k n 3 : Nat) : Int) (by omega) hfull (by simp only [ByteArray.size_append]; show 8 + s1.size + (1 + s3.size + 1) ≤ 1000; omega) (wr_len hk))
  have HX2 : Hid (∀ d os, Calls Tryz.prog 16 #[.agg #[.slice (some ⟨g, 0, none⟩) 2 cn, .slice ay NY cy, .int .i64 1], .int .i64 (-1)] (Go.Sort.grow (redrawn wr d) os) fun e w' => e = .returned (.string (⟨#[]⟩)) ∧ Below (Go.Sort.grow (redrawn wr d) os).heap.size (Go.Sort.grow (redrawn wr d) os) w') := Lib.hid (by rw [← hNY]; (try rw [← hQ]); exact fun d os => text_b (HT5.out.below (below_regrown wr d os)) hk hn (HEB.out _ (HC5.out.trans ((below_regrown wr d os).mono HC5.out.size))) (-1) (by omega) l0.1 (by decide) (by rw [l0.2]; decide))
  have HX3 : Hid (∀ d os, Calls Tryz.prog 16 #[.agg #[.slice (some ⟨g, 0, none⟩) 2 cn, .slice ay NY cy, .int .i64 1], .int .i64 ((NY : Nat) : Int)] (Go.Sort.grow (redrawn wr d) os) fun e w' => e = .returned (.string (⟨#[]⟩)) ∧ Below (Go.Sort.grow (redrawn wr d) os).heap.size (Go.Sort.grow (redrawn wr d) os) w') := Lib.hid (by rw [← hNY]; (try rw [← hQ]); exact fun d os => text_b (HT5.out.below (below_regrown wr d os)) hk hn (HEB.out _ (HC5.out.trans ((below_regrown wr d os).mono HC5.out.size))) (((endY k n 3).length : Nat) : Int) (by omega) l1.1 (by decide) (by rw [l1.2]; decide))
  have HX4 : Hid (∀ d os, Calls Tryz.prog 16 #[.agg #[.slice (some ⟨g, 0, none⟩) 2 cn, .slice ay NY cy, .int .i64 1], .int .i64 0] (Go.Sort.grow (redrawn wr d) os) fun e w' => e = .returned (.string (⟨#[118, 111, 105, 100]⟩)) ∧ Below (Go.Sort.grow (redrawn wr d) os).heap.size (Go.Sort.grow (redrawn wr d) os) w') := Lib.hid (by rw [← hNY]; (try rw [← hQ]); exact fun d os => text_b (HT5.out.below (below_regrown wr d os)) hk hn (HEB.out _ (HC5.out.trans ((below_regrown wr d os).mono HC5.out.size))) 0 (by omega) l2.1 (by decide) (by rw [l2.2]; decide))
  have HX5 : Hid (∀ d os, Calls Tryz.prog 8 #[] (Go.Sort.grow (redrawn wr d) os) fun e w' => e = .returned (.bool true) ∧ Below (Go.Sort.grow (redrawn wr d) os).heap.size (Go.Sort.grow (redrawn wr d) os) w') := Lib.hid fun d os => awake_any _ (HEB.out _ (HC5.out.trans ((below_regrown wr d os).mono HC5.out.size)))
  have q0 : (0 : Int) ≤ (Q : Int) := Int.natCast_nonneg _
  clear HT5' HC5' e0 r0 r1 r2' c0 c1 c2 c3 c4 c5 c6 c7 c8 hcell l0 l1 l2 hfull hNY hQ hwr hql hyl HTX HSS HT5
  refine wp_region_quiet_below (by kernel_rfl) (by kernel_rfl) ?_
  repeat (any_goals (first | go_big_quiet_step ((first | (go_at_call 16; first | with_reducible exact Calls.regrown_of (HX1.out _ _) | with_reducible exact Calls.regrown_of (HX2.out _ _) | with_reducible exact Calls.regrown_of (HX3.out _ _) | with_reducible exact Calls.regrown_of (HX4.out _ _)) | (go_at_call 8; exact Calls.regrown_of (HX5.out _ _)))) | quiet_step ((first | (go_at_call 16; first | with_reducible exact Calls.regrown_of (HX1.out _ _) | with_reducible exact Calls.regrown_of (HX2.out _ _) | with_reducible exact Calls.regrown_of (HX3.out _ _) | with_reducible exact Calls.regrown_of (HX4.out _ _)) | (go_at_call 8; exact Calls.regrown_of (HX5.out _ _))))))
  refine wpQuiet_nil ?_
  intro _ hw'
  obtain ⟨⟨dq, osq⟩, hw''⟩ := hw'
  subst hw''
  have HB4 : Hid (Below w.heap.size w (Go.Sort.grow (redrawn wr dq) osq)) := Lib.hid (HC5.out.trans ((below_regrown wr dq osq).mono HC5.out.size))
  clear k0 k1 k2 k3 k4 HX1 HX2 HX3 HX4 HX5
  generalize Go.Sort.grow (redrawn wr dq) osq = w4 at *
  go_wp2
  go_ret
  exact ⟨rfl, HB4.out⟩
theorem types_w {w : World} (a b : Int) (n : Nat) (ha0 : 0 ≤ a) (ha : a ≤ 255) (hb0 : 0 ≤ b) (hb : b ≤ 255) (hn : n ≤ 1000000) (henv : EnvT w) :
    Calls Tryz.prog 7 #[.int .u8 a, .int .u8 b, .int .i64 n] w fun e w' => e = .returned (.bool true) ∧ Below w.heap.size w w' := by
  have t1 : a.tmod 4 = a % 4 := Int.tmod_eq_emod_of_nonneg ha0
  have t2 : b.tmod 20 = b % 20 := Int.tmod_eq_emod_of_nonneg hb0
  obtain ⟨m, e1⟩ : ∃ m : Nat, a.tmod 4 = (m : Int) := ⟨(a.tmod 4).toNat, by omega⟩
  obtain ⟨k, e2⟩ : ∃ k : Nat, b.tmod 20 = (k : Int) := ⟨(b.tmod 20).toNat, by omega⟩
  have hk : k ≤ 19 := by omega
  have hm : m = 0 ∨ m = 1 ∨ m = 2 ∨ m = 3 := by omega
  by_cases hn0 : n = 0
  · rcases hm with rfl | rfl | rfl | rfl
    · exact types_01 a b n k ha0 ha hb0 hb hn hn0 e1 e2 hk henv
    · exact types_11 a b n k ha0 ha hb0 hb hn hn0 e1 e2 hk henv
    · exact types_21 a b n k ha0 ha hb0 hb hn hn0 e1 e2 hk henv
    · exact types_31 a b n k ha0 ha hb0 hb hn hn0 e1 e2 hk henv
  · rcases hm with rfl | rfl | rfl | rfl
    · exact types_00 a b n k ha0 ha hb0 hb hn hn0 e1 e2 hk henv
    · exact types_10 a b n k ha0 ha hb0 hb hn hn0 e1 e2 hk henv
    · exact types_20 a b n k ha0 ha hb0 hb hn hn0 e1 e2 hk henv
    · exact types_30 a b n k ha0 ha hb0 hb hn hn0 e1 e2 hk henv
set_option maxHeartbeats 1000000 in
theorem types_no {w : World} (a b n : Int) (hn : n < 0 ∨ 1000000 < n) (hn1 : -9223372036854775808 ≤ n ∧ n ≤ 9223372036854775807) (henv : EnvT w) :
    Calls Tryz.prog 7 #[.int .u8 a, .int .u8 b, .int .i64 n] w fun e w' => e = .returned (.bool true) ∧ Below w.heap.size w w' := by
  have HE := Lib.hid henv; clear henv
  rcases hn with hn | hn
  · have p2 : decide (n < (0 : Int)) = true := by simpa using hn
    go_enter Tryz.func7, Tryz.ntmps7
    go_wp2_with ((with_reducible refine (awake_any _ HE.out).mono ?_); rintro e w' ⟨rfl, hb⟩; have HB := Lib.hid hb; clear hb)
    go_ret
    exact ⟨rfl, HB.out⟩
  · have p2 : decide (n < (0 : Int)) = false := by simp; omega
    have p3 : decide (n > (1000000 : Int)) = true := by simpa using hn
    go_enter Tryz.func7, Tryz.ntmps7
    go_wp2_with ((with_reducible refine (awake_any _ HE.out).mono ?_); rintro e w' ⟨rfl, hb⟩; have HB := Lib.hid hb; clear hb)
    go_ret
    exact ⟨rfl, HB.out⟩
end Go.Proofs.YtkgnmlllmihmlaaGreatDoor
namespace Go.Proofs.YtkgnmlllmihmlaaGreatDoor.treeTypes
open Go.RowKit
theorem walk (a0 : Int) (_w0 : (Lit.int .u8 a0).wf = true) (a1 : Int) (_w1 : (Lit.int .u8 a1).wf = true) (a2 : Int) (_w2 : (Lit.int .i64 a2).wf = true) (w : World) (henv : EnvT w) :
    Calls Tryz.prog 7 #[.int .u8 a0, .int .u8 a1, .int .i64 a2] w fun e w' => e = .returned (.bool true) ∧ Below w.heap.size w w' := by
  have e1 : IntKind.u8.min = 0 := rfl
  have e2 : IntKind.u8.max = 255 := rfl
  have e3 : IntKind.i64.min = -9223372036854775808 := rfl
  have e4 : IntKind.i64.max = 9223372036854775807 := rfl
  have h0 : 0 ≤ a0 ∧ a0 ≤ 255 := by simp [Lit.wf] at _w0; omega
  have h1 : 0 ≤ a1 ∧ a1 ≤ 255 := by simp [Lit.wf] at _w1; omega
  have h2 : -9223372036854775808 ≤ a2 ∧ a2 ≤ 9223372036854775807 := by simp [Lit.wf] at _w2; omega
  by_cases h : a2 < 0 ∨ 1000000 < a2
  · exact types_no a0 a1 a2 h h2 henv
  · obtain ⟨n, rfl⟩ : ∃ n : Nat, a2 = n := ⟨a2.toNat, by omega⟩
    exact types_w a0 a1 n h0.1 h0.2 h1.1 h1.2 (by omega) henv
end Go.Proofs.YtkgnmlllmihmlaaGreatDoor.treeTypes
