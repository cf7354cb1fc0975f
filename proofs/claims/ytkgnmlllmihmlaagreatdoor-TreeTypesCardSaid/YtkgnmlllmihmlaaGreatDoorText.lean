/-
  The contracts of written and Text: the tokens of a type, and its text.
-/
import Derived.Test.YtkgnmlllmihmlaaGreatDoorAwkA
import Derived.Test.YtkgnmlllmihmlaaGreatDoorShelf
import Derived.Lib.OwnBridge
import Derived.Lib.ItoaNum
namespace Go.Proofs.YtkgnmlllmihmlaaGreatDoor
open Go.RowKit Sp Tr Go.Shelf Go.Sort
set_option linter.unusedVariables false

def tyAt (Y : List Ty) (n : Int) : Option Ty := if n < 0 then none else Y[n.toNat]?
/-- The tokens of a type's text, the last one first. -/
def wrF : Nat → List Ty → Int → List (List UInt8)
  | 0, _, _ => []
  | f + 1, Y, n => match tyAt Y n with
    | none => []
    | some t => if t.kind = 4 then [42] :: wrF f Y t.elem else if t.kind = 5 then [93] :: Lib.itoa t.n :: [91] :: wrF f Y t.elem else if t.kind = 6 then [t.name, wStruct] else [namesL.getD t.kind.toNat []]
theorem wrF_none {f : Nat} {Y : List Ty} {n : Int} (h : tyAt Y n = none) : wrF f Y n = [] := by
  cases f with
  | zero => rfl
  | succ f => unfold wrF; rw [h]
theorem wrF_4 {f : Nat} {Y : List Ty} {n : Int} {t : Ty} (h : tyAt Y n = some t) (hk : t.kind = 4) : wrF (f + 1) Y n = [42] :: wrF f Y t.elem := by
  conv => lhs; unfold wrF
  rw [h]; simp [hk]
theorem wrF_5 {f : Nat} {Y : List Ty} {n : Int} {t : Ty} (h : tyAt Y n = some t) (hk : t.kind = 5) : wrF (f + 1) Y n = [93] :: Lib.itoa t.n :: [91] :: wrF f Y t.elem := by
  conv => lhs; unfold wrF
  rw [h]; simp [hk]
theorem wrF_6 {f : Nat} {Y : List Ty} {n : Int} {t : Ty} (h : tyAt Y n = some t) (hk : t.kind = 6) : wrF (f + 1) Y n = [t.name, wStruct] := by
  conv => lhs; unfold wrF
  rw [h]; simp [hk]
theorem wrF_s {f : Nat} {Y : List Ty} {n : Int} {t : Ty} {k : Nat} (h : tyAt Y n = some t) (hk : t.kind = k) (hk4 : k < 4) : wrF (f + 1) Y n = [namesL.getD k []] := by
  conv => lhs; unfold wrF
  rw [h]
  have h4 : ¬ (k : Int) = 4 := by omega
  have h5 : ¬ (k : Int) = 5 := by omega
  have h6 : ¬ (k : Int) = 6 := by omega
  simp [hk, h4, h5, h6]
/-- What a table's types may be. -/
def TyOk (Y : List Ty) : Prop := ∀ t ∈ Y, (0 ≤ t.kind ∧ t.kind ≤ 6) ∧ (-1 ≤ t.elem ∧ t.elem ≤ 256) ∧ 0 ≤ t.n ∧ t.n ≤ 1000000
theorem infoStr : (Tryz.prog.info? 9).map (fun i => (i.zero, i.size, i.bytes)) = some (some (.string ⟨#[]⟩), 1, 16) := by kernel_rfl
def SPost (xs : List (List UInt8)) (w : World) (e : Ending) (w' : World) : Prop :=
  ∃ v, e = .returned v ∧ w'.ownsRow w.heap.size 9 1 v xs.length (xs.map encStr) ∧ Below w.heap.size w w'
theorem below_grow (w : World) (k : Nat) (os : Array Obj) : Below w.heap.size w (grow (w.drewN k) os) := by
  refine ⟨rfl, rfl, rfl, ?_, fun i hi => ?_⟩
  · show w.heap.size ≤ (w.heap ++ os).size
    simp
  · show (w.heap ++ os)[i]? = _
    rw [Array.getElem?_append_left hi]
theorem itoa_t (n : Int) (hn : 0 ≤ n ∧ n ≤ 1000000) (w : World) (henv : EnvT w) : Calls Tryz.prog 15 #[.int .i64 n] w (RPost (.string (bt (Lib.itoa n))) w) := by
  refine (Tryz.strconv_Itoa n (by omega) (by omega) w henv.lex.pow).mono ?_
  rintro e w' ⟨rfl, k, os, rfl⟩
  exact ⟨rfl, below_grow w k os⟩
theorem putRow_below {α : Type} [Inhabited α] {enc : α → Value} {w : World} {B g q : Nat} {d : Array α} (h : B ≤ g) : Below B w (Sort.putRow enc (Sort.ahead w q) g 0 d) :=
  ⟨rfl, rfl, rfl, by simp, fun k hk => by
    simp only [Sort.putRow, Sort.mapBlock, Sort.ahead]
    rw [Array.getElem?_modify]
    rw [if_neg (by omega)]⟩
/-- slices.Reverse, of a slice that the call owns. -/
theorem rev_own {w : World} {base n : Nat} {v : Value} {zs : List (List UInt8)} (h : w.ownsRow base 9 1 v n (zs.map encStr)) (hn : n ≤ 1000000) :
    Calls Tryz.prog 58 #[v] w fun e w' => e = .returned (.tuple #[]) ∧ w'.ownsRow base 9 1 v n (zs.reverse.map encStr) ∧ Below base w w' := by
  have hl : zs.length = n := by simpa using h.1
  by_cases hv : v = .slice none 0 0
  · subst hv
    have h0 : n = 0 := by
      rcases h.2 with ⟨_, h0⟩ | ⟨g, cap, cur, e, _⟩
      · exact h0
      · cases e
    subst h0
    obtain rfl : zs = [] := List.length_eq_zero_iff.1 hl
    refine (Tryz.slices_Reverse_string_empty none 0 w).mono ?_
    rintro e w' ⟨rfl, rfl⟩
    exact ⟨rfl, h, Below.refl _ _⟩
  · obtain ⟨g, cap, rfl, hb, hg, hc, hm, _, hH⟩ := Lib.holds_of_ownsRow h hv
    subst hl
    refine (Tryz.slices_Reverse_string g 0 cap zs w hH (by omega)).mono ?_
    rintro e w' ⟨rfl, q, rfl⟩
    have := Lib.ownsRow_putRow (q := q) (ys := zs.reverse) h (by simp) (Nat.le_refl _)
    rw [List.take_of_length_le (by simp)] at this
    exact ⟨rfl, this, putRow_below hb⟩
end Go.Proofs.YtkgnmlllmihmlaaGreatDoor
namespace Go.Proofs.YtkgnmlllmihmlaaGreatDoor
open Go.RowKit Sp Tr Go.Shelf Go.Sort
set_option linter.unusedVariables false

theorem cells_new (w : World) (xs : List Value) (t : TypeId) (ys : Array Value) (h : ys = xs.toArray) : ∀ j u, xs[j]? = some u → (w.alloc (.cells ys t)).cell? ((⟨w.heap.size, 0, none⟩ : Addr).add j) = some u := by
  intro j u hj
  subst h
  have hadd : (⟨w.heap.size, 0, none⟩ : Addr).add j = ⟨w.heap.size, j, none⟩ := by unfold Addr.add; split <;> simp_all
  rw [hadd, cell_of_row _ _ _ _ _ _ (heap_alloc_new w _)]
  simpa using hj
abbrev tyO (t : Ty) : Obj := .cells #[.int .i64 t.kind, .int .i64 t.elem, .int .i64 t.n, .string (bt t.name)] 36
theorem wr_fin {w v1 : World} {pre Z : List (List UInt8)} {v : Value} (hI : pre = Z) (ho : v1.ownsRow (w.heap.size + 1) 9 1 v pre.length (pre.reverse.map encStr)) (hb : Below w.heap.size w v1) : SPost Z.reverse w (.returned v) v1 := by
  subst hI
  refine ⟨v, rfl, ?_, hb⟩
  rw [List.length_reverse]
  exact ownsRow_le ho (by omega)
theorem names_cell {w : World} {k : Nat} {x : List UInt8} (h : EnvT w) (hk : k < 4) (hx : namesL.getD k [] = x) : w.cell? ⟨0, k, none⟩ = some (.string (bt x)) := by
  obtain ⟨ty, fr, hn⟩ := h.names
  have h4 : k = 0 ∨ k = 1 ∨ k = 2 ∨ k = 3 := by omega
  subst hx
  rcases h4 with rfl | rfl | rfl | rfl <;> simp [World.cell?, hn, namesV, namesL]
set_option maxRecDepth 20000 in
set_option maxHeartbeats 4000000 in
theorem written_t {w : World} {B : Nat} {vn vt : Value} {T : Tr.Tree} (h : TreeIn w B vn vt T) (hY : TyOk T.types) (henv : EnvT w) (n : Int) (hn : -9223372036854775808 ≤ n ∧ n ≤ 9223372036854775807) :
    Calls Tryz.prog 34 #[.agg #[vn, vt, .int .i64 T.top], .int .i64 n] w (SPost (wrF (T.types.length + 1) T.types n).reverse w) := by
  obtain ⟨an, cn, rfl⟩ := row_slice h.nodes
  obtain ⟨ay, cy, rfl⟩ := row_slice h.types
  have hlt := h.lt
  have hsz := henv.lex.sz
  obtain ⟨i0, hi0, hz0, hz1, hz2⟩ := info_parts infoStr
  have H := Lib.hid h; clear h
  have HY := Lib.hid hY; clear hY
  have HE : Hid (∀ v, Below w.heap.size w v → EnvT v) := Lib.hid (fun v hb => henv.below hb hsz); clear henv
  obtain ⟨Z, hZ⟩ : ∃ Z, wrF (T.types.length + 1) T.types n = Z := ⟨_, rfl⟩
  rw [hZ]
  have HZ := Lib.hid hZ; clear hZ
  go_enter Tryz.func34, Tryz.ntmps34
  go_wp2
  go_loopg [1, 5, 11] (T.types.length + 1) (fun gk s1 s5 s11 wr => ∃ (i : Nat) (m : Int) (pre : List (List UInt8)), s1 = .int .i64 m ∧ s11 = .int .i64 i ∧ gk + i = T.types.length + 1 ∧ (-9223372036854775808 ≤ m ∧ m ≤ 9223372036854775807) ∧ pre.length ≤ 3 * i ∧ Hid (pre ++ wrF gk T.types m = Z) ∧ Hid (wr.ownsRow (w.heap.size + 1) 9 1 s5 pre.length (pre.map encStr)) ∧ Hid (Below w.heap.size w wr) ∧ Hid (wr.heap[w.heap.size]? = some (trO (.slice an T.nodes.length cn) (.slice ay T.types.length cy) T)))
  case atStart => exact ⟨0, n, [], rfl, rfl, rfl, hn, by simp, HZ, Lib.hid ⟨rfl, .inl ⟨rfl, rfl⟩⟩, Lib.hid ((Below.refl _ _).alloc (Nat.le_refl _) _), Lib.hid (heap_alloc_new w _)⟩
  case round =>
    obtain ⟨i, m, pre, rfl, rfl, hgk, hm, hpl, HI, HR, HB, HX⟩ := hrel
    obtain ⟨r0, r1, r2, _, _, _⟩ := nv3 HX.out
    have hz := lt_heap HX.out
    obtain ⟨a5, c5, rfl⟩ := row_slice HR.out
    by_cases hit : i < T.types.length + 1
    case neg =>
      have hg0 : gk = 0 := by omega
      subst hg0
      have hI := HI.out
      unfold wrF at hI
      rw [List.append_nil] at hI
      have HI2 := Lib.hid hI; clear hI
      have e1 : decide ((i : Int) < (T.types.length : Int) + 1) = false := by simp; omega
      go_wp2_with ((with_reducible refine (rev_own HR.out (by omega)).mono ?_); rintro e v1 ⟨rfl, ho, hb⟩; have HO := Lib.hid ho; have HB1 := Lib.hid hb; clear ho hb)
      go_ret
      exact wr_fin HI2.out HO.out (HB.out.trans (HB1.out.mono (by omega)))
    cases gk with
    | zero => omega
    | succ g =>
      have e1 : decide ((i : Int) < (T.types.length : Int) + 1) = true := by simp; omega
      cases ht : tyAt T.types m with
      | none =>
        have hI := HI.out
        rw [wrF_none ht, List.append_nil] at hI
        have HI2 := Lib.hid hI; clear hI HI
        by_cases h0 : m < 0
        · have e2 : decide (m < (0 : Int)) = true := by simpa using h0
          clear ht
          go_wp2_with ((with_reducible refine (rev_own HR.out (by (try simp); omega)).mono ?_); rintro e v9 ⟨rfl, ho, hb⟩; have HO := Lib.hid ho; have HB9 := Lib.hid hb; clear ho hb)
          go_ret
          exact wr_fin HI2.out HO.out (HB.out.trans (HB9.out.mono (by omega)))
        · obtain ⟨q, rfl⟩ : ∃ q : Nat, m = q := ⟨m.toNat, by omega⟩
          have hq : ¬ q < T.types.length := by intro hq; unfold tyAt at ht; rw [if_neg h0, Int.toNat_natCast, List.getElem?_eq_getElem hq] at ht; cases ht
          have e2 : decide ((q : Int) < (0 : Int)) = false := by simp
          have e3 : decide ((q : Int) ≥ (T.types.length : Int)) = true := by simp; omega
          clear ht
          go_wp2_with ((with_reducible refine (rev_own HR.out (by (try simp); omega)).mono ?_); rintro e v9 ⟨rfl, ho, hb⟩; have HO := Lib.hid ho; have HB9 := Lib.hid hb; clear ho hb)
          go_ret
          exact wr_fin HI2.out HO.out (HB.out.trans (HB9.out.mono (by omega)))
      | some t =>
        obtain ⟨q, rfl, htq⟩ : ∃ q : Nat, m = q ∧ T.types[q]? = some t := by
          unfold tyAt at ht
          by_cases h0 : m < 0
          · rw [if_pos h0] at ht; cases ht
          · rw [if_neg h0] at ht; exact ⟨m.toNat, by omega, ht⟩
        have hql : q < T.types.length := (List.getElem?_eq_some_iff.1 htq).1
        have hT := H.out.below HB.out
        obtain ⟨gy, rfl, zg⟩ := hT.typeForm (by omega)
        obtain ⟨c0, c1, c2, c3⟩ := hT.ty htq
        obtain ⟨⟨tk0, tk6⟩, ⟨te0, te1⟩, tn0, tn1⟩ := HY.out t (List.mem_of_getElem? htq)
        have q0 : (0 : Int) ≤ (q : Int) := Int.natCast_nonneg _
        have q1 : (q : Int) < (T.types.length : Int) := by omega
        have e2 : decide ((q : Int) < (0 : Int)) = false := by simp
        have e3 : decide ((q : Int) ≥ (T.types.length : Int)) = false := by simp; omega
        have HQ := Lib.hid ht
        have HT1 : Hid ((wr.alloc (tyO t)).heap[wr.heap.size]? = some (tyO t)) := Lib.hid (heap_alloc_new wr _)
        have HR0 := Lib.hid (HR.out.alloc (tyO t))
        have HB0 := Lib.hid (HB.out.alloc HB.out.size (tyO t))
        have HX0 : Hid ((wr.alloc (tyO t)).heap[w.heap.size]? = some (trO (.slice an T.nodes.length cn) (.slice (some ⟨gy, 0, none⟩) T.types.length cy) T)) := Lib.hid ((Below.heap_alloc _ _ _ hz).trans HX.out)
        clear htq hT ht
        by_cases hk4 : t.kind = 4
        · have k4 : (t.kind == 4) = true := by rw [beq_iff_eq]; omega
          have k5 : (t.kind == 5) = false := by rw [beq_eq_false_iff_ne]; omega
          have k6 : (t.kind == 6) = false := by rw [beq_eq_false_iff_ne]; omega
          have l4 : (t.kind != 4) = false := by simp; omega
          have l5 : (t.kind != 5) = true := by simp; omega
          have HR1 := HR0
          have HB1 := HB0
          have HX1 := HX0
          have HI2 : Hid (pre ++ ([[42]] ++ wrF g T.types t.elem) = Z) := Lib.hid (by have hI := HI.out; rw [wrF_4 HQ.out hk4] at hI; exact hI)
          clear hk4 HI
          go_wp2_with (at_builtin; refine wpList_append_lies _ rfl (.tmp 31) (.tmp 32) 45 rfl (w.heap.size + 1) 9 i0 (.string ⟨#[]⟩) 1 16 Tryz.underlying45 hi0 hz0 hz1 hz2 rfl (by decide) _ pre.length (pre.map encStr) rfl (HR1.out.alloc _) ⟨wr.heap.size + 1, 0, none⟩ 1 1 [.string ⟨#[42]⟩] rfl rfl (by intro j u hj; rw [← World.size_alloc wr (tyO t)]; exact cells_new _ _ _ _ rfl j u hj) (by simp [Value.oneCell']) (by omega) (by unfold maxLen; omega) (by omega) (by simp; omega) (wr.heap.size + 1 + 1) (by simp) ?_; intro g2 cap2 w1 hown1 hgrow hat hlt1; have HO1 : Hid (w1.ownsRow (w.heap.size + 1) 9 1 (.slice (some ⟨g2, 0, none⟩) (pre.length + 1) cap2) (pre.length + 1) ((pre ++ [[42]]).map encStr)) := Lib.hid (by rw [List.map_append]; exact hown1); have hbl := ((HB1.out.alloc HB1.out.size (.cells #[.string ⟨#[42]⟩] _)).grown hgrow (by have := HB1.out.size; simp; omega) (fun k e => by have := (HR1.out.lt k e).1; omega)); have HBL := Lib.hid hbl; have hh2 : w1.heap[w.heap.size]? = _ := (hgrow.block _ (by have := HB1.out.size; simp; omega) (fun e => by have := (HR1.out.lt _ e.symm).1; omega)).trans ((Below.heap_alloc _ _ _ (by have := lt_heap HX1.out; omega)).trans HX1.out); have HX2 := Lib.hid hh2; have hh3 : w1.heap[wr.heap.size]? = _ := (hgrow.block _ (by have := lt_heap HT1.out; simp; omega) (fun e => by have := (HR.out.lt _ e.symm).2; omega)).trans ((Below.heap_alloc _ _ _ (lt_heap HT1.out)).trans HT1.out); obtain ⟨f0, f1, f2, f3, _⟩ := nv4 hh3; clear hown1 hgrow hat hbl hh2 hh3)
          go_roundg g
          case measure => omega
          case rel => exact ⟨i + 1, t.elem, pre ++ [[42]], rfl, by go_num, by omega, by omega, by simp; omega, Lib.hid (by rw [List.append_assoc]; exact HI2.out), by rw [List.length_append]; exact HO1, HBL, HX2⟩
        by_cases hk5 : t.kind = 5
        · have k4 : (t.kind == 4) = false := by rw [beq_eq_false_iff_ne]; omega
          have k5 : (t.kind == 5) = true := by rw [beq_iff_eq]; omega
          have k6 : (t.kind == 6) = false := by rw [beq_eq_false_iff_ne]; omega
          have l4 : (t.kind != 4) = true := by simp; omega
          have l5 : (t.kind != 5) = false := by simp; omega
          have HI2 : Hid (pre ++ ([[93], Lib.itoa t.n, [91]] ++ wrF g T.types t.elem) = Z) := Lib.hid (by have hI := HI.out; rw [wrF_5 HQ.out hk5] at hI; exact hI)
          clear hk4 hk5 HI
          go_wp2_with (first | ((with_reducible refine (itoa_t t.n ⟨tn0, tn1⟩ _ (HE.out _ HB0.out)).mono ?_); rintro e v1 ⟨rfl, hb⟩; have HB1 := Lib.hid (HB0.out.trans (hb.mono HB0.out.size)); have HR1 := Lib.hid (own_keep HR0.out (fun g hg => hb.block g (HR0.out.lt g hg).2)); have HX1 := Lib.hid ((hb.block _ (lt_heap HX0.out)).trans HX0.out); have HT1' := HT1; clear HT1; have HT1 := Lib.hid ((hb.block _ (lt_heap HT1'.out)).trans HT1'.out); have z1 := hb.size; rw [World.size_alloc] at z1; clear hb) | (at_builtin; refine wpList_append_lies _ rfl (.tmp 36) (.tmp 40) 45 rfl (w.heap.size + 1) 9 i0 (.string ⟨#[]⟩) 1 16 Tryz.underlying45 hi0 hz0 hz1 hz2 rfl (by decide) _ pre.length (pre.map encStr) rfl (HR1.out.alloc _) ⟨v1.heap.size, 0, none⟩ 3 3 [.string ⟨#[93]⟩, .string (bt (Lib.itoa t.n)), .string ⟨#[91]⟩] rfl rfl (cells_new _ _ _ _ rfl) (by simp [Value.oneCell']) (by omega) (by unfold maxLen; omega) (by omega) (by simp; omega) (v1.heap.size + 1) (by simp) ?_; intro g2 cap2 w1 hown1 hgrow hat hlt1; have HO1 : Hid (w1.ownsRow (w.heap.size + 1) 9 1 (.slice (some ⟨g2, 0, none⟩) (pre.length + 3) cap2) (pre.length + 3) ((pre ++ [[93], Lib.itoa t.n, [91]]).map encStr)) := Lib.hid (by rw [List.map_append]; exact hown1); have hbl := ((HB1.out.alloc HB1.out.size (.cells #[.string ⟨#[93]⟩, .string (bt (Lib.itoa t.n)), .string ⟨#[91]⟩] _)).grown hgrow (by have := HB1.out.size; simp; omega) (fun k e => by have := (HR1.out.lt k e).1; omega)); have HBL := Lib.hid hbl; have hh2 : w1.heap[w.heap.size]? = _ := (hgrow.block _ (by have := HB1.out.size; simp; omega) (fun e => by have := (HR1.out.lt _ e.symm).1; omega)).trans ((Below.heap_alloc _ _ _ (by have := lt_heap HX1.out; omega)).trans HX1.out); have HX2 := Lib.hid hh2; have hh3 : w1.heap[wr.heap.size]? = _ := (hgrow.block _ (by have := lt_heap HT1.out; simp; omega) (fun e => by have := (HR.out.lt _ e.symm).2; omega)).trans ((Below.heap_alloc _ _ _ (lt_heap HT1.out)).trans HT1.out); obtain ⟨f0, f1, f2, f3, _⟩ := nv4 hh3; clear hown1 hgrow hat hbl hh2 hh3))
          go_roundg g
          case measure => omega
          case rel => exact ⟨i + 1, t.elem, pre ++ [[93], Lib.itoa t.n, [91]], rfl, by go_num, by omega, by omega, by simp; omega, Lib.hid (by rw [List.append_assoc]; exact HI2.out), by rw [List.length_append]; exact HO1, HBL, HX2⟩
        by_cases hk6 : t.kind = 6
        · have k4 : (t.kind == 4) = false := by rw [beq_eq_false_iff_ne]; omega
          have k5 : (t.kind == 5) = false := by rw [beq_eq_false_iff_ne]; omega
          have k6 : (t.kind == 6) = true := by rw [beq_iff_eq]; omega
          have l4 : (t.kind != 4) = true := by simp; omega
          have l5 : (t.kind != 5) = true := by simp; omega
          have HR1 := HR0
          have HB1 := HB0
          have HX1 := HX0
          have HI2 : Hid (pre ++ [t.name, wStruct] = Z) := Lib.hid (by have hI := HI.out; rw [wrF_6 HQ.out hk6] at hI; exact hI)
          clear hk4 hk5 hk6 HI
          go_wp2_with (first | (at_builtin; refine wpList_append_lies _ rfl (.tmp 44) (.tmp 47) 45 rfl (w.heap.size + 1) 9 i0 (.string ⟨#[]⟩) 1 16 Tryz.underlying45 hi0 hz0 hz1 hz2 rfl (by decide) _ pre.length (pre.map encStr) rfl (HR1.out.alloc _) ⟨wr.heap.size + 1, 0, none⟩ 2 2 [.string (bt t.name), .string ⟨#[115, 116, 114, 117, 99, 116]⟩] rfl rfl (by intro j u hj; rw [← World.size_alloc wr (tyO t)]; exact cells_new _ _ _ _ rfl j u hj) (by simp [Value.oneCell']) (by omega) (by unfold maxLen; omega) (by omega) (by simp; omega) (wr.heap.size + 1 + 1) (by simp) ?_; intro g2 cap2 w1 hown1 hgrow hat hlt1; have HO1 : Hid (w1.ownsRow (w.heap.size + 1) 9 1 (.slice (some ⟨g2, 0, none⟩) (pre.length + 2) cap2) (pre.length + 2) ((pre ++ [t.name, wStruct]).map encStr)) := Lib.hid (by rw [List.map_append]; exact hown1); have hbl := ((HB1.out.alloc HB1.out.size (.cells #[.string (bt t.name), .string ⟨#[115, 116, 114, 117, 99, 116]⟩] _)).grown hgrow (by have := HB1.out.size; simp; omega) (fun k e => by have := (HR1.out.lt k e).1; omega)); have HBL := Lib.hid hbl; have hh2 : w1.heap[w.heap.size]? = _ := (hgrow.block _ (by have := HB1.out.size; simp; omega) (fun e => by have := (HR1.out.lt _ e.symm).1; omega)).trans ((Below.heap_alloc _ _ _ (by have := lt_heap HX1.out; omega)).trans HX1.out); have HX2 := Lib.hid hh2; have hh3 : w1.heap[wr.heap.size]? = _ := (hgrow.block _ (by have := lt_heap HT1.out; simp; omega) (fun e => by have := (HR.out.lt _ e.symm).2; omega)).trans ((Below.heap_alloc _ _ _ (lt_heap HT1.out)).trans HT1.out); obtain ⟨f0, f1, f2, f3, _⟩ := nv4 hh3; clear hown1 hgrow hat hbl hh2 hh3) | ((with_reducible refine (rev_own HO1.out (by (try simp); omega)).mono ?_); rintro e v9 ⟨rfl, ho, hb⟩; have HO := Lib.hid ho; have HB9 := Lib.hid hb; clear ho hb))
          go_ret
          exact wr_fin HI2.out (by rw [List.length_append]; exact HO.out) (HBL.out.trans (HB9.out.mono (by omega)))
        obtain ⟨k, hk⟩ : ∃ k : Nat, t.kind = k := ⟨t.kind.toNat, by omega⟩
        have hk3 : k < 4 := by omega
        have k4 : (t.kind == 4) = false := by rw [beq_eq_false_iff_ne]; omega
        have k5 : (t.kind == 5) = false := by rw [beq_eq_false_iff_ne]; omega
        have k6 : (t.kind == 6) = false := by rw [beq_eq_false_iff_ne]; omega
        have HI2 : Hid (pre ++ [namesL.getD k []] = Z) := Lib.hid (by have hI := HI.out; rw [wrF_s HQ.out hk hk3] at hI; exact hI)
        have HKN := Lib.hid hk
        obtain ⟨x, hx⟩ : ∃ x, namesL.getD k [] = x := ⟨_, rfl⟩
        rw [hx] at HI2
        have cN : (wr.alloc (tyO t)).cell? ⟨0, k, none⟩ = some (.string (bt x)) := names_cell (HE.out _ HB0.out) hk3 hx
        clear hk4 hk5 hk6 HI hx
        have kk : k = 0 ∨ k = 1 ∨ k = 2 ∨ k = 3 := by omega
        have HR1 := HR0
        have HB1 := HB0
        have HX1 := HX0
        rcases kk with rfl | rfl | rfl | rfl
        · have hk2 : t.kind = 0 := HKN.out
          clear HKN hk HQ q1 q0
          obtain ⟨tk, te, tn2, tx⟩ := t
          dsimp only at hk2
          subst hk2
          go_wp2_with (first | (at_builtin; refine wpList_append_lies _ rfl (.tmp 54) (.tmp 59) 45 rfl (w.heap.size + 1) 9 i0 (.string ⟨#[]⟩) 1 16 Tryz.underlying45 hi0 hz0 hz1 hz2 rfl (by decide) _ pre.length (pre.map encStr) rfl (HR1.out.alloc _) ⟨wr.heap.size + 1, 0, none⟩ 1 1 [.string (bt x)] rfl rfl (by intro j u hj; rw [← World.size_alloc wr (tyO ⟨((0 : Nat) : Int), te, tn2, tx⟩)]; exact cells_new _ _ _ _ rfl j u hj) (by simp [Value.oneCell']) (by omega) (by unfold maxLen; omega) (by omega) (by simp; omega) (wr.heap.size + 1 + 1) (by simp) ?_; intro g2 cap2 w1 hown1 hgrow hat hlt1; have HO1 : Hid (w1.ownsRow (w.heap.size + 1) 9 1 (.slice (some ⟨g2, 0, none⟩) (pre.length + 1) cap2) (pre.length + 1) ((pre ++ [x]).map encStr)) := Lib.hid (by rw [List.map_append]; exact hown1); have hbl := ((HB1.out.alloc HB1.out.size (.cells #[.string (bt x)] _)).grown hgrow (by have := HB1.out.size; simp; omega) (fun k e => by have := (HR1.out.lt k e).1; omega)); have HBL := Lib.hid hbl; have hh2 : w1.heap[w.heap.size]? = _ := (hgrow.block _ (by have := HB1.out.size; simp; omega) (fun e => by have := (HR1.out.lt _ e.symm).1; omega)).trans ((Below.heap_alloc _ _ _ (by have := lt_heap HX1.out; omega)).trans HX1.out); have HX2 := Lib.hid hh2; have hh3 : w1.heap[wr.heap.size]? = _ := (hgrow.block _ (by have := lt_heap HT1.out; simp; omega) (fun e => by have := (HR.out.lt _ e.symm).2; omega)).trans ((Below.heap_alloc _ _ _ (lt_heap HT1.out)).trans HT1.out); obtain ⟨f0, f1, f2, f3, _⟩ := nv4 hh3; clear hown1 hgrow hat hbl hh2 hh3) | ((with_reducible refine (rev_own HO1.out (by (try simp); omega)).mono ?_); rintro e v9 ⟨rfl, ho, hb⟩; have HO := Lib.hid ho; have HB9 := Lib.hid hb; clear ho hb))
          go_ret
          exact wr_fin HI2.out (by rw [List.length_append]; exact HO.out) (HBL.out.trans (HB9.out.mono (by omega)))
        · have hk2 : t.kind = 1 := HKN.out
          clear HKN hk HQ q1 q0
          obtain ⟨tk, te, tn2, tx⟩ := t
          dsimp only at hk2
          subst hk2
          go_wp2_with (first | (at_builtin; refine wpList_append_lies _ rfl (.tmp 54) (.tmp 59) 45 rfl (w.heap.size + 1) 9 i0 (.string ⟨#[]⟩) 1 16 Tryz.underlying45 hi0 hz0 hz1 hz2 rfl (by decide) _ pre.length (pre.map encStr) rfl (HR1.out.alloc _) ⟨wr.heap.size + 1, 0, none⟩ 1 1 [.string (bt x)] rfl rfl (by intro j u hj; rw [← World.size_alloc wr (tyO ⟨((1 : Nat) : Int), te, tn2, tx⟩)]; exact cells_new _ _ _ _ rfl j u hj) (by simp [Value.oneCell']) (by omega) (by unfold maxLen; omega) (by omega) (by simp; omega) (wr.heap.size + 1 + 1) (by simp) ?_; intro g2 cap2 w1 hown1 hgrow hat hlt1; have HO1 : Hid (w1.ownsRow (w.heap.size + 1) 9 1 (.slice (some ⟨g2, 0, none⟩) (pre.length + 1) cap2) (pre.length + 1) ((pre ++ [x]).map encStr)) := Lib.hid (by rw [List.map_append]; exact hown1); have hbl := ((HB1.out.alloc HB1.out.size (.cells #[.string (bt x)] _)).grown hgrow (by have := HB1.out.size; simp; omega) (fun k e => by have := (HR1.out.lt k e).1; omega)); have HBL := Lib.hid hbl; have hh2 : w1.heap[w.heap.size]? = _ := (hgrow.block _ (by have := HB1.out.size; simp; omega) (fun e => by have := (HR1.out.lt _ e.symm).1; omega)).trans ((Below.heap_alloc _ _ _ (by have := lt_heap HX1.out; omega)).trans HX1.out); have HX2 := Lib.hid hh2; have hh3 : w1.heap[wr.heap.size]? = _ := (hgrow.block _ (by have := lt_heap HT1.out; simp; omega) (fun e => by have := (HR.out.lt _ e.symm).2; omega)).trans ((Below.heap_alloc _ _ _ (lt_heap HT1.out)).trans HT1.out); obtain ⟨f0, f1, f2, f3, _⟩ := nv4 hh3; clear hown1 hgrow hat hbl hh2 hh3) | ((with_reducible refine (rev_own HO1.out (by (try simp); omega)).mono ?_); rintro e v9 ⟨rfl, ho, hb⟩; have HO := Lib.hid ho; have HB9 := Lib.hid hb; clear ho hb))
          go_ret
          exact wr_fin HI2.out (by rw [List.length_append]; exact HO.out) (HBL.out.trans (HB9.out.mono (by omega)))
        · have hk2 : t.kind = 2 := HKN.out
          clear HKN hk HQ q1 q0
          obtain ⟨tk, te, tn2, tx⟩ := t
          dsimp only at hk2
          subst hk2
          go_wp2_with (first | (at_builtin; refine wpList_append_lies _ rfl (.tmp 54) (.tmp 59) 45 rfl (w.heap.size + 1) 9 i0 (.string ⟨#[]⟩) 1 16 Tryz.underlying45 hi0 hz0 hz1 hz2 rfl (by decide) _ pre.length (pre.map encStr) rfl (HR1.out.alloc _) ⟨wr.heap.size + 1, 0, none⟩ 1 1 [.string (bt x)] rfl rfl (by intro j u hj; rw [← World.size_alloc wr (tyO ⟨((2 : Nat) : Int), te, tn2, tx⟩)]; exact cells_new _ _ _ _ rfl j u hj) (by simp [Value.oneCell']) (by omega) (by unfold maxLen; omega) (by omega) (by simp; omega) (wr.heap.size + 1 + 1) (by simp) ?_; intro g2 cap2 w1 hown1 hgrow hat hlt1; have HO1 : Hid (w1.ownsRow (w.heap.size + 1) 9 1 (.slice (some ⟨g2, 0, none⟩) (pre.length + 1) cap2) (pre.length + 1) ((pre ++ [x]).map encStr)) := Lib.hid (by rw [List.map_append]; exact hown1); have hbl := ((HB1.out.alloc HB1.out.size (.cells #[.string (bt x)] _)).grown hgrow (by have := HB1.out.size; simp; omega) (fun k e => by have := (HR1.out.lt k e).1; omega)); have HBL := Lib.hid hbl; have hh2 : w1.heap[w.heap.size]? = _ := (hgrow.block _ (by have := HB1.out.size; simp; omega) (fun e => by have := (HR1.out.lt _ e.symm).1; omega)).trans ((Below.heap_alloc _ _ _ (by have := lt_heap HX1.out; omega)).trans HX1.out); have HX2 := Lib.hid hh2; have hh3 : w1.heap[wr.heap.size]? = _ := (hgrow.block _ (by have := lt_heap HT1.out; simp; omega) (fun e => by have := (HR.out.lt _ e.symm).2; omega)).trans ((Below.heap_alloc _ _ _ (lt_heap HT1.out)).trans HT1.out); obtain ⟨f0, f1, f2, f3, _⟩ := nv4 hh3; clear hown1 hgrow hat hbl hh2 hh3) | ((with_reducible refine (rev_own HO1.out (by (try simp); omega)).mono ?_); rintro e v9 ⟨rfl, ho, hb⟩; have HO := Lib.hid ho; have HB9 := Lib.hid hb; clear ho hb))
          go_ret
          exact wr_fin HI2.out (by rw [List.length_append]; exact HO.out) (HBL.out.trans (HB9.out.mono (by omega)))
        · have hk2 : t.kind = 3 := HKN.out
          clear HKN hk HQ q1 q0
          obtain ⟨tk, te, tn2, tx⟩ := t
          dsimp only at hk2
          subst hk2
          go_wp2_with (first | (at_builtin; refine wpList_append_lies _ rfl (.tmp 54) (.tmp 59) 45 rfl (w.heap.size + 1) 9 i0 (.string ⟨#[]⟩) 1 16 Tryz.underlying45 hi0 hz0 hz1 hz2 rfl (by decide) _ pre.length (pre.map encStr) rfl (HR1.out.alloc _) ⟨wr.heap.size + 1, 0, none⟩ 1 1 [.string (bt x)] rfl rfl (by intro j u hj; rw [← World.size_alloc wr (tyO ⟨((3 : Nat) : Int), te, tn2, tx⟩)]; exact cells_new _ _ _ _ rfl j u hj) (by simp [Value.oneCell']) (by omega) (by unfold maxLen; omega) (by omega) (by simp; omega) (wr.heap.size + 1 + 1) (by simp) ?_; intro g2 cap2 w1 hown1 hgrow hat hlt1; have HO1 : Hid (w1.ownsRow (w.heap.size + 1) 9 1 (.slice (some ⟨g2, 0, none⟩) (pre.length + 1) cap2) (pre.length + 1) ((pre ++ [x]).map encStr)) := Lib.hid (by rw [List.map_append]; exact hown1); have hbl := ((HB1.out.alloc HB1.out.size (.cells #[.string (bt x)] _)).grown hgrow (by have := HB1.out.size; simp; omega) (fun k e => by have := (HR1.out.lt k e).1; omega)); have HBL := Lib.hid hbl; have hh2 : w1.heap[w.heap.size]? = _ := (hgrow.block _ (by have := HB1.out.size; simp; omega) (fun e => by have := (HR1.out.lt _ e.symm).1; omega)).trans ((Below.heap_alloc _ _ _ (by have := lt_heap HX1.out; omega)).trans HX1.out); have HX2 := Lib.hid hh2; have hh3 : w1.heap[wr.heap.size]? = _ := (hgrow.block _ (by have := lt_heap HT1.out; simp; omega) (fun e => by have := (HR.out.lt _ e.symm).2; omega)).trans ((Below.heap_alloc _ _ _ (lt_heap HT1.out)).trans HT1.out); obtain ⟨f0, f1, f2, f3, _⟩ := nv4 hh3; clear hown1 hgrow hat hbl hh2 hh3) | ((with_reducible refine (rev_own HO1.out (by (try simp); omega)).mono ?_); rintro e v9 ⟨rfl, ho, hb⟩; have HO := Lib.hid ho; have HB9 := Lib.hid hb; clear ho hb))
          go_ret
          exact wr_fin HI2.out (by rw [List.length_append]; exact HO.out) (HBL.out.trans (HB9.out.mono (by omega)))
end Go.Proofs.YtkgnmlllmihmlaaGreatDoor
namespace Go.Proofs.YtkgnmlllmihmlaaGreatDoor
open Go.RowKit Sp Tr Go.Shelf Go.Sort
set_option linter.unusedVariables false

/-- The tokens of a type's text, with the blank behind struct. -/
def txL : List (List UInt8) → List (List UInt8)
  | [] => []
  | x :: r => (if x = wStruct then wStruct ++ [32] else x) :: r
def textF (Y : List Ty) (n : Int) : List UInt8 := Lib.join (txL (wrF (Y.length + 1) Y n).reverse) []
theorem SPost.nil {w w' : World} {e : Ending} (h : SPost [] w e w') : ∃ a cap, e = .returned (.slice a 0 cap) ∧ Below w.heap.size w w' := by
  obtain ⟨v, rfl, ho, hb⟩ := h
  obtain ⟨a, cap, rfl⟩ := row_slice ho
  exact ⟨a, cap, rfl, hb⟩
theorem SPost.cons {w w' : World} {e : Ending} {x : List UInt8} {r : List (List UInt8)} (h : SPost (x :: r) w e w') :
    ∃ g cap, e = .returned (.slice (some ⟨g, 0, none⟩) (r.length + 1) cap) ∧ (∀ (j : Nat) y, (x :: r)[j]? = some y → w'.cell? ⟨g, j, none⟩ = some (.string (bt y))) ∧ w.heap.size ≤ g ∧ g < w'.heap.size ∧ r.length + 1 ≤ cap ∧ w'.frozen? ⟨g, 0, none⟩ = false ∧ Below w.heap.size w w' := by
  obtain ⟨v, rfl, ho, hb⟩ := h
  obtain ⟨g, cap, rfl, hg, hg2⟩ := ho.form (by simp)
  refine ⟨g, cap, rfl, fun j y hj => ?_, hg, hg2, ?_, ?_, hb⟩
  · have hc := ho.cells (g := g) rfl j (encStr y) (by rw [List.getElem?_map, hj]; rfl)
    have hadd : (⟨g, 0, none⟩ : Addr).add j = ⟨g, j, none⟩ := by unfold Addr.add; split <;> simp_all
    rw [hadd] at hc
    exact hc
  · rcases ho.2 with ⟨e, _⟩ | ⟨g', cap', cur, e, _, _, h2, _⟩
    · cases e
    · simp only [Value.slice.injEq, Option.some.injEq] at e
      obtain ⟨_, _, rfl⟩ := e
      simpa using h2
  · rcases ho.2 with ⟨e, _⟩ | ⟨g', cap', cur, e, _, h2, _⟩
    · cases e
    · simp only [Value.slice.injEq, Option.some.injEq, Addr.mk.injEq] at e
      obtain ⟨⟨rfl, _⟩, _⟩ := e
      simp [World.frozen?, h2]
theorem join_at {g cap : Nat} {y : List UInt8} {r : List (List UInt8)} {w : World} (hc : ∀ (j : Nat) z, (y :: r)[j]? = some z → w.cell? ⟨g, j, none⟩ = some (.string (bt z))) (hg : g < w.heap.size) (hcap : r.length + 1 ≤ cap) (hr : r.length ≤ 1000000) (hl : (Lib.join (y :: r) []).length ≤ 140737488355328) :
    Calls Tryz.prog 35 #[.slice (some ⟨g, 0, none⟩) (r.length + 1) cap, .string ⟨#[]⟩] w fun e w' => e = .returned (.string (bt (Lib.join (y :: r) []))) ∧ Below w.heap.size w w' := by
  have hm : ((y :: r).map bt).map (fun b : ByteArray => b.data.toList) = y :: r := by
    rw [List.map_map]
    conv => rhs; rw [← List.map_id (y :: r)]
    apply List.map_congr_left
    intro a _
    simp
  have := Tryz.strings_Join g 0 cap ((y :: r).map bt) ⟨#[]⟩ w (fun j x hx => by
    rw [List.getElem?_map] at hx
    cases hz : (y :: r)[j]? with
    | none => rw [hz] at hx; cases hx
    | some z => rw [hz] at hx; injection hx with hx; subst hx; rw [Nat.zero_add]; exact hc j z hz) hg (by simp; omega) (by simpa using hcap) (by rw [hm]; exact hl)
  rw [hm] at this
  simpa using this
theorem set_cell_eq {w : World} {g : Nat} {v u : Value} (h : w.cell? ⟨g, 0, none⟩ = some u) : (w.setCell ⟨g, 0, none⟩ v).cell? ⟨g, 0, none⟩ = some v := by
  simp [go_sem, h]
theorem set_cell_ne {w : World} {g j : Nat} {v : Value} (hj : j ≠ 0) : (w.setCell ⟨g, 0, none⟩ v).cell? ⟨g, j, none⟩ = w.cell? ⟨g, j, none⟩ := by
  simp [go_sem]
set_option maxHeartbeats 2000000 in
theorem text_t {w : World} {B : Nat} {vn vt : Value} {T : Tr.Tree} (h : TreeIn w B vn vt T) (hY : TyOk T.types) (henv : EnvT w) (n : Int) (hn : -9223372036854775808 ≤ n ∧ n ≤ 9223372036854775807)
    (hl : (textF T.types n).length ≤ 140737488355328) (hr : (wrF (T.types.length + 1) T.types n).length ≤ 1000000) :
    Calls Tryz.prog 16 #[.agg #[vn, vt, .int .i64 T.top], .int .i64 n] w (RPost (.string (bt (textF T.types n))) w) := by
  have hb1 : Below w.heap.size w (w.alloc (trO vn vt T)) := (Below.refl _ _).alloc (Nat.le_refl _) _
  have hW := written_t (h.below hb1) hY (henv.below hb1 henv.lex.sz) n hn
  have HB0 := Lib.hid hb1; clear hb1
  unfold textF at hl ⊢
  have hr2 : (wrF (T.types.length + 1) T.types n).reverse.length ≤ 1000000 := by rw [List.length_reverse]; exact hr
  obtain ⟨Z, hZ⟩ : ∃ Z, (wrF (T.types.length + 1) T.types n).reverse = Z := ⟨_, rfl⟩
  rw [hZ] at hW hl hr2 ⊢
  have HW := Lib.hid hW
  clear hW hZ hr h henv hY
  cases Z with
  | nil =>
    have hj : Lib.join (txL []) [] = [] := rfl
    rw [hj]
    go_enter Tryz.func16, Tryz.ntmps16
    go_wp2_with (first | ((with_reducible refine HW.out.mono ?_); intro e w1 hp; obtain ⟨a, cap, rfl, hb⟩ := hp.nil; have HB := Lib.hid hb; clear hp hb) | ((with_reducible refine (Tryz.strings_Join_none _ _ _ _).mono ?_); rintro e w2 ⟨rfl, rfl⟩))
    go_ret
    exact ⟨rfl, HB0.out.trans (HB.out.mono (by simp))⟩
  | cons x r =>
    by_cases hx : x = wStruct
    · subst hx
      have e0 : txL (wStruct :: r) = (wStruct ++ [32]) :: r := rfl
      rw [e0] at hl ⊢
      have hJ := fun {g cap : Nat} {w : World} hc hg hcap => join_at (g := g) (cap := cap) (w := w) (y := wStruct ++ [32]) (r := r) hc hg hcap (by simp at hr2; omega) hl
      go_enter Tryz.func16, Tryz.ntmps16
      go_wp2_with (first | ((with_reducible refine HW.out.mono ?_); intro e w1 hp; obtain ⟨g, cap, rfl, hc, hg, hg2, hcap, hfz, hb⟩ := hp.cons; have HB := Lib.hid hb; have HC := Lib.hid hc; have c0 := hc 0 wStruct rfl; have q0 : (0 : Int) < (r.length : Int) + 1 := (by omega); clear hp hb hc) | ((with_reducible refine (hJ (fun j z hz => ?hc) ?hg hcap).mono ?_); rotate_right; (rintro e w2 ⟨rfl, hb2⟩; have HB2 := Lib.hid hb2; clear hb2)))
      · go_ret
        exact ⟨rfl, ((HB0.out.trans (HB.out.mono (by simp))).setCell (p := ⟨g, 0, none⟩) (by simp at hg ⊢; omega) _).trans (HB2.out.mono (by have := HB.out.size; simp [World.setCell] at this ⊢; omega))⟩
      · cases j with
        | zero =>
          injection hz with hz
          subst hz
          exact set_cell_eq c0
        | succ j => exact (set_cell_ne (by omega)).trans (HC.out (j + 1) z hz)
      · simpa [World.setCell] using hg2
    · have e0 : txL (x :: r) = x :: r := by simp [txL, hx]
      rw [e0] at hl ⊢
      have hJ := fun {g cap : Nat} {w : World} hc hg hcap => join_at (g := g) (cap := cap) (w := w) (y := x) (r := r) hc hg hcap (by simp at hr2; omega) hl
      have e1 : (x == wStruct) = false := by simpa using hx
      have e2 : ¬ x = [115, 116, 114, 117, 99, 116] := hx
      go_enter Tryz.func16, Tryz.ntmps16
      go_wp2_with (first | ((with_reducible refine HW.out.mono ?_); intro e w1 hp; obtain ⟨g, cap, rfl, hc, hg, hg2, hcap, hfz, hb⟩ := hp.cons; have HB := Lib.hid hb; have HC := Lib.hid hc; have c0 := hc 0 x rfl; have q0 : (0 : Int) < (r.length : Int) + 1 := (by omega); clear hp hb hc) | ((with_reducible refine (hJ HC.out hg2 hcap).mono ?_); rintro e w2 ⟨rfl, hb2⟩; have HB2 := Lib.hid hb2; clear hb2))
      go_ret
      exact ⟨rfl, (HB0.out.trans (HB.out.mono (by simp))).trans (HB2.out.mono (by have := HB.out.size; simp at this; omega))⟩
end Go.Proofs.YtkgnmlllmihmlaaGreatDoor
