/-
  Layer 10: contract of remaining.
-/
import Derived.Test.YtgnpbodhjmappaaPMP
import Derived.Test.YtgnpbodhjmappaaPMO
import Derived.Test.YtgnpbodhjmappaaPMD
import Derived.Deep.CutBlock
set_option linter.unusedVariables false
set_option linter.unusedSimpArgs false
namespace Go.Proofs.Ytgnpbodhjmappaa
set_option maxRecDepth 100000
open Go.RowKit Cd
def Cd.placeL (K : List Bool) (n k : Nat) : List Int := (List.range n).map (fun a : Nat => if a < k then nidx K (a : Int) else 0)
theorem placeL_len (K : List Bool) (n k : Nat) : (placeL K n k).length = n := by simp [placeL]
theorem placeL_zero (K : List Bool) (n : Nat) : placeL K n 0 = List.replicate n 0 := by
  apply List.ext_getElem?
  intro j
  unfold placeL
  rw [List.getElem?_map, List.getElem?_replicate]
  by_cases h : j < n
  · rw [List.getElem?_range h, if_pos h]; rfl
  · rw [List.getElem?_eq_none (by simpa using h), if_neg h]; rfl
theorem placeL_set (K : List Bool) {n k : Nat} (h : k < n) : (placeL K n k).set k (nidx K (k : Int)) = placeL K n (k + 1) := by
  apply List.ext_getElem?
  intro j
  rw [List.getElem?_set]
  by_cases e : k = j
  · subst e
    rw [if_pos rfl, if_pos (by rw [placeL_len]; exact h)]
    unfold placeL
    rw [List.getElem?_map, List.getElem?_range h]
    simp
  · rw [if_neg e]
    unfold placeL
    rw [List.getElem?_map, List.getElem?_map]
    by_cases hj : j < n
    · rw [List.getElem?_range hj]
      simp only [Option.map_some]
      by_cases h1 : j < k
      · rw [if_pos h1, if_pos (by omega)]
      · rw [if_neg h1, if_neg (by omega)]
    · rw [List.getElem?_eq_none (by simpa using hj)]; rfl
theorem placeL_at (K : List Bool) {n j : Nat} (h : j < n) : (placeL K n n)[j]? = some (nidx K (j : Int)) := by
  unfold placeL
  rw [List.getElem?_map, List.getElem?_range h]
  simp [h]
theorem leftC_cons (K0 : List Bool) (a : Bool) (A : List Bool) (i : Ins) (c : List Ins) : leftC K0 (a :: A) (i :: c) = if a then moveI K0 i :: leftC K0 A c else leftC K0 A c := by rw [leftC]
theorem leftC_app (K0 : List Bool) : ∀ (A B : List Bool) (c d : List Ins), A.length = c.length → leftC K0 (A ++ B) (c ++ d) = leftC K0 A c ++ leftC K0 B d
  | [], B, [], d, _ => by simp [leftC]
  | [], _, _ :: _, _, h => by cases h
  | _ :: _, _, [], _, h => by cases h
  | a :: A, B, i :: c, d, h => by
    have ih := leftC_app K0 A B c d (by simpa using h)
    rw [List.cons_append, List.cons_append, leftC_cons, leftC_cons, ih]
    cases a <;> simp
def Cd.leftT (K : List Bool) (c : List Ins) (k : Nat) : List Ins := leftC K (K.take k) (c.take k)
theorem leftT_zero (K : List Bool) (c : List Ins) : leftT K c 0 = [] := by simp [leftT, leftC]
theorem leftT_all {K : List Bool} {c : List Ins} (h : K.length = c.length) : leftT K c c.length = leftC K K c := by
  unfold leftT
  rw [List.take_length, ← h, List.take_length]
theorem leftT_more {K : List Bool} {c : List Ins} (h : K.length = c.length) {k : Nat} {b : Bool} {i : Ins} (hb : K[k]? = some b) (hi : c[k]? = some i) : leftT K c (k + 1) = leftT K c k ++ (if b = true then [moveI K i] else []) := by
  unfold leftT
  rw [List.take_add_one, List.take_add_one, hb, hi]
  have hk := (List.getElem?_eq_some_iff.1 hi).1
  rw [leftC_app _ _ _ _ _ (by rw [List.length_take, List.length_take]; omega)]
  congr 1
theorem leftT_le (K : List Bool) (c : List Ins) : ∀ k, (leftT K c k).length ≤ k := by
  have key : ∀ (K0 K : List Bool) (c : List Ins), (leftC K0 K c).length ≤ c.length := by
    intro K0 K
    induction K with
    | nil => intro c; simp [leftC]
    | cons b K ih =>
      intro c
      cases c with
      | nil => simp [leftC]
      | cons i c =>
        have := ih c
        unfold leftC
        cases b <;> simp <;> omega
  intro k
  have := key K (K.take k) (c.take k)
  rw [List.length_take] at this
  unfold leftT
  omega
abbrev zeroFnO : Obj := .cells #[.string (sb []), .int .i64 0, .int .i64 0, .int .i64 0, .slice none 0 0] 24
structure RmSt (w0 w : World) (r : FnR) (l : List Int) (oa : Option Addr) (gone : List Bool) : Prop where
  fb : w.heap[w0.heap.size]? = some (fnO r)
  zb : w.heap[w0.heap.size + 1]? = some zeroFnO
  pl : IRow w (w0.heap.size + 2) l
  code : CodeAt w w0.heap.size r
  gon : RowAt w w0.heap.size oa (bools gone)
  hb : Below w0.heap.size w0 w
section
variable {w0 w w' : World} {r : FnR} {l : List Int} {oa : Option Addr} {gone : List Bool}
theorem RmSt.lt (h : RmSt w0 w r l oa gone) : w0.heap.size + 3 ≤ w.heap.size := by have := VRow.lt h.pl; omega
theorem RmSt.keep (h : RmSt w0 w r l oa gone) (hb : Below (w0.heap.size + 3) w w') : RmSt w0 w' r l oa gone := by
  have h9 := hb.mono (show w0.heap.size ≤ w0.heap.size + 3 by omega)
  exact ⟨(hb.block _ (by omega)).trans h.fb, (hb.block _ (by omega)).trans h.zb, VRow.keep h.pl (hb.block _ (by omega)), h.code.below h9, h.gon.below h9, h.hb.trans h9⟩
theorem RmSt.below (h : RmSt w0 w r l oa gone) (hb : Below w.heap.size w w') : RmSt w0 w' r l oa gone := h.keep (hb.mono h.lt)
theorem RmSt.put (h : RmSt w0 w r l oa gone) (k : Nat) (x : Int) : RmSt w0 (w.setCell ⟨w0.heap.size + 2, k, none⟩ (.int .i64 x)) r (l.set k x) oa gone := by
  have hb : Below w0.heap.size w (w.setCell ⟨w0.heap.size + 2, k, none⟩ (.int .i64 x)) := ((Below.refl w.heap.size w).mono (by have := h.lt; omega)).setCell (by simp) _
  refine ⟨(Below.heap_setCell _ _ _ _ (by simp)).trans h.fb, (Below.heap_setCell _ _ _ _ (by simp)).trans h.zb, ?_, h.code.below hb, h.gon.below hb, h.hb.trans hb⟩
  have := VRow.set h.pl k (.int .i64 x)
  have e : ints (l.set k x) = (ints l).set k (.int .i64 x) := List.map_set ..
  unfold IRow
  rw [e]
  exact this
end
theorem make_ins0 (n : Nat) (hn : n ≤ 10000) (w : World) : (Instr.makeSlice 22 (.int .i64 0) (.int .i64 (n : Int))).run Try.prog w = .ok (.slice (some ⟨w.heap.size, 0, none⟩) 0 n) (w.alloc (insObj (List.replicate n zeroIns))) := by
  obtain ⟨i, hi, hzz⟩ := Option.map_eq_some_iff.1 infoIns
  simp only [Prod.mk.injEq] at hzz
  obtain ⟨hz, hs, hb⟩ := hzz
  have hr := run_make (P := Try.prog) w 22 46 i (inV zeroIns) Try.underlying22 hi hz .i64 .i64 0 n (by omega) (by omega) (by rw [hb]; omega) (by omega)
  rw [Int.toNat_natCast, hs] at hr
  rw [hr]
  have e : madeCells (inV zeroIns).cells (n * 15) = ((List.replicate n zeroIns).flatMap inCells).toArray := by
    have h1 := made_flat (inCells zeroIns) (by simp [inCells]) n
    have h2 : (inV zeroIns).cells = (inCells zeroIns).toArray := rfl
    have h3 : (inCells zeroIns).length = 15 := rfl
    rw [h2, ← h3]
    refine h1.trans (congrArg List.toArray ?_)
    clear h1 hr
    induction n with
    | zero => rfl
    | succ n ih =>
      rw [List.replicate_succ, List.replicate_succ, List.flatMap_cons, List.flatMap_cons, ih (by omega)]
  rw [e]; rfl
theorem own_ins0 (w : World) (n : Nat) (hn : n ≤ 10000) : (w.alloc (insObj (List.replicate n zeroIns))).ownsRow w.heap.size 46 15 (.slice (some ⟨w.heap.size, 0, none⟩) 0 n) 0 ([].flatMap inCells) :=
  ⟨by simp, .inr ⟨w.heap.size, n, ((List.replicate n zeroIns).flatMap inCells).toArray, rfl, Nat.le_refl _, heap_alloc_new w _, by omega, by unfold maxLen; omega, by rw [List.size_toArray, flat_len inCells_len, List.length_replicate], by simp⟩⟩
theorem nidx_len {K : List Bool} {n : Nat} (h : K.length = n) : nidx K (n : Int) = ((K.filter id).length : Nat) := by
  unfold nidx
  rw [Int.toNat_natCast, ← h, List.take_length]
theorem addr_add0 (g j : Nat) : (⟨g, 0, none⟩ : Addr).add j = ⟨g, j, none⟩ := by unfold Addr.add; split <;> simp_all
abbrev rmW (w3 : World) (z : Nat) (name : List UInt8) (params regs frame : Int) (v : Value) : World := ((((((w3.setCell ⟨z, 4, none⟩ v).setCell ⟨z + 1, 0, none⟩ (.string (sb name))).setCell ⟨z + 1, 1, none⟩ (.int .i64 params)).setCell ⟨z + 1, 2, none⟩ (.int .i64 regs)).setCell ⟨z + 1, 3, none⟩ (.int .i64 frame)).setCell ⟨z + 1, 4, none⟩ v)
theorem rm_end {w3 : World} {z : Nat} (h : w3.heap[z + 1]? = some zeroFnO) (name : List UInt8) (params regs frame : Int) (v : Value) :
    (rmW w3 z name params regs frame v).heap[z + 1]? = some (.cells #[.string (sb name), .int .i64 params, .int .i64 regs, .int .i64 frame, v] 24) ∧ (∀ j, j ≠ z → j ≠ z + 1 → (rmW w3 z name params regs frame v).heap[j]? = w3.heap[j]?) ∧ Below z w3 (rmW w3 z name params regs frame v) := by
  have h0 : (w3.setCell ⟨z, 4, none⟩ v).heap[z + 1]? = _ := (heap_oth (by omega)).trans h
  have h1 := cells_set (cells_set (cells_set (cells_set (cells_set h0 0 (.string (sb name))) 1 (.int .i64 params)) 2 (.int .i64 regs)) 3 (.int .i64 frame)) 4 v
  refine ⟨by simpa using h1, fun j hj hj1 => ?_, ?_⟩
  · exact (heap_oth hj1).trans ((heap_oth hj1).trans ((heap_oth hj1).trans ((heap_oth hj1).trans ((heap_oth hj1).trans (heap_oth hj)))))
  · exact ((((((Below.refl z w3).setCell (Nat.le_refl _) _).setCell (by simp) _).setCell (by simp) _).setCell (by simp) _).setCell (by simp) _).setCell (by simp) _
theorem rm_post {w0 wr : World} (name : List UInt8) (params regs frame : Int) (L : List Ins) (g vc : Nat) (hz : wr.heap[w0.heap.size + 1]? = some zeroFnO) (hb : Below w0.heap.size w0 wr) (hg : w0.heap.size + 3 ≤ g) (hgl : g < wr.heap.size) (hc : ∀ (j : Nat) (u : Value), (L.flatMap inCells)[j]? = some u → wr.cell? ((⟨g, 0, none⟩ : Addr).add j) = some u) :
    SwF ⟨name, params, regs, frame, L⟩ w0 (.returned (fnV ⟨⟨name, params, regs, frame, L⟩, some ⟨g, 0, none⟩, vc⟩)) (rmW wr w0.heap.size name params regs frame (.slice (some ⟨g, 0, none⟩) L.length vc)) := by
  obtain ⟨_, p2, p3⟩ := rm_end hz name params regs frame (.slice (some ⟨g, 0, none⟩) L.length vc)
  generalize rmW wr w0.heap.size name params regs frame (.slice (some ⟨g, 0, none⟩) L.length vc) = V at *
  have h4 := p2 g (by omega) (by omega)
  refine ⟨g, vc, rfl, by omega, Nat.lt_of_lt_of_le hgl p3.size, fun j u hu => ?_, hb.trans p3⟩
  have h9 := hc j u hu
  rw [addr_add0] at h9
  exact (World.cell?_of_block (w := wr) h4).trans h9
set_option maxHeartbeats 16000000 in
theorem remaining_v (name : List UInt8) (params regs frame : Int) (code : List Ins) (ca : Option Addr) (cc : Nat) (oa : Option Addr) (oc : Nat) (gone : List Bool) (w : World) (hC : CodeAt w w.heap.size ⟨⟨name, params, regs, frame, code⟩, ca, cc⟩) (hG : RowAt w w.heap.size oa (bools gone)) (hgl : gone.length = code.length)
    (hin : ∀ (p : Nat) (i : Ins), code[p]? = some i → (i.kind = 11 ∨ i.kind = 12 → 0 ≤ i.dest ∧ i.dest < (code.length : Int)) ∧ (i.kind = 12 → 0 ≤ i.els ∧ i.els < (code.length : Int))) (hlen : code.length ≤ 10000) (hne : leftC (keptOf gone) (keptOf gone) code ≠ []) :
    Calls Try.prog 38 #[fnV ⟨⟨name, params, regs, frame, code⟩, ca, cc⟩, .slice oa gone.length oc] w (SwF ⟨name, params, regs, frame, leftC (keptOf gone) (keptOf gone) code⟩ w) := by
  obtain ⟨K, hK⟩ : ∃ K, keptOf gone = K := ⟨_, rfl⟩
  have hKl : K.length = code.length := by rw [← hK, ← hgl]; simp [keptOf]
  have hKb : ∀ (p : Nat) (b : Bool), gone[p]? = some b → K[p]? = some (!b) := fun p b hb => by rw [← hK]; unfold keptOf; rw [List.getElem?_map, hb]; rfl
  rw [hK] at hne ⊢
  obtain ⟨i0, hi0, hz0, hz1, hz2⟩ := info_parts' infoIns
  have hm1 := make_ints code.length (by omega)
  obtain ⟨mn, hmn⟩ : ∃ mn, (K.filter id).length = mn := ⟨_, rfl⟩
  have hmn2 : mn ≤ code.length := by rw [← hmn, ← hKl]; exact List.length_filter_le _ _
  have hm2 := make_ins0 mn (by omega)
  obtain ⟨h1, h2, h3, hs⟩ := two_new w (fnO ⟨⟨name, params, regs, frame, code⟩, ca, cc⟩) zeroFnO
  have HS0 : Hid (RmSt w (((w.alloc (fnO ⟨⟨name, params, regs, frame, code⟩, ca, cc⟩)).alloc zeroFnO).alloc (iObj (List.replicate code.length 0))) ⟨⟨name, params, regs, frame, code⟩, ca, cc⟩ (placeL K code.length 0) oa gone) := Lib.hid (by
    have hb := h3.alloc (show w.heap.size ≤ ((w.alloc (fnO ⟨⟨name, params, regs, frame, code⟩, ca, cc⟩)).alloc zeroFnO).heap.size by omega) (iObj (List.replicate code.length 0))
    refine ⟨(Below.heap_alloc _ _ _ (by omega)).trans h1, (Below.heap_alloc _ _ _ (by omega)).trans h2, ?_, hC.below hb, hG.below hb, hb⟩
    have := VRow.newI ((w.alloc (fnO ⟨⟨name, params, regs, frame, code⟩, ca, cc⟩)).alloc zeroFnO) (List.replicate code.length 0)
    rw [hs] at this
    rw [placeL_zero]
    exact this)
  obtain ⟨x0, x1, x2, x3, x4⟩ := nv5 h1
  have HIN := Lib.hid hin; have HKB := Lib.hid hKb; have HKL := Lib.hid hKl; have HNE := Lib.hid hne; have HGL := Lib.hid hgl; have HMN := Lib.hid hmn
  have hgl2 : gone.length ≤ 10000 := by omega
  clear hC hG hin hKb hne hK h1 h2 h3 hKl
  go_enter Try.func38, Try.ntmps38
  go_wp2
  clear x0 x1 x2 x3 x4 hm1
  go_loopw [6, 18] (fun s6 s18 wr => ∃ k q : Nat, k ≤ code.length ∧ s18 = .int .i64 (k : Int) ∧ s6 = .int .i64 (q : Int) ∧ q ≤ k ∧ Hid (nidx K (k : Int) = (q : Int)) ∧ Hid (RmSt w wr ⟨⟨name, params, regs, frame, code⟩, ca, cc⟩ (placeL K code.length k) oa gone)) (fun _ s18 wr => code.length - (Go.RowKit.intOf s18).toNat)
  case atStart => exact ⟨0, 0, by omega, rfl, rfl, by omega, Lib.hid rfl, HS0⟩
  case round =>
    clear HS0
    obtain ⟨k, q, hk, rfl, rfl, hq, HQ, HS⟩ := hrel
    have k0 : (0 : Int) ≤ (k : Int) := Int.natCast_nonneg _
    have q0 : (0 : Int) ≤ (q : Int) := Int.natCast_nonneg _
    by_cases hlt : k < code.length
    · have k1 : (k : Int) < (code.length : Int) := by omega
      have HP := Lib.hid (HS.out.put k (nidx K (k : Int)))
      rw [HQ.out] at HP
      have hcell : wr.cell? ⟨w.heap.size + 2, k, none⟩ = some (.int .i64 ((placeL K code.length k).getD k 0)) := IRow.cell HS.out.pl (by rw [List.getD_eq_getElem?_getD, List.getElem?_eq_getElem (by rw [placeL_len]; exact hlt)]; rfl)
      have hfr : wr.frozen? ⟨w.heap.size + 2, k, none⟩ = false := VRow.frozen HS.out.pl k
      obtain ⟨ob, ooff, rfl, hob, hoc⟩ := bool_cell (k := k) HP.out.gon (by omega)
      have HPL : Hid ((placeL K code.length k).set k (q : Int) = placeL K code.length (k + 1)) := Lib.hid (by rw [← HQ.out]; exact placeL_set K hlt)
      rw [HPL.out] at HP
      obtain ⟨gv, hgv⟩ : ∃ gv, gone.getD k false = gv := ⟨_, rfl⟩
      have hgk : gone[k]? = some gv := by rw [List.getD_eq_getElem?_getD, List.getElem?_eq_getElem (by omega)] at hgv; rw [List.getElem?_eq_getElem (by omega)]; exact congrArg some hgv
      have hKk := HKB.out k gv hgk
      have HLT := Lib.hid hlt
      rw [hgv] at hoc
      clear hlt hgv hgk
      cases gv with
      | true =>
        have HN : Hid (nidx K ((k + 1 : Nat) : Int) = (q : Int)) := Lib.hid (by rw [show ((k + 1 : Nat) : Int) = (k : Int) + 1 by omega, nidx_no (by omega) (by rw [Int.toNat_natCast]; exact hKk)]; exact HQ.out)
        clear hKk
        go_wp2
        go_roundw
        case rel => exact ⟨k + 1, q, HLT.out, by go_num, rfl, by omega, HN, HP⟩
        case measure => have := HLT.out; simp [Go.RowKit.intOf]; omega
      | false =>
        have HN : Hid (nidx K ((k + 1 : Nat) : Int) = ((q + 1 : Nat) : Int)) := Lib.hid (by rw [show ((k + 1 : Nat) : Int) = (k : Int) + 1 by omega, nidx_yes (by omega) (by rw [Int.toNat_natCast]; exact hKk), HQ.out]; omega)
        clear hKk
        go_wp2
        go_roundw
        case rel => exact ⟨k + 1, q + 1, HLT.out, by go_num, by go_num, by omega, HN, HP⟩
        case measure => have := HLT.out; simp [Go.RowKit.intOf]; omega
    · obtain rfl : k = code.length := by omega
      have hqm : q = mn := by have h1 := HQ.out; rw [nidx_len HKL.out, HMN.out] at h1; omega
      subst hqm
      have hsz := HS.out.lt
      have HO0 : Hid ((wr.alloc (insObj (List.replicate q zeroIns))).ownsRow (w.heap.size + 3) 46 15 (.slice (some ⟨wr.heap.size, 0, none⟩) 0 q) (leftT K code 0).length ((leftT K code 0).flatMap inCells)) := Lib.hid (by rw [leftT_zero]; exact ownsRow_le (own_ins0 wr q (by omega)) hsz)
      have HS1 := Lib.hid (HS.out.below ((Below.refl wr.heap.size wr).alloc (Nat.le_refl _) (insObj (List.replicate q zeroIns))))
      obtain ⟨x0, x1, x2, x3, x4⟩ := nv5 HS1.out.fb
      clear x0 x1 x2 x3 HS HQ
      go_wp2
      clear x4 hm2
      go_loopw [8, 38] (fun s8 s38 wr => ∃ k : Nat, k ≤ code.length ∧ s38 = .int .i64 (k : Int) ∧ Hid (wr.ownsRow (w.heap.size + 3) 46 15 s8 (leftT K code k).length ((leftT K code k).flatMap inCells)) ∧ Hid (RmSt w wr ⟨⟨name, params, regs, frame, code⟩, ca, cc⟩ (placeL K code.length code.length) oa gone)) (fun _ s38 wr => code.length - (Go.RowKit.intOf s38).toNat)
      case atStart => exact ⟨0, by omega, rfl, HO0, HS1⟩
      case round =>
        clear HO0 HS1 hsz
        obtain ⟨k, hk, rfl, HO, HS⟩ := hrel
        have k0 : (0 : Int) ≤ (k : Int) := Int.natCast_nonneg _
        obtain ⟨va, vc, rfl⟩ := row_slice HO.out
        have hsz := HS.out.lt
        by_cases hlt : k < code.length
        · have k1 : (k : Int) < (code.length : Int) := by omega
          obtain ⟨i, hi⟩ : ∃ i, code[k]? = some i := ⟨_, List.getElem?_eq_getElem hlt⟩
          obtain ⟨b, off, hca, hb, hBw, q0, q1, q2, q3, q4, q5, q6, q7, q8, q9, q10, q11, q12, q13, q14⟩ := HS.out.code.cells hi
          simp only at hca
          subst hca
          obtain ⟨gv, hgv⟩ : ∃ gv, gone.getD k false = gv := ⟨_, rfl⟩
          have hgk : gone[k]? = some gv := by rw [List.getD_eq_getElem?_getD, List.getElem?_eq_getElem (by omega)] at hgv; rw [List.getElem?_eq_getElem (by omega)]; exact congrArg some hgv
          have hKk := HKB.out k gv hgk
          have hmore := leftT_more HKL.out hKk hi
          obtain ⟨hin1, hin2⟩ := HIN.out k i hi
          have HLT := Lib.hid hlt; have HMO := Lib.hid hmore; have HI1 := Lib.hid hin1; have HI2 := Lib.hid hin2
          clear hlt hgk hKk hmore hi hin1 hin2
          go_upto_region 14 with fail
          have HBX := Lib.hid ((Below.refl wr.heap.size wr).alloc (Nat.le_refl _) (inO i))
          have HP := Lib.hid (heap_alloc_new wr (inO i))
          have HSA := Lib.hid (HS.out.below HBX.out)
          have HOA := Lib.hid (own_keep HO.out (fun g hg => HBX.out.block g (HO.out.lt g hg).2))
          have hoY : ∀ g, (Value.slice va (leftT K code k).length vc).ownBlock = some g → g < wr.heap.size := fun g hg => (HO.out.lt g hg).2
          have HOY := Lib.hid hoY
          clear HBX HS HO q0 q1 q2 q3 q4 q5 q6 q7 q8 q9 q10 q11 q12 q13 q14 hoY
          obtain ⟨wa, hwa⟩ : ∃ wa, wr.alloc (inO i) = wa := ⟨_, rfl⟩
          obtain ⟨Y, hY⟩ : ∃ Y, wr.heap.size = Y := ⟨_, rfl⟩
          have hYa : wa.heap.size = Y + 1 := by rw [← hwa, ← hY]; simp
          rw [hwa] at HP HSA HOA ⊢
          rw [hY] at HP HOY hsz ⊢
          clear hwa hY
          obtain ⟨ob, ooff, rfl, hob, hoc⟩ := bool_cell (k := k) HSA.out.gon (by omega)
          rw [hgv] at hoc
          clear hgv
          cases gv with
          | true =>
            have HM : Hid (leftT K code (k + 1) = leftT K code k) := Lib.hid (by rw [HMO.out]; simp)
            go_wp2
            go_roundw
            case rel => exact ⟨k + 1, HLT.out, by go_num, by rw [HM.out]; exact HOA, HSA⟩
            case measure => have := HLT.out; simp [Go.RowKit.intOf]; omega
          | false =>
            have HM : Hid (leftT K code (k + 1) = leftT K code k ++ [moveI K i]) := Lib.hid (by rw [HMO.out]; simp)
            obtain ⟨d0, d1, d2, d3, d4, d5, d6, d7, d8, d9, d10, d11, d12, d13, d14⟩ := nv15 HP.out
            clear d1 d2 d3 d4 d5 d6 d7 d8 d9 d10 d11 d12
            have hLk := leftT_le K code k
            have hkl := HLT.out
            have fz : ∀ j, wa.frozen? ⟨Y, j, none⟩ = false := fun j => by simp [World.frozen?, HP.out]
            go_upto_block 4 with fail
            go_cut [] from 49 to 64 (fun wc => Hid (RmSt w wc ⟨⟨name, params, regs, frame, code⟩, some ⟨b, off, none⟩, cc⟩ (placeL K code.length code.length) (some ⟨ob, ooff, none⟩) gone) ∧ Hid (wc.heap[Y]? = some (inO (moveI K i))) ∧ Hid (wc.ownsRow (w.heap.size + 3) 46 15 (.slice va (leftT K code k).length vc) (leftT K code k).length ((leftT K code k).flatMap inCells)) ∧ wc.heap.size = Y + 1)
            case first =>
              by_cases h12 : i.kind = 12
              · obtain ⟨e0, e1⟩ := HI2.out h12
                obtain ⟨f0, f1⟩ := HI1.out (.inr h12)
                obtain ⟨el, hel⟩ : ∃ el : Nat, i.els = (el : Int) := ⟨i.els.toNat, by omega⟩
                obtain ⟨dl, hdl⟩ : ∃ dl : Nat, i.dest = (dl : Int) := ⟨i.dest.toNat, by omega⟩
                rw [hel] at d14 e0 e1
                rw [hdl] at d13 f0 f1
                have t12 : (i.kind == (12 : Int)) = true := by rw [h12]; rfl
                have hc14 : wa.cell? ⟨w.heap.size + 2, el, none⟩ = some (.int .i64 (nidx K (el : Int))) := IRow.cell HSA.out.pl (placeL_at K (by omega))
                have hx14 : (wa.setCell ⟨Y, 14, none⟩ (.int .i64 (nidx K (el : Int)))).heap[Y]? = some (inO { i with els := nidx K (el : Int) }) := by
                  have := cells_set HP.out 14 (.int .i64 (nidx K (el : Int)))
                  simpa using this
                have hb14 : Below (w.heap.size + 3) wa (wa.setCell ⟨Y, 14, none⟩ (.int .i64 (nidx K (el : Int)))) := ((Below.refl wa.heap.size wa).mono (by omega)).setCell (by simpa using hsz) _
                have HS14 := Lib.hid (HSA.out.keep hb14)
                have HX14 := Lib.hid hx14
                have HO14 := Lib.hid (own_keep (w' := wa.setCell ⟨Y, 14, none⟩ (.int .i64 (nidx K (el : Int)))) HOA.out (fun g hg => Below.heap_setCell _ _ _ _ (by have := HOY.out g hg; simp; omega)))
                have hc13 : (wa.setCell ⟨Y, 14, none⟩ (.int .i64 (nidx K (el : Int)))).cell? ⟨w.heap.size + 2, dl, none⟩ = some (.int .i64 (nidx K (dl : Int))) := IRow.cell HS14.out.pl (placeL_at K (by omega))
                obtain ⟨r0, r1, r2, r3, r4, r5, r6, r7, r8, r9, r10, r11, r12, r13, r14⟩ := nv15 hx14
                have fz14 : ∀ j, (wa.setCell ⟨Y, 14, none⟩ (.int .i64 (nidx K (el : Int)))).frozen? ⟨Y, j, none⟩ = false := fun j => by simp [World.frozen?, HX14.out]
                simp only [hdl] at r13
                clear r0 r1 r2 r3 r4 r5 r6 r7 r8 r9 r10 r11 r12 r14 hx14 hb14
                go_wp2
                go_meet
                refine ⟨?_, ?_, ?_, ?_⟩
                · exact Lib.hid (HS14.out.keep (((Below.refl (wa.setCell ⟨Y, 14, none⟩ (.int .i64 (nidx K (el : Int)))).heap.size (wa.setCell ⟨Y, 14, none⟩ (.int .i64 (nidx K (el : Int))))).mono (by simp [World.setCell]; omega)).setCell (by simpa using hsz) _))
                · refine Lib.hid ?_
                  have := cells_set HX14.out 13 (.int .i64 (nidx K (dl : Int)))
                  rw [this]
                  simp [moveI, h12, hel, hdl]
                · exact Lib.hid (own_keep HO14.out (fun g hg => Below.heap_setCell _ _ _ _ (by have := HOY.out g hg; simp; omega)))
                · simp [World.setCell]; omega
              · have t12 : (i.kind == (12 : Int)) = false := by simpa using h12
                by_cases h11 : i.kind = 11
                · obtain ⟨f0, f1⟩ := HI1.out (.inl h11)
                  obtain ⟨dl, hdl⟩ : ∃ dl : Nat, i.dest = (dl : Int) := ⟨i.dest.toNat, by omega⟩
                  rw [hdl] at d13 f0 f1
                  have t11 : (i.kind == (11 : Int)) = true := by rw [h11]; rfl
                  have hc13 : wa.cell? ⟨w.heap.size + 2, dl, none⟩ = some (.int .i64 (nidx K (dl : Int))) := IRow.cell HSA.out.pl (placeL_at K (by omega))
                  go_wp2
                  go_meet
                  refine ⟨?_, ?_, ?_, ?_⟩
                  · exact Lib.hid (HSA.out.keep (((Below.refl wa.heap.size wa).mono (by omega)).setCell (by simpa using hsz) _))
                  · refine Lib.hid ?_
                    have := cells_set HP.out 13 (.int .i64 (nidx K (dl : Int)))
                    rw [this]
                    simp [moveI, h11, hdl]
                  · exact Lib.hid (own_keep HOA.out (fun g hg => Below.heap_setCell _ _ _ _ (by have := HOY.out g hg; simp; omega)))
                  · simp [World.setCell]; omega
                · have t11 : (i.kind == (11 : Int)) = false := by simpa using h11
                  go_wp2
                  go_meet
                  refine ⟨HSA, Lib.hid ?_, HOA, hYa⟩
                  rw [show moveI K i = i by simp [moveI, h11, h12]]
                  exact HP.out
            case rest =>
              obtain ⟨HSC, HXC, HOC, hwc⟩ := hcut
              clear hwc hYa hsz
              have hsz := HSC.out.lt
              obtain ⟨j, hj⟩ : ∃ j, moveI K i = j := ⟨_, rfl⟩
              rw [hj] at HXC HM
              clear d0 d13 d14 fz HSA HOA HP hoc
              obtain ⟨d0, d1, d2, d3, d4, d5, d6, d7, d8, d9, d10, d11, d12, d13, d14⟩ := nv15 HXC.out
              go_wp2_with (at_builtin; go_loud (refine wpList_append_lies _ rfl (.tmp 65) (.tmp 67) 22 rfl (w.heap.size + 3) 46 i0 _ 15 128 Try.underlying22 hi0 hz0 hz1 hz2 rfl (by decide) (.slice va (leftT K code k).length vc) (leftT K code k).length ((leftT K code k).flatMap inCells) rfl (HOC.out.alloc _) ⟨wc.heap.size, 0, none⟩ 1 1 (inCells j) rfl rfl (World.news_of_block (cs := (inCells j).toArray) (heap_alloc_new wc _)) (by simp [inCells, Value.oneCell']) (by omega) (by unfold maxLen; omega) (by omega) (by simp <;> omega) (wc.heap.size + 1) (by simp) ?_; intro g3 cap3 w3 hown3 hgrow hat hlt3; have HS3 : Hid (RmSt w w3 ⟨⟨name, params, regs, frame, code⟩, some ⟨b, off, none⟩, cc⟩ (placeL K code.length code.length) (some ⟨ob, ooff, none⟩) gone) := Lib.hid (HSC.out.keep ((((Below.refl wc.heap.size wc).mono (by omega)).alloc (by omega) _).grown hgrow (by simp <;> omega) (fun q e => (HOC.out.lt q e).1))); have HO3 := Lib.hid hown3; clear hown3 hgrow hat hlt3 d0 d1 d2 d3 d4 d5 d6 d7 d8 d9 d10 d11 d12 d13 d14))
              go_roundw
              case rel => exact ⟨k + 1, HLT.out, by go_num, by rw [HM.out, List.length_append, List.flatMap_append]; exact Lib.hid (by simpa using HO3.out), HS3⟩
              case measure => have := HLT.out; simp [Go.RowKit.intOf]; omega
        · obtain rfl : k = code.length := by omega
          obtain ⟨L, hL⟩ : ∃ L, leftC K K code = L := ⟨_, rfl⟩
          have hlt2 : leftT K code code.length = L := (leftT_all HKL.out).trans hL
          have hne2 : L ≠ [] := by rw [← hL]; exact HNE.out
          have HL2 := Lib.hid hL
          rw [hlt2] at HO ⊢
          obtain ⟨g, cap, cur, e9, hg1, _, _, _, _, _⟩ := HO.out.2.resolve_left (fun h => hne2 (List.eq_nil_of_length_eq_zero h.2))
          injection e9 with e1 e2 e3
          subst e1 e3
          have hgl2 := (HO.out.lt g rfl).2
          have HCE := Lib.hid (HO.out.cells (g := g) rfl)
          obtain ⟨x0, x1, x2, x3, x4⟩ := nv5 HS.out.fb
          obtain ⟨z0, z1, z2, z3, z4⟩ := nv5 HS.out.zb
          have fx : ∀ j, wr.frozen? ⟨w.heap.size, j, none⟩ = false := fun j => by simp [World.frozen?, HS.out.fb]
          have fy : ∀ j, wr.frozen? ⟨w.heap.size + 1, j, none⟩ = false := fun j => by simp [World.frozen?, HS.out.zb]
          clear HO hlt2 hL hne2
          go_wp2
          obtain ⟨p1, p2, p3⟩ := rm_end HS.out.zb name params regs frame (.slice (some ⟨g, 0, none⟩) L.length vc)
          obtain ⟨u0, u1, u2, u3, u4⟩ := nv5 p1
          refine bodyPost_ret (v := fnV ⟨⟨name, params, regs, frame, L⟩, some ⟨g, 0, none⟩, vc⟩) (by simp [results, Try.results38, go_sem, u0, u1, u2, u3, u4] <;> rfl) rfl ?_
          rw [HL2.out]
          exact rm_post name params regs frame L g vc HS.out.zb HS.out.hb hg1 hgl2 HCE.out
end Go.Proofs.Ytgnpbodhjmappaa
namespace Go.Proofs.Ytgnpbodhjmappaa
set_option maxRecDepth 100000
open Go.RowKit Cd Go.Maps
noncomputable def Cd.startG (c : List Ins) : List Bool := (foundB (nextG c) [0] (-1)).map (fun b => !b)
theorem startG_len (c : List Ins) : (startG c).length = c.length := by unfold startG; rw [List.length_map, foundB_len, nextG_len]
theorem gone_start {c : List Ins} (hc : Closed c) (h0 : 0 < c.length) : GoneK c (keptOf (startG c)) := by
  have e : keptOf (startG c) = foundB (nextG c) [0] (-1) := by
    unfold keptOf startG
    rw [List.map_map]
    exact (List.map_congr_left (fun b _ => by simp)).trans (List.map_id _)
  rw [e]
  exact .start (by rw [foundB_len, nextG_len]) (fun p hp => (foundB_at (by rw [nextG_len]; exact hp)).trans (path_reach hc h0))
theorem Cd.GoneK.least {c : List Ins} {K K2 : List Bool} (h : GoneK c K) (h2 : GoneK c K2) (hd : DoneK c K2) : ∀ p : Nat, K2[p]? = some true → K[p]? = some true := by
  induction h with
  | @start K h1 hs => exact fun p hp => (hs p (by rw [← h2.len]; exact (List.getElem?_eq_some_iff.1 hp).1)).2 (h2.kept hp)
  | @out K p i h1 hk hi hpi hb ih =>
    intro q hq
    by_cases e : p = q
    · subst e
      refine absurd ((hd p i hq hi hpi).mono (fun x hx => ?_)) hb
      exact fun h9 => hx (ih _ h9)
    · rw [List.getElem?_set_ne e]; exact ih q hq
theorem Cd.GoneK.one {c : List Ins} {K K2 : List Bool} (h : GoneK c K) (hd1 : DoneK c K) (h2 : GoneK c K2) (hd : DoneK c K2) : K = K2 := by
  apply List.ext_getElem?
  intro p
  have a := h.least h2 hd p
  have b := h2.least h hd1 p
  by_cases hp : p < c.length
  · obtain ⟨u, hu⟩ : ∃ u, K[p]? = some u := ⟨_, List.getElem?_eq_getElem (by rw [h.len]; exact hp)⟩
    obtain ⟨v, hv⟩ : ∃ v, K2[p]? = some v := ⟨_, List.getElem?_eq_getElem (by rw [h2.len]; exact hp)⟩
    rw [hu, hv] at a b ⊢
    cases u <;> cases v <;> simp at a b ⊢
  · rw [List.getElem?_eq_none (by rw [h.len]; omega), List.getElem?_eq_none (by rw [h2.len]; omega)]
open Classical in
noncomputable def Cd.sweepK (c : List Ins) : List Bool := if h : ∃ K, GoneK c K ∧ DoneK c K then Classical.choose h else []
theorem sweepK_eq {c : List Ins} {K : List Bool} (h1 : GoneK c K) (h2 : DoneK c K) : sweepK c = K := by
  have h : ∃ K, GoneK c K ∧ DoneK c K := ⟨K, h1, h2⟩
  unfold sweepK
  rw [dif_pos h]
  obtain ⟨a, b⟩ := Classical.choose_spec h
  exact a.one b h1 h2
noncomputable def Cd.sweepF (f : Fnc) : Fnc := if rightF f = true then keepF (sweepK f.code) f else f
theorem sweepF_no {f : Fnc} (h : rightF f = false) : sweepF f = f := by unfold sweepF; rw [if_neg (by rw [h]; simp)]
theorem sweepF_eq {f : Fnc} {K : List Bool} (h : RightF f) (h1 : GoneK f.code K) (h2 : DoneK f.code K) : sweepF f = keepF K f := by unfold sweepF; rw [if_pos (rightF_iff.2 h), sweepK_eq h1 h2]
theorem SetAt.len {w : World} {mb n : Nat} {S : List Int} (h : SetAt w mb n S) : ∃ s : Nat, (∀ ty, (Builtin.len_ #[60] ty #[.map (some mb)]).run Try.prog w = .ok (.int .i64 (s : Int)) w) ∧ (s = 0 ↔ S = []) := by
  obtain ⟨D, hown, _, hhas, _⟩ := h
  refine ⟨Maps.size D, fun ty => hown.len Try.underlying60 ty, ?_⟩
  obtain ⟨w', _, hr, _⟩ := hown.range lawI Try.underlying60
  rcases hr.next lawI 3 with ⟨h0, hl, _⟩ | ⟨key, v, kl, y, w2, cnt2, hk, hl, _, _, _, _, hlt, _⟩
  · refine ⟨fun _ => ?_, fun _ => h0⟩
    cases S with
    | nil => rfl
    | cons x S =>
      have := hl (.int .i64 x)
      rw [hhas x] at this
      simp at this
  · refine ⟨fun e => by omega, fun e => ?_⟩
    obtain ⟨x, _, rfl, _⟩ := Maps.keyOf_int_inv Try.underlying3 hk
    rw [hhas x, e] at hl
    cases hl
structure SwS (w0 w : World) (r : FnR) (X4 lo m : Nat) (b : Nat → Nat) (V : Nat → Int → Value) (gone : List Bool) : Prop where
  fb : w.heap[w0.heap.size]? = some (fnO r)
  zb : w.heap[w0.heap.size + 1]? = some zeroFnO
  ub : w.heap[X4]? = some (usO (some ⟨b 0, 0, none⟩) r.f.code.length r.f.code.length (some ⟨b 1, 0, none⟩) r.f.code.length r.f.code.length (b 2) (b 3) (some ⟨b 4, 0, none⟩) r.f.code.length r.f.code.length)
  us : UsW w lo r.f.code m b V gone
  code : CodeAt w w0.heap.size r
  hb : Below w0.heap.size w0 w
  pl : w0.heap.size + 2 ≤ b 4 ∧ b 4 ≠ X4
section
variable {w0 w w' : World} {r : FnR} {X4 lo m : Nat} {b : Nat → Nat} {V : Nat → Int → Value} {gone gone' : List Bool}
theorem SwS.move (h : SwS w0 w r X4 lo m b V gone) (hs : w.heap.size ≤ w'.heap.size) (hk : ∀ g, g < w.heap.size → g ≠ b 4 → w'.heap[g]? = w.heap[g]?) (hb : Below w0.heap.size w w') (hg : VRow w' (b 4) 4 (bools gone')) (hl : gone'.length = r.f.code.length) : SwS w0 w' r X4 lo m b V gone' :=
  ⟨(hk _ (lt_heap h.fb) (by have := h.pl; omega)).trans h.fb, (hk _ (lt_heap h.zb) (by have := h.pl; omega)).trans h.zb, (hk _ (lt_heap h.ub) (by have := h.pl; omega)).trans h.ub, h.us.move hs hk hg hl, h.code.below hb, h.hb.trans hb, h.pl⟩
theorem SwS.below (h : SwS w0 w r X4 lo m b V gone) (hb : Below w.heap.size w w') : SwS w0 w' r X4 lo m b V gone :=
  h.move hb.size (fun g hg _ => hb.block g hg) (hb.mono h.hb.size) (h.us.gon.keep (hb.block _ h.us.gon.lt)) h.us.gl
theorem SwS.put (h : SwS w0 w r X4 lo m b V gone) (i : Nat) (v : Bool) : SwS w0 (w.setCell ⟨b 4, i, none⟩ (.bool v)) r X4 lo m b V (gone.set i v) := by
  have hu := h.us.put i v
  exact h.move (by simp [World.setCell]) (fun g _ hg => Below.heap_setCell _ _ _ _ (by simpa using hg)) (((Below.refl w.heap.size w).mono h.hb.size).setCell (by have := h.pl; simp; omega) _) hu.gon hu.gl
theorem SwS.lt (h : SwS w0 w r X4 lo m b V gone) : w0.heap.size + 1 < w.heap.size := lt_heap h.zb
end
theorem mix_set {s : List Bool} {n k : Nat} {v : Bool} (hn : s.length = n) (hv : s[k]? = some v) : (s.take k ++ List.replicate (n - k) false).set k v = s.take (k + 1) ++ List.replicate (n - (k + 1)) false := by
  have hk := (List.getElem?_eq_some_iff.1 hv).1
  rw [List.set_append_right _ _ (by rw [List.length_take]; omega), List.length_take, Nat.min_eq_left (by omega), Nat.sub_self, show n - k = (n - (k + 1)) + 1 by omega, List.replicate_succ, List.set_cons_zero, List.take_add_one, hv, List.append_assoc]
  rfl
theorem keepF_ne {f : Fnc} {K : List Bool} (hR : RightF f) (h : GoneK f.code K) : leftC K K f.code ≠ [] := by
  obtain ⟨h1, h2⟩ := h.leave hR
  have := (keepF_right h1 h2).code.1
  intro e
  unfold keepF at this
  rw [e] at this
  simp at this
theorem remaining_w (f : Fnc) (ca : Option Addr) (cc n : Nat) (gone : List Bool) (b4 : Nat) (w : World) (hn : f.code.length = n) (hC : CodeAt w w.heap.size ⟨f, ca, cc⟩) (hG : VRow w b4 4 (bools gone)) (hgl : gone.length = n) (hR : RightF f) (hK : GoneK f.code (keptOf gone)) :
    Calls Try.prog 38 #[fnV ⟨f, ca, cc⟩, .slice (some ⟨b4, 0, none⟩) n n] w (SwF (keepF (keptOf gone) f) w) := by
  obtain ⟨name, params, regs, frame, code⟩ := f
  have hlen := hR.code
  simp only at hlen hn
  have h := remaining_v name params regs frame code ca cc (some ⟨b4, 0, none⟩) n gone w hC (VRow.rowAt hG) (by omega) (fun p i hi => ?_) (by omega) (keepF_ne hR hK)
  · rw [hgl] at h
    exact h
  · have hI := hR.all i (List.mem_of_getElem? hi)
    have hc := closed_of hR
    have hin : Inside code (p : Int) := by unfold Inside; have := (List.getElem?_eq_some_iff.1 hi).1; omega
    have hnx := hc (p : Int) hin
    rw [nexts_at (i := i) (by simpa using hi)] at hnx
    refine ⟨fun hk => ?_, fun hk => ?_⟩
    · have : i.dest ∈ next i (p : Int) := by
        unfold next
        rcases hk with hk | hk
        · rw [if_pos hk]; simp
        · rw [if_neg (by omega), if_pos hk]; simp
      have := hnx _ this
      unfold Inside at this
      exact this
    · have : i.els ∈ next i (p : Int) := by
        unfold next
        rw [if_neg (by omega), if_pos hk]; simp
      have := hnx _ this
      unfold Inside at this
      exact this
end Go.Proofs.Ytgnpbodhjmappaa
namespace Go.Proofs.Ytgnpbodhjmappaa
set_option maxRecDepth 100000
open Go.RowKit Cd Go.Maps
def SwpPost (f g : Fnc) (w : World) (e : Ending) (w' : World) : Prop := ∃ cg cc, e = .returned (.tuple #[fnV ⟨g, some ⟨cg, 0, none⟩, cc⟩, .int .i64 ((f.code.length : Int) - (g.code.length : Int))]) ∧ w.heap.size ≤ cg ∧ cg < w'.heap.size ∧ (∀ (j : Nat) (u : Value), (g.code.flatMap inCells)[j]? = some u → w'.cell? ⟨cg, j, none⟩ = some u) ∧ Below w.heap.size w w'
abbrev stW (w : World) (z : Nat) (name : List UInt8) (params regs frame : Int) (v : Value) : World := (((((w.setCell ⟨z, 0, none⟩ (.string (sb name))).setCell ⟨z, 1, none⟩ (.int .i64 params)).setCell ⟨z, 2, none⟩ (.int .i64 regs)).setCell ⟨z, 3, none⟩ (.int .i64 frame)).setCell ⟨z, 4, none⟩ v)
theorem st_end {w : World} {z : Nat} (h : w.heap[z]? = some zeroFnO) (name : List UInt8) (params regs frame : Int) (v : Value) :
    (stW w z name params regs frame v).heap[z]? = some (.cells #[.string (sb name), .int .i64 params, .int .i64 regs, .int .i64 frame, v] 24) ∧ (∀ j, j ≠ z → (stW w z name params regs frame v).heap[j]? = w.heap[j]?) ∧ Below z w (stW w z name params regs frame v) := by
  have h1 := cells_set (cells_set (cells_set (cells_set (cells_set h 0 (.string (sb name))) 1 (.int .i64 params)) 2 (.int .i64 regs)) 3 (.int .i64 frame)) 4 v
  refine ⟨by simpa using h1, fun j hj1 => ?_, ?_⟩
  · exact (heap_oth hj1).trans ((heap_oth hj1).trans ((heap_oth hj1).trans ((heap_oth hj1).trans (heap_oth hj1))))
  · exact (((((Below.refl z w).setCell (Nat.le_refl _) _).setCell (by simp) _).setCell (by simp) _).setCell (by simp) _).setCell (by simp) _
theorem swp_post {w0 wr : World} (f g : Fnc) (cg cc : Nat) (n : Int) (hn : n = (f.code.length : Int) - (g.code.length : Int)) (hz : wr.heap[w0.heap.size + 1]? = some zeroFnO) (hb : Below w0.heap.size w0 wr) (hg : w0.heap.size + 2 ≤ cg) (hgl : cg < wr.heap.size) (hc : ∀ (j : Nat) (u : Value), (g.code.flatMap inCells)[j]? = some u → wr.cell? ⟨cg, j, none⟩ = some u) :
    SwpPost f g w0 (.returned (.tuple #[fnV ⟨g, some ⟨cg, 0, none⟩, cc⟩, .int .i64 n])) (stW wr (w0.heap.size + 1) g.name g.params g.regs g.frame (.slice (some ⟨cg, 0, none⟩) g.code.length cc)) := by
  obtain ⟨_, p2, p3⟩ := st_end hz g.name g.params g.regs g.frame (.slice (some ⟨cg, 0, none⟩) g.code.length cc)
  generalize stW wr (w0.heap.size + 1) g.name g.params g.regs g.frame (.slice (some ⟨cg, 0, none⟩) g.code.length cc) = V at *
  have h4 := p2 cg (by omega)
  exact ⟨cg, cc, by rw [hn], by omega, Nat.lt_of_lt_of_le hgl p3.size, fun j u hu => (World.cell?_of_block (w := wr) h4).trans (hc j u hu), hb.trans (p3.mono (by omega))⟩
theorem SwpPost.drew {f g : Fnc} {w V : World} {e : Ending} (h : SwpPost f g w e V) : SwpPost f g w e V.drew := by
  obtain ⟨cg, cc, h1, h2, h3, h4, h5⟩ := h
  exact ⟨cg, cc, h1, h2, h3, h4, drW h5⟩
set_option maxHeartbeats 8000000 in
theorem sweep_no (name : List UInt8) (params regs frame : Int) (code : List Ins) (ca : Option Addr) (cc : Nat) (w : World) (hC : CodeAt w w.heap.size ⟨⟨name, params, regs, frame, code⟩, ca, cc⟩) (hm : code.length ≤ 10000) (hR : rightF ⟨name, params, regs, frame, code⟩ = false) : Calls Try.prog 13 #[fnV ⟨⟨name, params, regs, frame, code⟩, ca, cc⟩] w (SwpPost ⟨name, params, regs, frame, code⟩ ⟨name, params, regs, frame, code⟩ w) := by
  obtain ⟨h1, h2, h3, hs⟩ := two_new w (fnO ⟨⟨name, params, regs, frame, code⟩, ca, cc⟩) zeroFnO
  have HC := Lib.hid (hC.below h3); have HR := Lib.hid hR; have HB := Lib.hid h3; have HX := Lib.hid h1; have HZ := Lib.hid h2
  have hmx : code.length ≤ maxLen := by unfold maxLen; omega
  obtain ⟨c0, c1, c2, c3, c4⟩ := nv5 h1
  clear hC hR h1 h2 h3
  go_enter Try.func13, Try.ntmps13
  go_upto_region 2 with ((with_reducible refine (rightF_v ⟨⟨name, params, regs, frame, code⟩, ca, cc⟩ false w.heap.size _ HC.out HB.out.size hmx HR.out).mono ?_); rintro e w1 ⟨rfl, hb1⟩; have HB1 := Lib.hid (HB.out.trans (hb1.mono HB.out.size)); have HX1 := Lib.hid ((hb1.block w.heap.size (by omega)).trans HX.out); have HZ1 := Lib.hid ((hb1.block (w.heap.size + 1) (by omega)).trans HZ.out); have HC1 := Lib.hid (code_up (HC.out.below (hb1.mono HB.out.size)) (Nat.le_trans HB.out.size hb1.size)); have hs1 := hb1.size; clear hb1 c0 c1 c2 c3 c4; obtain ⟨c0, c1, c2, c3, c4⟩ := nv5 HX1.out)
  rw [hs] at hs1
  go_wp2_with ((with_reducible refine (clone_c ⟨⟨name, params, regs, frame, code⟩, ca, cc⟩ _ HC1.out hm).mono ?_); rintro e w2 ⟨g, rfl, hg, hrow, hb2⟩; have HB2 := Lib.hid (HB1.out.trans (hb2.mono (by omega))); have HZ2 := Lib.hid ((hb2.block (w.heap.size + 1) (by omega)).trans HZ1.out); have HRW := Lib.hid hrow; have hg2 : w.heap.size + 2 ≤ g := (by omega); clear hb2 hrow c0 c1 c2 c3 c4; obtain ⟨z0, z1, z2, z3, z4⟩ := nv5 HZ2.out; have fz : ∀ j, w2.frozen? ⟨w.heap.size + 1, j, none⟩ = false := (fun j => by simp [World.frozen?, HZ2.out]))
  obtain ⟨p1, _, _⟩ := st_end HZ2.out name params regs frame (.slice (some ⟨g, 0, none⟩) code.length code.length)
  obtain ⟨u0, u1, u2, u3, u4⟩ := nv5 p1
  refine bodyPost_ret (v := .tuple #[fnV ⟨⟨name, params, regs, frame, code⟩, some ⟨g, 0, none⟩, code.length⟩, .int .i64 0]) (by simp [results, Try.results13, go_sem, u0, u1, u2, u3, u4] <;> rfl) rfl ?_
  exact swp_post ⟨name, params, regs, frame, code⟩ ⟨name, params, regs, frame, code⟩ g code.length 0 (by simp) HZ2.out HB2.out hg2 HRW.out.lt (fun j u hu => by rw [cell_of_row w2 g j _ _ _ HRW.out]; simpa using hu)
def Cd.lessN (S : List Int) : Nat := min 1 S.length
theorem lessN_le (S : List Int) : lessN S ≤ 1 := by unfold lessN; omega
theorem lessN_no : lessN [] = 0 := rfl
theorem lessN_yes {S : List Int} (h : S ≠ []) : lessN S = 1 := by
  unfold lessN
  have : S.length ≠ 0 := fun e => h (List.eq_nil_of_length_eq_zero e)
  omega
set_option maxHeartbeats 16000000 in
theorem sweep_yes (name : List UInt8) (params regs frame : Int) (code : List Ins) (ca : Option Addr) (cc : Nat) (w : World) (hC : CodeAt w w.heap.size ⟨⟨name, params, regs, frame, code⟩, ca, cc⟩) (hR : RightF ⟨name, params, regs, frame, code⟩) (g' : Fnc) (hg' : sweepF ⟨name, params, regs, frame, code⟩ = g') : Calls Try.prog 13 #[fnV ⟨⟨name, params, regs, frame, code⟩, ca, cc⟩] w (SwpPost ⟨name, params, regs, frame, code⟩ g' w) := by
  obtain ⟨h1, h2, h3, hs⟩ := two_new w (fnO ⟨⟨name, params, regs, frame, code⟩, ca, cc⟩) zeroFnO
  have HC := Lib.hid (hC.below h3); have HR := Lib.hid hR; have HB := Lib.hid h3; have HX := Lib.hid h1; have HZ := Lib.hid h2
  have hlen := hR.code.2
  have hlen0 := hR.code.1
  simp only at hlen hlen0
  have hmx : code.length ≤ maxLen := by unfold maxLen; omega
  have HCL := Lib.hid (closed_of hR)
  have HG' := Lib.hid hg'
  have HUSE : Hid (∀ (p : Nat) (i : Ins), code[p]? = some i → ∀ x ∈ uses i, (Lit.int .i64 x).wf = true) := Lib.hid (fun p i hi x hx => by
    have hI := hR.all i (List.mem_of_getElem? hi)
    have := hI.uses x hx
    have hrg := hR.regs
    unfold regOk at this
    simp only at this hrg
    exact wf_small (by omega) (by omega))
  obtain ⟨c0, c1, c2, c3, c4⟩ := nv5 h1
  clear hC hR h1 h2 h3 hg'
  have hmm : ∀ (w : World), (Instr.makeMap 60 none).run Try.prog w = .ok (.map (some w.heap.size)) (w.alloc (.map #[] 0)) := fun w => by simp [Instr.makeMap, go_sem]
  go_enter Try.func13, Try.ntmps13
  go_upto_region 4 with (first
    | ((with_reducible refine (rightF_v ⟨⟨name, params, regs, frame, code⟩, ca, cc⟩ true w.heap.size _ HC.out HB.out.size hmx (rightF_iff.2 HR.out)).mono ?_); rintro e w1 ⟨rfl, hb1⟩; have HB1 := Lib.hid (HB.out.trans (hb1.mono HB.out.size)); have HX1 := Lib.hid ((hb1.block w.heap.size (by omega)).trans HX.out); have HZ1 := Lib.hid ((hb1.block (w.heap.size + 1) (by omega)).trans HZ.out); have HC1 := Lib.hid (HC.out.below (hb1.mono HB.out.size)); have hs1 := hb1.size; clear hb1 c0 c1 c2 c3 c4; obtain ⟨c0, c1, c2, c3, c4⟩ := nv5 HX1.out)
    | ((with_reducible refine (uses_w ⟨⟨name, params, regs, frame, code⟩, ca, cc⟩ _ HR.out (code_up HC1.out HB1.out.size)).mono ?_); rintro e w3 ⟨b, V, lo, rfl, hlo, hbk, hU, hb3⟩; have HB3 := Lib.hid (HB1.out.trans (hb3.mono HB1.out.size)); have HX3 := Lib.hid ((hb3.block w.heap.size (by omega)).trans HX1.out); have HZ3 := Lib.hid ((hb3.block (w.heap.size + 1) (by omega)).trans HZ1.out); have HC3 := Lib.hid (HC1.out.below (hb3.mono HB1.out.size)); have HU3 := Lib.hid hU; have hb4 : w.heap.size + 2 ≤ b 4 := (by have := hbk 4 (by omega); omega); clear hU hb3 hbk hlo c0 c1 c2 c3 c4))
  have HBA := Lib.hid ((Below.refl w3.heap.size w3).alloc (Nat.le_refl _) (usO (some ⟨b 0, 0, none⟩) code.length code.length (some ⟨b 1, 0, none⟩) code.length code.length (b 2) (b 3) (some ⟨b 4, 0, none⟩) code.length code.length))
  have hb4l := HU3.out.gon.lt
  have HS4 : Hid (SwS w (w3.alloc (usO (some ⟨b 0, 0, none⟩) code.length code.length (some ⟨b 1, 0, none⟩) code.length code.length (b 2) (b 3) (some ⟨b 4, 0, none⟩) code.length code.length)) ⟨⟨name, params, regs, frame, code⟩, ca, cc⟩ w3.heap.size lo (9 * code.length) b V (List.replicate code.length false)) := Lib.hid ⟨(HBA.out.block _ (lt_heap HX3.out)).trans HX3.out, (HBA.out.block _ (lt_heap HZ3.out)).trans HZ3.out, heap_alloc_new w3 _, HU3.out.below HBA.out, HC3.out.below (HBA.out.mono HB3.out.size), HB3.out.trans (HBA.out.mono HB3.out.size), ⟨hb4, by omega⟩⟩
  obtain ⟨X4, hX4⟩ : ∃ X4, w3.heap.size = X4 := ⟨_, rfl⟩
  obtain ⟨w4, hw4⟩ : ∃ w4, w3.alloc (usO (some ⟨b 0, 0, none⟩) code.length code.length (some ⟨b 1, 0, none⟩) code.length code.length (b 2) (b 3) (some ⟨b 4, 0, none⟩) code.length code.length) = w4 := ⟨_, rfl⟩
  rw [hw4, hX4] at HS4
  rw [hw4, hX4]
  clear HBA HU3 HX3 HZ3 HC3 HB3 HC1 HX1 HZ1 HB1 HC HX HZ HB hw4 hX4 hb4l hs1 hs hb4
  obtain ⟨c0, c1, c2, c3, c4⟩ := nv5 HS4.out.fb
  go_wp2_with ((with_reducible refine (reached_c name params regs frame code ca cc _ HCL.out hlen0 (by omega) (code_up HS4.out.code HS4.out.hb.size)).mono ?_); rintro e w5 ⟨br, rfl, hbr, hrow, hb5⟩; have HS5 := Lib.hid (HS4.out.below hb5); have HBR := Lib.hid hrow; have hbr4 : b 4 < br := (by have := HS4.out.us.gon.lt; omega); clear hrow hb5 hbr c0 c1 c2 c3 c4)
  obtain ⟨FL, hFL⟩ : ∃ FL, foundB (nextG code) [0] (-1) = FL := ⟨_, rfl⟩
  have hfl : FL.length = code.length := by rw [← hFL, foundB_len, nextG_len]
  have HST : Hid (startG code = FL.map (fun b => !b)) := Lib.hid (by unfold startG; rw [hFL])
  rw [hFL] at HBR
  have HFL := Lib.hid hfl
  clear hFL HS4 hfl
  go_loopw [20] (fun s20 wr => ∃ k : Nat, k ≤ code.length ∧ s20 = .int .i64 (k : Int) ∧ Hid (SwS w wr ⟨⟨name, params, regs, frame, code⟩, ca, cc⟩ X4 lo (9 * code.length) b V ((startG code).take k ++ List.replicate (code.length - k) false)) ∧ Hid (VRow wr br 4 (bools FL))) (fun s20 wr => code.length - (Go.RowKit.intOf s20).toNat)
  case atStart => exact ⟨0, by omega, rfl, by rw [List.take_zero, List.nil_append, Nat.sub_zero]; exact HS5, HBR⟩
  case round =>
    clear HS5 HBR
    obtain ⟨k, hk, rfl, HS, HBR⟩ := hrel
    have k0 : (0 : Int) ≤ (k : Int) := Int.natCast_nonneg _
    by_cases hlt : k < code.length
    · have k1 : (k : Int) < (code.length : Int) := by omega
      obtain ⟨v, hv⟩ : ∃ v, FL[k]? = some v := ⟨_, List.getElem?_eq_getElem (by have := HFL.out; omega)⟩
      have hst : (startG code)[k]? = some (!v) := by rw [HST.out, List.getElem?_map, hv]; rfl
      have hc1 : wr.cell? ⟨br, k, none⟩ = some (.bool v) := HBR.out.cell (by unfold bools; rw [List.getElem?_map, hv]; rfl)
      have hgl := HS.out.us.gl
      simp only at hgl
      have hc2 : wr.cell? ⟨b 4, k, none⟩ = some (.bool (((startG code).take k ++ List.replicate (code.length - k) false).getD k false)) := HS.out.us.gon.cell (by unfold bools; rw [List.getElem?_map, List.getD_eq_getElem?_getD, List.getElem?_eq_getElem (by omega)]; rfl)
      have hfr := HS.out.us.gon.frozen k
      have HP := Lib.hid (HS.out.put k (!v))
      rw [mix_set (startG_len code) hst] at HP
      have HBR2 : Hid (VRow (wr.setCell ⟨b 4, k, none⟩ (.bool (!v))) br 4 (bools FL)) := Lib.hid (HBR.out.keep (Below.heap_setCell _ _ _ _ (by simp; omega)))
      obtain ⟨c0, c1, c2, c3, c4⟩ := nv5 HS.out.ub
      have HLT := Lib.hid hlt
      clear c0 c1 c2 c3 hst hv hlt
      cases v with
      | true =>
        go_wp2
        go_roundw
        case rel => exact ⟨k + 1, HLT.out, by go_num, HP, HBR2⟩
        case measure => have := HLT.out; simp [Go.RowKit.intOf]; omega
      | false =>
        go_wp2
        go_roundw
        case rel => exact ⟨k + 1, HLT.out, by go_num, HP, HBR2⟩
        case measure => have := HLT.out; simp [Go.RowKit.intOf]; omega
    · obtain rfl : k = code.length := by omega
      have hS := HS.out
      rw [Nat.sub_self, List.replicate_zero, List.append_nil, ← startG_len code, List.take_length, startG_len code] at hS
      obtain ⟨wB, hwB⟩ : ∃ x, x = wr := ⟨_, rfl⟩
      subst hwB
      have HSB := Lib.hid hS
      clear hS HS HBR
      have hlB := HSB.out.lt
      have hbm := (Below.refl wB.heap.size wB).alloc (Nat.le_refl _) (.map #[] 0)
      obtain ⟨nn, ks, hnm, ⟨D, hown, htidy, hhas, _⟩, hks, _, hnd⟩ := HSB.out.us.pure
      have hsz := hown.size_le
      have hb3l := hown.lt
      have hownA : (wB.alloc (.map #[] 0)).ownsMap Try.prog 3 hdrE (b 3) nn D := by
        obtain ⟨es, clock, h1, h2⟩ := hown
        exact ⟨es, clock, (hbm.block _ hb3l).trans h1, h2⟩
      have HM0 := Lib.hid (SetAt.made wB)
      obtain ⟨c0, c1, c2, c3, c4⟩ := nv5 (HSB.out.below hbm).ub
      have HHAS := Lib.hid hhas; have HKS := Lib.hid hks; have HBM := Lib.hid hbm
      clear hhas hks hown htidy hnd hbm c0 c1 c2 c4
      go_wp2_with (first
        | (at_range; refine wpList_range_own _ rfl _ 54 rfl 3 30 lawI Try.underlying54 hdrE (b 3) nn D rfl hownA ?_; intro w6 hrg0 hg0 hs0)
        | go_in)
      try go_frame
      simp only [World.size_alloc] at hrg0 hs0 ⊢
      have HM6 := Lib.hid (HM0.out.keep (hg0.block wB.heap.size (by simp) (by simp)))
      have HB6 := Lib.hid (HBM.out.grown hg0 (by simp) (fun q e => by cases e))
      have HRG0 := Lib.hid hrg0
      clear hrg0 hg0 hownA c3 HM0 HBM
      go_loopw [] (fun wq => ∃ (left : Lit → Bool) (cnt n : Nat) (S : List Int), Hid (wq.ranges Try.prog 3 hdrE (b 3) (wB.heap.size + 1) nn D left cnt) ∧ Hid (SetAt wq wB.heap.size n S) ∧ n + cnt ≤ 9 * code.length ∧ Hid (∀ x, x ∈ ks → left (.int .i64 x) = false → x ∈ S) ∧ Hid (Below wB.heap.size wB wq) ∧ wB.heap.size + 2 ≤ wq.heap.size) (fun wq => wq.rangeLeft (b 3) (wB.heap.size + 1))
      case atStart => exact ⟨_, _, 0, [], HRG0, HM6, by omega, Lib.hid (fun x hx hl => by rw [HHAS.out x, List.contains_iff_mem.2 hx] at hl; cases hl), HB6, by omega⟩
      case round =>
        clear HRG0 HM6 HB6 hs0
        obtain ⟨left, cnt, n, S, HRG, HMS, hnc, HIN, HBW, hws⟩ := hrel
        go_wp2_with (first
          | (at_next; refine wpList_next_ranges _ rfl _ rfl 3 lawI hdrE (Value.int .i64) (id : Value → Value) (fun key kl hk => by obtain ⟨x, rfl, _⟩ := Maps.keyOf_int_inv Try.underlying3 hk; exact ⟨x, rfl⟩) (fun v y _ => ⟨v, rfl⟩) (b 3) (wB.heap.size + 1) nn D left cnt rfl HRG.out ?_ ?_)
          | go_in)
        · intro hc0 hl0
          have HIS : Hid (∀ z y, y ∈ deadO code (startG code) z → z ∈ S) := Lib.hid (fun z y hy => HIN.out z ((HKS.out z).2 (fun e => by
            unfold deadO deadL at hy
            rw [e] at hy
            cases hy)) (hl0 _))
          have HGK0 := Lib.hid (gone_start HCL.out hlen0)
          have HK0 : Hid (∀ g, g < wB.heap.size → g ≠ b 4 → wr.heap[g]? = wB.heap[g]?) := Lib.hid (fun g h1 _ => HBW.out.block g h1)
          have HBL0 : Hid (Below w.heap.size wB wr) := Lib.hid (HBW.out.mono (by omega))
          have HV0 := Lib.hid (HSB.out.us.gon.keep (HBW.out.block _ HSB.out.us.gon.lt))
          have hm0 := manyK_le (startG code)
          rw [startG_len] at hm0
          have hgl0 := startG_len code
          have hwr0 := HBW.out.size
          clear HIN HBW hl0 HRG
          go_wp2
          go_loopg [7] (2 * code.length + 1) (fun gk s7 wq => ∃ (mb n : Nat) (S : List Int) (gone : List Bool), s7 = .map (some mb) ∧ wB.heap.size ≤ mb ∧ Hid (SetAt wq mb n S) ∧ Hid (VRow wq (b 4) 4 (bools gone)) ∧ Hid (∀ g, g < wB.heap.size → g ≠ b 4 → wq.heap[g]? = wB.heap[g]?) ∧ Hid (Below w.heap.size wB wq) ∧ wB.heap.size ≤ wq.heap.size ∧ gone.length = code.length ∧ Hid (GoneK code (keptOf gone)) ∧ Hid (∀ z y, y ∈ deadO code gone z → z ∈ S) ∧ 2 * manyK gone + lessN S ≤ gk)
          case atStart => exact ⟨wB.heap.size, n, S, startG code, rfl, by omega, HMS, HV0, HK0, HBL0, hwr0, hgl0, HGK0, HIS, by have := lessN_le S; omega⟩
          case round =>
            clear HMS HV0 HK0 HBL0 hwr0 hgl0 HGK0 HIS hm0
            obtain ⟨mb, n, S, gone, rfl, hmb, HMS, HV, HKW, HBL, hwr, hgl, HGK, HIS, hms⟩ := hrel
            have HSQ : Hid (SwS w wr ⟨⟨name, params, regs, frame, code⟩, ca, cc⟩ X4 lo (9 * code.length) b V gone) := Lib.hid (HSB.out.move hwr (fun g h1 h2 => HKW.out g h1 h2) HBL.out HV.out hgl)
            obtain ⟨s, hrun, hs0⟩ := HMS.out.len
            have hrun1 := hrun 3
            have s0 : (0 : Int) ≤ (s : Int) := Int.natCast_nonneg _
            obtain ⟨c0, c1, c2, c3, c4⟩ := nv5 HSQ.out.fb
            obtain ⟨d0, d1, d2, d3, d4⟩ := nv5 HSQ.out.ub
            clear hrun
            by_cases hS : S = []
            · have hs1 : s = 0 := hs0.2 hS
              subst hs1
              subst hS
              have HDN : Hid (DoneK code (keptOf gone)) := Lib.hid (done_of HCL.out hgl (fun z => List.eq_nil_iff_forall_not_mem.2 (fun y hy => by have := HIS.out z y hy; cases this)))
              have HGE : Hid (keepF (keptOf gone) ⟨name, params, regs, frame, code⟩ = g') := Lib.hid ((sweepF_eq HR.out HGK.out HDN.out).symm.trans HG'.out)
              have HRM : Hid (Calls Try.prog 38 #[fnV ⟨⟨name, params, regs, frame, code⟩, ca, cc⟩, .slice (some ⟨b 4, 0, none⟩) code.length code.length] wr (SwF g' wr)) := Lib.hid (by rw [← HGE.out]; exact remaining_w ⟨name, params, regs, frame, code⟩ ca cc code.length gone (b 4) wr rfl (code_up HSQ.out.code HSQ.out.hb.size) HSQ.out.us.gon hgl HR.out HGK.out)
              go_upto_region 17 with ((with_reducible refine HRM.out.mono ?_); rintro e w9 ⟨cg, cc9, rfl, q1, q2, q3, q4⟩; have HC9 := Lib.hid q3; have HB9 := Lib.hid q4; clear q3 q4 c0 c1 c2 c3 c4 d0 d1 d2 d3 d4 hrun1)
              have hba := (Below.refl w9.heap.size w9).alloc (Nat.le_refl _) (fnO ⟨g', some ⟨cg, 0, none⟩, cc9⟩)
              have hlz := HSQ.out.lt
              have HFX : Hid ((w9.alloc (fnO ⟨g', some ⟨cg, 0, none⟩, cc9⟩)).heap[w.heap.size]? = some (fnO ⟨⟨name, params, regs, frame, code⟩, ca, cc⟩)) := Lib.hid ((hba.block _ (by have := HB9.out.size; omega)).trans ((HB9.out.block _ (by omega)).trans HSQ.out.fb))
              have HZX : Hid ((w9.alloc (fnO ⟨g', some ⟨cg, 0, none⟩, cc9⟩)).heap[w.heap.size + 1]? = some zeroFnO) := Lib.hid ((hba.block _ (by have := HB9.out.size; omega)).trans ((HB9.out.block _ (by omega)).trans HSQ.out.zb))
              have HGX := Lib.hid (heap_alloc_new w9 (fnO ⟨g', some ⟨cg, 0, none⟩, cc9⟩))
              have HBX : Hid (Below w.heap.size w (w9.alloc (fnO ⟨g', some ⟨cg, 0, none⟩, cc9⟩))) := Lib.hid ((HSQ.out.hb.trans (HB9.out.mono HSQ.out.hb.size)).trans (hba.mono (by have := HB9.out.size; omega)))
              have HCX : Hid (∀ (j : Nat) (u : Value), (g'.code.flatMap inCells)[j]? = some u → (w9.alloc (fnO ⟨g', some ⟨cg, 0, none⟩, cc9⟩)).cell? ⟨cg, j, none⟩ = some u) := Lib.hid (fun j u hu => (World.cell?_of_block (w := w9) (a := ⟨cg, j, none⟩) (hba.block cg q2)).trans (HC9.out j u hu))
              have hcgx : cg < (w9.alloc (fnO ⟨g', some ⟨cg, 0, none⟩, cc9⟩)).heap.size := by simp; omega
              have hcg2 : w.heap.size + 2 ≤ cg := by omega
              clear hba
              generalize w9.alloc (fnO ⟨g', some ⟨cg, 0, none⟩, cc9⟩) = wx at *
              generalize w9.heap.size = Z at *
              obtain ⟨x0, x1, x2, x3, x4⟩ := nv5 HFX.out
              obtain ⟨y0, y1, y2, y3, y4⟩ := nv5 HGX.out
              have fz : ∀ j, wx.frozen? ⟨w.heap.size + 1, j, none⟩ = false := fun j => by simp [World.frozen?, HZX.out]
              obtain ⟨z0, z1, z2, z3, z4⟩ := nv5 HZX.out
              have hgll : g'.code.length ≤ code.length := by
                rw [← HGE.out]
                show (leftC (keptOf gone) (keptOf gone) code).length ≤ code.length
                have hk : (keptOf gone).length = code.length := by unfold keptOf; rw [List.length_map]; exact hgl
                rw [leftC_len _ _ _ hk]
                exact Nat.le_trans (List.length_filter_le _ _) (by omega)
              have hwr64 : wrap64 ((code.length : Int) - (g'.code.length : Int)) = (code.length : Int) - (g'.code.length : Int) := by unfold wrap64; omega
              go_region
              obtain ⟨p1, _, _⟩ := st_end HZX.out g'.name g'.params g'.regs g'.frame (.slice (some ⟨cg, 0, none⟩) g'.code.length cc9)
              obtain ⟨u0, u1, u2, u3, u4⟩ := nv5 (show (stW wx (w.heap.size + 1) g'.name g'.params g'.regs g'.frame (.slice (some ⟨cg, 0, none⟩) g'.code.length cc9)).drew.heap[w.heap.size + 1]? = some _ from p1)
              go_wp2
              refine bodyPost_ret (v := .tuple #[fnV ⟨g', some ⟨cg, 0, none⟩, cc9⟩, .int .i64 ((code.length : Int) - (g'.code.length : Int))]) (by simp [results, Try.results13, go_sem, u0, u1, u2, u3, u4] <;> rfl) rfl ?_
              exact SwpPost.drew (swp_post ⟨name, params, regs, frame, code⟩ g' cg cc9 _ rfl HZX.out HBX.out hcg2 hcgx HCX.out)
            · have hs1 : ¬ s = 0 := fun e => hS (hs0.1 e)
              have s1 : (0 : Int) < (s : Int) := by omega
              have hls : lessN S = 1 := lessN_yes hS
              have hB4 : w.heap.size ≤ b 4 := by have := HSB.out.pl; omega
              have hmb4 : mb ≠ b 4 := by have := HSB.out.us.gon.lt; omega
              go_wp2_with ((with_reducible refine (leave_c name params regs frame code ca cc _ w.heap.size lo (9 * code.length) mb n b V gone S HSQ.out.us HSQ.out.code hB4 HMS.out hmb4 HCL.out hlen HUSE.out HGK.out HIS.out).mono ?_); rintro e w8 ⟨sm, n8, gone8, S8, rfl, hsm, h1, h2, h3, h4, h5⟩; have HMS8 := Lib.hid h1; have HV8 := Lib.hid h2; have HLP8 := Lib.hid h3; have HBL8 := Lib.hid (HBL.out.trans h4); have HK8 : Hid (∀ g, g < wB.heap.size → g ≠ b 4 → w8.heap[g]? = wB.heap[g]?) := Lib.hid (fun g q1 q2 => (h5 g (by omega) q2).trans (HKW.out g q1 q2)); have hw8 := h4.size; clear h1 h2 h3 h4 h5 c0 c1 c2 c3 c4 d0 d1 d2 d3 d4)
              have hle := HLP8.out.le
              have hms8 : 2 * manyK gone8 + lessN S8 < gk := by
                by_cases e8 : S8 = []
                · rw [e8, lessN_no]; omega
                · have := HLP8.out.les e8
                  rw [lessN_yes e8]; omega
              go_roundg (2 * manyK gone8 + lessN S8)
              case measure => exact hms8
              case rel => exact ⟨sm, n8, S8, gone8, rfl, by omega, HMS8, HV8, HK8, HBL8, by omega, HLP8.out.gl, Lib.hid HLP8.out.gk, Lib.hid (fun z y hy => (HLP8.out.only z y hy).elim (fun h => h.elim) (fun h => h.elim id (fun h => by cases h))), Nat.le_refl _⟩
        · intro x cv kl y1 y2 w7 cnt1 hkey hlk hv hat hrg1 hlt hg1 hs1 hen
          obtain ⟨x', ex, rfl, hwx⟩ := Maps.keyOf_int_inv Try.underlying3 hkey
          cases ex
          have hb34 : b 3 < wB.heap.size := hb3l
          have hm7 := HMS.out.keep (hg1.block wB.heap.size (by omega) (fun e => by injection e with e; omega))
          obtain ⟨w8, r1, r2, r3⟩ := hm7.store (by unfold maxLen; omega) hwx
          have HRUN := Lib.hid r1
          have HM8 : Hid (SetAt w8 wB.heap.size (n + 1) (addS S x)) := Lib.hid r3
          have HRG8 := Lib.hid (ranges_moved hrg1 (r2.grown.block (b 3) (by omega) (fun e => by injection e with e; omega)) (r2.grown.block (wB.heap.size + 1) (by omega) (fun e => by injection e with e; omega)))
          have HB8 : Hid (Below wB.heap.size wB w8) := Lib.hid ((HBW.out.grown hg1 (by omega) (fun q e => by injection e with e; omega)).grown r2.grown (by omega) (fun q e => by injection e with e; omega))
          have hs8 : w7.heap.size ≤ w8.heap.size := r2.grown.size
          have HIN8 : Hid (∀ z, z ∈ ks → (left (.int .i64 z) && !(Lit.int .i64 z).sameKey (.int .i64 x)) = false → z ∈ addS S x) := Lib.hid (fun z hz hl => by
            rw [addS_mem]
            by_cases e : z = x
            · exact .inr e
            · refine .inl (HIN.out z hz ?_)
              simpa [same_int, e] using hl)
          clear hkey hlk hv hat hrg1 hg1 hwx r1 r2 r3 hm7
          go_wp2_with (at_mapUpdate; refine wpList_mapUpdate_run rfl _ _ _ 60 rfl _ _ _ rfl rfl rfl HRUN.out ?_)
          go_frame
          go_roundw
          case rel => exact ⟨_, cnt1, n + 1, _, HRG8, HM8, by omega, HIN8, HB8, by omega⟩
          case measure => rw [HRG8.out.left_eq, HRG.out.left_eq]; exact hlt
theorem sweep_c (f : Fnc) (ca : Option Addr) (cc : Nat) (w : World) (hC : CodeAt w w.heap.size ⟨f, ca, cc⟩) (hm : f.code.length ≤ 10000) : Calls Try.prog 13 #[fnV ⟨f, ca, cc⟩] w (SwpPost f (sweepF f) w) := by
  obtain ⟨name, params, regs, frame, code⟩ := f
  by_cases h : RightF ⟨name, params, regs, frame, code⟩
  · exact sweep_yes name params regs frame code ca cc w hC h _ rfl
  · have h' : rightF ⟨name, params, regs, frame, code⟩ = false := by rw [← Bool.not_eq_true, rightF_iff]; exact h
    rw [sweepF_no h']
    exact sweep_no name params regs frame code ca cc w hC hm h'
end Go.Proofs.Ytgnpbodhjmappaa
