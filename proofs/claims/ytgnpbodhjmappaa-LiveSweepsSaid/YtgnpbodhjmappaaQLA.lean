/-
  Contract of doppelref09's In.
  Contract of doppelref09's Without.
  What dominates what, by ways that don't go through one.
  Contracts of doppelref09's Reached and Dominates.
  Contracts of doppelref09's Above and Before.
  Contract of doppelref09's Before.
  The order in which a search leaves, on lists.
  Contract of doppelref09's leave.
-/
import Derived.Test.YtgnpbodhjmappaaQNB
import Derived.Test.YtgnpbodhjmappaaQND
import Derived.Test.YtgnpbodhjmappaaR9Spec
import Derived.Test.YtgnpbodhjmappaaLast
import Derived.Maps.AppendAt
import Derived.Laws.AppendOwnNone
namespace Go.Proofs.Ytgnpbodhjmappaa
set_option maxRecDepth 100000
open Go.RowKit Cd
set_option linter.unusedVariables false
set_option linter.unusedSimpArgs false

set_option maxHeartbeats 1000000 in
theorem in_any (l : List Int) (a : Option Addr) (cap : Nat) (n : Int) (w : World) (h : IntsAt w a l) (hl : l.length ≤ maxLen) :
    Calls Try.prog 43 #[.slice a l.length cap, .int .i64 n] w fun e w' => e = .returned (.bool (l.contains n)) ∧ w = w' := by
  unfold maxLen at hl
  have H := Lib.hid h; clear h
  go_enter Try.func43, Try.ntmps43
  go_wp2
  go_loopw [5] (fun s5 wr => ∃ k : Nat, k ≤ l.length ∧ s5 = .int .i64 k ∧ wr = w ∧ Hid (n ∉ l.take k)) (fun i wr => l.length - (intOf i).toNat)
  case atStart => exact ⟨0, by omega, rfl, rfl, Lib.hid (by simp)⟩
  case round =>
    obtain ⟨k, hk, rfl, rfl, HN⟩ := hrel
    by_cases hlt : k < l.length
    · obtain ⟨x, hx⟩ : ∃ x, l[k]? = some x := ⟨_, List.getElem?_eq_getElem hlt⟩
      obtain ⟨b, off, rfl, hb, hc⟩ := H.out.at hx
      have p0 : (0 : Int) ≤ (k : Int) := Int.natCast_nonneg _
      have p1 : (k : Int) < (l.length : Int) := by omega
      have HX := Lib.hid hx; clear hx
      by_cases hxn : x = n
      · have t0 : (x == n) = true := by simpa using hxn
        have E := Lib.hid (show l.contains n = true by rw [List.contains_iff_mem]; rw [← hxn]; exact List.mem_of_getElem? HX.out)
        clear hxn
        go_wp2
        go_ret
        exact ⟨by rw [E.out]; rfl, (by first | rfl | trivial)⟩
      · have t0 : (x == n) = false := by simpa using hxn
        have HN2 := Lib.hid (show n ∉ l.take (k + 1) by rw [take_more HX.out, List.mem_append]; rintro (h1 | h1); exact HN.out h1; exact hxn (List.mem_singleton.1 h1).symm)
        clear hxn
        go_wp2
        go_roundw
        case rel => exact ⟨k + 1, by omega, by go_num, (by first | rfl | trivial), HN2⟩
        case measure => simp [intOf]; omega
    · obtain rfl : k = l.length := by omega
      have E := Lib.hid (show l.contains n = false by rw [Bool.eq_false_iff, ne_eq, List.contains_iff_mem]; have := HN.out; rwa [List.take_length] at this)
      go_wp2
      go_ret
      exact ⟨by rw [E.out]; rfl, (by first | rfl | trivial)⟩
end Go.Proofs.Ytgnpbodhjmappaa
namespace Go.Proofs.Ytgnpbodhjmappaa
set_option maxRecDepth 100000
open Go.RowKit Cd
set_option linter.unusedVariables false
set_option linter.unusedSimpArgs false

theorem drW {B : Nat} {a w : World} (h : Below B a w) : Below B a w.drew := ⟨h.os, h.tape, h.output, h.size, h.block⟩
theorem region_lastS {P : Program} {ops : Array Oper} {Q : Exit → Act → World → Prop} {id : Nat} {a : Act} {w : World} (S : World → Prop) (m : Nat) (hm : P.follows .mixedOrders = true) (hS : S w.drew)
    (h : S w.drew → anyL P .any ops Q S m ops.size (Array.replicate ops.size false) a w.drew) : (Code.region id ops true).wp P Q a w := region_last S m hm (h hS)
theorem addNew_snoc (no : Int) (out l : List Int) (x : Int) : addNew no out (l ++ [x]) = (if x ≠ no ∧ x ∉ addNew no out l then addNew no out l ++ [x] else addNew no out l) := by
  induction l generalizing out with
  | nil => rfl
  | cons y l ih => simp only [List.cons_append, addNew]; exact ih _
theorem in_v (l : List Int) (a : Option Addr) (cap : Nat) (n : Int) (b : Bool) (w : World) (h : IntsAt w a l) (hl : l.length ≤ maxLen) (hb : l.contains n = b) :
    Calls Try.prog 43 #[.slice a l.length cap, .int .i64 n] w fun e w' => e = .returned (.bool b) ∧ w = w' := hb ▸ in_any l a cap n w h hl
theorem nexts_len (i : Ins) (p : Int) : (next i p).length ≤ 2 := by
  unfold next; split
  · simp
  · split
    · simp
    · split <;> simp
def SW (z b off n cc g k q : Nat) (p : Int) (x : Ins) (w : World) : Prop := w.cell? ⟨z, 4, none⟩ = some (.slice (some ⟨b, off, none⟩) n cc) ∧ w.cell? ⟨g, k, none⟩ = some (.int .i64 p) ∧ w.cell? ⟨b, off + q * 15, none⟩ = some (.int .i64 x.kind) ∧ w.cell? ⟨b, off + q * 15 + 1, none⟩ = some (.int .i64 x.op) ∧ w.cell? ⟨b, off + q * 15 + 2, none⟩ = some (.int .i64 x.dst) ∧ w.cell? ⟨b, off + q * 15 + 3, none⟩ = some (.int .i64 x.a) ∧ w.cell? ⟨b, off + q * 15 + 4, none⟩ = some (.int .i64 x.b) ∧ w.cell? ⟨b, off + q * 15 + 5, none⟩ = some (.int .i64 x.n) ∧ w.cell? ⟨b, off + q * 15 + 6, none⟩ = some (.string (sb x.text)) ∧ w.cell? ⟨b, off + q * 15 + 7, none⟩ = some (.int .i64 x.x0) ∧ w.cell? ⟨b, off + q * 15 + 8, none⟩ = some (.int .i64 x.x1) ∧ w.cell? ⟨b, off + q * 15 + 9, none⟩ = some (.int .i64 x.x2) ∧ w.cell? ⟨b, off + q * 15 + 10, none⟩ = some (.int .i64 x.x3) ∧ w.cell? ⟨b, off + q * 15 + 11, none⟩ = some (.int .i64 x.x4) ∧ w.cell? ⟨b, off + q * 15 + 12, none⟩ = some (.int .i64 x.x5) ∧ w.cell? ⟨b, off + q * 15 + 13, none⟩ = some (.int .i64 x.dest) ∧ w.cell? ⟨b, off + q * 15 + 14, none⟩ = some (.int .i64 x.els)
theorem SW.below {z b off n cc g k q : Nat} {p : Int} {x : Ins} {w w' : World} (h : SW z b off n cc g k q p x w) (hz : z < w.heap.size) (hb : b < w.heap.size) (hg : g < w.heap.size) (hw : Below w.heap.size w w') : SW z b off n cc g k q p x w' := by
  obtain ⟨h0, h1, h2, h3, h4, h5, h6, h7, h8, h9, h10, h11, h12, h13, h14, h15, h16⟩ := h
  exact ⟨(hw.cell (p := ⟨z, 4, none⟩) hz).trans h0, (hw.cell (p := ⟨g, k, none⟩) hg).trans h1, (hw.cell (p := ⟨b, off + q * 15, none⟩) hb).trans h2, (hw.cell (p := ⟨b, off + q * 15 + 1, none⟩) hb).trans h3, (hw.cell (p := ⟨b, off + q * 15 + 2, none⟩) hb).trans h4, (hw.cell (p := ⟨b, off + q * 15 + 3, none⟩) hb).trans h5, (hw.cell (p := ⟨b, off + q * 15 + 4, none⟩) hb).trans h6, (hw.cell (p := ⟨b, off + q * 15 + 5, none⟩) hb).trans h7, (hw.cell (p := ⟨b, off + q * 15 + 6, none⟩) hb).trans h8, (hw.cell (p := ⟨b, off + q * 15 + 7, none⟩) hb).trans h9, (hw.cell (p := ⟨b, off + q * 15 + 8, none⟩) hb).trans h10, (hw.cell (p := ⟨b, off + q * 15 + 9, none⟩) hb).trans h11, (hw.cell (p := ⟨b, off + q * 15 + 10, none⟩) hb).trans h12, (hw.cell (p := ⟨b, off + q * 15 + 11, none⟩) hb).trans h13, (hw.cell (p := ⟨b, off + q * 15 + 12, none⟩) hb).trans h14, (hw.cell (p := ⟨b, off + q * 15 + 13, none⟩) hb).trans h15, (hw.cell (p := ⟨b, off + q * 15 + 14, none⟩) hb).trans h16⟩
set_option maxHeartbeats 4000000 in
set_option maxRecDepth 100000 in
theorem without_v (name : List UInt8) (params regs frame : Int) (code : List Ins) (ca : Option Addr) (cc : Nat) (a no : Int) (B : Nat) (w : World) (hc : CodeAt w B ⟨⟨name, params, regs, frame, code⟩, ca, cc⟩) (hf : RightF ⟨name, params, regs, frame, code⟩) (ha : Inside code a) (hBw : B ≤ w.heap.size) :
    Calls Try.prog 44 #[fnV ⟨⟨name, params, regs, frame, code⟩, ca, cc⟩, .int .i64 a, .int .i64 no] w (ListPost (without code a no) w) := by
  have hcl := closed_of hf
  have hlen := hf.code.2
  have hlen0 := hf.code.1
  simp only at hcl hlen hlen0
  have HCL := Lib.hid hcl; clear hcl
  have HC := Lib.hid hc; clear hc
  obtain ⟨i0, hi0, hz0, hz1, hz2⟩ := info_parts infoInt
  clear hf
  by_cases hano : a = no
  · have t0 : (a == no) = true := by simpa using hano
    have e : without code a no = [] := if_pos hano
    have E := Lib.hid e; clear e hano
    go_enter Try.func44, Try.ntmps44
    go_wp2
    go_ret
    rw [E.out]
    exact list_nil ((Below.refl _ _).alloc (Nat.le_refl _) _)
  have t0 : (a == no) = false := by simpa using hano
  obtain ⟨R, hR⟩ : ∃ R, withoutF code no (code.length + 1) [a] 0 = R := ⟨_, rfl⟩
  have e : without code a no = R := (if_neg hano).trans hR
  have E := Lib.hid e; have HR := Lib.hid hR; clear e hR
  have HF0 := Lib.hid (Far.begin ha hano); clear hano
  have HIa := Lib.hid ha; clear ha
  go_enter Try.func44, Try.ntmps44
  go_wp2_with (at_builtin; go_loud (refine wpList_append_lies _ rfl (.tmp 15) (.tmp 17) 30 rfl (w.heap.size + 1) 3 i0 (.int .i64 0) 1 8 Try.underlying30 hi0 hz0 hz1 hz2 rfl (by decide) (.slice none 0 0) (0) ([]) rfl (World.ownsRow_nil _ _ _ _) _ 1 1 [.int .i64 (a)] rfl rfl (cell_new1 _ _ _ _ (by simp)) (by simp [Value.oneCell']) (by omega) (by unfold maxLen; omega) (by omega) (by simp <;> omega) (w.heap.size + 1 + 1) (by simp) ?_; intro g2 cap2 w1 hown1 hgrow hat hlt1; have HO := Lib.hid hown1; have HB := Lib.hid ((((Below.refl w.heap.size w).alloc (Nat.le_refl _) _).alloc (by simp) _).grown hgrow (by simp <;> omega) (fun k e => by cases e)); have HW := Lib.hid ((hgrow.block w.heap.size (by simp <;> omega) (by simp [Value.ownBlock])).trans ((Below.heap_alloc _ _ _ (by simp)).trans (heap_alloc_new w (fnO ⟨⟨name, params, regs, frame, code⟩, ca, cc⟩)))); have hs1 : w.heap.size + 2 ≤ w1.heap.size := (by have := hgrow.size; simp at this; omega); clear hown1 hgrow hat hlt1))
  go_loopw [7, 8] (fun s7 s8 wr => ∃ (out : List Int) (k f : Nat), k ≤ out.length ∧ s8 = .int .i64 k ∧ Hid (wr.ownsRow (w.heap.size + 1) 3 1 s7 out.length (out.map (Value.int .i64))) ∧ Hid (Below w.heap.size w wr) ∧ Hid (wr.heap[w.heap.size]? = some (fnO ⟨⟨name, params, regs, frame, code⟩, ca, cc⟩)) ∧ Hid (withoutF code no f out k = R) ∧ Hid (Far code no a out k) ∧ code.length < f + k ∧ out.length ≤ code.length) (fun _ s8 wr => code.length - (intOf s8).toNat)
  case atStart => exact ⟨[a], 0, code.length + 1, by simp, rfl, HO, HB, HW, HR, HF0, by omega, by simp; omega⟩
  case round =>
    clear HO HB HW HR HF0 hs1
    obtain ⟨out, k, f, hk, rfl, HO, HB, HW, HR, HF, hfk, hol⟩ := hrel
    obtain ⟨a7, c7, rfl⟩ := row_slice HO.out
    have hz := lt_heap HW.out
    by_cases hlt : k < out.length
    · obtain ⟨p, hp⟩ : ∃ p, out[k]? = some p := ⟨_, List.getElem?_eq_getElem hlt⟩
      have hin := HF.out.inside p (List.mem_of_getElem? hp)
      unfold Inside at hin
      obtain ⟨q, rfl⟩ : ∃ q : Nat, p = (q : Int) := ⟨p.toNat, by omega⟩
      obtain ⟨x, hx⟩ : ∃ x, code[q]? = some x := ⟨_, List.getElem?_eq_getElem (by omega)⟩
      obtain ⟨g, rfl, hg, hgl, cu⟩ := own_int HO.out hp
      have HC2 := Lib.hid (HC.out.below (HB.out.mono hBw))
      obtain ⟨b, off, hca, hb, hBw2, q0, q1, q2, q3, q4, q5, q6, q7, q8, q9, q10, q11, q12, q13, q14⟩ := HC2.out.cells hx
      simp only at hca
      subst hca
      obtain ⟨d0, d1, d2, d3, d4⟩ := nv5 HW.out
      have HP := Lib.hid hp; have HX := Lib.hid hx; clear hp hx
      have hSW : SW w.heap.size b off code.length cc g k q q x wr.drew := ⟨d4, cu, q0, q1, q2, q3, q4, q5, q6, q7, q8, q9, q10, q11, q12, q13, q14⟩
      have p0 : (0 : Int) ≤ (k : Int) := Int.natCast_nonneg _
      have p1 : (k : Int) < (out.length : Int) := by omega
      have p2 : (0 : Int) ≤ (q : Int) := Int.natCast_nonneg _
      have p3 : (q : Int) < (code.length : Int) := by omega
      clear cu q0 q1 q2 q3 q4 q5 q6 q7 q8 q9 q10 q11 q12 q13 q14 d0 d1 d2 d3 d4
      obtain ⟨wo, rfl⟩ : ∃ wo : World, wo = wr := ⟨_, rfl⟩
      go_wp2
      have hmix : Try.prog.follows .mixedOrders = true := by kernel_rfl
      have BB := drW HB.out
      refine region_lastS (SW w.heap.size b off code.length cc g k q q x) 13 hmix hSW (fun hS => ?main)
      clear hSW
      refine anyL_take (i := 0) (v := ?_) rfl rfl (by kernel_rfl) (by kernel_rfl) (by kernel_rfl) (by kernel_rfl) (fun _ _ _ h => h) (Or.inl ⟨by rfl, ?_⟩) hS ?_
      rotate_left
      · (intro w' hSw; obtain ⟨k0, k1, k2, k3, k4, k5, k6, k7, k8, k9, k10, k11, k12, k13, k14, k15, k16⟩ := hSw; go_simp; first | done | with_reducible rfl)
      simp only [Act.put, List.getElem_toArray, List.getElem_cons_succ, List.getElem_cons_zero, List.setIfInBounds_toArray, List.set_cons_succ, List.set_cons_zero]
      refine anyL_take (i := 1) (v := ?_) rfl rfl (by kernel_rfl) (by kernel_rfl) (by kernel_rfl) (by kernel_rfl) (fun _ _ _ h => h) (Or.inl ⟨by rfl, ?_⟩) hS ?_
      rotate_left
      · (intro w' hSw; obtain ⟨k0, k1, k2, k3, k4, k5, k6, k7, k8, k9, k10, k11, k12, k13, k14, k15, k16⟩ := hSw; go_simp; first | done | with_reducible rfl)
      simp only [Act.put, List.getElem_toArray, List.getElem_cons_succ, List.getElem_cons_zero, List.setIfInBounds_toArray, List.set_cons_succ, List.set_cons_zero]
      refine anyL_take (i := 2) (v := ?_) rfl rfl (by kernel_rfl) (by kernel_rfl) (by kernel_rfl) (by kernel_rfl) (fun _ _ _ h => h) (Or.inl ⟨by rfl, ?_⟩) hS ?_
      rotate_left
      · (intro w' hSw; obtain ⟨k0, k1, k2, k3, k4, k5, k6, k7, k8, k9, k10, k11, k12, k13, k14, k15, k16⟩ := hSw; go_simp; first | done | with_reducible rfl)
      simp only [Act.put, List.getElem_toArray, List.getElem_cons_succ, List.getElem_cons_zero, List.setIfInBounds_toArray, List.set_cons_succ, List.set_cons_zero]
      refine anyL_take (i := 3) (v := ?_) rfl rfl (by kernel_rfl) (by kernel_rfl) (by kernel_rfl) (by kernel_rfl) (fun _ _ _ h => h) (Or.inl ⟨by rfl, ?_⟩) hS ?_
      rotate_left
      · (intro w' hSw; obtain ⟨k0, k1, k2, k3, k4, k5, k6, k7, k8, k9, k10, k11, k12, k13, k14, k15, k16⟩ := hSw; go_simp; first | done | with_reducible rfl)
      simp only [Act.put, List.getElem_toArray, List.getElem_cons_succ, List.getElem_cons_zero, List.setIfInBounds_toArray, List.set_cons_succ, List.set_cons_zero]
      refine anyL_take (i := 4) (v := ?_) rfl rfl (by kernel_rfl) (by kernel_rfl) (by kernel_rfl) (by kernel_rfl) (fun _ _ _ h => h) (Or.inl ⟨by rfl, ?_⟩) hS ?_
      rotate_left
      · (intro w' hSw; obtain ⟨k0, k1, k2, k3, k4, k5, k6, k7, k8, k9, k10, k11, k12, k13, k14, k15, k16⟩ := hSw; go_simp; first | done | with_reducible rfl)
      simp only [Act.put, List.getElem_toArray, List.getElem_cons_succ, List.getElem_cons_zero, List.setIfInBounds_toArray, List.set_cons_succ, List.set_cons_zero]
      refine anyL_take (i := 5) (v := ?_) rfl rfl (by kernel_rfl) (by kernel_rfl) (by kernel_rfl) (by kernel_rfl) (fun _ _ _ h => h) (Or.inl ⟨by rfl, ?_⟩) hS ?_
      rotate_left
      · (intro w' hSw; obtain ⟨k0, k1, k2, k3, k4, k5, k6, k7, k8, k9, k10, k11, k12, k13, k14, k15, k16⟩ := hSw; go_simp; first | done | with_reducible rfl)
      simp only [Act.put, List.getElem_toArray, List.getElem_cons_succ, List.getElem_cons_zero, List.setIfInBounds_toArray, List.set_cons_succ, List.set_cons_zero]
      refine anyL_take (i := 6) (v := ?_) rfl rfl (by kernel_rfl) (by kernel_rfl) (by kernel_rfl) (by kernel_rfl) (fun _ _ _ h => h) (Or.inl ⟨by rfl, ?_⟩) hS ?_
      rotate_left
      · (intro w' hSw; obtain ⟨k0, k1, k2, k3, k4, k5, k6, k7, k8, k9, k10, k11, k12, k13, k14, k15, k16⟩ := hSw; go_simp; first | done | with_reducible rfl)
      simp only [Act.put, List.getElem_toArray, List.getElem_cons_succ, List.getElem_cons_zero, List.setIfInBounds_toArray, List.set_cons_succ, List.set_cons_zero]
      refine anyL_take (i := 7) (v := ?_) rfl rfl (by kernel_rfl) (by kernel_rfl) (by kernel_rfl) (by kernel_rfl) (fun _ _ _ h => h) (Or.inl ⟨by rfl, ?_⟩) hS ?_
      rotate_left
      · (intro w' hSw; obtain ⟨k0, k1, k2, k3, k4, k5, k6, k7, k8, k9, k10, k11, k12, k13, k14, k15, k16⟩ := hSw; go_simp; first | done | with_reducible rfl)
      simp only [Act.put, List.getElem_toArray, List.getElem_cons_succ, List.getElem_cons_zero, List.setIfInBounds_toArray, List.set_cons_succ, List.set_cons_zero]
      refine anyL_take (i := 8) (v := ?_) rfl rfl (by kernel_rfl) (by kernel_rfl) (by kernel_rfl) (by kernel_rfl) (fun _ _ _ h => h) (Or.inl ⟨by rfl, ?_⟩) hS ?_
      rotate_left
      · (intro w' hSw; obtain ⟨k0, k1, k2, k3, k4, k5, k6, k7, k8, k9, k10, k11, k12, k13, k14, k15, k16⟩ := hSw; go_simp; first | done | with_reducible rfl)
      simp only [Act.put, List.getElem_toArray, List.getElem_cons_succ, List.getElem_cons_zero, List.setIfInBounds_toArray, List.set_cons_succ, List.set_cons_zero]
      refine anyL_take (i := 9) (v := ?_) rfl rfl (by kernel_rfl) (by kernel_rfl) (by kernel_rfl) (by kernel_rfl) (fun _ _ _ h => h) (Or.inl ⟨by rfl, ?_⟩) hS ?_
      rotate_left
      · (intro w' hSw; obtain ⟨k0, k1, k2, k3, k4, k5, k6, k7, k8, k9, k10, k11, k12, k13, k14, k15, k16⟩ := hSw; go_simp; first | done | with_reducible rfl)
      simp only [Act.put, List.getElem_toArray, List.getElem_cons_succ, List.getElem_cons_zero, List.setIfInBounds_toArray, List.set_cons_succ, List.set_cons_zero]
      refine anyL_take (i := 10) (v := ?_) rfl rfl (by kernel_rfl) (by kernel_rfl) (by kernel_rfl) (by kernel_rfl) (fun _ _ _ h => h) (Or.inl ⟨by rfl, ?_⟩) hS ?_
      rotate_left
      · (intro w' hSw; obtain ⟨k0, k1, k2, k3, k4, k5, k6, k7, k8, k9, k10, k11, k12, k13, k14, k15, k16⟩ := hSw; go_simp; first | done | with_reducible rfl)
      simp only [Act.put, List.getElem_toArray, List.getElem_cons_succ, List.getElem_cons_zero, List.setIfInBounds_toArray, List.set_cons_succ, List.set_cons_zero]
      refine anyL_take (i := 11) (v := ?_) rfl rfl (by kernel_rfl) (by kernel_rfl) (by kernel_rfl) (by kernel_rfl) (fun _ _ _ h => h) (Or.inl ⟨by rfl, ?_⟩) hS ?_
      rotate_left
      · (intro w' hSw; obtain ⟨k0, k1, k2, k3, k4, k5, k6, k7, k8, k9, k10, k11, k12, k13, k14, k15, k16⟩ := hSw; go_simp; first | done | with_reducible rfl)
      simp only [Act.put, List.getElem_toArray, List.getElem_cons_succ, List.getElem_cons_zero, List.setIfInBounds_toArray, List.set_cons_succ, List.set_cons_zero]
      refine anyL_one (i := 12) (by kernel_rfl) rfl (fun K1 hK1 => ?_)
      go_simp
      refine (next_any x q ⟨p2, by omega⟩ _).mono ?_
      rintro e v9 ⟨v, rfl, hno, hbx⟩
      obtain ⟨a9, c9, rfl⟩ := row_slice hno
      have hS' := hS.below (w := wo.drew) hz (Nat.lt_of_lt_of_le hb hBw2) hgl hbx
      refine hK1.out _ _ (fun _ => hS') ?_
      clear hK1 K1 hS hS'
      have HN9 : Hid (v9.ownsRow wo.heap.size 3 1 (.slice a9 (next x q).length c9) (next x q).length ((next x q).map (Value.int .i64))) := Lib.hid hno
      have HO2 := Lib.hid (own_keep (w' := v9) HO.out (fun g' hg' => hbx.block g' (HO.out.lt g' hg').2))
      have HW2 : Hid (v9.heap[w.heap.size]? = some (fnO ⟨⟨name, params, regs, frame, code⟩, some ⟨b, off, none⟩, cc⟩)) := Lib.hid ((hbx.block _ hz).trans HW.out)
      have HB2 := Lib.hid (BB.trans (hbx.mono BB.size))
      have HAP : Hid (∀ g', (Value.slice a9 (next x q).length c9).ownBlock = some g' → (Value.slice (some ⟨g, 0, none⟩) out.length c7).ownBlock ≠ some g') := Lib.hid (fun g' hg' he => by have h1 := (hno.lt g' hg').1; have h2 : wo.drew.heap.size = wo.heap.size := rfl; simp [Value.ownBlock] at he; omega)
      clear hno hbx BB
      refine anyL_one (i := 13) (by kernel_rfl) rfl (fun K1 hK1 => ?_)
      go_simp
      refine hK1.out _ _ (fun h => absurd rfl h) ?_
      clear hK1 K1
      refine anyL_done (by kernel_rfl) ?_ _
      obtain ⟨ns, hns⟩ : ∃ ns, next x q = ns := ⟨_, rfl⟩
      have hnl := nexts_len x q
      rw [hns] at hnl HN9 HAP ⊢
      have HNS : Hid (nexts code q = ns) := Lib.hid ((nexts_at (by rw [Int.toNat_natCast]; exact HX.out)).trans hns)
      clear hns
      go_wp2
      go_loopw [7, 10] (fun s7 s10 wr => ∃ (out2 : List Int) (j : Nat), j ≤ ns.length ∧ s10 = .int .i64 j ∧ Hid (wr.ownsRow (w.heap.size + 1) 3 1 s7 out2.length (out2.map (Value.int .i64))) ∧ Hid (addNew no out (ns.take j) = out2) ∧ Hid (Below w.heap.size w wr) ∧ Hid (wr.heap[w.heap.size]? = some (fnO ⟨⟨name, params, regs, frame, code⟩, some ⟨b, off, none⟩, cc⟩)) ∧ Hid (wr.ownsRow wo.heap.size 3 1 (.slice a9 ns.length c9) ns.length (ns.map (Value.int .i64))) ∧ Hid (∀ g', (Value.slice a9 ns.length c9).ownBlock = some g' → s7.ownBlock ≠ some g') ∧ out2.length ≤ out.length + j) (fun _ s10 wr => ns.length - (intOf s10).toNat)
      case atStart => exact ⟨out, 0, by omega, rfl, HO2, Lib.hid (by simp [addNew]), HB2, HW2, HN9, HAP, by omega⟩
      case round =>
        clear HO2 HB2 HW2 HN9 HAP
        obtain ⟨out2, j, hj, rfl, HO2, HAD, HB2, HW2, HN9, HAP, hol2⟩ := hrel
        obtain ⟨a8, c8, rfl⟩ := row_slice HO2.out
        have hzb := lt_heap HW2.out
        by_cases hlj : j < ns.length
        · obtain ⟨y, hy⟩ : ∃ y, ns[j]? = some y := ⟨_, List.getElem?_eq_getElem hlj⟩
          obtain ⟨h, rfl, hh, hhl, ch⟩ := own_int HN9.out hy
          have HTK := Lib.hid (take_more hy)
          clear hy
          have r0 : (0 : Int) ≤ (j : Int) := Int.natCast_nonneg _
          have r1 : (j : Int) < (ns.length : Int) := by omega
          by_cases hyn : y = no
          · have t1 : (y != no) = false := by simpa using hyn
            have HAD2 := Lib.hid (show addNew no out (ns.take (j + 1)) = out2 by rw [HTK.out, addNew_snoc, if_neg (fun h => h.1 hyn), HAD.out])
            clear hyn
            go_wp2
            go_roundw
            case rel => exact ⟨out2, j + 1, by omega, by go_num, HO2, HAD2, HB2, HW2, HN9, HAP, by omega⟩
            case measure => simp [intOf]; omega
          have t1 : (y != no) = true := by simpa using hyn
          have HIA := Lib.hid (IntsAt.of_own HO2.out)
          by_cases hyo : y ∈ out2
          · have HAD2 := Lib.hid (show addNew no out (ns.take (j + 1)) = out2 by rw [HTK.out, addNew_snoc, HAD.out, if_neg (fun h => h.2 hyo)])
            have HCT := Lib.hid (show out2.contains y = true by rw [List.contains_iff_mem]; exact hyo)
            clear hyn hyo
            go_wp2_with ((with_reducible refine (in_v out2 a8 c8 y true _ HIA.out (by unfold maxLen; omega) HCT.out).mono ?_); rintro e v3 ⟨rfl, rfl⟩)
            go_roundw
            case rel => exact ⟨out2, j + 1, by omega, by go_num, HO2, HAD2, HB2, HW2, HN9, HAP, by omega⟩
            case measure => simp [intOf]; omega
          have HAD2 := Lib.hid (show addNew no out (ns.take (j + 1)) = out2 ++ [y] by rw [HTK.out, addNew_snoc, HAD.out, if_pos ⟨hyn, hyo⟩])
          have HCT := Lib.hid (show out2.contains y = false by rw [Bool.eq_false_iff, ne_eq, List.contains_iff_mem]; exact hyo)
          clear hyn hyo
          go_wp2_with (first | ((with_reducible refine (in_v out2 a8 c8 y false _ HIA.out (by unfold maxLen; omega) HCT.out).mono ?_); rintro e v3 ⟨rfl, rfl⟩) | (at_builtin; go_loud (refine wpList_append_lies _ rfl (.tmp 59) (.tmp 64) 30 rfl (w.heap.size + 1) 3 i0 (.int .i64 0) 1 8 Try.underlying30 hi0 hz0 hz1 hz2 rfl (by decide) (.slice a8 out2.length c8) (out2.length) (out2.map (Value.int .i64)) rfl (HO2.out.alloc _) _ 1 1 [.int .i64 (y)] rfl rfl (cell_new1 _ _ _ _ (by simp)) (by simp [Value.oneCell']) (by omega) (by unfold maxLen; omega) (by omega) (by simp <;> omega) (wr.heap.size + 1) (by simp) ?_; intro g3 cap3 w3 hown3 hgrow hat hlt3; have HO3 := Lib.hid hown3; have HB3 := Lib.hid ((HB2.out.alloc (by omega) _).grown hgrow (by simp <;> omega) (fun k e => by have := (HO2.out.lt k e).1; omega)); have HW3 := Lib.hid ((hgrow.block w.heap.size (by simp <;> omega) (fun e => by have := (HO2.out.lt _ e.symm).1; omega)).trans ((Below.heap_alloc _ _ _ (by omega)).trans HW2.out)); have HN3 := Lib.hid (own_keep (w' := w3) HN9.out (fun g' hg' => (hgrow.block g' (by have := (HN9.out.lt g' hg').2; simp <;> omega) (fun e => HAP.out g' hg' e.symm)).trans (Below.heap_alloc _ _ _ (HN9.out.lt g' hg').2))); have HAP3 := Lib.hid (fun g' (hg' : (Value.slice (some ⟨h, 0, none⟩) ns.length c9).ownBlock = some g') => (fun (e : (Value.slice (some ⟨g3, 0, none⟩) (out2.length + 1) cap3).ownBlock = some g') => by have h2 := (HN9.out.lt g' hg').2; have h3 := HAP.out g' hg'; simp only [Value.ownBlock, Option.some.injEq] at e; subst e; rcases hat with hat | hat; exact h3 hat; omega)); clear hown3 hgrow hat hlt3)))
          go_roundw
          case rel => exact ⟨out2 ++ [y], j + 1, by omega, by go_num, Lib.hid (by simpa using HO3.out), HAD2, HB3, HW3, HN3, HAP3, by simp; omega⟩
          case measure => simp [intOf]; omega
        · obtain rfl : j = ns.length := by omega
          obtain ⟨f', rfl⟩ : ∃ f', f = f' + 1 := ⟨f - 1, by omega⟩
          have hA := HAD.out
          rw [List.take_length, ← HNS.out] at hA
          have HF2 := Lib.hid (hA ▸ HF.out.more HCL.out HP.out)
          have HR2 := Lib.hid (show withoutF code no f' out2 (k + 1) = R by have := HR.out; unfold withoutF at this; rw [HP.out] at this; simp only at this; rw [hA] at this; exact this)
          have hkl : k + 1 ≤ out2.length := by obtain ⟨t, ht⟩ := addNew_grows no (nexts code q) out; rw [hA] at ht; rw [ht, List.length_append]; omega
          have hol3 := nodup_le HF2.out.nodup HF2.out.inside
          clear hA
          go_wp2
          go_roundw
          case rel => exact ⟨out2, k + 1, f', hkl, by go_num, HO2, HB2, HW2, HR2, HF2, by omega, hol3⟩
          case measure => simp [intOf]; omega
    · obtain rfl : k = out.length := by omega
      obtain ⟨f', rfl⟩ : ∃ f', f = f' + 1 := ⟨f - 1, by omega⟩
      have HE := Lib.hid (show R = out by have := HR.out; unfold withoutF at this; rw [List.getElem?_eq_none (Nat.le_refl _)] at this; exact this.symm)
      go_wp2
      go_ret
      refine ⟨_, rfl, ?_, HB.out⟩
      rw [E.out, HE.out]
      exact ownsRow_le HO.out (by omega)
theorem without_any (r : FnR) (a no : Int) (B : Nat) (w : World) (hc : CodeAt w B r) (hf : RightF r.f) (ha : Inside r.f.code a) (hBw : B ≤ w.heap.size) :
    Calls Try.prog 44 #[fnV r, .int .i64 a, .int .i64 no] w (ListPost (without r.f.code a no) w) := without_v r.f.name r.f.params r.f.regs r.f.frame r.f.code r.ca r.cc a no B w hc hf ha hBw
end Go.Proofs.Ytgnpbodhjmappaa
namespace Go.Proofs.Ytgnpbodhjmappaa.Cd

/-- Is an instruction come to? -/
def reachedB (c : List Ins) (n : Int) : Bool := (without c 0 (-1)).contains n
def domB (c : List Ins) (a b : Int) : Bool :=
  decide (0 ≤ a) && decide (0 ≤ b) && decide (a < c.length) && decide (b < c.length) && reachedB c a && reachedB c b && (decide (a = b) || !(without c 0 a).contains b)
structure Dom (c : List Ins) (a b : Int) : Prop where
  ra : Reach c (-1) 0 a
  rb : Reach c (-1) 0 b
  all : a = b ∨ ¬ Reach c a 0 b
theorem zero_inside {c : List Ins} (h : 0 < c.length) : Inside c 0 := ⟨Int.le_refl _, by omega⟩
theorem reachedB_iff {c : List Ins} (hc : Closed c) (h0 : 0 < c.length) (n : Int) : reachedB c n = true ↔ Reach c (-1) 0 n := by
  unfold reachedB
  rw [List.contains_iff_mem]
  exact without_mem hc (zero_inside h0) n
theorem domB_iff {c : List Ins} (hc : Closed c) (h0 : 0 < c.length) (a b : Int) : domB c a b = true ↔ Dom c a b := by
  unfold domB
  simp only [Bool.and_eq_true, Bool.or_eq_true, decide_eq_true_eq, reachedB_iff hc h0, Bool.not_eq_true', Bool.eq_false_iff, ne_eq, List.contains_iff_mem, without_mem hc (zero_inside h0)]
  constructor
  · rintro ⟨⟨⟨⟨⟨⟨_, _⟩, _⟩, _⟩, ha⟩, hb⟩, hab⟩
    exact ⟨ha, hb, hab⟩
  · rintro ⟨ha, hb, hab⟩
    have h1 := ha.inside hc (zero_inside h0)
    have h2 := hb.inside hc (zero_inside h0)
    unfold Inside at h1 h2
    exact ⟨⟨⟨⟨⟨⟨h1.1, h2.1⟩, h1.2⟩, h2.2⟩, ha⟩, hb⟩, hab⟩
theorem Reach.forget {c : List Ins} {no a x : Int} (hc : Closed c) (ha : Inside c a) (h : Reach c no a x) : Reach c (-1) a x := by
  induction h with
  | start _ => exact .start (by unfold Inside at ha; omega)
  | more h1 hy _ ih =>
    have := hc _ (h1.inside hc ha) _ hy
    unfold Inside at this
    exact .more ih hy (by omega)
theorem Dom.refl {c : List Ins} {a : Int} (h : Reach c (-1) 0 a) : Dom c a a := ⟨h, h, .inl rfl⟩
theorem Dom.first {c : List Ins} {b : Int} (h : Reach c (-1) 0 b) : Dom c 0 b :=
  ⟨.start (by omega), h, .inr fun h1 => h1.first rfl⟩
/-- A way there that goes not through one, or through that. -/
theorem Reach.either {c : List Ins} {a x : Int} (h : Reach c (-1) 0 x) : Reach c a 0 x ∨ Reach c (-1) 0 a := by
  induction h with
  | start h0 =>
    by_cases h : (0 : Int) = a
    · exact .inr (h ▸ .start h0)
    · exact .inl (.start h)
  | @more x y h1 hy hn ih =>
    rcases ih with h2 | h2
    · by_cases h : y = a
      · exact .inr (h ▸ .more h1 hy hn)
      · exact .inl (.more h2 hy h)
    · exact .inr h2
theorem dom_line {c : List Ins} {a b x : Int} (h1 : Dom c a x) (h2 : Dom c b x) : Dom c a b ∨ Dom c b a := by
  by_cases hab : a = b
  · subst hab; exact .inl (.refl h1.ra)
  by_cases ha : Reach c a 0 b
  · by_cases hb : Reach c b 0 a
    · exfalso
      have key : ∀ y, Reach c (-1) 0 y → y ≠ a → y ≠ b → Reach c a 0 y ∨ Reach c b 0 y := by
        intro y hy
        induction hy with
        | start _ => intro h3 _; exact .inl (.start h3)
        | @more u v hu hv hn ih =>
          intro h3 h4
          by_cases hua : u = a
          · subst hua; exact .inr (.more hb hv h4)
          · by_cases hub : u = b
            · subst hub; exact .inl (.more ha hv h3)
            · rcases ih hua hub with h5 | h5
              · exact .inl (.more h5 hv h3)
              · exact .inr (.more h5 hv h4)
      by_cases hxa : x = a
      · subst hxa
        rcases h2.all with h | h
        · exact hab h.symm
        · exact h hb
      · by_cases hxb : x = b
        · subst hxb
          rcases h1.all with h | h
          · exact hab h
          · exact h ha
        · rcases key x h1.rb hxa hxb with h | h
          · rcases h1.all with h3 | h3
            · exact hxa h3.symm
            · exact h3 h
          · rcases h2.all with h3 | h3
            · exact hxb h3.symm
            · exact h3 h
    · exact .inr ⟨h2.ra, h1.ra, .inr hb⟩
  · exact .inl ⟨h1.ra, h2.ra, .inr ha⟩
theorem Dom.trans {c : List Ins} {a b x : Int} (h1 : Dom c a b) (h2 : Dom c b x) : Dom c a x := by
  refine ⟨h1.ra, h2.rb, ?_⟩
  by_cases hab : a = b
  · subst hab; exact h2.all
  · refine .inr fun hr => ?_
    have key : ∀ y, Reach c a 0 y → Reach c b 0 y ∨ Reach c a 0 b := by
      intro y hy
      induction hy with
      | start h0 =>
        by_cases h : (0 : Int) = b
        · exact .inr (h ▸ .start h0)
        · exact .inl (.start h)
      | @more u v hu hv hn ih =>
        rcases ih with h3 | h3
        · by_cases h : v = b
          · exact .inr (h ▸ .more hu hv hn)
          · exact .inl (.more h3 hv h)
        · exact .inr h3
    rcases h1.all with h3 | h3
    · exact hab h3
    · rcases key x hr with h4 | h4
      · rcases h2.all with h5 | h5
        · subst h5; exact h3 hr
        · exact h5 h4
      · exact h3 h4
theorem Dom.anti {c : List Ins} {a b : Int} (h1 : Dom c a b) (h2 : Dom c b a) : a = b := by
  by_cases hab : a = b
  · exact hab
  exfalso
  have key : ∀ y, Reach c (-1) 0 y → y = a ∨ y = b → False := by
    intro y hy
    have : ∀ y, Reach c (-1) 0 y → Reach c a 0 y ∧ Reach c b 0 y ∨ ∃ z, (z = a ∧ Reach c b 0 a) ∨ (z = b ∧ Reach c a 0 b) := by
      intro y hy
      induction hy with
      | start h0 =>
        by_cases h3 : (0 : Int) = a
        · exact .inr ⟨a, .inl ⟨rfl, by rw [← h3]; exact .start (by rw [h3]; exact hab)⟩⟩
        · by_cases h4 : (0 : Int) = b
          · exact .inr ⟨b, .inr ⟨rfl, by rw [← h4]; exact .start (by rw [h4]; exact fun h => hab h.symm)⟩⟩
          · exact .inl ⟨.start h3, .start h4⟩
      | @more u v hu hv hn ih =>
        rcases ih with ⟨h3, h4⟩ | h3
        · by_cases h5 : v = a
          · subst h5; exact .inr ⟨v, .inl ⟨rfl, .more h4 hv hab⟩⟩
          · by_cases h6 : v = b
            · subst h6; exact .inr ⟨v, .inr ⟨rfl, .more h3 hv h5⟩⟩
            · exact .inl ⟨.more h3 hv h5, .more h4 hv h6⟩
        · exact .inr h3
    intro hyab
    rcases this y hy with ⟨h3, h4⟩ | ⟨z, ⟨_, h3⟩ | ⟨_, h3⟩⟩
    · rcases hyab with rfl | rfl
      · exact h3.not rfl
      · exact h4.not rfl
    · rcases h2.all with h4 | h4
      · exact hab h4.symm
      · exact h4 h3
    · rcases h1.all with h4 | h4
      · exact hab h4
      · exact h4 h3
  exact key a h1.ra (.inl rfl)
/-- The next above: the first that dominates, but itself, that all others of these dominate. -/
def upB (c : List Ins) (n a : Int) : Bool := !decide (a = n) && domB c a n && (List.range c.length).all (fun b : Nat => !(!decide ((b : Int) = n) && domB c (b : Int) n && !domB c (b : Int) a))
def aboveN (c : List Ins) (n : Int) : Int := match (List.range c.length).find? (fun a : Nat => upB c n (a : Int)) with | some a => a | none => -1
/-- The loop of a head. -/
def tails (c : List Ins) (h : Int) : List Int := ((List.range c.length).map Int.ofNat).filter (fun n => reachedB c n && (nexts c n).contains h && domB c h n)
def inLoop (c : List Ins) (h n : Int) : Bool := decide (n = h) || (tails c h).any (fun t => reachedB c n && (without c n h).contains t)
def loopN (c : List Ins) (h : Int) : List Int := if tails c h = [] then [] else ((List.range c.length).map Int.ofNat).filter (inLoop c h)
def beforeN (c : List Ins) (n : Int) : List Int := ((List.range c.length).map Int.ofNat).filter (fun k => (nexts c k).contains n)
end Go.Proofs.Ytgnpbodhjmappaa.Cd
namespace Go.Proofs.Ytgnpbodhjmappaa
set_option maxRecDepth 100000
open Go.RowKit Cd
set_option linter.unusedVariables false
set_option linter.unusedSimpArgs false

theorem without_len (c : List Ins) (hc : Closed c) (a no : Int) (ha : Inside c a) : (without c a no).length ≤ c.length := by
  unfold without
  split
  · simp
  · rename_i h
    obtain ⟨k, h1, _⟩ := withoutF_far hc (c.length + 1) [a] 0 (Far.begin ha h) (by simp) (by omega)
    exact nodup_le h1.nodup h1.inside
theorem without_c (r : FnR) (a no : Int) (B : Nat) (w : World) (hc : CodeAt w B r) (hf : RightF r.f) (ha : Inside r.f.code a) (hBw : B ≤ w.heap.size) :
    Calls Try.prog 44 #[fnV r, .int .i64 a, .int .i64 no] w fun e w' => ∃ (x : Option Addr) (c : Nat), e = .returned (.slice x (without r.f.code a no).length c) ∧ IntsAt w' x (without r.f.code a no) ∧ Below w.heap.size w w' := by
  refine (without_any r a no B w hc hf ha hBw).mono ?_
  rintro e w' ⟨v, rfl, ho, hb⟩
  obtain ⟨x, c, rfl⟩ := row_slice ho
  exact ⟨x, c, rfl, IntsAt.of_own ho, hb⟩
set_option maxHeartbeats 1000000 in
theorem reached_any (r : FnR) (n : Int) (b : Bool) (B : Nat) (w : World) (hc : CodeAt w B r) (hf : RightF r.f) (hBw : B ≤ w.heap.size) (hb : reachedB r.f.code n = b) :
    Calls Try.prog 17 #[fnV r, .int .i64 n] w (RPost (.bool b) w) := by
  have hl := without_len r.f.code (closed_of hf) 0 (-1) (zero_inside hf.code.1)
  have hl2 := hf.code.2
  have HL := Lib.hid (show (without r.f.code 0 (-1)).length ≤ maxLen by unfold maxLen; omega)
  have HC := Lib.hid hc; have HF := Lib.hid hf; have HB := Lib.hid (show (without r.f.code 0 (-1)).contains n = b from hb)
  clear hc hf hb hl hl2
  go_enter Try.func17, Try.ntmps17
  go_wp2_with (first | ((with_reducible refine (without_c r 0 (-1) B _ (HC.out.below ((Below.refl _ _).alloc hBw _)) HF.out (zero_inside HF.out.code.1) (by simp <;> omega)).mono ?_); rintro e v1 ⟨x, c, rfl, hi, hbx⟩; have HI := Lib.hid hi; have HX := Lib.hid (((Below.refl w.heap.size w).alloc (Nat.le_refl _) (fnO r)).trans (hbx.mono (by simp <;> omega))); clear hi hbx) | ((with_reducible refine (in_v _ x c n b _ HI.out HL.out HB.out).mono ?_); rintro e v2 ⟨rfl, rfl⟩))
  go_ret
  exact ⟨rfl, HX.out⟩
end Go.Proofs.Ytgnpbodhjmappaa
namespace Go.Proofs.Ytgnpbodhjmappaa
set_option maxRecDepth 100000
open Go.RowKit Cd
set_option linter.unusedVariables false
set_option linter.unusedSimpArgs false

/-- One that is no reason against a. -/
def Cd.fineB (c : List Ins) (n a : Int) (b : Nat) : Bool := !(!decide ((b : Int) = n) && domB c (b : Int) n && !domB c (b : Int) a)
theorem upB_eq (c : List Ins) (n a : Int) : upB c n a = (!decide (a = n) && domB c a n && (List.range c.length).all (fineB c n a)) := rfl
theorem above_at {c : List Ins} {n : Int} {a : Nat} (h : ∀ j, j < a → upB c n (j : Int) = false) (ha : a < c.length) (hu : upB c n (a : Int) = true) : aboveN c n = (a : Int) := by
  unfold aboveN
  have e : (List.range c.length).find? (fun a : Nat => upB c n (a : Int)) = some a := by
    rw [List.find?_range_eq_some]
    exact ⟨hu, by simpa using ha, fun j hj => by simp [h j hj]⟩
  rw [e]
theorem above_none {c : List Ins} {n : Int} (h : ∀ j, j < c.length → upB c n (j : Int) = false) : aboveN c n = -1 := by
  unfold aboveN
  have e : (List.range c.length).find? (fun a : Nat => upB c n (a : Int)) = none := by
    rw [List.find?_eq_none]
    intro x hx
    rw [h x (List.mem_range.1 hx)]; simp
  rw [e]
theorem all_range_succ (p : Nat → Bool) (k : Nat) : (List.range (k + 1)).all p = ((List.range k).all p && p k) := by
  rw [List.range_succ, List.all_append]; simp
theorem filter_range_succ (p : Int → Bool) (k : Nat) : ((List.range (k + 1)).map Int.ofNat).filter p = ((List.range k).map Int.ofNat).filter p ++ (if p (k : Int) then [(k : Int)] else []) := by
  rw [List.range_succ, List.map_append, List.filter_append]
  congr 1
  simp only [List.map_cons, List.map_nil, List.filter_cons, List.filter_nil]
  rfl
theorem filter_range_len (p : Int → Bool) (k : Nat) : (((List.range k).map Int.ofNat).filter p).length ≤ k := by
  have := List.length_filter_le p ((List.range k).map Int.ofNat); simpa using this
end Go.Proofs.Ytgnpbodhjmappaa
namespace Go.Proofs.Ytgnpbodhjmappaa
set_option maxRecDepth 100000
open Go.RowKit Cd
set_option linter.unusedVariables false
set_option linter.unusedSimpArgs false

theorem next_c (x : Ins) (p : Int) (ns : List Int) (hp : 0 ≤ p ∧ p ≤ 1000000) (hns : next x p = ns) (w : World) :
    Calls Try.prog 49 #[inV x, .int .i64 p] w fun e w' => ∃ (a : Option Addr) (c : Nat), e = .returned (.slice a ns.length c) ∧ IntsAt w' a ns ∧ Below w.heap.size w w' := by
  subst hns
  refine (next_any x p hp w).mono ?_
  rintro e w' ⟨v, rfl, ho, hb⟩
  obtain ⟨a, c, rfl⟩ := row_slice ho
  exact ⟨a, c, rfl, IntsAt.of_own ho, hb⟩
end Go.Proofs.Ytgnpbodhjmappaa
namespace Go.Proofs.Ytgnpbodhjmappaa.Cd

abbrev LP := List Int × List Int
def leaveL (rc : Int → LP → LP) : List Int → LP → LP
  | [], p => p
  | y :: ys, p => leaveL rc ys (if y ∈ p.1 then p else rc y p)
def leaveF (c : List Ins) : Nat → Int → LP → LP
  | 0, _, p => p
  | f + 1, n, p => ((leaveL (leaveF c f) (nexts c n) (p.1 ++ [n], p.2)).1, (leaveL (leaveF c f) (nexts c n) (p.1 ++ [n], p.2)).2 ++ [n])
def orderN (c : List Ins) : List Int := (leaveF c c.length 0 ([], [])).2.reverse
structure LGood (c : List Ins) (p : LP) : Prop where
  nodup : p.1.Nodup
  inside : ∀ x ∈ p.1, Inside c x
  len : p.2.length ≤ p.1.length
theorem LGood.le {c : List Ins} {p : LP} (h : LGood c p) : p.1.length ≤ c.length := nodup_le h.nodup h.inside
theorem LGood.lt {c : List Ins} {p : LP} {n : Int} (h : LGood c p) (hn : Inside c n) (hm : n ∉ p.1) : p.1.length < c.length := by
  have h1 : (p.1 ++ [n]).Nodup := by
    rw [List.nodup_append]
    exact ⟨h.nodup, by simp, fun a ha b hb e => hm (by rw [List.mem_singleton] at hb; rw [← hb, ← e]; exact ha)⟩
  have := nodup_le h1 (fun x hx => by
    rcases List.mem_append.1 hx with h2 | h2
    · exact h.inside x h2
    · rw [List.mem_singleton] at h2; rw [h2]; exact hn)
  simp at this; omega
theorem LGood.add {c : List Ins} {p : LP} {n : Int} (h : LGood c p) (hn : Inside c n) (hm : n ∉ p.1) : LGood c (p.1 ++ [n], p.2) := by
  refine ⟨?_, fun x hx => ?_, ?_⟩
  · rw [List.nodup_append]
    exact ⟨h.nodup, by simp, fun a ha b hb e => hm (by rw [List.mem_singleton] at hb; rw [← hb, ← e]; exact ha)⟩
  · rcases List.mem_append.1 hx with h2 | h2
    · exact h.inside x h2
    · rw [List.mem_singleton] at h2; rw [h2]; exact hn
  · have := h.len; simp; omega
/-- What a search leaves behind it is good, and holds what was there. -/
def Grew (p q : LP) : Prop := p.1 <+: q.1 ∧ q.2.length + p.1.length = q.1.length + p.2.length
theorem Grew.refl (p : LP) : Grew p p := ⟨List.prefix_refl _, by omega⟩
theorem Grew.trans {p q r : LP} (h : Grew p q) (k : Grew q r) : Grew p r := ⟨h.1.trans k.1, by have := h.2; have := k.2; omega⟩
theorem leaveL_good {c : List Ins} {rc : Int → LP → LP} (hrc : ∀ y p, LGood c p → Inside c y → y ∉ p.1 → LGood c (rc y p) ∧ Grew p (rc y p)) :
    ∀ (l : List Int) (p : LP), LGood c p → (∀ y ∈ l, Inside c y) → LGood c (leaveL rc l p) ∧ Grew p (leaveL rc l p)
  | [], p, h, _ => ⟨h, Grew.refl p⟩
  | y :: l, p, h, hl => by
    unfold leaveL
    by_cases hy : y ∈ p.1
    · rw [if_pos hy]
      exact leaveL_good hrc l p h (fun z hz => hl z (by simp [hz]))
    · rw [if_neg hy]
      obtain ⟨h1, h2⟩ := hrc y p h (hl y (by simp)) hy
      obtain ⟨h3, h4⟩ := leaveL_good hrc l _ h1 (fun z hz => hl z (by simp [hz]))
      exact ⟨h3, h2.trans h4⟩
theorem leaveF_good {c : List Ins} (hc : Closed c) : ∀ (f : Nat) (n : Int) (p : LP), LGood c p → Inside c n → n ∉ p.1 → LGood c (leaveF c f n p) ∧ Grew p (leaveF c f n p)
  | 0, n, p, h, _, _ => ⟨h, Grew.refl p⟩
  | f + 1, n, p, h, hn, hm => by
    obtain ⟨h1, h2⟩ := leaveL_good (c := c) (fun y q hq hy hyq => leaveF_good hc f y q hq hy hyq) (nexts c n) (p.1 ++ [n], p.2) (h.add hn hm) (fun y hy => hc n hn y hy)
    unfold leaveF
    have h3 := h2.2
    have h4 := h.len
    simp only [List.length_append, List.length_singleton] at h3
    refine ⟨⟨h1.nodup, h1.inside, ?_⟩, (List.prefix_append _ _).trans h2.1, ?_⟩
    · simp only [List.length_append, List.length_singleton]; omega
    · simp only [List.length_append, List.length_singleton]; omega
theorem leaveL_snoc (rc : Int → LP → LP) : ∀ (l : List Int) (y : Int) (p : LP), leaveL rc (l ++ [y]) p = (if y ∈ (leaveL rc l p).1 then leaveL rc l p else rc y (leaveL rc l p))
  | [], y, p => rfl
  | x :: l, y, p => by simp only [List.cons_append, leaveL]; exact leaveL_snoc rc l y _
end Go.Proofs.Ytgnpbodhjmappaa.Cd
namespace Go.Proofs.Ytgnpbodhjmappaa
set_option maxRecDepth 100000
open Go.RowKit Cd
set_option linter.unusedVariables false
set_option linter.unusedSimpArgs false

/-- Numbers appended out of another row, whatever it is. -/
theorem wpList_append_ints {w : World} {ops : Array Oper} {rest : List Oper} {o : Oper} {a : Act} {Q : Exit → Act → World → Prop} (hgd : o.guard = none) (s x : Operand)
    (ho : o.op = .call { callee := .builtin .append, args := #[s, x], argTypes := #[30, 30] })
    (base : Nat) (i : TypeInfo) (hi : Try.prog.info? 3 = some i) (hz : i.zero = some (.int .i64 0)) (hsize : i.size = 1) (hby : i.bytes = 8)
    (v u : Value) (n m : Nat) (xs : List Value) (ys : List Int) (hs : a.eval s = v) (hx : a.eval x = u) (hown : w.ownsRow base 3 1 v n xs) (hsrc : w.ownsRow 0 3 1 u m (ys.map (Value.int .i64))) (hnm : n + m ≤ 100000) (hbase : base ≤ w.heap.size)
    (h : ∀ v' w', w'.ownsRow base 3 1 v' (n + m) (xs ++ ys.map (Value.int .i64)) → w.grownBy w' v.ownBlock → wpList Try.prog ops Q rest (a.put o.dst v') w') : wpList Try.prog ops Q (o :: rest) a w := by
  obtain ⟨hl, ⟨rfl, rfl⟩ | ⟨g, cap, cur, rfl, hg, hh, h1, h2, h3, ht⟩⟩ := id hsrc
  · have hy : ys = [] := List.eq_nil_of_length_eq_zero (by simpa using hl)
    subst hy
    exact wpList_append_own_none hgd s x _ ho base 3 i 1 Try.underlying30 hi v n xs hs hown hx (h v w (by simpa using hown) (World.grownBy.refl w _))
  · refine wpList_append_own_at w hgd s x _ ho base 3 i (.int .i64 0) 1 8 Try.underlying30 hi hz hsize hby rfl (by decide) v n xs hs hown ⟨g, 0, none⟩ m cap (ys.map (Value.int .i64)) hx (by simpa using hl) (hsrc.cells rfl) (fun u hu => by
      obtain ⟨y, _, rfl⟩ := List.mem_map.1 hu
      simp [Value.oneCell']) (by unfold maxLen; omega) (by omega) hbase (fun v' w' k1 k2 _ _ => h v' w' k1 k2)
/-- The empty row that a literal makes. -/
theorem own_empty (w : World) (N : Nat) (hN : N ≤ w.heap.size) : (w.alloc (.cells #[] 3)).ownsRow N 3 1 (.slice (some ⟨w.heap.size, 0, none⟩) 0 0) 0 [] :=
  ⟨rfl, .inr ⟨w.heap.size, 0, #[], rfl, hN, heap_alloc_new w _, Nat.le_refl _, by unfold maxLen; omega, rfl, rfl⟩⟩
/-- The answer: two rows. -/
def TwoPost (q : LP) (w : World) (e : Ending) (w' : World) : Prop :=
  ∃ v1 v2, e = .returned (.tuple #[v1, v2]) ∧ w'.ownsRow w.heap.size 3 1 v1 q.1.length (q.1.map (Value.int .i64)) ∧ w'.ownsRow w.heap.size 3 1 v2 q.2.length (q.2.map (Value.int .i64)) ∧ Below w.heap.size w w'
/-- What the region that goes deeper reads. -/
def SV (z g j : Nat) (r : FnR) (y : Int) (w : World) : Prop :=
  w.cell? ⟨g, j, none⟩ = some (.int .i64 y) ∧ w.cell? ⟨z, 0, none⟩ = some (.string (sb r.f.name)) ∧ w.cell? ⟨z, 1, none⟩ = some (.int .i64 r.f.params) ∧ w.cell? ⟨z, 2, none⟩ = some (.int .i64 r.f.regs) ∧ w.cell? ⟨z, 3, none⟩ = some (.int .i64 r.f.frame) ∧ w.cell? ⟨z, 4, none⟩ = some (.slice r.ca r.f.code.length r.cc)
theorem SV.below {z g j : Nat} {r : FnR} {y : Int} {w w' : World} (h : SV z g j r y w) (hz : z < w.heap.size) (hg : g < w.heap.size) (hw : Below w.heap.size w w') : SV z g j r y w' := by
  obtain ⟨h0, h1, h2, h3, h4, h5⟩ := h
  exact ⟨(hw.cell (p := ⟨g, j, none⟩) hg).trans h0, (hw.cell (p := ⟨z, 0, none⟩) hz).trans h1, (hw.cell (p := ⟨z, 1, none⟩) hz).trans h2, (hw.cell (p := ⟨z, 2, none⟩) hz).trans h3, (hw.cell (p := ⟨z, 3, none⟩) hz).trans h4, (hw.cell (p := ⟨z, 4, none⟩) hz).trans h5⟩
end Go.Proofs.Ytgnpbodhjmappaa
