/-
  Layer 10: what registers calls: slices.Clone of numbers, the functions put in, the keys in their order.
  Layer 10: registers' rows in memory.
  Layer 10: contract of registers, with the function that Ahead puts in.
  Layer 10: contract of registers, with the function that Behind puts in.
  Layer 10: Ahead and Behind tell the document's registers.
-/
import Derived.Test.YtpajndeongcjbaaQMI
import Derived.Test.YtpajndeongcjbaaQMF
import Derived.Laws.Cover3
import Derived.Deep.CutRange
import Derived.Deep.DeepCutAuto
namespace Go.Proofs.Ytpajndeongcjbaa
set_option maxRecDepth 100000
open Go.RowKit Cd Go.Maps
set_option linter.unusedVariables false
set_option linter.unusedSimpArgs false

theorem eql_nilS (a : Option Addr) (l c : Nat) (w : World) : (binOp .eql 29 (.slice a l c) (.slice none 0 0)).run Try.prog w = .ok (.bool a.isNone) w := by
  have h := run_equal_slice_nil (P := Try.prog) w 29 3 a l c Try.underlying29
  simp [binOp, h, Result.andThen]
theorem clone_some (l : List Int) (b off c : Nat) (w : World) (h : RowAt w w.heap.size (some ⟨b, off, none⟩) (ints l)) (hl : l.length ≤ 100000) :
    Calls Try.prog 89 #[.slice (some ⟨b, off, none⟩) l.length c] w (ListPost l w) := by
  have HR := Lib.hid h
  clear h
  have hq := eql_nilS (some ⟨b, off, none⟩) l.length c
  simp only [Option.isNone_some] at hq
  go_enter Try.func89, Try.ntmps89
  go_wp2_with (at_builtin; go_loud (refine wpList_append_twoI rfl (.tmp 5) (.tmp 6) rfl w.heap.size (.slice (some ⟨w.heap.size, 0, none⟩) 0 0) [] rfl (World.ownsRow_made w #[] 0 (Nat.le_refl _) (by unfold maxLen; omega) rfl) (some ⟨b, off, none⟩) l c rfl (RowAt.mono (HR.out.below (((Below.refl w.heap.size w).alloc (Nat.le_refl _) _))) (by simp) (Nat.le_refl _)) (by simp; omega) (by simp) ?_; intro v8 w8 hown8 hgr8; have HO8 := Lib.hid hown8; have HB8 := Lib.hid (((Below.refl w.heap.size w).alloc (Nat.le_refl _) (.cells #[] 3)).grown hgr8 (by simp) (fun q e => by simp only [Value.ownBlock, Option.some.injEq] at e; omega)); clear hown8 hgr8))
  go_ret
  exact ⟨v8, rfl, by simpa using HO8.out, HB8.out⟩
theorem clone_none (w : World) : Calls Try.prog 89 #[.slice none 0 0] w (ListPost [] w) := by
  have hq := eql_nilS none 0 0
  simp only [Option.isNone_none] at hq
  go_enter Try.func89, Try.ntmps89
  go_wp2
  go_ret
  exact ⟨_, rfl, World.ownsRow_nil _ _ _ _, Below.refl _ _⟩
/-- A row of truths of one's own. -/
def BRPost (A : List Bool) (n : Nat) (w : World) (e : Ending) (w' : World) : Prop := ∃ g, e = .returned (.slice (some ⟨g, 0, none⟩) n n) ∧ w.heap.size ≤ g ∧ VRow w' g 4 (bools A) ∧ Below w.heap.size w w'
/-- Live ahead, behind, nothing gone. -/
noncomputable def Cd.aheadO (c : List Ins) (gone : List Bool) (x : Int) : List Bool := foundB (backG (fromL c) (c.map Cd.sets) x) (rdr gone (UG c c.length 1 x)) (-1)
noncomputable def Cd.behO (c : List Ins) (gone : List Bool) (x : Int) : List Bool := behB (fromL c) (c.map Cd.sets) x (rdr gone (UG c c.length 1 x)) c.length
section
variable {c : List Ins} {gone : List Bool} {rk pk : List Int} {ga sa oa : Option Addr} {rm pm B : Nat} {w : World}
set_option maxHeartbeats 4000000 in
theorem ahead1_c (hU : UsAt w B c.length (fromL c) (c.map Cd.sets) gone (UG c c.length 1) (UG c c.length 2) rk pk ga sa oa rm pm) (hO : UsOk c.length (fromL c) (c.map Cd.sets) gone (UG c c.length 1) (UG c c.length 2)) (hB : B ≤ w.heap.size) (x : Int) (hx : (Lit.int .i64 x).wf = true) :
    Calls Try.prog 52 #[usV ga c.length c.length sa c.length c.length rm pm oa c.length c.length, .int .i64 x] w (BRPost (aheadO c gone x) c.length w) := by
  have HB0 := Lib.hid ((Below.refl w.heap.size w).alloc (Nat.le_refl _) (usO ga c.length c.length sa c.length c.length rm pm oa c.length c.length))
  have HX := heap_alloc_new w (usO ga c.length c.length sa c.length c.length rm pm oa c.length c.length)
  have HU := Lib.hid (hU.below (HB0.out.mono hB)); have HO := Lib.hid hO; have HW := Lib.hid hx
  obtain ⟨c0, c1, c2, c3, c4⟩ := nv5 HX
  clear hU hO hx HX
  go_enter Try.func52, Try.ntmps52
  go_wp2_with ((with_reducible refine (live_c B c.length (fromL c) (c.map Cd.sets) gone (UG c c.length 1) (UG c c.length 2) rk pk ga sa oa c.length c.length c.length rm pm x _ HU.out HO.out (by simp; omega) HW.out).mono ?_); rintro e w1 ⟨b1, b2, rfl, hb1, hb2, ha, hbb, hbw⟩; have HA := Lib.hid ha; have HB1 := Lib.hid (HB0.out.trans (hbw.mono HB0.out.size)); have hbs : w.heap.size ≤ b1 := (by simp at hb1; omega); clear ha hbb hbw)
  go_ret
  exact ⟨b1, rfl, hbs, HA.out, HB1.out⟩
set_option maxHeartbeats 4000000 in
theorem behind1_c (hU : UsAt w B c.length (fromL c) (c.map Cd.sets) gone (UG c c.length 1) (UG c c.length 2) rk pk ga sa oa rm pm) (hO : UsOk c.length (fromL c) (c.map Cd.sets) gone (UG c c.length 1) (UG c c.length 2)) (hB : B ≤ w.heap.size) (x : Int) (hx : (Lit.int .i64 x).wf = true) :
    Calls Try.prog 54 #[usV ga c.length c.length sa c.length c.length rm pm oa c.length c.length, .int .i64 x] w (BRPost (behO c gone x) c.length w) := by
  have HB0 := Lib.hid ((Below.refl w.heap.size w).alloc (Nat.le_refl _) (usO ga c.length c.length sa c.length c.length rm pm oa c.length c.length))
  have HX := heap_alloc_new w (usO ga c.length c.length sa c.length c.length rm pm oa c.length c.length)
  have HU := Lib.hid (hU.below (HB0.out.mono hB)); have HO := Lib.hid hO; have HW := Lib.hid hx
  obtain ⟨c0, c1, c2, c3, c4⟩ := nv5 HX
  clear hU hO hx HX
  go_enter Try.func54, Try.ntmps54
  go_wp2_with ((with_reducible refine (live_c B c.length (fromL c) (c.map Cd.sets) gone (UG c c.length 1) (UG c c.length 2) rk pk ga sa oa c.length c.length c.length rm pm x _ HU.out HO.out (by simp; omega) HW.out).mono ?_); rintro e w1 ⟨b1, b2, rfl, hb1, hb2, ha, hbb, hbw⟩; have HA := Lib.hid hbb; have HB1 := Lib.hid (HB0.out.trans (hbw.mono HB0.out.size)); have hbs : w.heap.size ≤ b2 := (by simp at hb2; omega); clear ha hbb hbw)
  go_ret
  exact ⟨b2, rfl, hbs, HA.out, HB1.out⟩
end
theorem infoBRow : (Try.prog.info? 75).map (fun i => (i.zero, i.size, i.bytes)) = some (some (.slice none 0 0), 1, 24) := by kernel_rfl
theorem make_brows (n : Nat) (hn : n ≤ 100000) (w : World) : (Instr.makeSlice 123 (.int .i64 (n : Int)) (.int .i64 (n : Int))).run Try.prog w = .ok (.slice (some ⟨w.heap.size, 0, none⟩) n n) (w.alloc (.cells (List.replicate n (Value.slice none 0 0)).toArray 75)) := by
  rw [run_make_row' 123 75 (.slice none 0 0) 24 Try.underlying123 infoBRow rfl .i64 .i64 n (by omega) (by omega) w, made_row]
theorem own_keyI {es : List (Lit × DataW Unit)} {w : World} {b n : Nat} (hown : w.ownsMap Try.prog 3 hdrE b n (.map es)) {p : Lit × DataW Unit} (hp : p ∈ es) : ∃ x, p.1 = .int .i64 x := by
  obtain ⟨es', he, hko⟩ := hown.keysOf
  injection he with he
  subst he
  obtain ⟨v, hv⟩ := hko p hp
  obtain ⟨x, _, hx, _⟩ := Maps.keyOf_i64 Try.underlying3 hv
  exact ⟨x, hx⟩
/-- The keys of a map of these, in their order. -/
theorem keys_sorted {D : DataW Unit} {ks : List Int} {w : World} {b n : Nat} {ss : List Int} (hown : w.ownsMap Try.prog 3 hdrE b n D) (hk : ∀ x : Int, Maps.has D (.int .i64 x) = ks.contains x) (hs : ss.Perm (intKeys D)) (hnd : ks.Nodup) :
    (∀ x, x ∈ ss.mergeSort (fun x y => decide (x ≤ y)) ↔ x ∈ ks) ∧ (ss.mergeSort (fun x y => decide (x ≤ y))).Pairwise (fun x y => x < y) := by
  obtain ⟨es, rfl, hp, hl⟩ := hown.entries lawI
  have hp2 : ks.Perm (intKeys (.map es)) := perm_intKeys hp (fun p hp' => by
    exact own_keyI hown hp') hnd (fun x => by rw [hk x]; exact List.contains_iff_mem.symm)
  have hpp : (ss.mergeSort (fun x y => decide (x ≤ y))).Perm ks := (List.mergeSort_perm _ _).trans (hs.trans hp2.symm)
  refine ⟨fun x => hpp.mem_iff, ?_⟩
  have hsr : (ss.mergeSort (fun x y => decide (x ≤ y))).Pairwise (fun x y => decide (x ≤ y) = true) := List.pairwise_mergeSort (fun a b c h1 h2 => by simp at *; omega) (fun a b => by simp; omega) ss
  have hnn : (ss.mergeSort (fun x y => decide (x ≤ y))).Nodup := hpp.nodup_iff.2 hnd
  exact List.Pairwise.imp₂ (fun a b h1 h2 => by simp at h1; omega) hsr hnn
end Go.Proofs.Ytpajndeongcjbaa
namespace Go.Proofs.Ytpajndeongcjbaa
set_option maxRecDepth 100000
open Go.RowKit Cd Go.Maps
set_option linter.unusedVariables false
set_option linter.unusedSimpArgs false

/-- For each register so far, where it belongs. -/
structure RgB (w : World) (BL n : Nat) (O : List Int) (L : Int → List Bool) (k : Nat) (vs : List Value) : Prop where
  row : VRow w BL 75 vs
  len : vs.length = O.length
  done : ∀ (j : Nat) (x : Int), j < k → O[j]? = some x → ∃ g, vs[j]? = some (.slice (some ⟨g, 0, none⟩) n n) ∧ BL < g ∧ VRow w g 4 (bools (L x))
section
variable {w w' : World} {BL n : Nat} {O : List Int} {L : Int → List Bool} {k : Nat} {vs : List Value}
theorem RgB.below (h : RgB w BL n O L k vs) (hb : Below w.heap.size w w') : RgB w' BL n O L k vs :=
  ⟨h.row.keep (hb.block _ h.row.lt), h.len, fun j x hj hx => by
    obtain ⟨g, h1, h2, h3⟩ := h.done j x hj hx
    exact ⟨g, h1, h2, h3.keep (hb.block _ h3.lt)⟩⟩
theorem RgB.put (h : RgB w BL n O L k vs) {x : Int} (hx : O[k]? = some x) {g : Nat} (hg : BL < g) (hr : VRow w g 4 (bools (L x))) : RgB (w.setCell ⟨BL, k, none⟩ (.slice (some ⟨g, 0, none⟩) n n)) BL n O L (k + 1) (vs.set k (.slice (some ⟨g, 0, none⟩) n n)) := by
  have ho : ∀ q, q ≠ BL → (w.setCell ⟨BL, k, none⟩ (.slice (some ⟨g, 0, none⟩) n n)).heap[q]? = w.heap[q]? := fun q hq => Below.heap_setCell _ _ _ _ (by simpa using hq)
  have hk := (List.getElem?_eq_some_iff.1 hx).1
  refine ⟨h.row.set k _, by rw [List.length_set]; exact h.len, fun j y hj hy => ?_⟩
  by_cases e : j = k
  · subst e
    rw [hx] at hy
    injection hy with hy
    subst hy
    exact ⟨g, List.getElem?_set_self (by rw [h.len]; exact hk), hg, hr.keep (ho _ (by omega))⟩
  · obtain ⟨q, h1, h2, h3⟩ := h.done j y (by omega) hy
    exact ⟨q, by rw [List.getElem?_set_ne (fun e' => e e'.symm)]; exact h1, h2, h3.keep (ho _ (by omega))⟩
theorem RgB.at (h : RgB w BL n O L k vs) {j : Nat} {x : Int} (hj : j < k) (hx : O[j]? = some x) {i : Nat} (hi : i < (L x).length) : ∃ g, w.cell? ⟨BL, j, none⟩ = some (.slice (some ⟨g, 0, none⟩) n n) ∧ g < w.heap.size ∧ w.cell? ⟨g, i, none⟩ = some (.bool ((L x).getD i false)) := by
  obtain ⟨g, h1, h2, h3⟩ := h.done j x hj hx
  refine ⟨g, VRow.cell h.row h1, h3.lt, VRow.cell h3 ?_⟩
  unfold bools
  rw [List.getElem?_map, List.getD_eq_getElem?_getD, List.getElem?_eq_getElem hi]
  rfl
end
/-- The lists so far; the row that is filled beside. -/
structure RgL (w : World) (LB LO n : Nat) (lst : Nat → List Int) (k : Nat) (ls : List Value) (hv : Value) : Prop where
  row : VRow w LB 29 ls
  len : ls.length = n
  lo : LB < LO
  done : ∀ j, j < k → ∃ a c, ls[j]? = some (.slice a (lst j).length c) ∧ w.ownsRow LO 3 1 (.slice a (lst j).length c) (lst j).length (ints (lst j)) ∧ ∀ g, (Value.slice a (lst j).length c).ownBlock = some g → hv.ownBlock ≠ some g
section
variable {w w' : World} {LB LO n : Nat} {lst : Nat → List Int} {k : Nat} {ls : List Value} {hv hv' : Value}
theorem RgL.grow (h : RgL w LB LO n lst k ls hv) (hg : w.grownBy w' hv.ownBlock) (hl : ∀ g, hv.ownBlock = some g → LO ≤ g) (hat : ∀ g, hv'.ownBlock = some g → hv.ownBlock = some g ∨ w.heap.size ≤ g) : RgL w' LB LO n lst k ls hv' := by
  refine ⟨h.row.keep (hg.block _ h.row.lt (fun e => by have := hl _ e.symm; have := h.lo; omega)), h.len, h.lo, fun j hj => ?_⟩
  obtain ⟨a, c, h1, h2, h3⟩ := h.done j hj
  refine ⟨a, c, h1, own_keep h2 (fun g hgg => hg.block g (h2.lt g hgg).2 (fun e => h3 g hgg e.symm)), fun g hgg e => ?_⟩
  rcases hat g e with e2 | e2
  · exact h3 g hgg e2
  · have := (h2.lt g hgg).2; omega
theorem RgL.below (h : RgL w LB LO n lst k ls hv) (hb : Below w.heap.size w w') : RgL w' LB LO n lst k ls hv :=
  ⟨h.row.keep (hb.block _ h.row.lt), h.len, h.lo, fun j hj => by
    obtain ⟨a, c, h1, h2, h3⟩ := h.done j hj
    exact ⟨a, c, h1, own_keep h2 (fun g hg => hb.block g (h2.lt g hg).2), h3⟩⟩
theorem RgL.short (h : RgL w LB LO n lst k ls hv) (he : ∀ g, hv'.ownBlock = some g → hv.ownBlock = some g) : RgL w LB LO n lst k ls hv' :=
  ⟨h.row, h.len, h.lo, fun j hj => by
    obtain ⟨a, c, h1, h2, h3⟩ := h.done j hj
    exact ⟨a, c, h1, h2, fun g hg e => h3 g hg (he g e)⟩⟩
theorem RgL.put (h : RgL w LB LO n lst k ls hv) (hk : k < n) {a : Option Addr} {c : Nat} (ho : w.ownsRow LO 3 1 (.slice a (lst k).length c) (lst k).length (ints (lst k))) (hn : ∀ g, (Value.slice a (lst k).length c).ownBlock = some g → hv.ownBlock ≠ some g) : RgL (w.setCell ⟨LB, k, none⟩ (.slice a (lst k).length c)) LB LO n lst (k + 1) (ls.set k (.slice a (lst k).length c)) hv := by
  have hoth : ∀ q, q ≠ LB → (w.setCell ⟨LB, k, none⟩ (.slice a (lst k).length c)).heap[q]? = w.heap[q]? := fun q hq => Below.heap_setCell _ _ _ _ (by simpa using hq)
  have hkeep : ∀ {v : Value} {m : Nat} {xs : List Value}, w.ownsRow LO 3 1 v m xs → (w.setCell ⟨LB, k, none⟩ (.slice a (lst k).length c)).ownsRow LO 3 1 v m xs := fun h1 => own_keep h1 (fun g hg => hoth g (by have := (h1.lt g hg).1; have := h.lo; omega))
  refine ⟨h.row.set k _, by rw [List.length_set]; exact h.len, h.lo, fun j hj => ?_⟩
  by_cases e : j = k
  · subst e
    exact ⟨a, c, List.getElem?_set_self (by rw [h.len]; exact hk), hkeep ho, hn⟩
  · obtain ⟨a2, c2, h1, h2, h3⟩ := h.done j (by omega)
    exact ⟨a2, c2, by rw [List.getElem?_set_ne (fun e' => e e'.symm)]; exact h1, hkeep h2, h3⟩
theorem RgL.rows (h : RgL w LB LO n lst n ls hv) : RowsAt w w.heap.size (some ⟨LB, 0, none⟩) ((List.range n).map lst) := by
  refine ⟨ls, by rw [h.len]; simp, h.row.rowAt, fun i l hi => ?_⟩
  rw [List.getElem?_map] at hi
  have hil : i < n := by
    rcases Nat.lt_or_ge i n with h0 | h0
    · exact h0
    · rw [List.getElem?_eq_none (by simpa using h0)] at hi; cases hi
  rw [List.getElem?_range hil] at hi
  injection hi with hi
  subst hi
  obtain ⟨a, c, h1, h2, _⟩ := h.done i hil
  have := own_cap h2
  exact ⟨a, c, h1, LiesIn.row (LiesIn.of_own h2), this.1, this.2⟩
end
end Go.Proofs.Ytpajndeongcjbaa
namespace Go.Proofs.Ytpajndeongcjbaa
set_option maxRecDepth 100000
open Go.RowKit Cd Go.Maps
set_option linter.unusedVariables false
set_option linter.unusedSimpArgs false

def Cd.regPA (L : Int → List Bool) (a : Nat) (O : List Int) (k : Nat) : List Int := (O.take k).filter (fun x => (L x).getD a false)
theorem regPA_more (L : Int → List Bool) (a : Nat) {O : List Int} {k : Nat} {x : Int} (h : O[k]? = some x) : regPA L a O (k + 1) = if (L x).getD a false = true then regPA L a O k ++ [x] else regPA L a O k := by
  unfold regPA
  rw [take_more h, List.filter_append]
  by_cases hb : (L x).getD a false = true
  · rw [if_pos hb]
    congr 1
    simp only [List.filter_cons, hb, if_true, List.filter_nil]
  · rw [if_neg hb]
    simp only [List.filter_cons, hb, if_false, List.filter_nil, List.append_nil, Bool.false_eq_true]
theorem regPA_len (L : Int → List Bool) (a : Nat) (O : List Int) (k : Nat) : (regPA L a O k).length ≤ O.length := Nat.le_trans (List.length_filter_le _ _) (by simp; omega)
theorem regA_len (c : List Ins) (gone : List Bool) (x : Int) : (aheadO c gone x).length = c.length := by unfold aheadO; simp [behB_len, foundB_len, backG_len, fromL]
theorem keys_leA (D : DataW Unit) : (intKeys D).length ≤ Maps.size D := by
  cases D <;> simp [intKeys, Maps.size]
theorem reads_wfA {f : Fnc} (hR : RightF f) {x : Int} (hx : UG f.code f.code.length 1 x ≠ []) : (Lit.int .i64 x).wf = true := by
  obtain ⟨y, hy⟩ := List.exists_mem_of_ne_nil _ hx
  obtain ⟨p, i, h1, h2, rfl, h4⟩ := (ug_mem (by omega) _ (Nat.le_refl _)).1 hy
  change x ∈ uses i at h4
  have hI := hR.all i (List.mem_of_getElem? h2)
  have h5 := hI.uses x h4
  unfold regOk at h5
  have hrg := hR.regs
  exact wf_small (by omega) (by omega)
set_option maxHeartbeats 8000000 in
theorem regA_v (name : List UInt8) (params regs frame : Int) (code : List Ins) (ca : Option Addr) (cc : Nat) (w : World) (hC : CodeAt w w.heap.size ⟨⟨name, params, regs, frame, code⟩, ca, cc⟩) (hm : code.length ≤ maxLen) (hR : RightF ⟨name, params, regs, frame, code⟩) :
    Calls Try.prog 51 #[fnV ⟨⟨name, params, regs, frame, code⟩, ca, cc⟩, .func (.func 52) #[] #[]] w (fun e w' => ∃ (g : Nat) (O : List Int), e = .returned (.slice (some ⟨g, 0, none⟩) code.length code.length) ∧ (∀ x, x ∈ O ↔ UG code code.length 1 x ≠ []) ∧ O.Pairwise (fun x y => x < y) ∧ RowsAt w' w'.heap.size (some ⟨g, 0, none⟩) ((List.range code.length).map (fun at_ : Nat => O.filter (fun x => (aheadO code (List.replicate code.length false) x).getD at_ false))) ∧ Below w.heap.size w w') := by
  obtain ⟨i0, hi0, hz0, hz1, hz2⟩ := info_parts infoInt
  have HB0 := Lib.hid ((Below.refl w.heap.size w).alloc (Nat.le_refl _) (fnO ⟨⟨name, params, regs, frame, code⟩, ca, cc⟩))
  have HX0 := Lib.hid (heap_alloc_new w (fnO ⟨⟨name, params, regs, frame, code⟩, ca, cc⟩))
  have HC := Lib.hid hC; have HM := Lib.hid hm; have HR := Lib.hid hR
  have hn : code.length ≤ 8192 := hR.code.2
  have hmkr := make_rows code.length (by omega)
  obtain ⟨c0, c1, c2, c3, c4⟩ := nv5 HX0.out
  clear hC hm hR
  go_enter Try.func51, Try.ntmps51
  go_upto_region 4 with (first | ((with_reducible refine (rightF_v ⟨⟨name, params, regs, frame, code⟩, ca, cc⟩ true w.heap.size _ (HC.out.below HB0.out) HB0.out.size HM.out (rightF_iff.2 HR.out)).mono ?_); rintro e w1 ⟨rfl, hb1⟩; have HB1 := Lib.hid (HB0.out.trans (hb1.mono HB0.out.size)); have HX1 := Lib.hid ((hb1.block w.heap.size (lt_heap HX0.out)).trans HX0.out); clear hb1 c0 c1 c2 c3 c4; obtain ⟨c0, c1, c2, c3, c4⟩ := nv5 HX1.out) | ((with_reducible refine (uses_w ⟨⟨name, params, regs, frame, code⟩, ca, cc⟩ _ HR.out (code_up (HC.out.below HB1.out) HB1.out.size)).mono ?_); rintro e w3 ⟨b, V, lo, rfl, hlo, hbk, hU, hb3⟩; have HU := Lib.hid hU; have HB3 := Lib.hid (HB1.out.trans (hb3.mono HB1.out.size)); have HX3 := Lib.hid ((hb3.block w.heap.size (lt_heap HX1.out)).trans HX1.out); clear hb3 hU hbk c0 c1 c2 c3 c4))
  obtain ⟨rk, pk, hat⟩ := HU.out.at
  have HAT := Lib.hid hat
  have HOK := Lib.hid (usOk_of (c := code) (gone := List.replicate code.length false) hn (by simp))
  obtain ⟨nn, ks, hnm, ⟨D, hown, htidy, hhas, _⟩, hks, _, hnd⟩ := HU.out.read
  have hsz := hown.size_le
  have HBA := Lib.hid ((Below.refl w3.heap.size w3).alloc (Nat.le_refl _) (usO (some ⟨b 0, 0, none⟩) code.length code.length (some ⟨b 1, 0, none⟩) code.length code.length (b 2) (b 3) (some ⟨b 4, 0, none⟩) code.length code.length))
  have hX4 := heap_alloc_new w3 (usO (some ⟨b 0, 0, none⟩) code.length code.length (some ⟨b 1, 0, none⟩) code.length code.length (b 2) (b 3) (some ⟨b 4, 0, none⟩) code.length code.length)
  have hown4 : (w3.alloc (usO (some ⟨b 0, 0, none⟩) code.length code.length (some ⟨b 1, 0, none⟩) code.length code.length (b 2) (b 3) (some ⟨b 4, 0, none⟩) code.length code.length)).ownsMap Try.prog 3 hdrE (b 2) nn D := by
    obtain ⟨es, clock, h1, h2⟩ := hown
    exact ⟨es, clock, (HBA.out.block _ HU.out.read.lt).trans h1, h2⟩
  have HKS : Hid (∀ ss : List Int, ss.Perm (intKeys D) → (∀ x, x ∈ ss.mergeSort (fun x y => decide (x ≤ y)) ↔ UG code code.length 1 x ≠ []) ∧ (ss.mergeSort (fun x y => decide (x ≤ y))).Pairwise (fun x y => x < y)) := Lib.hid (fun ss hs => by
    obtain ⟨h1, h2⟩ := keys_sorted hown hhas hs hnd
    exact ⟨fun x => (h1 x).trans (hks x), h2⟩)
  obtain ⟨X, hX⟩ : ∃ X, w3.heap.size = X := ⟨_, rfl⟩
  obtain ⟨w4, hw4⟩ : ∃ w4, w3.alloc (usO (some ⟨b 0, 0, none⟩) code.length code.length (some ⟨b 1, 0, none⟩) code.length code.length (b 2) (b 3) (some ⟨b 4, 0, none⟩) code.length code.length) = w4 := ⟨_, rfl⟩
  have hs4 : w4.heap.size = X + 1 := by rw [← hw4, ← hX]; simp
  rw [hw4] at HBA hX4 hown4 ⊢
  rw [hX] at HBA hX4 HAT ⊢
  have hXw : w.heap.size + 1 ≤ X := by rw [← hX]; exact lt_heap HX3.out
  have HX4 := Lib.hid hX4
  have HF4 := Lib.hid ((HBA.out.block w.heap.size (by omega)).trans HX3.out)
  have hst := Try.slices_Sorted_int (b 2) nn D hdrE w4 hown4 (by unfold maxLen; omega) (by omega)
  rw [hs4] at hst
  have HSRT := Lib.hid hst
  clear hst
  obtain ⟨t0, t1, t2, t3, t4⟩ := nv5 hX4
  clear hown hhas htidy hnd hat hw4 hks hX4 hown4
  go_upto_region 5 with (first | ((with_reducible refine (Try.maps_Keys_int (some (b 2)) _).mono ?_); rintro e w5 ⟨rfl, rfl⟩) | ((with_reducible refine HSRT.out.mono ?_); rintro e w6 ⟨v6, ss, rfl, hperm, hrow, _, hb6⟩; obtain ⟨oa, oc, rfl⟩ := row_slice hrow; have HPE := Lib.hid hperm; have HRO := Lib.hid hrow; have HW6 := Lib.hid (show ∀ g, g < X + 1 → w6.heap[g]? = w4.heap[g]? from fun g hg => (hb6.block g (by simp; omega)).trans (Below.heap_alloc _ _ _ (by omega))); have hs6' : X + 2 ≤ w6.heap.size := (by have h9 := hb6.size; simp at h9; omega); have HB6 := Lib.hid (HBA.out.trans (((Below.refl w4.heap.size w4).alloc (Nat.le_refl _) _).trans (hb6.mono (by simp)) |>.mono (show X ≤ w4.heap.size by omega))); clear hperm hrow hb6))
  obtain ⟨O, hO⟩ : ∃ O, ss.mergeSort (fun x y => decide (x ≤ y)) = O := ⟨_, rfl⟩
  obtain ⟨hk1, hk2⟩ := HKS.out ss HPE.out
  rw [hO] at hk1 hk2
  have hOl : ss.length = O.length := by rw [← hO, List.length_mergeSort]
  have hom : O.length ≤ 80000 := by
    rw [← hOl, HPE.out.length_eq]
    have hD : (intKeys D).length ≤ Maps.size D := keys_leA D
    omega
  have HOR : Hid (LiesIn w6 (X + 2) oa (ints O)) := Lib.hid (by
    have h9 := HRO.out
    rw [show (ss.mergeSort (fun x y => decide (x ≤ y))).map encZ = ints O from by rw [← hO]] at h9
    exact LiesIn.of_own (ownsRow_le h9 (by simp [hs4])))
  have HK1 := Lib.hid hk1; have HK2 := Lib.hid hk2
  have hwf : ∀ x ∈ O, (Lit.int .i64 x).wf = true := fun x hx => reads_wfA HR.out ((hk1 x).1 hx)
  have HWF := Lib.hid hwf
  rw [hOl]
  have HX6 := Lib.hid (show w6.heap[X]? = some (usO (some ⟨b 0, 0, none⟩) code.length code.length (some ⟨b 1, 0, none⟩) code.length code.length (b 2) (b 3) (some ⟨b 4, 0, none⟩) code.length code.length) from (HW6.out X (by omega)).trans HX4.out)
  have HF6 := Lib.hid ((HW6.out w.heap.size (by omega)).trans HF4.out)
  clear HRO HPE hO hOl hk1 hk2 hwf t0 t1 t2 t3 t4 HSRT HKS
  have hs6 : X + 2 ≤ w6.heap.size := hs6'
  have hmkb := make_brows O.length (by omega)
  go_upto_region 7 with fail
  obtain ⟨BL, hBL⟩ : ∃ BL, w6.heap.size = BL := ⟨_, rfl⟩
  have hr7 : VRow (w6.alloc (.cells (Array.replicate O.length (Value.slice none 0 0)) 75)) BL 75 (List.replicate O.length (Value.slice none 0 0)) := by
    unfold VRow
    rw [← hBL, List.toArray_replicate]
    exact heap_alloc_new w6 _
  have HB67 := Lib.hid ((Below.refl w6.heap.size w6).alloc (Nat.le_refl _) (.cells (Array.replicate O.length (Value.slice none 0 0)) 75))
  have HRG0 : Hid (RgB (w6.alloc (.cells (Array.replicate O.length (Value.slice none 0 0)) 75)) BL code.length O (aheadO code (List.replicate code.length false)) 0 (List.replicate O.length (Value.slice none 0 0))) := Lib.hid ⟨hr7, by simp, fun j x hj => absurd hj (Nat.not_lt_zero _)⟩
  obtain ⟨w7, hw7⟩ : ∃ w7, w6.alloc (.cells (Array.replicate O.length (Value.slice none 0 0)) 75) = w7 := ⟨_, rfl⟩
  rw [hw7] at HB67 HRG0 ⊢
  rw [hBL] at HB67 hs6 ⊢
  have HOR6 := Lib.hid (HOR.out.row)
  rw [hBL] at HOR6
  clear hr7 hw7 hmkb hs6' HOR
  have hXB : X < BL := by omega
  go_loopw [29] (fun s29 wr => ∃ (k : Nat) (vs : List Value), k ≤ O.length ∧ s29 = .int .i64 (k : Int) ∧ Hid (RgB wr BL code.length O (aheadO code (List.replicate code.length false)) k vs) ∧ Hid (Below BL w6 wr)) (fun s29 wr => O.length - (intOf s29).toNat)
  case atStart => exact ⟨0, _, by omega, rfl, HRG0, HB67⟩
  case round =>
    clear HRG0 HB67
    obtain ⟨k, vs, hk, rfl, HRG, HBK⟩ := hrel
    have k0 : (0 : Int) ≤ (k : Int) := Int.natCast_nonneg _
    have HB3K := Lib.hid (HB6.out.trans (HBK.out.mono (show X ≤ BL by omega)))
    have hsX := HB3K.out.size
    have hsB := HBK.out.size
    by_cases hlt : k < O.length
    · have k1 : (k : Int) < (O.length : Int) := by omega
      obtain ⟨x, hx⟩ : ∃ x, O[k]? = some x := ⟨_, List.getElem?_eq_getElem hlt⟩
      obtain ⟨b1, o1, rfl, hb1, hw1, q1⟩ := IntsAt.cellsB (HOR6.out.below HBK.out) hx
      have HXK := Lib.hid hx; have HLT := Lib.hid hlt
      have HWX := Lib.hid (HWF.out x (List.mem_of_getElem? hx))
      obtain ⟨t0, t1, t2, t3, t4⟩ := nv5 ((HBK.out.block X hXB).trans HX6.out)
      have hXs : X < wr.heap.size := by omega
      clear hx hlt
      go_wp2_with (go_at_call 52; go_loud ((with_reducible refine (ahead1_c (HAT.out.below HB3K.out) HOK.out (by omega) x HWX.out).mono ?_); rintro e v ⟨g, rfl, hg, hr, hbv⟩; have HRV := Lib.hid (HRG.out.below hbv); have HVR := Lib.hid hr; have HBV := Lib.hid (HBK.out.trans (hbv.mono (show BL ≤ wr.heap.size by omega))); have hBg : BL < g := (by have := HRG.out.row.lt; omega); have hcell : v.cell? ⟨BL, k, none⟩ = some (vs.getD k undef) := VRow.cell HRV.out.row (by rw [List.getD_eq_getElem?_getD, List.getElem?_eq_getElem (by rw [HRG.out.len]; exact HLT.out)]; rfl); have hfz : v.frozen? ⟨BL, k, none⟩ = false := VRow.frozen HRV.out.row k; have hBv := HRV.out.row.lt; clear hr hbv t0 t1 t2 t3 t4 q1))
      go_roundw
      case rel => exact ⟨k + 1, _, HLT.out, by go_num, Lib.hid (HRV.out.put HXK.out hBg HVR.out), Lib.hid (HBV.out.setCell (by simp) _)⟩
      case measure => have := HLT.out; simp [intOf]; omega
    · obtain rfl : k = O.length := by omega
      have HRB := Lib.hid HRG.out
      have hwB : w.heap.size < BL := by omega
      obtain ⟨x0, x1, x2, x3, x4⟩ := nv5 ((HBK.out.block w.heap.size hwB).trans HF6.out)
      have hw0 : w.heap.size < wr.heap.size := by omega
      clear HRG
      go_upto_region 14 with fail
      clear x0 x1 x2 x3 x4
      obtain ⟨LB, hLB⟩ : ∃ LB, wr.heap.size = LB := ⟨_, rfl⟩
      have hr8 := heap_alloc_new wr (rObj (List.replicate code.length (.slice none 0 0)))
      have HB8 := Lib.hid ((Below.refl wr.heap.size wr).alloc (Nat.le_refl _) (rObj (List.replicate code.length (.slice none 0 0))))
      obtain ⟨lst, hlst⟩ : ∃ lst : Nat → List Int, (fun at_ : Nat => O.filter (fun x => (aheadO code (List.replicate code.length false) x).getD at_ false)) = lst := ⟨_, rfl⟩
      have HLST := Lib.hid hlst
      obtain ⟨w8, hw8⟩ : ∃ w8, wr.alloc (rObj (List.replicate code.length (.slice none 0 0))) = w8 := ⟨_, rfl⟩
      have hs8 : w8.heap.size = LB + 1 := by rw [← hw8, ← hLB]; simp
      rw [hw8] at hr8 HB8 ⊢
      rw [hLB] at hr8 HB8 ⊢
      have HRL0 : Hid (RgL w8 LB (LB + 1) code.length lst 0 (List.replicate code.length (.slice none 0 0)) (.slice none 0 0)) := Lib.hid ⟨hr8, by simp, by omega, fun j hj => absurd hj (Nat.not_lt_zero _)⟩
      obtain ⟨wB, hwBr⟩ : ∃ wB, wB = wr := ⟨_, rfl⟩
      subst hwBr
      have hBLB : BL < LB := by rw [← hLB]; exact HRB.out.row.lt
      clear hlst hr8 hw8
      go_loopw [11, 48] (fun s11 s48 wr => ∃ (at_ : Nat) (ls : List Value) (hl : List Int), at_ ≤ code.length ∧ s48 = .int .i64 (at_ : Int) ∧ Hid (RgL wr LB (LB + 1) code.length lst at_ ls s11) ∧ Hid (wr.ownsRow (LB + 1) 3 1 s11 hl.length (ints hl)) ∧ Hid (Below LB wB wr) ∧ LB + 1 ≤ wr.heap.size) (fun _ s48 wr => code.length - (intOf s48).toNat)
      case atStart => exact ⟨0, _, [], by omega, rfl, HRL0, Lib.hid (World.ownsRow_nil _ _ _ _), HB8, by omega⟩
      case round =>
        clear HRL0 HB8 hs8
        obtain ⟨at_, ls, hl, hat_, rfl, HRL, HOW, HBL, hsw⟩ := hrel
        have a0 : (0 : Int) ≤ (at_ : Int) := Int.natCast_nonneg _
        obtain ⟨ha, hc, rfl⟩ := row_slice HOW.out
        by_cases hltA : at_ < code.length
        · have a1 : (at_ : Int) < (code.length : Int) := by omega
          have HLTA := Lib.hid hltA
          clear hltA
          go_upto_region 16 with fail
          go_cut [11] from 51 to 52 (fun s11 wc => wc = wr ∧ Hid (wr.ownsRow (LB + 1) 3 1 s11 0 (ints [])) ∧ Hid (RgL wr LB (LB + 1) code.length lst at_ ls s11))
          case first =>
            have HSH := Lib.hid (own_short HOW.out (Nat.zero_le _))
            rcases HOW.out.2 with ⟨e, h5⟩ | ⟨g, cap, cur, e, _, _, hcap, _⟩
            · injection e with e1 e2 e3
              subst e1
              subst e3
              have hl0 : hl = [] := List.eq_nil_of_length_eq_zero h5
              subst hl0
              go_wp2
              go_meet
              case rel => exact ⟨rfl, Lib.hid (World.ownsRow_nil _ _ _ _), HRL⟩
            · injection e with e1 e2 e3
              subst e1
              subst e3
              have hcm : hl.length ≤ hc := hcap
              go_wp2
              go_meet
              case rel => exact ⟨rfl, Lib.hid (by simpa using HSH.out), Lib.hid (HRL.out.short (fun q e => e))⟩
          case rest =>
            obtain ⟨hwc, HOW0, HRLZ⟩ := hcut
            rw [hwc]
            clear hwc wc HOW HRL
            go_wp2
            go_loopw [11, 55] (fun s11 s55 wk => ∃ (k : Nat), k ≤ O.length ∧ s55 = .int .i64 (k : Int) ∧ Hid (RgL wk LB (LB + 1) code.length lst at_ ls s11) ∧ Hid (wk.ownsRow (LB + 1) 3 1 s11 (regPA (aheadO code (List.replicate code.length false)) at_ O k).length (ints (regPA (aheadO code (List.replicate code.length false)) at_ O k))) ∧ Hid (Below LB wB wk) ∧ LB + 1 ≤ wk.heap.size) (fun _ s55 wk => O.length - (intOf s55).toNat)
            case atStart => exact ⟨0, by omega, rfl, HRLZ, HOW0, HBL, hsw⟩
            case round =>
              clear HRLZ HOW0 HBL hsw
              obtain ⟨k, hk, rfl, HRL, HOW, HBL, hsw⟩ := hrel
              have k0 : (0 : Int) ≤ (k : Int) := Int.natCast_nonneg _
              obtain ⟨hb, hd, rfl⟩ := row_slice HOW.out
              have hpl := regPA_len (aheadO code (List.replicate code.length false)) at_ O k
              have hat1 := HLTA.out
              by_cases hlt : k < O.length
              · have k1 : (k : Int) < (O.length : Int) := by omega
                obtain ⟨x, hx⟩ : ∃ x, O[k]? = some x := ⟨_, List.getElem?_eq_getElem hlt⟩
                have HB6K := Lib.hid (HBK.out.trans (HBL.out.mono (show BL ≤ LB by omega)))
                obtain ⟨b1, o1, rfl, hb1, hw1, q1⟩ := IntsAt.cellsB (HOR6.out.below HB6K.out) hx
                obtain ⟨gb, qb1, qb2, qb3⟩ := (HRB.out.below (show Below wB.heap.size wB wr from by rw [hLB]; exact HBL.out)).at hlt hx (show at_ < (aheadO code (List.replicate code.length false) x).length by rw [regA_len code _ x]; exact HLTA.out)
                have hBLs : BL < wr.heap.size := by omega
                have HMORE := Lib.hid (regPA_more (aheadO code (List.replicate code.length false)) at_ hx)
                have HLT := Lib.hid hlt
                obtain ⟨bv, hbv⟩ : ∃ bv, (aheadO code (List.replicate code.length false) x).getD at_ false = bv := ⟨_, rfl⟩
                rw [hbv] at qb3 HMORE
                clear hx hlt hbv
                cases bv with
                | false =>
                  have HNX := Lib.hid (HMORE.out.trans (if_neg (by simp)))
                  go_wp2
                  go_roundw
                  case rel => exact ⟨k + 1, HLT.out, by go_num, HRL, by rw [HNX.out]; exact HOW, HBL, hsw⟩
                  case measure => have := HLT.out; simp [intOf]; omega
                | true =>
                  have HNX := Lib.hid (HMORE.out.trans (if_pos rfl))
                  go_wp2_with (at_builtin; go_loud (refine wpList_append_lies _ rfl (.tmp 67) (.tmp 69) 29 rfl (LB + 1) 3 i0 (.int .i64 0) 1 8 Try.underlying29 hi0 hz0 hz1 hz2 rfl (by decide) (.slice hb (regPA (aheadO code (List.replicate code.length false)) at_ O k).length hd) (regPA (aheadO code (List.replicate code.length false)) at_ O k).length (ints (regPA (aheadO code (List.replicate code.length false)) at_ O k)) rfl (HOW.out.alloc _) _ 1 1 [.int .i64 x] rfl rfl (cell_new1 _ _ _ _ (by simp)) (by simp [Value.oneCell']) (by omega) (by unfold maxLen; omega) (by omega) (by simp <;> omega) (wr.heap.size + 1) (by simp) ?_; intro g9 cap9 w9 hown hgrow hat9 hlt9; have HO9 := Lib.hid hown; have hrow9 : ∀ q, (Value.slice hb (regPA (aheadO code (List.replicate code.length false)) at_ O k).length hd).ownBlock = some q → LB + 1 ≤ q ∧ q < wr.heap.size := (fun q hq => HOW.out.lt q hq); have HB9 := Lib.hid ((HBL.out.alloc (by omega) _).grown hgrow (by simp <;> omega) (fun q e => by have := hrow9 q e; omega)); have HRL9 := Lib.hid ((HRL.out.below ((Below.refl wr.heap.size wr).alloc (Nat.le_refl _) (.cells #[.int .i64 x] 3))).grow (hv' := .slice (some ⟨g9, 0, none⟩) ((regPA (aheadO code (List.replicate code.length false)) at_ O k).length + 1) cap9) hgrow (fun q e => (hrow9 q e).1) (fun q e => by simp only [Value.ownBlock, Option.some.injEq] at e; subst e; rcases hat9 with e2 | e2; exact .inl e2; exact .inr (by simp; omega))); have hs9 : LB + 1 ≤ w9.heap.size := (by have h8 := hgrow.size; simp at h8; omega); clear hown hgrow hat9 hlt9))
                  go_roundw
                  case rel => exact ⟨k + 1, HLT.out, by go_num, HRL9, by rw [HNX.out]; exact Lib.hid (by simpa using HO9.out), HB9, hs9⟩
                  case measure => have := HLT.out; simp [intOf]; omega
              · obtain rfl : k = O.length := by omega
                have HOW9 := Lib.hid HOW.out
                have HRL9 := Lib.hid HRL.out
                have hfl : regPA (aheadO code (List.replicate code.length false)) at_ O O.length = lst at_ := by rw [← HLST.out]; unfold regPA; rw [List.take_length]
                rw [hfl] at HOW9 HRL9 hpl ⊢
                have hLBs : LB < wr.heap.size := by omega
                have hcellL : ∀ u : World, Below wr.heap.size wr u → ∃ y, u.cell? ⟨LB, at_, none⟩ = some y ∧ u.frozen? ⟨LB, at_, none⟩ = false := fun u hu => by
                  have h1 := (HRL9.out.below hu).row
                  exact ⟨_, VRow.cell h1 (List.getElem?_eq_getElem (by rw [HRL9.out.len]; exact HLTA.out)), VRow.frozen h1 at_⟩
                have HCL := Lib.hid hcellL
                clear hcellL hfl HRL HOW
                rcases HOW9.out.2 with ⟨e, h5⟩ | ⟨g, cap, cur, e, _, _, hcap, _⟩
                · injection e with e1 e2 e3
                  subst e1
                  subst e3
                  have HL0 : Hid (lst at_ = []) := Lib.hid (List.eq_nil_of_length_eq_zero h5)
                  have HRL8 := Lib.hid HRL9.out
                  rw [e2] at HRL8 ⊢
                  clear HRL9 HOW9 h5 e2
                  go_wp2_with (go_at_call 89; go_loud ((with_reducible refine (clone_none _).mono ?_); rintro e u ⟨v9, rfl, ho9, hbu⟩; obtain ⟨a9, c9, rfl⟩ := row_slice ho9; have HRU := Lib.hid (HRL8.out.below hbu); have HO9 := Lib.hid ho9; have HBU := Lib.hid (HBL.out.trans (hbu.mono (show LB ≤ wr.heap.size by omega))); obtain ⟨y9, hy9, hf9⟩ := HCL.out u hbu; have hus := hbu.size; clear hbu ho9))
                  have HPT : Hid (RgL (u.setCell ⟨LB, at_, none⟩ (.slice a9 0 c9)) LB (LB + 1) code.length lst (at_ + 1) (ls.set at_ (.slice a9 0 c9)) (.slice none 0 0)) := Lib.hid (by
                    have hh := HRU.out.put HLTA.out (a := a9) (c := c9) (by rw [HL0.out]; exact ownsRow_le HO9.out (by omega)) (fun q hq e => by cases e)
                    rw [HL0.out] at hh
                    exact hh)
                  go_roundw
                  case rel => exact ⟨at_ + 1, _, [], HLTA.out, by go_num, HPT, Lib.hid (World.ownsRow_nil _ _ _ _), Lib.hid (HBU.out.setCell (by simp) _), by simpa [World.setCell] using (show LB + 1 ≤ u.heap.size by omega)⟩
                  case measure => have := HLTA.out; simp [intOf]; omega
                · injection e with e1 e2 e3
                  subst e1
                  subst e3
                  go_wp2_with (go_at_call 89; go_loud ((with_reducible refine (clone_some (lst at_) g 0 hd _ (LiesIn.row (LiesIn.of_own HOW9.out)) (by omega)).mono ?_); rintro e u ⟨v9, rfl, ho9, hbu⟩; obtain ⟨a9, c9, rfl⟩ := row_slice ho9; have HRU := Lib.hid (HRL9.out.below hbu); have HOU := Lib.hid (own_keep (w' := u) HOW9.out (fun q hq => hbu.block q (HOW9.out.lt q hq).2)); have HO9 := Lib.hid ho9; have HBU := Lib.hid (HBL.out.trans (hbu.mono (show LB ≤ wr.heap.size by omega))); obtain ⟨y9, hy9, hf9⟩ := HCL.out u hbu; have hus := hbu.size; clear hbu ho9))
                  go_roundw
                  case rel => exact ⟨at_ + 1, _, lst at_, HLTA.out, by go_num, Lib.hid (HRU.out.put HLTA.out (ownsRow_le HO9.out (by omega)) (fun q hq e => by have h8 := (HO9.out.lt q hq).1; have h9 := (HOW9.out.lt q e).2; omega)), Lib.hid (own_keep HOU.out (fun q hq => Below.heap_setCell _ _ _ _ (by have := (HOU.out.lt q hq).1; simp; omega))), Lib.hid (HBU.out.setCell (by simp) _), by simpa [World.setCell] using (show LB + 1 ≤ u.heap.size by omega)⟩
                  case measure => have := HLTA.out; simp [intOf]; omega
        · obtain rfl : at_ = code.length := by omega
          go_wp2
          go_ret
          refine ⟨LB, O, rfl, HK1.out, HK2.out, ?_, HB3.out.trans ((HB6.out.trans ((HBK.out.trans (HBL.out.mono (by omega))).mono (by omega))).mono (by omega))⟩
          rw [HLST.out]
          exact HRL.out.rows
end Go.Proofs.Ytpajndeongcjbaa
namespace Go.Proofs.Ytpajndeongcjbaa
set_option maxRecDepth 100000
open Go.RowKit Cd Go.Maps
set_option linter.unusedVariables false
set_option linter.unusedSimpArgs false

def Cd.regPB (L : Int → List Bool) (a : Nat) (O : List Int) (k : Nat) : List Int := (O.take k).filter (fun x => (L x).getD a false)
theorem regPB_more (L : Int → List Bool) (a : Nat) {O : List Int} {k : Nat} {x : Int} (h : O[k]? = some x) : regPB L a O (k + 1) = if (L x).getD a false = true then regPB L a O k ++ [x] else regPB L a O k := by
  unfold regPB
  rw [take_more h, List.filter_append]
  by_cases hb : (L x).getD a false = true
  · rw [if_pos hb]
    congr 1
    simp only [List.filter_cons, hb, if_true, List.filter_nil]
  · rw [if_neg hb]
    simp only [List.filter_cons, hb, if_false, List.filter_nil, List.append_nil, Bool.false_eq_true]
theorem regPB_len (L : Int → List Bool) (a : Nat) (O : List Int) (k : Nat) : (regPB L a O k).length ≤ O.length := Nat.le_trans (List.length_filter_le _ _) (by simp; omega)
theorem regB_len (c : List Ins) (gone : List Bool) (x : Int) : (behO c gone x).length = c.length := by unfold behO; simp [behB_len, foundB_len, backG_len, fromL]
theorem keys_leB (D : DataW Unit) : (intKeys D).length ≤ Maps.size D := by
  cases D <;> simp [intKeys, Maps.size]
theorem reads_wfB {f : Fnc} (hR : RightF f) {x : Int} (hx : UG f.code f.code.length 1 x ≠ []) : (Lit.int .i64 x).wf = true := by
  obtain ⟨y, hy⟩ := List.exists_mem_of_ne_nil _ hx
  obtain ⟨p, i, h1, h2, rfl, h4⟩ := (ug_mem (by omega) _ (Nat.le_refl _)).1 hy
  change x ∈ uses i at h4
  have hI := hR.all i (List.mem_of_getElem? h2)
  have h5 := hI.uses x h4
  unfold regOk at h5
  have hrg := hR.regs
  exact wf_small (by omega) (by omega)
set_option maxHeartbeats 8000000 in
theorem regB_v (name : List UInt8) (params regs frame : Int) (code : List Ins) (ca : Option Addr) (cc : Nat) (w : World) (hC : CodeAt w w.heap.size ⟨⟨name, params, regs, frame, code⟩, ca, cc⟩) (hm : code.length ≤ maxLen) (hR : RightF ⟨name, params, regs, frame, code⟩) :
    Calls Try.prog 51 #[fnV ⟨⟨name, params, regs, frame, code⟩, ca, cc⟩, .func (.func 54) #[] #[]] w (fun e w' => ∃ (g : Nat) (O : List Int), e = .returned (.slice (some ⟨g, 0, none⟩) code.length code.length) ∧ (∀ x, x ∈ O ↔ UG code code.length 1 x ≠ []) ∧ O.Pairwise (fun x y => x < y) ∧ RowsAt w' w'.heap.size (some ⟨g, 0, none⟩) ((List.range code.length).map (fun at_ : Nat => O.filter (fun x => (behO code (List.replicate code.length false) x).getD at_ false))) ∧ Below w.heap.size w w') := by
  obtain ⟨i0, hi0, hz0, hz1, hz2⟩ := info_parts infoInt
  have HB0 := Lib.hid ((Below.refl w.heap.size w).alloc (Nat.le_refl _) (fnO ⟨⟨name, params, regs, frame, code⟩, ca, cc⟩))
  have HX0 := Lib.hid (heap_alloc_new w (fnO ⟨⟨name, params, regs, frame, code⟩, ca, cc⟩))
  have HC := Lib.hid hC; have HM := Lib.hid hm; have HR := Lib.hid hR
  have hn : code.length ≤ 8192 := hR.code.2
  have hmkr := make_rows code.length (by omega)
  obtain ⟨c0, c1, c2, c3, c4⟩ := nv5 HX0.out
  clear hC hm hR
  go_enter Try.func51, Try.ntmps51
  go_upto_region 4 with (first | ((with_reducible refine (rightF_v ⟨⟨name, params, regs, frame, code⟩, ca, cc⟩ true w.heap.size _ (HC.out.below HB0.out) HB0.out.size HM.out (rightF_iff.2 HR.out)).mono ?_); rintro e w1 ⟨rfl, hb1⟩; have HB1 := Lib.hid (HB0.out.trans (hb1.mono HB0.out.size)); have HX1 := Lib.hid ((hb1.block w.heap.size (lt_heap HX0.out)).trans HX0.out); clear hb1 c0 c1 c2 c3 c4; obtain ⟨c0, c1, c2, c3, c4⟩ := nv5 HX1.out) | ((with_reducible refine (uses_w ⟨⟨name, params, regs, frame, code⟩, ca, cc⟩ _ HR.out (code_up (HC.out.below HB1.out) HB1.out.size)).mono ?_); rintro e w3 ⟨b, V, lo, rfl, hlo, hbk, hU, hb3⟩; have HU := Lib.hid hU; have HB3 := Lib.hid (HB1.out.trans (hb3.mono HB1.out.size)); have HX3 := Lib.hid ((hb3.block w.heap.size (lt_heap HX1.out)).trans HX1.out); clear hb3 hU hbk c0 c1 c2 c3 c4))
  obtain ⟨rk, pk, hat⟩ := HU.out.at
  have HAT := Lib.hid hat
  have HOK := Lib.hid (usOk_of (c := code) (gone := List.replicate code.length false) hn (by simp))
  obtain ⟨nn, ks, hnm, ⟨D, hown, htidy, hhas, _⟩, hks, _, hnd⟩ := HU.out.read
  have hsz := hown.size_le
  have HBA := Lib.hid ((Below.refl w3.heap.size w3).alloc (Nat.le_refl _) (usO (some ⟨b 0, 0, none⟩) code.length code.length (some ⟨b 1, 0, none⟩) code.length code.length (b 2) (b 3) (some ⟨b 4, 0, none⟩) code.length code.length))
  have hX4 := heap_alloc_new w3 (usO (some ⟨b 0, 0, none⟩) code.length code.length (some ⟨b 1, 0, none⟩) code.length code.length (b 2) (b 3) (some ⟨b 4, 0, none⟩) code.length code.length)
  have hown4 : (w3.alloc (usO (some ⟨b 0, 0, none⟩) code.length code.length (some ⟨b 1, 0, none⟩) code.length code.length (b 2) (b 3) (some ⟨b 4, 0, none⟩) code.length code.length)).ownsMap Try.prog 3 hdrE (b 2) nn D := by
    obtain ⟨es, clock, h1, h2⟩ := hown
    exact ⟨es, clock, (HBA.out.block _ HU.out.read.lt).trans h1, h2⟩
  have HKS : Hid (∀ ss : List Int, ss.Perm (intKeys D) → (∀ x, x ∈ ss.mergeSort (fun x y => decide (x ≤ y)) ↔ UG code code.length 1 x ≠ []) ∧ (ss.mergeSort (fun x y => decide (x ≤ y))).Pairwise (fun x y => x < y)) := Lib.hid (fun ss hs => by
    obtain ⟨h1, h2⟩ := keys_sorted hown hhas hs hnd
    exact ⟨fun x => (h1 x).trans (hks x), h2⟩)
  obtain ⟨X, hX⟩ : ∃ X, w3.heap.size = X := ⟨_, rfl⟩
  obtain ⟨w4, hw4⟩ : ∃ w4, w3.alloc (usO (some ⟨b 0, 0, none⟩) code.length code.length (some ⟨b 1, 0, none⟩) code.length code.length (b 2) (b 3) (some ⟨b 4, 0, none⟩) code.length code.length) = w4 := ⟨_, rfl⟩
  have hs4 : w4.heap.size = X + 1 := by rw [← hw4, ← hX]; simp
  rw [hw4] at HBA hX4 hown4 ⊢
  rw [hX] at HBA hX4 HAT ⊢
  have hXw : w.heap.size + 1 ≤ X := by rw [← hX]; exact lt_heap HX3.out
  have HX4 := Lib.hid hX4
  have HF4 := Lib.hid ((HBA.out.block w.heap.size (by omega)).trans HX3.out)
  have hst := Try.slices_Sorted_int (b 2) nn D hdrE w4 hown4 (by unfold maxLen; omega) (by omega)
  rw [hs4] at hst
  have HSRT := Lib.hid hst
  clear hst
  obtain ⟨t0, t1, t2, t3, t4⟩ := nv5 hX4
  clear hown hhas htidy hnd hat hw4 hks hX4 hown4
  go_upto_region 5 with (first | ((with_reducible refine (Try.maps_Keys_int (some (b 2)) _).mono ?_); rintro e w5 ⟨rfl, rfl⟩) | ((with_reducible refine HSRT.out.mono ?_); rintro e w6 ⟨v6, ss, rfl, hperm, hrow, _, hb6⟩; obtain ⟨oa, oc, rfl⟩ := row_slice hrow; have HPE := Lib.hid hperm; have HRO := Lib.hid hrow; have HW6 := Lib.hid (show ∀ g, g < X + 1 → w6.heap[g]? = w4.heap[g]? from fun g hg => (hb6.block g (by simp; omega)).trans (Below.heap_alloc _ _ _ (by omega))); have hs6' : X + 2 ≤ w6.heap.size := (by have h9 := hb6.size; simp at h9; omega); have HB6 := Lib.hid (HBA.out.trans (((Below.refl w4.heap.size w4).alloc (Nat.le_refl _) _).trans (hb6.mono (by simp)) |>.mono (show X ≤ w4.heap.size by omega))); clear hperm hrow hb6))
  obtain ⟨O, hO⟩ : ∃ O, ss.mergeSort (fun x y => decide (x ≤ y)) = O := ⟨_, rfl⟩
  obtain ⟨hk1, hk2⟩ := HKS.out ss HPE.out
  rw [hO] at hk1 hk2
  have hOl : ss.length = O.length := by rw [← hO, List.length_mergeSort]
  have hom : O.length ≤ 80000 := by
    rw [← hOl, HPE.out.length_eq]
    have hD : (intKeys D).length ≤ Maps.size D := keys_leB D
    omega
  have HOR : Hid (LiesIn w6 (X + 2) oa (ints O)) := Lib.hid (by
    have h9 := HRO.out
    rw [show (ss.mergeSort (fun x y => decide (x ≤ y))).map encZ = ints O from by rw [← hO]] at h9
    exact LiesIn.of_own (ownsRow_le h9 (by simp [hs4])))
  have HK1 := Lib.hid hk1; have HK2 := Lib.hid hk2
  have hwf : ∀ x ∈ O, (Lit.int .i64 x).wf = true := fun x hx => reads_wfB HR.out ((hk1 x).1 hx)
  have HWF := Lib.hid hwf
  rw [hOl]
  have HX6 := Lib.hid (show w6.heap[X]? = some (usO (some ⟨b 0, 0, none⟩) code.length code.length (some ⟨b 1, 0, none⟩) code.length code.length (b 2) (b 3) (some ⟨b 4, 0, none⟩) code.length code.length) from (HW6.out X (by omega)).trans HX4.out)
  have HF6 := Lib.hid ((HW6.out w.heap.size (by omega)).trans HF4.out)
  clear HRO HPE hO hOl hk1 hk2 hwf t0 t1 t2 t3 t4 HSRT HKS
  have hs6 : X + 2 ≤ w6.heap.size := hs6'
  have hmkb := make_brows O.length (by omega)
  go_upto_region 7 with fail
  obtain ⟨BL, hBL⟩ : ∃ BL, w6.heap.size = BL := ⟨_, rfl⟩
  have hr7 : VRow (w6.alloc (.cells (Array.replicate O.length (Value.slice none 0 0)) 75)) BL 75 (List.replicate O.length (Value.slice none 0 0)) := by
    unfold VRow
    rw [← hBL, List.toArray_replicate]
    exact heap_alloc_new w6 _
  have HB67 := Lib.hid ((Below.refl w6.heap.size w6).alloc (Nat.le_refl _) (.cells (Array.replicate O.length (Value.slice none 0 0)) 75))
  have HRG0 : Hid (RgB (w6.alloc (.cells (Array.replicate O.length (Value.slice none 0 0)) 75)) BL code.length O (behO code (List.replicate code.length false)) 0 (List.replicate O.length (Value.slice none 0 0))) := Lib.hid ⟨hr7, by simp, fun j x hj => absurd hj (Nat.not_lt_zero _)⟩
  obtain ⟨w7, hw7⟩ : ∃ w7, w6.alloc (.cells (Array.replicate O.length (Value.slice none 0 0)) 75) = w7 := ⟨_, rfl⟩
  rw [hw7] at HB67 HRG0 ⊢
  rw [hBL] at HB67 hs6 ⊢
  have HOR6 := Lib.hid (HOR.out.row)
  rw [hBL] at HOR6
  clear hr7 hw7 hmkb hs6' HOR
  have hXB : X < BL := by omega
  go_loopw [29] (fun s29 wr => ∃ (k : Nat) (vs : List Value), k ≤ O.length ∧ s29 = .int .i64 (k : Int) ∧ Hid (RgB wr BL code.length O (behO code (List.replicate code.length false)) k vs) ∧ Hid (Below BL w6 wr)) (fun s29 wr => O.length - (intOf s29).toNat)
  case atStart => exact ⟨0, _, by omega, rfl, HRG0, HB67⟩
  case round =>
    clear HRG0 HB67
    obtain ⟨k, vs, hk, rfl, HRG, HBK⟩ := hrel
    have k0 : (0 : Int) ≤ (k : Int) := Int.natCast_nonneg _
    have HB3K := Lib.hid (HB6.out.trans (HBK.out.mono (show X ≤ BL by omega)))
    have hsX := HB3K.out.size
    have hsB := HBK.out.size
    by_cases hlt : k < O.length
    · have k1 : (k : Int) < (O.length : Int) := by omega
      obtain ⟨x, hx⟩ : ∃ x, O[k]? = some x := ⟨_, List.getElem?_eq_getElem hlt⟩
      obtain ⟨b1, o1, rfl, hb1, hw1, q1⟩ := IntsAt.cellsB (HOR6.out.below HBK.out) hx
      have HXK := Lib.hid hx; have HLT := Lib.hid hlt
      have HWX := Lib.hid (HWF.out x (List.mem_of_getElem? hx))
      obtain ⟨t0, t1, t2, t3, t4⟩ := nv5 ((HBK.out.block X hXB).trans HX6.out)
      have hXs : X < wr.heap.size := by omega
      clear hx hlt
      go_wp2_with (go_at_call 54; go_loud ((with_reducible refine (behind1_c (HAT.out.below HB3K.out) HOK.out (by omega) x HWX.out).mono ?_); rintro e v ⟨g, rfl, hg, hr, hbv⟩; have HRV := Lib.hid (HRG.out.below hbv); have HVR := Lib.hid hr; have HBV := Lib.hid (HBK.out.trans (hbv.mono (show BL ≤ wr.heap.size by omega))); have hBg : BL < g := (by have := HRG.out.row.lt; omega); have hcell : v.cell? ⟨BL, k, none⟩ = some (vs.getD k undef) := VRow.cell HRV.out.row (by rw [List.getD_eq_getElem?_getD, List.getElem?_eq_getElem (by rw [HRG.out.len]; exact HLT.out)]; rfl); have hfz : v.frozen? ⟨BL, k, none⟩ = false := VRow.frozen HRV.out.row k; have hBv := HRV.out.row.lt; clear hr hbv t0 t1 t2 t3 t4 q1))
      go_roundw
      case rel => exact ⟨k + 1, _, HLT.out, by go_num, Lib.hid (HRV.out.put HXK.out hBg HVR.out), Lib.hid (HBV.out.setCell (by simp) _)⟩
      case measure => have := HLT.out; simp [intOf]; omega
    · obtain rfl : k = O.length := by omega
      have HRB := Lib.hid HRG.out
      have hwB : w.heap.size < BL := by omega
      obtain ⟨x0, x1, x2, x3, x4⟩ := nv5 ((HBK.out.block w.heap.size hwB).trans HF6.out)
      have hw0 : w.heap.size < wr.heap.size := by omega
      clear HRG
      go_upto_region 14 with fail
      clear x0 x1 x2 x3 x4
      obtain ⟨LB, hLB⟩ : ∃ LB, wr.heap.size = LB := ⟨_, rfl⟩
      have hr8 := heap_alloc_new wr (rObj (List.replicate code.length (.slice none 0 0)))
      have HB8 := Lib.hid ((Below.refl wr.heap.size wr).alloc (Nat.le_refl _) (rObj (List.replicate code.length (.slice none 0 0))))
      obtain ⟨lst, hlst⟩ : ∃ lst : Nat → List Int, (fun at_ : Nat => O.filter (fun x => (behO code (List.replicate code.length false) x).getD at_ false)) = lst := ⟨_, rfl⟩
      have HLST := Lib.hid hlst
      obtain ⟨w8, hw8⟩ : ∃ w8, wr.alloc (rObj (List.replicate code.length (.slice none 0 0))) = w8 := ⟨_, rfl⟩
      have hs8 : w8.heap.size = LB + 1 := by rw [← hw8, ← hLB]; simp
      rw [hw8] at hr8 HB8 ⊢
      rw [hLB] at hr8 HB8 ⊢
      have HRL0 : Hid (RgL w8 LB (LB + 1) code.length lst 0 (List.replicate code.length (.slice none 0 0)) (.slice none 0 0)) := Lib.hid ⟨hr8, by simp, by omega, fun j hj => absurd hj (Nat.not_lt_zero _)⟩
      obtain ⟨wB, hwBr⟩ : ∃ wB, wB = wr := ⟨_, rfl⟩
      subst hwBr
      have hBLB : BL < LB := by rw [← hLB]; exact HRB.out.row.lt
      clear hlst hr8 hw8
      go_loopw [11, 48] (fun s11 s48 wr => ∃ (at_ : Nat) (ls : List Value) (hl : List Int), at_ ≤ code.length ∧ s48 = .int .i64 (at_ : Int) ∧ Hid (RgL wr LB (LB + 1) code.length lst at_ ls s11) ∧ Hid (wr.ownsRow (LB + 1) 3 1 s11 hl.length (ints hl)) ∧ Hid (Below LB wB wr) ∧ LB + 1 ≤ wr.heap.size) (fun _ s48 wr => code.length - (intOf s48).toNat)
      case atStart => exact ⟨0, _, [], by omega, rfl, HRL0, Lib.hid (World.ownsRow_nil _ _ _ _), HB8, by omega⟩
      case round =>
        clear HRL0 HB8 hs8
        obtain ⟨at_, ls, hl, hat_, rfl, HRL, HOW, HBL, hsw⟩ := hrel
        have a0 : (0 : Int) ≤ (at_ : Int) := Int.natCast_nonneg _
        obtain ⟨ha, hc, rfl⟩ := row_slice HOW.out
        by_cases hltA : at_ < code.length
        · have a1 : (at_ : Int) < (code.length : Int) := by omega
          have HLTA := Lib.hid hltA
          clear hltA
          go_upto_region 16 with fail
          go_cut [11] from 51 to 52 (fun s11 wc => wc = wr ∧ Hid (wr.ownsRow (LB + 1) 3 1 s11 0 (ints [])) ∧ Hid (RgL wr LB (LB + 1) code.length lst at_ ls s11))
          case first =>
            have HSH := Lib.hid (own_short HOW.out (Nat.zero_le _))
            rcases HOW.out.2 with ⟨e, h5⟩ | ⟨g, cap, cur, e, _, _, hcap, _⟩
            · injection e with e1 e2 e3
              subst e1
              subst e3
              have hl0 : hl = [] := List.eq_nil_of_length_eq_zero h5
              subst hl0
              go_wp2
              go_meet
              case rel => exact ⟨rfl, Lib.hid (World.ownsRow_nil _ _ _ _), HRL⟩
            · injection e with e1 e2 e3
              subst e1
              subst e3
              have hcm : hl.length ≤ hc := hcap
              go_wp2
              go_meet
              case rel => exact ⟨rfl, Lib.hid (by simpa using HSH.out), Lib.hid (HRL.out.short (fun q e => e))⟩
          case rest =>
            obtain ⟨hwc, HOW0, HRLZ⟩ := hcut
            rw [hwc]
            clear hwc wc HOW HRL
            go_wp2
            go_loopw [11, 55] (fun s11 s55 wk => ∃ (k : Nat), k ≤ O.length ∧ s55 = .int .i64 (k : Int) ∧ Hid (RgL wk LB (LB + 1) code.length lst at_ ls s11) ∧ Hid (wk.ownsRow (LB + 1) 3 1 s11 (regPB (behO code (List.replicate code.length false)) at_ O k).length (ints (regPB (behO code (List.replicate code.length false)) at_ O k))) ∧ Hid (Below LB wB wk) ∧ LB + 1 ≤ wk.heap.size) (fun _ s55 wk => O.length - (intOf s55).toNat)
            case atStart => exact ⟨0, by omega, rfl, HRLZ, HOW0, HBL, hsw⟩
            case round =>
              clear HRLZ HOW0 HBL hsw
              obtain ⟨k, hk, rfl, HRL, HOW, HBL, hsw⟩ := hrel
              have k0 : (0 : Int) ≤ (k : Int) := Int.natCast_nonneg _
              obtain ⟨hb, hd, rfl⟩ := row_slice HOW.out
              have hpl := regPB_len (behO code (List.replicate code.length false)) at_ O k
              have hat1 := HLTA.out
              by_cases hlt : k < O.length
              · have k1 : (k : Int) < (O.length : Int) := by omega
                obtain ⟨x, hx⟩ : ∃ x, O[k]? = some x := ⟨_, List.getElem?_eq_getElem hlt⟩
                have HB6K := Lib.hid (HBK.out.trans (HBL.out.mono (show BL ≤ LB by omega)))
                obtain ⟨b1, o1, rfl, hb1, hw1, q1⟩ := IntsAt.cellsB (HOR6.out.below HB6K.out) hx
                obtain ⟨gb, qb1, qb2, qb3⟩ := (HRB.out.below (show Below wB.heap.size wB wr from by rw [hLB]; exact HBL.out)).at hlt hx (show at_ < (behO code (List.replicate code.length false) x).length by rw [regB_len code _ x]; exact HLTA.out)
                have hBLs : BL < wr.heap.size := by omega
                have HMORE := Lib.hid (regPB_more (behO code (List.replicate code.length false)) at_ hx)
                have HLT := Lib.hid hlt
                obtain ⟨bv, hbv⟩ : ∃ bv, (behO code (List.replicate code.length false) x).getD at_ false = bv := ⟨_, rfl⟩
                rw [hbv] at qb3 HMORE
                clear hx hlt hbv
                cases bv with
                | false =>
                  have HNX := Lib.hid (HMORE.out.trans (if_neg (by simp)))
                  go_wp2
                  go_roundw
                  case rel => exact ⟨k + 1, HLT.out, by go_num, HRL, by rw [HNX.out]; exact HOW, HBL, hsw⟩
                  case measure => have := HLT.out; simp [intOf]; omega
                | true =>
                  have HNX := Lib.hid (HMORE.out.trans (if_pos rfl))
                  go_wp2_with (at_builtin; go_loud (refine wpList_append_lies _ rfl (.tmp 67) (.tmp 69) 29 rfl (LB + 1) 3 i0 (.int .i64 0) 1 8 Try.underlying29 hi0 hz0 hz1 hz2 rfl (by decide) (.slice hb (regPB (behO code (List.replicate code.length false)) at_ O k).length hd) (regPB (behO code (List.replicate code.length false)) at_ O k).length (ints (regPB (behO code (List.replicate code.length false)) at_ O k)) rfl (HOW.out.alloc _) _ 1 1 [.int .i64 x] rfl rfl (cell_new1 _ _ _ _ (by simp)) (by simp [Value.oneCell']) (by omega) (by unfold maxLen; omega) (by omega) (by simp <;> omega) (wr.heap.size + 1) (by simp) ?_; intro g9 cap9 w9 hown hgrow hat9 hlt9; have HO9 := Lib.hid hown; have hrow9 : ∀ q, (Value.slice hb (regPB (behO code (List.replicate code.length false)) at_ O k).length hd).ownBlock = some q → LB + 1 ≤ q ∧ q < wr.heap.size := (fun q hq => HOW.out.lt q hq); have HB9 := Lib.hid ((HBL.out.alloc (by omega) _).grown hgrow (by simp <;> omega) (fun q e => by have := hrow9 q e; omega)); have HRL9 := Lib.hid ((HRL.out.below ((Below.refl wr.heap.size wr).alloc (Nat.le_refl _) (.cells #[.int .i64 x] 3))).grow (hv' := .slice (some ⟨g9, 0, none⟩) ((regPB (behO code (List.replicate code.length false)) at_ O k).length + 1) cap9) hgrow (fun q e => (hrow9 q e).1) (fun q e => by simp only [Value.ownBlock, Option.some.injEq] at e; subst e; rcases hat9 with e2 | e2; exact .inl e2; exact .inr (by simp; omega))); have hs9 : LB + 1 ≤ w9.heap.size := (by have h8 := hgrow.size; simp at h8; omega); clear hown hgrow hat9 hlt9))
                  go_roundw
                  case rel => exact ⟨k + 1, HLT.out, by go_num, HRL9, by rw [HNX.out]; exact Lib.hid (by simpa using HO9.out), HB9, hs9⟩
                  case measure => have := HLT.out; simp [intOf]; omega
              · obtain rfl : k = O.length := by omega
                have HOW9 := Lib.hid HOW.out
                have HRL9 := Lib.hid HRL.out
                have hfl : regPB (behO code (List.replicate code.length false)) at_ O O.length = lst at_ := by rw [← HLST.out]; unfold regPB; rw [List.take_length]
                rw [hfl] at HOW9 HRL9 hpl ⊢
                have hLBs : LB < wr.heap.size := by omega
                have hcellL : ∀ u : World, Below wr.heap.size wr u → ∃ y, u.cell? ⟨LB, at_, none⟩ = some y ∧ u.frozen? ⟨LB, at_, none⟩ = false := fun u hu => by
                  have h1 := (HRL9.out.below hu).row
                  exact ⟨_, VRow.cell h1 (List.getElem?_eq_getElem (by rw [HRL9.out.len]; exact HLTA.out)), VRow.frozen h1 at_⟩
                have HCL := Lib.hid hcellL
                clear hcellL hfl HRL HOW
                rcases HOW9.out.2 with ⟨e, h5⟩ | ⟨g, cap, cur, e, _, _, hcap, _⟩
                · injection e with e1 e2 e3
                  subst e1
                  subst e3
                  have HL0 : Hid (lst at_ = []) := Lib.hid (List.eq_nil_of_length_eq_zero h5)
                  have HRL8 := Lib.hid HRL9.out
                  rw [e2] at HRL8 ⊢
                  clear HRL9 HOW9 h5 e2
                  go_wp2_with (go_at_call 89; go_loud ((with_reducible refine (clone_none _).mono ?_); rintro e u ⟨v9, rfl, ho9, hbu⟩; obtain ⟨a9, c9, rfl⟩ := row_slice ho9; have HRU := Lib.hid (HRL8.out.below hbu); have HO9 := Lib.hid ho9; have HBU := Lib.hid (HBL.out.trans (hbu.mono (show LB ≤ wr.heap.size by omega))); obtain ⟨y9, hy9, hf9⟩ := HCL.out u hbu; have hus := hbu.size; clear hbu ho9))
                  have HPT : Hid (RgL (u.setCell ⟨LB, at_, none⟩ (.slice a9 0 c9)) LB (LB + 1) code.length lst (at_ + 1) (ls.set at_ (.slice a9 0 c9)) (.slice none 0 0)) := Lib.hid (by
                    have hh := HRU.out.put HLTA.out (a := a9) (c := c9) (by rw [HL0.out]; exact ownsRow_le HO9.out (by omega)) (fun q hq e => by cases e)
                    rw [HL0.out] at hh
                    exact hh)
                  go_roundw
                  case rel => exact ⟨at_ + 1, _, [], HLTA.out, by go_num, HPT, Lib.hid (World.ownsRow_nil _ _ _ _), Lib.hid (HBU.out.setCell (by simp) _), by simpa [World.setCell] using (show LB + 1 ≤ u.heap.size by omega)⟩
                  case measure => have := HLTA.out; simp [intOf]; omega
                · injection e with e1 e2 e3
                  subst e1
                  subst e3
                  go_wp2_with (go_at_call 89; go_loud ((with_reducible refine (clone_some (lst at_) g 0 hd _ (LiesIn.row (LiesIn.of_own HOW9.out)) (by omega)).mono ?_); rintro e u ⟨v9, rfl, ho9, hbu⟩; obtain ⟨a9, c9, rfl⟩ := row_slice ho9; have HRU := Lib.hid (HRL9.out.below hbu); have HOU := Lib.hid (own_keep (w' := u) HOW9.out (fun q hq => hbu.block q (HOW9.out.lt q hq).2)); have HO9 := Lib.hid ho9; have HBU := Lib.hid (HBL.out.trans (hbu.mono (show LB ≤ wr.heap.size by omega))); obtain ⟨y9, hy9, hf9⟩ := HCL.out u hbu; have hus := hbu.size; clear hbu ho9))
                  go_roundw
                  case rel => exact ⟨at_ + 1, _, lst at_, HLTA.out, by go_num, Lib.hid (HRU.out.put HLTA.out (ownsRow_le HO9.out (by omega)) (fun q hq e => by have h8 := (HO9.out.lt q hq).1; have h9 := (HOW9.out.lt q e).2; omega)), Lib.hid (own_keep HOU.out (fun q hq => Below.heap_setCell _ _ _ _ (by have := (HOU.out.lt q hq).1; simp; omega))), Lib.hid (HBU.out.setCell (by simp) _), by simpa [World.setCell] using (show LB + 1 ≤ u.heap.size by omega)⟩
                  case measure => have := HLTA.out; simp [intOf]; omega
        · obtain rfl : at_ = code.length := by omega
          go_wp2
          go_ret
          refine ⟨LB, O, rfl, HK1.out, HK2.out, ?_, HB3.out.trans ((HB6.out.trans ((HBK.out.trans (HBL.out.mono (by omega))).mono (by omega))).mono (by omega))⟩
          rw [HLST.out]
          exact HRL.out.rows
end Go.Proofs.Ytpajndeongcjbaa
namespace Go.Proofs.Ytpajndeongcjbaa.Cd
set_option linter.unusedVariables false
set_option linter.unusedSimpArgs false
def regsL (n : Nat) (p : Int → Bool) : List Int := ((List.range n).filter (fun r : Nat => p (r : Int))).map (fun r : Nat => (r : Int))
theorem regsL_mem {n : Nat} {p : Int → Bool} {x : Int} : x ∈ regsL n p ↔ 0 ≤ x ∧ x < (n : Int) ∧ p x = true := by
  unfold regsL
  rw [List.mem_map]
  constructor
  · rintro ⟨r, hr, rfl⟩
    obtain ⟨h1, h2⟩ := List.mem_filter.1 hr
    have := List.mem_range.1 h1
    exact ⟨by omega, by omega, h2⟩
  · rintro ⟨h1, h2, h3⟩
    exact ⟨x.toNat, List.mem_filter.2 ⟨List.mem_range.2 (by omega), by rw [Int.toNat_of_nonneg h1]; exact h3⟩, Int.toNat_of_nonneg h1⟩
theorem regsL_lt (n : Nat) (p : Int → Bool) : (regsL n p).Pairwise (fun x y => x < y) := by
  unfold regsL
  rw [List.pairwise_map]
  exact List.Pairwise.imp (fun h => by omega) (List.Pairwise.filter _ List.pairwise_lt_range)
theorem regsL_more (n : Nat) (p : Int → Bool) : regsL (n + 1) p = if p (n : Int) = true then regsL n p ++ [(n : Int)] else regsL n p := by
  unfold regsL
  rw [List.range_succ, List.filter_append, List.map_append]
  by_cases h : p (n : Int) = true
  · rw [if_pos h]
    congr 1
    simp only [List.filter_cons, h, if_true, List.filter_nil, List.map_cons, List.map_nil]
  · rw [if_neg h]
    simp only [List.filter_cons, h, if_false, List.filter_nil, List.map_nil, List.append_nil, Bool.false_eq_true]
theorem regsL_len (n : Nat) (p : Int → Bool) : (regsL n p).length ≤ n := by
  unfold regsL
  rw [List.length_map]
  exact Nat.le_trans (List.length_filter_le _ _) (by simp)
theorem sorted_same {l m : List Int} (h1 : l.Pairwise (fun x y => x < y)) (h2 : m.Pairwise (fun x y => x < y)) (h : ∀ x, x ∈ l ↔ x ∈ m) : l = m := by
  have n1 : l.Nodup := h1.imp (fun h e => by omega)
  have n2 : m.Nodup := h2.imp (fun h e => by omega)
  have hp : l.Perm m := (List.perm_ext_iff_of_nodup n1 n2).2 h
  have e := mergeSort_of_perm_i hp
  have e1 : l.mergeSort leI = l := List.mergeSort_of_pairwise (h1.imp (fun h => by simpa using Int.le_of_lt h))
  have e2 : m.mergeSort leI = m := List.mergeSort_of_pairwise (h2.imp (fun h => by simpa using Int.le_of_lt h))
  rw [e1, e2] at e
  exact e
theorem live_keep {c : List Ins} {r p : Int} (h : LiveN c none0 r p) : LiveN c (goneOf (keptOf (List.replicate c.length false))) r p := by
  induction h with
  | @here x i h1 h2 h3 =>
    have hl := (List.getElem?_eq_some_iff.1 h1).1
    have hng : ¬ goneOf (keptOf (List.replicate c.length false)) x := fun hg => by
      unfold goneOf keptOf at hg
      rw [List.getElem?_map, List.getElem?_replicate, if_pos hl] at hg
      exact hg rfl
    exact .here h1 hng h3
  | on h1 h2 h3 _ ih => exact .on h1 h2 h3 ih
theorem aheadO_at {c : List Ins} (hc : Closed c) {x : Int} {p : Nat} (hp : p < c.length) : (aheadO c (List.replicate c.length false) x).getD p false = true ↔ LiveN c none0 x (p : Int) := by
  have hl := (usIn_of c).live hc (rdrs_gone (gone := List.replicate c.length false) (by simp) x) (p : Int)
  have hin : Inside c (p : Int) := by unfold Inside; omega
  have h := foundB_at (G := backG (fromL c) (c.map Cd.sets) x) (fr := rdr (List.replicate c.length false) (UG c c.length 1 x)) (no := -1) (x := p) (by rw [backG_len]; simpa [fromL] using hp)
  have hg : (aheadO c (List.replicate c.length false) x).getD p false = true ↔ (aheadO c (List.replicate c.length false) x)[p]? = some true := by
    rw [List.getD_eq_getElem?_getD]
    cases (aheadO c (List.replicate c.length false) x)[p]? with
    | none => simp
    | some b => cases b <;> simp
  rw [hg]
  unfold aheadO
  rw [h, hl]
  exact ⟨fun hh => hh.2.mono (fun x hx => hx.elim), fun hh => ⟨hin, live_keep hh⟩⟩
theorem ahead_list {f : Fnc} (hR : RightF f) {O : List Int} (hO : ∀ x, x ∈ O ↔ UG f.code f.code.length 1 x ≠ []) (hs : O.Pairwise (fun x y => x < y)) {p : Nat} (hp : p < f.code.length) :
    O.filter (fun x => (aheadO f.code (List.replicate f.code.length false) x).getD p false) = regsL f.regs.toNat (fun r => aheadR f.code (p : Int) r) := by
  have hc := closed_of hR
  have hin : Inside f.code (p : Int) := by unfold Inside; omega
  refine sorted_same (List.Pairwise.filter _ hs) (regsL_lt _ _) (fun x => ?_)
  rw [List.mem_filter, regsL_mem, hO x]
  have h1 := aheadO_at hc (x := x) hp
  constructor
  · rintro ⟨h2, h3⟩
    have h4 := h1.1 h3
    obtain ⟨y, i, h5, h6⟩ := h4.reads
    have h7 := (hR.all i (List.mem_of_getElem? h5)).uses x h6
    unfold regOk at h7
    exact ⟨by omega, by omega, (ahead_iff hc hin).2 (live_none.1 h4)⟩
  · rintro ⟨h2, h3, h4⟩
    have h5 := live_none.2 ((ahead_iff hc hin).1 h4)
    refine ⟨?_, h1.2 h5⟩
    obtain ⟨y, i, h6, h7⟩ := h5.reads
    intro e
    have h8 : (y : Int) ∈ UG f.code f.code.length 1 x := (ug_mem (by omega) _ (Nat.le_refl _)).2 ⟨y, i, (List.getElem?_eq_some_iff.1 h6).1, h6, rfl, h7⟩
    rw [e] at h8
    cases h8
theorem beh_list {f : Fnc} (hR : RightF f) {O : List Int} (hO : ∀ x, x ∈ O ↔ UG f.code f.code.length 1 x ≠ []) (hs : O.Pairwise (fun x y => x < y)) {p : Nat} (hp : p < f.code.length) :
    O.filter (fun x => (behO f.code (List.replicate f.code.length false) x).getD p false) = regsL f.regs.toNat (fun r => behindR f.code (p : Int) r) := by
  have hc := closed_of hR
  have hin : Inside f.code (p : Int) := by unfold Inside; omega
  refine sorted_same (List.Pairwise.filter _ hs) (regsL_lt _ _) (fun x => ?_)
  rw [List.mem_filter, regsL_mem, hO x]
  have h1 : (behO f.code (List.replicate f.code.length false) x).getD p false = true ↔ BehN f.code none0 x (p : Int) := by
    unfold behO
    rw [beh_gone hc (by simp) x hp, behN_none rfl hc]
  constructor
  · rintro ⟨h2, h3⟩
    have h4 := h1.1 h3
    obtain ⟨z, hz, hlv⟩ := id h4
    obtain ⟨y, i, h5, h6⟩ := hlv.reads
    have h7 := (hR.all i (List.mem_of_getElem? h5)).uses x h6
    unfold regOk at h7
    exact ⟨by omega, by omega, (beh_none hc hin).1 h4⟩
  · rintro ⟨h2, h3, h4⟩
    have h5 := (beh_none hc hin).2 h4
    refine ⟨?_, h1.2 h5⟩
    obtain ⟨z, hz, hlv⟩ := h5
    obtain ⟨y, i, h6, h7⟩ := hlv.reads
    intro e
    have h8 : (y : Int) ∈ UG f.code f.code.length 1 x := (ug_mem (by omega) _ (Nat.le_refl _)).2 ⟨y, i, (List.getElem?_eq_some_iff.1 h6).1, h6, rfl, h7⟩
    rw [e] at h8
    cases h8
end Go.Proofs.Ytpajndeongcjbaa.Cd
namespace Go.Proofs.Ytpajndeongcjbaa
set_option maxRecDepth 100000
open Go.RowKit Cd Go.Maps
/-- Rows of registers, a row an instruction. -/
def RegPost (f : Fnc) (p : Int → Int → Bool) (w : World) (e : Ending) (w' : World) : Prop := ∃ (g : Nat), e = .returned (.slice (some ⟨g, 0, none⟩) f.code.length f.code.length) ∧ RowsAt w' w'.heap.size (some ⟨g, 0, none⟩) ((List.range f.code.length).map (fun a : Nat => regsL f.regs.toNat (p (a : Int)))) ∧ Below w.heap.size w w'
theorem ahead_f (r : FnR) (w : World) (hC : CodeAt w w.heap.size r) (hm : r.f.code.length ≤ maxLen) (hR : RightF r.f) : Calls Try.prog 17 #[fnV r] w (RegPost r.f (fun a x => aheadR r.f.code a x) w) := by
  obtain ⟨⟨name, params, regs, frame, code⟩, ca, cc⟩ := r
  have HB0 := Lib.hid ((Below.refl w.heap.size w).alloc (Nat.le_refl _) (fnO ⟨⟨name, params, regs, frame, code⟩, ca, cc⟩))
  have HX0 := heap_alloc_new w (fnO ⟨⟨name, params, regs, frame, code⟩, ca, cc⟩)
  have HC := Lib.hid hC; have HM := Lib.hid hm; have HR := Lib.hid hR
  obtain ⟨c0, c1, c2, c3, c4⟩ := nv5 HX0
  clear hC hm hR HX0
  go_enter Try.func17, Try.ntmps17
  go_wp2_with ((with_reducible refine (regA_v name params regs frame code ca cc _ (code_up (HC.out.below HB0.out) HB0.out.size) HM.out HR.out).mono ?_); rintro e u ⟨g, O, rfl, h1, h2, h3, hb⟩; have H1 := Lib.hid h1; have H2 := Lib.hid h2; have H3 := Lib.hid h3; have HB := Lib.hid (HB0.out.trans (hb.mono HB0.out.size)); clear h1 h2 h3 hb)
  go_ret
  refine ⟨g, rfl, ?_, HB.out⟩
  have e : (List.range code.length).map (fun at_ : Nat => O.filter (fun x => (aheadO code (List.replicate code.length false) x).getD at_ false)) = (List.range code.length).map (fun a : Nat => regsL regs.toNat (fun r => aheadR code (a : Int) r)) := List.map_congr_left (fun a ha => ahead_list HR.out H1.out H2.out (List.mem_range.1 ha))
  have h9 := H3.out
  rw [e] at h9
  exact h9
theorem behind_f (r : FnR) (w : World) (hC : CodeAt w w.heap.size r) (hm : r.f.code.length ≤ maxLen) (hR : RightF r.f) : Calls Try.prog 18 #[fnV r] w (RegPost r.f (fun a x => behindR r.f.code a x) w) := by
  obtain ⟨⟨name, params, regs, frame, code⟩, ca, cc⟩ := r
  have HB0 := Lib.hid ((Below.refl w.heap.size w).alloc (Nat.le_refl _) (fnO ⟨⟨name, params, regs, frame, code⟩, ca, cc⟩))
  have HX0 := heap_alloc_new w (fnO ⟨⟨name, params, regs, frame, code⟩, ca, cc⟩)
  have HC := Lib.hid hC; have HM := Lib.hid hm; have HR := Lib.hid hR
  obtain ⟨c0, c1, c2, c3, c4⟩ := nv5 HX0
  clear hC hm hR HX0
  go_enter Try.func18, Try.ntmps18
  go_wp2_with ((with_reducible refine (regB_v name params regs frame code ca cc _ (code_up (HC.out.below HB0.out) HB0.out.size) HM.out HR.out).mono ?_); rintro e u ⟨g, O, rfl, h1, h2, h3, hb⟩; have H1 := Lib.hid h1; have H2 := Lib.hid h2; have H3 := Lib.hid h3; have HB := Lib.hid (HB0.out.trans (hb.mono HB0.out.size)); clear h1 h2 h3 hb)
  go_ret
  refine ⟨g, rfl, ?_, HB.out⟩
  have e : (List.range code.length).map (fun at_ : Nat => O.filter (fun x => (behO code (List.replicate code.length false) x).getD at_ false)) = (List.range code.length).map (fun a : Nat => regsL regs.toNat (fun r => behindR code (a : Int) r)) := List.map_congr_left (fun a ha => beh_list HR.out H1.out H2.out (List.mem_range.1 ha))
  have h9 := H3.out
  rw [e] at h9
  exact h9
/-- Of a function that may not be. -/
theorem reg_no (r : FnR) (v : Value) (w : World) (hC : CodeAt w w.heap.size r) (hm : r.f.code.length ≤ maxLen) (hR : rightF r.f = false) : Calls Try.prog 51 #[fnV r, v] w (fun e w' => e = .returned (.slice none 0 0) ∧ Below w.heap.size w w') := by
  have HB0 := Lib.hid ((Below.refl w.heap.size w).alloc (Nat.le_refl _) (fnO r))
  have HX0 := Lib.hid (heap_alloc_new w (fnO r))
  have HC := Lib.hid hC; have HM := Lib.hid hm; have HR := Lib.hid hR
  obtain ⟨c0, c1, c2, c3, c4⟩ := nv5 HX0.out
  clear hC hm hR
  go_enter Try.func51, Try.ntmps51
  go_wp2_with ((with_reducible refine (rightF_v r false w.heap.size _ (HC.out.below HB0.out) HB0.out.size HM.out HR.out).mono ?_); rintro e w1 ⟨rfl, hb1⟩; have HB1 := Lib.hid (HB0.out.trans (hb1.mono HB0.out.size)); clear hb1)
  go_ret
  exact ⟨rfl, HB1.out⟩
end Go.Proofs.Ytpajndeongcjbaa
