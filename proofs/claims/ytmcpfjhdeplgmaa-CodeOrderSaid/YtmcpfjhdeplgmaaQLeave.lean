/-
  Layer 7: rows cut.
  Layer 7: the machine's leave.
  Layer 7: the machine's operate.
  Layer 7: the machine's access.
  Layer 7: the machine's call.
  Layer 7: the innermost call goes on elsewhere.
  Layer 7: a step of the machine: what lies there.
-/
import Derived.Test.YtmcpfjhdeplgmaaQMem
import Derived.Test.YtmcpfjhdeplgmaaQRuns
import Derived.Test.YtmcpfjhdeplgmaaQSmall
import Derived.Test.YtmcpfjhdeplgmaaQEach
namespace Go.Proofs.Ytmcpfjhdeplgmaa
open Go.RowKit Cd Go.Maps
set_option linter.unusedVariables false
set_option linter.unusedSimpArgs false
theorem row_parts {w : World} {B size n : Nat} {e : TypeId} {v : Value} {xs : List Value} (h : w.ownsRow B e size v n xs) :
    ∃ a c, v = .slice a n c ∧ n ≤ c ∧ c ≤ maxLen ∧ ((a = none ∧ n = 0 ∧ c = 0) ∨ ∃ g, a = some ⟨g, 0, none⟩ ∧ B ≤ g ∧ g < w.heap.size ∧ ∀ (j : Nat) (u : Value), xs[j]? = some u → w.cell? ⟨g, j, none⟩ = some u) := by
  obtain ⟨hl, ⟨h0, h1⟩ | ⟨g, cap, cur, hv, hg, hh, h1, h2, h3, ht⟩⟩ := id h
  · subst h1
    exact ⟨none, 0, h0, Nat.le_refl _, by unfold maxLen; omega, .inl ⟨rfl, rfl, rfl⟩⟩
  · refine ⟨_, cap, hv, h1, h2, .inr ⟨g, rfl, hg, lt_heap hh, fun j u hu => ?_⟩⟩
    rw [cell_of_row w g j _ _ _ hh]
    have hj := (List.getElem?_eq_some_iff.1 hu).1
    have hq := congrArg (fun l => l[j]?) ht
    rw [List.getElem?_take_of_lt (by rw [← hl]; exact hj), hu] at hq
    simpa using hq
theorem slice_to {t e : TypeId} (ht : Try.prog.underlying t = some (.slice e)) {s : Nat} (hz : ∀ W, (sizeOf e).run Try.prog W = .ok s W) {a : Option Addr} {n c k : Nat} (ha : a = none ∨ ∃ g, a = some ⟨g, 0, none⟩) (hk : k ≤ c) (hc : c ≤ maxLen) (W : World) :
    (Instr.sliceAt t (.slice a n c) none (some (.int .i64 k)) none).run Try.prog W = .ok (.slice a k c) W := by
  unfold maxLen at hc
  have h0 : (0 : Int) ≤ (k : Int) := Int.natCast_nonneg _
  have h1 : (k : Int) ≤ (c : Int) := by omega
  have hel : Try.prog.elem t = e := by simp [Program.elem, ht]
  rcases ha with rfl | ⟨g, rfl⟩
  · go_simp
  · go_simp
theorem slice_from {t e : TypeId} (ht : Try.prog.underlying t = some (.slice e)) {s : Nat} (hz : ∀ W, (sizeOf e).run Try.prog W = .ok s W) {a : Option Addr} {n c k : Nat} (hk : k ≤ n) (hn : n ≤ c) (hc : c ≤ maxLen) (W : World) :
    (Instr.sliceAt t (.slice a n c) (some (.int .i64 k)) none none).run Try.prog W = .ok (sliced a k n c s) W := by
  unfold maxLen at hc
  have h0 : (0 : Int) ≤ (k : Int) := Int.natCast_nonneg _
  have h1 : (k : Int) ≤ (n : Int) := by omega
  have hel : Try.prog.elem t = e := by simp [Program.elem, ht]
  go_simp
theorem size_call (W : World) : (sizeOf 79).run Try.prog W = .ok 5 W := by kernel_rfl
theorem size_value (W : World) : (sizeOf 86).run Try.prog W = .ok 3 W := by kernel_rfl
theorem flat_take {α : Type} {f : α → List Value} {s : Nat} (hs : ∀ x, (f x).length = s) : ∀ (l : List α) (k : Nat), (l.flatMap f).take (k * s) = (l.take k).flatMap f
  | [], k => by simp
  | x :: l, 0 => by simp
  | x :: l, k + 1 => by
    rw [List.flatMap_cons, List.take_succ_cons, List.flatMap_cons, show (k + 1) * s = (f x).length + k * s by rw [hs, Nat.succ_mul]; omega, List.take_length_add_append, flat_take hs l k]
theorem own_take {w : World} {B size n c k : Nat} {e : TypeId} {a : Option Addr} {xs : List Value} (h : w.ownsRow B e size (.slice a n c) n xs) (hk : k ≤ n) : w.ownsRow B e size (.slice a k c) k (xs.take (k * size)) := by
  obtain ⟨hl, ⟨h0, h1⟩ | ⟨g, cap, cur, hv, hg, hh, h1, h2, h3, ht⟩⟩ := h
  · subst h1
    injection h0 with h0 _ h2
    subst h0 h2
    obtain rfl : k = 0 := by omega
    exact ⟨by simp, .inl ⟨rfl, rfl⟩⟩
  · injection hv with hv _ hc
    subst hv hc
    have hle : k * size ≤ n * size := Nat.mul_le_mul_right _ hk
    refine ⟨by rw [List.length_take, hl]; omega, .inr ⟨g, c, cur, rfl, hg, hh, by omega, h2, h3, ?_⟩⟩
    rw [← ht, List.take_take]
    congr 1
    omega
variable {w0 w w' : World} {U : UnR} {N : Nat} {b : Blk} {M : Mac} {V : MV}
theorem MacAt.cutA (h : MacAt w0 w U N b M V) {a : Option Addr} {n c k : Nat} (hv : V.va = .slice a n c) (hk : k ≤ M.aside.length) : MacAt w0 (w.setCell ⟨b.mb, 4103, none⟩ (.slice a k c)) U N b { M with aside := M.aside.take k } { V with va := .slice a k c } ∧ Mov b w V (w.setCell ⟨b.mb, 4103, none⟩ (.slice a k c)) { V with va := .slice a k c } := by
  obtain ⟨l1, l2, l3, l4⟩ := h.lo
  obtain ⟨n1, n2, n3, n4, n5, n6⟩ := h.ne
  obtain ⟨i1, i2, i3, i4⟩ := h.hi
  have hrow := h.aside
  have hob : (Value.slice a k c).ownBlock = V.va.ownBlock := by rw [hv]; rcases a with _ | ⟨g, o, sp⟩ <;> simp [Value.ownBlock]
  rw [hv] at hrow
  have hn : n = M.aside.length := by obtain ⟨a', c', e, _⟩ := row_parts hrow; injection e
  subst hn
  have htake := own_take hrow hk
  rw [flat_take vlCells_len] at htake
  have hlen : (M.aside.take k).length = k := by rw [List.length_take]; omega
  constructor
  · refine ⟨h.below.setCell (show w0.heap.size ≤ b.mb by omega) _, h.lo, h.hi, h.ne, ?_, h.memlen, (heap_other7 (Ne.symm n1)).trans h.regs, (heap_other7 (Ne.symm n2)).trans h.sets, h.pl.keep (heap_other7 (Ne.symm n3)),
      by simp only [hlen]; exact own_keep htake (fun g hg => heap_other7 (by have := (htake.lt g hg).1; omega)), own_keep h.calls (fun g hg => heap_other7 (by have := (h.calls.lt g hg).1; omega)), own_keep h.out (fun g hg => heap_other7 (by have := (h.out.lt g hg).1; omega)), h.inp, fun g hg => h.ac g (by rw [← hob]; exact hg), fun g hg => h.ao g (by rw [← hob]; exact hg), h.co, by simpa using h.base⟩
    rw [mcO_set h.box]
    exact congrArg (fun l => some (mcO l)) (mcL_set (U := U) (b := b) (M := M) (V := V) (M' := { M with aside := M.aside.take k }) (V' := { V with va := .slice a k c }) h.memlen rfl 3 _ rfl)
  · exact ⟨by simp, fun g hg => .inl (by unfold MV.own at hg ⊢; simp only [hob] at hg; exact hg), fun j _ h1 _ _ _ => heap_other7 h1⟩
theorem MacAt.cutC (h : MacAt w0 w U N b M V) {a : Option Addr} {n c k : Nat} (hv : V.vc = .slice a n c) (hk : k ≤ M.calls.length) : MacAt w0 (w.setCell ⟨b.mb, 4104, none⟩ (.slice a k c)) U N b { M with calls := M.calls.take k } { V with vc := .slice a k c } ∧ Mov b w V (w.setCell ⟨b.mb, 4104, none⟩ (.slice a k c)) { V with vc := .slice a k c } := by
  obtain ⟨l1, l2, l3, l4⟩ := h.lo
  obtain ⟨n1, n2, n3, n4, n5, n6⟩ := h.ne
  obtain ⟨i1, i2, i3, i4⟩ := h.hi
  have hrow := h.calls
  have hob : (Value.slice a k c).ownBlock = V.vc.ownBlock := by rw [hv]; rcases a with _ | ⟨g, o, sp⟩ <;> simp [Value.ownBlock]
  rw [hv] at hrow
  have hn : n = M.calls.length := by obtain ⟨a', c', e, _⟩ := row_parts hrow; injection e
  subst hn
  have htake := own_take hrow hk
  rw [flat_take (calCells_len U)] at htake
  have hlen : (M.calls.take k).length = k := by rw [List.length_take]; omega
  constructor
  · refine ⟨h.below.setCell (show w0.heap.size ≤ b.mb by omega) _, h.lo, h.hi, h.ne, ?_, h.memlen, (heap_other7 (Ne.symm n1)).trans h.regs, (heap_other7 (Ne.symm n2)).trans h.sets, h.pl.keep (heap_other7 (Ne.symm n3)),
      own_keep h.aside (fun g hg => heap_other7 (by have := (h.aside.lt g hg).1; omega)), by simp only [hlen]; exact own_keep htake (fun g hg => heap_other7 (by have := (htake.lt g hg).1; omega)), own_keep h.out (fun g hg => heap_other7 (by have := (h.out.lt g hg).1; omega)), h.inp, fun g hg => by show (Value.slice a k c).ownBlock ≠ some g; rw [hob]; exact h.ac g hg, h.ao, fun g hg => h.co g (by rw [← hob]; exact hg), by simpa using h.base⟩
    rw [mcO_set h.box]
    exact congrArg (fun l => some (mcO l)) (mcL_set (U := U) (b := b) (M := M) (V := V) (M' := { M with calls := M.calls.take k }) (V' := { V with vc := .slice a k c }) h.memlen rfl 4 _ rfl)
  · exact ⟨by simp, fun g hg => .inl (by unfold MV.own at hg ⊢; simp only [hob] at hg; exact hg), fun j _ h1 _ _ _ => heap_other7 h1⟩
end Go.Proofs.Ytmcpfjhdeplgmaa
namespace Go.Proofs.Ytmcpfjhdeplgmaa
open Go.RowKit Cd Go.Maps
set_option linter.unusedVariables false
set_option linter.unusedSimpArgs false
variable {w0 w w' : World} {U : UnR} {N : Nat} {b : Blk} {M : Mac} {V : MV}
/-- The innermost call ends. -/
def backM (M : Mac) (ini : List Cal) (c : Cal) : Mac := { M with calls := ini, free := c.frame, regs := undoR (M.aside.drop c.aside) M.regs, sets := undoS (M.aside.drop c.aside) M.sets, aside := M.aside.take c.aside }
def leaveM (M : Mac) (ini : List Cal) (c : Cal) (res : Int) : Mac :=
  if ini.length = 0 then { backM M ini c with fin := 1, code := res }
  else if c.dst ≠ -1 then mset (backM M ini c) c.dst res else backM M ini c
def partM (M : Mac) (ini : List Cal) (c : Cal) (k : Nat) : Mac := { M with calls := ini, free := c.frame, regs := undoR ((M.aside.drop c.aside).take k) M.regs, sets := undoS ((M.aside.drop c.aside).take k) M.sets }
abbrev cO (rr : FnR) (c : Cal) : Obj := .cells #[.slice rr.ca rr.f.code.length rr.cc, .int .i64 c.pos, .int .i64 c.frame, .int .i64 c.dst, .int .i64 c.aside] 79
theorem calls_last {U : UnR} {ini : List Cal} {c : Cal} (j : Nat) (hj : j < 5) : ((ini ++ [c]).flatMap (calCells U))[ini.length * 5 + j]? = (calCells U c)[j]? := by
  rw [List.flatMap_append, List.getElem?_append_right (by rw [flat_len (calCells_len U)]; omega), flat_len (calCells_len U), show ini.length * 5 + j - ini.length * 5 = j by omega]
  simp
set_option maxRecDepth 100000 in
set_option maxHeartbeats 16000000 in
theorem leave_any (h : MacAt w0 w U N b M V) (ini : List Cal) (c : Cal) (hc : M.calls = ini ++ [c]) (rr : FnR) (hrr : U.fs[c.k]? = some rr) (res : Int) (hlo : c.aside ≤ M.aside.length) (hok : ∀ v ∈ M.aside, 0 ≤ v.reg ∧ v.reg < M.regs.length)
    (hs : M.sets.length = M.regs.length) (hcl : M.calls.length ≤ 1000001) (hal : M.aside.length ≤ 9000000) (hdst : c.dst = -1 ∨ (0 ≤ c.dst ∧ c.dst < M.regs.length)) :
    Calls Try.prog 54 #[mP b, .int .i64 res] w (MPost w0 U N b w V (leaveM M ini c res) (.tuple #[])) := by
  have hmix : Try.prog.follows .mixedOrders = true := by kernel_rfl
  obtain ⟨c0, c1, c2, c3, c4, c5, c6, c7, c8, c9, c10, c11, c12, c13⟩ := h.cells
  obtain ⟨ca, cc, hvc, hcn, hcm, hcf⟩ := row_parts h.calls
  obtain ⟨aa, ac, hva, han, ham, haf⟩ := row_parts h.aside
  have hcll : M.calls.length = ini.length + 1 := by rw [hc]; simp
  obtain ⟨cg, hca, hcg, hcgw, hccell⟩ : ∃ g, ca = some ⟨g, 0, none⟩ ∧ N ≤ g ∧ g < w.heap.size ∧ ∀ (j : Nat) (u : Value), (M.calls.flatMap (calCells U))[j]? = some u → w.cell? ⟨g, j, none⟩ = some u := by
    rcases hcf with ⟨_, h1, _⟩ | h1
    · omega
    · exact h1
  subst hca
  have hcv : codeV U c.k = .slice rr.ca rr.f.code.length rr.cc := by unfold codeV; rw [hrr]
  have hcc : ∀ j, j < 5 → w.cell? ⟨cg, ini.length * 5 + j, none⟩ = (calCells U c)[j]? := fun j hj => by
    obtain ⟨u, hu⟩ : ∃ u, (calCells U c)[j]? = some u := ⟨_, List.getElem?_eq_getElem (by rw [calCells_len]; exact hj)⟩
    rw [hu]
    exact hccell _ u (by rw [hc, calls_last j hj, hu])
  have k0 : w.cell? ⟨cg, ini.length * 5, none⟩ = some (.slice rr.ca rr.f.code.length rr.cc) := by rw [← hcv]; exact hcc 0 (by omega)
  have k1 : w.cell? ⟨cg, ini.length * 5 + 1, none⟩ = some (.int .i64 c.pos) := hcc 1 (by omega)
  have k2 : w.cell? ⟨cg, ini.length * 5 + 2, none⟩ = some (.int .i64 c.frame) := hcc 2 (by omega)
  have k3 : w.cell? ⟨cg, ini.length * 5 + 3, none⟩ = some (.int .i64 c.dst) := hcc 3 (by omega)
  have k4 : w.cell? ⟨cg, ini.length * 5 + 4, none⟩ = some (.int .i64 c.aside) := hcc 4 (by omega)
  obtain ⟨m, hm⟩ : ∃ m, ini.length = m := ⟨_, rfl⟩
  obtain ⟨n, hn⟩ : ∃ n, M.calls.length = n := ⟨_, rfl⟩
  rw [hvc] at c8
  rw [hva] at c7
  rw [hm] at k0 k1 k2 k3 k4 hcll
  rw [hn] at c8 hcl hcll hcn
  subst hcll
  have hsC : ∀ W, (Instr.sliceAt 65 (.slice (some ⟨cg, 0, none⟩) (m + 1) cc) none (some (.int .i64 m)) none).run Try.prog W = .ok (.slice (some ⟨cg, 0, none⟩) m cc) W := fun W => slice_to Try.underlying65 size_call (.inr ⟨cg, rfl⟩) (by omega) hcm W
  have q0 : (0 : Int) ≤ (m : Int) := Int.natCast_nonneg _
  have mbw : b.mb < w.heap.size := lt_heap h.box
  have HCN := Lib.hid hn
  have HM := Lib.hid hm
  have HVC : Hid (V.vc = .slice (some ⟨cg, 0, none⟩) (m + 1) cc) := Lib.hid (by rw [hvc, hn])
  have HVA : Hid (V.va = .slice aa M.aside.length ac) := Lib.hid hva
  have HCC := Lib.hid hc
  have f1 := h.fz 4100
  have f2 := h.fz 4104
  have f3 := h.fz 4103
  have H := Lib.hid h
  have e1 : ¬ b.mb = cg := by have := h.hi.1; omega
  have e2 : ¬ cg = b.mb := fun e => e1 e.symm
  go_enter Try.func54, Try.ntmps54
  clear hcv hcc hccell hc hvc hva h hrr hcf hn hm c0 c1 c2 c3 c5 c6 c9 c10 c11 c12 c13
  go_wp2
  obtain ⟨wB, hwB⟩ : ∃ wB : World, ((w.setCell ⟨b.mb, 4104, none⟩ (.slice (some ⟨cg, 0, none⟩) m cc)).setCell ⟨b.mb, 4100, none⟩ (.int .i64 c.frame)).alloc (cO rr c) = wB := ⟨_, rfl⟩
  obtain ⟨VB, hVB⟩ : ∃ VB : MV, ({ V with vc := .slice (some ⟨cg, 0, none⟩) m cc } : MV) = VB := ⟨_, rfl⟩
  have HBM : Hid (MacAt w0 wB U N b { M with calls := ini, free := c.frame } VB ∧ Mov b w V wB VB ∧ wB.heap[w.heap.size]? = some (cO rr c)) := Lib.hid (by
    obtain ⟨h1, h2⟩ := H.out.cutC HVC.out (k := m) (by rw [HCN.out]; omega)
    have ht : M.calls.take m = ini := by rw [HCC.out, ← HM.out]; simp
    rw [ht] at h1
    have h3 := h1.field (M' := { M with calls := ini, free := c.frame }) 0 (.int .i64 c.frame) rfl rfl rfl rfl rfl rfl rfl rfl
    have h4 := h3.keep ((Below.refl _ _).alloc (Nat.le_refl _) (cO rr c))
    have h5 := (h2.trans (Mov.cell b _ _ (.inl rfl) 4100 (.int .i64 c.frame))).trans (Mov.of_below ((Below.refl _ _).alloc (Nat.le_refl _) (cO rr c)))
    have h6 := heap_alloc_new ((w.setCell ⟨b.mb, 4104, none⟩ (.slice (some ⟨cg, 0, none⟩) m cc)).setCell ⟨b.mb, 4100, none⟩ (.int .i64 c.frame)) (cO rr c)
    simp only [World.size_setCell] at h6
    rw [← hwB, ← hVB]
    exact ⟨h4, h5, h6⟩)
  rw [show (((w.setCell ⟨b.mb, 4104, none⟩ (.slice (some ⟨cg, 0, none⟩) m cc)).setCell ⟨b.mb, 4100, none⟩ (.int .i64 c.frame)).alloc (cO rr c)) = wB from hwB]
  have hva2 : VB.va = V.va := by rw [← hVB]
  have HVA2 : Hid (VB.va = .slice aa M.aside.length ac) := Lib.hid (hva2.trans HVA.out)
  obtain ⟨HM1, HV1, HX1⟩ := HBM.out
  have HM1 := Lib.hid HM1; have HV1 := Lib.hid HV1; have HX1 := Lib.hid HX1
  clear hwB hVB HBM hva2 k0 k1 k2 k3 k4 c4 c7 c8 f1 f2 f3 hsC
  obtain ⟨c0, c1, c2, c3, c4, c5, c6, c7, c8, c9, c10, c11, c12, c13⟩ := HM1.out.cells
  rw [HVA2.out] at c7
  obtain ⟨b0, b1, b2, b3, b4⟩ := nv5 HX1.out
  clear c0 c1 c2 c3 c4 c5 c6 c8 c9 c10 c11 c12 c13 b0 b1 b2 b3
  obtain ⟨an, han2⟩ : ∃ an, M.aside.length = an := ⟨_, rfl⟩
  obtain ⟨lo, hlo2⟩ : ∃ lo, c.aside = lo := ⟨_, rfl⟩
  have HAN := Lib.hid han2; have HLO := Lib.hid hlo2
  rw [han2] at c7 han hlo hal haf HVA2
  rw [hlo2] at b4 hlo
  unfold maxLen at ham
  obtain ⟨sn, hsn⟩ : ∃ sn, an - lo = sn := ⟨_, rfl⟩
  obtain ⟨sa, sc, hsl, hsa⟩ : ∃ sa sc, sliced aa lo an ac 3 = .slice sa sn sc ∧ (0 < sn → ∃ ag, N ≤ ag ∧ aa = some ⟨ag, 0, none⟩ ∧ sa = some ⟨ag, lo * 3, none⟩) := by
    rcases haf with ⟨h1, h2, h3⟩ | ⟨ag, h1, h2, h3, h4⟩
    · exact ⟨_, _, by unfold sliced; rw [hsn], fun h => by omega⟩
    · refine ⟨_, _, by unfold sliced; rw [hsn], fun h => ⟨ag, h2, h1, ?_⟩⟩
      rw [if_neg (by omega), h1]
      simp only [Option.map_some, Addr.add]
      split
      · rename_i h0; rw [h0]
      · simp
  have hsA : ∀ W, (Instr.sliceAt 64 (.slice aa an ac) (some (.int .i64 lo)) none none).run Try.prog W = .ok (.slice sa sn sc) W := fun W => by
    rw [slice_from Try.underlying64 size_value hlo han (by unfold maxLen; exact ham) W, hsl]
  have hsB : ∀ W, (Instr.sliceAt 64 (.slice aa an ac) none (some (.int .i64 lo)) none).run Try.prog W = .ok (.slice aa lo ac) W := fun W =>
    slice_to Try.underlying64 size_value (haf.imp (fun h => h.1) (fun ⟨g, h, _⟩ => ⟨g, h⟩)) (by omega) (by unfold maxLen; exact ham) W
  have HSA := Lib.hid hsa; have HSN := Lib.hid hsn; have HOK := Lib.hid hok; have HS := Lib.hid hs
  clear hsa hsl hsn han2 hlo2 hok hs haf
  have hal2 : (sn : Int) ≤ 9000000 := by have := HSN.out; omega
  go_region_held3 (fun w' => w'.cell? ⟨b.mb, 4103, none⟩ = some (.slice aa an ac) ∧ w'.cell? ⟨w.heap.size, 4, none⟩ = some (.int .i64 lo)) (go_keep) (fail)
  go_wp2
  have hHw : w.heap.size < wB.heap.size := lt_heap HX1.out
  have HP0 : Hid (partM M ini c 0 = { M with calls := ini, free := c.frame }) := Lib.hid (by unfold partM; simp [undoR, undoS])
  have HML := Lib.hid (HM1.out.keep ((Below.refl _ wB).drew)); have HVL := Lib.hid (HV1.out.trans (Mov.of_below ((Below.refl _ wB).drew)))
  rw [← HP0.out] at HML
  clear HM1 HV1 c7 b4
  go_loopw [43] (fun s43 wr => ∃ k : Nat, k ≤ sn ∧ s43 = .int .i64 k ∧ Hid (MacAt w0 wr U N b (partM M ini c k) VB) ∧ Hid (Mov b w V wr VB) ∧ Hid (wr.heap[w.heap.size]? = some (cO rr c))) (fun i wr => sn - (intOf i).toNat)
  case atStart => exact ⟨0, by omega, rfl, HML, HVL, HX1⟩
  case round =>
    clear HML HVL HX1
    obtain ⟨k, hk, rfl, HM3, HV3, HX3⟩ := hrel
    have r0 : (0 : Int) ≤ (k : Int) := Int.natCast_nonneg _
    by_cases hlt : k < sn
    · obtain ⟨ag, hagN, haa, hsa⟩ := HSA.out (by omega)
      obtain ⟨v, hv⟩ : ∃ v, M.aside[lo + k]? = some v := ⟨_, List.getElem?_eq_getElem (by have := HSN.out; have := HAN.out; omega)⟩
      obtain ⟨hv0, hv1⟩ := HOK.out v (List.mem_of_getElem? hv)
      obtain ⟨a', c', hr1, _, _, hr4⟩ := row_parts HM3.out.aside
      rw [HVA2.out, haa] at hr1
      injection hr1 with hr1 _ _
      obtain ⟨ag', hr5, hr6, hr7, hr8⟩ := hr4.resolve_left (fun e => by rw [e.1] at hr1; cases hr1)
      rw [hr5] at hr1
      injection hr1 with hr1
      injection hr1 with hr1 _ _
      subst hr1
      have hcell : ∀ (j : Nat) (u : Value), (vlCells v)[j]? = some u → wr.cell? ⟨ag, lo * 3 + k * 3 + j, none⟩ = some u := fun j u hu => by
        have hj : j < 3 := by rw [← vlCells_len v]; exact (List.getElem?_eq_some_iff.1 hu).1
        have := hr8 ((lo + k) * 3 + j) u (by show (M.aside.flatMap vlCells)[(lo + k) * 3 + j]? = some u; rw [flat_at vlCells_len M.aside (lo + k) j v hv hj, hu])
        rwa [Nat.add_mul] at this
      have v0 : wr.cell? ⟨ag, lo * 3 + k * 3, none⟩ = some (.int .i64 v.reg) := hcell 0 _ rfl
      have v1 : wr.cell? ⟨ag, lo * 3 + k * 3 + 1, none⟩ = some (.int .i64 v.word) := hcell 1 _ rfl
      have v2 : wr.cell? ⟨ag, lo * 3 + k * 3 + 2, none⟩ = some (.int .i64 v.call) := hcell 2 _ rfl
      have hix : ∀ W, (Instr.indexAt 64 (.slice sa sn sc) (.int .i64 k)).run Try.prog W = .ok (.pointer (some ⟨ag, lo * 3 + k * 3, none⟩)) W := fun W => by
        rw [hsa]
        have q1 : (k : Int) < (sn : Int) := by omega
        go_simp
      have q1 : (k : Int) < (sn : Int) := by omega
      have t1 : decide ((k : Int) < (sn : Int)) = true := by simpa using q1
      have HVV := Lib.hid hv
      obtain ⟨rn, hrn⟩ : ∃ rn, M.regs.length = rn := ⟨_, rfl⟩
      have HRN := Lib.hid hrn
      clear hcell hr8 hr7 hr6 hr5 hr4 haa hsa hv hrn
      go_wp2
      obtain ⟨wC, hwC⟩ : ∃ wC : World, wr.alloc (.cells #[.int .i64 v.reg, .int .i64 v.word, .int .i64 v.call] 86) = wC := ⟨_, rfl⟩
      have HM4 := Lib.hid (HM3.out.keep ((Below.refl _ wr).alloc (Nat.le_refl _) (.cells #[.int .i64 v.reg, .int .i64 v.word, .int .i64 v.call] 86)))
      have HV4 := Lib.hid (HV3.out.trans (Mov.of_below ((Below.refl _ wr).alloc (Nat.le_refl _) (.cells #[.int .i64 v.reg, .int .i64 v.word, .int .i64 v.call] 86))))
      have HX4 := Lib.hid ((Below.heap_alloc wr (.cells #[.int .i64 v.reg, .int .i64 v.word, .int .i64 v.call] 86) w.heap.size (lt_heap HX3.out)).trans HX3.out)
      obtain ⟨d0, d1, d2⟩ := nv3 (heap_alloc_new wr (.cells #[.int .i64 v.reg, .int .i64 v.word, .int .i64 v.call] 86))
      rw [hwC] at HM4 HV4 HX4 d0 d1 d2 ⊢
      clear hwC v0 v1 v2
      obtain ⟨c0, c1, c2, c3, c4, c5, c6, c7, c8, c9, c10, c11, c12, c13⟩ := HM4.out.cells
      have hl1 : (partM M ini c k).regs.length = M.regs.length := undoR_len _ _
      have hl2 : (partM M ini c k).sets.length = M.regs.length := (undoS_len _ _).trans HS.out
      rw [hl1] at c5
      rw [hl2] at c6
      obtain ⟨x0, x1⟩ := intsO_cell HM4.out.regs (gR_at (r := v.reg) hv0 (by rw [hl1]; exact hv1))
      obtain ⟨y0, y1⟩ := intsO_cell HM4.out.sets (gR_at (r := v.reg) hv0 (by rw [hl2]; exact hv1))
      obtain ⟨n1, n2, n3, n4, n5, n6⟩ := HM4.out.ne
      have i1 := HM3.out.hi.1
      have i2 := HM3.out.hi.2.1
      have i3 := HM3.out.hi.2.2.1
      have i5 := HM3.out.base
      have m1 : ¬ b.rb = b.sb := n4
      have m2 : ¬ b.sb = b.rb := fun e => n4 e.symm
      have m3 : ¬ b.mb = b.sb := n2
      have m4 : ¬ b.sb = b.mb := fun e => n2 e.symm
      have m5 : ¬ b.mb = b.rb := n1
      have m6 : ¬ b.rb = b.mb := fun e => n1 e.symm
      have m7 : ¬ wr.heap.size = b.rb := by omega
      have m8 : ¬ wr.heap.size = b.sb := by omega
      rw [HRN.out] at c5 c6 hv1
      obtain ⟨gx, hgx⟩ : ∃ gx, gR (partM M ini c k).regs v.reg.toNat = gx := ⟨_, rfl⟩
      obtain ⟨gy, hgy⟩ : ∃ gy, gR (partM M ini c k).sets v.reg.toNat = gy := ⟨_, rfl⟩
      rw [hgx] at x0
      rw [hgy] at y0
      clear hgx hgy n1 n2 n3 n4 n5 n6 c0 c1 c2 c3 c4 c7 c8 c9 c10 c11 c12 c13 hl1 hl2 i1 i2 i3 i5
      refine region_last (fun W : World => W.cell? ⟨b.mb, 4101, none⟩ = some (.slice (some ⟨b.rb, 0, none⟩) rn rn) ∧ W.cell? ⟨b.mb, 4102, none⟩ = some (.slice (some ⟨b.sb, 0, none⟩) rn rn) ∧ W.cell? ⟨wr.heap.size, 0, none⟩ = some (.int .i64 v.reg) ∧ W.cell? ⟨wr.heap.size, 1, none⟩ = some (.int .i64 v.word) ∧ W.cell? ⟨wr.heap.size, 2, none⟩ = some (.int .i64 v.call)) 1000000 hmix ?_
      have hS : (fun W : World => W.cell? ⟨b.mb, 4101, none⟩ = some (.slice (some ⟨b.rb, 0, none⟩) rn rn) ∧ W.cell? ⟨b.mb, 4102, none⟩ = some (.slice (some ⟨b.sb, 0, none⟩) rn rn) ∧ W.cell? ⟨wr.heap.size, 0, none⟩ = some (.int .i64 v.reg) ∧ W.cell? ⟨wr.heap.size, 1, none⟩ = some (.int .i64 v.word) ∧ W.cell? ⟨wr.heap.size, 2, none⟩ = some (.int .i64 v.call)) _ := ⟨c5, c6, d0, d1, d2⟩
      refine anyL_takeH (i := 0) (v := ?_) rfl (by decide) (by kernel_rfl) (by kernel_rfl) (by kernel_rfl) (fun _ _ _ h => h) (Or.inl ⟨by rfl, ?_⟩) hS ?_
      rotate_left
      · (intro w' hSw; obtain ⟨s1, s2, s3, s4, s5⟩ := hSw; go_simp; first | done | with_reducible rfl)
      simp only [Act.put, List.getElem_toArray, List.getElem_cons_succ, List.getElem_cons_zero, List.setIfInBounds_toArray, List.set_cons_succ, List.set_cons_zero]
      refine anyL_takeH (i := 1) (v := ?_) rfl (by decide) (by kernel_rfl) (by kernel_rfl) (by kernel_rfl) (fun _ _ _ h => h) (Or.inl ⟨by rfl, ?_⟩) hS ?_
      rotate_left
      · (intro w' hSw; obtain ⟨s1, s2, s3, s4, s5⟩ := hSw; go_simp; first | done | with_reducible rfl)
      simp only [Act.put, List.getElem_toArray, List.getElem_cons_succ, List.getElem_cons_zero, List.setIfInBounds_toArray, List.set_cons_succ, List.set_cons_zero]
      refine anyL_takeH (i := 2) (v := ?_) rfl (by decide) (by kernel_rfl) (by kernel_rfl) (by kernel_rfl) (fun _ _ _ h => h) (Or.inl ⟨by rfl, ?_⟩) hS ?_
      rotate_left
      · (intro w' hSw; obtain ⟨s1, s2, s3, s4, s5⟩ := hSw; go_simp; first | done | with_reducible rfl)
      simp only [Act.put, List.getElem_toArray, List.getElem_cons_succ, List.getElem_cons_zero, List.setIfInBounds_toArray, List.set_cons_succ, List.set_cons_zero]
      refine anyL_takeH (i := 3) (v := ?_) rfl (by decide) (by kernel_rfl) (by kernel_rfl) (by kernel_rfl) (fun _ _ _ h => h) (Or.inl ⟨by rfl, ?_⟩) hS ?_
      rotate_left
      · (intro w' hSw; obtain ⟨s1, s2, s3, s4, s5⟩ := hSw; go_simp; first | done | with_reducible rfl)
      simp only [Act.put, List.getElem_toArray, List.getElem_cons_succ, List.getElem_cons_zero, List.setIfInBounds_toArray, List.set_cons_succ, List.set_cons_zero]
      refine anyL_takeH (i := 4) (v := ?_) rfl (by decide) (by kernel_rfl) (by kernel_rfl) (by kernel_rfl) (fun _ _ _ h => h) (Or.inl ⟨by rfl, ?_⟩) hS ?_
      rotate_left
      · (intro w' hSw; obtain ⟨s1, s2, s3, s4, s5⟩ := hSw; go_simp; first | done | with_reducible rfl)
      simp only [Act.put, List.getElem_toArray, List.getElem_cons_succ, List.getElem_cons_zero, List.setIfInBounds_toArray, List.set_cons_succ, List.set_cons_zero]
      refine anyL_takeH (i := 5) (v := ?_) rfl (by decide) (by kernel_rfl) (by kernel_rfl) (by kernel_rfl) (fun _ _ _ h => h) (Or.inl ⟨by rfl, ?_⟩) hS ?_
      rotate_left
      · (intro w' hSw; obtain ⟨s1, s2, s3, s4, s5⟩ := hSw; go_simp; first | done | with_reducible rfl)
      simp only [Act.put, List.getElem_toArray, List.getElem_cons_succ, List.getElem_cons_zero, List.setIfInBounds_toArray, List.set_cons_succ, List.set_cons_zero]
      refine anyL_takeH (i := 6) (v := ?_) rfl (by decide) (by kernel_rfl) (by kernel_rfl) (by kernel_rfl) (fun _ _ _ h => h) (Or.inl ⟨by rfl, ?_⟩) hS ?_
      rotate_left
      · (intro w' hSw; obtain ⟨s1, s2, s3, s4, s5⟩ := hSw; go_simp; first | done | with_reducible rfl)
      simp only [Act.put, List.getElem_toArray, List.getElem_cons_succ, List.getElem_cons_zero, List.setIfInBounds_toArray, List.set_cons_succ, List.set_cons_zero]
      refine anyL_takeH (i := 7) (v := ?_) rfl (by decide) (by kernel_rfl) (by kernel_rfl) (by kernel_rfl) (fun _ _ _ h => h) (Or.inl ⟨by rfl, ?_⟩) hS ?_
      rotate_left
      · (intro w' hSw; obtain ⟨s1, s2, s3, s4, s5⟩ := hSw; go_simp; first | done | with_reducible rfl)
      simp only [Act.put, List.getElem_toArray, List.getElem_cons_succ, List.getElem_cons_zero, List.setIfInBounds_toArray, List.set_cons_succ, List.set_cons_zero]
      refine anyL_takeH (i := 8) (v := ?_) rfl (by decide) (by kernel_rfl) (by kernel_rfl) (by kernel_rfl) (fun _ _ _ h => h) (Or.inl ⟨by rfl, ?_⟩) hS ?_
      rotate_left
      · (intro w' hSw; obtain ⟨s1, s2, s3, s4, s5⟩ := hSw; go_simp; first | done | with_reducible rfl)
      simp only [Act.put, List.getElem_toArray, List.getElem_cons_succ, List.getElem_cons_zero, List.setIfInBounds_toArray, List.set_cons_succ, List.set_cons_zero]
      refine anyL_takeH (i := 9) (v := ?_) rfl (by decide) (by kernel_rfl) (by kernel_rfl) (by kernel_rfl) (fun _ _ _ h => h) (Or.inl ⟨by rfl, ?_⟩) hS ?_
      rotate_left
      · (intro w' hSw; obtain ⟨s1, s2, s3, s4, s5⟩ := hSw; go_simp; first | done | with_reducible rfl)
      simp only [Act.put, List.getElem_toArray, List.getElem_cons_succ, List.getElem_cons_zero, List.setIfInBounds_toArray, List.set_cons_succ, List.set_cons_zero]
      refine anyL_takeH (i := 10) (v := ?_) rfl (by decide) (by kernel_rfl) (by kernel_rfl) (by kernel_rfl) (fun _ _ _ h => h) (Or.inl ⟨by rfl, ?_⟩) hS ?_
      rotate_left
      · (intro w' hSw; obtain ⟨s1, s2, s3, s4, s5⟩ := hSw; go_simp; first | done | with_reducible rfl)
      simp only [Act.put, List.getElem_toArray, List.getElem_cons_succ, List.getElem_cons_zero, List.setIfInBounds_toArray, List.set_cons_succ, List.set_cons_zero]
      refine anyL_takeH (i := 11) (v := ?_) rfl (by decide) (by kernel_rfl) (by kernel_rfl) (by kernel_rfl) (fun _ _ _ h => h) (Or.inl ⟨by rfl, ?_⟩) hS ?_
      rotate_left
      · (intro w' hSw; obtain ⟨s1, s2, s3, s4, s5⟩ := hSw; go_simp; first | done | with_reducible rfl)
      simp only [Act.put, List.getElem_toArray, List.getElem_cons_succ, List.getElem_cons_zero, List.setIfInBounds_toArray, List.set_cons_succ, List.set_cons_zero]
      refine anyL_takeH (i := 12) (v := ?_) rfl (by decide) (by kernel_rfl) (by kernel_rfl) (by kernel_rfl) (fun _ _ _ h => h) (Or.inl ⟨by rfl, ?_⟩) hS ?_
      rotate_left
      · (intro w' hSw; obtain ⟨s1, s2, s3, s4, s5⟩ := hSw; go_simp; first | done | with_reducible rfl)
      simp only [Act.put, List.getElem_toArray, List.getElem_cons_succ, List.getElem_cons_zero, List.setIfInBounds_toArray, List.set_cons_succ, List.set_cons_zero]
      refine anyL_takeH (i := 13) (v := ?_) rfl (by decide) (by kernel_rfl) (by kernel_rfl) (by kernel_rfl) (fun _ _ _ h => h) (Or.inl ⟨by rfl, ?_⟩) hS ?_
      rotate_left
      · (intro w' hSw; obtain ⟨s1, s2, s3, s4, s5⟩ := hSw; go_simp; first | done | with_reducible rfl)
      simp only [Act.put, List.getElem_toArray, List.getElem_cons_succ, List.getElem_cons_zero, List.setIfInBounds_toArray, List.set_cons_succ, List.set_cons_zero]
      refine anyL_takeH (i := 14) (v := ?_) rfl (by decide) (by kernel_rfl) (by kernel_rfl) (by kernel_rfl) (fun _ _ _ h => h) (Or.inl ⟨by rfl, ?_⟩) hS ?_
      rotate_left
      · (intro w' hSw; obtain ⟨s1, s2, s3, s4, s5⟩ := hSw; go_simp; first | done | with_reducible rfl)
      simp only [Act.put, List.getElem_toArray, List.getElem_cons_succ, List.getElem_cons_zero, List.setIfInBounds_toArray, List.set_cons_succ, List.set_cons_zero]
      refine anyL_takeH (i := 15) (v := ?_) rfl (by decide) (by kernel_rfl) (by kernel_rfl) (by kernel_rfl) (fun _ _ _ h => h) (Or.inl ⟨by rfl, ?_⟩) hS ?_
      rotate_left
      · (intro w' hSw; obtain ⟨s1, s2, s3, s4, s5⟩ := hSw; go_simp; first | done | with_reducible rfl)
      simp only [Act.put, List.getElem_toArray, List.getElem_cons_succ, List.getElem_cons_zero, List.setIfInBounds_toArray, List.set_cons_succ, List.set_cons_zero]
      refine anyL_takeH (i := 16) (v := ?_) rfl (by decide) (by kernel_rfl) (by kernel_rfl) (by kernel_rfl) (fun _ _ _ h => h) (Or.inl ⟨by rfl, ?_⟩) hS ?_
      rotate_left
      · (intro w' hSw; obtain ⟨s1, s2, s3, s4, s5⟩ := hSw; go_simp; first | done | with_reducible rfl)
      simp only [Act.put, List.getElem_toArray, List.getElem_cons_succ, List.getElem_cons_zero, List.setIfInBounds_toArray, List.set_cons_succ, List.set_cons_zero]
      refine anyL_one (i := 17) (by kernel_rfl) rfl (fun K1 hK1 => ?_)
      go_simp
      have hS7 : (fun W : World => W.cell? ⟨b.mb, 4101, none⟩ = some (.slice (some ⟨b.rb, 0, none⟩) rn rn) ∧ W.cell? ⟨b.mb, 4102, none⟩ = some (.slice (some ⟨b.sb, 0, none⟩) rn rn) ∧ W.cell? ⟨wr.heap.size, 0, none⟩ = some (.int .i64 v.reg) ∧ W.cell? ⟨wr.heap.size, 1, none⟩ = some (.int .i64 v.word) ∧ W.cell? ⟨wr.heap.size, 2, none⟩ = some (.int .i64 v.call)) (wC.setCell ⟨b.rb, v.reg.toNat, none⟩ (.int .i64 v.word)).drew := ⟨(cell_blk7 (heap_other7 m5) _).trans c5, (cell_blk7 (heap_other7 m5) _).trans c6, (cell_blk7 (heap_other7 m7) _).trans d0, (cell_blk7 (heap_other7 m7) _).trans d1, (cell_blk7 (heap_other7 m7) _).trans d2⟩
      refine hK1.out _ _ (fun _ => hS7) ?_
      clear hK1 K1 hS
      have hS := hS7; clear hS7
      refine anyL_takeH (i := 18) (v := ?_) rfl (by decide) (by kernel_rfl) (by kernel_rfl) (by kernel_rfl) (fun _ _ _ h => h) (Or.inl ⟨by rfl, ?_⟩) hS ?_
      rotate_left
      · (intro w' hSw; obtain ⟨s1, s2, s3, s4, s5⟩ := hSw; go_simp; first | done | with_reducible rfl)
      simp only [Act.put, List.getElem_toArray, List.getElem_cons_succ, List.getElem_cons_zero, List.setIfInBounds_toArray, List.set_cons_succ, List.set_cons_zero]
      refine anyL_one (i := 19) (by kernel_rfl) rfl (fun K1 hK1 => ?_)
      go_simp
      have hS8 : (fun W : World => W.cell? ⟨b.mb, 4101, none⟩ = some (.slice (some ⟨b.rb, 0, none⟩) rn rn) ∧ W.cell? ⟨b.mb, 4102, none⟩ = some (.slice (some ⟨b.sb, 0, none⟩) rn rn) ∧ W.cell? ⟨wr.heap.size, 0, none⟩ = some (.int .i64 v.reg) ∧ W.cell? ⟨wr.heap.size, 1, none⟩ = some (.int .i64 v.word) ∧ W.cell? ⟨wr.heap.size, 2, none⟩ = some (.int .i64 v.call)) ((wC.setCell ⟨b.rb, v.reg.toNat, none⟩ (.int .i64 v.word)).setCell ⟨b.sb, v.reg.toNat, none⟩ (.int .i64 v.call)).drew := ⟨(cell_blk7 (heap_other7 m3) _).trans hS.1, (cell_blk7 (heap_other7 m3) _).trans hS.2.1, (cell_blk7 (heap_other7 m8) _).trans hS.2.2.1, (cell_blk7 (heap_other7 m8) _).trans hS.2.2.2.1, (cell_blk7 (heap_other7 m8) _).trans hS.2.2.2.2⟩
      refine hK1.out _ _ (fun _ => hS8) ?_
      clear hK1 K1 hS hS8 c5 c6 d0 d1 d2 x0 x1 y0 y1
      refine anyL_done (by kernel_rfl) ?_ _
      have HD := Lib.hid (((HM4.out.setReg v.reg.toNat v.word).setSet v.reg.toNat v.call).keep ((Below.refl _ _).drew))
      have HDV := Lib.hid (((HV4.out.trans (Mov.cell b _ _ (.inr (.inl rfl)) v.reg.toNat (.int .i64 v.word))).trans (Mov.cell b _ _ (.inr (.inr rfl)) v.reg.toNat (.int .i64 v.call))).trans (Mov.of_below ((Below.refl _ _).drew)))
      have hxr : ¬ w.heap.size = b.rb := by have := H.out.hi.2.1; have := H.out.base; omega
      have hxs : ¬ w.heap.size = b.sb := by have := H.out.hi.2.2.1; have := H.out.base; omega
      have HDX : Hid ((((wC.setCell ⟨b.rb, v.reg.toNat, none⟩ (.int .i64 v.word)).setCell ⟨b.sb, v.reg.toNat, none⟩ (.int .i64 v.call)).drew).heap[w.heap.size]? = some (cO rr c)) := Lib.hid ((heap_other7 hxs).trans ((heap_other7 hxr).trans HX4.out))
      have HPN : Hid ({ (partM M ini c k) with regs := (partM M ini c k).regs.set v.reg.toNat v.word, sets := (partM M ini c k).sets.set v.reg.toNat v.call } = partM M ini c (k + 1)) := Lib.hid (by
        have hd : (M.aside.drop c.aside)[k]? = some v := by rw [List.getElem?_drop, HLO.out]; exact HVV.out
        unfold partM
        rw [List.take_add_one, hd]
        simp only [Option.toList_some, undoR_snoc, undoS_snoc])
      have HD2 : Hid (MacAt w0 ((wC.setCell ⟨b.rb, v.reg.toNat, none⟩ (.int .i64 v.word)).setCell ⟨b.sb, v.reg.toNat, none⟩ (.int .i64 v.call)).drew U N b (partM M ini c (k + 1)) VB) := Lib.hid (by rw [← HPN.out]; exact HD.out)
      clear HD
      go_wp2
      go_roundw
      case rel => first | exact ⟨k + 1, by omega, by go_num, HD2, HDV, HDX⟩ | exact ⟨k + 1, by omega, by go_num, HD2⟩ | exact ⟨k + 1, by omega, by go_num⟩
      case measure => simp [intOf]; omega
    · obtain rfl : k = sn := by omega
      have t1 : decide ((k : Int) < (k : Int)) = false := by simp
      obtain ⟨c0, c1, c2, c3, c4, c5, c6, c7, c8, c9, c10, c11, c12, c13⟩ := HM3.out.cells
      rw [HVA2.out] at c7
      obtain ⟨b0, b1, b2, b3, b4⟩ := nv5 HX3.out
      rw [HLO.out] at b4
      have f3 := HM3.out.fz 4103
      clear c0 c1 c2 c3 c4 c5 c6 c8 c9 c10 c11 c12 c13 b0 b1 b2
      have hlen : (M.aside.drop c.aside).length = k := by rw [List.length_drop, HLO.out, HAN.out, HSN.out]
      have HBK : Hid ({ (partM M ini c k) with aside := (partM M ini c k).aside.take lo } = backM M ini c) := Lib.hid (by
        unfold partM backM
        rw [List.take_of_length_le (by omega), HLO.out])
      clear hlen
      go_wp2
      refine region_last (fun W : World => W.cell? ⟨b.mb, 4103, none⟩ = some (.slice aa an ac) ∧ W.cell? ⟨w.heap.size, 4, none⟩ = some (.int .i64 lo) ∧ W.frozen? ⟨b.mb, 4103, none⟩ = false) 10 hmix ?_
      have hS : (fun W : World => W.cell? ⟨b.mb, 4103, none⟩ = some (.slice aa an ac) ∧ W.cell? ⟨w.heap.size, 4, none⟩ = some (.int .i64 lo) ∧ W.frozen? ⟨b.mb, 4103, none⟩ = false) wr.drew := ⟨c7, b4, f3⟩
      refine anyL_take (i := 0) (v := ?_) rfl rfl (by kernel_rfl) (by kernel_rfl) (by kernel_rfl) (by kernel_rfl) (fun _ _ _ h => h) (Or.inl ⟨by rfl, ?_⟩) hS ?_
      rotate_left
      · (intro w' hSw; obtain ⟨s1, s2, s3⟩ := hSw; go_simp; first | done | with_reducible rfl)
      simp only [Act.put, List.getElem_toArray, List.getElem_cons_succ, List.getElem_cons_zero, List.setIfInBounds_toArray, List.set_cons_succ, List.set_cons_zero]
      refine anyL_take (i := 1) (v := ?_) rfl rfl (by kernel_rfl) (by kernel_rfl) (by kernel_rfl) (by kernel_rfl) (fun _ _ _ h => h) (Or.inl ⟨by rfl, ?_⟩) hS ?_
      rotate_left
      · (intro w' hSw; obtain ⟨s1, s2, s3⟩ := hSw; go_simp; first | done | with_reducible rfl)
      simp only [Act.put, List.getElem_toArray, List.getElem_cons_succ, List.getElem_cons_zero, List.setIfInBounds_toArray, List.set_cons_succ, List.set_cons_zero]
      refine anyL_take (i := 2) (v := ?_) rfl rfl (by kernel_rfl) (by kernel_rfl) (by kernel_rfl) (by kernel_rfl) (fun _ _ _ h => h) (Or.inl ⟨by rfl, ?_⟩) hS ?_
      rotate_left
      · (intro w' hSw; obtain ⟨s1, s2, s3⟩ := hSw; go_simp; first | done | with_reducible rfl)
      simp only [Act.put, List.getElem_toArray, List.getElem_cons_succ, List.getElem_cons_zero, List.setIfInBounds_toArray, List.set_cons_succ, List.set_cons_zero]
      refine anyL_take (i := 3) (v := ?_) rfl rfl (by kernel_rfl) (by kernel_rfl) (by kernel_rfl) (by kernel_rfl) (fun _ _ _ h => h) (Or.inl ⟨by rfl, ?_⟩) hS ?_
      rotate_left
      · (intro w' hSw; obtain ⟨s1, s2, s3⟩ := hSw; go_simp; first | done | with_reducible rfl)
      simp only [Act.put, List.getElem_toArray, List.getElem_cons_succ, List.getElem_cons_zero, List.setIfInBounds_toArray, List.set_cons_succ, List.set_cons_zero]
      refine anyL_take (i := 4) (v := ?_) rfl rfl (by kernel_rfl) (by kernel_rfl) (by kernel_rfl) (by kernel_rfl) (fun _ _ _ h => h) (Or.inl ⟨by rfl, ?_⟩) hS ?_
      rotate_left
      · (intro w' hSw; obtain ⟨s1, s2, s3⟩ := hSw; go_simp; first | done | with_reducible rfl)
      simp only [Act.put, List.getElem_toArray, List.getElem_cons_succ, List.getElem_cons_zero, List.setIfInBounds_toArray, List.set_cons_succ, List.set_cons_zero]
      refine anyL_take (i := 5) (v := ?_) rfl rfl (by kernel_rfl) (by kernel_rfl) (by kernel_rfl) (by kernel_rfl) (fun _ _ _ h => h) (Or.inl ⟨by rfl, ?_⟩) hS ?_
      rotate_left
      · (intro w' hSw; obtain ⟨s1, s2, s3⟩ := hSw; go_simp; first | done | with_reducible rfl)
      simp only [Act.put, List.getElem_toArray, List.getElem_cons_succ, List.getElem_cons_zero, List.setIfInBounds_toArray, List.set_cons_succ, List.set_cons_zero]
      refine anyL_take (i := 6) (v := ?_) rfl rfl (by kernel_rfl) (by kernel_rfl) (by kernel_rfl) (by kernel_rfl) (fun _ _ _ h => h) (Or.inl ⟨by rfl, ?_⟩) hS ?_
      rotate_left
      · (intro w' hSw; obtain ⟨s1, s2, s3⟩ := hSw; go_simp; first | done | with_reducible rfl)
      simp only [Act.put, List.getElem_toArray, List.getElem_cons_succ, List.getElem_cons_zero, List.setIfInBounds_toArray, List.set_cons_succ, List.set_cons_zero]
      refine anyL_take (i := 7) (v := ?_) rfl rfl (by kernel_rfl) (by kernel_rfl) (by kernel_rfl) (by kernel_rfl) (fun _ _ _ h => h) (Or.inl ⟨by rfl, ?_⟩) hS ?_
      rotate_left
      · (intro w' hSw; obtain ⟨s1, s2, s3⟩ := hSw; go_simp; first | done | with_reducible rfl)
      simp only [Act.put, List.getElem_toArray, List.getElem_cons_succ, List.getElem_cons_zero, List.setIfInBounds_toArray, List.set_cons_succ, List.set_cons_zero]
      refine anyL_one (i := 8) (by kernel_rfl) rfl (fun K1 hK1 => ?_)
      go_simp
      refine hK1.out _ _ (fun _ => hS) ?_
      clear hK1 K1
      refine anyL_one (i := 9) (by kernel_rfl) rfl (fun K1 hK1 => ?_)
      go_simp
      refine hK1.out _ _ (fun _ => hS) ?_
      clear hK1 K1
      obtain ⟨s1, s2, s3⟩ := hS
      refine anyL_one (i := 10) (by kernel_rfl) rfl (fun K1 hK1 => ?_)
      go_simp
      refine hK1.out _ _ (fun h => absurd rfl h) ?_
      clear hK1 K1 s1 s2 s3 c7 b4 f3 b3
      refine anyL_done (by kernel_rfl) ?_ _
      obtain ⟨h1, h2⟩ := (HM3.out.keep ((Below.refl _ wr).drew)).cutA HVA2.out (k := lo) (by show lo ≤ M.aside.length; rw [HAN.out]; exact hlo)
      have HE : Hid (MacAt w0 (wr.drew.setCell ⟨b.mb, 4103, none⟩ (.slice aa lo ac)) U N b (backM M ini c) { VB with va := .slice aa lo ac }) := Lib.hid (by rw [← HBK.out]; exact h1)
      have HEV := Lib.hid ((HV3.out.trans (Mov.of_below ((Below.refl _ wr).drew))).trans h2)
      have hxm : ¬ w.heap.size = b.mb := by have := H.out.hi.1; have := H.out.base; omega
      have HEX : Hid ((wr.drew.setCell ⟨b.mb, 4103, none⟩ (.slice aa lo ac)).heap[w.heap.size]? = some (cO rr c)) := Lib.hid ((heap_other7 hxm).trans HX3.out)
      obtain ⟨wE, hwE⟩ : ∃ wE : World, (wr.setCell ⟨b.mb, 4103, none⟩ (.slice aa lo ac)).drew = wE := ⟨_, rfl⟩
      rw [show (wr.drew.setCell ⟨b.mb, 4103, none⟩ (.slice aa lo ac)) = wE from hwE] at HE HEV HEX
      rw [hwE]
      obtain ⟨_, _, _, b3, _⟩ := nv5 HEX.out
      clear h1 h2 hwE
      by_cases hm0 : m = 0
      · have tm : ((m : Int) == 0) = true := by simpa using hm0
        have HEQ : Hid (leaveM M ini c res = { backM M ini c with fin := 1, code := res }) := Lib.hid (by unfold leaveM; rw [if_pos (HM.out.trans hm0)])
        clear hm0
        go_wp2_with ((with_reducible refine (finish_any HE.out 1 res).mono ?_); rintro e v ⟨rfl, V2, hm2, hv2⟩; have HM5 := Lib.hid hm2; have HV5 := Lib.hid (HEV.out.trans hv2); clear hm2 hv2)
        go_end0
        exact ⟨rfl, V2, by rw [HEQ.out]; exact HM5.out, HV5.out⟩
      · have tm : ((m : Int) == 0) = false := by simp; omega
        have HM0 : Hid (¬ ini.length = 0) := Lib.hid (by rw [HM.out]; exact hm0)
        clear hm0
        by_cases hd : c.dst = -1
        · have td : (c.dst != (-1 : Int)) = false := by simpa using hd
          have HEQ : Hid (leaveM M ini c res = backM M ini c) := Lib.hid (by unfold leaveM; rw [if_neg HM0.out, if_neg (by simpa using hd)])
          clear hd hdst
          go_wp2
          go_end0
          exact ⟨rfl, _, by rw [HEQ.out]; exact HE.out, HEV.out⟩
        · have td : (c.dst != (-1 : Int)) = true := by simpa using hd
          have HEQ : Hid (leaveM M ini c res = mset (backM M ini c) c.dst res) := Lib.hid (by unfold leaveM; rw [if_neg HM0.out, if_pos hd])
          obtain ⟨hd0, hd1⟩ := hdst.resolve_left hd
          have e3 : (backM M ini c).regs.length = M.regs.length := undoR_len _ _
          have e4 : (backM M ini c).sets.length = M.regs.length := (undoS_len _ _).trans HS.out
          have HE5 : Hid ((backM M ini c).calls.length ≤ 1000001) := Lib.hid (by show ini.length ≤ 1000001; rw [HM.out]; omega)
          have HE6 : Hid ((backM M ini c).aside.length ≤ 10000000) := Lib.hid (by show (M.aside.take c.aside).length ≤ 10000000; have := HAN.out; rw [List.length_take]; omega)
          have HE3 := Lib.hid e3; have HE4 := Lib.hid e4; have HD1 := Lib.hid hd1
          clear hd hdst e3 e4 hd1
          go_wp2_with ((with_reducible refine (set_any HE.out c.dst res hd0 (by rw [HE3.out]; exact HD1.out) (by rw [HE4.out, HE3.out]) HE5.out HE6.out).mono ?_); rintro e v ⟨rfl, V2, hm2, hv2⟩; have HM5 := Lib.hid hm2; have HV5 := Lib.hid (HEV.out.trans hv2); clear hm2 hv2)
          go_end0
          exact ⟨rfl, V2, by rw [HEQ.out]; exact HM5.out, HV5.out⟩
end Go.Proofs.Ytmcpfjhdeplgmaa
namespace Go.Proofs.Ytmcpfjhdeplgmaa
open Go.RowKit Cd Go.Maps
set_option linter.unusedVariables false
set_option linter.unusedSimpArgs false
variable {w0 w w' : World} {U : UnR} {N : Nat} {b : Blk} {M : Mac} {V : MV}
/-- An instruction in memory. -/
structure InsAt (w0 : World) (i : Ins) (cb co : Nat) : Prop where
  lt : cb < w0.heap.size
  at_ : ∀ (j : Nat) (u : Value), (inCells i)[j]? = some u → w0.cell? ⟨cb, co + j, none⟩ = some u
theorem MacAt.ins (h : MacAt w0 w U N b M V) {i : Ins} {cb co : Nat} (hi : InsAt w0 i cb co) (j : Nat) (u : Value) (hu : (inCells i)[j]? = some u) : w.cell? ⟨cb, co + j, none⟩ = some u :=
  (h.below.cell (p := ⟨cb, co + j, none⟩) hi.lt).trans (hi.at_ j u hu)
theorem get_v (h : MacAt w0 w U N b M V) (r x : Int) (hx : mget M r = x) (h0 : 0 ≤ r) (h1 : r < M.regs.length) (hs : M.sets.length = M.regs.length) (hcl : M.calls.length ≤ 1000001) : Calls Try.prog 49 #[mP b, .int .i64 r] w (RPost (.int .i64 x) w) := hx ▸ get_any h r h0 h1 hs hcl
def operateM (M : Mac) (i : Ins) : Mac := if doB i.op (mget M i.b) = true then mset M i.dst (doV i.op (mget M i.a) (mget M i.b)) else { M with fin := 2, code := 2 }
/-- What a step wants of its registers. -/
structure StIn (M : Mac) (i : Ins) : Prop where
  a : 0 ≤ i.a ∧ i.a < M.regs.length
  b : 0 ≤ i.b ∧ i.b < M.regs.length
  d : 0 ≤ i.dst ∧ i.dst < M.regs.length
  s : M.sets.length = M.regs.length
  c : M.calls.length ≤ 1000001
  l : M.aside.length ≤ 10000000
/-- The same, of one that sets nothing. -/
structure StA (M : Mac) (i : Ins) : Prop where
  a : 0 ≤ i.a ∧ i.a < M.regs.length
  b : 0 ≤ i.b ∧ i.b < M.regs.length
  s : M.sets.length = M.regs.length
  c : M.calls.length ≤ 1000001
  l : M.aside.length ≤ 10000000
theorem StIn.toA {M : Mac} {i : Ins} (h : StIn M i) : StA M i := ⟨h.a, h.b, h.s, h.c, h.l⟩
set_option maxRecDepth 100000 in
set_option maxHeartbeats 8000000 in
theorem operate_any (h : MacAt w0 w U N b M V) (i : Ins) (cb co : Nat) (hi : InsAt w0 i cb co) (hst : StIn M i) :
    Calls Try.prog 48 #[mP b, .pointer (some ⟨cb, co, none⟩)] w (MPost w0 U N b w V (operateM M i) (.tuple #[])) := by
  have hmix : Try.prog.follows .mixedOrders = true := by kernel_rfl
  have HI := Lib.hid hi; have HSL := Lib.hid hst.s; have HCL := Lib.hid hst.c; have HAL := Lib.hid hst.l; have HLa := Lib.hid hst.a; have HLb := Lib.hid hst.b; have HLd := Lib.hid hst.d
  have H := Lib.hid h
  obtain ⟨x, hx⟩ : ∃ x, mget M i.a = x := ⟨_, rfl⟩
  obtain ⟨y, hy⟩ : ∃ y, mget M i.b = y := ⟨_, rfl⟩
  obtain ⟨B, hB⟩ : ∃ B, doB i.op y = B := ⟨_, rfl⟩
  have HR : Hid (operateM M i = if B = true then mset M i.dst (doV i.op x y) else { M with fin := 2, code := 2 }) := Lib.hid (by unfold operateM; rw [hx, hy, hB])
  have HGa := Lib.hid hx; have HGb := Lib.hid hy; have HBB := Lib.hid hB
  clear hx hy hB hi hst h
  go_enter Try.func48, Try.ntmps48
  go_wp2
  refine region_last (fun W : World => MacAt w0 W U N b M V ∧ Below w.heap.size w W) 1000000 hmix ?_
  have hS : (fun W : World => MacAt w0 W U N b M V ∧ Below w.heap.size w W) w.drew := ⟨H.out.keep ((Below.refl _ w).drew), (Below.refl _ w).drew⟩
  refine anyL_takeH (i := 0) (v := ?_) rfl (by decide) (by kernel_rfl) (by kernel_rfl) (by kernel_rfl) (fun _ _ _ h => h) (Or.inl ⟨by rfl, ?_⟩) hS ?_
  rotate_left
  · (intro w' hSw; have s0 : w'.cell? ⟨cb, co, none⟩ = some (.int .i64 i.kind) := hSw.1.ins HI.out 0 _ rfl; have s1 : w'.cell? ⟨cb, co + 1, none⟩ = some (.int .i64 i.op) := hSw.1.ins HI.out 1 _ rfl; have s2 : w'.cell? ⟨cb, co + 2, none⟩ = some (.int .i64 i.dst) := hSw.1.ins HI.out 2 _ rfl; have s3 : w'.cell? ⟨cb, co + 3, none⟩ = some (.int .i64 i.a) := hSw.1.ins HI.out 3 _ rfl; have s4 : w'.cell? ⟨cb, co + 4, none⟩ = some (.int .i64 i.b) := hSw.1.ins HI.out 4 _ rfl; clear hSw; go_simp; first | done | with_reducible rfl)
  simp only [Act.put, List.getElem_toArray, List.getElem_cons_succ, List.getElem_cons_zero, List.setIfInBounds_toArray, List.set_cons_succ, List.set_cons_zero]
  refine anyL_takeH (i := 1) (v := ?_) rfl (by decide) (by kernel_rfl) (by kernel_rfl) (by kernel_rfl) (fun _ _ _ h => h) (Or.inl ⟨by rfl, ?_⟩) hS ?_
  rotate_left
  · (intro w' hSw; have s0 : w'.cell? ⟨cb, co, none⟩ = some (.int .i64 i.kind) := hSw.1.ins HI.out 0 _ rfl; have s1 : w'.cell? ⟨cb, co + 1, none⟩ = some (.int .i64 i.op) := hSw.1.ins HI.out 1 _ rfl; have s2 : w'.cell? ⟨cb, co + 2, none⟩ = some (.int .i64 i.dst) := hSw.1.ins HI.out 2 _ rfl; have s3 : w'.cell? ⟨cb, co + 3, none⟩ = some (.int .i64 i.a) := hSw.1.ins HI.out 3 _ rfl; have s4 : w'.cell? ⟨cb, co + 4, none⟩ = some (.int .i64 i.b) := hSw.1.ins HI.out 4 _ rfl; clear hSw; go_simp; first | done | with_reducible rfl)
  simp only [Act.put, List.getElem_toArray, List.getElem_cons_succ, List.getElem_cons_zero, List.setIfInBounds_toArray, List.set_cons_succ, List.set_cons_zero]
  refine anyL_takeH (i := 2) (v := ?_) rfl (by decide) (by kernel_rfl) (by kernel_rfl) (by kernel_rfl) (fun _ _ _ h => h) (Or.inl ⟨by rfl, ?_⟩) hS ?_
  rotate_left
  · (intro w' hSw; have s0 : w'.cell? ⟨cb, co, none⟩ = some (.int .i64 i.kind) := hSw.1.ins HI.out 0 _ rfl; have s1 : w'.cell? ⟨cb, co + 1, none⟩ = some (.int .i64 i.op) := hSw.1.ins HI.out 1 _ rfl; have s2 : w'.cell? ⟨cb, co + 2, none⟩ = some (.int .i64 i.dst) := hSw.1.ins HI.out 2 _ rfl; have s3 : w'.cell? ⟨cb, co + 3, none⟩ = some (.int .i64 i.a) := hSw.1.ins HI.out 3 _ rfl; have s4 : w'.cell? ⟨cb, co + 4, none⟩ = some (.int .i64 i.b) := hSw.1.ins HI.out 4 _ rfl; clear hSw; go_simp; first | done | with_reducible rfl)
  simp only [Act.put, List.getElem_toArray, List.getElem_cons_succ, List.getElem_cons_zero, List.setIfInBounds_toArray, List.set_cons_succ, List.set_cons_zero]
  refine anyL_takeH (i := 3) (v := ?_) rfl (by decide) (by kernel_rfl) (by kernel_rfl) (by kernel_rfl) (fun _ _ _ h => h) (Or.inl ⟨by rfl, ?_⟩) hS ?_
  rotate_left
  · (intro w' hSw; have s0 : w'.cell? ⟨cb, co, none⟩ = some (.int .i64 i.kind) := hSw.1.ins HI.out 0 _ rfl; have s1 : w'.cell? ⟨cb, co + 1, none⟩ = some (.int .i64 i.op) := hSw.1.ins HI.out 1 _ rfl; have s2 : w'.cell? ⟨cb, co + 2, none⟩ = some (.int .i64 i.dst) := hSw.1.ins HI.out 2 _ rfl; have s3 : w'.cell? ⟨cb, co + 3, none⟩ = some (.int .i64 i.a) := hSw.1.ins HI.out 3 _ rfl; have s4 : w'.cell? ⟨cb, co + 4, none⟩ = some (.int .i64 i.b) := hSw.1.ins HI.out 4 _ rfl; clear hSw; go_simp; first | done | with_reducible rfl)
  simp only [Act.put, List.getElem_toArray, List.getElem_cons_succ, List.getElem_cons_zero, List.setIfInBounds_toArray, List.set_cons_succ, List.set_cons_zero]
  refine anyL_takeH (i := 4) (v := ?_) rfl (by decide) (by kernel_rfl) (by kernel_rfl) (by kernel_rfl) (fun _ _ _ h => h) (Or.inl ⟨by rfl, ?_⟩) hS ?_
  rotate_left
  · (intro w' hSw; have s0 : w'.cell? ⟨cb, co, none⟩ = some (.int .i64 i.kind) := hSw.1.ins HI.out 0 _ rfl; have s1 : w'.cell? ⟨cb, co + 1, none⟩ = some (.int .i64 i.op) := hSw.1.ins HI.out 1 _ rfl; have s2 : w'.cell? ⟨cb, co + 2, none⟩ = some (.int .i64 i.dst) := hSw.1.ins HI.out 2 _ rfl; have s3 : w'.cell? ⟨cb, co + 3, none⟩ = some (.int .i64 i.a) := hSw.1.ins HI.out 3 _ rfl; have s4 : w'.cell? ⟨cb, co + 4, none⟩ = some (.int .i64 i.b) := hSw.1.ins HI.out 4 _ rfl; clear hSw; go_simp; first | done | with_reducible rfl)
  simp only [Act.put, List.getElem_toArray, List.getElem_cons_succ, List.getElem_cons_zero, List.setIfInBounds_toArray, List.set_cons_succ, List.set_cons_zero]
  refine anyL_takeH (i := 5) (v := ?_) rfl (by decide) (by kernel_rfl) (by kernel_rfl) (by kernel_rfl) (fun _ _ _ h => h) (Or.inl ⟨by rfl, ?_⟩) hS ?_
  rotate_left
  · (intro w' hSw; have s0 : w'.cell? ⟨cb, co, none⟩ = some (.int .i64 i.kind) := hSw.1.ins HI.out 0 _ rfl; have s1 : w'.cell? ⟨cb, co + 1, none⟩ = some (.int .i64 i.op) := hSw.1.ins HI.out 1 _ rfl; have s2 : w'.cell? ⟨cb, co + 2, none⟩ = some (.int .i64 i.dst) := hSw.1.ins HI.out 2 _ rfl; have s3 : w'.cell? ⟨cb, co + 3, none⟩ = some (.int .i64 i.a) := hSw.1.ins HI.out 3 _ rfl; have s4 : w'.cell? ⟨cb, co + 4, none⟩ = some (.int .i64 i.b) := hSw.1.ins HI.out 4 _ rfl; clear hSw; go_simp; first | done | with_reducible rfl)
  simp only [Act.put, List.getElem_toArray, List.getElem_cons_succ, List.getElem_cons_zero, List.setIfInBounds_toArray, List.set_cons_succ, List.set_cons_zero]
  refine anyL_takeH (i := 6) (v := ?_) rfl (by decide) (by kernel_rfl) (by kernel_rfl) (by kernel_rfl) (fun _ _ _ h => h) (Or.inl ⟨by rfl, ?_⟩) hS ?_
  rotate_left
  · (intro w' hSw; have s0 : w'.cell? ⟨cb, co, none⟩ = some (.int .i64 i.kind) := hSw.1.ins HI.out 0 _ rfl; have s1 : w'.cell? ⟨cb, co + 1, none⟩ = some (.int .i64 i.op) := hSw.1.ins HI.out 1 _ rfl; have s2 : w'.cell? ⟨cb, co + 2, none⟩ = some (.int .i64 i.dst) := hSw.1.ins HI.out 2 _ rfl; have s3 : w'.cell? ⟨cb, co + 3, none⟩ = some (.int .i64 i.a) := hSw.1.ins HI.out 3 _ rfl; have s4 : w'.cell? ⟨cb, co + 4, none⟩ = some (.int .i64 i.b) := hSw.1.ins HI.out 4 _ rfl; clear hSw; go_simp; first | done | with_reducible rfl)
  simp only [Act.put, List.getElem_toArray, List.getElem_cons_succ, List.getElem_cons_zero, List.setIfInBounds_toArray, List.set_cons_succ, List.set_cons_zero]
  refine anyL_takeH (i := 7) (v := ?_) rfl (by decide) (by kernel_rfl) (by kernel_rfl) (by kernel_rfl) (fun _ _ _ h => h) (Or.inl ⟨by rfl, ?_⟩) hS ?_
  rotate_left
  · (intro w' hSw; have s0 : w'.cell? ⟨cb, co, none⟩ = some (.int .i64 i.kind) := hSw.1.ins HI.out 0 _ rfl; have s1 : w'.cell? ⟨cb, co + 1, none⟩ = some (.int .i64 i.op) := hSw.1.ins HI.out 1 _ rfl; have s2 : w'.cell? ⟨cb, co + 2, none⟩ = some (.int .i64 i.dst) := hSw.1.ins HI.out 2 _ rfl; have s3 : w'.cell? ⟨cb, co + 3, none⟩ = some (.int .i64 i.a) := hSw.1.ins HI.out 3 _ rfl; have s4 : w'.cell? ⟨cb, co + 4, none⟩ = some (.int .i64 i.b) := hSw.1.ins HI.out 4 _ rfl; clear hSw; go_simp; first | done | with_reducible rfl)
  simp only [Act.put, List.getElem_toArray, List.getElem_cons_succ, List.getElem_cons_zero, List.setIfInBounds_toArray, List.set_cons_succ, List.set_cons_zero]
  refine anyL_takeH (i := 8) (v := ?_) rfl (by decide) (by kernel_rfl) (by kernel_rfl) (by kernel_rfl) (fun _ _ _ h => h) (Or.inl ⟨by rfl, ?_⟩) hS ?_
  rotate_left
  · (intro w' hSw; have s0 : w'.cell? ⟨cb, co, none⟩ = some (.int .i64 i.kind) := hSw.1.ins HI.out 0 _ rfl; have s1 : w'.cell? ⟨cb, co + 1, none⟩ = some (.int .i64 i.op) := hSw.1.ins HI.out 1 _ rfl; have s2 : w'.cell? ⟨cb, co + 2, none⟩ = some (.int .i64 i.dst) := hSw.1.ins HI.out 2 _ rfl; have s3 : w'.cell? ⟨cb, co + 3, none⟩ = some (.int .i64 i.a) := hSw.1.ins HI.out 3 _ rfl; have s4 : w'.cell? ⟨cb, co + 4, none⟩ = some (.int .i64 i.b) := hSw.1.ins HI.out 4 _ rfl; clear hSw; go_simp; first | done | with_reducible rfl)
  simp only [Act.put, List.getElem_toArray, List.getElem_cons_succ, List.getElem_cons_zero, List.setIfInBounds_toArray, List.set_cons_succ, List.set_cons_zero]
  refine anyL_takeH (i := 10) (v := ?_) rfl (by decide) (by kernel_rfl) (by kernel_rfl) (by kernel_rfl) (fun _ _ _ h => h) (Or.inl ⟨by rfl, ?_⟩) hS ?_
  rotate_left
  · (intro w' hSw; have s0 : w'.cell? ⟨cb, co, none⟩ = some (.int .i64 i.kind) := hSw.1.ins HI.out 0 _ rfl; have s1 : w'.cell? ⟨cb, co + 1, none⟩ = some (.int .i64 i.op) := hSw.1.ins HI.out 1 _ rfl; have s2 : w'.cell? ⟨cb, co + 2, none⟩ = some (.int .i64 i.dst) := hSw.1.ins HI.out 2 _ rfl; have s3 : w'.cell? ⟨cb, co + 3, none⟩ = some (.int .i64 i.a) := hSw.1.ins HI.out 3 _ rfl; have s4 : w'.cell? ⟨cb, co + 4, none⟩ = some (.int .i64 i.b) := hSw.1.ins HI.out 4 _ rfl; clear hSw; go_simp; first | done | with_reducible rfl)
  simp only [Act.put, List.getElem_toArray, List.getElem_cons_succ, List.getElem_cons_zero, List.setIfInBounds_toArray, List.set_cons_succ, List.set_cons_zero]
  refine anyL_takeH (i := 11) (v := ?_) rfl (by decide) (by kernel_rfl) (by kernel_rfl) (by kernel_rfl) (fun _ _ _ h => h) (Or.inl ⟨by rfl, ?_⟩) hS ?_
  rotate_left
  · (intro w' hSw; have s0 : w'.cell? ⟨cb, co, none⟩ = some (.int .i64 i.kind) := hSw.1.ins HI.out 0 _ rfl; have s1 : w'.cell? ⟨cb, co + 1, none⟩ = some (.int .i64 i.op) := hSw.1.ins HI.out 1 _ rfl; have s2 : w'.cell? ⟨cb, co + 2, none⟩ = some (.int .i64 i.dst) := hSw.1.ins HI.out 2 _ rfl; have s3 : w'.cell? ⟨cb, co + 3, none⟩ = some (.int .i64 i.a) := hSw.1.ins HI.out 3 _ rfl; have s4 : w'.cell? ⟨cb, co + 4, none⟩ = some (.int .i64 i.b) := hSw.1.ins HI.out 4 _ rfl; clear hSw; go_simp; first | done | with_reducible rfl)
  simp only [Act.put, List.getElem_toArray, List.getElem_cons_succ, List.getElem_cons_zero, List.setIfInBounds_toArray, List.set_cons_succ, List.set_cons_zero]
  refine anyL_takeH (i := 12) (v := ?_) rfl (by decide) (by kernel_rfl) (by kernel_rfl) (by kernel_rfl) (fun _ _ _ h => h) (Or.inl ⟨by rfl, ?_⟩) hS ?_
  rotate_left
  · (intro w' hSw; have s0 : w'.cell? ⟨cb, co, none⟩ = some (.int .i64 i.kind) := hSw.1.ins HI.out 0 _ rfl; have s1 : w'.cell? ⟨cb, co + 1, none⟩ = some (.int .i64 i.op) := hSw.1.ins HI.out 1 _ rfl; have s2 : w'.cell? ⟨cb, co + 2, none⟩ = some (.int .i64 i.dst) := hSw.1.ins HI.out 2 _ rfl; have s3 : w'.cell? ⟨cb, co + 3, none⟩ = some (.int .i64 i.a) := hSw.1.ins HI.out 3 _ rfl; have s4 : w'.cell? ⟨cb, co + 4, none⟩ = some (.int .i64 i.b) := hSw.1.ins HI.out 4 _ rfl; clear hSw; go_simp; first | done | with_reducible rfl)
  simp only [Act.put, List.getElem_toArray, List.getElem_cons_succ, List.getElem_cons_zero, List.setIfInBounds_toArray, List.set_cons_succ, List.set_cons_zero]
  refine anyL_takeH (i := 13) (v := ?_) rfl (by decide) (by kernel_rfl) (by kernel_rfl) (by kernel_rfl) (fun _ _ _ h => h) (Or.inl ⟨by rfl, ?_⟩) hS ?_
  rotate_left
  · (intro w' hSw; have s0 : w'.cell? ⟨cb, co, none⟩ = some (.int .i64 i.kind) := hSw.1.ins HI.out 0 _ rfl; have s1 : w'.cell? ⟨cb, co + 1, none⟩ = some (.int .i64 i.op) := hSw.1.ins HI.out 1 _ rfl; have s2 : w'.cell? ⟨cb, co + 2, none⟩ = some (.int .i64 i.dst) := hSw.1.ins HI.out 2 _ rfl; have s3 : w'.cell? ⟨cb, co + 3, none⟩ = some (.int .i64 i.a) := hSw.1.ins HI.out 3 _ rfl; have s4 : w'.cell? ⟨cb, co + 4, none⟩ = some (.int .i64 i.b) := hSw.1.ins HI.out 4 _ rfl; clear hSw; go_simp; first | done | with_reducible rfl)
  simp only [Act.put, List.getElem_toArray, List.getElem_cons_succ, List.getElem_cons_zero, List.setIfInBounds_toArray, List.set_cons_succ, List.set_cons_zero]
  refine anyL_takeH (i := 14) (v := ?_) rfl (by decide) (by kernel_rfl) (by kernel_rfl) (by kernel_rfl) (fun _ _ _ h => h) (Or.inl ⟨by rfl, ?_⟩) hS ?_
  rotate_left
  · (intro w' hSw; have s0 : w'.cell? ⟨cb, co, none⟩ = some (.int .i64 i.kind) := hSw.1.ins HI.out 0 _ rfl; have s1 : w'.cell? ⟨cb, co + 1, none⟩ = some (.int .i64 i.op) := hSw.1.ins HI.out 1 _ rfl; have s2 : w'.cell? ⟨cb, co + 2, none⟩ = some (.int .i64 i.dst) := hSw.1.ins HI.out 2 _ rfl; have s3 : w'.cell? ⟨cb, co + 3, none⟩ = some (.int .i64 i.a) := hSw.1.ins HI.out 3 _ rfl; have s4 : w'.cell? ⟨cb, co + 4, none⟩ = some (.int .i64 i.b) := hSw.1.ins HI.out 4 _ rfl; clear hSw; go_simp; first | done | with_reducible rfl)
  simp only [Act.put, List.getElem_toArray, List.getElem_cons_succ, List.getElem_cons_zero, List.setIfInBounds_toArray, List.set_cons_succ, List.set_cons_zero]
  refine anyL_one (i := 9) (by kernel_rfl) rfl (fun K1 hK1 => ?_)
  go_simp
  refine (get_v hS.1 i.a x HGa.out HLa.out.1 HLa.out.2 HSL.out HCL.out).mono ?_
  rintro e u ⟨rfl, hB⟩
  have hS2 : (fun W : World => MacAt w0 W U N b M V ∧ Below w.heap.size w W) u := ⟨hS.1.keep hB, hS.2.trans (hB.mono hS.2.size)⟩
  refine hK1.out _ _ (fun _ => hS2) ?_
  clear hK1 K1 hS hB
  have hS := hS2
  clear hS2
  refine anyL_one (i := 15) (by kernel_rfl) rfl (fun K1 hK1 => ?_)
  go_simp
  refine (get_v hS.1 i.b y HGb.out HLb.out.1 HLb.out.2 HSL.out HCL.out).mono ?_
  rintro e u ⟨rfl, hB⟩
  have hS2 : (fun W : World => MacAt w0 W U N b M V ∧ Below w.heap.size w W) u := ⟨hS.1.keep hB, hS.2.trans (hB.mono hS.2.size)⟩
  refine hK1.out _ _ (fun _ => hS2) ?_
  clear hK1 K1 hS hB
  have hS := hS2
  clear hS2
  refine anyL_one (i := 16) (by kernel_rfl) rfl (fun K1 hK1 => ?_)
  go_simp
  refine (do_any i.op x y _).mono ?_
  rintro e u ⟨rfl, rfl⟩
  refine hK1.out _ _ (fun _ => hS) ?_
  clear hK1 K1
  refine anyL_takeH (i := 17) (v := ?_) rfl (by decide) (by kernel_rfl) (by kernel_rfl) (by kernel_rfl) (fun _ _ _ h => h) (Or.inl ⟨by rfl, ?_⟩) hS ?_
  rotate_left
  · (intro w' hSw; go_simp; first | done | with_reducible rfl)
  simp only [Act.put, List.getElem_toArray, List.getElem_cons_succ, List.getElem_cons_zero, List.setIfInBounds_toArray, List.set_cons_succ, List.set_cons_zero]
  refine anyL_takeH (i := 18) (v := ?_) rfl (by decide) (by kernel_rfl) (by kernel_rfl) (by kernel_rfl) (fun _ _ _ h => h) (Or.inl ⟨by rfl, ?_⟩) hS ?_
  rotate_left
  · (intro w' hSw; go_simp; first | done | with_reducible rfl)
  simp only [Act.put, List.getElem_toArray, List.getElem_cons_succ, List.getElem_cons_zero, List.setIfInBounds_toArray, List.set_cons_succ, List.set_cons_zero]
  refine anyL_takeH (i := 19) (v := ?_) rfl (by decide) (by kernel_rfl) (by kernel_rfl) (by kernel_rfl) (fun _ _ _ h => h) (Or.inl ⟨by rfl, ?_⟩) hS ?_
  rotate_left
  · (intro w' hSw; go_simp; first | done | with_reducible rfl)
  simp only [Act.put, List.getElem_toArray, List.getElem_cons_succ, List.getElem_cons_zero, List.setIfInBounds_toArray, List.set_cons_succ, List.set_cons_zero]
  refine anyL_takeH (i := 20) (v := ?_) rfl (by decide) (by kernel_rfl) (by kernel_rfl) (by kernel_rfl) (fun _ _ _ h => h) (Or.inl ⟨by rfl, ?_⟩) hS ?_
  rotate_left
  · (intro w' hSw; go_simp; first | done | with_reducible rfl)
  simp only [Act.put, List.getElem_toArray, List.getElem_cons_succ, List.getElem_cons_zero, List.setIfInBounds_toArray, List.set_cons_succ, List.set_cons_zero]
  refine anyL_takeH (i := 21) (v := ?_) rfl (by decide) (by kernel_rfl) (by kernel_rfl) (by kernel_rfl) (fun _ _ _ h => h) (Or.inl ⟨by rfl, ?_⟩) hS ?_
  rotate_left
  · (intro w' hSw; go_simp; first | done | with_reducible rfl)
  simp only [Act.put, List.getElem_toArray, List.getElem_cons_succ, List.getElem_cons_zero, List.setIfInBounds_toArray, List.set_cons_succ, List.set_cons_zero]
  obtain ⟨hS1, hS2⟩ := hS
  have HM1 := Lib.hid hS1; have HB1 := Lib.hid hS2
  clear hS1 hS2
  refine anyL_done (by kernel_rfl) ?_ _
  rw [HBB.out]
  have i2 := HM1.out.ins HI.out 2 (.int .i64 i.dst) rfl
  cases B
  · have HQ : Hid (operateM M i = { M with fin := 2, code := 2 }) := Lib.hid (by rw [HR.out]; simp)
    clear HR
    go_wp2_with ((with_reducible refine (finish_any HM1.out 2 2).mono ?_); rintro e v ⟨rfl, V2, hm2, hv2⟩; have HM5 := Lib.hid hm2; have HV5 := Lib.hid ((Mov.of_below HB1.out).trans hv2); clear hm2 hv2)
    go_end0
    exact ⟨rfl, V2, by rw [HQ.out]; exact HM5.out, HV5.out⟩
  · have HQ : Hid (operateM M i = mset M i.dst (doV i.op x y)) := Lib.hid (by rw [HR.out]; simp)
    clear HR
    go_wp2_with ((with_reducible refine (set_any HM1.out i.dst (doV i.op x y) HLd.out.1 HLd.out.2 HSL.out HCL.out HAL.out).mono ?_); rintro e v ⟨rfl, V2, hm2, hv2⟩; have HM5 := Lib.hid hm2; have HV5 := Lib.hid ((Mov.of_below HB1.out).trans hv2); clear hm2 hv2)
    go_end0
    exact ⟨rfl, V2, by rw [HQ.out]; exact HM5.out, HV5.out⟩
end Go.Proofs.Ytmcpfjhdeplgmaa
namespace Go.Proofs.Ytmcpfjhdeplgmaa
open Go.RowKit Cd Go.Maps
set_option linter.unusedVariables false
set_option linter.unusedSimpArgs false
variable {w0 w w' : World} {U : UnR} {N : Nat} {b : Blk} {M : Mac} {V : MV}
theorem plain_v (n q : Int) (h : n % 4294967296 = q) (w : World) : Calls Try.prog 56 #[.int .i64 n] w fun e w' => e = .returned (.int .i64 q) ∧ w = w' := h ▸ plain_any n w
theorem mset_mem (M : Mac) (r n : Int) : (mset M r n).mem = M.mem := by unfold mset; split <;> rfl
def accessM (M : Mac) (i : Ins) : Mac :=
  if 1 ≤ mget M i.a % 4294967296 ∧ mget M i.a % 4294967296 < 4096 then
    (if i.kind = 6 then mset M i.dst (M.mem.getD (mget M i.a % 4294967296).toNat 0) else { M with mem := M.mem.set (mget M i.a % 4294967296).toNat (mget M i.b) })
  else { M with fin := 2, code := 1 }
set_option maxRecDepth 100000 in
set_option maxHeartbeats 8000000 in
theorem access_any (h : MacAt w0 w U N b M V) (i : Ins) (cb co : Nat) (hi : InsAt w0 i cb co) (hst : StA M i) (hd : i.kind = 6 → 0 ≤ i.dst ∧ i.dst < M.regs.length) :
    Calls Try.prog 50 #[mP b, .pointer (some ⟨cb, co, none⟩)] w (MPost w0 U N b w V (accessM M i) (.tuple #[])) := by
  have hmix : Try.prog.follows .mixedOrders = true := by kernel_rfl
  have HI := Lib.hid hi; have HSL := Lib.hid hst.s; have HCL := Lib.hid hst.c; have HAL := Lib.hid hst.l; have HLa := Lib.hid hst.a; have HLb := Lib.hid hst.b; have HLD := Lib.hid hd
  have H := Lib.hid h
  have i3 := h.ins hi 3 (.int .i64 i.a) rfl
  obtain ⟨x, hx⟩ : ∃ x, mget M i.a = x := ⟨_, rfl⟩
  obtain ⟨q, hq⟩ : ∃ q, x % 4294967296 = q := ⟨_, rfl⟩
  have hq0 : 0 ≤ q ∧ q < 4294967296 := by omega
  have HR : Hid (accessM M i = if 1 ≤ q ∧ q < 4096 then (if i.kind = 6 then mset M i.dst (M.mem.getD q.toNat 0) else { M with mem := M.mem.set q.toNat (mget M i.b) }) else { M with fin := 2, code := 1 }) := Lib.hid (by unfold accessM; rw [hx, hq])
  have HGa := Lib.hid hx; have HQ := Lib.hid hq
  have hlen := h.memlen
  clear hx hq hi hst hd h
  by_cases hin : 1 ≤ q ∧ q < 4096
  · have HW : Hid (inB q 1 4095 = true) := Lib.hid (by unfold inB; simp; omega)
    obtain ⟨k, rfl⟩ : ∃ k : Nat, q = k := ⟨q.toNat, by omega⟩
    have hk4 : k < 4096 := by omega
    have hk0 : (0 : Int) ≤ (k : Int) := Int.natCast_nonneg _
    have hk1 : (k : Int) < 4096 := by omega
    have HR2 : Hid (accessM M i = if i.kind = 6 then mset M i.dst (M.mem.getD k 0) else { M with mem := M.mem.set k (mget M i.b) }) := Lib.hid (by rw [HR.out, if_pos hin]; simp)
    clear HR hin hq0
    by_cases h6 : i.kind = 6
    · obtain ⟨y, hy⟩ : ∃ y, M.mem[k]? = some y := ⟨_, List.getElem?_eq_getElem (by omega)⟩
      have HE : Hid (accessM M i = mset M i.dst y) := Lib.hid (by rw [HR2.out, if_pos h6, List.getD_eq_getElem?_getD, hy]; rfl)
      have HY := Lib.hid hy
      have HK : Hid (i.kind = 6) := Lib.hid h6
      have HLd := Lib.hid (HLD.out h6)
      clear h6 HR2 hy hlen
      go_enter Try.func50, Try.ntmps50
      go_wp2_with (first | ((with_reducible refine (get_v H.out i.a x HGa.out HLa.out.1 HLa.out.2 HSL.out HCL.out).mono ?_); rintro e w1 ⟨rfl, hB1⟩; have HB1 := Lib.hid hB1; have HM1 := Lib.hid (H.out.keep HB1.out); have j0 : w1.cell? ⟨cb, co, none⟩ = some (.int .i64 6) := (by rw [← HK.out]; exact HM1.out.ins HI.out 0 _ rfl); clear hB1) | ((with_reducible refine (plain_v x _ HQ.out _).mono ?_); rintro e w2 ⟨rfl, hw⟩; subst hw) | ((with_reducible refine (within_v _ 1 4095 true HW.out _).mono ?_); rintro e w2 ⟨rfl, hw⟩; subst hw) )
      refine region_last (fun W : World => ∃ (M' : Mac) (V' : MV), MacAt w0 W U N b M' V' ∧ M'.mem = M.mem) 1000000 hmix ?_
      have hL : MacAt w0 w1.drew U N b M V := HM1.out.keep ((Below.refl _ w1).drew)
      have hS : (fun W : World => ∃ (M' : Mac) (V' : MV), MacAt w0 W U N b M' V' ∧ M'.mem = M.mem) w1.drew := ⟨M, V, hL, rfl⟩
      refine anyL_takeH (i := 0) (v := ?_) rfl (by decide) (by kernel_rfl) (by kernel_rfl) (by kernel_rfl) (fun _ _ _ h => h) (Or.inl ⟨by rfl, ?_⟩) hS ?_
      rotate_left
      · (intro w' hSw; obtain ⟨M', V', hSm, hmm⟩ := hSw; have s2 : w'.cell? ⟨cb, co + 2, none⟩ = some (.int .i64 i.dst) := hSm.ins HI.out 2 _ rfl; have s5 : w'.cell? ⟨b.mb, 4 + k, none⟩ = some (.int .i64 y) := hSm.word (by rw [hmm]; exact HY.out); clear hSm hmm; go_simp; first | done | with_reducible rfl)
      simp only [Act.put, List.getElem_toArray, List.getElem_cons_succ, List.getElem_cons_zero, List.setIfInBounds_toArray, List.set_cons_succ, List.set_cons_zero]
      refine anyL_takeH (i := 1) (v := ?_) rfl (by decide) (by kernel_rfl) (by kernel_rfl) (by kernel_rfl) (fun _ _ _ h => h) (Or.inl ⟨by rfl, ?_⟩) hS ?_
      rotate_left
      · (intro w' hSw; obtain ⟨M', V', hSm, hmm⟩ := hSw; have s2 : w'.cell? ⟨cb, co + 2, none⟩ = some (.int .i64 i.dst) := hSm.ins HI.out 2 _ rfl; have s5 : w'.cell? ⟨b.mb, 4 + k, none⟩ = some (.int .i64 y) := hSm.word (by rw [hmm]; exact HY.out); clear hSm hmm; go_simp; first | done | with_reducible rfl)
      simp only [Act.put, List.getElem_toArray, List.getElem_cons_succ, List.getElem_cons_zero, List.setIfInBounds_toArray, List.set_cons_succ, List.set_cons_zero]
      refine anyL_takeH (i := 2) (v := ?_) rfl (by decide) (by kernel_rfl) (by kernel_rfl) (by kernel_rfl) (fun _ _ _ h => h) (Or.inl ⟨by rfl, ?_⟩) hS ?_
      rotate_left
      · (intro w' hSw; obtain ⟨M', V', hSm, hmm⟩ := hSw; have s2 : w'.cell? ⟨cb, co + 2, none⟩ = some (.int .i64 i.dst) := hSm.ins HI.out 2 _ rfl; have s5 : w'.cell? ⟨b.mb, 4 + k, none⟩ = some (.int .i64 y) := hSm.word (by rw [hmm]; exact HY.out); clear hSm hmm; go_simp; first | done | with_reducible rfl)
      simp only [Act.put, List.getElem_toArray, List.getElem_cons_succ, List.getElem_cons_zero, List.setIfInBounds_toArray, List.set_cons_succ, List.set_cons_zero]
      refine anyL_takeH (i := 3) (v := ?_) rfl (by decide) (by kernel_rfl) (by kernel_rfl) (by kernel_rfl) (fun _ _ _ h => h) (Or.inl ⟨by rfl, ?_⟩) hS ?_
      rotate_left
      · (intro w' hSw; obtain ⟨M', V', hSm, hmm⟩ := hSw; have s2 : w'.cell? ⟨cb, co + 2, none⟩ = some (.int .i64 i.dst) := hSm.ins HI.out 2 _ rfl; have s5 : w'.cell? ⟨b.mb, 4 + k, none⟩ = some (.int .i64 y) := hSm.word (by rw [hmm]; exact HY.out); clear hSm hmm; go_simp; first | done | with_reducible rfl)
      simp only [Act.put, List.getElem_toArray, List.getElem_cons_succ, List.getElem_cons_zero, List.setIfInBounds_toArray, List.set_cons_succ, List.set_cons_zero]
      refine anyL_takeH (i := 4) (v := ?_) rfl (by decide) (by kernel_rfl) (by kernel_rfl) (by kernel_rfl) (fun _ _ _ h => h) (Or.inl ⟨by rfl, ?_⟩) hS ?_
      rotate_left
      · (intro w' hSw; obtain ⟨M', V', hSm, hmm⟩ := hSw; have s2 : w'.cell? ⟨cb, co + 2, none⟩ = some (.int .i64 i.dst) := hSm.ins HI.out 2 _ rfl; have s5 : w'.cell? ⟨b.mb, 4 + k, none⟩ = some (.int .i64 y) := hSm.word (by rw [hmm]; exact HY.out); clear hSm hmm; go_simp; first | done | with_reducible rfl)
      simp only [Act.put, List.getElem_toArray, List.getElem_cons_succ, List.getElem_cons_zero, List.setIfInBounds_toArray, List.set_cons_succ, List.set_cons_zero]
      refine anyL_takeH (i := 5) (v := ?_) rfl (by decide) (by kernel_rfl) (by kernel_rfl) (by kernel_rfl) (fun _ _ _ h => h) (Or.inl ⟨by rfl, ?_⟩) hS ?_
      rotate_left
      · (intro w' hSw; obtain ⟨M', V', hSm, hmm⟩ := hSw; have s2 : w'.cell? ⟨cb, co + 2, none⟩ = some (.int .i64 i.dst) := hSm.ins HI.out 2 _ rfl; have s5 : w'.cell? ⟨b.mb, 4 + k, none⟩ = some (.int .i64 y) := hSm.word (by rw [hmm]; exact HY.out); clear hSm hmm; go_simp; first | done | with_reducible rfl)
      simp only [Act.put, List.getElem_toArray, List.getElem_cons_succ, List.getElem_cons_zero, List.setIfInBounds_toArray, List.set_cons_succ, List.set_cons_zero]
      refine anyL_takeH (i := 6) (v := ?_) rfl (by decide) (by kernel_rfl) (by kernel_rfl) (by kernel_rfl) (fun _ _ _ h => h) (Or.inl ⟨by rfl, ?_⟩) hS ?_
      rotate_left
      · (intro w' hSw; obtain ⟨M', V', hSm, hmm⟩ := hSw; have s2 : w'.cell? ⟨cb, co + 2, none⟩ = some (.int .i64 i.dst) := hSm.ins HI.out 2 _ rfl; have s5 : w'.cell? ⟨b.mb, 4 + k, none⟩ = some (.int .i64 y) := hSm.word (by rw [hmm]; exact HY.out); clear hSm hmm; go_simp; first | done | with_reducible rfl)
      simp only [Act.put, List.getElem_toArray, List.getElem_cons_succ, List.getElem_cons_zero, List.setIfInBounds_toArray, List.set_cons_succ, List.set_cons_zero]
      refine anyL_takeH (i := 7) (v := ?_) rfl (by decide) (by kernel_rfl) (by kernel_rfl) (by kernel_rfl) (fun _ _ _ h => h) (Or.inl ⟨by rfl, ?_⟩) hS ?_
      rotate_left
      · (intro w' hSw; obtain ⟨M', V', hSm, hmm⟩ := hSw; have s2 : w'.cell? ⟨cb, co + 2, none⟩ = some (.int .i64 i.dst) := hSm.ins HI.out 2 _ rfl; have s5 : w'.cell? ⟨b.mb, 4 + k, none⟩ = some (.int .i64 y) := hSm.word (by rw [hmm]; exact HY.out); clear hSm hmm; go_simp; first | done | with_reducible rfl)
      simp only [Act.put, List.getElem_toArray, List.getElem_cons_succ, List.getElem_cons_zero, List.setIfInBounds_toArray, List.set_cons_succ, List.set_cons_zero]
      refine anyL_takeH (i := 8) (v := ?_) rfl (by decide) (by kernel_rfl) (by kernel_rfl) (by kernel_rfl) (fun _ _ _ h => h) (Or.inl ⟨by rfl, ?_⟩) hS ?_
      rotate_left
      · (intro w' hSw; obtain ⟨M', V', hSm, hmm⟩ := hSw; have s2 : w'.cell? ⟨cb, co + 2, none⟩ = some (.int .i64 i.dst) := hSm.ins HI.out 2 _ rfl; have s5 : w'.cell? ⟨b.mb, 4 + k, none⟩ = some (.int .i64 y) := hSm.word (by rw [hmm]; exact HY.out); clear hSm hmm; go_simp; first | done | with_reducible rfl)
      simp only [Act.put, List.getElem_toArray, List.getElem_cons_succ, List.getElem_cons_zero, List.setIfInBounds_toArray, List.set_cons_succ, List.set_cons_zero]
      refine anyL_takeH (i := 9) (v := ?_) rfl (by decide) (by kernel_rfl) (by kernel_rfl) (by kernel_rfl) (fun _ _ _ h => h) (Or.inl ⟨by rfl, ?_⟩) hS ?_
      rotate_left
      · (intro w' hSw; obtain ⟨M', V', hSm, hmm⟩ := hSw; have s2 : w'.cell? ⟨cb, co + 2, none⟩ = some (.int .i64 i.dst) := hSm.ins HI.out 2 _ rfl; have s5 : w'.cell? ⟨b.mb, 4 + k, none⟩ = some (.int .i64 y) := hSm.word (by rw [hmm]; exact HY.out); clear hSm hmm; go_simp; first | done | with_reducible rfl)
      simp only [Act.put, List.getElem_toArray, List.getElem_cons_succ, List.getElem_cons_zero, List.setIfInBounds_toArray, List.set_cons_succ, List.set_cons_zero]
      refine anyL_takeH (i := 10) (v := ?_) rfl (by decide) (by kernel_rfl) (by kernel_rfl) (by kernel_rfl) (fun _ _ _ h => h) (Or.inl ⟨by rfl, ?_⟩) hS ?_
      rotate_left
      · (intro w' hSw; obtain ⟨M', V', hSm, hmm⟩ := hSw; have s2 : w'.cell? ⟨cb, co + 2, none⟩ = some (.int .i64 i.dst) := hSm.ins HI.out 2 _ rfl; have s5 : w'.cell? ⟨b.mb, 4 + k, none⟩ = some (.int .i64 y) := hSm.word (by rw [hmm]; exact HY.out); clear hSm hmm; go_simp; first | done | with_reducible rfl)
      simp only [Act.put, List.getElem_toArray, List.getElem_cons_succ, List.getElem_cons_zero, List.setIfInBounds_toArray, List.set_cons_succ, List.set_cons_zero]
      refine anyL_one (i := 11) (by kernel_rfl) rfl (fun K1 hK1 => ?_)
      go_simp
      refine (set_any hL i.dst y HLd.out.1 HLd.out.2 HSL.out HCL.out HAL.out).mono ?_
      rintro e v ⟨rfl, V2, hm2, hv2⟩
      have hS3 : (fun W : World => ∃ (M' : Mac) (V' : MV), MacAt w0 W U N b M' V' ∧ M'.mem = M.mem) v := ⟨_, V2, hm2, mset_mem _ _ _⟩
      have HM5 := Lib.hid hm2; have HV5 := Lib.hid ((Mov.of_below HB1.out).trans ((Mov.of_below ((Below.refl _ w1).drew)).trans hv2)); clear hm2 hv2 hS hL
      refine hK1.out _ _ (fun _ => hS3) ?_
      clear hK1 K1 hS3
      refine anyL_done (by kernel_rfl) ?_ _
      go_wp2
      go_end0
      exact ⟨rfl, V2, by rw [HE.out]; exact HM5.out, HV5.out⟩
    · obtain ⟨y, hy⟩ : ∃ y, mget M i.b = y := ⟨_, rfl⟩
      have HE : Hid (accessM M i = { M with mem := M.mem.set k y }) := Lib.hid (by rw [HR2.out, if_neg h6, hy])
      have HGb := Lib.hid hy
      obtain ⟨z, hz⟩ : ∃ z, M.mem[k]? = some z := ⟨_, List.getElem?_eq_getElem (by omega)⟩
      have HY := Lib.hid hz
      have t6 : (i.kind == 6) = false := by simpa using h6
      clear h6 HR2 hy hz hlen
      go_enter Try.func50, Try.ntmps50
      go_wp2_with (first | ((with_reducible refine (get_v H.out i.a x HGa.out HLa.out.1 HLa.out.2 HSL.out HCL.out).mono ?_); rintro e w1 ⟨rfl, hB1⟩; have HB1 := Lib.hid hB1; have HM1 := Lib.hid (H.out.keep HB1.out); have j0 : w1.cell? ⟨cb, co, none⟩ = some (.int .i64 i.kind) := HM1.out.ins HI.out 0 _ rfl; clear hB1) | ((with_reducible refine (plain_v x _ HQ.out _).mono ?_); rintro e w2 ⟨rfl, hw⟩; subst hw) | ((with_reducible refine (within_v _ 1 4095 true HW.out _).mono ?_); rintro e w2 ⟨rfl, hw⟩; subst hw) )
      refine region_last (fun W : World => ∃ M' : Mac, MacAt w0 W U N b M' V) 1000000 hmix ?_
      have hL : MacAt w0 w1.drew U N b M V ∧ Below w1.heap.size w1 w1.drew := ⟨HM1.out.keep ((Below.refl _ w1).drew), (Below.refl _ w1).drew⟩
      have hS : (fun W : World => ∃ M' : Mac, MacAt w0 W U N b M' V) w1.drew := ⟨M, hL.1⟩
      refine anyL_takeH (i := 0) (v := ?_) rfl (by decide) (by kernel_rfl) (by kernel_rfl) (by kernel_rfl) (fun _ _ _ h => h) (Or.inl ⟨by rfl, ?_⟩) hS ?_
      rotate_left
      · (intro w' hSw; obtain ⟨M', hSm⟩ := hSw; have s4 : w'.cell? ⟨cb, co + 4, none⟩ = some (.int .i64 i.b) := hSm.ins HI.out 4 _ rfl; clear hSm; go_simp; first | done | with_reducible rfl)
      simp only [Act.put, List.getElem_toArray, List.getElem_cons_succ, List.getElem_cons_zero, List.setIfInBounds_toArray, List.set_cons_succ, List.set_cons_zero]
      refine anyL_takeH (i := 1) (v := ?_) rfl (by decide) (by kernel_rfl) (by kernel_rfl) (by kernel_rfl) (fun _ _ _ h => h) (Or.inl ⟨by rfl, ?_⟩) hS ?_
      rotate_left
      · (intro w' hSw; obtain ⟨M', hSm⟩ := hSw; have s4 : w'.cell? ⟨cb, co + 4, none⟩ = some (.int .i64 i.b) := hSm.ins HI.out 4 _ rfl; clear hSm; go_simp; first | done | with_reducible rfl)
      simp only [Act.put, List.getElem_toArray, List.getElem_cons_succ, List.getElem_cons_zero, List.setIfInBounds_toArray, List.set_cons_succ, List.set_cons_zero]
      refine anyL_takeH (i := 2) (v := ?_) rfl (by decide) (by kernel_rfl) (by kernel_rfl) (by kernel_rfl) (fun _ _ _ h => h) (Or.inl ⟨by rfl, ?_⟩) hS ?_
      rotate_left
      · (intro w' hSw; obtain ⟨M', hSm⟩ := hSw; have s4 : w'.cell? ⟨cb, co + 4, none⟩ = some (.int .i64 i.b) := hSm.ins HI.out 4 _ rfl; clear hSm; go_simp; first | done | with_reducible rfl)
      simp only [Act.put, List.getElem_toArray, List.getElem_cons_succ, List.getElem_cons_zero, List.setIfInBounds_toArray, List.set_cons_succ, List.set_cons_zero]
      refine anyL_takeH (i := 3) (v := ?_) rfl (by decide) (by kernel_rfl) (by kernel_rfl) (by kernel_rfl) (fun _ _ _ h => h) (Or.inl ⟨by rfl, ?_⟩) hS ?_
      rotate_left
      · (intro w' hSw; obtain ⟨M', hSm⟩ := hSw; have s4 : w'.cell? ⟨cb, co + 4, none⟩ = some (.int .i64 i.b) := hSm.ins HI.out 4 _ rfl; clear hSm; go_simp; first | done | with_reducible rfl)
      simp only [Act.put, List.getElem_toArray, List.getElem_cons_succ, List.getElem_cons_zero, List.setIfInBounds_toArray, List.set_cons_succ, List.set_cons_zero]
      refine anyL_takeH (i := 4) (v := ?_) rfl (by decide) (by kernel_rfl) (by kernel_rfl) (by kernel_rfl) (fun _ _ _ h => h) (Or.inl ⟨by rfl, ?_⟩) hS ?_
      rotate_left
      · (intro w' hSw; obtain ⟨M', hSm⟩ := hSw; have s4 : w'.cell? ⟨cb, co + 4, none⟩ = some (.int .i64 i.b) := hSm.ins HI.out 4 _ rfl; clear hSm; go_simp; first | done | with_reducible rfl)
      simp only [Act.put, List.getElem_toArray, List.getElem_cons_succ, List.getElem_cons_zero, List.setIfInBounds_toArray, List.set_cons_succ, List.set_cons_zero]
      refine anyL_takeH (i := 5) (v := ?_) rfl (by decide) (by kernel_rfl) (by kernel_rfl) (by kernel_rfl) (fun _ _ _ h => h) (Or.inl ⟨by rfl, ?_⟩) hS ?_
      rotate_left
      · (intro w' hSw; obtain ⟨M', hSm⟩ := hSw; have s4 : w'.cell? ⟨cb, co + 4, none⟩ = some (.int .i64 i.b) := hSm.ins HI.out 4 _ rfl; clear hSm; go_simp; first | done | with_reducible rfl)
      simp only [Act.put, List.getElem_toArray, List.getElem_cons_succ, List.getElem_cons_zero, List.setIfInBounds_toArray, List.set_cons_succ, List.set_cons_zero]
      refine anyL_takeH (i := 6) (v := ?_) rfl (by decide) (by kernel_rfl) (by kernel_rfl) (by kernel_rfl) (fun _ _ _ h => h) (Or.inl ⟨by rfl, ?_⟩) hS ?_
      rotate_left
      · (intro w' hSw; obtain ⟨M', hSm⟩ := hSw; have s4 : w'.cell? ⟨cb, co + 4, none⟩ = some (.int .i64 i.b) := hSm.ins HI.out 4 _ rfl; clear hSm; go_simp; first | done | with_reducible rfl)
      simp only [Act.put, List.getElem_toArray, List.getElem_cons_succ, List.getElem_cons_zero, List.setIfInBounds_toArray, List.set_cons_succ, List.set_cons_zero]
      refine anyL_takeH (i := 8) (v := ?_) rfl (by decide) (by kernel_rfl) (by kernel_rfl) (by kernel_rfl) (fun _ _ _ h => h) (Or.inl ⟨by rfl, ?_⟩) hS ?_
      rotate_left
      · (intro w' hSw; obtain ⟨M', hSm⟩ := hSw; have s4 : w'.cell? ⟨cb, co + 4, none⟩ = some (.int .i64 i.b) := hSm.ins HI.out 4 _ rfl; clear hSm; go_simp; first | done | with_reducible rfl)
      simp only [Act.put, List.getElem_toArray, List.getElem_cons_succ, List.getElem_cons_zero, List.setIfInBounds_toArray, List.set_cons_succ, List.set_cons_zero]
      refine anyL_takeH (i := 9) (v := ?_) rfl (by decide) (by kernel_rfl) (by kernel_rfl) (by kernel_rfl) (fun _ _ _ h => h) (Or.inl ⟨by rfl, ?_⟩) hS ?_
      rotate_left
      · (intro w' hSw; obtain ⟨M', hSm⟩ := hSw; have s4 : w'.cell? ⟨cb, co + 4, none⟩ = some (.int .i64 i.b) := hSm.ins HI.out 4 _ rfl; clear hSm; go_simp; first | done | with_reducible rfl)
      simp only [Act.put, List.getElem_toArray, List.getElem_cons_succ, List.getElem_cons_zero, List.setIfInBounds_toArray, List.set_cons_succ, List.set_cons_zero]
      refine anyL_one (i := 7) (by kernel_rfl) rfl (fun K1 hK1 => ?_)
      go_simp
      refine (get_v hL.1 i.b y HGb.out HLb.out.1 HLb.out.2 HSL.out HCL.out).mono ?_
      rintro e u ⟨rfl, hB⟩
      have hL2 : MacAt w0 u U N b M V ∧ Below w1.heap.size w1 u := ⟨hL.1.keep hB, hL.2.trans (hB.mono hL.2.size)⟩
      have hS2 : (fun W : World => ∃ M' : Mac, MacAt w0 W U N b M' V) u := ⟨M, hL2.1⟩
      refine hK1.out _ _ (fun _ => hS2) ?_
      clear hK1 K1 hS hL hB
      have hS := hS2; have hL := hL2
      clear hS2 hL2
      refine anyL_takeH (i := 10) (v := ?_) rfl (by decide) (by kernel_rfl) (by kernel_rfl) (by kernel_rfl) (fun _ _ _ h => h) (Or.inl ⟨by rfl, ?_⟩) hS ?_
      rotate_left
      · (intro w' hSw; obtain ⟨M', hSm⟩ := hSw; have s4 : w'.cell? ⟨cb, co + 4, none⟩ = some (.int .i64 i.b) := hSm.ins HI.out 4 _ rfl; clear hSm; go_simp; first | done | with_reducible rfl)
      simp only [Act.put, List.getElem_toArray, List.getElem_cons_succ, List.getElem_cons_zero, List.setIfInBounds_toArray, List.set_cons_succ, List.set_cons_zero]
      have f4 := hL.1.fz (4 + k)
      have s5 := hL.1.word HY.out
      refine anyL_one (i := 11) (by kernel_rfl) rfl (fun K1 hK1 => ?_)
      go_simp
      have hM5 := hL.1.setWord k y hk4
      have HM5 := Lib.hid hM5
      have HV5 := Lib.hid (((Mov.of_below HB1.out).trans (Mov.of_below hL.2)).trans (Mov.cell b _ V (.inl rfl) (4 + k) (.int .i64 y)))
      have hS3 : (fun W : World => ∃ M' : Mac, MacAt w0 W U N b M' V) _ := ⟨_, hM5⟩
      clear f4 s5 hS hL
      refine hK1.out _ _ (fun _ => hS3) ?_
      clear hK1 K1 hM5 hS3
      refine anyL_done (by kernel_rfl) ?_ _
      go_wp2
      go_end0
      exact ⟨rfl, V, by rw [HE.out]; exact HM5.out, HV5.out⟩
  · have HW : Hid (inB q 1 4095 = false) := Lib.hid (by unfold inB; simp; omega)
    have HE : Hid (accessM M i = { M with fin := 2, code := 1 }) := Lib.hid (by rw [HR.out, if_neg hin])
    clear HR hin hq0 hlen
    go_enter Try.func50, Try.ntmps50
    go_wp2_with (first | ((with_reducible refine (get_v H.out i.a x HGa.out HLa.out.1 HLa.out.2 HSL.out HCL.out).mono ?_); rintro e w1 ⟨rfl, hB1⟩; have HB1 := Lib.hid hB1; have HM1 := Lib.hid (H.out.keep HB1.out); have j0 : w1.cell? ⟨cb, co, none⟩ = some (.int .i64 i.kind) := HM1.out.ins HI.out 0 _ rfl; clear hB1) | ((with_reducible refine (plain_v x _ HQ.out _).mono ?_); rintro e w2 ⟨rfl, hw⟩; subst hw) | ((with_reducible refine (within_v _ 1 4095 false HW.out _).mono ?_); rintro e w2 ⟨rfl, hw⟩; subst hw) | ((with_reducible refine (finish_any (H.out.keep HB1.out) 2 1).mono ?_); rintro e v ⟨rfl, V2, hm2, hv2⟩; have HM5 := Lib.hid hm2; have HV5 := Lib.hid ((Mov.of_below HB1.out).trans hv2); clear hm2 hv2))
    go_end0
    exact ⟨rfl, V2, by rw [HE.out]; exact HM5.out, HV5.out⟩
end Go.Proofs.Ytmcpfjhdeplgmaa
namespace Go.Proofs.Ytmcpfjhdeplgmaa
open Go.RowKit Cd Go.Maps
set_option linter.unusedVariables false
set_option linter.unusedSimpArgs false
variable {w0 w w' : World} {U : UnR} {N : Nat} {b : Blk} {M : Mac} {V : MV}
theorem PlacesAt.look1 {w : World} {b : Nat} {fs : List Fnc} {s : List UInt8} {k : Nat} (h : PlacesAt w b fs) (hs : s.length ≤ 1000000) (hf : findN fs s = some k) :
    (Instr.lookup 56 (.map (some b)) (.string (sb s)) false).run Try.prog w = .ok (.int .i64 k) w := by
  obtain ⟨D, n, hown, hp⟩ := h
  obtain ⟨c, hrun, hc, _⟩ := hown.lookup_int lawS Try.underlying56 Try.underlying3 (zero64 _) (keyT hs)
  obtain ⟨h1, h2⟩ := hp.some hf
  rw [hrun, h2 c hc]
theorem args_cell (i : Ins) (k : Nat) (r : Int) (h : i.args[k]? = some r) : (inCells i)[7 + k]? = some (.int .i64 r) := by
  have hk : k < 6 := (List.getElem?_eq_some_iff.1 h).1
  rcases k with _ | _ | _ | _ | _ | _ | k
  all_goals first | (simp only [Ins.args, List.getElem?_cons_zero, List.getElem?_cons_succ, Option.some.injEq] at h; subst h; rfl) | omega
abbrev wO (l : List Int) : Obj := .cells (l.map (Value.int .i64)).toArray 44
def wordsL (M : Mac) (rs : List Int) (k : Nat) : List Int := (rs.take k).map (mget M) ++ List.replicate (6 - k) 0
theorem wordsL_len (M : Mac) (rs : List Int) (k : Nat) (h : k ≤ rs.length) (h6 : rs.length ≤ 6) : (wordsL M rs k).length = 6 := by
  unfold wordsL; simp; omega
theorem wordsL_set (M : Mac) (rs : List Int) (k : Nat) (r : Int) (h : rs[k]? = some r) (h6 : rs.length ≤ 6) : (wordsL M rs k).set k (mget M r) = wordsL M rs (k + 1) := by
  have hk : k < rs.length := (List.getElem?_eq_some_iff.1 h).1
  unfold wordsL
  have e : ((rs.take k).map (mget M)).length = k := by simp; omega
  rw [List.set_append_right _ _ (by omega), e, Nat.sub_self, show 6 - k = (6 - (k + 1)) + 1 by omega, List.replicate_succ, List.set_cons_zero, List.take_add_one, h]
  simp
theorem wO_set {w : World} {z : Nat} {l : List Int} (h : w.heap[z]? = some (wO l)) (j : Nat) (x : Int) : (w.setCell ⟨z, j, none⟩ (.int .i64 x)).heap[z]? = some (wO (l.set j x)) := by
  rw [cells_set h j _]
  simp [List.map_set]
theorem wO_cell {w : World} {z : Nat} {l : List Int} (h : w.heap[z]? = some (wO l)) {j : Nat} {x : Int} (hx : l[j]? = some x) : w.cell? ⟨z, j, none⟩ = some (.int .i64 x) ∧ w.frozen? ⟨z, j, none⟩ = false := by
  refine ⟨?_, by simp [World.frozen?, h]⟩
  rw [cell_of_row w z j _ _ _ h]
  simp [hx]
theorem begin_n (h : MacAt w0 w U N b M V) (hU : UnAt w0 w0.heap.size U) (k : Nat) (r : FnR) (hr : U.fs[k]? = some r) (dst : Int) (la : Option Addr) (lc : Nat) (l : List Int) (n : Nat) (hn : l.length = n) (hla : ArgAt b V w la l) (hll : l.length ≤ M.regs.length) (h6 : l.length ≤ 6)
    (hs : M.sets.length = M.regs.length) (hf : 0 ≤ M.free ∧ M.free ≤ 4096) (hfr : 0 ≤ r.f.frame ∧ r.f.frame ≤ 4096) (hcl : M.calls.length ≤ 1000000) (hal : M.aside.length ≤ 9000000) :
    Calls Try.prog 32 #[mP b, .int .i64 k, .int .i64 dst, .slice la n lc] w (MPost w0 U N b w V (beginM U M k r dst l) (.tuple #[])) := by
  subst hn
  exact begin_any h hU k r hr dst la lc l hla hll h6 hs hf hfr hcl hal
def callM (U : UnR) (M : Mac) (k : Nat) (r : FnR) (i : Ins) : Mac := beginM U M k r i.dst ((i.args.take i.n.toNat).map (mget M))
set_option maxRecDepth 100000 in
set_option maxHeartbeats 2000000 in
theorem call_any (h : MacAt w0 w U N b M V) (hU : UnAt w0 w0.heap.size U) (i : Ins) (cb co : Nat) (hi : InsAt w0 i cb co) (h8 : i.kind = 8) (hn : 0 ≤ i.n ∧ i.n ≤ 6) (htx : i.text.length ≤ 1000000)
    (kf : Nat) (rf : FnR) (hf : findN U.fns i.text = some kf) (hrf : U.fs[kf]? = some rf) (hrs : ∀ r ∈ i.args.take i.n.toNat, 0 ≤ r ∧ r < M.regs.length) (hll : i.n ≤ M.regs.length)
    (hs : M.sets.length = M.regs.length) (hfree : 0 ≤ M.free ∧ M.free ≤ 4096) (hfr : 0 ≤ rf.f.frame ∧ rf.f.frame ≤ 4096) (hcl : M.calls.length ≤ 1000000) (hal : M.aside.length ≤ 9000000) :
    Calls Try.prog 51 #[mP b, .pointer (some ⟨cb, co, none⟩)] w (MPost w0 U N b w V (callM U M kf rf i) (.tuple #[])) := by
  have hmix : Try.prog.follows .mixedOrders = true := by kernel_rfl
  have HI := Lib.hid hi; have HSL := Lib.hid hs; have HCL := Lib.hid hcl; have HAL := Lib.hid hal; have HF := Lib.hid hf; have HRF := Lib.hid hrf; have HT := Lib.hid htx; have HU := Lib.hid hU; have HFR := Lib.hid (And.intro hfree hfr)
  have H := Lib.hid h
  obtain ⟨rs, hrsE⟩ : ∃ rs, i.args.take i.n.toNat = rs := ⟨_, rfl⟩
  obtain ⟨n, hnE⟩ : ∃ n : Nat, i.n = n := ⟨i.n.toNat, by omega⟩
  have hlen : rs.length = n := by rw [← hrsE, List.length_take, Ins.args_length, hnE]; simp; omega
  have hAN : argN (n : Int) = n := by unfold argN; rw [if_neg (by omega), if_neg (by omega)]; simp
  have HCM : Hid (callM U M kf rf i = beginM U M kf rf i.dst (rs.map (mget M))) := Lib.hid (by unfold callM; rw [hrsE])
  have hat : ∀ (k : Nat) (r : Int), rs[k]? = some r → i.args[k]? = some r := fun k r hr => by
    rw [← hrsE] at hr
    rw [List.getElem?_take] at hr
    split at hr
    · exact hr
    · cases hr
  have HAT := Lib.hid hat
  rw [hrsE] at hrs
  have HRS := Lib.hid hrs
  have i0 : w.cell? ⟨cb, co, none⟩ = some (.int .i64 8) := by rw [← h8]; exact h.ins hi 0 _ rfl
  have i5 : w.cell? ⟨cb, co + 5, none⟩ = some (.int .i64 n) := by rw [← hnE]; exact h.ins hi 5 _ rfl
  have n6 : n ≤ 6 := by omega
  have HLEN : Hid ((rs.map (mget M)).length = n) := Lib.hid (by rw [List.length_map, hlen])
  have HL1 : Hid ((rs.map (mget M)).length ≤ M.regs.length) := Lib.hid (by rw [List.length_map, hlen]; omega)
  have HL6 : Hid ((rs.map (mget M)).length ≤ 6) := Lib.hid (by rw [List.length_map, hlen]; exact n6)
  have HRL := Lib.hid hlen
  have p0 : (0 : Int) ≤ (n : Int) := Int.natCast_nonneg _
  have p6 : (n : Int) ≤ 6 := by omega
  clear hi hs hcl hal hf hrf htx hfree hfr h hrsE hnE hat hrs hn hlen hll h8 hU
  go_enter Try.func51, Try.ntmps51
  go_wp2_with ((with_reducible refine (arguments_8 (n : Int) cb co w i0 i5).mono ?_); rintro e v ⟨rfl, rfl⟩)
  obtain ⟨wA, hwA⟩ : ∃ wA : World, (w.alloc (.cells #[.int .i64 0, .int .i64 0, .int .i64 0, .int .i64 0, .int .i64 0, .int .i64 0] 44)).drew = wA := ⟨_, rfl⟩
  have HB0 : Hid (Below w.heap.size w wA) := Lib.hid (by rw [← hwA]; exact ((Below.refl _ w).alloc (Nat.le_refl _) _).drew)
  have HZ0 : Hid (wA.heap[w.heap.size]? = some (wO (wordsL M rs 0))) := Lib.hid (by rw [← hwA]; exact heap_alloc_new w _)
  have HM0 := Lib.hid (H.out.keep HB0.out)
  rw [hwA]
  clear hwA i0 i5 hAN
  go_loopw [12] (fun s12 wr => ∃ k : Nat, k ≤ n ∧ s12 = .int .i64 k ∧ Hid (MacAt w0 wr U N b M V) ∧ Hid (Below w.heap.size w wr) ∧ Hid (wr.heap[w.heap.size]? = some (wO (wordsL M rs k)))) (fun i wr => n - (intOf i).toNat)
  case atStart => exact ⟨0, by omega, rfl, HM0, HB0, HZ0⟩
  case round =>
    clear HM0 HB0 HZ0
    obtain ⟨k, hk, rfl, HML, HB, HZ⟩ := hrel
    have q0 : (0 : Int) ≤ (k : Int) := Int.natCast_nonneg _
    by_cases hlt : k < n
    · obtain ⟨r, hr⟩ : ∃ r, rs[k]? = some r := ⟨_, List.getElem?_eq_getElem (by rw [HRL.out]; exact hlt)⟩
      have hrb := HRS.out r (List.mem_of_getElem? hr)
      have g1 : wr.cell? ⟨cb, co + 7 + k, none⟩ = some (.int .i64 r) := by
        have := HML.out.ins HI.out (7 + k) _ (args_cell i k r (HAT.out k r hr))
        rwa [← Nat.add_assoc] at this
      have q1 : (k : Int) < (n : Int) := by omega
      have q6 : (k : Int) < 6 := by omega
      have t1 : decide ((k : Int) < (n : Int)) = true := by simpa using q1
      obtain ⟨x, hx⟩ : ∃ x, mget M r = x := ⟨_, rfl⟩
      have HXX := Lib.hid hx; have HRR := Lib.hid hr; have HRB := Lib.hid hrb
      obtain ⟨x0, hx0⟩ : ∃ x0, (wordsL M rs k)[k]? = some x0 := ⟨_, List.getElem?_eq_getElem (by rw [wordsL_len M rs k (by rw [HRL.out]; exact hk) (by rw [HRL.out]; omega)]; omega)⟩
      have HX0 := Lib.hid hx0
      have hzs : w.heap.size < wr.heap.size := lt_heap HZ.out
      clear hx hr hrb hx0
      go_wp2_with ((with_reducible refine (get_v HML.out r x HXX.out HRB.out.1 HRB.out.2 HSL.out (Nat.le_trans HCL.out (by decide))).mono ?_); rintro e wg ⟨rfl, hB⟩; have HZ2 := Lib.hid ((hB.block _ hzs).trans HZ.out); have HM2 := Lib.hid (HML.out.keep hB); have HB2 := Lib.hid (HB.out.trans (hB.mono HB.out.size)); obtain ⟨z1, z2⟩ := wO_cell HZ2.out HX0.out; clear hB)
      go_roundw
      case rel =>
        have HZ3 := wO_set HZ2.out k x
        rw [← HXX.out, wordsL_set M rs k r HRR.out (by rw [HRL.out]; omega), HXX.out] at HZ3
        have HB3 := HB2.out.setCell (p := ⟨w.heap.size, k, none⟩) (Nat.le_refl _) (Value.int .i64 x)
        exact ⟨k + 1, by omega, by go_num, Lib.hid (H.out.keep HB3), Lib.hid HB3, Lib.hid HZ3⟩
      case measure => simp [intOf]; omega
    · obtain rfl : k = n := by omega
      have t1 : decide ((k : Int) < (k : Int)) = false := by simp
      have HARG : Hid (ArgAt b V wr.drew (some ⟨w.heap.size, 0, none⟩) (rs.map (mget M))) := Lib.hid (by
        intro h0
        have h1 := H.out.hi; have h2 := H.out.base
        refine ⟨w.heap.size, 0, rfl, lt_heap HZ.out, by omega, by omega, by omega, ?_, fun j x hx => ?_⟩
        · rintro (e | e | e)
          · have := (H.out.aside.lt _ e).2; omega
          · have := (H.out.calls.lt _ e).2; omega
          · have := (H.out.out.lt _ e).2; omega
        · have hj : j < (rs.map (mget M)).length := (List.getElem?_eq_some_iff.1 hx).1
          rw [Nat.zero_add]
          refine (wO_cell HZ.out (j := j) (x := x) ?_).1
          unfold wordsL
          rw [List.take_of_length_le (by rw [HRL.out]; exact Nat.le_refl _), List.getElem?_append_left hj]
          exact hx)
      go_wp2
      refine region_last (fun W : World => ∃ (M' : Mac) (V' : MV), MacAt w0 W U N b M' V') 1000000 hmix ?_
      have hL : MacAt w0 wr.drew U N b M V := HML.out.keep ((Below.refl _ wr).drew)
      have hS : (fun W : World => ∃ (M' : Mac) (V' : MV), MacAt w0 W U N b M' V') wr.drew := ⟨M, V, hL⟩
      refine anyL_takeH (i := 0) (v := ?_) rfl (by decide) (by kernel_rfl) (by kernel_rfl) (by kernel_rfl) (fun _ _ _ h => h) (Or.inl ⟨by rfl, ?_⟩) hS ?_
      rotate_left
      · (intro w' hSw; obtain ⟨M', V', hSm⟩ := hSw; obtain ⟨_, _, _, s3, _⟩ := hSm.cells; have s2 : w'.cell? ⟨cb, co + 2, none⟩ = some (.int .i64 i.dst) := hSm.ins HI.out 2 _ rfl; have s6 : w'.cell? ⟨cb, co + 6, none⟩ = some (.string (sb i.text)) := hSm.ins HI.out 6 _ rfl; have sl := hSm.pl.look1 HT.out HF.out; clear hSm; go_simp; first | done | with_reducible rfl)
      simp only [Act.put, List.getElem_toArray, List.getElem_cons_succ, List.getElem_cons_zero, List.setIfInBounds_toArray, List.set_cons_succ, List.set_cons_zero]
      refine anyL_takeH (i := 1) (v := ?_) rfl (by decide) (by kernel_rfl) (by kernel_rfl) (by kernel_rfl) (fun _ _ _ h => h) (Or.inl ⟨by rfl, ?_⟩) hS ?_
      rotate_left
      · (intro w' hSw; obtain ⟨M', V', hSm⟩ := hSw; obtain ⟨_, _, _, s3, _⟩ := hSm.cells; have s2 : w'.cell? ⟨cb, co + 2, none⟩ = some (.int .i64 i.dst) := hSm.ins HI.out 2 _ rfl; have s6 : w'.cell? ⟨cb, co + 6, none⟩ = some (.string (sb i.text)) := hSm.ins HI.out 6 _ rfl; have sl := hSm.pl.look1 HT.out HF.out; clear hSm; go_simp; first | done | with_reducible rfl)
      simp only [Act.put, List.getElem_toArray, List.getElem_cons_succ, List.getElem_cons_zero, List.setIfInBounds_toArray, List.set_cons_succ, List.set_cons_zero]
      refine anyL_takeH (i := 2) (v := ?_) rfl (by decide) (by kernel_rfl) (by kernel_rfl) (by kernel_rfl) (fun _ _ _ h => h) (Or.inl ⟨by rfl, ?_⟩) hS ?_
      rotate_left
      · (intro w' hSw; obtain ⟨M', V', hSm⟩ := hSw; obtain ⟨_, _, _, s3, _⟩ := hSm.cells; have s2 : w'.cell? ⟨cb, co + 2, none⟩ = some (.int .i64 i.dst) := hSm.ins HI.out 2 _ rfl; have s6 : w'.cell? ⟨cb, co + 6, none⟩ = some (.string (sb i.text)) := hSm.ins HI.out 6 _ rfl; have sl := hSm.pl.look1 HT.out HF.out; clear hSm; go_simp; first | done | with_reducible rfl)
      simp only [Act.put, List.getElem_toArray, List.getElem_cons_succ, List.getElem_cons_zero, List.setIfInBounds_toArray, List.set_cons_succ, List.set_cons_zero]
      refine anyL_takeH (i := 3) (v := ?_) rfl (by decide) (by kernel_rfl) (by kernel_rfl) (by kernel_rfl) (fun _ _ _ h => h) (Or.inl ⟨by rfl, ?_⟩) hS ?_
      rotate_left
      · (intro w' hSw; obtain ⟨M', V', hSm⟩ := hSw; obtain ⟨_, _, _, s3, _⟩ := hSm.cells; have s2 : w'.cell? ⟨cb, co + 2, none⟩ = some (.int .i64 i.dst) := hSm.ins HI.out 2 _ rfl; have s6 : w'.cell? ⟨cb, co + 6, none⟩ = some (.string (sb i.text)) := hSm.ins HI.out 6 _ rfl; have sl := hSm.pl.look1 HT.out HF.out; clear hSm; go_simp; first | done | with_reducible rfl)
      simp only [Act.put, List.getElem_toArray, List.getElem_cons_succ, List.getElem_cons_zero, List.setIfInBounds_toArray, List.set_cons_succ, List.set_cons_zero]
      refine anyL_takeH (i := 4) (v := ?_) rfl (by decide) (by kernel_rfl) (by kernel_rfl) (by kernel_rfl) (fun _ _ _ h => h) (Or.inl ⟨by rfl, ?_⟩) hS ?_
      rotate_left
      · (intro w' hSw; obtain ⟨M', V', hSm⟩ := hSw; obtain ⟨_, _, _, s3, _⟩ := hSm.cells; have s2 : w'.cell? ⟨cb, co + 2, none⟩ = some (.int .i64 i.dst) := hSm.ins HI.out 2 _ rfl; have s6 : w'.cell? ⟨cb, co + 6, none⟩ = some (.string (sb i.text)) := hSm.ins HI.out 6 _ rfl; have sl := hSm.pl.look1 HT.out HF.out; clear hSm; go_simp; first | done | with_reducible rfl)
      simp only [Act.put, List.getElem_toArray, List.getElem_cons_succ, List.getElem_cons_zero, List.setIfInBounds_toArray, List.set_cons_succ, List.set_cons_zero]
      refine anyL_takeH (i := 5) (v := ?_) rfl (by decide) (by kernel_rfl) (by kernel_rfl) (by kernel_rfl) (fun _ _ _ h => h) (Or.inl ⟨by rfl, ?_⟩) hS ?_
      rotate_left
      · (intro w' hSw; obtain ⟨M', V', hSm⟩ := hSw; obtain ⟨_, _, _, s3, _⟩ := hSm.cells; have s2 : w'.cell? ⟨cb, co + 2, none⟩ = some (.int .i64 i.dst) := hSm.ins HI.out 2 _ rfl; have s6 : w'.cell? ⟨cb, co + 6, none⟩ = some (.string (sb i.text)) := hSm.ins HI.out 6 _ rfl; have sl := hSm.pl.look1 HT.out HF.out; clear hSm; go_simp; first | done | with_reducible rfl)
      simp only [Act.put, List.getElem_toArray, List.getElem_cons_succ, List.getElem_cons_zero, List.setIfInBounds_toArray, List.set_cons_succ, List.set_cons_zero]
      refine anyL_takeH (i := 6) (v := ?_) rfl (by decide) (by kernel_rfl) (by kernel_rfl) (by kernel_rfl) (fun _ _ _ h => h) (Or.inl ⟨by rfl, ?_⟩) hS ?_
      rotate_left
      · (intro w' hSw; obtain ⟨M', V', hSm⟩ := hSw; obtain ⟨_, _, _, s3, _⟩ := hSm.cells; have s2 : w'.cell? ⟨cb, co + 2, none⟩ = some (.int .i64 i.dst) := hSm.ins HI.out 2 _ rfl; have s6 : w'.cell? ⟨cb, co + 6, none⟩ = some (.string (sb i.text)) := hSm.ins HI.out 6 _ rfl; have sl := hSm.pl.look1 HT.out HF.out; clear hSm; go_simp; first | done | with_reducible rfl)
      simp only [Act.put, List.getElem_toArray, List.getElem_cons_succ, List.getElem_cons_zero, List.setIfInBounds_toArray, List.set_cons_succ, List.set_cons_zero]
      refine anyL_takeH (i := 7) (v := ?_) rfl (by decide) (by kernel_rfl) (by kernel_rfl) (by kernel_rfl) (fun _ _ _ h => h) (Or.inl ⟨by rfl, ?_⟩) hS ?_
      rotate_left
      · (intro w' hSw; obtain ⟨M', V', hSm⟩ := hSw; obtain ⟨_, _, _, s3, _⟩ := hSm.cells; have s2 : w'.cell? ⟨cb, co + 2, none⟩ = some (.int .i64 i.dst) := hSm.ins HI.out 2 _ rfl; have s6 : w'.cell? ⟨cb, co + 6, none⟩ = some (.string (sb i.text)) := hSm.ins HI.out 6 _ rfl; have sl := hSm.pl.look1 HT.out HF.out; clear hSm; go_simp; first | done | with_reducible rfl)
      simp only [Act.put, List.getElem_toArray, List.getElem_cons_succ, List.getElem_cons_zero, List.setIfInBounds_toArray, List.set_cons_succ, List.set_cons_zero]
      refine anyL_takeH (i := 8) (v := ?_) rfl (by decide) (by kernel_rfl) (by kernel_rfl) (by kernel_rfl) (fun _ _ _ h => h) (Or.inl ⟨by rfl, ?_⟩) hS ?_
      rotate_left
      · (intro w' hSw; obtain ⟨M', V', hSm⟩ := hSw; obtain ⟨_, _, _, s3, _⟩ := hSm.cells; have s2 : w'.cell? ⟨cb, co + 2, none⟩ = some (.int .i64 i.dst) := hSm.ins HI.out 2 _ rfl; have s6 : w'.cell? ⟨cb, co + 6, none⟩ = some (.string (sb i.text)) := hSm.ins HI.out 6 _ rfl; have sl := hSm.pl.look1 HT.out HF.out; clear hSm; go_simp; first | done | with_reducible rfl)
      simp only [Act.put, List.getElem_toArray, List.getElem_cons_succ, List.getElem_cons_zero, List.setIfInBounds_toArray, List.set_cons_succ, List.set_cons_zero]
      refine anyL_takeH (i := 9) (v := ?_) rfl (by decide) (by kernel_rfl) (by kernel_rfl) (by kernel_rfl) (fun _ _ _ h => h) (Or.inl ⟨by rfl, ?_⟩) hS ?_
      rotate_left
      · (intro w' hSw; obtain ⟨M', V', hSm⟩ := hSw; obtain ⟨_, _, _, s3, _⟩ := hSm.cells; have s2 : w'.cell? ⟨cb, co + 2, none⟩ = some (.int .i64 i.dst) := hSm.ins HI.out 2 _ rfl; have s6 : w'.cell? ⟨cb, co + 6, none⟩ = some (.string (sb i.text)) := hSm.ins HI.out 6 _ rfl; have sl := hSm.pl.look1 HT.out HF.out; clear hSm; go_simp; first | done | with_reducible rfl)
      simp only [Act.put, List.getElem_toArray, List.getElem_cons_succ, List.getElem_cons_zero, List.setIfInBounds_toArray, List.set_cons_succ, List.set_cons_zero]
      refine anyL_takeH (i := 10) (v := ?_) rfl (by decide) (by kernel_rfl) (by kernel_rfl) (by kernel_rfl) (fun _ _ _ h => h) (Or.inl ⟨by rfl, ?_⟩) hS ?_
      rotate_left
      · (intro w' hSw; obtain ⟨M', V', hSm⟩ := hSw; obtain ⟨_, _, _, s3, _⟩ := hSm.cells; have s2 : w'.cell? ⟨cb, co + 2, none⟩ = some (.int .i64 i.dst) := hSm.ins HI.out 2 _ rfl; have s6 : w'.cell? ⟨cb, co + 6, none⟩ = some (.string (sb i.text)) := hSm.ins HI.out 6 _ rfl; have sl := hSm.pl.look1 HT.out HF.out; clear hSm; go_simp; first | done | with_reducible rfl)
      simp only [Act.put, List.getElem_toArray, List.getElem_cons_succ, List.getElem_cons_zero, List.setIfInBounds_toArray, List.set_cons_succ, List.set_cons_zero]
      refine anyL_takeH (i := 11) (v := ?_) rfl (by decide) (by kernel_rfl) (by kernel_rfl) (by kernel_rfl) (fun _ _ _ h => h) (Or.inl ⟨by rfl, ?_⟩) hS ?_
      rotate_left
      · (intro w' hSw; obtain ⟨M', V', hSm⟩ := hSw; obtain ⟨_, _, _, s3, _⟩ := hSm.cells; have s2 : w'.cell? ⟨cb, co + 2, none⟩ = some (.int .i64 i.dst) := hSm.ins HI.out 2 _ rfl; have s6 : w'.cell? ⟨cb, co + 6, none⟩ = some (.string (sb i.text)) := hSm.ins HI.out 6 _ rfl; have sl := hSm.pl.look1 HT.out HF.out; clear hSm; go_simp; first | done | with_reducible rfl)
      simp only [Act.put, List.getElem_toArray, List.getElem_cons_succ, List.getElem_cons_zero, List.setIfInBounds_toArray, List.set_cons_succ, List.set_cons_zero]
      refine anyL_takeH (i := 12) (v := ?_) rfl (by decide) (by kernel_rfl) (by kernel_rfl) (by kernel_rfl) (fun _ _ _ h => h) (Or.inl ⟨by rfl, ?_⟩) hS ?_
      rotate_left
      · (intro w' hSw; obtain ⟨M', V', hSm⟩ := hSw; obtain ⟨_, _, _, s3, _⟩ := hSm.cells; have s2 : w'.cell? ⟨cb, co + 2, none⟩ = some (.int .i64 i.dst) := hSm.ins HI.out 2 _ rfl; have s6 : w'.cell? ⟨cb, co + 6, none⟩ = some (.string (sb i.text)) := hSm.ins HI.out 6 _ rfl; have sl := hSm.pl.look1 HT.out HF.out; clear hSm; go_simp; first | done | with_reducible rfl)
      simp only [Act.put, List.getElem_toArray, List.getElem_cons_succ, List.getElem_cons_zero, List.setIfInBounds_toArray, List.set_cons_succ, List.set_cons_zero]
      refine anyL_takeH (i := 13) (v := ?_) rfl (by decide) (by kernel_rfl) (by kernel_rfl) (by kernel_rfl) (fun _ _ _ h => h) (Or.inl ⟨by rfl, ?_⟩) hS ?_
      rotate_left
      · (intro w' hSw; obtain ⟨M', V', hSm⟩ := hSw; obtain ⟨_, _, _, s3, _⟩ := hSm.cells; have s2 : w'.cell? ⟨cb, co + 2, none⟩ = some (.int .i64 i.dst) := hSm.ins HI.out 2 _ rfl; have s6 : w'.cell? ⟨cb, co + 6, none⟩ = some (.string (sb i.text)) := hSm.ins HI.out 6 _ rfl; have sl := hSm.pl.look1 HT.out HF.out; clear hSm; go_simp; first | done | with_reducible rfl)
      simp only [Act.put, List.getElem_toArray, List.getElem_cons_succ, List.getElem_cons_zero, List.setIfInBounds_toArray, List.set_cons_succ, List.set_cons_zero]
      refine anyL_takeH (i := 14) (v := ?_) rfl (by decide) (by kernel_rfl) (by kernel_rfl) (by kernel_rfl) (fun _ _ _ h => h) (Or.inl ⟨by rfl, ?_⟩) hS ?_
      rotate_left
      · (intro w' hSw; obtain ⟨M', V', hSm⟩ := hSw; obtain ⟨_, _, _, s3, _⟩ := hSm.cells; have s2 : w'.cell? ⟨cb, co + 2, none⟩ = some (.int .i64 i.dst) := hSm.ins HI.out 2 _ rfl; have s6 : w'.cell? ⟨cb, co + 6, none⟩ = some (.string (sb i.text)) := hSm.ins HI.out 6 _ rfl; have sl := hSm.pl.look1 HT.out HF.out; clear hSm; go_simp; first | done | with_reducible rfl)
      simp only [Act.put, List.getElem_toArray, List.getElem_cons_succ, List.getElem_cons_zero, List.setIfInBounds_toArray, List.set_cons_succ, List.set_cons_zero]
      refine anyL_takeH (i := 15) (v := ?_) rfl (by decide) (by kernel_rfl) (by kernel_rfl) (by kernel_rfl) (fun _ _ _ h => h) (Or.inl ⟨by rfl, ?_⟩) hS ?_
      rotate_left
      · (intro w' hSw; obtain ⟨M', V', hSm⟩ := hSw; obtain ⟨_, _, _, s3, _⟩ := hSm.cells; have s2 : w'.cell? ⟨cb, co + 2, none⟩ = some (.int .i64 i.dst) := hSm.ins HI.out 2 _ rfl; have s6 : w'.cell? ⟨cb, co + 6, none⟩ = some (.string (sb i.text)) := hSm.ins HI.out 6 _ rfl; have sl := hSm.pl.look1 HT.out HF.out; clear hSm; go_simp; first | done | with_reducible rfl)
      simp only [Act.put, List.getElem_toArray, List.getElem_cons_succ, List.getElem_cons_zero, List.setIfInBounds_toArray, List.set_cons_succ, List.set_cons_zero]
      refine anyL_takeH (i := 16) (v := ?_) rfl (by decide) (by kernel_rfl) (by kernel_rfl) (by kernel_rfl) (fun _ _ _ h => h) (Or.inl ⟨by rfl, ?_⟩) hS ?_
      rotate_left
      · (intro w' hSw; obtain ⟨M', V', hSm⟩ := hSw; obtain ⟨_, _, _, s3, _⟩ := hSm.cells; have s2 : w'.cell? ⟨cb, co + 2, none⟩ = some (.int .i64 i.dst) := hSm.ins HI.out 2 _ rfl; have s6 : w'.cell? ⟨cb, co + 6, none⟩ = some (.string (sb i.text)) := hSm.ins HI.out 6 _ rfl; have sl := hSm.pl.look1 HT.out HF.out; clear hSm; go_simp; first | done | with_reducible rfl)
      simp only [Act.put, List.getElem_toArray, List.getElem_cons_succ, List.getElem_cons_zero, List.setIfInBounds_toArray, List.set_cons_succ, List.set_cons_zero]
      refine anyL_one (i := 17) (by kernel_rfl) rfl (fun K1 hK1 => ?_)
      go_simp
      refine (begin_n hL HU.out kf rf HRF.out i.dst (some ⟨w.heap.size, 0, none⟩) 6 (rs.map (mget M)) k HLEN.out HARG.out HL1.out HL6.out HSL.out HFR.out.1 HFR.out.2 HCL.out HAL.out).mono ?_
      rintro e v ⟨rfl, V2, hm2, hv2⟩
      have hS3 : (fun W : World => ∃ (M' : Mac) (V' : MV), MacAt w0 W U N b M' V') v := ⟨_, V2, hm2⟩
      have HM5 := Lib.hid hm2; have HV5 := Lib.hid ((Mov.of_below (HB.out.trans (((Below.refl _ wr).drew).mono HB.out.size))).trans hv2); clear hm2 hv2 hS hL
      refine hK1.out _ _ (fun _ => hS3) ?_
      clear hK1 K1 hS3
      refine anyL_done (by kernel_rfl) ?_ _
      go_wp2
      go_end0
      exact ⟨rfl, V2, by rw [HCM.out]; exact HM5.out, HV5.out⟩
end Go.Proofs.Ytmcpfjhdeplgmaa
namespace Go.Proofs.Ytmcpfjhdeplgmaa
open Go.RowKit Cd Go.Maps
set_option linter.unusedVariables false
set_option linter.unusedSimpArgs false
variable {w0 w w' : World} {U : UnR} {N : Nat} {b : Blk} {M : Mac} {V : MV}
theorem own_set7 {w : World} {B n cap size g j : Nat} {e : TypeId} {xs : List Value} (h : w.ownsRow B e size (.slice (some ⟨g, 0, none⟩) n cap) n xs) (u : Value) : (w.setCell ⟨g, j, none⟩ u).ownsRow B e size (.slice (some ⟨g, 0, none⟩) n cap) n (xs.set j u) := by
  obtain ⟨hl, ⟨h0, _⟩ | ⟨g', cap', cur, hv, hg, hh, h1, h2, h3, ht⟩⟩ := h
  · cases h0
  · injection hv with hv _ hcap
    injection hv with hv
    injection hv with hv _ _
    subst hv hcap
    refine ⟨by simpa using hl, .inr ⟨g, cap, cur.setIfInBounds j u, rfl, hg, cells_set hh j u, h1, h2, by simpa using h3, ?_⟩⟩
    rw [Array.toList_setIfInBounds, List.take_set, ht]
/-- The machine goes on at p in its innermost call. -/
def posM (M : Mac) (ini : List Cal) (c : Cal) (p : Int) : Mac := { M with calls := ini ++ [{ c with pos := p }] }
theorem MacAt.setPos {ini : List Cal} {c : Cal} {g n cap : Nat} (h : MacAt w0 w U N b M V) (hc : M.calls = ini ++ [c]) (hv : V.vc = .slice (some ⟨g, 0, none⟩) n cap) (p : Int) :
    MacAt w0 (w.setCell ⟨g, ini.length * 5 + 1, none⟩ (.int .i64 p)) U N b (posM M ini c p) V := by
  have ho := h.calls
  have hg := ho.lt g (by rw [hv]; rfl)
  have hgo : V.vc.ownBlock = some g := by rw [hv]; rfl
  obtain ⟨l1, l2, l3, l4⟩ := h.lo
  obtain ⟨i1, i2, i3, i4⟩ := h.hi
  have hlen : n = M.calls.length := by
    obtain ⟨a, cc, h1, _⟩ := row_parts ho
    rw [hv] at h1
    injection h1
  have e : (M.calls.flatMap (calCells U)).set (ini.length * 5 + 1) (.int .i64 p) = (posM M ini c p).calls.flatMap (calCells U) := by
    unfold posM
    simp only
    rw [hc]
    simp only [List.flatMap_append, List.flatMap_cons, List.flatMap_nil, List.append_nil]
    rw [List.set_append_right _ _ (by rw [flat_len (calCells_len U)]; omega), flat_len (calCells_len U)]
    rw [show ini.length * 5 + 1 - ini.length * 5 = 1 by omega]
    rfl
  refine ⟨h.below.setCell (show w0.heap.size ≤ g by have := h.below.size; have := h.base; omega) _, h.lo, h.hi, h.ne, (heap_other7 (by omega)).trans h.box, h.memlen, (heap_other7 (by omega)).trans h.regs, (heap_other7 (by omega)).trans h.sets, h.pl.keep (heap_other7 (by omega)),
    own_keep h.aside (fun k hk => heap_other7 (fun e => h.ac k hk (by rw [hgo, e]))), ?_, own_keep h.out (fun k hk => heap_other7 (fun e => h.co g hgo (by rw [← e]; exact hk))), h.inp, h.ac, h.ao, h.co, by simpa using h.base⟩
  have hl2 : (posM M ini c p).calls.length = M.calls.length := by unfold posM; rw [hc]; simp
  rw [hl2, ← e, hv]
  rw [hv, ← hlen] at ho
  rw [← hlen]
  exact own_set7 ho _
theorem Mov.pos {g n cap : Nat} (hv : V.vc = .slice (some ⟨g, 0, none⟩) n cap) (j : Nat) (u : Value) : Mov b w V (w.setCell ⟨g, j, none⟩ u) V :=
  ⟨by simp, fun _ h => .inl h, fun k _ _ _ _ h4 => heap_other7 (fun e => h4 (.inr (.inl (by rw [hv, e]; rfl))))⟩
end Go.Proofs.Ytmcpfjhdeplgmaa
namespace Go.Proofs.Ytmcpfjhdeplgmaa
open Go.RowKit Cd Go.Maps
set_option linter.unusedVariables false
set_option linter.unusedSimpArgs false
variable {w0 w w' : World} {U : UnR} {N : Nat} {b : Blk} {M : Mac} {V : MV}
/-- The machine behind its fuel and its place. -/
def onM (M : Mac) (ini : List Cal) (c : Cal) : Mac := posM { M with fuel := M.fuel - 1 } ini c (c.pos + 1)
theorem UnAt.ins {w0 : World} {U : UnR} (hU : UnAt w0 w0.heap.size U) {k : Nat} {rr : FnR} (hr : U.fs[k]? = some rr) {p : Nat} {i : Ins} (hi : rr.f.code[p]? = some i) :
    ∃ cb off, rr.ca = some ⟨cb, off, none⟩ ∧ InsAt w0 i cb (off + p * 15) := by
  obtain ⟨cb, off, ha, hb, _, hc⟩ := RowAt.item inCells_len (hU.code rr (List.mem_of_getElem? hr)) hi (by omega)
  exact ⟨cb, off, ha, hb, fun j u hu => by
    have hj : j < 15 := by rw [← inCells_len i]; exact (List.getElem?_eq_some_iff.1 hu).1
    rw [Nat.add_assoc] at *
    first | exact hc j u hu | (rw [← Nat.add_assoc]; exact hc j u hu)⟩
set_option maxRecDepth 100000 in
set_option maxHeartbeats 4000000 in
theorem step_none (h : MacAt w0 w U N b M V) (hf : M.fuel = 0) : Calls Try.prog 33 #[mP b] w (MPost w0 U N b w V { M with fin := 4, code := 0 } (.tuple #[])) := by
  obtain ⟨_, _, _, _, _, _, _, _, _, _, c10, _⟩ := h.cells
  rw [hf] at c10
  have H := Lib.hid h
  clear h hf
  go_enter Try.func33, Try.ntmps33
  go_wp2_with ((with_reducible refine (finish_any H.out 4 0).mono ?_); rintro e v ⟨rfl, V2, hm2, hv2⟩; have HM5 := Lib.hid hm2; have HV5 := Lib.hid hv2; clear hm2 hv2)
  go_end0
  exact ⟨rfl, V2, HM5.out, HV5.out⟩
theorem StIn.on {i : Ins} {ini : List Cal} {c : Cal} (h : StIn M i) (hc : M.calls = ini ++ [c]) : StIn (onM M ini c) i :=
  ⟨h.a, h.b, h.d, h.s, by have e : (onM M ini c).calls.length = M.calls.length := by unfold onM posM; rw [hc]; simp
                          rw [e]; exact h.c, h.l⟩
theorem StA.on {i : Ins} {ini : List Cal} {c : Cal} (h : StA M i) (hc : M.calls = ini ++ [c]) : StA (onM M ini c) i :=
  ⟨h.a, h.b, h.s, by have e : (onM M ini c).calls.length = M.calls.length := by unfold onM posM; rw [hc]; simp
                     rw [e]; exact h.c, h.l⟩
end Go.Proofs.Ytmcpfjhdeplgmaa
