/-
  doppelref07's Run: a round's piece: the first call is over.
-/
import Derived.Test.YtgnpbodhjmappaaPPF
set_option linter.unusedVariables false
set_option linter.unusedSimpArgs false
namespace Go.Proofs.Ytgnpbodhjmappaa
set_option maxRecDepth 100000
open Go.RowKit Cd
set_option maxHeartbeats 8000000 in
set_option maxRecDepth 1000000 in
theorem piece_13e (w0 : World) (U : UnR) (N ub qb mb fb ib n : Nat) (mem : List Int) (out inp : List UInt8) (vi vo vs : Value) (f : FrR) (i : Ins) (w : World) (Us : Nat → Value) (p : Int) (Q : Exit → Act → World → Prop) (h : Mid w0 U N ub qb mb fb ib mem out inp vi vo vs [] f i w) (hk : i.kind = 13) (ha : 0 ≤ i.a ∧ i.a < f.fr.regs.length) (hgo : ∀ a w', RunZ w0 qb ⟨1, reg f.fr i.a, out⟩ a w' → Q .ret a w') :
    Code.wp Try.prog codeE Q (frM Us ub qb mb vi (.int .i64 ((n : Int) + 1)) vo vs (.pointer (some ⟨fb, 0, none⟩)) (.pointer (some ⟨ib, 0, none⟩)) (.int .i64 p) (.int .i64 0)) w := by
  obtain ⟨oa, oc, rfl⟩ := row_slice h.mem.outh
  obtain ⟨g, cap, rfl, hgN, hgw, g0, g1, g2, g3, g4, gf⟩ := h.mem.top
  have hcap : 1 ≤ cap := h.mem.cap
  have hsl : ∀ w, (Instr.sliceAt 100 (.slice (some ⟨g, 0, none⟩) (0 + 1) cap) none (some (.int .i64 0)) none).run Try.prog w = .ok (.slice (some ⟨g, 0, none⟩) 0 cap) w := by
    intro w
    obtain ⟨ti, hti⟩ : ∃ ti, Try.prog.info? 99 = some ti := by
      cases hx : Try.prog.info? 99 with
      | none => have h : (Try.prog.info? 99).isSome = true := by kernel_rfl
                rw [hx] at h; cases h
      | some ti => exact ⟨ti, rfl⟩
    rw [run_sliceAt_slice w _ _ _ _ _ (by kernel_rfl), run_slice_h w _ _ _ _ (by kernel_rfl) .i64 _ (by omega) (by omega)]
    have e : (sizeOf 99).run Try.prog w = .ok (Try.prog.cellsOf 99) w := run_sizeOf w hti
    have e2 : Try.prog.elem 100 = 99 := by kernel_rfl
    have e3 : Try.prog.cellsOf 99 = 5 := by kernel_rfl
    rw [e2, e, e3]
    simp [sliced, Result.andThen, Addr.add] <;> omega
  obtain ⟨i0, i1, i2, i3, i4, i5, i6, i7, i8, i9, i10, i11, i12, i13, i14⟩ := nv15 h.ibox
  obtain ⟨f0, f1, f2, f3, f4⟩ := nv5 h.fbox
  rw [hk] at i0
  have HM := Lib.hid h; clear h
  have HGO := Lib.hid hgo; clear hgo
  have HK := Lib.hid hk; clear hk
  have ra := HM.out.mem.reg (f := f) (by simp) ha
  have ra0 : (0 : Int) ≤ i.a := ha.1
  have ra1 : i.a < (f.fr.regs.length : Int) := ha.2
  clear ha
  obtain ⟨z0, z1, z2⟩ := frozen3 HM.out.mem.res
  obtain ⟨y0, y1, y2⟩ := nv3 HM.out.mem.res
  clear g0 g1 g2 g3 g4 gf
  unfold frM
  conv => arg 2; whnf
  go_wp2
  exact HGO.out _ _ ⟨HM.out.ended 1 (reg f.fr i.a), ub, mb, vi, (.int .i64 ((n : Int) + 1)), (.slice oa out.length oc), (.slice (some ⟨g, 0, none⟩) 0 cap), (.pointer (some ⟨fb, 0, none⟩)), (.pointer (some ⟨ib, 0, none⟩)), (.int .i64 p), (.int .i64 (reg f.fr i.a)), IsFr.of (by kernel_rfl)⟩
end Go.Proofs.Ytgnpbodhjmappaa
namespace Go.Proofs.Ytgnpbodhjmappaa
set_option maxRecDepth 100000
open Go.RowKit Cd
set_option maxHeartbeats 8000000 in
set_option maxRecDepth 1000000 in
theorem piece_13p (w0 : World) (U : UnR) (N ub qb mb fb ib n : Nat) (mem : List Int) (out inp : List UInt8) (vi vo vs : Value) (ini : List FrR) (q : FrR) (r : Rsu) (f : FrR) (i : Ins) (w : World) (Us : Nat → Value) (p : Int) (Q : Exit → Act → World → Prop) (h : Mid w0 U N ub qb mb fb ib mem out inp vi vo vs (ini ++ [q]) f i w) (hk : i.kind = 13) (ha : 0 ≤ i.a ∧ i.a < f.fr.regs.length) (hd : f.fr.dst < 0) (hrun : runS U.un n ⟨mem, out, inp, q.fr :: (ini.map (·.fr)).reverse⟩ = r) (hok : StkOk U.un (q.fr :: (ini.map (·.fr)).reverse)) (hob : out.length + n ≤ 1000000) (hst : ini.length + 1 + n ≤ 1000001) (hgo : ∀ a w', RunJ w0 U N ub qb mb r n a w' → Q (.exit 3) a w') :
    Code.wp Try.prog codeE Q (frM Us ub qb mb vi (.int .i64 ((n : Int) + 1)) vo vs (.pointer (some ⟨fb, 0, none⟩)) (.pointer (some ⟨ib, 0, none⟩)) (.int .i64 p) (.int .i64 0)) w := by
  obtain ⟨g, cap, rfl, hgN, hgw, g0, g1, g2, g3, g4, gf⟩ := h.mem.top
  have hcap : (ini ++ [q]).length + 1 ≤ cap := by have := h.mem.cap; simp at this ⊢; omega
  have hl : (ini ++ [q]).length = ini.length + 1 := by simp
  rw [hl] at h hcap ⊢
  have e0 : (0 : Int) ≤ (ini.length : Int) := Int.natCast_nonneg _
  have e1 : (ini.length : Int) ≤ 1000001 := by omega
  have hpop := h.mem.pop
  rw [hl] at hpop
  have hdd : decide (f.fr.dst ≥ (0 : Int)) = false := by simpa using hd
  have hdd2 : decide ((0 : Int) ≤ f.fr.dst) = false := by simpa using hd
  have hsl : ∀ w, (Instr.sliceAt 100 (.slice (some ⟨g, 0, none⟩) ((ini.length + 1) + 1) cap) none (some (.int .i64 ((ini.length : Int) + 1))) none).run Try.prog w = .ok (.slice (some ⟨g, 0, none⟩) (ini.length + 1) cap) w := by
    intro w
    obtain ⟨ti, hti⟩ : ∃ ti, Try.prog.info? 99 = some ti := by
      cases hx : Try.prog.info? 99 with
      | none => have h : (Try.prog.info? 99).isSome = true := by kernel_rfl
                rw [hx] at h; cases h
      | some ti => exact ⟨ti, rfl⟩
    rw [run_sliceAt_slice w _ _ _ _ _ (by kernel_rfl), run_slice_h w _ _ _ _ (by kernel_rfl) .i64 _ (by omega) (by omega)]
    have e : (sizeOf 99).run Try.prog w = .ok (Try.prog.cellsOf 99) w := run_sizeOf w hti
    have e2 : Try.prog.elem 100 = 99 := by kernel_rfl
    have e3 : Try.prog.cellsOf 99 = 5 := by kernel_rfl
    rw [e2, e, e3]
    simp [sliced, Result.andThen, Addr.add] <;> omega
  have HPOP := Lib.hid hpop; clear hpop
  have HRUN := Lib.hid hrun; clear hrun
  have HOK := Lib.hid hok; clear hok
  obtain ⟨i0, i1, i2, i3, i4, i5, i6, i7, i8, i9, i10, i11, i12, i13, i14⟩ := nv15 h.ibox
  obtain ⟨f0, f1, f2, f3, f4⟩ := nv5 h.fbox
  rw [hk] at i0
  have HM := Lib.hid h; clear h
  have HGO := Lib.hid hgo; clear hgo
  have HK := Lib.hid hk; clear hk
  have ra := HM.out.mem.reg (f := f) (by simp) ha
  have ra0 : (0 : Int) ≤ i.a := ha.1
  have ra1 : i.a < (f.fr.regs.length : Int) := ha.2
  clear ha
  clear g0 g1 g2 g3 g4 gf hl hcap
  unfold frM
  conv => arg 2; whnf
  go_wp2
  have hb := HM.out.far
  have hfl := lt_heap HM.out.fbox
  exact HGO.out _ _ ⟨vi, vo, _, _, _, _, _, ini ++ [q], ⟨mem, out, inp, q.fr :: (ini.map (·.fr)).reverse⟩, ⟨HM.out.un, HM.out.right, HPOP.out, by simp, by simp, HOK.out, HM.out.inp, HRUN.out, by omega, hob, by simp; omega⟩, IsFr.of (s12 := .pointer (some ⟨fb, 0, none⟩)) (s13 := .pointer (some ⟨ib, 0, none⟩)) (s14 := .int .i64 p) (s15 := .int .i64 (reg f.fr i.a)) (by kernel_rfl)⟩
end Go.Proofs.Ytgnpbodhjmappaa
namespace Go.Proofs.Ytgnpbodhjmappaa
set_option maxRecDepth 100000
open Go.RowKit Cd
set_option maxHeartbeats 8000000 in
set_option maxRecDepth 1000000 in
theorem piece_13q (w0 : World) (U : UnR) (N ub qb mb fb ib n : Nat) (mem : List Int) (out inp : List UInt8) (vi vo vs : Value) (ini : List FrR) (q : FrR) (r : Rsu) (f : FrR) (i : Ins) (w : World) (Us : Nat → Value) (p : Int) (Q : Exit → Act → World → Prop) (h : Mid w0 U N ub qb mb fb ib mem out inp vi vo vs (ini ++ [q]) f i w) (hk : i.kind = 13) (ha : 0 ≤ i.a ∧ i.a < f.fr.regs.length) (hd0 : 0 ≤ f.fr.dst) (hd1 : f.fr.dst < q.fr.regs.length) (hrun : runS U.un n ⟨mem, out, inp, { q.fr with regs := q.fr.regs.set f.fr.dst.toNat (reg f.fr i.a) } :: (ini.map (·.fr)).reverse⟩ = r) (hok : StkOk U.un ({ q.fr with regs := q.fr.regs.set f.fr.dst.toNat (reg f.fr i.a) } :: (ini.map (·.fr)).reverse)) (hob : out.length + n ≤ 1000000) (hst : ini.length + 1 + n ≤ 1000001) (hgo : ∀ a w', RunJ w0 U N ub qb mb r n a w' → Q (.exit 3) a w') :
    Code.wp Try.prog codeE Q (frM Us ub qb mb vi (.int .i64 ((n : Int) + 1)) vo vs (.pointer (some ⟨fb, 0, none⟩)) (.pointer (some ⟨ib, 0, none⟩)) (.int .i64 p) (.int .i64 0)) w := by
  obtain ⟨g, cap, rfl, hgN, hgw, g0, g1, g2, g3, g4, gf⟩ := h.mem.top
  have hcap : (ini ++ [q]).length + 1 ≤ cap := by have := h.mem.cap; simp at this ⊢; omega
  have hl : (ini ++ [q]).length = ini.length + 1 := by simp
  rw [hl] at h hcap ⊢
  have e0 : (0 : Int) ≤ (ini.length : Int) := Int.natCast_nonneg _
  have e1 : (ini.length : Int) ≤ 1000001 := by omega
  have hpop := h.mem.pop
  rw [hl] at hpop
  obtain ⟨g', cap', hv', hgN', hgw', t0, t1, t2, t3, t4, tf⟩ := hpop.top
  have hq := hpop.ap q (by simp)
  have rc := hpop.reg (f := q) (by simp) ⟨hd0, hd1⟩
  have rf := hpop.frozenReg (f := q) (by simp) f.fr.dst.toNat
  injection hv' with hv' _ hc'
  injection hv' with hv'
  injection hv' with hv' _ _
  subst hv' hc'
  have n1 : ¬ g = q.rb := fun e => hq.2.2 (by simp [Value.ownBlock, e])
  have n2 : ¬ q.rb = g := fun e => n1 e.symm
  have n3 : ¬ fb = q.rb := fun e => h.apf.2.2 q (by simp) e.symm
  have n4 : ¬ q.rb = fb := h.apf.2.2 q (by simp)
  have hdd : decide (f.fr.dst ≥ (0 : Int)) = true := by simpa using hd0
  have hdd2 : decide ((0 : Int) ≤ f.fr.dst) = true := by simpa using hd0
  clear hq tf t0 t1 t2 t3
  obtain ⟨M, hM⟩ : ∃ M, ini.length + 1 = M := ⟨_, rfl⟩
  rw [hM] at h hpop hcap ⊢
  have M0 : (0 : Int) < (M : Int) := by omega
  have M1 : (ini.length : Int) < (M : Int) := by omega
  have M2 : (M : Int) ≤ 1000002 := by omega
  have w1 : IntKind.i64.wrap ((M : Int) - 1) = (ini.length : Int) := by rw [IntKind.wrap_i64]; omega
  have hM := Lib.hid hM
  have hsl : ∀ w, (Instr.sliceAt 100 (.slice (some ⟨g, 0, none⟩) (M + 1) cap) none (some (.int .i64 (M : Int))) none).run Try.prog w = .ok (.slice (some ⟨g, 0, none⟩) M cap) w := by
    intro w
    obtain ⟨ti, hti⟩ : ∃ ti, Try.prog.info? 99 = some ti := by
      cases hx : Try.prog.info? 99 with
      | none => have h : (Try.prog.info? 99).isSome = true := by kernel_rfl
                rw [hx] at h; cases h
      | some ti => exact ⟨ti, rfl⟩
    rw [run_sliceAt_slice w _ _ _ _ _ (by kernel_rfl), run_slice_h w _ _ _ _ (by kernel_rfl) .i64 _ (by omega) (by omega)]
    have e : (sizeOf 99).run Try.prog w = .ok (Try.prog.cellsOf 99) w := run_sizeOf w hti
    have e2 : Try.prog.elem 100 = 99 := by kernel_rfl
    have e3 : Try.prog.cellsOf 99 = 5 := by kernel_rfl
    rw [e2, e, e3]
    simp [sliced, Result.andThen, Addr.add] <;> omega
  have HPOP := Lib.hid hpop; clear hpop
  have HRUN := Lib.hid hrun; clear hrun
  have HOK := Lib.hid hok; clear hok
  obtain ⟨i0, i1, i2, i3, i4, i5, i6, i7, i8, i9, i10, i11, i12, i13, i14⟩ := nv15 h.ibox
  obtain ⟨f0, f1, f2, f3, f4⟩ := nv5 h.fbox
  rw [hk] at i0
  have HM := Lib.hid h; clear h
  have HGO := Lib.hid hgo; clear hgo
  have HK := Lib.hid hk; clear hk
  have ra := HM.out.mem.reg (f := f) (by simp) ha
  have ra0 : (0 : Int) ≤ i.a := ha.1
  have ra1 : i.a < (f.fr.regs.length : Int) := ha.2
  clear ha
  clear g0 g1 g2 g3 g4 gf hl hcap
  unfold frM
  conv => arg 2; whnf
  go_wp2
  go_region_held3 (fun w' => w'.cell? ⟨g, ini.length * 5 + 4, none⟩ = some (.slice (some ⟨q.rb, 0, none⟩) q.fr.regs.length q.fr.regs.length) ∧ w'.cell? ⟨fb, 3, none⟩ = some (.int .i64 f.fr.dst)) (go_keep) (fail)
  all_goals go_wp2
  have hm := (HPOP.out.setReg f.fr.dst.toNat (reg f.fr i.a)).keep (drW (Below.refl _ _))
  have hb := HM.out.far
  have hfl := lt_heap HM.out.fbox
  exact HGO.out _ _ ⟨vi, vo, _, _, _, _, _, ini ++ [⟨{ q.fr with regs := q.fr.regs.set f.fr.dst.toNat (reg f.fr i.a) }, q.rb⟩], ⟨mem, out, inp, { q.fr with regs := q.fr.regs.set f.fr.dst.toNat (reg f.fr i.a) } :: (ini.map (·.fr)).reverse⟩, ⟨HM.out.un, HM.out.right, hm, by simp, by simp, HOK.out, HM.out.inp, HRUN.out, by simp; omega, hob, by simp; omega⟩, IsFr.of (s12 := .pointer (some ⟨fb, 0, none⟩)) (s13 := .pointer (some ⟨ib, 0, none⟩)) (s14 := .int .i64 p) (s15 := .int .i64 (reg f.fr i.a)) (by kernel_rfl)⟩
end Go.Proofs.Ytgnpbodhjmappaa
namespace Go.Proofs.Ytgnpbodhjmappaa
set_option maxRecDepth 100000
open Go.RowKit Cd
set_option maxHeartbeats 8000000 in
set_option maxRecDepth 1000000 in
theorem piece_T0 (w0 : World) (U : UnR) (N ub qb mb fb ib n : Nat) (mem : List Int) (out inp : List UInt8) (vi vo vs : Value) (ini : List FrR) (f : FrR) (i : Ins) (w : World) (Us : Nat → Value) (p v : Int) (r : Rsu) (Q : Exit → Act → World → Prop) (h : Mid w0 U N ub qb mb fb ib mem out inp vi vo vs ini f i w) (hrun : runS U.un n ⟨mem, out, inp, went f.fr i v p :: (ini.map (·.fr)).reverse⟩ = r) (hok : StkOk U.un (went f.fr i v p :: (ini.map (·.fr)).reverse)) (hob : out.length + n ≤ 1000000) (hst : ini.length + 1 + n ≤ 1000001) (hd : sets i = -1) (hgo : ∀ a w', RunJ w0 U N ub qb mb r n a w' → Q .normal a w') :
    Code.wp Try.prog codeT Q (frM Us ub qb mb vi (.int .i64 ((n : Int) + 1)) vo vs (.pointer (some ⟨fb, 0, none⟩)) (.pointer (some ⟨ib, 0, none⟩)) (.int .i64 p) (.int .i64 v)) w := by
  obtain ⟨g, cap, rfl, hgN, hgw, g0, g1, g2, g3, g4, gf⟩ := h.mem.top
  obtain ⟨i0, i1, i2, i3, i4, i5, i6, i7, i8, i9, i10, i11, i12, i13, i14⟩ := nv15 h.ibox
  obtain ⟨f0, f1, f2, f3, f4⟩ := nv5 h.fbox
  have hfl := lt_heap h.fbox
  have hil := lt_heap h.ibox
  have hrl := lt_heap (h.mem.regs f (by simp))
  have e0 : (0 : Int) ≤ (ini.length : Int) := Int.natCast_nonneg _
  have e1 : (ini.length : Int) ≤ 1000001 := by omega
  have HM := Lib.hid h; clear h
  have HGO := Lib.hid hgo; clear hgo
  have HRUN := Lib.hid hrun; clear hrun
  have HOK := Lib.hid hok; clear hok
  have HD := Lib.hid hd; clear hd
  unfold frM
  conv => arg 2; whnf
  go_wp2_with ((with_reducible refine (sets_v i (-1) HD.out _).mono ?_); rintro e v5 ⟨rfl, hb5⟩; replace g2 := (hb5.cell (p := ⟨g, ini.length * 5 + 2, none⟩) (by show g < w.heap.size; omega)).trans g2; replace f4 := (hb5.cell (p := ⟨fb, 4, none⟩) (by show fb < w.heap.size; omega)).trans f4; replace i2 := (hb5.cell (p := ⟨ib, 2, none⟩) (by show ib < w.heap.size; omega)).trans i2; have gf2 : v5.frozen? ⟨g, ini.length * 5 + 2, none⟩ = false := ((hb5.frozen (p := ⟨g, ini.length * 5 + 2, none⟩) (by show g < w.heap.size; omega))).trans (gf _); clear f0 f1 f2 f3 i0 i1 i3 i4 i5 i6 i7 i8 i9 i10 i11 i12 i13 i14 g0 g1 g3 g4 gf; have HB5 := Lib.hid hb5; clear hb5)
  have hm := (HM.out.mem.keep HB5.out).setPos p
  have e : (⟨{ f.fr with pos := p }, f.rb⟩ : FrR) = ⟨went f.fr i v p, f.rb⟩ := by unfold went; rw [HD.out]; rfl
  rw [e] at hm
  have hb := HM.out.far
  exact HGO.out _ _ ⟨vi, vo, _, _, _, _, _, ini ++ [⟨went f.fr i v p, f.rb⟩], ⟨mem, out, inp, went f.fr i v p :: (ini.map (·.fr)).reverse⟩, ⟨HM.out.un, HM.out.right, hm, by simp, by simp, HOK.out, HM.out.inp, HRUN.out, by have := HB5.out.size; simp; omega, hob, by simp; omega⟩, IsFr.of (s12 := .pointer (some ⟨fb, 0, none⟩)) (s13 := .pointer (some ⟨ib, 0, none⟩)) (s14 := .int .i64 p) (s15 := .int .i64 v) (by kernel_rfl)⟩
end Go.Proofs.Ytgnpbodhjmappaa
namespace Go.Proofs.Ytgnpbodhjmappaa
set_option maxRecDepth 100000
open Go.RowKit Cd
set_option maxHeartbeats 8000000 in
set_option maxRecDepth 1000000 in
theorem piece_T1 (w0 : World) (U : UnR) (N ub qb mb fb ib n : Nat) (mem : List Int) (out inp : List UInt8) (vi vo vs : Value) (ini : List FrR) (f : FrR) (i : Ins) (w : World) (Us : Nat → Value) (p v : Int) (r : Rsu) (Q : Exit → Act → World → Prop) (h : Mid w0 U N ub qb mb fb ib mem out inp vi vo vs ini f i w) (hrun : runS U.un n ⟨mem, out, inp, went f.fr i v p :: (ini.map (·.fr)).reverse⟩ = r) (hok : StkOk U.un (went f.fr i v p :: (ini.map (·.fr)).reverse)) (hob : out.length + n ≤ 1000000) (hst : ini.length + 1 + n ≤ 1000001) (hd : sets i = i.dst) (hd0 : 0 ≤ i.dst) (hd1 : i.dst < f.fr.regs.length) (hgo : ∀ a w', RunJ w0 U N ub qb mb r n a w' → Q .normal a w') :
    Code.wp Try.prog codeT Q (frM Us ub qb mb vi (.int .i64 ((n : Int) + 1)) vo vs (.pointer (some ⟨fb, 0, none⟩)) (.pointer (some ⟨ib, 0, none⟩)) (.int .i64 p) (.int .i64 v)) w := by
  have rc := h.mem.reg (f := f) (by simp) ⟨hd0, hd1⟩
  have rf := h.mem.frozenReg (f := f) (by simp) i.dst.toNat
  have hap := h.mem.ap f (by simp)
  obtain ⟨g, cap, rfl, hgN, hgw, g0, g1, g2, g3, g4, gf⟩ := h.mem.top
  obtain ⟨i0, i1, i2, i3, i4, i5, i6, i7, i8, i9, i10, i11, i12, i13, i14⟩ := nv15 h.ibox
  obtain ⟨f0, f1, f2, f3, f4⟩ := nv5 h.fbox
  have hfl := lt_heap h.fbox
  have hil := lt_heap h.ibox
  have hrl := lt_heap (h.mem.regs f (by simp))
  have e0 : (0 : Int) ≤ (ini.length : Int) := Int.natCast_nonneg _
  have e1 : (ini.length : Int) ≤ 1000001 := by omega
  have HM := Lib.hid h; clear h
  have HGO := Lib.hid hgo; clear hgo
  have HRUN := Lib.hid hrun; clear hrun
  have HOK := Lib.hid hok; clear hok
  have HD := Lib.hid hd; clear hd
  have hne : ¬ g = f.rb := fun e => hap.2.2 (by simp [Value.ownBlock, e])
  have hne2 : ¬ f.rb = g := fun e => hne e.symm
  clear hap
  unfold frM
  conv => arg 2; whnf
  go_wp2_with ((with_reducible refine (sets_v i i.dst HD.out _).mono ?_); rintro e v5 ⟨rfl, hb5⟩; replace g2 := (hb5.cell (p := ⟨g, ini.length * 5 + 2, none⟩) (by show g < w.heap.size; omega)).trans g2; replace f4 := (hb5.cell (p := ⟨fb, 4, none⟩) (by show fb < w.heap.size; omega)).trans f4; replace i2 := (hb5.cell (p := ⟨ib, 2, none⟩) (by show ib < w.heap.size; omega)).trans i2; have gf2 : v5.frozen? ⟨g, ini.length * 5 + 2, none⟩ = false := ((hb5.frozen (p := ⟨g, ini.length * 5 + 2, none⟩) (by show g < w.heap.size; omega))).trans (gf _); replace rc := (hb5.cell (p := ⟨f.rb, i.dst.toNat, none⟩) (by show f.rb < w.heap.size; omega)).trans rc; replace rf := (hb5.frozen (p := ⟨f.rb, i.dst.toNat, none⟩) (by show f.rb < w.heap.size; omega)).trans rf; clear f0 f1 f2 f3 i0 i1 i3 i4 i5 i6 i7 i8 i9 i10 i11 i12 i13 i14 g0 g1 g3 g4 gf; have HB5 := Lib.hid hb5; clear hb5)
  have hm := ((HM.out.mem.keep HB5.out).setReg i.dst.toNat v).setPos p
  have e : (⟨{ ({ f.fr with regs := f.fr.regs.set i.dst.toNat v } : Frm) with pos := p }, f.rb⟩ : FrR) = ⟨went f.fr i v p, f.rb⟩ := by unfold went; rw [HD.out, if_pos hd0]
  rw [show (⟨{ ({ f.fr with regs := f.fr.regs.set i.dst.toNat v } : Frm) with pos := p }, f.rb⟩ : FrR) = ⟨went f.fr i v p, f.rb⟩ from e] at hm
  have hb := HM.out.far
  exact HGO.out _ _ ⟨vi, vo, _, _, _, _, _, ini ++ [⟨went f.fr i v p, f.rb⟩], ⟨mem, out, inp, went f.fr i v p :: (ini.map (·.fr)).reverse⟩, ⟨HM.out.un, HM.out.right, hm, by simp, by simp, HOK.out, HM.out.inp, HRUN.out, by have := HB5.out.size; simp; omega, hob, by simp; omega⟩, IsFr.of (s12 := .pointer (some ⟨fb, 0, none⟩)) (s13 := .pointer (some ⟨ib, 0, none⟩)) (s14 := .int .i64 p) (s15 := .int .i64 v) (by kernel_rfl)⟩
end Go.Proofs.Ytgnpbodhjmappaa
namespace Go.Proofs.Ytgnpbodhjmappaa
set_option maxRecDepth 100000
open Go.RowKit Cd
set_option maxHeartbeats 8000000 in
set_option maxRecDepth 1000000 in
theorem piece_18 (w0 : World) (U : UnR) (N ub qb mb n : Nat) (mem : List Int) (out : List UInt8) (vi vo vs s12 s13 s14 s15 : Value) (ini : List FrR) (f : FrR) (w : World) (Us : Nat → Value) (Q : Exit → Act → World → Prop) (h : RunAt w0 w U N ub qb mb mem out vo vs (ini ++ [f])) (hst : ini.length ≤ 1000000) (hgo : ∀ Us', Q .normal (frM Us' ub qb mb vi (.int .i64 ((n : Int) + 1)) vo vs (.pointer (some ⟨w.heap.size, 0, none⟩)) s13 s14 s15) (w.alloc (frO f))) :
    Code.wp Try.prog (cL codeX) Q (frM Us ub qb mb vi (.int .i64 ((n : Int) + 1)) vo vs s12 s13 s14 s15) w := by
  obtain ⟨g, cap, rfl, hgN, hgw, g0, g1, g2, g3, g4, gf⟩ := h.top
  have e0 : (0 : Int) ≤ (ini.length : Int) := Int.natCast_nonneg _
  have e1 : (ini.length : Int) ≤ 1000001 := by omega
  have HGO := Lib.hid hgo; clear hgo
  have HM := Lib.hid h; clear h
  clear gf
  unfold frM
  conv => arg 2; whnf
  go_wp2
  obtain ⟨Us', e⟩ := IsFr.of (ub := ub) (qb := qb) (mb := mb) (vi := vi) (v2 := .int .i64 ((n : Int) + 1)) (vo := vo) (vs := .slice (some ⟨g, 0, none⟩) (ini.length + 1) cap) (s12 := .pointer (some ⟨w.heap.size, 0, none⟩)) (s13 := s13) (s14 := s14) (s15 := s15) (by kernel_rfl)
  rw [e]
  exact HGO.out Us'
end Go.Proofs.Ytgnpbodhjmappaa
namespace Go.Proofs.Ytgnpbodhjmappaa
set_option maxRecDepth 100000
open Go.RowKit Cd
set_option maxHeartbeats 8000000 in
set_option maxRecDepth 1000000 in
theorem piece_19 (w0 : World) (U : UnR) (N ub qb mb n : Nat) (mem : List Int) (out : List UInt8) (vi vo vs s12 s13 s14 s15 : Value) (ini : List FrR) (f : FrR) (w : World) (Us : Nat → Value) (Q : Exit → Act → World → Prop) (h : RunAt w0 w U N ub qb mb mem out vo vs (ini ++ [f])) (hun : UnAt w w0.heap.size U) (fb : Nat) (hfb : w.heap[fb]? = some (frO f)) (hNw : N ≤ w.heap.size) (gg : FnR) (hg : U.fs[f.fr.k]? = some gg) (hgood : FrGood U.un f.fr gg.f) (i : Ins) (hi : gg.f.code[f.fr.pos.toNat]? = some i) (hgo : ∀ Us' w' ib, Below w.heap.size w w' → w.heap.size ≤ ib → w'.heap[ib]? = some (inO i) → Q .normal (frM Us' ub qb mb vi (.int .i64 ((n : Int) + 1)) vo vs (.pointer (some ⟨fb, 0, none⟩)) (.pointer (some ⟨ib, 0, none⟩)) s14 s15) w') :
    Code.wp Try.prog (cL (cR codeX)) Q (frM Us ub qb mb vi (.int .i64 ((n : Int) + 1)) vo vs (.pointer (some ⟨fb, 0, none⟩)) s13 s14 s15) w := by
  obtain ⟨a0, a1, a2⟩ := nv3 h.un
  obtain ⟨f0, f1, f2, f3, f4⟩ := nv5 hfb
  obtain ⟨b, off, hfa, hb1, hbw, _, _, _, _, c4x⟩ := hun.fn hg
  obtain ⟨cb, co, hca, hcb, hcbw, i0, i1, i2, i3, i4, i5, i6, i7, i8, i9, i10, i11, i12, i13, i14⟩ := (hun.code gg (List.mem_of_getElem? hg)).cells hi
  rw [hfa] at a0; rw [hca] at c4x
  clear hfa hca
  have hfl := lt_heap hfb
  have hlu := h.lub
  have p0 : (0 : Int) ≤ (f.fr.k : Int) := Int.natCast_nonneg _
  have p1 : (f.fr.k : Int) < (U.fs.length : Int) := by have := (List.getElem?_eq_some_iff.1 hg).1; omega
  have p2 := hgood.pos.1
  have p3 := hgood.pos.2
  have m1 : ¬ ub = w.heap.size := by omega
  have m2 : ¬ fb = w.heap.size := by omega
  have m3 : ¬ b = w.heap.size := by omega
  have m4 : ¬ cb = w.heap.size := by omega
  have HGO := Lib.hid hgo; clear hgo
  have HM := Lib.hid h; clear h
  have HG := Lib.hid hgood; clear hgood
  have HFB := Lib.hid hfb; clear hfb
  clear hi hg hun hcbw hbw hb1 hcb a1 a2 f1 f3 f4
  unfold frM
  conv => arg 2; whnf
  go_region_held3 (fun w' => w'.cell? ⟨ub, 0, none⟩ = some (.slice (some ⟨b, off, none⟩) U.fs.length U.fc) ∧ w'.cell? ⟨fb, 0, none⟩ = some (.int .i64 f.fr.k) ∧ w'.cell? ⟨fb, 2, none⟩ = some (.int .i64 f.fr.pos) ∧ w'.cell? ⟨b, off + f.fr.k * 5 + 4, none⟩ = some (.slice (some ⟨cb, co, none⟩) gg.f.code.length gg.cc) ∧ w'.cell? ⟨cb, co + f.fr.pos.toNat * 15, none⟩ = some (.int .i64 i.kind) ∧ w'.cell? ⟨cb, co + f.fr.pos.toNat * 15 + 1, none⟩ = some (.int .i64 i.op) ∧ w'.cell? ⟨cb, co + f.fr.pos.toNat * 15 + 2, none⟩ = some (.int .i64 i.dst) ∧ w'.cell? ⟨cb, co + f.fr.pos.toNat * 15 + 3, none⟩ = some (.int .i64 i.a) ∧ w'.cell? ⟨cb, co + f.fr.pos.toNat * 15 + 4, none⟩ = some (.int .i64 i.b) ∧ w'.cell? ⟨cb, co + f.fr.pos.toNat * 15 + 5, none⟩ = some (.int .i64 i.n) ∧ w'.cell? ⟨cb, co + f.fr.pos.toNat * 15 + 6, none⟩ = some ((.string (sb i.text))) ∧ w'.cell? ⟨cb, co + f.fr.pos.toNat * 15 + 7, none⟩ = some (.int .i64 i.x0) ∧ w'.cell? ⟨cb, co + f.fr.pos.toNat * 15 + 8, none⟩ = some (.int .i64 i.x1) ∧ w'.cell? ⟨cb, co + f.fr.pos.toNat * 15 + 9, none⟩ = some (.int .i64 i.x2) ∧ w'.cell? ⟨cb, co + f.fr.pos.toNat * 15 + 10, none⟩ = some (.int .i64 i.x3) ∧ w'.cell? ⟨cb, co + f.fr.pos.toNat * 15 + 11, none⟩ = some (.int .i64 i.x4) ∧ w'.cell? ⟨cb, co + f.fr.pos.toNat * 15 + 12, none⟩ = some (.int .i64 i.x5) ∧ w'.cell? ⟨cb, co + f.fr.pos.toNat * 15 + 13, none⟩ = some (.int .i64 i.dest) ∧ w'.cell? ⟨cb, co + f.fr.pos.toNat * 15 + 14, none⟩ = some (.int .i64 i.els)) (go_keep) (fail)
  obtain ⟨Us', e⟩ := IsFr.of (ub := ub) (qb := qb) (mb := mb) (vi := vi) (v2 := .int .i64 ((n : Int) + 1)) (vo := vo) (vs := vs) (s12 := .pointer (some ⟨fb, 0, none⟩)) (s13 := .pointer (some ⟨w.heap.size, 0, none⟩)) (s14 := s14) (s15 := s15) (by kernel_rfl)
  rw [e]
  refine HGO.out Us' _ w.heap.size ?_ (Nat.le_refl _) ?_
  · exact drW ((Below.refl _ _).alloc (Nat.le_refl _) _)
  · exact heap_alloc_new w _
end Go.Proofs.Ytgnpbodhjmappaa
namespace Go.Proofs.Ytgnpbodhjmappaa
set_option maxRecDepth 100000
open Go.RowKit Cd
set_option maxHeartbeats 8000000 in
set_option maxRecDepth 1000000 in
theorem piece_20 (w0 : World) (U : UnR) (N ub qb mb n : Nat) (mem : List Int) (out : List UInt8) (vi vo vs s13 s14 s15 : Value) (ini : List FrR) (f : FrR) (w : World) (Us : Nat → Value) (Q : Exit → Act → World → Prop) (h : RunAt w0 w U N ub qb mb mem out vo vs (ini ++ [f])) (fb : Nat) (hfb : w.heap[fb]? = some (frO f)) (hp0 : 0 ≤ f.fr.pos) (hp1 : f.fr.pos ≤ 8192) (hgo : ∀ Us', Q .normal (frM Us' ub qb mb vi (.int .i64 ((n : Int) + 1)) vo vs (.pointer (some ⟨fb, 0, none⟩)) s13 (.int .i64 (f.fr.pos + 1)) s15) w) :
    Code.wp Try.prog (cL (cR (cR codeX))) Q (frM Us ub qb mb vi (.int .i64 ((n : Int) + 1)) vo vs (.pointer (some ⟨fb, 0, none⟩)) s13 s14 s15) w := by
  obtain ⟨f0, f1, f2, f3, f4⟩ := nv5 hfb
  have HGO := Lib.hid hgo; clear hgo
  have HM := Lib.hid h; clear h
  unfold frM
  conv => arg 2; whnf
  go_wp2
  obtain ⟨Us', e⟩ := IsFr.of (ub := ub) (qb := qb) (mb := mb) (vi := vi) (v2 := .int .i64 ((n : Int) + 1)) (vo := vo) (vs := vs) (s12 := .pointer (some ⟨fb, 0, none⟩)) (s13 := s13) (s14 := .int .i64 (f.fr.pos + 1)) (s15 := s15) (by kernel_rfl)
  rw [e]
  exact HGO.out Us'

set_option maxHeartbeats 8000000 in
set_option maxRecDepth 1000000 in
theorem piece_21 (ub qb mb : Nat) (vi v2 vo vs s12 s13 s14 s15 : Value) (w : World) (Us : Nat → Value) (Q : Exit → Act → World → Prop) (hgo : ∀ Us', Q .normal (frM Us' ub qb mb vi v2 vo vs s12 s13 s14 (.int .i64 0)) w) :
    Code.wp Try.prog (cL (cR (cR (cR codeX)))) Q (frM Us ub qb mb vi v2 vo vs s12 s13 s14 s15) w := by
  have HGO := Lib.hid hgo; clear hgo
  unfold frM
  conv => arg 2; whnf
  go_wp2
  obtain ⟨Us', e⟩ := IsFr.of (ub := ub) (qb := qb) (mb := mb) (vi := vi) (v2 := v2) (vo := vo) (vs := vs) (s12 := s12) (s13 := s13) (s14 := s14) (s15 := .int .i64 0) (by kernel_rfl)
  rw [e]
  exact HGO.out Us'
end Go.Proofs.Ytgnpbodhjmappaa
