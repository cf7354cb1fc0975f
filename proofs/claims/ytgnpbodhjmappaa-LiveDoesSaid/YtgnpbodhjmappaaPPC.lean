/-
  doppelref07's Run: a round's piece: a call.
-/
import Derived.Test.YtgnpbodhjmappaaPPF
set_option linter.unusedVariables false
set_option linter.unusedSimpArgs false
namespace Go.Proofs.Ytgnpbodhjmappaa
set_option maxRecDepth 100000
open Go.RowKit Cd
def regsN (f : Frm) (i : Ins) (regs : Int) (k : Nat) : List Int := (i.args.take k).map (reg f) ++ List.replicate (regs.toNat - k) 0
theorem regsN_len {f : Frm} {i : Ins} {regs : Int} {k : Nat} (h6 : k ≤ 6) (h : (k : Int) ≤ regs) : (regsN f i regs k).length = regs.toNat := by
  unfold regsN
  have := i.args_length
  simp only [List.length_append, List.length_map, List.length_take, List.length_replicate]
  omega
theorem regsN_zero (f : Frm) (i : Ins) (regs : Int) : regsN f i regs 0 = List.replicate regs.toNat 0 := by simp [regsN]
theorem regsN_set {f : Frm} {i : Ins} {regs : Int} {k : Nat} (h6 : k < 6) (h : (k : Int) < regs) : (regsN f i regs k).set k (reg f (i.args.getD k 0)) = regsN f i regs (k + 1) := by
  unfold regsN
  have hl := i.args_length
  have e : i.args[k]? = some (i.args.getD k 0) := by rw [List.getD_eq_getElem?_getD, List.getElem?_eq_getElem (by omega)]; rfl
  have hk : ((i.args.take k).map (reg f)).length = k := by simp; omega
  rw [List.set_append_right _ _ (by omega), hk, Nat.sub_self, List.take_add_one, e]
  have : regs.toNat - k = (regs.toNat - (k + 1)) + 1 := by omega
  rw [this, List.replicate_succ]
  simp
theorem regsN_cell {w : World} {b : Nat} {f : Frm} {i : Ins} {regs : Int} {k : Nat} (hh : w.heap[b]? = some (memO (regsN f i regs k))) (h6 : k < 6) (h : (k : Int) < regs) : (∃ x, w.cell? ⟨b, k, none⟩ = some (.int .i64 x)) ∧ w.frozen? ⟨b, k, none⟩ = false := by
  have hl := regsN_len (f := f) (i := i) (Nat.le_of_lt h6) (Int.le_of_lt h)
  obtain ⟨⟨x, h1⟩, h2⟩ := memO_cell (j := k) hh (by omega)
  exact ⟨⟨x, h1⟩, h2⟩
theorem args_cell {w : World} {ib : Nat} {i : Ins} (h : w.heap[ib]? = some (inO i)) {k : Nat} (hk : k < 6) : w.cell? ⟨ib, 7 + k, none⟩ = some (.int .i64 (i.args.getD k 0)) := by
  rw [cell_of_row w ib _ _ _ _ h]
  match k, hk with
  | 0, _ => rfl
  | 1, _ => rfl
  | 2, _ => rfl
  | 3, _ => rfl
  | 4, _ => rfl
  | 5, _ => rfl
theorem cells5_new (w : World) (x0 x1 x2 x3 x4 : Value) (t : TypeId) : ∀ j u, [x0, x1, x2, x3, x4][j]? = some u → (w.alloc (.cells #[x0, x1, x2, x3, x4] t)).cell? ((⟨w.heap.size, 0, none⟩ : Addr).add j) = some u := by
  intro j u hj
  match j, hj with
  | 0, hj => simp at hj; subst hj; simp [Addr.add]
  | 1, hj => simp at hj; subst hj; simp [Addr.add]
  | 2, hj => simp at hj; subst hj; simp [Addr.add]
  | 3, hj => simp at hj; subst hj; simp [Addr.add]
  | 4, hj => simp at hj; subst hj; simp [Addr.add]
  | n + 5, hj => simp at hj
theorem infoFrame : (Try.prog.info? 99).map (fun i => (i.zero, i.size, i.bytes)) = some (some (.agg #[.int .i64 0, .int .i64 0, .int .i64 0, .int .i64 0, .slice none 0 0]), 5, 56) := by kernel_rfl
set_option maxHeartbeats 8000000 in
set_option maxRecDepth 1000000 in
theorem piece_8 (w0 : World) (U : UnR) (N ub qb mb fb ib n : Nat) (mem : List Int) (out inp : List UInt8) (vi vo vs : Value) (ini : List FrR) (r : Rsu) (f : FrR) (i : Ins) (w : World) (Us : Nat → Value) (p : Int) (Q : Exit → Act → World → Prop) (h : Mid w0 U N ub qb mb fb ib mem out inp vi vo vs ini f i w) (hk : i.kind = 8) (k' : Nat) (hF gg : FnR) (hfi : findI U.un.funcs i.text = (k' : Int)) (hh : U.fs[k']? = some hF) (hg : U.fs[f.fr.k]? = some gg) (hb0 : 0 ≤ f.fr.base) (hb1 : f.fr.base + gg.f.frame ≤ 4096) (hf0 : 0 ≤ gg.f.frame) (hh0 : 0 ≤ hF.f.frame) (hh1 : hF.f.frame ≤ 4096) (hbig : ¬ f.fr.base + gg.f.frame + hF.f.frame > 4096) (hr0 : 0 ≤ hF.f.regs) (hr1 : hF.f.regs ≤ 4096) (hn0 : 0 ≤ i.n) (hn6 : i.n ≤ 6) (hnr : i.n ≤ hF.f.regs) (huse : ∀ k : Nat, (k : Int) < i.n → 0 ≤ i.args.getD k 0 ∧ i.args.getD k 0 < f.fr.regs.length) (hrun : runS U.un n ⟨mem, out, inp, ⟨k', f.fr.base + gg.f.frame, 0, i.dst, regsN f.fr i hF.f.regs i.n.toNat⟩ :: { f.fr with pos := p } :: (ini.map (·.fr)).reverse⟩ = r) (hok : StkOk U.un (⟨k', f.fr.base + gg.f.frame, 0, i.dst, regsN f.fr i hF.f.regs i.n.toNat⟩ :: { f.fr with pos := p } :: (ini.map (·.fr)).reverse)) (hob : out.length + n ≤ 1000000) (hst : ini.length + 2 + n ≤ 1000001) (hgo : ∀ a w', RunJ w0 U N ub qb mb r n a w' → Q (.exit 3) a w') :
    Code.wp Try.prog codeE Q (frM Us ub qb mb vi (.int .i64 ((n : Int) + 1)) vo vs (.pointer (some ⟨fb, 0, none⟩)) (.pointer (some ⟨ib, 0, none⟩)) (.int .i64 p) (.int .i64 0)) w := by
  obtain ⟨g, cap, rfl, hgN, hgw, g0, g1, g2, g3, g4, gf⟩ := h.mem.top
  have gfr := gf (ini.length * 5 + 2)
  clear gf g0 g1 g3 g4
  have rbl := lt_heap (h.mem.regs f (by simp))
  have HUSE := Lib.hid huse; clear huse
  have HRUN := Lib.hid hrun; clear hrun
  have HOK := Lib.hid hok; clear hok
  have eL0 : (0 : Int) ≤ (ini.length : Int) := Int.natCast_nonneg _
  have eL1 : (ini.length : Int) ≤ 1000001 := by omega
  have G2 := Lib.hid g2; clear g2
  have hun := h.un.below h.mem.below
  obtain ⟨a0, a1, a2⟩ := nv3 h.mem.un
  obtain ⟨b, off, hfa, hbb, hbw, c0, c1, c2, c3, c4⟩ := hun.fn hh
  obtain ⟨b', off', hfa', _, _, _, _, _, c3', _⟩ := hun.fn hg
  rw [hfa] at hfa'
  injection hfa' with hfa'
  injection hfa' with e1 e2
  subst e1 e2
  have HFA := Lib.hid hfa
  have hlu := h.mem.lub
  have hwl : w0.heap.size ≤ w.heap.size := h.mem.below.size
  have p0 : (0 : Int) ≤ (k' : Int) := Int.natCast_nonneg _
  have p1 : (k' : Int) < (U.fs.length : Int) := by have := (List.getElem?_eq_some_iff.1 hh).1; omega
  have p2 : (0 : Int) ≤ (f.fr.k : Int) := Int.natCast_nonneg _
  have p3 : (f.fr.k : Int) < (U.fs.length : Int) := by have := (List.getElem?_eq_some_iff.1 hg).1; omega
  have hfl := lt_heap h.fbox
  have hil := lt_heap h.ibox
  have hul := lt_heap h.mem.un
  have HFI := Lib.hid hfi; clear hfi
  have HHH := Lib.hid hh; clear hh
  have HGG := Lib.hid hg; clear hg
  have HUN := Lib.hid hun; clear hun
  clear hfa
  obtain ⟨i0, i1, i2, i3, i4, i5, i6, i7, i8, i9, i10, i11, i12, i13, i14⟩ := nv15 h.ibox
  obtain ⟨f0, f1, f2, f3, f4⟩ := nv5 h.fbox
  rw [hk] at i0
  have HM := Lib.hid h; clear h
  have HGO := Lib.hid hgo; clear hgo
  have HK := Lib.hid hk; clear hk
  have u1 : decide (f.fr.base + gg.f.frame + hF.f.frame > (4096 : Int)) = false := by simp <;> omega
  have u2 : decide ((4096 : Int) < f.fr.base + gg.f.frame + hF.f.frame) = false := by simp <;> omega
  unfold frM
  conv => arg 2; whnf
  go_wp2_with ((with_reducible refine (find_v U i.text w0.heap.size (k' : Int) w HUN.out HFI.out).mono ?_); rintro e v5 ⟨rfl, hb5⟩; replace a0 := (hb5.cell (p := ⟨ub, 0, none⟩) (by show ub < w.heap.size; omega)).trans a0; replace f0 := (hb5.cell (p := ⟨fb, 0, none⟩) (by show fb < w.heap.size; omega)).trans f0; replace f1 := (hb5.cell (p := ⟨fb, 1, none⟩) (by show fb < w.heap.size; omega)).trans f1; replace f4 := (hb5.cell (p := ⟨fb, 4, none⟩) (by show fb < w.heap.size; omega)).trans f4; replace i2 := (hb5.cell (p := ⟨ib, 2, none⟩) (by show ib < w.heap.size; omega)).trans i2; replace i5 := (hb5.cell (p := ⟨ib, 5, none⟩) (by show ib < w.heap.size; omega)).trans i5; replace c0 := (hb5.cell (p := ⟨b, off + k' * 5, none⟩) (by show b < w.heap.size; omega)).trans c0; replace c1 := (hb5.cell (p := ⟨b, off + k' * 5 + 1, none⟩) (by show b < w.heap.size; omega)).trans c1; replace c2 := (hb5.cell (p := ⟨b, off + k' * 5 + 2, none⟩) (by show b < w.heap.size; omega)).trans c2; replace c3 := (hb5.cell (p := ⟨b, off + k' * 5 + 3, none⟩) (by show b < w.heap.size; omega)).trans c3; replace c4 := (hb5.cell (p := ⟨b, off + k' * 5 + 4, none⟩) (by show b < w.heap.size; omega)).trans c4; replace c3' := (hb5.cell (p := ⟨b, off + f.fr.k * 5 + 3, none⟩) (by show b < w.heap.size; omega)).trans c3'; rw [HFA.out] at a0; clear f2 f3 i0 i1 i3 i4 i6 i7 i8 i9 i10 i11 i12 i13 i14 a1 a2; have hz5 := hb5.size; have HB5 := Lib.hid hb5; clear hb5)
  have HB6 : Hid (Below w.heap.size w (v5.alloc (fnO hF))) := Lib.hid (HB5.out.alloc hz5 _)
  have hw46 : IntKind.i64.wrap (f.fr.base + gg.f.frame) = f.fr.base + gg.f.frame := by rw [IntKind.wrap_i64]; omega
  go_region_held3 (fun w' => w'.cell? ⟨fb, 1, none⟩ = some (.int .i64 f.fr.base) ∧ w'.cell? ⟨ub, 0, none⟩ = some (.slice (some ⟨b, off, none⟩) U.fs.length U.fc) ∧ w'.cell? ⟨fb, 0, none⟩ = some (.int .i64 f.fr.k) ∧ w'.cell? ⟨b, off + f.fr.k * 5 + 3, none⟩ = some (.int .i64 gg.f.frame)) (go_keep) (fail)
  obtain ⟨R, hR⟩ : ∃ R : Nat, hF.f.regs.toNat = R := ⟨_, rfl⟩
  have hmr := make_row hF.f.regs hr0 hr1
  rw [hR] at hmr
  have RB := Lib.hid hR
  have RC : (R : Int) ≤ 4096 := by omega
  have RD : (R : Int) = hF.f.regs := by omega
  have RE := Lib.hid RD; clear RD
  have HR := Lib.hid hR; clear hR
  go_wp2
  all_goals first | (exfalso; omega) | skip
  have HNB := Lib.hid (show g ≠ v5.heap.size + 1 by omega)
  go_loopw [24] (fun s24 wr => ∃ k : Nat, (k : Int) ≤ i.n ∧ s24 = .int .i64 k ∧ Hid (Below w.heap.size w wr) ∧ Hid (wr.heap[v5.heap.size + 1]? = some (memO (regsN f.fr i hF.f.regs k)))) (fun s24 wr => (i.n - intOf s24).toNat)
  case atStart => exact ⟨0, hn0, rfl, Lib.hid (drW (HB6.out.alloc (by simp; omega) _)), Lib.hid (by rw [regsN_zero, RB.out]; have h := heap_alloc_new (v5.alloc (fnO hF)) (memO (List.replicate R 0)); rw [World.size_alloc] at h; exact h)⟩
  case round =>
    obtain ⟨k, hk6, rfl, HB, HRW⟩ := hrel
    have HMr := Lib.hid (HM.out.keep HB.out)
    obtain ⟨i0, i1, i2, i3, i4, i5, i6, i7, i8, i9, i10, i11, i12, i13, i14⟩ := nv15 HMr.out.ibox
    obtain ⟨f0, f1, f2, f3, f4⟩ := nv5 HMr.out.fbox
    clear i0 i1 i3 i4 i6 i7 i8 i9 i10 i11 i12 i13 i14 f0 f1 f2 f3
    have k0 : (0 : Int) ≤ (k : Int) := Int.natCast_nonneg _
    by_cases hlt : (k : Int) < i.n
    · have hka : k < 6 := by omega
      have hkr : (k : Int) < hF.f.regs := by omega
      have ac := args_cell HMr.out.ibox hka
      obtain ⟨hx0, hx1⟩ := HUSE.out k hlt
      obtain ⟨⟨x0, m0⟩, m1⟩ := regsN_cell HRW.out hka hkr
      have HST : Hid ((regsN f.fr i hF.f.regs k).set k (reg f.fr (i.args.getD k 0)) = regsN f.fr i hF.f.regs (k + 1)) := Lib.hid (regsN_set hka hkr)
      obtain ⟨x, hx⟩ : ∃ x, i.args.getD k 0 = x := ⟨_, rfl⟩
      rw [hx] at ac hx0 hx1 HST
      clear hx
      have rc := HMr.out.mem.reg (f := f) (by simp) ⟨hx0, hx1⟩
      have HBS : Hid (Below w.heap.size w (wr.setCell ⟨v5.heap.size + 1, k, none⟩ (.int .i64 (reg f.fr x)))) := Lib.hid (HB.out.setCell (show w.heap.size ≤ v5.heap.size + 1 by omega) _)
      have k1 : (k : Int) < (R : Int) := by have := RE.out; omega
      have k2 : (k : Int) < 6 := by omega
      have n1 : ¬ fb = v5.heap.size + 1 := by omega
      have n2 : ¬ v5.heap.size + 1 = fb := by omega
      have n3 : ¬ ib = v5.heap.size + 1 := by omega
      have n4 : ¬ v5.heap.size + 1 = ib := by omega
      have n5 : ¬ f.rb = v5.heap.size + 1 := by omega
      have n6 : ¬ v5.heap.size + 1 = f.rb := by omega
      have t1 : decide ((k : Int) < i.n) = true := by simpa using hlt
      go_wp2
      go_region_held3 (fun w' => w'.cell? ⟨fb, 4, none⟩ = some (.slice (some ⟨f.rb, 0, none⟩) f.fr.regs.length f.fr.regs.length) ∧ w'.cell? ⟨ib, 7 + k, none⟩ = some (.int .i64 x) ∧ w'.cell? ⟨f.rb, x.toNat, none⟩ = some (.int .i64 (reg f.fr x))) (go_keep) (fail)
      all_goals go_wp2
      go_roundw
      case rel => exact ⟨k + 1, by omega, by go_num, Lib.hid (drW HBS.out), Lib.hid (by have := memO_set HRW.out k (reg f.fr x); rw [HST.out] at this; exact this)⟩
      case measure => simp [intOf]; omega
    · have hkn : k = i.n.toNat := by omega
      have t1 : decide ((k : Int) < i.n) = false := by simpa using hlt
      have g2r : wr.cell? ⟨g, ini.length * 5 + 2, none⟩ = some (.int .i64 f.fr.pos) := (HB.out.cell (p := ⟨g, ini.length * 5 + 2, none⟩) (by show g < w.heap.size; omega)).trans G2.out
      have gfr2 : wr.frozen? ⟨g, ini.length * 5 + 2, none⟩ = false := (HB.out.frozen (p := ⟨g, ini.length * 5 + 2, none⟩) (by show g < w.heap.size; omega)).trans gfr
      obtain ⟨i0u, hi0, hz0, hz1, hz2⟩ := info_parts infoFrame
      have HPO := Lib.hid (HMr.out.mem.setPos p)
      have HLR : Hid ((regsN f.fr i hF.f.regs k).length = R) := Lib.hid (by rw [regsN_len (by omega) (by omega)]; exact RB.out)
      have HKN := Lib.hid hkn; clear hkn
      have hwr : v5.heap.size + 1 < wr.heap.size := lt_heap HRW.out
      have hgib : g ≠ ib := fun e => HM.out.api.2.1 (by rw [e]; rfl)
      have n7 : ¬ ib = g := fun e => hgib e.symm
      have n8 : ¬ g = ib := hgib
      clear hgib
      have HWN : Hid (N ≤ wr.heap.size) := Lib.hid (by have := HM.out.far; omega)
      go_wp2_with (at_builtin; go_loud (refine wpList_append_lies _ rfl _ _ 100 rfl N 99 i0u _ 5 56 Try.underlying100 hi0 hz0 hz1 hz2 rfl (by omega) _ (ini.length + 1) ((ini ++ [(⟨{ f.fr with pos := p }, f.rb⟩ : FrR)]).flatMap frCells) rfl (by have := HPO.out.stkh; simp only [List.length_append, List.length_singleton] at this; exact this.alloc _) ⟨wr.heap.size, 0, none⟩ 1 1 (frCells ⟨⟨k', f.fr.base + gg.f.frame, 0, i.dst, regsN f.fr i hF.f.regs k⟩, v5.heap.size + 1⟩) (by rfl) (by rfl) (by have e := HLR.out; intro j u hj; simp only [frCells, e] at hj; have h5 := cells5_new (wr.setCell ⟨g, ini.length * 5 + 2, none⟩ (.int .i64 p)) _ _ _ _ _ 99 j u hj; rw [World.size_setCell] at h5; exact h5) (by simp [frCells, Value.oneCell']) (by omega) (by unfold maxLen; omega) (by omega) (by have := HWN.out; simp; omega) (wr.heap.size + 1) (by simp) ?_); intro g3 cap3 w1 hown1 hgrow hat hlt1; have HO1 := Lib.hid hown1; have HG1 := Lib.hid hgrow; have HAT1 := Lib.hid hat; clear hown1 hgrow hat hlt1)
      have HG2 : Hid (((wr.setCell ⟨g, ini.length * 5 + 2, none⟩ (.int .i64 p)).alloc (frO ⟨⟨k', f.fr.base + gg.f.frame, 0, i.dst, regsN f.fr i hF.f.regs k⟩, v5.heap.size + 1⟩)).grownBy w1 (some g)) := by
        have e := HLR.out
        unfold frO
        simp only [e]
        exact HG1
      have HAT2 : Hid (some g = some g3 ∨ g3 = wr.heap.size + 1) := HAT1
      clear HG1 HAT1
      refine HGO.out _ _ ?_
      have hkn := HKN.out
      have hbelow := HB.out
      have hsz := hbelow.size
      have hNB := HNB.out
      have hrl : ∀ y ∈ ini ++ [f], y.rb < w.heap.size := fun y hy => lt_heap (HM.out.mem.regs y hy)
      have hrl2 : ∀ y ∈ ini ++ [(⟨{ f.fr with pos := p }, f.rb⟩ : FrR)], y.rb < w.heap.size := by
        intro y hy
        rcases List.mem_append.1 hy with h1 | h1
        · exact hrl y (List.mem_append.2 (.inl h1))
        · rw [List.mem_singleton] at h1
          rw [h1]
          exact hrl f (by simp)
      have hbA : Below (wr.setCell ⟨g, ini.length * 5 + 2, none⟩ (.int .i64 p)).heap.size (wr.setCell ⟨g, ini.length * 5 + 2, none⟩ (.int .i64 p)) ((wr.setCell ⟨g, ini.length * 5 + 2, none⟩ (.int .i64 p)).alloc (frO ⟨⟨k', f.fr.base + gg.f.frame, 0, i.dst, regsN f.fr i hF.f.regs k⟩, v5.heap.size + 1⟩)) := (Below.refl _ _).alloc (Nat.le_refl _) _
      have hW := HPO.out.keep hbA
      have hWs : ((wr.setCell ⟨g, ini.length * 5 + 2, none⟩ (.int .i64 p)).alloc (frO ⟨⟨k', f.fr.base + gg.f.frame, 0, i.dst, regsN f.fr i hF.f.regs k⟩, v5.heap.size + 1⟩)).heap.size = wr.heap.size + 1 := by rw [World.size_alloc, World.size_setCell]
      have hrw : ((wr.setCell ⟨g, ini.length * 5 + 2, none⟩ (.int .i64 p)).alloc (frO ⟨⟨k', f.fr.base + gg.f.frame, 0, i.dst, regsN f.fr i hF.f.regs k⟩, v5.heap.size + 1⟩)).heap[v5.heap.size + 1]? = some (memO (regsN f.fr i hF.f.regs k)) := (hbA.block _ (by rw [World.size_setCell]; exact hwr)).trans ((heap_other (fun e => hNB e.symm)).trans HRW.out)
      have hNw := HWN.out
      have hpush := hW.push (vs' := .slice (some ⟨g3, 0, none⟩) (ini.length + 1 + 1) cap3) (f := ⟨⟨k', f.fr.base + gg.f.frame, 0, i.dst, regsN f.fr i hF.f.regs k⟩, v5.heap.size + 1⟩) (by rw [hWs]; omega) hrw
        ⟨by show N ≤ v5.heap.size + 1; omega, fun e => by have h9 : v5.heap.size + 1 < w.heap.size := (HM.out.mem.outh.lt _ e).2; omega, fun e => hNB (by simpa [Value.ownBlock] using e)⟩ (fun y hy => by have := hrl2 y hy; show y.rb ≠ v5.heap.size + 1; omega)
        (by have h1 := HO1.out; simpa [List.flatMap_append] using h1) HG2.out (fun q hq => by
          have h1 : g3 = q := by simpa [Value.ownBlock] using hq
          rw [← h1, hWs]
          rcases HAT2.out with h2 | h2
          · exact .inl (by simpa [Value.ownBlock] using h2)
          · exact .inr (by omega))
      have hNw1 : N ≤ w1.heap.size := by have := HG2.out.size; rw [hWs] at this; omega
      have hrun := HRUN.out
      have hok := HOK.out
      rw [← hkn] at hrun hok
      exact ⟨vi, vo, _, _, _, _, _, ini ++ [(⟨{ f.fr with pos := p }, f.rb⟩ : FrR)] ++ [(⟨⟨k', f.fr.base + gg.f.frame, 0, i.dst, regsN f.fr i hF.f.regs k⟩, v5.heap.size + 1⟩ : FrR)], ⟨mem, out, inp, ⟨k', f.fr.base + gg.f.frame, 0, i.dst, regsN f.fr i hF.f.regs k⟩ :: { f.fr with pos := p } :: (ini.map (·.fr)).reverse⟩, ⟨HM.out.un, HM.out.right, hpush, by simp, by simp, hok, HM.out.inp, hrun, hNw1, hob, by simp; omega⟩, IsFr.of (s12 := .pointer (some ⟨fb, 0, none⟩)) (s13 := .pointer (some ⟨ib, 0, none⟩)) (s14 := .int .i64 p) (s15 := .int .i64 0) (by kernel_rfl)⟩
end Go.Proofs.Ytgnpbodhjmappaa
namespace Go.Proofs.Ytgnpbodhjmappaa
set_option maxRecDepth 100000
open Go.RowKit Cd
set_option maxHeartbeats 8000000 in
set_option maxRecDepth 1000000 in
theorem piece_8f (w0 : World) (U : UnR) (N ub qb mb fb ib n : Nat) (mem : List Int) (out inp : List UInt8) (vi vo vs : Value) (ini : List FrR) (f : FrR) (i : Ins) (w : World) (Us : Nat → Value) (p : Int) (Q : Exit → Act → World → Prop) (h : Mid w0 U N ub qb mb fb ib mem out inp vi vo vs ini f i w) (hk : i.kind = 8) (k' : Nat) (hF gg : FnR) (hfi : findI U.un.funcs i.text = (k' : Int)) (hh : U.fs[k']? = some hF) (hg : U.fs[f.fr.k]? = some gg) (hb0 : 0 ≤ f.fr.base) (hb1 : f.fr.base + gg.f.frame ≤ 4096) (hf0 : 0 ≤ gg.f.frame) (hh0 : 0 ≤ hF.f.frame) (hh1 : hF.f.frame ≤ 4096) (hbig : f.fr.base + gg.f.frame + hF.f.frame > 4096) (hgo : ∀ a w', RunZ w0 qb ⟨3, 0, out⟩ a w' → Q .ret a w') :
    Code.wp Try.prog codeE Q (frM Us ub qb mb vi (.int .i64 ((n : Int) + 1)) vo vs (.pointer (some ⟨fb, 0, none⟩)) (.pointer (some ⟨ib, 0, none⟩)) (.int .i64 p) (.int .i64 0)) w := by
  obtain ⟨oa, oc, rfl⟩ := row_slice h.mem.outh
  have hun := h.un.below h.mem.below
  obtain ⟨a0, a1, a2⟩ := nv3 h.mem.un
  obtain ⟨b, off, hfa, hbb, hbw, c0, c1, c2, c3, c4⟩ := hun.fn hh
  obtain ⟨b', off', hfa', _, _, _, _, _, c3', _⟩ := hun.fn hg
  rw [hfa] at hfa'
  injection hfa' with hfa'
  injection hfa' with e1 e2
  subst e1 e2
  have HFA := Lib.hid hfa
  have hlu := h.mem.lub
  have hwl : w0.heap.size ≤ w.heap.size := h.mem.below.size
  have p0 : (0 : Int) ≤ (k' : Int) := Int.natCast_nonneg _
  have p1 : (k' : Int) < (U.fs.length : Int) := by have := (List.getElem?_eq_some_iff.1 hh).1; omega
  have p2 : (0 : Int) ≤ (f.fr.k : Int) := Int.natCast_nonneg _
  have p3 : (f.fr.k : Int) < (U.fs.length : Int) := by have := (List.getElem?_eq_some_iff.1 hg).1; omega
  have hfl := lt_heap h.fbox
  have hil := lt_heap h.ibox
  have hul := lt_heap h.mem.un
  have HFI := Lib.hid hfi; clear hfi
  have HHH := Lib.hid hh; clear hh
  have HGG := Lib.hid hg; clear hg
  have HUN := Lib.hid hun; clear hun
  clear hfa
  obtain ⟨i0, i1, i2, i3, i4, i5, i6, i7, i8, i9, i10, i11, i12, i13, i14⟩ := nv15 h.ibox
  obtain ⟨f0, f1, f2, f3, f4⟩ := nv5 h.fbox
  rw [hk] at i0
  have HM := Lib.hid h; clear h
  have HGO := Lib.hid hgo; clear hgo
  have HK := Lib.hid hk; clear hk
  have hq := HM.out.mem.lqb
  have u1 : decide (f.fr.base + gg.f.frame + hF.f.frame > (4096 : Int)) = true := by simp <;> omega
  have u2 : decide ((4096 : Int) < f.fr.base + gg.f.frame + hF.f.frame) = true := by simp <;> omega
  unfold frM
  conv => arg 2; whnf
  go_wp2_with ((with_reducible refine (find_v U i.text w0.heap.size (k' : Int) w HUN.out HFI.out).mono ?_); rintro e v5 ⟨rfl, hb5⟩; replace a0 := (hb5.cell (p := ⟨ub, 0, none⟩) (by show ub < w.heap.size; omega)).trans a0; replace f0 := (hb5.cell (p := ⟨fb, 0, none⟩) (by show fb < w.heap.size; omega)).trans f0; replace f1 := (hb5.cell (p := ⟨fb, 1, none⟩) (by show fb < w.heap.size; omega)).trans f1; replace f4 := (hb5.cell (p := ⟨fb, 4, none⟩) (by show fb < w.heap.size; omega)).trans f4; replace i2 := (hb5.cell (p := ⟨ib, 2, none⟩) (by show ib < w.heap.size; omega)).trans i2; replace i5 := (hb5.cell (p := ⟨ib, 5, none⟩) (by show ib < w.heap.size; omega)).trans i5; replace c0 := (hb5.cell (p := ⟨b, off + k' * 5, none⟩) (by show b < w.heap.size; omega)).trans c0; replace c1 := (hb5.cell (p := ⟨b, off + k' * 5 + 1, none⟩) (by show b < w.heap.size; omega)).trans c1; replace c2 := (hb5.cell (p := ⟨b, off + k' * 5 + 2, none⟩) (by show b < w.heap.size; omega)).trans c2; replace c3 := (hb5.cell (p := ⟨b, off + k' * 5 + 3, none⟩) (by show b < w.heap.size; omega)).trans c3; replace c4 := (hb5.cell (p := ⟨b, off + k' * 5 + 4, none⟩) (by show b < w.heap.size; omega)).trans c4; replace c3' := (hb5.cell (p := ⟨b, off + f.fr.k * 5 + 3, none⟩) (by show b < w.heap.size; omega)).trans c3'; rw [HFA.out] at a0; clear f2 f3 i0 i1 i3 i4 i6 i7 i8 i9 i10 i11 i12 i13 i14 a1 a2; have hz5 := hb5.size; have HB5 := Lib.hid hb5; clear hb5)
  have HB6 : Hid (Below w.heap.size w (v5.alloc (fnO hF))) := Lib.hid (HB5.out.alloc hz5 _)
  have hw46 : IntKind.i64.wrap (f.fr.base + gg.f.frame) = f.fr.base + gg.f.frame := by rw [IntKind.wrap_i64]; omega
  go_region_held3 (fun w' => w'.cell? ⟨fb, 1, none⟩ = some (.int .i64 f.fr.base) ∧ w'.cell? ⟨ub, 0, none⟩ = some (.slice (some ⟨b, off, none⟩) U.fs.length U.fc) ∧ w'.cell? ⟨fb, 0, none⟩ = some (.int .i64 f.fr.k) ∧ w'.cell? ⟨b, off + f.fr.k * 5 + 3, none⟩ = some (.int .i64 gg.f.frame)) (go_keep) (fail)
  have HM6 := Lib.hid (HM.out.keep (drW HB6.out))
  have HM5 := Lib.hid (HM.out.keep HB5.out)
  obtain ⟨z0, z1, z2⟩ := frozen3 HM5.out.mem.res
  obtain ⟨y0, y1, y2⟩ := nv3 HM5.out.mem.res
  have hq5 : qb < v5.heap.size := lt_heap HM5.out.mem.res
  have q1 : ¬ qb = v5.heap.size := by omega
  have q2 : ¬ v5.heap.size = qb := by omega
  go_wp2
  all_goals first | (exfalso; omega) | skip
  exact HGO.out _ _ ⟨(HM5.out.ended 3 0).keep (drW ((Below.refl _ _).alloc (Nat.le_refl _) _)), ub, mb, vi, (.int .i64 ((n : Int) + 1)), (.slice oa out.length oc), vs, (.pointer (some ⟨fb, 0, none⟩)), (.pointer (some ⟨ib, 0, none⟩)), (.int .i64 p), (.int .i64 0), IsFr.of (by kernel_rfl)⟩
end Go.Proofs.Ytgnpbodhjmappaa
namespace Go.Proofs.Ytgnpbodhjmappaa
set_option maxRecDepth 100000
open Go.RowKit Cd
set_option maxHeartbeats 8000000 in
set_option maxRecDepth 1000000 in
theorem piece_9a (w0 : World) (U : UnR) (N ub qb mb fb ib n : Nat) (mem : List Int) (out inp : List UInt8) (vi vo vs : Value) (ini : List FrR) (f : FrR) (i : Ins) (w : World) (Us : Nat → Value) (p : Int) (Q : Exit → Act → World → Prop) (h : Mid w0 U N ub qb mb fb ib mem out inp vi vo vs ini f i w) (hk : i.kind = 9) (hin : inp = []) (hgo : ∀ a w', MidA w0 U N ub qb mb fb ib n mem out [] ini f i p (-1) a w' → Q .normal a w') :
    Code.wp Try.prog codeE Q (frM Us ub qb mb vi (.int .i64 ((n : Int) + 1)) vo vs (.pointer (some ⟨fb, 0, none⟩)) (.pointer (some ⟨ib, 0, none⟩)) (.int .i64 p) (.int .i64 0)) w := by
  obtain ⟨ia, ic, hvi, hil, _, _⟩ := h.inp
  subst hin
  simp only [List.length_nil] at hvi
  subst hvi
  obtain ⟨i0, i1, i2, i3, i4, i5, i6, i7, i8, i9, i10, i11, i12, i13, i14⟩ := nv15 h.ibox
  obtain ⟨f0, f1, f2, f3, f4⟩ := nv5 h.fbox
  rw [hk] at i0
  have HM := Lib.hid h; clear h
  have HGO := Lib.hid hgo; clear hgo
  have HK := Lib.hid hk; clear hk
  unfold frM
  conv => arg 2; whnf
  go_wp2
  exact HGO.out _ _ ⟨_, vo, vs, HM.out, IsFr.of (vi := .slice ia 0 ic) (by kernel_rfl)⟩
end Go.Proofs.Ytgnpbodhjmappaa
namespace Go.Proofs.Ytgnpbodhjmappaa
set_option maxRecDepth 100000
open Go.RowKit Cd
set_option maxHeartbeats 8000000 in
set_option maxRecDepth 1000000 in
theorem piece_9b (w0 : World) (U : UnR) (N ub qb mb fb ib n : Nat) (mem : List Int) (out inp : List UInt8) (vi vo vs : Value) (ini : List FrR) (f : FrR) (i : Ins) (w : World) (Us : Nat → Value) (p : Int) (Q : Exit → Act → World → Prop) (h : Mid w0 U N ub qb mb fb ib mem out inp vi vo vs ini f i w) (hk : i.kind = 9) (c : UInt8) (cs : List UInt8) (hin : inp = c :: cs) (hgo : ∀ a w', MidA w0 U N ub qb mb fb ib n mem out cs ini f i p c.toNat a w' → Q .normal a w') :
    Code.wp Try.prog codeE Q (frM Us ub qb mb vi (.int .i64 ((n : Int) + 1)) vo vs (.pointer (some ⟨fb, 0, none⟩)) (.pointer (some ⟨ib, 0, none⟩)) (.int .i64 p) (.int .i64 0)) w := by
  have hI := h.inp
  rw [hin] at hI
  obtain ⟨b, off, ic, hvi, hil, hc0, hN⟩ := InAt.cons hI
  subst hvi
  have hb0 := h.mem.below.size
  have hbe := h.mem.below
  replace hc0 : w.cell? ⟨b, off, none⟩ = some (.int .u8 c.toNat) := by
    have hlt : b < w0.heap.size := World.block_lt_of_cell? _ _ hc0
    rw [hbe.cell (p := ⟨b, off, none⟩) hlt]; exact hc0
  clear hb0 hbe hI hin
  unfold maxLen at hil
  have hc1 : (0 : Int) ≤ (c.toNat : Int) := Int.natCast_nonneg _
  have hc2 : (c.toNat : Int) ≤ 255 := by have := c.toNat_lt; omega
  have hcs : (0 : Int) ≤ (cs.length : Int) := Int.natCast_nonneg _
  have hsl : ∀ w, (Instr.sliceAt 37 (.slice (some ⟨b, off, none⟩) (cs.length + 1) ic) (some (.int .i64 1)) none none).run Try.prog w = .ok (sliced (some ⟨b, off, none⟩) 1 (cs.length + 1) ic 1) w := by
    intro w
    obtain ⟨ti, hti⟩ : ∃ ti, Try.prog.info? 5 = some ti := by
      have h := infoByte
      cases hx : Try.prog.info? 5 with
      | none => rw [hx] at h; cases h
      | some ti => exact ⟨ti, rfl⟩
    rw [run_sliceAt_slice w _ _ _ _ _ (by kernel_rfl), run_slice_l w _ _ _ _ (by kernel_rfl) .i64 1 (by omega) (by omega)]
    have e : (sizeOf 5).run Try.prog w = .ok (Try.prog.cellsOf 5) w := run_sizeOf w hti
    have e2 : Try.prog.elem 37 = 5 := by kernel_rfl
    have e3 : Try.prog.cellsOf 5 = 1 := by kernel_rfl
    rw [e2, e, e3]
    rfl
  obtain ⟨vi2, hvi2⟩ : ∃ v, sliced (some ⟨b, off, none⟩) 1 (cs.length + 1) ic 1 = v := ⟨_, rfl⟩
  rw [hvi2] at hsl hN
  clear hvi2
  obtain ⟨i0, i1, i2, i3, i4, i5, i6, i7, i8, i9, i10, i11, i12, i13, i14⟩ := nv15 h.ibox
  obtain ⟨f0, f1, f2, f3, f4⟩ := nv5 h.fbox
  rw [hk] at i0
  have HM := Lib.hid h; clear h
  have HGO := Lib.hid hgo; clear hgo
  have HK := Lib.hid hk; clear hk
  unfold frM
  conv => arg 2; whnf
  go_wp2
  exact HGO.out _ _ ⟨vi2, vo, vs, HM.out.inp' hN, IsFr.of (by kernel_rfl)⟩
end Go.Proofs.Ytgnpbodhjmappaa
namespace Go.Proofs.Ytgnpbodhjmappaa
set_option maxRecDepth 100000
open Go.RowKit Cd
set_option maxHeartbeats 8000000 in
set_option maxRecDepth 1000000 in
theorem piece_10 (w0 : World) (U : UnR) (N ub qb mb fb ib n : Nat) (mem : List Int) (out inp : List UInt8) (vi vo vs : Value) (ini : List FrR) (f : FrR) (i : Ins) (w : World) (Us : Nat → Value) (p : Int) (Q : Exit → Act → World → Prop) (h : Mid w0 U N ub qb mb fb ib mem out inp vi vo vs ini f i w) (hk : i.kind = 10) (ha : 0 ≤ i.a ∧ i.a < f.fr.regs.length) (hol : out.length ≤ 1000000) (hgo : ∀ a w', MidA w0 U N ub qb mb fb ib n mem (out ++ [Cd.byteOf (reg f.fr i.a)]) inp ini f i p 0 a w' → Q .normal a w') :
    Code.wp Try.prog codeE Q (frM Us ub qb mb vi (.int .i64 ((n : Int) + 1)) vo vs (.pointer (some ⟨fb, 0, none⟩)) (.pointer (some ⟨ib, 0, none⟩)) (.int .i64 p) (.int .i64 0)) w := by
  obtain ⟨oa, oc, rfl⟩ := row_slice h.mem.outh
  obtain ⟨q, hq⟩ : ∃ q, reg f.fr i.a % 4294967296 = q := ⟨_, rfl⟩
  obtain ⟨c, hc⟩ : ∃ c, Cd.byteOf (reg f.fr i.a) = c := ⟨_, rfl⟩
  have hrem : q % 256 = (c.toNat : Int) := by rw [← hq, ← hc]; exact Cd.byteOf_rem _
  rw [hc] at hgo
  have hq0 : 0 ≤ q := by omega
  have hq1 : q < 4294967296 := by omega
  have hc1 : (0 : Int) ≤ (c.toNat : Int) := Int.natCast_nonneg _
  have hc2 : (c.toNat : Int) ≤ 255 := by have := c.toNat_lt; omega
  clear hc
  obtain ⟨i0, i1, i2, i3, i4, i5, i6, i7, i8, i9, i10, i11, i12, i13, i14⟩ := nv15 h.ibox
  obtain ⟨f0, f1, f2, f3, f4⟩ := nv5 h.fbox
  rw [hk] at i0
  have HM := Lib.hid h; clear h
  have HGO := Lib.hid hgo; clear hgo
  have HK := Lib.hid hk; clear hk
  have ra := HM.out.mem.reg (f := f) (by simp) ha
  have ra0 : (0 : Int) ≤ i.a := ha.1
  have ra1 : i.a < (f.fr.regs.length : Int) := ha.2
  clear ha
  have hpl : ∀ w, Calls Try.prog 70 #[.int .i64 (reg f.fr i.a)] w (fun e w' => e = .returned (.int .i64 q) ∧ w = w') := fun w => hq ▸ refPlain_any _ w
  clear hq
  obtain ⟨i0u, hi0, hz0, hz1, hz2⟩ := info_parts infoByte
  have HOW := Lib.hid HM.out.mem.outh
  have hNw : N ≤ w.heap.size := by have := HM.out.far; have := lt_heap HM.out.fbox; omega
  unfold frM
  conv => arg 2; whnf
  go_wp2_with (first | ((with_reducible refine (hpl _).mono ?_); rintro e w9 ⟨rfl, rfl⟩) | ((at_builtin; go_loud (refine wpList_append_lies _ rfl _ _ 37 rfl N 5 i0u _ 1 1 Try.underlying37 hi0 hz0 hz1 hz2 rfl (by omega) _ out.length (u8s out) rfl (by exact HOW.out.alloc _) ⟨w.heap.size, 0, none⟩ 1 1 [.int .u8 c.toNat] (by rfl) (by rfl) (cell_one_new w _ _) (by simp [Value.oneCell']) (by omega) (by unfold maxLen; omega) (by omega) (by simp; omega) (w.heap.size + 1) (by simp) ?_); intro g2 cap2 w1 hown1 hgrow hat hlt1; have HO1 := Lib.hid hown1; have HG1 := Lib.hid hgrow; have HAT1 := Lib.hid hat; clear hown1 hgrow hat hlt1)))
  exact HGO.out _ _ ⟨vi, _, vs, HM.out.grown (by have := HO1.out; simpa [u8s] using this) ((World.grownBy_alloc w _ _).trans HG1.out) (fun g hg => by rcases HAT1.out with h1 | h1; exact .inl (h1.trans hg); (have : g2 = g := by simpa [Value.ownBlock] using hg); exact .inr (by omega)), IsFr.of (by kernel_rfl)⟩
end Go.Proofs.Ytgnpbodhjmappaa
namespace Go.Proofs.Ytgnpbodhjmappaa
set_option maxRecDepth 100000
open Go.RowKit Cd
set_option maxHeartbeats 8000000 in
set_option maxRecDepth 1000000 in
theorem piece_11 (w0 : World) (U : UnR) (N ub qb mb fb ib n : Nat) (mem : List Int) (out inp : List UInt8) (vi vo vs : Value) (ini : List FrR) (f : FrR) (i : Ins) (w : World) (Us : Nat → Value) (p : Int) (Q : Exit → Act → World → Prop) (h : Mid w0 U N ub qb mb fb ib mem out inp vi vo vs ini f i w) (hk : i.kind = 11) (hgo : ∀ a w', MidA w0 U N ub qb mb fb ib n mem out inp ini f i i.dest 0 a w' → Q .normal a w') :
    Code.wp Try.prog codeE Q (frM Us ub qb mb vi (.int .i64 ((n : Int) + 1)) vo vs (.pointer (some ⟨fb, 0, none⟩)) (.pointer (some ⟨ib, 0, none⟩)) (.int .i64 p) (.int .i64 0)) w := by
  obtain ⟨i0, i1, i2, i3, i4, i5, i6, i7, i8, i9, i10, i11, i12, i13, i14⟩ := nv15 h.ibox
  obtain ⟨f0, f1, f2, f3, f4⟩ := nv5 h.fbox
  rw [hk] at i0
  have HM := Lib.hid h; clear h
  have HGO := Lib.hid hgo; clear hgo
  have HK := Lib.hid hk; clear hk
  unfold frM
  conv => arg 2; whnf
  go_wp2
  exact HGO.out _ _ ⟨vi, vo, vs, HM.out, IsFr.of (by kernel_rfl)⟩
end Go.Proofs.Ytgnpbodhjmappaa
namespace Go.Proofs.Ytgnpbodhjmappaa
set_option maxRecDepth 100000
open Go.RowKit Cd
set_option maxHeartbeats 8000000 in
set_option maxRecDepth 1000000 in
theorem piece_12 (w0 : World) (U : UnR) (N ub qb mb fb ib n : Nat) (mem : List Int) (out inp : List UInt8) (vi vo vs : Value) (ini : List FrR) (f : FrR) (i : Ins) (w : World) (Us : Nat → Value) (p : Int) (Q : Exit → Act → World → Prop) (h : Mid w0 U N ub qb mb fb ib mem out inp vi vo vs ini f i w) (hk : i.kind = 12) (ha : 0 ≤ i.a ∧ i.a < f.fr.regs.length) (hgo : ∀ a w', MidA w0 U N ub qb mb fb ib n mem out inp ini f i (if reg f.fr i.a ≠ 0 then i.dest else i.els) 0 a w' → Q .normal a w') :
    Code.wp Try.prog codeE Q (frM Us ub qb mb vi (.int .i64 ((n : Int) + 1)) vo vs (.pointer (some ⟨fb, 0, none⟩)) (.pointer (some ⟨ib, 0, none⟩)) (.int .i64 p) (.int .i64 0)) w := by
  by_cases hz : reg f.fr i.a = 0
  · rw [if_neg (by simpa using hz)] at hgo
    obtain ⟨i0, i1, i2, i3, i4, i5, i6, i7, i8, i9, i10, i11, i12, i13, i14⟩ := nv15 h.ibox
    obtain ⟨f0, f1, f2, f3, f4⟩ := nv5 h.fbox
    rw [hk] at i0
    have HM := Lib.hid h; clear h
    have HGO := Lib.hid hgo; clear hgo
    have HK := Lib.hid hk; clear hk
    have ra := HM.out.mem.reg (f := f) (by simp) ha
    have ra0 : (0 : Int) ≤ i.a := ha.1
    have ra1 : i.a < (f.fr.regs.length : Int) := ha.2
    clear ha
    have hz' : ((reg f.fr i.a : Int) != (0 : Int)) = false := by simp [hz]
    clear hz
    unfold frM
    conv => arg 2; whnf
    go_wp2
    exact HGO.out _ _ ⟨vi, vo, vs, HM.out, IsFr.of (by kernel_rfl)⟩
  · rw [if_pos hz] at hgo
    obtain ⟨i0, i1, i2, i3, i4, i5, i6, i7, i8, i9, i10, i11, i12, i13, i14⟩ := nv15 h.ibox
    obtain ⟨f0, f1, f2, f3, f4⟩ := nv5 h.fbox
    rw [hk] at i0
    have HM := Lib.hid h; clear h
    have HGO := Lib.hid hgo; clear hgo
    have HK := Lib.hid hk; clear hk
    have ra := HM.out.mem.reg (f := f) (by simp) ha
    have ra0 : (0 : Int) ≤ i.a := ha.1
    have ra1 : i.a < (f.fr.regs.length : Int) := ha.2
    clear ha
    have hz' : ((reg f.fr i.a : Int) != (0 : Int)) = true := by simp [hz]
    clear hz
    unfold frM
    conv => arg 2; whnf
    go_wp2
    exact HGO.out _ _ ⟨vi, vo, vs, HM.out, IsFr.of (by kernel_rfl)⟩
end Go.Proofs.Ytgnpbodhjmappaa
