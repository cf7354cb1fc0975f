/-
  The walk of TypesOnce.
-/
import Derived.Test.YtemnlkgjgalipaaDoorSteps
namespace Go.Proofs.YtemnlkgjgalipaaDoor.typesOnce
open Go.RowKit Go.Maps Tp
set_option linter.unusedVariables false

def OnSt (w0 : World) (t rb : Nat) (a : Option Addr) (ds : List DoR) (k : Nat) (w : World) : Prop := ∃ T Y v la lc da dc, StIn w0 t rb a ds k T Y v la lc da dc w
/-- The types that were had, so far; the box of the step. -/
structure Had (wr : World) (T : Tab) (n : Nat) (ha : Option Addr) (hc : Nat) (s : Array Value) (w : World) : Prop where
  row : w.ownsRow (wr.heap.size + 1) 41 4 (.slice ha n hc) n (tyCells (T.take n))
  box : w.heap[wr.heap.size]? = some (.cells s 34 (0, 0))
  below : Below (wr.heap.size + 1) (wr.alloc (.cells s 34)) w
theorem Had.low {wr w : World} {T : Tab} {n : Nat} {ha : Option Addr} {hc : Nat} {s : Array Value} (h : Had wr T n ha hc s w) : Below wr.heap.size wr w :=
  ((Below.refl _ _).alloc (Nat.le_refl _) _).trans (h.below.mono (by omega))
theorem tyCells_snoc (T : Tab) (e : En) : tyCells (T ++ [e]) = tyCells T ++ [.int .i64 e.self.kind, .int .i64 e.self.elem, .int .i64 e.self.n, .string (bs e.self.name)] := by simp [tyCells]
theorem Had.next {wr w w2 w3 : World} {T : Tab} {n : Nat} {ha : Option Addr} {hc : Nat} {s : Array Value} {o1 o2 : Obj} {gg cap2 : Nat} (h : Had wr T n ha hc s w) (h2 : Below w.heap.size w w2) {e : En} (he : T[n]? = some e)
    (hown : w3.ownsRow (wr.heap.size + 1) 41 4 (.slice (some ⟨gg, 0, none⟩) (n + 1) cap2) (n + 1) (tyCells (T.take n) ++ [.int .i64 e.self.kind, .int .i64 e.self.elem, .int .i64 e.self.n, .string (bs e.self.name)]))
    (hgrow : ((w2.alloc o1).alloc o2).grownBy w3 (Value.slice ha n hc).ownBlock) : Had wr T (n + 1) (some ⟨gg, 0, none⟩) cap2 s w3 := by
  have hs := h.below.size
  have hs : wr.heap.size + 1 ≤ w.heap.size := by simpa using hs
  have h2s := h2.size
  have hb : Below (wr.heap.size + 1) w ((w2.alloc o1).alloc o2) := ((h2.mono (by omega)).alloc (by omega) _).alloc (by simp; omega) _
  have hb3 : Below (wr.heap.size + 1) w w3 := hb.grown hgrow (by simp; omega) (fun g hg => (h.row.lt g hg).1)
  exact ⟨by rw [List.take_add_one, he]; show w3.ownsRow _ _ _ _ _ (tyCells (T.take n ++ [e])); rw [tyCells_snoc]; exact hown, (hb3.block _ (by omega)).trans h.box, h.below.trans hb3⟩
/-- What was had stays, behind a step and what is stored to the box. -/
theorem had_does {w0 wo wq w4 : World} {t rb k : Nat} {a : Option Addr} {ds : List DoR} {T : Tab} {Y : List ((List UInt8 × List Fl) × Value)} {v v' : Value} {la da : Option Addr} {lc dc : Nat} {ha : Option Addr} {hc : Nat} {s : Array Value} (hs : StIn w0 t rb a ds k T Y v la lc da dc wo) (h : Had wo T T.length ha hc s wq) (ht : Turn t v v' wq w4) (u1 u2 : Value) :
    ((w4.setCell ⟨rb, 0, none⟩ u1).setCell ⟨rb, 1, none⟩ u2).ownsRow 0 41 4 (.slice ha T.length hc) T.length (tyCells T) := by
  have hr := h.row
  rw [List.take_length] at hr
  have hlt := hs.lt
  have htl := hs.both.tab.lt.2
  have ho := hs.both.tab.own.1
  have h1 : ∀ g, (Value.slice ha T.length hc).ownBlock = some g → wo.heap.size + 1 ≤ g := fun g hg => (hr.lt g hg).1
  have h2 := own_base (own_turn hr ht (fun e => by have := h1 t e; omega) (fun g hg e => by have := h1 g hg; have := (ho g e).2; omega))
  have hne : (Value.slice ha T.length hc).ownBlock ≠ some rb := fun e => by have := h1 rb e; omega
  exact own_setCell_other (own_setCell_other h2 (a := ⟨rb, 0, none⟩) hne u1) (a := ⟨rb, 1, none⟩) hne u2
theorem ty_neq (a b : Ty) (W : World) : (binOp .neq 41 (.agg #[.int .i64 a.kind, .int .i64 a.elem, .int .i64 a.n, .string (bs a.name)]) (.agg #[.int .i64 b.kind, .int .i64 b.elem, .int .i64 b.n, .string (bs b.name)])).run Tryd.prog W = .ok (.bool (!decide (a = b))) W := by
  have h := ty_eql a b W
  rw [run_eql_struct] at h
  rw [run_neq_struct]
  generalize (Op.equalIn 10000 41 (.agg #[.int .i64 a.kind, .int .i64 a.elem, .int .i64 a.n, .string (bs a.name)]) (.agg #[.int .i64 b.kind, .int .i64 b.elem, .int .i64 b.n, .string (bs b.name)])).run Tryd.prog W = r at h ⊢
  cases r with
  | ok b w =>
    simp only [Result.andThen] at h ⊢
    injection h with h1 h2
    injection h1 with h1
    rw [h1, h2]
  | _ => simp [Result.andThen] at h
set_option maxHeartbeats 8000000 in
set_option maxRecDepth 100000 in
theorem walk_few (a : Option Addr) (cap : Nat) (ds : List DoR) (w : World) (henv : Env w) (hd : DArg w a ds) (hl : ds.length ≤ maxLen) (hb : ∀ d ∈ ds, d.nm.length ≤ maxLen ∧ d.l.length ≤ maxLen ∧ ∀ f ∈ d.l, f.1.length ≤ maxLen) (hf : few ds = true) :
    Calls Tryd.prog 4 #[.slice a ds.length cap] w fun e w' => e = .returned (.bool true) ∧ Below w.heap.size w w' := by
  have HFB := Lib.hid hf
  have hfew : (∀ d ∈ ds, few1 d) ∧ ds.length ≤ 40 := by unfold few at hf; exact of_decide_eq_true hf
  obtain ⟨hf1, h40⟩ := hfew
  have HF1 := Lib.hid hf1
  have HE := Lib.hid henv
  have HD := Lib.hid hd
  have HBD := Lib.hid hb
  have HLN := Lib.hid hl
  clear hf hf1 henv hd hb hl
  obtain ⟨i0, hi0, hz0, hz1, hz2⟩ := info_parts infoTy
  go_enter Tryd.func4, Tryd.ntmps4
  go_wp2_with fail
  refine (few_any HD.out HLN.out HBD.out).mono ?_
  rw [HFB.out]
  rintro x w1 ⟨rfl, b1⟩
  have HB1 := Lib.hid b1
  clear b1
  go_wp2_with fail
  refine (new_any w1).mono ?_
  rintro x w2 ⟨v1, rfl, h2, b2⟩
  have H2 := Lib.hid h2
  have HB2 := Lib.hid b2
  clear h2 b2
  go_wp2_with fail
  refine (r_new w2).mono ?_
  rintro x w3 ⟨g, rfl, hg, h3, b3⟩
  have hz12 : w1.heap.size < w2.heap.size := H2.out.lt.2
  have hz23 := b3.size
  have S0 : Hid (OnSt w1 w1.heap.size w3.heap.size a ds 0 (w3.alloc (.cells #[.slice (some ⟨g, 0, none⟩) 4 4, .slice none 0 0] 30))) := Lib.hid ⟨newT, [], v1, _, _, _, _, st_new H2.out HB2.out h3 b3⟩
  clear h3 b3 hg
  unfold refV
  go_wp2
  go_loopw [26] (fun s26 wr => ∃ k : Nat, k ≤ ds.length ∧ s26 = .int .i64 k ∧ Hid (OnSt w1 w1.heap.size w3.heap.size a ds k wr)) (fun i wr => ds.length - (intOf i).toNat)
  case atStart => exact ⟨0, Nat.zero_le _, rfl, S0⟩
  case round =>
    obtain ⟨wo, rfl⟩ : ∃ wo : World, wo = wr := ⟨_, rfl⟩
    obtain ⟨k, hk, rfl, HP⟩ := hrel
    obtain ⟨T, Y, v, la, lc, da, dc, hs⟩ := HP.out
    have HS := Lib.hid hs
    clear hs
    by_cases hlt : k < ds.length
    · obtain ⟨d, hdk⟩ : ∃ d, ds[k]? = some d := ⟨_, List.getElem?_eq_getElem hlt⟩
      obtain ⟨b, off, rfl, hbl, hc⟩ := (HS.out.args (HD.out.below HB1.out)).at_ (by omega)
      have q0 : wo.cell? ⟨b, off + k * 5, none⟩ = some (.int .i64 d.vb) := hc k d hdk 0 _ rfl
      have q1 : wo.cell? ⟨b, off + k * 5 + 1, none⟩ = some (.int .i64 d.el) := hc k d hdk 1 _ rfl
      have q2 : wo.cell? ⟨b, off + k * 5 + 2, none⟩ = some (.int .i64 d.n) := hc k d hdk 2 _ rfl
      have q3 : wo.cell? ⟨b, off + k * 5 + 3, none⟩ = some (.string (bs d.nm)) := hc k d hdk 3 _ rfl
      have q4 : wo.cell? ⟨b, off + k * 5 + 4, none⟩ = some (.slice d.fa d.l.length d.fc) := hc k d hdk 4 _ rfl
      have HW1 : Hid (Below wo.heap.size wo (wo.alloc (.cells #[.int .i64 d.vb, .int .i64 d.el, .int .i64 d.n, .string (bs d.nm), .slice d.fa d.l.length d.fc] 34))) := Lib.hid ((Below.refl _ _).alloc (Nat.le_refl _) _)
      have HM := Lib.hid (List.mem_of_getElem? hdk)
      have h256 : T.length ≤ 256 := HS.out.both.rel.good.few
      clear hdk hc
      go_wp2_with fail
      refine (len_any (HS.out.both.tab.below HW1.out)).mono ?_
      rintro x w4 ⟨rfl, rfl⟩
      clear q0 q1 q2 q3 q4
      go_wp2
      go_loopw [33, 8] (fun s33 s8 wq => ∃ (n : Nat) (ha : Option Addr) (hc : Nat), n ≤ T.length ∧ s33 = .int .i64 n ∧ s8 = .slice ha n hc ∧ Hid (Had wo T n ha hc #[.int .i64 d.vb, .int .i64 d.el, .int .i64 d.n, .string (bs d.nm), .slice d.fa d.l.length d.fc] wq)) (fun i _ wq => T.length - (intOf i).toNat)
      case atStart => exact ⟨0, none, 0, Nat.zero_le _, rfl, rfl, Lib.hid ⟨World.ownsRow_nil _ _ _ _, heap_alloc_new wo _, Below.refl _ _⟩⟩
      case round =>
        obtain ⟨wq, rfl⟩ : ∃ wq : World, wq = wr := ⟨_, rfl⟩
        obtain ⟨n, ha, hc, hn, rfl, rfl, HH⟩ := hrel
        by_cases hlt2 : n < T.length
        · obtain ⟨e, he⟩ : ∃ e, T[n]? = some e := ⟨_, List.getElem?_eq_getElem hlt2⟩
          have HEn := Lib.hid he
          clear he
          go_wp2_with fail
          refine (at_any (HS.out.both.tab.below HH.out.low) n).mono ?_
          rw [ent_nat, HEn.out]
          rintro x w5 ⟨rfl, b5⟩
          rw [show tyV ((some e : Option En).getD zeroE).self = .agg #[.int .i64 e.self.kind, .int .i64 e.self.elem, .int .i64 e.self.n, .string (bs e.self.name)] from rfl]
          have HB5 := Lib.hid b5
          have hzo : wo.heap.size + 1 ≤ wq.heap.size := by have := HH.out.below.size; simpa using this
          have hz5 := b5.size
          clear b5
          go_wp2_with (at_builtin; go_loud (refine wpList_append_lies _ rfl _ _ 27 rfl (wo.heap.size + 1) 41 i0 _ 4 40 Tryd.underlying27 hi0 hz0 hz1 hz2 rfl (by omega) (.slice ha n hc) n (tyCells (T.take n)) (by rfl) (by exact ((own_below HH.out.row HB5.out).alloc _).alloc _) ⟨w5.heap.size + 1, 0, none⟩ 1 1 [.int .i64 e.self.kind, .int .i64 e.self.elem, .int .i64 e.self.n, .string (bs e.self.name)] (by rfl) (by rfl) (by exact typesFields.news2 w5 _ #[.int .i64 e.self.kind, .int .i64 e.self.elem, .int .i64 e.self.n, .string (bs e.self.name)] _) (by simp [Value.oneCell']) (by omega) (by unfold maxLen; omega) (by omega) (by simp; omega) (w5.heap.size + 2) (by simp) ?_); intro g2 cap2 w6 hown hgrow hat hlt6; have HH2 := Lib.hid (HH.out.next HB5.out HEn.out hown hgrow); clear hown hgrow hat)
          go_roundw
          case rel => exact ⟨n + 1, _, _, by omega, by go_num, rfl, HH2⟩
          case measure => simp [intOf]; omega
        · have hnl : n = T.length := by omega
          subst hnl
          have HS2 := Lib.hid (HS.out.more HH.out.low)
          obtain ⟨c0, c1, cf⟩ := HS2.out.cells
          have hrb := HS2.out.lt
          have hbx := HH.out.box
          have q0 : wq.cell? ⟨wo.heap.size, 0, none⟩ = some (.int .i64 d.vb) := by rw [cell_of_row wq _ 0 _ _ _ hbx]; rfl
          have q1 : wq.cell? ⟨wo.heap.size, 1, none⟩ = some (.int .i64 d.el) := by rw [cell_of_row wq _ 1 _ _ _ hbx]; rfl
          have q2 : wq.cell? ⟨wo.heap.size, 2, none⟩ = some (.int .i64 d.n) := by rw [cell_of_row wq _ 2 _ _ _ hbx]; rfl
          have q3 : wq.cell? ⟨wo.heap.size, 3, none⟩ = some (.string (bs d.nm)) := by rw [cell_of_row wq _ 3 _ _ _ hbx]; rfl
          have q4 : wq.cell? ⟨wo.heap.size, 4, none⟩ = some (.slice d.fa d.l.length d.fc) := by rw [cell_of_row wq _ 4 _ _ _ hbx]; rfl
          have hzo : wo.heap.size + 1 ≤ wq.heap.size := by have := HH.out.below.size; simpa using this
          clear hbx
          go_wp2_with fail
          refine (does_any HS2.out.both d (by have := HS2.out.len; omega) (HF1.out d HM.out) (((HD.out.below HB1.out).flds d HM.out).below HS2.out.below) (HS2.out.apart ((HD.out.below HB1.out).flds d HM.out))).mono ?_
          rintro x w4 ⟨v', T', Y', la', lc', da', dc', rfl, hB, hT, hY', hG⟩
          have HG := Lib.hid hG
          have hx := HS2.out.does (Below.refl _ _) hT
          have hr4 : w3.heap.size < w4.heap.size := (Array.getElem?_eq_some_iff.1 hx.1).1
          have d0 : w4.cell? ⟨w3.heap.size, 0, none⟩ = some (.slice la T.length lc) := by rw [cell_of_row w4 _ 0 _ _ _ hx.1]; rfl
          have d1 : w4.cell? ⟨w3.heap.size, 1, none⟩ = some (.slice da Y.length dc) := by rw [cell_of_row w4 _ 1 _ _ _ hx.1]; rfl
          have df : ∀ o, w4.frozen? ⟨w3.heap.size, o, none⟩ = false := fun o => by simp [World.frozen?, hx.1]
          have HN := Lib.hid (HS2.out.next (Below.refl _ _) hB hT hY' (Below.refl _ _))
          have HR := Lib.hid (had_does HS.out HH.out hT (.slice la' T'.length lc') (.slice da' Y'.length dc'))
          have hT0 : 0 < T'.length := HN.out.both.pos
          have hT256 : T'.length ≤ 256 := HN.out.both.rel.good.few
          have hle := HG.out.le
          have hone := HG.out.one
          have g0 : decide (T'.length < T.length) = false := by simp; omega
          have g1 : decide ((T.length : Int) + 1 < (T'.length : Int)) = false := by simp; omega
          clear hB hT hY' hG hx q0 q1 q2 q3 q4 c0 c1 cf
          go_wp2_with fail
          obtain ⟨wS, hwS⟩ : ∃ wS : World, ((w4.setCell ⟨w3.heap.size, 0, none⟩ (.slice la' T'.length lc')).setCell ⟨w3.heap.size, 1, none⟩ (.slice da' Y'.length dc')) = wS := ⟨_, rfl⟩
          rw [hwS] at HN HR ⊢
          clear hwS d0 d1 df hr4
          refine (len_any HN.out.both.tab).mono ?_
          rintro x w5 ⟨rfl, rfl⟩
          go_wp2_with fail
          refine (len_any HN.out.both.tab).mono ?_
          rintro x w5 ⟨rfl, rfl⟩
          go_wp2_with fail
          refine (len_any HN.out.both.tab).mono ?_
          rintro x w5 ⟨rfl, rfl⟩
          clear g0 g1
          go_wp2
          go_loopw [67] (fun s67 wy => ∃ n : Nat, n ≤ T'.length ∧ s67 = .int .i64 n ∧ Hid (Below wS.heap.size wS wy)) (fun i wy => T'.length - (intOf i).toNat)
          case atStart => exact ⟨0, Nat.zero_le _, rfl, Lib.hid (Below.refl _ _)⟩
          case round =>
            obtain ⟨wy, rfl⟩ : ∃ wy : World, wy = wr := ⟨_, rfl⟩
            obtain ⟨n, hn, rfl, HY⟩ := hrel
            by_cases hlt3 : n < T'.length
            · obtain ⟨e, he⟩ : ∃ e, T'[n]? = some e := ⟨_, List.getElem?_eq_getElem hlt3⟩
              have HEn := Lib.hid he
              clear he
              go_wp2_with fail
              refine (at_any (HN.out.both.tab.below HY.out) n).mono ?_
              rw [ent_nat, HEn.out]
              rintro x w6 ⟨rfl, b6⟩
              rw [show tyV ((some e : Option En).getD zeroE).self = .agg #[.int .i64 e.self.kind, .int .i64 e.self.elem, .int .i64 e.self.n, .string (bs e.self.name)] from rfl]
              have HB6 := Lib.hid (HY.out.trans (b6.mono HY.out.size))
              clear b6
              have HB7 : Hid (Below wS.heap.size wS (w6.alloc (.cells #[.int .i64 e.self.kind, .int .i64 e.self.elem, .int .i64 e.self.n, .string (bs e.self.name)] 41))) := Lib.hid (HB6.out.alloc HB6.out.size _)
              by_cases hg : n < T.length
              · have hg1 : decide (n < T.length) = true := by simpa using hg
                obtain ⟨g5, cap5, hg5, _, hgl⟩ := HR.out.form (by omega)
                simp only [Value.slice.injEq] at hg5
                obtain ⟨rfl, _, rfl⟩ := hg5
                obtain ⟨e0, he0⟩ : ∃ e0, T[n]? = some e0 := ⟨_, List.getElem?_eq_getElem hg⟩
                have hes : e0.self = e.self := by
                  obtain ⟨e', h1, h2⟩ := HG.out.keep n e0 he0
                  rw [HEn.out] at h1
                  injection h1 with h1
                  rw [h1, h2]
                have hgz : g5 < w6.heap.size := Nat.lt_of_lt_of_le hgl HB6.out.size
                have y : ∀ j, j < 4 → ∀ u, [.int .i64 e.self.kind, .int .i64 e.self.elem, .int .i64 e.self.n, .string (bs e.self.name)][j]? = some u → w6.cell? ⟨g5, n * 4 + j, none⟩ = some u := fun j hj u hu => by
                  have h1 := HR.out.cells (g := g5) rfl (n * 4 + j) u (by rw [tyCells_at T n j e0 he0 hj, hes]; exact hu)
                  rw [add_off] at h1
                  rw [HB6.out.cell (p := ⟨g5, n * 4 + j, none⟩) hgl]
                  exact h1
                have y0 : w6.cell? ⟨g5, n * 4, none⟩ = some (.int .i64 e.self.kind) := y 0 (by omega) _ rfl
                have y1 : w6.cell? ⟨g5, n * 4 + 1, none⟩ = some (.int .i64 e.self.elem) := y 1 (by omega) _ rfl
                have y2 : w6.cell? ⟨g5, n * 4 + 2, none⟩ = some (.int .i64 e.self.n) := y 2 (by omega) _ rfl
                have y3 : w6.cell? ⟨g5, n * 4 + 3, none⟩ = some (.string (bs e.self.name)) := y 3 (by omega) _ rfl
                have hnq : ∀ W : World, (binOp .neq 41 (.agg #[.int .i64 e.self.kind, .int .i64 e.self.elem, .int .i64 e.self.n, .string (bs e.self.name)]) (.agg #[.int .i64 e.self.kind, .int .i64 e.self.elem, .int .i64 e.self.n, .string (bs e.self.name)])).run Tryd.prog W = .ok (.bool false) W := fun W => by rw [ty_neq e.self e.self W]; simp
                clear y he0 hes
                go_wp2
                go_quiet (fail)
                go_wp2
                go_loopw [88] (fun s88 wz => ∃ m : Nat, m ≤ n ∧ s88 = .int .i64 m ∧ Hid (Below (w6.heap.size + 1) (w6.alloc (.cells #[.int .i64 e.self.kind, .int .i64 e.self.elem, .int .i64 e.self.n, .string (bs e.self.name)] 41)) wz)) (fun i wz => n - (intOf i).toNat)
                case atStart => exact ⟨0, Nat.zero_le _, rfl, Lib.hid (below_drewN _ _ _)⟩
                case round =>
                  obtain ⟨wz, rfl⟩ : ∃ wz : World, wz = wr := ⟨_, rfl⟩
                  obtain ⟨m, hm, rfl, HZ⟩ := hrel
                  have hz6 : w6.heap.size + 1 ≤ wz.heap.size := by have := HZ.out.size; simpa using this
                  by_cases hlt4 : m < n
                  · obtain ⟨em, hem⟩ : ∃ em, T'[m]? = some em := ⟨_, List.getElem?_eq_getElem (by omega)⟩
                    have HEm := Lib.hid hem
                    have hne : ¬ e.self = em.self := fun h => by have := HN.out.both.rel.nodup n m e em HEn.out hem h; omega
                    have heq : ∀ W : World, (binOp .eql 41 (.agg #[.int .i64 e.self.kind, .int .i64 e.self.elem, .int .i64 e.self.n, .string (bs e.self.name)]) (.agg #[.int .i64 em.self.kind, .int .i64 em.self.elem, .int .i64 em.self.n, .string (bs em.self.name)])).run Tryd.prog W = .ok (.bool false) W := fun W => by rw [ty_eql e.self em.self W, decide_eq_false hne]
                    clear hem hne
                    go_wp2_with fail
                    refine (at_any (HN.out.both.tab.below (HB7.out.trans (HZ.out.mono (Nat.le_trans HB6.out.size (by omega))))) m).mono ?_
                    rw [ent_nat, HEm.out]
                    rintro x w8 ⟨rfl, b8⟩
                    rw [show tyV ((some em : Option En).getD zeroE).self = .agg #[.int .i64 em.self.kind, .int .i64 em.self.elem, .int .i64 em.self.n, .string (bs em.self.name)] from rfl]
                    have HZ8 := Lib.hid (HZ.out.trans (b8.mono (by omega)))
                    have hz8 := b8.size
                    have hz68 : w6.heap.size < w8.heap.size := by omega
                    have x0 : w8.cell? ⟨w6.heap.size, 0, none⟩ = some (.int .i64 e.self.kind) := by rw [HZ8.out.cell (p := ⟨w6.heap.size, 0, none⟩) (by show w6.heap.size < _; omega), cell_of_row _ _ 0 _ _ _ (heap_alloc_new w6 _)]; rfl
                    have x1 : w8.cell? ⟨w6.heap.size, 1, none⟩ = some (.int .i64 e.self.elem) := by rw [HZ8.out.cell (p := ⟨w6.heap.size, 1, none⟩) (by show w6.heap.size < _; omega), cell_of_row _ _ 1 _ _ _ (heap_alloc_new w6 _)]; rfl
                    have x2 : w8.cell? ⟨w6.heap.size, 2, none⟩ = some (.int .i64 e.self.n) := by rw [HZ8.out.cell (p := ⟨w6.heap.size, 2, none⟩) (by show w6.heap.size < _; omega), cell_of_row _ _ 2 _ _ _ (heap_alloc_new w6 _)]; rfl
                    have x3 : w8.cell? ⟨w6.heap.size, 3, none⟩ = some (.string (bs e.self.name)) := by rw [HZ8.out.cell (p := ⟨w6.heap.size, 3, none⟩) (by show w6.heap.size < _; omega), cell_of_row _ _ 3 _ _ _ (heap_alloc_new w6 _)]; rfl
                    clear b8
                    go_wp2
                    go_roundw
                    case rel => exact ⟨m + 1, by omega, by go_num, Lib.hid (HZ8.out.alloc (by omega) _)⟩
                    case measure => simp [intOf]; omega
                  · go_wp2
                    go_roundw
                    case rel => exact ⟨n + 1, by omega, by go_num, Lib.hid (HB7.out.trans (HZ.out.mono (Nat.le_trans HB6.out.size (by omega))))⟩
                    case measure => simp [intOf]; omega
              · have hg1 : decide (n < T.length) = false := by simpa using hg
                go_wp2
                go_quiet (fail)
                go_wp2
                go_loopw [88] (fun s88 wz => ∃ m : Nat, m ≤ n ∧ s88 = .int .i64 m ∧ Hid (Below (w6.heap.size + 1) (w6.alloc (.cells #[.int .i64 e.self.kind, .int .i64 e.self.elem, .int .i64 e.self.n, .string (bs e.self.name)] 41)) wz)) (fun i wz => n - (intOf i).toNat)
                case atStart => exact ⟨0, Nat.zero_le _, rfl, Lib.hid (below_drewN _ _ _)⟩
                case round =>
                  obtain ⟨wz, rfl⟩ : ∃ wz : World, wz = wr := ⟨_, rfl⟩
                  obtain ⟨m, hm, rfl, HZ⟩ := hrel
                  have hz6 : w6.heap.size + 1 ≤ wz.heap.size := by have := HZ.out.size; simpa using this
                  by_cases hlt4 : m < n
                  · obtain ⟨em, hem⟩ : ∃ em, T'[m]? = some em := ⟨_, List.getElem?_eq_getElem (by omega)⟩
                    have HEm := Lib.hid hem
                    have hne : ¬ e.self = em.self := fun h => by have := HN.out.both.rel.nodup n m e em HEn.out hem h; omega
                    have heq : ∀ W : World, (binOp .eql 41 (.agg #[.int .i64 e.self.kind, .int .i64 e.self.elem, .int .i64 e.self.n, .string (bs e.self.name)]) (.agg #[.int .i64 em.self.kind, .int .i64 em.self.elem, .int .i64 em.self.n, .string (bs em.self.name)])).run Tryd.prog W = .ok (.bool false) W := fun W => by rw [ty_eql e.self em.self W, decide_eq_false hne]
                    clear hem hne
                    go_wp2_with fail
                    refine (at_any (HN.out.both.tab.below (HB7.out.trans (HZ.out.mono (Nat.le_trans HB6.out.size (by omega))))) m).mono ?_
                    rw [ent_nat, HEm.out]
                    rintro x w8 ⟨rfl, b8⟩
                    rw [show tyV ((some em : Option En).getD zeroE).self = .agg #[.int .i64 em.self.kind, .int .i64 em.self.elem, .int .i64 em.self.n, .string (bs em.self.name)] from rfl]
                    have HZ8 := Lib.hid (HZ.out.trans (b8.mono (by omega)))
                    have hz8 := b8.size
                    have hz68 : w6.heap.size < w8.heap.size := by omega
                    have x0 : w8.cell? ⟨w6.heap.size, 0, none⟩ = some (.int .i64 e.self.kind) := by rw [HZ8.out.cell (p := ⟨w6.heap.size, 0, none⟩) (by show w6.heap.size < _; omega), cell_of_row _ _ 0 _ _ _ (heap_alloc_new w6 _)]; rfl
                    have x1 : w8.cell? ⟨w6.heap.size, 1, none⟩ = some (.int .i64 e.self.elem) := by rw [HZ8.out.cell (p := ⟨w6.heap.size, 1, none⟩) (by show w6.heap.size < _; omega), cell_of_row _ _ 1 _ _ _ (heap_alloc_new w6 _)]; rfl
                    have x2 : w8.cell? ⟨w6.heap.size, 2, none⟩ = some (.int .i64 e.self.n) := by rw [HZ8.out.cell (p := ⟨w6.heap.size, 2, none⟩) (by show w6.heap.size < _; omega), cell_of_row _ _ 2 _ _ _ (heap_alloc_new w6 _)]; rfl
                    have x3 : w8.cell? ⟨w6.heap.size, 3, none⟩ = some (.string (bs e.self.name)) := by rw [HZ8.out.cell (p := ⟨w6.heap.size, 3, none⟩) (by show w6.heap.size < _; omega), cell_of_row _ _ 3 _ _ _ (heap_alloc_new w6 _)]; rfl
                    clear b8
                    go_wp2
                    go_roundw
                    case rel => exact ⟨m + 1, by omega, by go_num, Lib.hid (HZ8.out.alloc (by omega) _)⟩
                    case measure => simp [intOf]; omega
                  · go_wp2
                    go_roundw
                    case rel => exact ⟨n + 1, by omega, by go_num, Lib.hid (HB7.out.trans (HZ.out.mono (Nat.le_trans HB6.out.size (by omega))))⟩
                    case measure => simp [intOf]; omega
            · go_wp2
              go_roundw
              case rel => exact ⟨k + 1, by omega, by go_num, Lib.hid ⟨T', Y', v', la', lc', da', dc', HN.out.more HY.out⟩⟩
              case measure => simp [intOf]; omega
    · have hB := HS.out.below
      have HBW := Lib.hid (HB1.out.trans (hB.mono HB1.out.size))
      clear hB
      go_wp2_with fail
      refine (awake_any _ (HE.out.below HBW.out HE.out.sz)).mono ?_
      rintro x w8 ⟨rfl, b8⟩
      go_wp2
      go_ret
      exact ⟨rfl, HBW.out.trans (b8.mono HBW.out.size)⟩
set_option maxHeartbeats 4000000 in
set_option maxRecDepth 100000 in
theorem walk (a : Option Addr) (cap : Nat) (ds : List DoR) (w : World) (henv : Env w) (hd : DArg w a ds) (hl : ds.length ≤ maxLen) (hb : ∀ d ∈ ds, d.nm.length ≤ maxLen ∧ d.l.length ≤ maxLen ∧ ∀ f ∈ d.l, f.1.length ≤ maxLen) :
    Calls Tryd.prog 4 #[.slice a ds.length cap] w fun e w' => e = .returned (.bool true) ∧ Below w.heap.size w w' := by
  cases hf : few ds with
  | true => exact walk_few a cap ds w henv hd hl hb hf
  | false =>
    have HFB := Lib.hid hf
    have HE := Lib.hid henv
    have HD := Lib.hid hd
    have HBD := Lib.hid hb
    have HLN := Lib.hid hl
    clear hf henv hd hb hl
    go_enter Tryd.func4, Tryd.ntmps4
    go_wp2_with fail
    refine (few_any HD.out HLN.out HBD.out).mono ?_
    rw [HFB.out]
    rintro x w1 ⟨rfl, b1⟩
    have HB1 := Lib.hid b1
    clear b1
    go_wp2_with fail
    refine (awake_any _ (HE.out.below HB1.out HE.out.sz)).mono ?_
    rintro x w8 ⟨rfl, b8⟩
    go_wp2
    go_ret
    exact ⟨rfl, HB1.out.trans (b8.mono HB1.out.size)⟩
end Go.Proofs.YtemnlkgjgalipaaDoor.typesOnce
