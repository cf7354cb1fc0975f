/-
  The contract of Text.
-/
import Derived.Test.YtemnlkgjgalipaaDoorEnv
namespace Go.Proofs.YtemnlkgjgalipaaDoor
open Go.RowKit Go.Maps Tp Go.ChangeMaps
set_option linter.unusedVariables false

theorem textF_fuel {T : Tab} (h : Tp.Good T) : ∀ (i f : Nat), i < f → textF T f i = textF T (i + 1) i := by
  intro i
  induction i using Nat.strongRecOn with
  | _ i ih =>
    intro f hf
    obtain ⟨f, rfl⟩ : ∃ g, f = g + 1 := ⟨f - 1, by omega⟩
    unfold textF
    cases hT : T[i]? with
    | none => rfl
    | some e =>
      simp only
      by_cases h4 : e.self.kind = 4
      · have hd := h.down i e hT (.inl h4)
        rw [if_pos h4, if_pos h4, ih e.self.elem.toNat (by omega) f (by omega), ih e.self.elem.toNat (by omega) i (by omega)]
      · rw [if_neg h4, if_neg h4]
        by_cases h5 : e.self.kind = 5
        · have hd := h.down i e hT (.inr h5)
          rw [if_pos h5, if_pos h5, ih e.self.elem.toNat (by omega) f (by omega), ih e.self.elem.toNat (by omega) i (by omega)]
        · rw [if_neg h5, if_neg h5]
def txt (T : Tab) (i : Nat) : List UInt8 := textF T (i + 1) i
theorem text_nat (T : Tab) (i : Nat) : text T i = txt T i := by unfold text txt; rw [if_neg (by omega)]; simp
theorem txt_ptr {T : Tab} (h : Tp.Good T) {i j : Nat} {e : En} (hT : T[i]? = some e) (hk : e.self.kind = 4) (hj : e.self.elem = j) : txt T i = txt T j ++ [42] ∧ j < i := by
  have hd := h.down i e hT (.inl hk)
  unfold txt
  refine ⟨?_, by omega⟩
  conv => lhs; unfold textF
  rw [hT]
  simp only
  rw [if_pos hk, hj, Int.toNat_natCast, textF_fuel h j i (by omega)]
theorem txt_arr {T : Tab} (h : Tp.Good T) {i j : Nat} {e : En} (hT : T[i]? = some e) (hk : e.self.kind = 5) (hj : e.self.elem = j) : txt T i = txt T j ++ ([91] ++ Lib.decDigits e.self.n.toNat ++ [93]) ∧ j < i := by
  have hd := h.down i e hT (.inr hk)
  unfold txt
  refine ⟨?_, by omega⟩
  conv => lhs; unfold textF
  rw [hT]
  simp only
  rw [if_neg (by omega), if_pos hk, hj, Int.toNat_natCast, textF_fuel h j i (by omega)]
theorem txt_str {T : Tab} {i : Nat} {e : En} (hT : T[i]? = some e) (hk : e.self.kind = 6) : txt T i = structL ++ e.self.name := by
  unfold txt textF
  rw [hT]
  simp only
  rw [if_neg (by omega), if_neg (by omega), if_pos hk]
theorem txt_base {T : Tab} {i : Nat} {e : En} (hT : T[i]? = some e) (hk : e.self.kind ≤ 3) : txt T i = baseText e.self.kind := by
  unfold txt textF
  rw [hT]
  simp only
  rw [if_neg (by omega), if_neg (by omega), if_neg (by omega)]
theorem add_bs (a b : List UInt8) (c : List UInt8) (hc : a ++ b = c) (h : a.length + b.length ≤ 9223372036854775807) (w : World) : (Op.stringOp .add (bs a) (bs b)).run Tryd.prog w = .ok (.string (bs c)) w := by
  rw [run_string_add_sum w _ _ (by simpa [ByteArray.size] using h), ByteArray.mk_append_mk, hc]
theorem ret_str {a b : List UInt8} (h : a = b) : Ending.returned (.string (bs a)) = .returned (.string (bs b)) := by rw [h]
theorem text_none {w : World} {p : Value} {n : Int} (h : EntAt w p n zeroE none false) : Calls Tryd.prog 24 #[p, .int .i64 n] w fun e w' => e = .returned (.string ⟨#[]⟩) ∧ Below w.heap.size w w' := by
  have H := Lib.hid h; clear h
  go_enter Tryd.func24, Tryd.ntmps24
  go_wp2_with ((with_reducible refine (H.out.at _ (Below.refl _ _)).mono ?_); rintro x w1 ⟨rfl, hb⟩; unfold enV; have HB := Lib.hid hb; clear hb)
  go_ret
  exact ⟨rfl, HB.out.alloc HB.out.size _⟩
theorem set_at {w : World} {b : Nat} {cs : Array Value} {t : TypeId} (h : w.heap[b]? = some (.cells cs t (0, 0))) (o : Nat) (y : Value) : (w.setCell ⟨b, o, none⟩ y).heap[b]? = some (.cells (cs.setIfInBounds o y) t (0, 0)) := by
  simp [World.setCell, Array.getElem?_modify, h]
theorem six_sets {w : World} {b : Nat} {x0 x1 x2 x3 x4 x5 : Value} {t : TypeId} (h : w.heap[b]? = some (.cells #[x0, x1, x2, x3, x4, x5] t (0, 0))) (y0 y1 y2 y3 y4 y5 : Value) :
    ((((((w.setCell ⟨b, 0, none⟩ y0).setCell ⟨b, 1, none⟩ y1).setCell ⟨b, 2, none⟩ y2).setCell ⟨b, 3, none⟩ y3).setCell ⟨b, 4, none⟩ y4).setCell ⟨b, 5, none⟩ y5).heap[b]? = some (.cells #[y0, y1, y2, y3, y4, y5] t (0, 0)) := by
  rw [set_at (set_at (set_at (set_at (set_at (set_at h 0 y0) 1 y1) 2 y2) 3 y3) 4 y4) 5 y5]
  simp
theorem drew_heap (w : World) (b : Nat) : w.drew.heap[b]? = w.heap[b]? := rfl
theorem alloc_drew {w : World} {b : Nat} {x o : Obj} (h : w.heap[b]? = some x) : (w.alloc o).drew.heap[b]? = some x := by
  rw [drew_heap, Below.heap_alloc _ _ _ (Array.getElem?_eq_some_iff.1 h).1]; exact h
theorem below_six {B b : Nat} {w w' : World} (h : Below B w w') (hb : B ≤ b) (y0 y1 y2 y3 y4 y5 : Value) : Below B w ((((((w'.setCell ⟨b, 0, none⟩ y0).setCell ⟨b, 1, none⟩ y1).setCell ⟨b, 2, none⟩ y2).setCell ⟨b, 3, none⟩ y3).setCell ⟨b, 4, none⟩ y4).setCell ⟨b, 5, none⟩ y5) :=
  (((((h.setCell (by exact hb) _).setCell (by exact hb) _).setCell (by exact hb) _).setCell (by exact hb) _).setCell (by exact hb) _).setCell (by exact hb) _
/-- The entry that is looked at, in its own block, and what is behind it. -/
def TextAt (T : Tab) (R : List UInt8) (w : World) (bb i : Nat) (e : En) (m : Option Nat) (beh : List UInt8) (wr : World) : Prop :=
  T[i]? = some e ∧ wr.heap[bb]? = some (.cells #[.int .i64 e.self.kind, .int .i64 e.self.elem, .int .i64 e.self.n, .string (bs e.self.name), .int .i64 e.size, .map m] 71 (0, 0)) ∧ txt T i ++ beh = R ∧ Below w.heap.size w wr
set_option maxHeartbeats 4000000 in
set_option maxRecDepth 100000 in
theorem text_some {w : World} {t B : Nat} {v : Value} {T : Tab} (hT : TabIn w t B v T) (hG : Tp.Good T) (henv : Env w) (i0 : Nat) (hi : i0 < T.length) : Calls Tryd.prog 24 #[.pointer (some ⟨t, 0, none⟩), .int .i64 i0] w
    fun e w' => e = .returned (.string (bs (txt T i0))) ∧ Below w.heap.size w w' := by
  obtain ⟨m0, hE, _⟩ := entAt_any hT i0
  obtain ⟨e0, he0⟩ : ∃ e0, T[i0]? = some e0 := ⟨_, List.getElem?_eq_getElem hi⟩
  rw [ent_nat, he0] at hE
  simp only [Option.getD_some, Option.isSome_some] at hE
  have hT256 := hG.few
  have H := Lib.hid hE; clear hE
  have HT := Lib.hid hT; clear hT
  have HG := Lib.hid hG; clear hG
  have HE := Lib.hid henv; clear henv
  have H0 := Lib.hid he0; clear he0
  go_enter Tryd.func24, Tryd.ntmps24
  go_wp2_with ((with_reducible refine (H.out.at _ (Below.refl _ _)).mono ?_); rintro x w1 ⟨rfl, hb⟩; unfold enV; have HB := Lib.hid hb; clear hb)
  have hz1 : w.heap.size ≤ w1.heap.size := HB.out.size
  go_loopg [7] (i0 + 1) (fun gg s7 wr => ∃ (i : Nat) (e : En) (m : Option Nat) (beh : List UInt8), gg = i + 1 ∧ s7 = .string (bs beh) ∧ beh.length + 30 * i ≤ 30 * i0 ∧ Hid (TextAt T (txt T i0) w w1.heap.size i e m beh wr))
  case atStart => exact ⟨i0, e0, m0, [], rfl, rfl, by simp, Lib.hid ⟨H0.out, heap_alloc_new w1 _, by simp, HB.out.alloc hz1 _⟩⟩
  case round =>
    obtain ⟨i, e, m, beh, rfl, rfl, hbl, HA⟩ := hrel
    obtain ⟨hTi, hbb, htx, hbw⟩ := HA.out
    have HTI := Lib.hid hTi
    have HBB := Lib.hid hbb
    have HTX := Lib.hid htx
    have HBW := Lib.hid hbw
    have q0 : wr.cell? ⟨w1.heap.size, 0, none⟩ = some (.int .i64 e.self.kind) := by rw [cell_of_row wr _ 0 _ _ _ hbb]; rfl
    have q1 : wr.cell? ⟨w1.heap.size, 1, none⟩ = some (.int .i64 e.self.elem) := by rw [cell_of_row wr _ 1 _ _ _ hbb]; rfl
    have q2 : wr.cell? ⟨w1.heap.size, 2, none⟩ = some (.int .i64 e.self.n) := by rw [cell_of_row wr _ 2 _ _ _ hbb]; rfl
    have q3 : wr.cell? ⟨w1.heap.size, 3, none⟩ = some (.string (bs e.self.name)) := by rw [cell_of_row wr _ 3 _ _ _ hbb]; rfl
    have q4 : wr.cell? ⟨w1.heap.size, 4, none⟩ = some (.int .i64 e.size) := by rw [cell_of_row wr _ 4 _ _ _ hbb]; rfl
    have q5 : wr.cell? ⟨w1.heap.size, 5, none⟩ = some (.map m) := by rw [cell_of_row wr _ 5 _ _ _ hbb]; rfl
    have qz : w1.heap.size < wr.heap.size := (Array.getElem?_eq_some_iff.1 hbb).1
    have hkd := HG.out.kind i e hTi
    clear hTi hbb htx hbw
    have qf : ∀ o, wr.frozen? ⟨w1.heap.size, o, none⟩ = false := fun o => by simp [World.frozen?, HBB.out]
    have HW : Hid (Below w.heap.size w (wr.alloc (.cells #[.int .i64 e.self.kind, .int .i64 e.self.elem, .int .i64 e.self.n, .string (bs e.self.name)] 41))) := Lib.hid (HBW.out.alloc HBW.out.size _)
    by_cases h3 : e.self.kind ≤ 3
    · obtain ⟨kn, hkn⟩ := Int.eq_ofNat_of_zero_le hkd.1
      have HB3 := Lib.hid (txt_base HTI.out h3)
      rw [hkn] at h3 q0 HB3
      have hn := (HE.out.below HBW.out HE.out.sz).names kn (by omega)
      have hnl : (baseText kn).length ≤ 8 := by
        have : kn = 0 ∨ kn = 1 ∨ kn = 2 ∨ kn = 3 := by omega
        rcases this with rfl | rfl | rfl | rfl <;> decide
      have hga := HE.out.sz
      have gz : 0 < wr.heap.size := by omega
      have b4 : ((kn : Int) == 4) = false := by simp; omega
      have b5 : ((kn : Int) == 5) = false := by simp; omega
      have b6 : ((kn : Int) == 6) = false := by simp; omega
      have kn0 : (0 : Int) ≤ (kn : Int) := Int.natCast_nonneg _
      have kn4 : (kn : Int) < 4 := by omega
      have a1 : ∀ W : World, (Op.stringOp .add (bs (baseText kn)) (bs beh)).run Tryd.prog W = .ok (.string (bs (txt T i0))) W := fun W => add_bs _ _ _ (by rw [← HTX.out, HB3.out]) (by omega) W
      clear hkn hkd
      go_wp2
      go_ret
      exact ⟨rfl, HBW.out.alloc HBW.out.size _⟩
    · by_cases h6 : e.self.kind = 6
      · have HB6 := Lib.hid (txt_str HTI.out h6)
        have hnl := HG.out.short i e HTI.out
        have hsl : structL.length = 7 := rfl
        have a1 : ∀ W : World, (Op.stringOp .add ⟨#[115, 116, 114, 117, 99, 116, 32]⟩ (bs e.self.name)).run Tryd.prog W = .ok (.string (bs (structL ++ e.self.name))) W := fun W => add_bs structL _ _ rfl (by omega) W
        have a2 : ∀ W : World, (Op.stringOp .add (bs (structL ++ e.self.name)) (bs beh)).run Tryd.prog W = .ok (.string (bs (txt T i0))) W := fun W => add_bs _ _ _ (by rw [← HTX.out, HB6.out]) (by simp; omega) W
        clear hsl
        go_wp2
        go_ret
        exact ⟨rfl, HBW.out.alloc HBW.out.size _⟩
      · have h45 : e.self.kind = 4 ∨ e.self.kind = 5 := by omega
        have hdn := HG.out.down i e HTI.out h45
        obtain ⟨j, hj⟩ := Int.eq_ofNat_of_zero_le hdn.1
        have hji : j < i := by omega
        have hil : i < T.length := (List.getElem?_eq_some_iff.1 HTI.out).1
        obtain ⟨e2, he2⟩ : ∃ e2, T[j]? = some e2 := ⟨_, List.getElem?_eq_getElem (by omega)⟩
        have HJ := Lib.hid he2
        obtain ⟨X, hX, hTX⟩ := HT.out.below HBW.out
        obtain ⟨m2, hm2⟩ := map_at hX he2
        have hjX : j < X.length := (List.getElem?_eq_some_iff.1 hm2).1
        obtain ⟨g, cap, rfl, hg, hgl⟩ := hTX.form (by omega)
        obtain ⟨c0, c1, c2, c3, c4, c5⟩ := hTX.at hm2
        have ct := hTX.cell
        have tz := hTX.lt
        simp only at c0 c1 c2 c3 c4 c5
        have j0 : (0 : Int) ≤ (j : Int) := Int.natCast_nonneg _
        have j1 : (j : Int) < (X.length : Int) := by omega
        have HJE := Lib.hid hj
        rw [hj] at q1
        clear hX hTX he2 hm2 hdn
        by_cases h4 : e.self.kind = 4
        · have HP := Lib.hid (txt_ptr HG.out HTI.out h4 HJE.out)
          have a1 : ∀ W : World, (Op.stringOp .add ⟨#[42]⟩ (bs beh)).run Tryd.prog W = .ok (.string (bs (42 :: beh))) W := fun W => add_bs [42] _ _ rfl (by simp; omega) W
          rw [h4] at q0
          clear h45 h4 h6 h3 hkd hj
          go_wp2
          go_region
          go_wp2
          go_roundg (j + 1)
          case measure => omega
          case rel => exact ⟨j, e2, m2, 42 :: beh, rfl, rfl, by simp; omega, Lib.hid ⟨HJ.out, alloc_drew (six_sets HBB.out _ _ _ _ _ _), by rw [← HTX.out, HP.out.1]; simp, ((below_six HBW.out hz1 _ _ _ _ _ _).alloc (by simp [World.setCell]; omega) _).drew⟩⟩
        · have h5 : e.self.kind = 5 := by omega
          have HP := Lib.hid (txt_arr HG.out HTI.out h5 HJE.out)
          have hct := HG.out.count i e HTI.out
          obtain ⟨c, hcn⟩ := Int.eq_ofNat_of_zero_le hct.1
          have HC := Lib.hid hcn
          rw [hcn] at q2 hct
          have hc4 := digits_few (u := c) (by omega)
          have a1 : ∀ W : World, (Op.stringOp .add ⟨#[91]⟩ (bs (Lib.decDigits c))).run Tryd.prog W = .ok (.string (bs (91 :: Lib.decDigits c))) W := fun W => add_bs [91] _ _ rfl (by simp; omega) W
          have a2 : ∀ W : World, (Op.stringOp .add (bs (91 :: Lib.decDigits c)) ⟨#[93]⟩).run Tryd.prog W = .ok (.string (bs (91 :: Lib.decDigits c ++ [93]))) W := fun W => add_bs _ [93] _ rfl (by simp; omega) W
          have a3 : ∀ W : World, (Op.stringOp .add (bs (91 :: Lib.decDigits c ++ [93])) (bs beh)).run Tryd.prog W = .ok (.string (bs (91 :: Lib.decDigits c ++ [93] ++ beh))) W := fun W => add_bs _ _ _ rfl (by simp; omega) W
          rw [h5] at q0
          clear h45 h4 h5 h6 h3 hkd hj hcn
          have hcc := hct.2
          clear hct
          go_wp2_with fail
          have HIT : Hid (Env (wr.alloc (.cells #[.int .i64 5, .int .i64 j, .int .i64 c, .string (bs e.self.name)] 41))) := Lib.hid (HE.out.below (HBW.out.alloc HBW.out.size _) HE.out.sz)
          refine (itoa_any c (by omega) _ HIT.out).mono ?_
          rintro x w2 ⟨rfl, hb2⟩
          have HX2 : Hid (Below wr.heap.size wr w2) := Lib.hid (((Below.refl _ _).alloc (Nat.le_refl _) _).trans (hb2.mono (by simp)))
          have HW2 : Hid (Below w.heap.size w w2) := Lib.hid (HBW.out.trans (HX2.out.mono HBW.out.size))
          have HBB2 : Hid (w2.heap[w1.heap.size]? = some (.cells #[.int .i64 e.self.kind, .int .i64 e.self.elem, .int .i64 e.self.n, .string (bs e.self.name), .int .i64 e.size, .map m] 71 (0, 0))) := Lib.hid ((HX2.out.block _ qz).trans HBB.out)
          have hk2 : ∀ b o, b < wr.heap.size → w2.cell? ⟨b, o, none⟩ = wr.cell? ⟨b, o, none⟩ := (bcell HX2.out).1
          have r0 := (hk2 _ 0 qz).trans q0
          have r1 := (hk2 _ 1 qz).trans q1
          have r2 := (hk2 _ 2 qz).trans q2
          have r3 := (hk2 _ 3 qz).trans q3
          have r4 := (hk2 _ 4 qz).trans q4
          have r5 := (hk2 _ 5 qz).trans q5
          have rf : ∀ o, w2.frozen? ⟨w1.heap.size, o, none⟩ = false := fun o => by simp [World.frozen?, HBB2.out]
          have d0 := (hk2 _ _ hgl).trans c0
          have d1 := (hk2 _ _ hgl).trans c1
          have d2 := (hk2 _ _ hgl).trans c2
          have d3 := (hk2 _ _ hgl).trans c3
          have d4 := (hk2 _ _ hgl).trans c4
          have d5 := (hk2 _ _ hgl).trans c5
          have dt := (hk2 _ _ tz).trans ct
          have hz2 : wr.heap.size ≤ w2.heap.size := HX2.out.size
          clear hk2 hb2 q0 q1 q2 q3 q4 q5 qf c0 c1 c2 c3 c4 c5 ct
          go_wp2
          go_region
          go_wp2
          go_roundg (j + 1)
          case measure => omega
          case rel => exact ⟨j, e2, m2, 91 :: Lib.decDigits c ++ [93] ++ beh, rfl, rfl, by simp; omega, Lib.hid ⟨HJ.out, (drew_heap _ _).trans (six_sets HBB2.out _ _ _ _ _ _), by rw [← HTX.out, HP.out.1, HC.out]; simp, (below_six HW2.out hz1 _ _ _ _ _ _).drew⟩⟩
theorem text_any {w : World} {t B : Nat} {v : Value} {T : Tab} (hT : TabIn w t B v T) (hG : Tp.Good T) (henv : Env w) (n : Int) : Calls Tryd.prog 24 #[.pointer (some ⟨t, 0, none⟩), .int .i64 n] w
    fun e w' => e = .returned (.string (bs (text T n))) ∧ Below w.heap.size w w' := by
  cases hn : ent T n with
  | none =>
    have h0 : text T n = [] := by
      unfold text
      split
      · rfl
      · unfold ent at hn
        rw [if_neg (by assumption)] at hn
        unfold textF
        rw [hn]
    rw [h0]
    exact text_none (entAt_out hT n hn)
  | some e =>
    obtain ⟨i, rfl, hi, _⟩ := ent_some hn
    rw [text_nat]
    exact text_some hT hG henv i hi
end Go.Proofs.YtemnlkgjgalipaaDoor
