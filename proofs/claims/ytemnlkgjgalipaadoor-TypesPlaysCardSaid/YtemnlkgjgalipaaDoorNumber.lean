/-
  The contract of number: a type is found, or comes in.
-/
import Derived.Test.YtemnlkgjgalipaaDoorReads
import Derived.Test.YtemnlkgjgalipaaDoorLast
import Derived.Deep.CutBlock
import Derived.Deep.LoopGhost
import Derived.Deep.RegionLaw
import Derived.Deep.AppendLies
import Derived.OwnWalk
namespace Go.Proofs.YtemnlkgjgalipaaDoor
open Go.RowKit Go.Maps Tp Go.ChangeMaps
set_option linter.unusedVariables false

theorem find_append : ∀ (A D : Tab) (x : Ty), find (A ++ D) x = match find A x with | some i => some i | none => (find D x).map (· + A.length)
  | [], D, x => by simp [find]
  | e :: A, D, x => by
    simp only [List.cons_append, find]
    by_cases h : e.self = x
    · simp [h]
    · simp only [h, if_false]
      rw [find_append A D x]
      cases find A x with
      | some i => rfl
      | none =>
        cases find D x with
        | none => rfl
        | some j => simp; omega
theorem take_snocT {T : Tab} {k : Nat} {e : En} (h : T[k]? = some e) : T.take (k + 1) = T.take k ++ [e] := by
  rw [List.take_add_one, h]; rfl
theorem find_next {T : Tab} {x : Ty} {k : Nat} {e : En} (h : find (T.take k) x = none) (he : T[k]? = some e) (hne : e.self ≠ x) : find (T.take (k + 1)) x = none := by
  rw [take_snocT he, find_append, h]
  simp [find, hne]
theorem find_here {T : Tab} {x : Ty} {k : Nat} {e : En} (h : find (T.take k) x = none) (he : T[k]? = some e) (hx : e.self = x) : find T x = some k := by
  have hk : k < T.length := (List.getElem?_eq_some_iff.1 he).1
  have e1 : T = T.take (k + 1) ++ T.drop (k + 1) := (List.take_append_drop _ _).symm
  rw [e1, find_append, take_snocT he, find_append, h]
  simp [find, hx]
  omega
theorem alloc_below (w : World) (o : Obj) : Below w.heap.size w (w.alloc o).drew := ((Below.refl _ _).alloc (Nat.le_refl _) o).drew
theorem snoc_head {w w2 w1 : World} {t B : Nat} {v : Value} {X : List (En × Option Nat)} (h : TabX w t B v X) (hb : Below w.heap.size w w2) (hg : w2.grownBy w1 v.ownBlock) :
    w1.cell? ⟨t, 0, none⟩ = some v ∧ w1.frozen? ⟨t, 0, none⟩ = false := by
  have hh : w1.heap[t]? = some (.cells #[v] 67 (0, 0)) := (hg.block t (Nat.lt_of_lt_of_le h.lt hb.size) (Ne.symm h.apart)).trans ((hb.block t h.lt).trans h.head)
  exact ⟨by rw [cell_of_row w1 t 0 _ _ _ hh]; rfl, by simp [World.frozen?, hh]⟩
theorem TabX.tabIn {w : World} {t B : Nat} {v : Value} {X : List (En × Option Nat)} (h : TabX w t B v X) : TabIn w t B v (X.map (·.1)) := ⟨X, rfl, h⟩
def NumPost (t B : Nat) (v : Value) (r : Int × Int × Tab) (w : World) (e : Ending) (w' : World) : Prop :=
  ∃ v', e = .returned (.tuple #[.int .i64 r.1, .int .i64 r.2.1]) ∧ TabIn w' t B v' r.2.2 ∧ Turn t v v' w w'
theorem infoEn : (Tryd.prog.info? 71).map (fun i => (i.zero, i.size, i.bytes)) = some (some (.agg #[.int .i64 0, .int .i64 0, .int .i64 0, .string ⟨#[]⟩, .int .i64 0, .map none]), 6, 56) := by kernel_rfl
theorem num_some {T : Tab} {x : Ty} {size : Int} {i : Nat} (h : find T x = some i) : num T x size = ((i : Int), (0 : Int), T) := by unfold num; rw [h]
theorem num_none {T : Tab} {x : Ty} {size : Int} (h : find T x = none) : num T x size = if T.length = 256 then ((0 : Int), (4 : Int), T) else ((T.length : Int), (0 : Int), T ++ [⟨x, size, none⟩]) := by unfold num; rw [h]
set_option maxHeartbeats 2000000 in
theorem number_X {w : World} {t B : Nat} {v : Value} {X : List (En × Option Nat)} (h : TabX w t B v X) (x : Ty) (size : Int) (hX : X.length ≤ 256) :
    Calls Tryd.prog 33 #[.pointer (some ⟨t, 0, none⟩), .agg #[.int .i64 x.kind, .int .i64 x.elem, .int .i64 x.n, .string (bs x.name)], .int .i64 size] w (NumPost t B v (num (X.map (·.1)) x size) w) := by
  have hc := h.cell
  have ht := h.lt
  obtain ⟨a, cap, rfl⟩ := row_len h.row
  have HT := Lib.hid h; clear h
  go_enter Tryd.func33, Tryd.ntmps33
  go_wp2
  go_loopw [15] (fun i wr => ∃ k : Nat, k ≤ X.length ∧ i = .int .i64 k ∧ Hid (find ((X.map (·.1)).take k) x = none) ∧ Hid (Below (w.heap.size + 1) (w.alloc (.cells #[.int .i64 x.kind, .int .i64 x.elem, .int .i64 x.n, .string (bs x.name)] 41)) wr)) (fun i wr => X.length - (intOf i).toNat)
  case atStart => exact ⟨0, Nat.zero_le _, rfl, Lib.hid (by rfl), Lib.hid (Below.refl _ _)⟩
  case round =>
    obtain ⟨k, hk, rfl, HF, HB⟩ := hrel
    have HW : Hid (Below w.heap.size w wr) := Lib.hid (((Below.refl _ _).alloc (Nat.le_refl _) _).trans (HB.out.mono (by omega)))
    obtain ⟨d1, _, dz⟩ := kept_new (HB.out.mono (Nat.le_of_eq (by simp)))
    by_cases hlt : k < X.length
    · obtain ⟨e, he⟩ : ∃ e, X[k]? = some e := ⟨_, List.getElem?_eq_getElem hlt⟩
      have HE : Hid ((X.map (·.1))[k]? = some e.1) := Lib.hid (by rw [List.getElem?_map, he]; rfl)
      have hT2 := HT.out.below (w' := wr) HW.out
      obtain ⟨g, cap, hg, hg2, hg3⟩ := hT2.form (by omega)
      simp only [Value.slice.injEq] at hg
      obtain ⟨rfl, _, rfl⟩ := hg
      obtain ⟨c0, c1, c2, c3, c4, c5⟩ := hT2.at he
      clear hT2 he
      by_cases hx : e.1.self = x
      · have HN := Lib.hid (num_some (size := size) (find_here HF.out HE.out hx))
        subst hx
        go_wp2
        go_ret2
        exact ⟨_, by rw [HN.out]; rfl, by rw [HN.out]; exact ⟨X, rfl, (HT.out.below HW.out).below ((Below.refl _ _).alloc (Nat.le_refl _) _)⟩, (Turn.of_below HW.out).trans (Turn.of_below ((Below.refl _ _).alloc (Nat.le_refl _) _))⟩
      · have HN := Lib.hid (find_next HF.out HE.out hx)
        have HX := Lib.hid hx; clear hx
        go_wp2
        all_goals first | (exfalso; exact HX.out ((Ty.ext_iff' _ _).1 ⟨by assumption, by assumption, by assumption, by assumption⟩)) | skip
        all_goals
          go_roundw
          case rel => exact ⟨k + 1, by omega, by go_num, HN, Lib.hid (HB.out.alloc (by omega) _)⟩
          case measure => simp [intOf]; omega
    · have hkl : k = X.length := by omega
      have hnf : find (X.map (·.1)) x = none := by have := HF.out; rw [hkl, List.take_of_length_le (by simp)] at this; exact this
      have HN := Lib.hid (num_none (size := size) hnf)
      clear hnf hkl
      have HT2 : Hid (TabIn wr t B _ _) := Lib.hid ⟨X, rfl, HT.out.below HW.out⟩
      by_cases hf : X.length = 256
      · have hd : ((X.length : Int) == 256) = true := by simp; omega
        have HL := Lib.hid hf; clear hf
        go_wp2_with ((with_reducible refine (len_any HT2.out).mono ?_); rintro e w' ⟨rfl, rfl⟩; rw [List.length_map])
        go_ret2
        rw [if_pos (by rw [List.length_map]; exact HL.out)] at HN
        exact ⟨_, by rw [HN.out]; rfl, by rw [HN.out]; exact HT2.out, Turn.of_below HW.out⟩
      · have hd : ((X.length : Int) == 256) = false := by simp; omega
        rw [if_neg (by rw [List.length_map]; exact hf)] at HN
        go_wp2_with ((with_reducible refine (len_any HT2.out).mono ?_); rintro e w' ⟨rfl, rfl⟩; rw [List.length_map])
        have hlen : X.length < 256 := by omega
        obtain ⟨i0, hi0, hz0, hz1, hz2⟩ := info_parts infoEn
        have hTX := HT.out.below HW.out
        have ct := hTX.cell
        have tz := hTX.lt
        have hrow := hTX.row
        clear hTX hf hd
        go_region_law ((refine step_append_lies _ (by rfl) (.tmp 33) (.tmp 37) 65 (by rfl) B 71 i0 _ 6 56 Tryd.underlying65 hi0 hz0 hz1 hz2 rfl (by omega) _ X.length (tabCells X) (by rfl) (by exact hrow.alloc _) ⟨wr.heap.size, 0, none⟩ 1 1 (enCells (⟨x, size, none⟩, none)) (by rfl) (by rfl) (by exact World.news_of_block (cs := #[.int .i64 x.kind, .int .i64 x.elem, .int .i64 x.n, .string (bs x.name), .int .i64 size, .map none]) (heap_alloc_new wr _)) (by simp [enCells, Value.oneCell']) (by omega) (by unfold maxLen; omega) (by omega) (by have := HT.out.ge; simp; omega) (wr.heap.size + 1) (by simp) ?_); intro g cap2 w1 hown1 hgrow hat hlt1; have hw2 := alloc_below wr (.cells #[.int .i64 x.kind, .int .i64 x.elem, .int .i64 x.n, .string (bs x.name), .int .i64 size, .map none] 71); obtain ⟨ct1, cf1⟩ := snoc_head (HT.out.below HW.out) hw2 hgrow; have HS := Lib.hid (TabX.snoc (e := ⟨x, size, none⟩) (H := wr.heap.size + 1) (HT.out.below HW.out) hw2 hgrow hown1 (hat.imp (fun e => e) (fun e => by simp [Value.ownBlock, e])) (by omega) rfl); clear hown1 hgrow hat hw2)
        all_goals
          have HT3 := Lib.hid HS.out.1.tabIn
          go_wp2_with ((with_reducible refine (len_any HT3.out).mono ?_); rintro e w' ⟨rfl, rfl⟩; rw [List.length_map, List.length_append, List.length_singleton])
          go_ret2
          exact ⟨_, by rw [HN.out]; simp, by rw [HN.out]; exact ⟨_, by simp, HS.out.1⟩, (Turn.of_below HW.out).trans HS.out.2⟩
/-- number, whatever table. -/
theorem number_any {w : World} {t B : Nat} {v : Value} {T : Tab} (h : TabIn w t B v T) (x : Ty) (size : Int) (hT : T.length ≤ 256) :
    Calls Tryd.prog 33 #[.pointer (some ⟨t, 0, none⟩), .agg #[.int .i64 x.kind, .int .i64 x.elem, .int .i64 x.n, .string (bs x.name)], .int .i64 size] w (NumPost t B v (num T x size) w) := by
  obtain ⟨X, rfl, h⟩ := h
  exact number_X h x size (by simpa using hT)
end Go.Proofs.YtemnlkgjgalipaaDoor
