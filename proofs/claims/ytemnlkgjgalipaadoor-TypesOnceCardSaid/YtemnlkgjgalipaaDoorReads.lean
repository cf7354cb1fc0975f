/-
  Contracts of At, Size, Scalar and Field.
-/
import Derived.Test.YtemnlkgjgalipaaDoorEntry
import Derived.Test.YtemnlkgjgalipaaDoorMaps
namespace Go.Proofs.YtemnlkgjgalipaaDoor
open Go.RowKit Go.Maps Tp Go.ChangeMaps
set_option linter.unusedVariables false

/-- What entry tells of a receiver and a number, now and behind new blocks. -/
def EntAt (w : World) (p : Value) (n : Int) (e : En) (m : Option Nat) (b : Bool) : Prop := ∀ w', Below w.heap.size w w' → Calls Tryd.prog 32 #[p, .int .i64 n] w' (EntryPost w' e m b)
theorem EntAt.at {w : World} {p : Value} {n : Int} {e : En} {m : Option Nat} {b : Bool} (h : EntAt w p n e m b) (w' : World) (hb : Below w.heap.size w w') : Calls Tryd.prog 32 #[p, .int .i64 n] w' (EntryPost w' e m b) := h w' hb
theorem entAt_nil (w : World) (n : Int) : EntAt w (.pointer none) n zeroE none false := fun w' _ => entry_nil n w'
theorem entAt_out {w : World} {t B : Nat} {v : Value} {T : Tab} (h : TabIn w t B v T) (n : Int) (hn : ent T n = none) : EntAt w (.pointer (some ⟨t, 0, none⟩)) n zeroE none false := fun w' hb => entry_out (h.below hb) n hn
theorem entAt_in {w : World} {t B : Nat} {v : Value} {X : List (En × Option Nat)} (h : TabX w t B v X) (k : Nat) (x : En × Option Nat) (hx : X[k]? = some x) : EntAt w (.pointer (some ⟨t, 0, none⟩)) k x.1 x.2 true := fun w' hb => entry_in (h.below hb) k x hx
theorem entAt_any {w : World} {t B : Nat} {v : Value} {T : Tab} (h : TabIn w t B v T) (n : Int) : ∃ m, EntAt w (.pointer (some ⟨t, 0, none⟩)) n ((ent T n).getD zeroE) m (ent T n).isSome ∧ FldIn w m ((ent T n).getD zeroE).flds := by
  cases hn : ent T n with
  | none => exact ⟨none, entAt_out h n hn, rfl⟩
  | some e =>
    obtain ⟨k, rfl, hk, he⟩ := ent_some hn
    obtain ⟨X, hX, hT⟩ := h
    obtain ⟨m, hm⟩ := map_at hX he
    exact ⟨m, entAt_in hT k _ hm, hT.flds _ (List.mem_of_getElem? hm)⟩
theorem bcell {W w1 : World} (hb : Below W.heap.size W w1) : (∀ b o, b < W.heap.size → w1.cell? ⟨b, o, none⟩ = W.cell? ⟨b, o, none⟩) ∧ (∀ b o, b < W.heap.size → w1.frozen? ⟨b, o, none⟩ = W.frozen? ⟨b, o, none⟩) :=
  ⟨fun b o h => hb.cell (p := ⟨b, o, none⟩) h, fun b o h => hb.frozen (p := ⟨b, o, none⟩) h⟩
/-- A block that a call has made, behind a call that it made. -/
theorem kept_new {w w1 : World} {cs : Array Value} {t : TypeId} (hb : Below (w.alloc (.cells cs t)).heap.size (w.alloc (.cells cs t)) w1) :
    (∀ o, w1.cell? ⟨w.heap.size, o, none⟩ = cs[o]?) ∧ (∀ o, w1.frozen? ⟨w.heap.size, o, none⟩ = false) ∧ w.heap.size < w1.heap.size := by
  have h1 : w1.heap[w.heap.size]? = some (.cells cs t (0, 0)) := (hb.block _ (by simp)).trans (heap_alloc_new w _)
  refine ⟨fun o => cell_of_row w1 _ o _ _ _ h1, fun o => by simp [World.frozen?, h1], by have := hb.size; simp at this; omega⟩
theorem below_drewN (B : Nat) (w : World) (n : Nat) : Below B w (w.drewN n) := ⟨rfl, rfl, rfl, Nat.le_refl _, fun _ _ => rfl⟩
theorem at_of {w : World} {p : Value} {n : Int} {e : En} {m : Option Nat} {b : Bool} (h : EntAt w p n e m b) : Calls Tryd.prog 16 #[p, .int .i64 n] w fun x w' => x = .returned (.tuple #[tyV e.self, .bool b]) ∧ Below w.heap.size w w' := by
  have H := Lib.hid h; clear h
  go_enter Tryd.func16, Tryd.ntmps16
  go_wp2_with ((with_reducible refine (H.out.at _ ((Below.refl _ _).alloc (Nat.le_refl _) _)).mono ?_); rintro x w1 ⟨rfl, hb⟩; unfold enV; obtain ⟨hc, hf, hz⟩ := kept_new hb; have HB := Lib.hid hb; clear hb)
  exact bodyPost_ret (v := .tuple #[tyV e.self, .bool b]) (by simp [results, Tryd.results16, go_sem, hc, hz]; rfl) rfl ⟨rfl, (((((((Below.refl _ _).alloc (Nat.le_refl _) _).trans (HB.out.mono (by simp))).setCell (Nat.le_refl _) _).setCell (Nat.le_refl _) _).setCell (Nat.le_refl _) _).setCell (Nat.le_refl _) _).alloc (by simp; omega) _⟩
theorem size_of {w : World} {p : Value} {n : Int} {e : En} {m : Option Nat} {b : Bool} (h : EntAt w p n e m b) : Calls Tryd.prog 20 #[p, .int .i64 n] w fun x w' => x = .returned (.tuple #[.int .i64 e.size, .bool (decide (0 < e.size))]) ∧ Below w.heap.size w w' := by
  have H := Lib.hid h; clear h
  go_enter Tryd.func20, Tryd.ntmps20
  go_wp2_with ((with_reducible refine (H.out.at _ (Below.refl _ _)).mono ?_); rintro x w1 ⟨rfl, hb⟩; unfold enV; have HB := Lib.hid hb; clear hb)
  go_quiet (fail)
  go_wp2
  go_ret2
  exact ⟨rfl, (HB.out.alloc HB.out.size _).trans (below_drewN _ _ _)⟩
theorem scalar_of {w : World} {p : Value} {n : Int} {e : En} {m : Option Nat} {b : Bool} (h : EntAt w p n e m b) : Calls Tryd.prog 23 #[p, .int .i64 n] w fun x w' => x = .returned (.bool (decide (1 ≤ e.self.kind ∧ e.self.kind ≤ 4))) ∧ Below w.heap.size w w' := by
  have H := Lib.hid h; clear h
  have hk : (decide (1 ≤ e.self.kind ∧ e.self.kind ≤ 4)) = (e.self.kind == 1 || e.self.kind == 2 || e.self.kind == 3 || e.self.kind == 4) := by
    rw [Bool.eq_iff_iff]; simp; omega
  rw [hk]
  clear hk
  go_enter Tryd.func23, Tryd.ntmps23
  go_wp2_with ((with_reducible refine (H.out.at _ (Below.refl _ _)).mono ?_); rintro x w1 ⟨rfl, hb⟩; unfold enV; have HB := Lib.hid hb; clear hb)
  all_goals (go_ret; exact ⟨by simp_all, HB.out.alloc HB.out.size _⟩)
theorem own_of_below {w w1 : World} {P : Program} {k : TypeId} {R : Value → Option (DataW Unit × List MemPlace)} {b n : Nat} {D : DataW Unit} (h : w.ownsMap P k R b n D) (hb : Below w.heap.size w w1) : w1.ownsMap P k R b n D := by
  have hlt := h.lt
  obtain ⟨es, c, hh, r⟩ := h
  exact ⟨es, c, (hb.block b hlt).trans hh, r⟩
/-- What a field of a struct reads as. -/
def pickO (o : Option (List Pl)) (name : List UInt8) : Int × Int × Bool := match o with | some l => Tp.pick l name | none => (0, 0, false)
theorem field_of {w : World} {p : Value} {n : Int} {e : En} {m : Option Nat} {b : Bool} (h : EntAt w p n e m b) (hm : FldIn w m e.flds) (s : ByteArray) (hs : s.size ≤ maxLen) : Calls Tryd.prog 21 #[p, .int .i64 n, .string s] w
    fun x w' => x = .returned (.tuple #[.int .i64 (pickO e.flds s.data.toList).1, .int .i64 (pickO e.flds s.data.toList).2.1, .bool (pickO e.flds s.data.toList).2.2]) ∧ Below w.heap.size w w' := by
  have H := Lib.hid h; clear h
  have hkey := keyS hs
  unfold FldIn at hm
  unfold pickO
  cases hf : e.flds with
  | none =>
    rw [hf] at hm
    simp only at hm
    subst hm
    have hl : ∀ W, (Instr.lookup 69 (.map none) (.string s) true).run Tryd.prog W = .ok (.tuple #[.agg #[.int .i64 0, .int .i64 0], .bool false]) W := fun W => Maps.look_nil true lawS Tryd.underlying69 (zeroPl W) hkey
    clear hkey hf
    go_enter Tryd.func21, Tryd.ntmps21
    go_wp2_with ((with_reducible refine (H.out.at _ (Below.refl _ _)).mono ?_); rintro x w1 ⟨rfl, hb⟩; unfold enV; have HB := Lib.hid hb; clear hb)
    go_quiet (fail)
    go_wp2
    go_ret3
    exact ⟨rfl, ((HB.out.alloc HB.out.size _).alloc (by have := HB.out.size; simp; omega) _).trans (below_drewN _ _ _)⟩
  | some l =>
    rw [hf] at hm
    simp only at hm
    obtain ⟨b, n0, rfl, hown, hnd⟩ := hm
    have HO := Lib.hid hown; clear hown
    have HN := Lib.hid hnd; clear hnd
    have HK := Lib.hid hkey; clear hkey hf
    have hbl : b < w.heap.size := HO.out.lt
    go_enter Tryd.func21, Tryd.ntmps21
    go_wp2_with (first | ((with_reducible refine (H.out.at _ (Below.refl _ _)).mono ?_); rintro x w1 ⟨rfl, hb⟩; unfold enV; have HB := Lib.hid hb; clear hb) | (at_lookup; refine wpList_lookup_own_ok _ rfl _ _ 69 rfl 9 86 lawS Tryd.underlying69 placeR (zeroPl _) (placeD 0 0) [] (placeR_mk 0 0) b n0 (placesD l) rfl ((own_of_below HO.out HB.out).alloc _) _ _ rfl HK.out ?_; intro pv ps hv; rw [places_at _ _ HN.out] at hv; rw [places_has]; have hv2 := placeR_inv hv; clear hv; subst hv2))
    go_quiet (fail)
    go_wp2
    go_ret3
    exact ⟨rfl, ((HB.out.alloc HB.out.size _).alloc (by have := HB.out.size; simp; omega) _).trans (below_drewN _ _ _)⟩
end Go.Proofs.YtemnlkgjgalipaaDoor
