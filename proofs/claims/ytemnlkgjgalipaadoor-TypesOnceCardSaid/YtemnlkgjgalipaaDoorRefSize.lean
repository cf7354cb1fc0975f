/-
  The reference's Size: what it tells, and its contract.
-/
import Derived.Test.YtemnlkgjgalipaaDoorRefReads
import Derived.BigQuiet
namespace Go.Proofs.YtemnlkgjgalipaaDoor
open Go.RowKit Go.Maps Tp
set_option linter.unusedVariables false

def dfind (D : Dl) (nm : List UInt8) : Option (List UInt8 × List Fl) := D.find? (fun d => d.1 = nm)
theorem yfind_map (Y : List ((List UInt8 × List Fl) × Value)) (nm : List UInt8) : dfind (Y.map (·.1)) nm = (yfind Y nm).map (·.1) := by
  induction Y with
  | nil => rfl
  | cons y Y ih =>
    unfold dfind yfind at *
    rw [List.map_cons, List.find?_cons, List.find?_cons, ih]
    cases decide (y.1.1 = nm) <;> rfl
def sm (ks : Nat → Int) : Nat → Int
  | 0 => 0
  | n + 1 => sm ks n + ks n
/-- What the reference tells of a number. -/
inductive RS (T : Tab) (D : Dl) : Int → Int → Prop
  | out (n : Int) (h : ent T n = none) : RS T D n 0
  | void (i : Nat) (e : En) (h : T[i]? = some e) (hk : e.self.kind = 0) : RS T D i 0
  | arr (i : Nat) (e : En) (k : Int) (h : T[i]? = some e) (hk : e.self.kind = 5) (hr : RS T D e.self.elem k) (h0 : 0 < k) (h1 : k ≤ 4096) (h2 : 0 ≤ e.self.n) (h3 : e.self.n ≤ 1024) : RS T D i (k * e.self.n)
  | undef (i : Nat) (e : En) (h : T[i]? = some e) (hk : e.self.kind = 6) (hd : dfind D e.self.name = none) : RS T D i 0
  | str (i : Nat) (e : En) (ks : Nat → Int) (d : List UInt8 × List Fl) (h : T[i]? = some e) (hk : e.self.kind = 6) (hd : dfind D e.self.name = some d)
      (hr : ∀ (j : Nat) (f : Fl), d.2[j]? = some f → RS T D f.2 (ks j)) (h0 : ∀ j, j < d.2.length → 0 < ks j ∧ ks j ≤ 4096) (hl : d.2.length ≤ 1000) : RS T D i (sm ks d.2.length)
  | one (i : Nat) (e : En) (h : T[i]? = some e) (hk : 1 ≤ e.self.kind ∧ e.self.kind ≤ 4) : RS T D i 1
theorem sm_le (ks : Nat → Int) (n : Nat) (h : ∀ j, j < n → 0 < ks j ∧ ks j ≤ 4096) : ∀ m, m ≤ n → 0 ≤ sm ks m ∧ sm ks m ≤ 4096 * m
  | 0, _ => by simp [sm]
  | m + 1, hm => by
    have := sm_le ks n h m (by omega)
    have := h m (by omega)
    simp only [sm]
    omega
def SizePost (k : Int) (w : World) (e : Ending) (w' : World) : Prop := e = .returned (.int .i64 k) ∧ Below w.heap.size w w'
/-- What the walks of Size start with. -/
structure SzIn (w : World) (T : Tab) (D : Dl) (la : Option Addr) (lc : Nat) (da : Option Addr) (dn dc : Nat) : Prop where
  ref : ∃ F Y, RefX w F T Y la lc da dc ∧ Y.map (·.1) = D ∧ Y.length = dn
  few : T.length ≤ 256
  few2 : dn ≤ 1000
theorem SzIn.below {w w' : World} {T : Tab} {D : Dl} {la : Option Addr} {lc : Nat} {da : Option Addr} {dn dc : Nat} (h : SzIn w T D la lc da dn dc) (hb : Below w.heap.size w w') : SzIn w' T D la lc da dn dc := by
  obtain ⟨F, Y, h1, h2, h3⟩ := h.ref
  exact ⟨⟨F, Y, h1.below hb, h2, h3⟩, h.few, h.few2⟩
theorem SzIn.is {w : World} {T : Tab} {D : Dl} {la : Option Addr} {lc : Nat} {da : Option Addr} {dn dc : Nat} (h : SzIn w T D la lc da dn dc) (n : Int) :
    Calls Tryd.prog 37 #[.agg #[.slice la T.length lc, .slice da dn dc], .int .i64 n] w fun e w' => e = .returned (.bool (ent T n).isSome) ∧ Below w.heap.size w w' := by
  obtain ⟨F, Y, h1, h2, rfl⟩ := h.ref
  exact r_is (F := F) h.few n
theorem SzIn.fields {w : World} {T : Tab} {D : Dl} {la : Option Addr} {lc : Nat} {da : Option Addr} {dn dc : Nat} (h : SzIn w T D la lc da dn dc) (nm : List UInt8) :
    ∃ v : Value, (Calls Tryd.prog 39 #[.agg #[.slice la T.length lc, .slice da dn dc], .string (bs nm)] w fun e w' => e = .returned v ∧ Below w.heap.size w w') ∧
      match dfind D nm with
      | none => v = .tuple #[.slice none 0 0, .bool false]
      | some d => ∃ fv, v = .tuple #[fv, .bool true] ∧ w.ownsRow 0 64 2 fv d.2.length (flCells d.2) := by
  obtain ⟨F, Y, h1, rfl, rfl⟩ := h.ref
  refine ⟨_, r_fields h1 h.few2 nm, ?_⟩
  rw [yfind_map]
  cases hy : yfind Y nm with
  | none => rfl
  | some y => exact ⟨y.2, rfl, (h1.each y (List.mem_of_find?_eq_some hy)).1⟩
theorem SzIn.cells {w : World} {T : Tab} {D : Dl} {la : Option Addr} {lc : Nat} {da : Option Addr} {dn dc : Nat} (h : SzIn w T D la lc da dn dc) {i : Nat} {e : En} (hi : T[i]? = some e) :
    ∃ g, la = some ⟨g, 0, none⟩ ∧ g < w.heap.size ∧ w.cell? ⟨g, i * 4, none⟩ = some (.int .i64 e.self.kind) ∧ w.cell? ⟨g, i * 4 + 1, none⟩ = some (.int .i64 e.self.elem) ∧ w.cell? ⟨g, i * 4 + 2, none⟩ = some (.int .i64 e.self.n) ∧ w.cell? ⟨g, i * 4 + 3, none⟩ = some (.string (bs e.self.name)) := by
  obtain ⟨F, Y, h1, rfl, rfl⟩ := h.ref
  have hl : i < T.length := (List.getElem?_eq_some_iff.1 hi).1
  obtain ⟨g, cap2, hg, _, hgl⟩ := h1.rowL.form (by omega)
  simp only [Value.slice.injEq] at hg
  obtain ⟨rfl, _, rfl⟩ := hg
  exact ⟨g, rfl, hgl, ty_at h1 hi⟩
theorem sz_out {w : World} {T : Tab} {D : Dl} {la : Option Addr} {lc : Nat} {da : Option Addr} {dn dc : Nat} (h : SzIn w T D la lc da dn dc) (n : Int) (hn : ent T n = none) :
    Calls Tryd.prog 30 #[.agg #[.slice la T.length lc, .slice da dn dc], .int .i64 n] w (SizePost 0 w) := by
  have H := Lib.hid h; clear h
  have HN := Lib.hid hn; clear hn
  go_enter Tryd.func30, Tryd.ntmps30
  go_wp2_with fail
  refine ((H.out.below ((Below.refl _ _).alloc (Nat.le_refl _) _)).is n).mono ?_
  rw [HN.out]
  rintro x w1 ⟨rfl, hb⟩
  have HB : Hid (Below w.heap.size w w1) := Lib.hid (((Below.refl _ _).alloc (Nat.le_refl _) _).trans (hb.mono (by simp)))
  clear hb
  go_wp2
  go_ret
  exact ⟨rfl, HB.out⟩
theorem sz_flat {w : World} {T : Tab} {D : Dl} {la : Option Addr} {lc : Nat} {da : Option Addr} {dn dc : Nat} (h : SzIn w T D la lc da dn dc) (i : Nat) (e : En) (hi : T[i]? = some e) (hk : e.self.kind = 0 ∨ (1 ≤ e.self.kind ∧ e.self.kind ≤ 4)) :
    Calls Tryd.prog 30 #[.agg #[.slice la T.length lc, .slice da dn dc], .int .i64 i] w (SizePost (if e.self.kind = 0 then 0 else 1) w) := by
  have hil : i < T.length := (List.getElem?_eq_some_iff.1 hi).1
  have H := Lib.hid h
  obtain ⟨g, rfl, hgl, c0, c1, c2, c3⟩ := h.cells hi
  have HN : Hid (ent T i = some e) := Lib.hid (by rw [ent_nat]; exact hi)
  clear h hi c1 c2 c3
  have i0 : (0 : Int) ≤ (i : Int) := Int.natCast_nonneg _
  have i1 : (i : Int) < (T.length : Int) := by omega
  have hT := H.out.few
  by_cases hk0 : e.self.kind = 0
  · rw [if_pos hk0]
    have b0 : ((e.self.kind : Int) == 0) = true := by simp [hk0]
    clear hk hk0
    go_enter Tryd.func30, Tryd.ntmps30
    go_wp2_with fail
    refine ((H.out.below ((Below.refl _ _).alloc (Nat.le_refl _) _)).is i).mono ?_
    rw [HN.out]
    rintro x w1 ⟨rfl, hb⟩
    have HB : Hid (Below w.heap.size w w1) := Lib.hid (((Below.refl _ _).alloc (Nat.le_refl _) _).trans (hb.mono (by simp)))
    obtain ⟨d, _, dz⟩ := kept_new hb
    have d0 := d 0
    have e0 := (HB.out.cell (p := ⟨g, i * 4, none⟩) hgl).trans c0
    clear hb d c0
    go_wp2
    go_ret
    exact ⟨rfl, HB.out⟩
  · rw [if_neg hk0]
    have b0 : ((e.self.kind : Int) == 0) = false := by simpa using hk0
    have b5 : ((e.self.kind : Int) == 5) = false := by simp; omega
    have b6 : ((e.self.kind : Int) == 6) = false := by simp; omega
    clear hk hk0
    go_enter Tryd.func30, Tryd.ntmps30
    go_wp2_with fail
    refine ((H.out.below ((Below.refl _ _).alloc (Nat.le_refl _) _)).is i).mono ?_
    rw [HN.out]
    rintro x w1 ⟨rfl, hb⟩
    have HB : Hid (Below w.heap.size w w1) := Lib.hid (((Below.refl _ _).alloc (Nat.le_refl _) _).trans (hb.mono (by simp)))
    obtain ⟨d, _, dz⟩ := kept_new hb
    have d0 := d 0
    have e0 := (HB.out.cell (p := ⟨g, i * 4, none⟩) hgl).trans c0
    clear hb d c0
    go_wp2
    go_ret
    exact ⟨rfl, HB.out⟩
end Go.Proofs.YtemnlkgjgalipaaDoor
