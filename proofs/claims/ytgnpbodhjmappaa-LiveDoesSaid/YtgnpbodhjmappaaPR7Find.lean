/-
  Contract of doppelref07's Find.
-/
import Derived.Test.YtgnpbodhjmappaaPNJ
set_option linter.unusedVariables false
set_option linter.unusedSimpArgs false
namespace Go.Proofs.Ytgnpbodhjmappaa
set_option maxRecDepth 100000
open Go.RowKit Cd
structure UnR where
  fs : List FnR
  fa : Option Addr
  fc : Nat
  gs : List Glo
  ga : Option Addr
  gc : Nat
  top : Int
def UnR.fns (U : UnR) : List Fnc := U.fs.map (·.f)
def UnR.un (U : UnR) : Uni := ⟨U.fns, U.gs, U.top⟩
abbrev unV (U : UnR) : Value := .agg #[.slice U.fa U.fs.length U.fc, .slice U.ga U.gs.length U.gc, .int .i64 U.top]
abbrev unO (U : UnR) : Obj := .cells #[.slice U.fa U.fs.length U.fc, .slice U.ga U.gs.length U.gc, .int .i64 U.top] 36
structure UnAt (w : World) (B : Nat) (U : UnR) : Prop where
  fs : RowAt w B U.fa (U.fs.flatMap fnCells)
  gs : RowAt w B U.ga (U.gs.flatMap glCells)
  code : ∀ r ∈ U.fs, CodeAt w B r
  lf : U.fs.length ≤ maxLen
  lg : U.gs.length ≤ maxLen
  lc : ∀ r ∈ U.fs, r.f.code.length ≤ maxLen
theorem UnAt.below {w w' : World} {B : Nat} {U : UnR} (h : UnAt w B U) (hb : Below B w w') : UnAt w' B U :=
  ⟨h.fs.below hb, h.gs.below hb, fun r hr => (h.code r hr).below hb, h.lf, h.lg, h.lc⟩
theorem UnAt.fn {w : World} {B : Nat} {U : UnR} (h : UnAt w B U) {k : Nat} {r : FnR} (hk : U.fs[k]? = some r) :
    ∃ b off, U.fa = some ⟨b, off, none⟩ ∧ b < B ∧ B ≤ w.heap.size ∧ w.cell? ⟨b, off + k * 5, none⟩ = some (.string (sb r.f.name)) ∧ w.cell? ⟨b, off + k * 5 + 1, none⟩ = some (.int .i64 r.f.params) ∧ w.cell? ⟨b, off + k * 5 + 2, none⟩ = some (.int .i64 r.f.regs) ∧ w.cell? ⟨b, off + k * 5 + 3, none⟩ = some (.int .i64 r.f.frame) ∧ w.cell? ⟨b, off + k * 5 + 4, none⟩ = some (.slice r.ca r.f.code.length r.cc) := by
  obtain ⟨b, off, ha, hb, hB, hc⟩ := RowAt.item fnCells_len h.fs hk (by omega)
  exact ⟨b, off, ha, hb, hB, hc 0 _ rfl, hc 1 _ rfl, hc 2 _ rfl, hc 3 _ rfl, hc 4 _ rfl⟩
theorem UnAt.gl {w : World} {B : Nat} {U : UnR} (h : UnAt w B U) {k : Nat} {g : Glo} (hk : U.gs[k]? = some g) :
    ∃ b off, U.ga = some ⟨b, off, none⟩ ∧ b < B ∧ B ≤ w.heap.size ∧ w.cell? ⟨b, off + k * 4, none⟩ = some (.string (sb g.name)) ∧ w.cell? ⟨b, off + k * 4 + 1, none⟩ = some (.int .i64 g.pos) ∧ w.cell? ⟨b, off + k * 4 + 2, none⟩ = some (.int .i64 g.size) ∧ w.cell? ⟨b, off + k * 4 + 3, none⟩ = some (.int .i64 g.init) := by
  obtain ⟨b, off, ha, hb, hB, hc⟩ := RowAt.item glCells_len h.gs hk (by omega)
  exact ⟨b, off, ha, hb, hB, hc 0 _ rfl, hc 1 _ rfl, hc 2 _ rfl, hc 3 _ rfl⟩
theorem nv3 {w : World} {b : Nat} {x0 x1 x2 : Value} {t : TypeId} (h : w.heap[b]? = some (.cells #[x0, x1, x2] t (0, 0))) :
    w.cell? ⟨b, 0, none⟩ = some x0 ∧ w.cell? ⟨b, 1, none⟩ = some x1 ∧ w.cell? ⟨b, 2, none⟩ = some x2 := by
  refine ⟨?_, ?_, ?_⟩ <;> (rw [cell_of_row w b _ _ _ _ h]; rfl)
def NoneBefore (fs : List Fnc) (s : List UInt8) (k : Nat) : Prop := ∀ i g, i < k → fs[i]? = some g → g.name ≠ s
theorem findN_at : ∀ (fs : List Fnc) (s : List UInt8) (k : Nat) (g : Fnc), NoneBefore fs s k → fs[k]? = some g → g.name = s → findN fs s = some k
  | [], s, k, g, _, h, _ => by simp at h
  | f :: fs, s, 0, g, _, h, hn => by
    have : f = g := by simpa using h
    subst this
    unfold findN; rw [if_pos hn]
  | f :: fs, s, k + 1, g, hb, h, hn => by
    have h0 : ¬ f.name = s := hb 0 f (by omega) rfl
    unfold findN
    rw [if_neg h0, findN_at fs s k g (fun i g hi hg => hb (i + 1) g (by omega) (by simpa using hg)) (by simpa using h) hn]
    rfl
theorem findN_none : ∀ (fs : List Fnc) (s : List UInt8), NoneBefore fs s fs.length → findN fs s = none
  | [], s, _ => rfl
  | f :: fs, s, hb => by
    have h0 : ¬ f.name = s := hb 0 f (by simp) rfl
    unfold findN
    rw [if_neg h0, findN_none fs s (fun i g hi hg => hb (i + 1) g (by simp; omega) (by simpa using hg))]
    rfl
theorem NoneBefore.succ {fs : List Fnc} {s : List UInt8} {k : Nat} {g : Fnc} (h : NoneBefore fs s k) (hg : fs[k]? = some g) (hn : g.name ≠ s) : NoneBefore fs s (k + 1) := fun i x hi hx => by
  by_cases hik : i < k
  · exact h i x hik hx
  · have : i = k := by omega
    subst this
    rw [hg] at hx; injection hx with hx; rw [← hx]; exact hn
set_option maxHeartbeats 1000000 in
theorem find_any (U : UnR) (s : List UInt8) (B : Nat) (w : World) (hU : UnAt w B U) :
    Calls Try.prog 29 #[unV U, .string (sb s)] w (RPost (.int .i64 (findI U.fns s)) w) := by
  have hlf := hU.lf
  unfold maxLen at hlf
  have HU := Lib.hid hU; clear hU
  go_enter Try.func29, Try.ntmps29
  go_wp2
  go_loopw [5] (fun s5 wr => ∃ k : Nat, k ≤ U.fs.length ∧ s5 = .int .i64 k ∧ wr = w.alloc (unO U) ∧ Hid (NoneBefore U.fns s k)) (fun i wr => U.fs.length - (intOf i).toNat)
  case atStart => exact ⟨0, by omega, rfl, rfl, Lib.hid (fun i g hi => by omega)⟩
  case round =>
    obtain ⟨k, hk, rfl, rfl, HN⟩ := hrel
    by_cases hlt : k < U.fs.length
    · obtain ⟨r, hr⟩ : ∃ r, U.fs[k]? = some r := ⟨_, List.getElem?_eq_getElem hlt⟩
      obtain ⟨b, off, hfa, hb, hBw, c0, c1, c2, c3, c4⟩ := HU.out.fn hr
      have hg : U.fns[k]? = some r.f := by unfold UnR.fns; rw [List.getElem?_map, hr]; rfl
      have HG := Lib.hid hg
      have p0 : (0 : Int) ≤ (k : Int) := Int.natCast_nonneg _
      have p1 : (k : Int) < (U.fs.length : Int) := by omega
      clear hr hg c1 c2 c3 c4
      have hz : b < w.heap.size := by omega
      by_cases hn : r.f.name = s
      · have e : findI U.fns s = k := by unfold findI; rw [findN_at _ _ _ _ HN.out HG.out hn]
        have E := Lib.hid e; clear e
        have t0 : (r.f.name == s) = true := by simpa using hn
        go_wp2
        go_ret
        exact ⟨by rw [E.out]; rfl, (Below.refl _ _).alloc (Nat.le_refl _) _⟩
      · have HN2 := Lib.hid (HN.out.succ HG.out hn)
        have t0 : (r.f.name == s) = false := by simpa using hn
        go_wp2
        go_roundw
        case rel => exact ⟨k + 1, by omega, by go_num, (by first | trivial | rfl), HN2⟩
        case measure => simp [intOf]; omega
    · obtain rfl : k = U.fs.length := by omega
      have e : findI U.fns s = -1 := by unfold findI; rw [findN_none _ _ (by have := HN.out; unfold UnR.fns at this ⊢; rw [List.length_map]; exact this)]
      have E := Lib.hid e; clear e
      go_wp2
      go_ret
      exact ⟨by rw [E.out]; rfl, (Below.refl _ _).alloc (Nat.le_refl _) _⟩
end Go.Proofs.Ytgnpbodhjmappaa
