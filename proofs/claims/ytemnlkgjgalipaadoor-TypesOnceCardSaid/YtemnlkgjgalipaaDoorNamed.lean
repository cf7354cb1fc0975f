/-
  The contract of named: has each field a name of its own?
-/
import Derived.Test.YtemnlkgjgalipaaDoorNew
namespace Go.Proofs.YtemnlkgjgalipaaDoor
open Go.RowKit Go.Maps Tp Go.ChangeMaps
set_option linter.unusedVariables false

def flCells (l : List Fl) : List Value := l.flatMap fun f => [.string (bs f.1), .int .i64 f.2]
/-- A list of fields as a slice. -/
structure FldsIn (w : World) (lv : Value) (l : List Fl) : Prop where
  row : w.ownsRow 0 50 2 lv l.length (flCells l)
theorem FldsIn.below {w w' : World} {lv : Value} {l : List Fl} (h : FldsIn w lv l) (hb : Below w.heap.size w w') : FldsIn w' lv l := by
  obtain ⟨h1, h2⟩ := h.row
  refine ⟨h1, ?_⟩
  rcases h2 with h2 | ⟨g, cap, cur, hv, hg, hh, r⟩
  · exact .inl h2
  · exact .inr ⟨g, cap, cur, hv, hg, (hb.block g (Array.getElem?_eq_some_iff.1 hh).1).trans hh, r⟩
theorem flCells_at : ∀ (l : List Fl) (i j : Nat) (f : Fl), l[i]? = some f → j < 2 → (flCells l)[i * 2 + j]? = [Value.string (bs f.1), .int .i64 f.2][j]?
  | [], i, j, t, h, _ => by simp at h
  | a :: ts, 0, j, t, h, hj => by
    simp at h; subst h
    simp only [flCells, List.flatMap_cons, Nat.zero_mul, Nat.zero_add]
    rw [List.getElem?_append_left (by simpa using hj)]
  | a :: ts, i + 1, j, t, h, hj => by
    simp at h
    have ih := flCells_at ts i j t h hj
    simp only [flCells, List.flatMap_cons] at ih ⊢
    rw [List.getElem?_append_right (by simp; omega), show (i + 1) * 2 + j - [Value.string (bs a.1), Value.int .i64 a.2].length = i * 2 + j by simp; omega]
    exact ih
theorem FldsIn.at {w : World} {g n cap : Nat} {l : List Fl} (h : FldsIn w (.slice (some ⟨g, 0, none⟩) n cap) l) {i : Nat} {f : Fl} (hi : l[i]? = some f) :
    w.cell? ⟨g, i * 2, none⟩ = some (.string (bs f.1)) ∧ w.cell? ⟨g, i * 2 + 1, none⟩ = some (.int .i64 f.2) := by
  have hc := h.row.cells (g := g) rfl
  have hadd : ∀ j, (⟨g, 0, none⟩ : Addr).add j = ⟨g, j, none⟩ := fun j => by unfold Addr.add; split <;> simp_all
  have c : ∀ j, j < 2 → ∀ u, [Value.string (bs f.1), .int .i64 f.2][j]? = some u → w.cell? ⟨g, i * 2 + j, none⟩ = some u := fun j hj u hu => by
    have := hc (i * 2 + j) u (by rw [flCells_at l i j f hi hj]; exact hu)
    rwa [hadd] at this
  exact ⟨c 0 (by omega) _ rfl, c 1 (by omega) _ rfl⟩
theorem zero64 (w : World) : (zeroValue 3).run Tryd.prog w = .ok (.int .i64 0) w := by kernel_rfl
theorem wf64 {n : Int} (h0 : 0 ≤ n) (h1 : n ≤ 1000000) : (Lit.int .i64 n).wf = true := WalkArith.wf_i64 (by omega)
def SeenIn (wr : World) (b k : Nat) (ns : List (List UInt8)) : Prop := ∃ D, wr.ownsMap Tryd.prog 9 (plainElem (H := Unit) Tryd.prog 3) b k D ∧ Seen D ns
theorem seen_cnt {D : DataW Unit} {ns : List (List UInt8)} (h : Seen D ns) {x : List UInt8} {c : Int} (hat : D.atKey (.string x) (.lit (.int .i64 0)) = .lit (.int .i64 c)) : c = ns.count x := by
  have := h.at_ x
  unfold cntD at this
  simp only [Int.cast_ofNat_Int] at this
  rw [hat] at this
  simpa using this
theorem named_eq (l : List Fl) : named l = (decide ((l.map (·.1)).count [] = 0) && decide ((l.map (·.1)).Nodup)) := by
  unfold named
  congr 1
  rw [Bool.eq_iff_iff]
  simp only [List.all_eq_true, decide_eq_true_eq, List.count_eq_zero]
  constructor
  · intro h hm
    obtain ⟨f, hf, hf2⟩ := List.mem_map.1 hm
    have := h f hf
    rw [hf2] at this
    simp at this
  · intro h f hf
    cases hn : f.1 with
    | nil => exact absurd (List.mem_map.2 ⟨f, hf, hn⟩) h
    | cons _ _ => rfl
set_option maxHeartbeats 2000000 in
set_option maxRecDepth 100000 in
theorem named_any (l : List Fl) (lv : Value) (w : World) (h : FldsIn w lv l) (hl : l.length ≤ 4096) (hs : ∀ f ∈ l, f.1.length ≤ 100) :
    Calls Tryd.prog 34 #[lv] w fun e w' => e = .returned (.bool (named l)) ∧ Below w.heap.size w w' := by
  have hmm := @run_makeMap Tryd.prog
  obtain ⟨a, cap, rfl⟩ := row_len h.row
  have HF := Lib.hid h; clear h
  have HS := Lib.hid hs; clear hs
  go_enter Tryd.func34, Tryd.ntmps34
  go_wp2
  go_loopw [9] (fun i wr => ∃ k : Nat, k ≤ l.length ∧ i = .int .i64 k ∧ Hid (Below w.heap.size w wr) ∧ Hid (SeenIn wr w.heap.size k ((l.map (·.1)).take k))) (fun i wr => l.length - (intOf i).toNat)
  case atStart => exact ⟨0, Nat.zero_le _, rfl, Lib.hid ((Below.refl _ _).alloc (Nat.le_refl _) _), Lib.hid ⟨_, World.ownsMap_made _ _ _ _, seen_nil⟩⟩
  case round =>
    obtain ⟨k, hk, rfl, HB, HSE⟩ := hrel
    obtain ⟨D, hown, hseen⟩ := HSE.out
    have HO := Lib.hid hown
    have HSN := Lib.hid hseen
    have hbz : w.heap.size < wr.heap.size := HO.out.lt
    clear hown hseen
    by_cases hlt : k < l.length
    · obtain ⟨f, hf⟩ : ∃ f, l[k]? = some f := ⟨_, List.getElem?_eq_getElem hlt⟩
      have hF2 := HF.out.below HB.out
      obtain ⟨g, cap2, hg, _, hg3⟩ := hF2.row.form (by omega)
      simp only [Value.slice.injEq] at hg
      obtain ⟨rfl, _, rfl⟩ := hg
      obtain ⟨c0, c1⟩ := hF2.at hf
      have HK : Hid ((bs f.1).size ≤ maxLen) := Lib.hid (by have := HS.out f (List.mem_of_getElem? hf); show f.1.length ≤ maxLen; unfold maxLen; omega)
      have HT : Hid ((l.map (·.1)).take (k + 1) = (l.map (·.1)).take k ++ [f.1]) := Lib.hid (by rw [List.take_add_one, List.getElem?_map, hf]; rfl)
      have hcn : (((l.map (·.1)).take k).count f.1 : Int) ≤ (l.length : Int) := by
        have := List.count_le_length (a := f.1) (l := (l.map (·.1)).take k)
        simp at this; omega
      obtain ⟨c, hcc⟩ : ∃ c, ((l.map (·.1)).take k).count f.1 = c := ⟨_, rfl⟩
      have HC := Lib.hid hcc
      rw [hcc] at hcn
      have hc0 : (0 : Int) ≤ (c : Int) := Int.natCast_nonneg _
      clear hcc hF2 hf
      go_wp2_with (first | (at_lookup; go_loud (refine wpList_lookup_own_int _ rfl _ _ 94 rfl 9 3 .i64 lawS Tryd.underlying94 Tryd.underlying3 (zero64 _) w.heap.size k D rfl (by exact HO.out.alloc _) _ _ rfl (keyS HK.out) ?_); intro c2 hat hwc; have hc2 := seen_cnt HSN.out hat; clear hat hwc; rw [HC.out] at hc2; subst hc2) | (at_mapUpdate; go_loud (refine wpList_mapUpdate_own _ rfl _ _ _ 94 rfl 9 3 lawS Tryd.underlying94 (plainElem (H := Unit) Tryd.prog 3) w.heap.size k D rfl (by exact HO.out.alloc _) (by unfold maxLen; omega) _ _ _ rfl rfl (keyS HK.out) (cntD (c + 1)) [] (plainElem_int Tryd.underlying3 (wf64 (by omega) (by omega))) ?_); intro w1 hown1 hgrow1; have HO1 := Lib.hid hown1; have HB1 : Hid (Below w.heap.size w w1) := Lib.hid ((HB.out.alloc (by omega) _).grown hgrow1 (by simp; omega) (by intro q e; injection e with e; omega)); clear hown1 hgrow1))
      go_roundw
      case rel => exact ⟨k + 1, by omega, by go_num, HB1, Lib.hid ⟨_, HO1.out, by rw [HT.out]; have := seen_put HSN.out f.1; rw [HC.out] at this; exact this⟩⟩
      case measure => simp [intOf]; omega
    · have hkl : k = l.length := by omega
      have hT : (l.map (·.1)).take k = l.map (·.1) := List.take_of_length_le (by simp; omega)
      have HSN2 : Hid (Seen D (l.map (·.1))) := Lib.hid (by rw [← hT]; exact HSN.out)
      clear hT
      by_cases hz : (l.map (·.1)).count [] = 0
      · have HZ := Lib.hid hz
        have hle : Maps.size D ≤ l.length := by have := HSN2.out.le; simpa using this
        have hnd : Hid (((Maps.size D : Int) == (l.length : Int)) = named l) := Lib.hid (by
          rw [named_eq, hz, Bool.eq_iff_iff]
          have := HSN2.out.nodup
          simp at this ⊢
          rw [← this]; omega)
        obtain ⟨q, hq⟩ : ∃ q, Maps.size D = q := ⟨_, rfl⟩
        have hlen := HO.out.len (t := 94) (e := 3) Tryd.underlying94 3
        rw [hq] at hnd hle hlen
        clear hz hkl hq
        go_wp2_with (at_lookup; go_loud (refine wpList_lookup_own_int _ rfl _ _ 94 rfl 9 3 .i64 lawS Tryd.underlying94 Tryd.underlying3 (zero64 _) w.heap.size k D rfl HO.out _ _ rfl (keyS (s := ⟨#[]⟩) (by decide)) ?_); intro c2 hat hwc; have hc2 := seen_cnt HSN2.out hat; clear hat hwc; rw [HZ.out] at hc2; simp only [Int.cast_ofNat_Int] at hc2; subst hc2)
        go_ret
        exact ⟨by rw [← hnd.out]; rfl, HB.out⟩
      · have HZ := Lib.hid hz
        obtain ⟨q, hq⟩ : ∃ q, (l.map (·.1)).count [] = q := ⟨_, rfl⟩
        have HQ := Lib.hid hq
        rw [hq] at hz
        have hb : ((q : Int) == 0) = false := by simp; omega
        have hnd : Hid (named l = false) := Lib.hid (by rw [named_eq, decide_eq_false (by exact HZ.out)]; rfl)
        clear hz hkl hq
        go_wp2_with (at_lookup; go_loud (refine wpList_lookup_own_int _ rfl _ _ 94 rfl 9 3 .i64 lawS Tryd.underlying94 Tryd.underlying3 (zero64 _) w.heap.size k D rfl HO.out _ _ rfl (keyS (s := ⟨#[]⟩) (by decide)) ?_); intro c2 hat hwc; have hc2 := seen_cnt HSN2.out hat; clear hat hwc; rw [HQ.out] at hc2; subst hc2)
        go_ret
        exact ⟨by rw [hnd.out]; rfl, HB.out⟩
end Go.Proofs.YtemnlkgjgalipaaDoor
