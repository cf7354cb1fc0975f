/-
  What TypesFields finds, on lists; a table while another row is written.
-/
import Derived.Test.YtemnlkgjgalipaaDoorFieldsP
namespace Go.Proofs.YtemnlkgjgalipaaDoor
open Go.RowKit Go.Maps Tp
set_option linter.unusedVariables false

theorem find_self : ∀ (T T' : Tab) (x : Ty), T.map (·.self) = T'.map (·.self) → find T x = find T' x
  | [], [], _, _ => rfl
  | [], b :: T', _, h => by simp at h
  | a :: T, [], _, h => by simp at h
  | a :: T, b :: T', x, h => by
    simp at h
    unfold find
    rw [h.1, find_self T T' x (by simpa using h.2)]
theorem setF_self (T : Tab) (n : Nat) (r : List Pl × Int) : (setF T n r).map (·.self) = T.map (·.self) := by
  apply List.ext_getElem?
  intro i
  rw [List.getElem?_map, List.getElem?_map]
  unfold setF
  rw [List.getElem?_modify]
  cases T[i]? with
  | none => rfl
  | some e => simp only [Option.map_some]; split <;> rfl
theorem find_sTab {zs : List Int} {n : Nat} (hz : ∀ n ∈ zs, 0 ≤ n) (hn : n ≤ 10) : find (sTab zs n) ⟨6, 0, 0, [115]⟩ = some (fSt zs n).1.length := by
  have h := finv hz n hn
  unfold sTab
  rw [find_append]
  cases hf : find (fSt zs n).1 ⟨6, 0, 0, [115]⟩ with
  | none => simp [find]
  | some i =>
    obtain ⟨e, h1, h2, _⟩ := find_some hf
    exact absurd (by rw [h2]) (h.arr i e h1).1
/-- The table at its end. -/
def eTab (zs : List Int) (n : Nat) : Tab := setF (sTab zs n) (fSt zs n).1.length (plc zs n, (fSt zs n).2.2)
theorem struct_e {zs : List Int} {n : Nat} (hz : ∀ n ∈ zs, 0 ≤ n) (hn : n ≤ 10) : strct (eTab zs n) [115] = (((fSt zs n).1.length : Int), 0, eTab zs n) := by
  unfold strct
  rw [if_neg (by simp), num_some ?_]
  unfold eTab
  rw [find_self _ _ _ (setF_self _ _ _)]
  exact find_sTab hz hn
theorem struct_0 {zs : List Int} (hz : ∀ n ∈ zs, 0 ≤ n) : strct (sTab zs 0) [115] = (((fSt zs 0).1.length : Int), 0, sTab zs 0) := by
  unfold strct
  rw [if_neg (by simp), num_some (find_sTab hz (by omega))]
theorem ent_e (zs : List Int) (n : Nat) : ent (eTab zs n) (fSt zs n).1.length = some ⟨⟨6, 0, 0, [115]⟩, (fSt zs n).2.2, some (plc zs n)⟩ := by
  rw [ent_nat]
  unfold eTab setF
  rw [List.getElem?_modify]
  simp [sTab]
theorem size_e (zs : List Int) (n : Nat) : Tp.sizeOf (eTab zs n) (fSt zs n).1.length = (fSt zs n).2.2 := by
  unfold Tp.sizeOf; rw [ent_e]; rfl
theorem size_0 (zs : List Int) : Tp.sizeOf (sTab zs 0) (fSt zs 0).1.length = 0 := by rfl
theorem find_nodup : ∀ (l : List Pl) (i : Nat) (p : Pl), l[i]? = some p → (l.map (·.1)).Nodup → l.find? (fun f => f.1 = p.1) = some p
  | [], i, p, h, _ => by simp at h
  | a :: l, 0, p, h, _ => by simp at h; subst h; simp
  | a :: l, i + 1, p, h, hn => by
    simp at h
    rw [List.map_cons, List.nodup_cons] at hn
    have hne : ¬ a.1 = p.1 := fun e => hn.1 (by rw [e]; exact List.mem_map.2 ⟨p, List.mem_of_getElem? h, rfl⟩)
    rw [List.find?_cons]
    simp only [hne, decide_false]
    exact find_nodup l i p h hn.2
theorem plc_at {zs : List Int} {n i : Nat} (hi : i < n) : (plc zs n)[i]? = some (nm i, (fSt zs i).2.2, ((fSt zs n).2.1.getD i ([], 0)).2) := by
  unfold plc
  rw [List.getElem?_map, List.getElem?_range hi]
  rfl
theorem plc_nodup {zs : List Int} {n : Nat} (hz : ∀ n ∈ zs, 0 ≤ n) (hn : n ≤ 10) : ((plc zs n).map (·.1)).Nodup := by
  have := layF_names (flay hz hn n (Nat.le_refl _))
  rw [List.take_of_length_le (by unfold plc; simp), List.take_of_length_le (by rw [fSt_len]; omega)] at this
  simp only at this
  rw [this]
  exact names_nodup hz hn
theorem pick_e {zs : List Int} {n i : Nat} {f : Fl} (hz : ∀ n ∈ zs, 0 ≤ n) (hn : n ≤ 10) (hf : (fSt zs n).2.1[i]? = some f) : pick (plc zs n) f.1 = ((fSt zs i).2.2, f.2, true) := by
  obtain ⟨h1, h2⟩ := names_at hz hn hf
  have hp := plc_at (zs := zs) h2
  rw [List.getD_eq_getElem?_getD, hf] at hp
  unfold pick
  rw [h1, find_nodup _ i _ hp (plc_nodup hz hn)]
  rfl
theorem size_f {zs : List Int} {n i : Nat} {f : Fl} (hz : ∀ n ∈ zs, 0 ≤ n) (hn : n ≤ 10) (hf : (fSt zs n).2.1[i]? = some f) : Tp.sizeOf (eTab zs n) f.2 = cnt zs i := by
  have h := finv hz n hn
  obtain ⟨_, h2⟩ := h.at_ i f hf
  have hc := cnt_le zs i hz
  rw [← h2]
  unfold Tp.sizeOf at h2 ⊢
  cases hn : ent (fSt zs n).1 f.2 with
  | none => rw [hn] at h2; simp [zeroE] at h2; omega
  | some e =>
    obtain ⟨j, hj, hl, he⟩ := ent_some hn
    rw [hj, ent_nat]
    unfold eTab setF
    have hne : ¬ (fSt zs n).1.length = j := by omega
    rw [List.getElem?_modify, pre_sTab zs n j e he]
    simp [hne]
theorem sum_pos {zs : List Int} (hz : ∀ n ∈ zs, 0 ≤ n) : ∀ n, 0 < n → 0 < (fSt zs n).2.2
  | n + 1, _ => by
    have hc := cnt_le zs n hz
    have : 0 ≤ (fSt zs n).2.2 := by
      rcases Nat.eq_zero_or_pos n with h | h
      · subst h; exact Int.le_refl 0
      · have := sum_pos hz n h; omega
    show 0 < (fSt zs n).2.2 + cnt zs n
    omega
theorem good_e {zs : List Int} {n : Nat} (hz : ∀ n ∈ zs, 0 ≤ n) (hn : n ≤ 10) (h0 : 0 < n) : Tp.Good (eTab zs n) := by
  have := @good_define (fSt zs n).1 [115] (fSt zs n).2.1 (finv hz n hn).good (by decide)
  rwa [fdefine hz hn h0] at this
/-! ### a table while another row is written -/
theorem TabX.grown {w w2 w1 : World} {t B : Nat} {v : Value} {X : List (En × Option Nat)} {row : Option Nat} (h : TabX w t B v X) (hb : Below w.heap.size w w2) (hg : w2.grownBy w1 row)
    (ht : row ≠ some t) (hv : ∀ g, row = some g → v.ownBlock ≠ some g) (hc : ∀ g, row = some g → ∃ cs e fr, w2.heap[g]? = some (.cells cs e fr)) : TabX w1 t B v X := by
  have h2 := h.below hb
  have hblk : ∀ k, k < w2.heap.size → row ≠ some k → w1.heap[k]? = w2.heap[k]? := fun k hk hn => hg.block k hk (Ne.symm hn)
  refine ⟨(hblk t h2.lt ht).trans h2.head, h2.ge, ?_, h2.apart, fun x hx => (h2.flds x hx).keep (fun b es c hm => ?_)⟩
  · obtain ⟨h1, h3⟩ := h2.row
    refine ⟨h1, ?_⟩
    rcases h3 with h3 | ⟨g, cap, cur, rfl, hg2, hh, r⟩
    · exact .inl h3
    · exact .inr ⟨g, cap, cur, rfl, hg2, (hblk g (Array.getElem?_eq_some_iff.1 hh).1 (fun e => hv g e rfl)).trans hh, r⟩
  · refine hblk b (Array.getElem?_eq_some_iff.1 hm).1 (fun e => ?_)
    obtain ⟨cs, e2, fr, hcs⟩ := hc b e
    rw [hcs] at hm
    cases hm
theorem own_cells {w : World} {B size n : Nat} {e : TypeId} {v : Value} {xs : List Value} (h : w.ownsRow B e size v n xs) : ∀ g, v.ownBlock = some g → ∃ cs e fr, w.heap[g]? = some (.cells cs e fr) := by
  intro g hg
  rcases h.2 with ⟨rfl, _⟩ | ⟨g', cap, cur, rfl, _, hh, _⟩
  · simp [Value.ownBlock] at hg
  · simp [Value.ownBlock] at hg
    subst hg
    exact ⟨_, _, _, hh⟩
theorem own_turn {w w' : World} {B size n t : Nat} {e : TypeId} {lv v v' : Value} {xs : List Value} (h : w.ownsRow B e size lv n xs) (ht : Turn t v v' w w') (h1 : lv.ownBlock ≠ some t) (h2 : ∀ g, lv.ownBlock = some g → v.ownBlock ≠ some g) : w'.ownsRow B e size lv n xs := by
  obtain ⟨h3, h4⟩ := h
  refine ⟨h3, ?_⟩
  rcases h4 with h4 | ⟨g, cap, cur, rfl, hg, hh, r⟩
  · exact .inl h4
  · exact .inr ⟨g, cap, cur, rfl, hg, (ht.block g (Array.getElem?_eq_some_iff.1 hh).1 (fun e => h1 (by rw [e]; rfl)) (h2 g rfl)).trans hh, r⟩
theorem own_base {w : World} {B size n : Nat} {e : TypeId} {v : Value} {xs : List Value} (h : w.ownsRow B e size v n xs) : w.ownsRow 0 e size v n xs := by
  obtain ⟨h3, h4⟩ := h
  refine ⟨h3, ?_⟩
  rcases h4 with h4 | ⟨g, cap, cur, rfl, hg, hh, r⟩
  · exact .inl h4
  · exact .inr ⟨g, cap, cur, rfl, Nat.zero_le _, hh, r⟩
theorem flCells_snoc (l : List Fl) (f : Fl) : flCells (l ++ [f]) = flCells l ++ [.string (bs f.1), .int .i64 f.2] := by simp [flCells]
end Go.Proofs.YtemnlkgjgalipaaDoor
