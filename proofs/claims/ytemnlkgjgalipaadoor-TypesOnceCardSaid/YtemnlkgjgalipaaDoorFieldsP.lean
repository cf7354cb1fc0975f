/-
  The table of TypesFields, on lists.
-/
import Derived.Test.YtemnlkgjgalipaaDoorAwake
namespace Go.Proofs.YtemnlkgjgalipaaDoor
open Go.RowKit Go.Maps Tp
set_option linter.unusedVariables false

def cnt (zs : List Int) (k : Nat) : Int := 1 + zs.getD k 0 % 20
def nm (k : Nat) : List UInt8 := [UInt8.ofNat (97 + k)]
/-- The table, the fields and the sum behind so many counts. -/
def fSt (zs : List Int) : Nat → Tab × List Fl × Int
  | 0 => (newT, [], 0)
  | k + 1 => ((array (fSt zs k).1 (1 + ((k % 3 : Nat) : Int)) (cnt zs k)).2.2, (fSt zs k).2.1 ++ [(nm k, (array (fSt zs k).1 (1 + ((k % 3 : Nat) : Int)) (cnt zs k)).1)], (fSt zs k).2.2 + cnt zs k)
theorem cnt_le (zs : List Int) (k : Nat) (h : ∀ n ∈ zs, 0 ≤ n) : 1 ≤ cnt zs k ∧ cnt zs k ≤ 20 := by
  unfold cnt
  have : 0 ≤ zs.getD k 0 := by
    rw [List.getD_eq_getElem?_getD]
    cases hz : zs[k]? with
    | none => simp
    | some z => simpa using h z (List.mem_of_getElem? hz)
  omega
/-- What is there stays there. -/
def Pre (T T' : Tab) : Prop := ∀ (i : Nat) e, T[i]? = some e → T'[i]? = some e
theorem pre_num (T : Tab) (x : Ty) (s : Int) : Pre T (num T x s).2.2 := by
  intro i e h
  unfold num
  split
  · exact h
  · split
    · exact h
    · rw [List.getElem?_append_left (List.getElem?_eq_some_iff.1 h).1]; exact h
theorem pre_sizeOf {T T' : Tab} (h : Pre T T') {n : Int} (hs : 0 < Tp.sizeOf T n) : Tp.sizeOf T' n = Tp.sizeOf T n := by
  unfold Tp.sizeOf at *
  cases hn : ent T n with
  | none => rw [hn] at hs; simp [zeroE] at hs
  | some e =>
    obtain ⟨i, rfl, _, he⟩ := ent_some hn
    rw [ent_nat, h i e he]
/-- The arrays of one scalar, each as big as it has elements. -/
structure FInv (zs : List Int) (k : Nat) (T : Tab) (l : List Fl) (s : Int) : Prop where
  good : Tp.Good T
  few : T.length ≤ 4 + k
  base : Pre newT T
  arr : ∀ (i : Nat) e, T[i]? = some e → e.self.kind ≠ 6 ∧ (e.self.kind = 5 → e.size = e.self.n)
  len : l.length = k
  at_ : ∀ (i : Nat) (f : Fl), l[i]? = some f → f.1 = nm i ∧ Tp.sizeOf T f.2 = cnt zs i
  sum : 0 ≤ s ∧ s ≤ 20 * k
theorem arr_step {T : Tab} {el : Nat} {n : Int} (hb : Pre newT T) (hel : 1 ≤ el ∧ el ≤ 3) (hn : 1 ≤ n ∧ n ≤ 20) : array T el n = num T ⟨5, el, n, []⟩ n := by
  have he : ∃ e, newT[el]? = some e ∧ e.size = 1 := by
    have : el = 1 ∨ el = 2 ∨ el = 3 := by omega
    rcases this with rfl | rfl | rfl <;> exact ⟨_, rfl, rfl⟩
  obtain ⟨e, he, hs⟩ := he
  unfold array
  rw [ent_nat, hb el e he]
  simp only [hs]
  rw [if_neg (by omega), if_neg (by omega), Int.mul_one]
theorem finv_zero (zs : List Int) : FInv zs 0 newT [] 0 := by
  refine ⟨good_new, by decide, fun _ _ h => h, fun i e h => ?_, rfl, fun i f h => by simp at h, by decide⟩
  rcases i with _ | _ | _ | _ | i
  all_goals simp [newT] at h
  all_goals (subst h; decide)
theorem finv_step {zs : List Int} {k : Nat} (hz : ∀ n ∈ zs, 0 ≤ n) (hk : k < 10) (h : FInv zs k (fSt zs k).1 (fSt zs k).2.1 (fSt zs k).2.2) :
    (array (fSt zs k).1 (1 + ((k % 3 : Nat) : Int)) (cnt zs k)).2.1 = 0 ∧ FInv zs (k + 1) (fSt zs (k + 1)).1 (fSt zs (k + 1)).2.1 (fSt zs (k + 1)).2.2 := by
  have hc := cnt_le zs k hz
  have hfew := h.few
  have e0 : (1 + ((k % 3 : Nat) : Int)) = ((1 + k % 3 : Nat) : Int) := by omega
  have ha := arr_step (T := (fSt zs k).1) h.base (el := 1 + k % 3) (by omega) hc
  rw [← e0] at ha
  have hg := good_array (elem := (1 + ((k % 3 : Nat) : Int))) (n := cnt zs k) h.good
  simp only [fSt]
  rw [ha] at hg ⊢
  have hp := pre_num (fSt zs k).1 ⟨5, 1 + ((k % 3 : Nat) : Int), cnt zs k, []⟩ (cnt zs k)
  have her : (num (fSt zs k).1 ⟨5, 1 + ((k % 3 : Nat) : Int), cnt zs k, []⟩ (cnt zs k)).2.1 = 0 := by
    unfold num
    split
    · rfl
    · rw [if_neg (by omega)]
  have harr : ∀ (i : Nat) e, (num (fSt zs k).1 ⟨5, 1 + ((k % 3 : Nat) : Int), cnt zs k, []⟩ (cnt zs k)).2.2[i]? = some e → e.self.kind ≠ 6 ∧ (e.self.kind = 5 → e.size = e.self.n) := by
    intro i e he
    unfold num at he
    split at he
    · exact h.arr i e he
    · rw [if_neg (by omega)] at he
      rcases getElem?_snoc he with h1 | ⟨_, rfl⟩
      · exact h.arr i e h1
      · exact ⟨by simp, fun _ => rfl⟩
  refine ⟨her, ⟨hg, ?_, fun i e he => hp i e (h.base i e he), harr, by simp [h.len], fun i f hf => ?_, ?_⟩⟩
  · unfold num
    split
    · simp only; omega
    · rw [if_neg (by omega)]; simp; omega
  · rcases getElem?_snoc hf with h1 | ⟨rfl, rfl⟩
    · obtain ⟨a, b⟩ := h.at_ i f h1
      have := cnt_le zs i hz
      exact ⟨a, by rw [pre_sizeOf hp (by omega)]; exact b⟩
    · refine ⟨by rw [h.len], ?_⟩
      obtain ⟨i, hi, e, he, hs, _⟩ := num_at her
      rw [hi]
      have h5 := (harr i e he).2 (by rw [hs])
      unfold Tp.sizeOf
      rw [ent_nat, he]
      show e.size = _
      rw [h5, hs, h.len]
  · have := h.sum; omega
theorem finv {zs : List Int} (hz : ∀ n ∈ zs, 0 ≤ n) : ∀ k, k ≤ 10 → FInv zs k (fSt zs k).1 (fSt zs k).2.1 (fSt zs k).2.2
  | 0, _ => finv_zero zs
  | k + 1, h => (finv_step hz (by omega) (finv hz k (by omega))).2
theorem fSt_len (zs : List Int) : ∀ k, (fSt zs k).2.1.length = k
  | 0 => rfl
  | k + 1 => by simp [fSt, fSt_len zs k]
theorem fSt_take {zs : List Int} : ∀ n k, k ≤ n → (fSt zs n).2.1.take k = (fSt zs k).2.1
  | 0, k, hk => by
    obtain rfl : k = 0 := (by omega)
    rfl
  | n + 1, k, hk => by
    rcases Nat.lt_or_ge n k with h1 | h1
    · obtain rfl : k = n + 1 := by omega
      exact List.take_of_length_le (by rw [fSt_len]; omega)
    · simp only [fSt]
      rw [List.take_append_of_le_length (by rw [fSt_len]; exact h1)]
      exact fSt_take n k h1
theorem nm_inj {i j : Nat} (hi : i < 10) (hj : j < 10) (h : nm i = nm j) : i = j := by
  unfold nm at h
  injection h with h _
  have := congrArg UInt8.toNat h
  simp at this
  omega
theorem names_at {zs : List Int} {k : Nat} (hz : ∀ n ∈ zs, 0 ≤ n) (hk : k ≤ 10) {i : Nat} {f : Fl} (h : (fSt zs k).2.1[i]? = some f) : f.1 = nm i ∧ i < k := by
  have hi := (List.getElem?_eq_some_iff.1 h).1
  rw [fSt_len] at hi
  exact ⟨((finv hz k hk).at_ i f h).1, hi⟩
theorem names_nodup {zs : List Int} {k : Nat} (hz : ∀ n ∈ zs, 0 ≤ n) (hk : k ≤ 10) : ((fSt zs k).2.1.map (·.1)).Nodup := by
  refine List.pairwise_iff_getElem.2 fun i j hi hj hij hc => ?_
  simp only [List.length_map, fSt_len] at hi hj
  rw [List.getElem_map, List.getElem_map] at hc
  have e1 : (fSt zs k).2.1[i]? = some ((fSt zs k).2.1[i]'(by rw [fSt_len]; omega)) := List.getElem?_eq_getElem _
  have e2 : (fSt zs k).2.1[j]? = some ((fSt zs k).2.1[j]'(by rw [fSt_len]; omega)) := List.getElem?_eq_getElem _
  rw [(names_at hz hk e1).1, (names_at hz hk e2).1] at hc
  have := nm_inj (by omega) (by omega) hc
  omega
theorem fnamed {zs : List Int} {k : Nat} (hz : ∀ n ∈ zs, 0 ≤ n) (hk : k ≤ 10) : named (fSt zs k).2.1 = true := by
  unfold named
  rw [Bool.and_eq_true]
  refine ⟨?_, by simpa using names_nodup hz hk⟩
  rw [List.all_eq_true]
  intro f hf
  obtain ⟨i, hi⟩ := List.mem_iff_getElem?.1 hf
  rw [(names_at hz hk hi).1]
  rfl
/-- The table with the struct s. -/
def sTab (zs : List Int) (n : Nat) : Tab := (fSt zs n).1 ++ [⟨⟨6, 0, 0, [115]⟩, 0, none⟩]
theorem strct_new {zs : List Int} {n : Nat} (hz : ∀ n ∈ zs, 0 ≤ n) (hn : n ≤ 10) : strct (fSt zs n).1 [115] = (((fSt zs n).1.length : Int), 0, sTab zs n) := by
  have h := finv hz n hn
  have hf : find (fSt zs n).1 ⟨6, 0, 0, [115]⟩ = none := by
    cases hf : find (fSt zs n).1 ⟨6, 0, 0, [115]⟩ with
    | none => rfl
    | some i =>
      obtain ⟨e, h1, h2, _⟩ := find_some hf
      exact absurd (by rw [h2]) (h.arr i e h1).1
  unfold strct
  rw [if_neg (by simp), num_none hf, if_neg (by have := h.few; omega)]
  rfl
theorem pre_sTab (zs : List Int) (n : Nat) : Pre (fSt zs n).1 (sTab zs n) := by
  intro i e h
  unfold sTab
  rw [List.getElem?_append_left (List.getElem?_eq_some_iff.1 h).1]; exact h
/-- The places of the fields. -/
def plc (zs : List Int) (n : Nat) : List Pl := (List.range n).map fun i => (nm i, (fSt zs i).2.2, ((fSt zs n).2.1.getD i ([], 0)).2)
theorem flay {zs : List Int} {n : Nat} (hz : ∀ n ∈ zs, 0 ≤ n) (hn : n ≤ 10) : ∀ k, k ≤ n → layF (sTab zs n) ((fSt zs n).2.1.take k) 0 = some ((plc zs n).take k, (fSt zs k).2.2)
  | 0, _ => rfl
  | k + 1, h => by
    have hl := fSt_len zs n
    have e1 : (fSt zs n).2.1[k]? = some ((fSt zs n).2.1[k]'(by omega)) := List.getElem?_eq_getElem _
    have a1 := (finv hz n hn).at_ k _ e1
    have hc := cnt_le zs k hz
    have hs : Tp.sizeOf (sTab zs n) ((fSt zs n).2.1[k]'(by omega)).2 = cnt zs k := by rw [pre_sizeOf (pre_sTab zs n) (by omega)]; exact a1.2
    rw [layF_step (flay hz hn k (by omega)) e1 (by omega), hs]
    have hp : (plc zs n)[k]? = some (nm k, (fSt zs k).2.2, ((fSt zs n).2.1[k]'(by omega)).2) := by
      unfold plc
      rw [List.getElem?_map, List.getElem?_range (by omega)]
      simp only [Option.map_some]
      rw [List.getD_eq_getElem?_getD, e1]
      rfl
    rw [List.take_add_one, hp, a1.1]
    rfl
theorem fdefine {zs : List Int} {n : Nat} (hz : ∀ n ∈ zs, 0 ≤ n) (hn : n ≤ 10) (h0 : 0 < n) : define (fSt zs n).1 [115] (fSt zs n).2.1 = (0, setF (sTab zs n) (fSt zs n).1.length (plc zs n, (fSt zs n).2.2)) := by
  have hl := fSt_len zs n
  have hlay : lay (sTab zs n) (fSt zs n).2.1 = .ok (plc zs n, (fSt zs n).2.2) := by
    have := flay hz hn n (Nat.le_refl _)
    rw [List.take_of_length_le (by omega), List.take_of_length_le (by unfold plc; simp)] at this
    unfold lay
    rw [if_neg (by intro e; rw [e] at hl; simp at hl; omega), this]
    simp only
    rw [if_neg (by have := (finv hz n hn).sum; omega)]
  unfold define
  rw [strct_new hz hn]
  simp only
  rw [if_neg (by simp), if_neg ?_, hlay]
  · simp
  · rw [fnamed hz hn]
    unfold isDef
    rw [ent_nat]
    simp [sTab]
theorem fdefine0 {zs : List Int} (hz : ∀ n ∈ zs, 0 ≤ n) : define (fSt zs 0).1 [115] (fSt zs 0).2.1 = (8, sTab zs 0) := by
  unfold define
  rw [strct_new hz (by omega)]
  rfl
end Go.Proofs.YtemnlkgjgalipaaDoor
