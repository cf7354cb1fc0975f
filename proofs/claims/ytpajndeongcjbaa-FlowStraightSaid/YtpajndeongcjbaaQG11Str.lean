/-
  FlowStraight on lists: a row of Consts and steady operations of two registers, then a Return.
-/
import Derived.Test.YtpajndeongcjbaaQLM
namespace Go.Proofs.Ytpajndeongcjbaa.Cd
set_option linter.unusedVariables false
set_option linter.unusedSimpArgs false

def knV (n : Int) : Val := ⟨1, n⟩
/-- What an instruction of the row sets. -/
def valQ (rs : List Int) (i : Ins) : Int := if i.kind = 1 then i.n else doV i.op (rs.getD i.a.toNat 0) (rs.getD i.b.toNat 0)
def stQ (rs : List Int) (i : Ins) : List Int := rs.set i.dst.toNat (valQ rs i)
def rowsQ (rs : List Int) : List Ins → List (List Val)
  | [] => [rs.map knV]
  | i :: is => rs.map knV :: rowsQ (stQ rs i) is
def endQ (rs : List Int) (is : List Ins) : List Int := is.foldl stQ rs
structure OkQ (i : Ins) : Prop where
  kind : i.kind = 1 ∨ i.kind = 3
  dst : 0 ≤ i.dst ∧ i.dst < 10
  a : i.kind = 3 → 0 ≤ i.a ∧ i.a < 10
  b : i.kind = 3 → 0 ≤ i.b ∧ i.b < 10
  op : i.kind = 3 → (1 ≤ i.op ∧ i.op ≤ 19) ∧ ∀ b, doB i.op b = true
  n : i.kind = 1 → isW i.n = true
  plain : i = plainOf i
theorem stQ_len (rs : List Int) (i : Ins) : (stQ rs i).length = rs.length := by unfold stQ; rw [List.length_set]
theorem rowsQ_len : ∀ (is : List Ins) (rs : List Int), (rowsQ rs is).length = is.length + 1
  | [], rs => rfl
  | i :: is, rs => by unfold rowsQ; rw [List.length_cons, rowsQ_len is]; rfl
theorem rowsQ_zero (is : List Ins) (rs : List Int) : (rowsQ rs is)[0]? = some (rs.map knV) := by cases is <;> rfl
theorem rowsQ_next : ∀ (is : List Ins) (rs : List Int) (k : Nat) (i : Ins), is[k]? = some i → ∃ q, q.length = rs.length ∧ (rowsQ rs is)[k]? = some (q.map knV) ∧ (rowsQ rs is)[k + 1]? = some ((stQ q i).map knV)
  | [], _, _, _, h => by simp at h
  | j :: is, rs, 0, i, h => by
    simp only [List.getElem?_cons_zero, Option.some.injEq] at h
    subst h
    exact ⟨rs, rfl, rfl, by unfold rowsQ; rw [List.getElem?_cons_succ, rowsQ_zero]⟩
  | j :: is, rs, k + 1, i, h => by
    obtain ⟨q, h1, h2, h3⟩ := rowsQ_next is (stQ rs j) k i (by simpa using h)
    exact ⟨q, by rw [h1, stQ_len], by unfold rowsQ; rw [List.getElem?_cons_succ]; exact h2, by unfold rowsQ; rw [List.getElem?_cons_succ]; exact h3⟩
theorem rowsQ_last : ∀ (is : List Ins) (rs : List Int), (rowsQ rs is)[is.length]? = some ((endQ rs is).map knV)
  | [], rs => rfl
  | i :: is, rs => by
    unfold rowsQ endQ
    rw [List.length_cons, List.getElem?_cons_succ, rowsQ_last is, List.foldl_cons]
    rfl
theorem getD_kn {q : List Int} {r : Nat} (h : r < q.length) : (q.map knV).getD r ⟨0, 0⟩ = ⟨1, q.getD r 0⟩ := by
  simp [List.getD_eq_getElem?_getD, List.getElem?_map, List.getElem?_eq_getElem h, knV]
theorem behQ {i : Ins} (h : OkQ i) {q : List Int} (hq : q.length = 10) : behV i (q.map knV) = some ⟨1, valQ q i⟩ := by
  unfold behV valQ
  rcases h.kind with hk | hk
  · rw [if_pos hk, if_pos hk]
  · obtain ⟨a0, a1⟩ := h.a hk
    obtain ⟨b0, b1⟩ := h.b hk
    have n1 : ¬ i.kind = 1 := by omega
    have n4 : ¬ i.kind = 4 := by omega
    have e1 := getD_kn (q := q) (r := i.a.toNat) (by omega)
    have e2 := getD_kn (q := q) (r := i.b.toNat) (by omega)
    simp only [if_neg n1, if_neg n4, if_pos (Or.inr hk : i.kind = 2 ∨ i.kind = 3), if_pos hk, e1, e2]
    simp [(h.op hk).2]
theorem setsQ {i : Ins} (h : OkQ i) : sets i = i.dst := by
  unfold sets
  rw [if_pos (.inl (by rcases h.kind with hk | hk <;> omega))]
theorem setVQ {i : Ins} (h : OkQ i) {q : List Int} (hq : q.length = 10) : setV i (q.map knV) ⟨1, valQ q i⟩ = (stQ q i).map knV := by
  unfold setV stQ
  rw [setsQ h, if_pos h.dst.1]
  have : (⟨1, valQ q i⟩ : Val) = knV (valQ q i) := rfl
  rw [this, List.map_set]
theorem goesQ {i : Ins} (h : OkQ i) (v : List Val) (k : Int) : goesV i v k = [k + 1] := by
  unfold goesV next
  rcases h.kind with hk | hk <;> simp [hk]
def retQ : Ins := ⟨13, 0, -1, 0, 0, 0, [], 0, 0, 0, 0, 0, 0, 0, -1⟩
def funQ (is : List Ins) : Fnc := ⟨[102], 0, 10, 0, is ++ [retQ]⟩
theorem rightQ {i : Ins} (h : OkQ i) (len : Int) : RightI i 10 0 len := by
  refine ⟨by rcases h.kind with hk | hk <;> omega, by rcases h.kind with hk | hk <;> omega, fun r hr => ?_, ?_, ?_, ?_, ?_, h.plain⟩
  · rcases h.kind with hk | hk
    · unfold uses readsA readsB at hr; simp [hk] at hr
    · have ha := h.a hk
      have hb := h.b hk
      unfold uses readsA readsB at hr
      simp [hk] at hr
      rcases hr with rfl | rfl <;> omega
  · unfold dstOk regOk
    have := h.dst
    rcases h.kind with hk | hk <;> simp [hk] <;> omega
  · unfold nOk
    rcases h.kind with hk | hk
    · rw [if_pos hk]; exact h.n hk
    · simp [hk]
  · unfold opOk
    rcases h.kind with hk | hk
    · simp [hk]
    · have := (h.op hk).1; simp [hk]; omega
  · unfold toOk
    rcases h.kind with hk | hk <;> simp [hk]
theorem funQ_right {is : List Ins} (h : ∀ i ∈ is, OkQ i) (hl : is.length ≤ 100) : RightF (funQ is) := by
  refine ⟨by show ([102] : List UInt8) ≠ []; decide, by show (0 : Int) ≤ 0 ∧ (0 : Int) ≤ 6; omega, by show (0 : Int) ≤ 10 ∧ (10 : Int) ≤ 4096; omega, by show (0 : Int) ≤ 0 ∧ (0 : Int) ≤ 4096; omega, ?_, ?_, ?_⟩
  · show 0 < (is ++ [retQ]).length ∧ (is ++ [retQ]).length ≤ 8192
    rw [List.length_append]; simp; omega
  · intro i hi
    have hi' : i ∈ is ++ [retQ] := hi
    rcases List.mem_append.1 hi' with hi' | hi'
    · exact rightQ (h i hi') _
    · rw [List.mem_singleton] at hi'
      subst hi'
      exact rightI_iff.1 (by show rightI retQ 10 0 _ = true; unfold rightI; simp [retQ, uses, readsA, readsB, regOk, dstOk, nOk, opOk, toOk, plainOf, ifI])
  · show 11 ≤ lastKind (is ++ [retQ])
    unfold lastKind
    rw [List.getLast?_append]
    simp [retQ]
theorem solQ {is : List Ins} (h : ∀ i ∈ is, OkQ i) (hl : is.length ≤ 100) {S : List (List Val)} (hS : Sol (funQ is) S) : S = rowsQ (List.replicate 10 0) is := by
  refine chain_sol (funQ_right h hl) hS (by rw [rowsQ_len]; show is.length + 1 = (is ++ [retQ]).length; simp) (by rw [rowsQ_zero]; rfl) (fun k i v hi hv => ⟨fun hk => ?_, fun hk => ?_⟩)
  · have hk' : k + 1 < (is ++ [retQ]).length := hk
    rw [List.length_append] at hk'
    simp at hk'
    have hi' : (is ++ [retQ])[k]? = some i := hi
    rw [List.getElem?_append_left hk'] at hi'
    obtain ⟨q, h1, h2, h3⟩ := rowsQ_next is (List.replicate 10 0) k i hi'
    rw [h2] at hv
    injection hv with hv
    subst hv
    have hO := h i (List.mem_of_getElem? hi')
    rw [List.length_replicate] at h1
    exact ⟨⟨1, valQ q i⟩, behQ hO h1, goesQ hO _ _, by rw [h3, setVQ hO h1]⟩
  · have hk' : k + 1 = (is ++ [retQ]).length := hk
    rw [List.length_append] at hk'
    simp at hk'
    have hi' : (is ++ [retQ])[k]? = some i := hi
    rw [hk', List.getElem?_append_right (Nat.le_refl _)] at hi'
    simp at hi'
    subst hi'
    rfl
theorem full_kn (q : List Int) : (q.map knV).any (fun a => a.kind == 0) = false := by
  rw [List.any_eq_false]
  intro a ha
  obtain ⟨n, _, rfl⟩ := List.mem_map.1 ha
  simp [knV]
theorem foldN_Q : ∀ (is : List Ins) (rs : List Int), rs.length = 10 → (∀ i ∈ is, OkQ i) → foldN (is ++ [retQ]) (rowsQ rs is) = (is.filter (fun i => decide (i.kind = 3))).length
  | [], rs, _, _ => by
    unfold rowsQ
    have : foldIs retQ (rs.map knV) = false := by unfold foldIs; rw [full_kn]; simp [retQ]
    simp [foldN, this]
  | i :: is, rs, hl, h => by
    have ih := foldN_Q is (stQ rs i) (by rw [stQ_len, hl]) (fun j hj => h j (List.mem_cons_of_mem _ hj))
    have hO := h i (List.mem_cons_self ..)
    unfold rowsQ
    rw [List.cons_append]
    unfold foldN
    rw [ih]
    have : foldIs i (rs.map knV) = decide (i.kind = 3) := by
      unfold foldIs
      rw [full_kn, behQ hO hl]
      rcases hO.kind with hk | hk <;> simp [hk]
    rw [this]
    by_cases hk : i.kind = 3
    · simp [hk]; omega
    · simp [hk]
end Go.Proofs.Ytpajndeongcjbaa.Cd
