/-
  Where a function reads and sets its registers, on lists: what usesOf gathers.
-/
import Derived.Test.YtgnpbodhjmappaaPMB
import Derived.Test.YtgnpbodhjmappaaPMD
import Derived.Test.YtgnpbodhjmappaaPLH
import Derived.Maps.AppendAt
set_option linter.unusedVariables false
set_option linter.unusedSimpArgs false
namespace Go.Proofs.Ytgnpbodhjmappaa.Cd
def upF {α : Type} (V : Nat → Int → α) (t : Nat) (x : Int) (v : α) : Nat → Int → α := fun t' x' => if t' = t ∧ x' = x then v else V t' x'
theorem upF_same {α : Type} (V : Nat → Int → α) (t : Nat) (x : Int) (v : α) : upF V t x v t x = v := if_pos ⟨rfl, rfl⟩
theorem upF_other {α : Type} (V : Nat → Int → α) {t t' : Nat} {x x' : Int} (v : α) (h : ¬ (t' = t ∧ x' = x)) : upF V t x v t' x' = V t' x' := if_neg h
theorem upF_kind {α : Type} (V : Nat → Int → α) {t t' : Nat} (x : Int) (v : α) (h : t' ≠ t) : upF V t x v t' = V t' := funext fun x' => if_neg (fun e => h e.1)
theorem upF_at {α : Type} (V : Nat → Int → α) (t : Nat) (x : Int) (v : α) : upF V t x v t = fun x' => if x' = x then v else V t x' := funext fun x' => by
  unfold upF
  by_cases h : x' = x <;> simp [h]
def add1 (G : Nat → Int → List Int) (t : Nat) (k x : Int) : Nat → Int → List Int := upF G t x (G t x ++ [k])
def addL (G : Nat → Int → List Int) (t : Nat) (k : Int) : List Int → Nat → Int → List Int
  | [] => G
  | x :: l => addL (add1 G t k x) t k l
theorem addL_end (t : Nat) (k x : Int) : ∀ (l : List Int) (G : Nat → Int → List Int), addL G t k (l ++ [x]) = add1 (addL G t k l) t k x
  | [], G => rfl
  | y :: l, G => addL_end t k x l (add1 G t k y)
theorem addL_more {G : Nat → Int → List Int} {t : Nat} {k x : Int} {l : List Int} {j : Nat} (h : l[j]? = some x) : addL G t k (l.take (j + 1)) = add1 (addL G t k (l.take j)) t k x := by
  have e : l.take (j + 1) = l.take j ++ [x] := by rw [List.take_add_one, h]; rfl
  rw [e, addL_end]
theorem add1_mem {G : Nat → Int → List Int} {t t' : Nat} {k x x' y : Int} : y ∈ add1 G t k x t' x' ↔ y ∈ G t' x' ∨ (t' = t ∧ x' = x ∧ y = k) := by
  unfold add1 upF
  by_cases h : t' = t ∧ x' = x
  · rw [if_pos h, h.1, h.2]; simp
  · rw [if_neg h]
    constructor
    · exact .inl
    · rintro (h1 | ⟨h1, h2, _⟩)
      · exact h1
      · exact absurd ⟨h1, h2⟩ h
theorem add1_len (G : Nat → Int → List Int) (t t' : Nat) (k x x' : Int) : (add1 G t k x t' x').length ≤ (G t' x').length + 1 := by
  unfold add1 upF
  by_cases h : t' = t ∧ x' = x
  · rw [if_pos h, h.1, h.2]; simp
  · rw [if_neg h]; omega
theorem addL_mem {t t' : Nat} {k x' y : Int} : ∀ (l : List Int) (G : Nat → Int → List Int), y ∈ addL G t k l t' x' ↔ y ∈ G t' x' ∨ (t' = t ∧ x' ∈ l ∧ y = k)
  | [], G => by simp [addL]
  | x :: l, G => by
    rw [addL, addL_mem l, add1_mem, List.mem_cons]
    constructor
    · rintro ((h | ⟨h1, h2, h3⟩) | ⟨h1, h2, h3⟩)
      · exact .inl h
      · exact .inr ⟨h1, .inl h2, h3⟩
      · exact .inr ⟨h1, .inr h2, h3⟩
    · rintro (h | ⟨h1, h2 | h2, h3⟩)
      · exact .inl (.inl h)
      · exact .inl (.inr ⟨h1, h2, h3⟩)
      · exact .inr ⟨h1, h2, h3⟩
theorem addL_len (t t' : Nat) (k x' : Int) : ∀ (l : List Int) (G : Nat → Int → List Int), (addL G t k l t' x').length ≤ (G t' x').length + l.length
  | [], G => by simp [addL]
  | x :: l, G => by
    have h1 := addL_len t t' k x' l (add1 G t k x)
    have h2 := add1_len G t t' k x x'
    rw [addL, List.length_cons]
    omega
def pureL (i : Ins) : List Int := if pureI i = true then [i.dst] else []
def UG (c : List Ins) : Nat → Nat → Int → List Int
  | 0 => fun _ _ => []
  | k + 1 => match c[k]? with
    | some i => addL (addL (addL (UG c k) 0 k (next i k)) 1 k (uses i)) 2 k (pureL i)
    | none => UG c k
theorem ug_more {c : List Ins} {k : Nat} {i : Ins} (h : c[k]? = some i) : UG c (k + 1) = addL (addL (addL (UG c k) 0 k (next i k)) 1 k (uses i)) 2 k (pureL i) := by rw [UG, h]
def ofK (i : Ins) (p : Int) : Nat → List Int
  | 0 => next i p
  | 1 => uses i
  | 2 => pureL i
  | _ => []
theorem ug_mem {c : List Ins} {t : Nat} {x y : Int} (ht : t < 3) : ∀ k : Nat, k ≤ c.length → (y ∈ UG c k t x ↔ ∃ (p : Nat) (i : Ins), p < k ∧ c[p]? = some i ∧ y = (p : Int) ∧ x ∈ ofK i p t)
  | 0, _ => by simp [UG]
  | k + 1, hk => by
    obtain ⟨i, hi⟩ : ∃ i, c[k]? = some i := ⟨_, List.getElem?_eq_getElem (by omega)⟩
    rw [ug_more hi, addL_mem, addL_mem, addL_mem, ug_mem ht k (by omega)]
    have hk3 : x ∈ ofK i k t ↔ (t = 0 ∧ x ∈ next i k) ∨ (t = 1 ∧ x ∈ uses i) ∨ (t = 2 ∧ x ∈ pureL i) := by
      rcases (by omega : t = 0 ∨ t = 1 ∨ t = 2) with rfl | rfl | rfl <;> simp [ofK]
    constructor
    · rintro (((⟨p, j, h1, h2, h3, h4⟩ | ⟨h1, h2, h3⟩) | ⟨h1, h2, h3⟩) | ⟨h1, h2, h3⟩)
      · exact ⟨p, j, by omega, h2, h3, h4⟩
      · exact ⟨k, i, by omega, hi, h3, hk3.2 (.inl ⟨h1, h2⟩)⟩
      · exact ⟨k, i, by omega, hi, h3, hk3.2 (.inr (.inl ⟨h1, h2⟩))⟩
      · exact ⟨k, i, by omega, hi, h3, hk3.2 (.inr (.inr ⟨h1, h2⟩))⟩
    · rintro ⟨p, j, h1, h2, h3, h4⟩
      by_cases hp : p = k
      · subst hp
        rw [hi] at h2
        injection h2 with h2
        subst h2
        rcases hk3.1 h4 with ⟨e1, e2⟩ | ⟨e1, e2⟩ | ⟨e1, e2⟩
        · exact .inl (.inl (.inr ⟨e1, e2, h3⟩))
        · exact .inl (.inr ⟨e1, e2, h3⟩)
        · exact .inr ⟨e1, e2, h3⟩
      · exact .inl (.inl (.inl ⟨p, j, by omega, h2, h3, h4⟩))
theorem uses_len8 (i : Ins) : (uses i).length ≤ 8 := by
  have h1 : (if readsA i.kind then [i.a] else []).length ≤ 1 := by split <;> simp
  have h2 : (if readsB i.kind then [i.b] else []).length ≤ 1 := by split <;> simp
  have h3 : (if i.kind = 8 then i.args.take i.n.toNat else []).length ≤ 6 := by
    split
    · rw [List.length_take]; exact Nat.min_le_right _ _
    · simp
  unfold uses
  rw [List.length_append, List.length_append]
  omega
theorem next_len2 (i : Ins) (p : Int) : (next i p).length ≤ 2 := by unfold next; split <;> (try split) <;> (try split) <;> simp
theorem ug_len (c : List Ins) (t : Nat) (x : Int) : ∀ k : Nat, (UG c k t x).length ≤ 11 * k
  | 0 => by simp [UG]
  | k + 1 => by
    have h := ug_len c t x k
    cases hc : c[k]? with
    | some i =>
      rw [ug_more hc]
      have h1 := addL_len 0 t k x (next i k) (UG c k)
      have h2 := addL_len 1 t k x (uses i) (addL (UG c k) 0 k (next i k))
      have h3 := addL_len 2 t k x (pureL i) (addL (addL (UG c k) 0 k (next i k)) 1 k (uses i))
      have l1 := next_len2 i k
      have l2 := uses_len8 i
      have l3 : (pureL i).length ≤ 1 := by unfold pureL; split <;> simp
      omega
    | none =>
      have e : UG c (k + 1) = UG c k := by rw [UG, hc]
      rw [e]
      omega
def fromL (c : List Ins) : List (List Int) := (List.range c.length).map (fun x : Nat => UG c c.length 0 (x : Int))
theorem usIn_of (c : List Ins) : UsIn c (fromL c) (c.map Cd.sets) := by
  refine ⟨by simp [fromL], fun x p hx => ?_, rfl⟩
  have e : egs (fromL c) x = UG c c.length 0 x := by
    obtain ⟨n, rfl⟩ : ∃ n : Nat, x = (n : Int) := ⟨x.toNat, by unfold Inside at hx; omega⟩
    refine egs_at ?_
    unfold fromL
    rw [List.getElem?_map, Int.toNat_natCast, List.getElem?_range (by unfold Inside at hx; omega)]
    rfl
  rw [e, ug_mem (by omega) _ (Nat.le_refl _)]
  constructor
  · rintro ⟨q, i, h1, h2, rfl, h4⟩
    exact ⟨by unfold Inside; omega, by rw [nexts_at (by simpa using h2)]; exact h4⟩
  · rintro ⟨h1, h2⟩
    unfold Inside at h1
    obtain ⟨i, hi⟩ : ∃ i, c[p.toNat]? = some i := ⟨_, List.getElem?_eq_getElem (by omega)⟩
    rw [nexts_at hi] at h2
    exact ⟨p.toNat, i, by omega, hi, by omega, by rw [Int.toNat_of_nonneg h1.1]; exact h2⟩
theorem rdrs_of (c : List Ins) (r : Int) : Rdrs c none0 r (UG c c.length 1 r) := by
  intro x
  rw [ug_mem (by omega) _ (Nat.le_refl _)]
  constructor
  · rintro ⟨p, i, h1, h2, rfl, h4⟩
    exact ⟨by unfold Inside; omega, fun h => h, i, by simpa using h2, h4⟩
  · rintro ⟨h1, _, i, h2, h3⟩
    unfold Inside at h1
    exact ⟨x.toNat, i, by omega, h2, by omega, h3⟩
end Go.Proofs.Ytgnpbodhjmappaa.Cd
namespace Go.Proofs.Ytgnpbodhjmappaa
set_option maxRecDepth 100000
open Go.RowKit Cd Go.Maps
structure FamX (w : World) (lo : Nat) (V : Nat → Int → Value) (G : Nat → Int → List Int) : Prop where
  rows : ∀ (t : Nat) (x : Int), ∃ a c, V t x = .slice a (G t x).length c ∧ w.ownsRow lo 3 1 (.slice a (G t x).length c) (G t x).length (ints (G t x))
  apart : ∀ (t : Nat) (x : Int) (t' : Nat) (x' : Int) (g : Nat), ¬ (t' = t ∧ x' = x) → (V t x).ownBlock = some g → (V t' x').ownBlock ≠ some g
theorem FamX.at {w : World} {lo : Nat} {V : Nat → Int → Value} {G : Nat → Int → List Int} (h : FamX w lo V G) {t : Nat} {x : Int} {g : Nat} (hg : (V t x).ownBlock = some g) : lo ≤ g ∧ g < w.heap.size := by
  obtain ⟨a, c, h1, h2⟩ := h.rows t x
  rw [h1] at hg
  exact h2.lt g hg
theorem FamX.keep {w w' : World} {lo : Nat} {V : Nat → Int → Value} {G : Nat → Int → List Int} (h : FamX w lo V G) (hb : ∀ g, lo ≤ g → g < w.heap.size → w'.heap[g]? = w.heap[g]?) : FamX w' lo V G := by
  refine ⟨fun t x => ?_, h.apart⟩
  obtain ⟨a, c, h1, h2⟩ := h.rows t x
  exact ⟨a, c, h1, own_keep h2 (fun g hg => hb g (h2.lt g hg).1 (h2.lt g hg).2)⟩
theorem FamX.nil (w : World) (lo : Nat) : FamX w lo (fun _ _ => .slice none 0 0) (fun _ _ => []) :=
  ⟨fun t x => ⟨_, _, rfl, World.ownsRow_nil _ _ _ _⟩, fun t x t' x' g _ hg => by cases hg⟩
theorem FamX.put {w w3 : World} {lo : Nat} {V : Nat → Int → Value} {G : Nat → Int → List Int} {t : Nat} {x y : Int} {a : Option Addr} {c g3 cap3 : Nat} (h : FamX w lo V G) (hv : V t x = .slice a (G t x).length c)
    (hown : w3.ownsRow lo 3 1 (.slice (some ⟨g3, 0, none⟩) ((G t x).length + 1) cap3) ((G t x).length + 1) (ints (G t x) ++ [.int .i64 y])) (hk : ∀ g, g < w.heap.size → (Value.slice a (G t x).length c).ownBlock ≠ some g → w3.heap[g]? = w.heap[g]?) (hat : (Value.slice a (G t x).length c).ownBlock = some g3 ∨ w.heap.size ≤ g3) :
    FamX w3 lo (upF V t x (.slice (some ⟨g3, 0, none⟩) ((G t x).length + 1) cap3)) (add1 G t y x) := by
  have key : ∀ (t' : Nat) (x' : Int), ¬ (t' = t ∧ x' = x) → (V t' x').ownBlock ≠ some g3 := fun t' x' hn e => by
    rcases hat with h4 | h4
    · rw [← hv] at h4
      exact h.apart t x t' x' g3 hn h4 e
    · have := (h.at e).2; omega
  refine ⟨fun t' x' => ?_, fun t1 x1 t2 x2 g hn hg => ?_⟩
  · by_cases hx : t' = t ∧ x' = x
    · obtain ⟨rfl, rfl⟩ := hx
      refine ⟨some ⟨g3, 0, none⟩, cap3, ?_, ?_⟩
      · unfold add1; rw [upF_same, upF_same]; simp
      · unfold add1; rw [upF_same]
        simpa [ints] using hown
    · obtain ⟨a2, c2, h1, h2⟩ := h.rows t' x'
      refine ⟨a2, c2, ?_, ?_⟩
      · unfold add1; rw [upF_other _ _ hx, upF_other _ _ hx]; exact h1
      · unfold add1; rw [upF_other _ _ hx]
        refine own_keep h2 (fun g hg => hk g (h2.lt g hg).2 ?_)
        rw [← hv]
        exact h.apart t' x' t x g (fun e => hx ⟨e.1.symm, e.2.symm⟩) (by rw [h1]; exact hg)
  · by_cases h1 : t1 = t ∧ x1 = x
    · obtain ⟨rfl, rfl⟩ := h1
      rw [upF_same] at hg
      simp [Value.ownBlock] at hg
      subst hg
      rw [upF_other _ _ hn]
      exact key t2 x2 hn
    · rw [upF_other _ _ h1] at hg
      by_cases h2 : t2 = t ∧ x2 = x
      · obtain ⟨rfl, rfl⟩ := h2
        rw [upF_same]
        intro e
        simp [Value.ownBlock] at e
        subst e
        exact key t1 x1 h1 hg
      · rw [upF_other _ _ h2]
        exact h.apart t1 x1 t2 x2 g hn hg
def MapX (w : World) (mb m : Nat) (f : Int → Value) (R : Int → List Int) : Prop :=
  ∃ n ks, n ≤ m ∧ HdrAt w mb n f ks ∧ (∀ x, x ∈ ks ↔ R x ≠ []) ∧ (∀ x, x ∉ ks → f x = .slice none 0 0) ∧ ks.Nodup
theorem MapX.lt {w : World} {mb m : Nat} {f : Int → Value} {R : Int → List Int} (h : MapX w mb m f R) : mb < w.heap.size := by obtain ⟨n, ks, _, h, _⟩ := h; exact h.lt
theorem MapX.keep {w w' : World} {mb m : Nat} {f : Int → Value} {R : Int → List Int} (h : MapX w mb m f R) (hb : w'.heap[mb]? = w.heap[mb]?) : MapX w' mb m f R := by
  obtain ⟨n, ks, h1, h2, h3⟩ := h
  exact ⟨n, ks, h1, h2.keep hb, h3⟩
theorem MapX.made {w : World} {mb : Nat} (h : w.heap[mb]? = some (.map #[] 0)) : MapX w mb 0 (fun _ => .slice none 0 0) (fun _ => []) := by
  refine ⟨0, [], Nat.le_refl _, ⟨.map [], ?_, tidy_empty, fun x => rfl, fun x h => by cases h⟩, fun x => by simp, fun x _ => rfl, List.nodup_nil⟩
  exact ⟨#[], 0, h, ⟨by simp, Go.MapKept.stamped_empty 0, by simp⟩, Nat.le_refl _, rfl⟩
theorem MapX.look {w : World} {mb m : Nat} {f : Int → Value} {R : Int → List Int} (h : MapX w mb m f R) {x : Int} (hx : (Lit.int .i64 x).wf = true) : (Instr.lookup 54 (.map (some mb)) (.int .i64 x) false).run Try.prog w = .ok (f x) w := by
  obtain ⟨n, ks, _, h2, _, h4, _⟩ := h
  rw [h2.look hx]
  by_cases hk : ks.contains x = true
  · rw [if_pos hk]
  · rw [if_neg hk, h4 x (fun q => hk (List.contains_iff_mem.2 q))]
theorem MapX.store {w : World} {mb m : Nat} {f : Int → Value} {R : Int → List Int} (h : MapX w mb m f R) (hm : m < maxLen) {x : Int} (hx : (Lit.int .i64 x).wf = true) {a : Option Addr} {n c : Nat} (ha : a = none ∨ ∃ b off, a = some ⟨b, off, none⟩) :
    ∃ w', (Instr.mapUpdate 54 (.map (some mb)) (.int .i64 x) (.slice a n c)).run Try.prog w = .ok () w' ∧ w.mapTurned w' mb ∧ ∀ R' : Int → List Int, R' x ≠ [] → (∀ y, y ≠ x → R' y = R y) → MapX w' mb (m + 1) (fun y => if y = x then .slice a n c else f y) R' := by
  obtain ⟨k, ks, h1, ⟨D, g1, g2, g3, g4⟩, h3, h4, h5⟩ := h
  obtain ⟨d, hd⟩ := hdrE_at (n := n) (c := c) ha
  obtain ⟨w', r1, r2, r3⟩ := g1.store (t := 54) (e := 30) lawI Try.underlying54 (by omega) (keyI hx) hd
  refine ⟨w', r1, r3, fun R' hR1 hR2 => ⟨k + 1, if ks.contains x = true then ks else ks ++ [x], by omega, HdrAt.put (w := w) g2 g3 g4 hd r2, fun y => ?_, fun y hy => ?_, ?_⟩⟩
  · by_cases e : y = x
    · subst e
      constructor
      · intro _; exact hR1
      · intro _
        split
        · rename_i hk; exact List.contains_iff_mem.1 hk
        · simp
    · rw [hR2 y e, ← h3 y]
      split
      · rfl
      · simp [e]
  · have e : y ≠ x := fun e => hy (by
      subst e
      split
      · rename_i hk; exact List.contains_iff_mem.1 hk
      · simp)
    show (if y = x then Value.slice a n c else f y) = _
    rw [if_neg e]
    refine h4 y (fun hk => hy ?_)
    split
    · exact hk
    · simp [hk]
  · split
    · exact h5
    · rename_i hk
      rw [List.nodup_append]
      refine ⟨h5, by simp, fun u hu v hv => ?_⟩
      rw [List.mem_singleton] at hv
      subst hv
      exact fun e => hk (List.contains_iff_mem.2 (e ▸ hu))
theorem wpList_mapUpdate_run {w w' : World} {ops : Array Oper} {rest : List Oper} {o : Oper} {a : Act} {Q : Exit → Act → World → Prop} (hgd : o.guard = none) (m x v : Operand) (t : TypeId) (hop : o.op = Op.mapUpdate t m x v) (vm vx vv : Value) (hm : a.eval m = vm) (hx : a.eval x = vx) (hv : a.eval v = vv) (hrun : (Instr.mapUpdate t vm vx vv).run Try.prog w = .ok () w')
    (h : wpList Try.prog ops Q rest (a.put o.dst undef) w') : wpList Try.prog ops Q (o :: rest) a w := by
  refine wpList_plain hgd fun K hK => ?_
  unfold Oper.wp
  simp [execOp, hop, hm, hx, hv, hrun, Result.andThen]
  exact hK _ _ h
end Go.Proofs.Ytgnpbodhjmappaa
namespace Go.Proofs.Ytgnpbodhjmappaa
set_option maxRecDepth 100000
open Go.RowKit Cd Go.Maps
def MadeU (N n : Nat) (b : Nat → Nat) (w : World) : Prop :=
  (∀ k l, k < 6 → l < 6 → k ≠ l → b k ≠ b l) ∧ (∀ k, k < 6 → N ≤ b k) ∧ w.heap[b 0]? = some (rObj (List.replicate n (.slice none 0 0))) ∧ w.heap[b 1]? = some (iObj (List.replicate n 0)) ∧ w.heap[b 2]? = some (.map #[] 0) ∧ w.heap[b 3]? = some (.map #[] 0) ∧ w.heap[b 4]? = some (bObj (List.replicate n false)) ∧
    w.heap[b 5]? = some (usO (some ⟨b 0, 0, none⟩) n n (some ⟨b 1, 0, none⟩) n n (b 2) (b 3) (some ⟨b 4, 0, none⟩) n n)
structure USt (w : World) (N lo n m : Nat) (b : Nat → Nat) (V : Nat → Int → Value) (G : Nat → Int → List Int) (S : List Int) : Prop where
  fam : FamX w lo V G
  rows : VRow w (b 0) 30 ((List.range n).map (fun i : Nat => V 0 (i : Int)))
  sets : IRow w (b 1) S
  slen : S.length = n
  read : MapX w (b 2) m (V 1) (G 1)
  pure : MapX w (b 3) m (V 2) (G 2)
  gone : VRow w (b 4) 4 (bools (List.replicate n false))
  box : w.heap[b 5]? = some (usO (some ⟨b 0, 0, none⟩) n n (some ⟨b 1, 0, none⟩) n n (b 2) (b 3) (some ⟨b 4, 0, none⟩) n n)
  place : ∀ k, k < 6 → N ≤ b k ∧ b k < lo
  ne : ∀ k l, k < 6 → l < 6 → k ≠ l → b k ≠ b l
section
variable {w w3 w4 : World} {N lo n m : Nat} {b : Nat → Nat} {V : Nat → Int → Value} {G : Nat → Int → List Int} {S : List Int}
theorem USt.made (h : MadeU N n b w) : USt w N w.heap.size n 0 b (fun _ _ => .slice none 0 0) (fun _ _ => []) (List.replicate n 0) := by
  obtain ⟨h1, h2, h3, h4, h5, h6, h7, h8⟩ := h
  refine ⟨FamX.nil _ _, ?_, h4, by simp, MapX.made h5, MapX.made h6, h7, h8, fun k hk => ⟨h2 k hk, ?_⟩, h1⟩
  · have e : (List.range n).map (fun i : Nat => (Value.slice none 0 0)) = List.replicate n (.slice none 0 0) := by rw [List.map_const', List.length_range]
    rw [e]
    exact h3
  · rcases (by omega : k = 0 ∨ k = 1 ∨ k = 2 ∨ k = 3 ∨ k = 4 ∨ k = 5) with rfl | rfl | rfl | rfl | rfl | rfl
    · exact lt_heap h3
    · exact lt_heap h4
    · exact lt_heap h5
    · exact lt_heap h6
    · exact lt_heap h7
    · exact lt_heap h8
theorem USt.keep (h : USt w N lo n m b V G S) (hN : N ≤ lo) (hb : ∀ g, N ≤ g → g < w.heap.size → w3.heap[g]? = w.heap[g]?) : USt w3 N lo n m b V G S :=
  ⟨h.fam.keep (fun g hg hl => hb g (by omega) hl), h.rows.keep (hb _ (h.place 0 (by omega)).1 h.rows.lt), VRow.keep h.sets (hb _ (h.place 1 (by omega)).1 (VRow.lt h.sets)), h.slen,
    h.read.keep (hb _ (h.place 2 (by omega)).1 h.read.lt), h.pure.keep (hb _ (h.place 3 (by omega)).1 h.pure.lt), h.gone.keep (hb _ (h.place 4 (by omega)).1 h.gone.lt), (hb _ (h.place 5 (by omega)).1 (lt_heap h.box)).trans h.box, h.place, h.ne⟩
theorem USt.below (h : USt w N lo n m b V G S) (hN : N ≤ lo) (hb : Below w.heap.size w w3) : USt w3 N lo n m b V G S := h.keep hN (fun g _ hg => hb.block g hg)
theorem USt.old (h : USt w N lo n m b V G S) {t : Nat} {x : Int} {a : Option Addr} {c : Nat} (hv : V t x = .slice a (G t x).length c) (hk : ∀ g, g < w.heap.size → (Value.slice a (G t x).length c).ownBlock ≠ some g → w3.heap[g]? = w.heap[g]?) {k : Nat} (hk6 : k < 6) (hs : b k < w.heap.size) : w3.heap[b k]? = w.heap[b k]? :=
  hk _ hs (fun e => by rw [← hv] at e; have := (h.fam.at e).1; have := (h.place k hk6).2; omega)
theorem USt.from_put {i : Nat} {y : Int} {a : Option Addr} {c g3 cap3 : Nat} (h : USt w N lo n m b V G S) (hi : i < n) (hv : V 0 (i : Int) = .slice a (G 0 (i : Int)).length c)
    (hown : w3.ownsRow lo 3 1 (.slice (some ⟨g3, 0, none⟩) ((G 0 (i : Int)).length + 1) cap3) ((G 0 (i : Int)).length + 1) (ints (G 0 (i : Int)) ++ [.int .i64 y])) (hk : ∀ g, g < w.heap.size → (Value.slice a (G 0 (i : Int)).length c).ownBlock ≠ some g → w3.heap[g]? = w.heap[g]?) (hat : (Value.slice a (G 0 (i : Int)).length c).ownBlock = some g3 ∨ w.heap.size ≤ g3) :
    USt (w3.setCell ⟨b 0, i, none⟩ (.slice (some ⟨g3, 0, none⟩) ((G 0 (i : Int)).length + 1) cap3)) N lo n m b (upF V 0 (i : Int) (.slice (some ⟨g3, 0, none⟩) ((G 0 (i : Int)).length + 1) cap3)) (add1 G 0 y (i : Int)) S := by
  have hoth : ∀ g, g ≠ b 0 → (w3.setCell ⟨b 0, i, none⟩ (.slice (some ⟨g3, 0, none⟩) ((G 0 (i : Int)).length + 1) cap3)).heap[g]? = w3.heap[g]? := fun g hg => Below.heap_setCell _ _ _ _ hg
  have old : ∀ k, k < 6 → k ≠ 0 → b k < w.heap.size → (w3.setCell ⟨b 0, i, none⟩ (.slice (some ⟨g3, 0, none⟩) ((G 0 (i : Int)).length + 1) cap3)).heap[b k]? = w.heap[b k]? := fun k hk6 hk0 hs => (hoth _ (h.ne k 0 hk6 (by omega) hk0)).trans (h.old hv hk hk6 hs)
  refine ⟨(h.fam.put hv hown hk hat).keep (fun g hg _ => hoth g (by have := (h.place 0 (by omega)).2; omega)), ?_, VRow.keep h.sets (old 1 (by omega) (by omega) (VRow.lt h.sets)), h.slen, ?_, ?_, h.gone.keep (old 4 (by omega) (by omega) h.gone.lt), (old 5 (by omega) (by omega) (lt_heap h.box)).trans h.box, h.place, h.ne⟩
  · have hr := (h.rows.keep (h.old hv hk (k := 0) (by omega) h.rows.lt)).set i (.slice (some ⟨g3, 0, none⟩) ((G 0 (i : Int)).length + 1) cap3)
    have e : ((List.range n).map (fun i : Nat => V 0 (i : Int))).set i (.slice (some ⟨g3, 0, none⟩) ((G 0 (i : Int)).length + 1) cap3) = (List.range n).map (fun j : Nat => upF V 0 (i : Int) (.slice (some ⟨g3, 0, none⟩) ((G 0 (i : Int)).length + 1) cap3) 0 (j : Int)) := by
      apply List.ext_getElem?
      intro j
      by_cases hij : i = j
      · subst hij
        rw [List.getElem?_set_self (by simpa using hi), List.getElem?_map, List.getElem?_range hi, Option.map_some, upF_same]
      · rw [List.getElem?_set_ne hij, List.getElem?_map, List.getElem?_map]
        by_cases hj : j < n
        · rw [List.getElem?_range hj, Option.map_some, Option.map_some, upF_other _ _ (fun e => hij (by have := e.2; omega))]
        · rw [List.getElem?_eq_none (by simpa using Nat.le_of_not_lt hj)]; rfl
    rw [e] at hr
    exact hr
  · unfold add1
    rw [upF_kind _ _ _ (by decide : (1 : Nat) ≠ 0), upF_kind _ _ _ (by decide : (1 : Nat) ≠ 0)]
    exact h.read.keep (old 2 (by omega) (by omega) h.read.lt)
  · unfold add1
    rw [upF_kind _ _ _ (by decide : (2 : Nat) ≠ 0), upF_kind _ _ _ (by decide : (2 : Nat) ≠ 0)]
    exact h.pure.keep (old 3 (by omega) (by omega) h.pure.lt)
theorem USt.set_put (h : USt w N lo n m b V G S) (i : Nat) (x : Int) : USt (w.setCell ⟨b 1, i, none⟩ (.int .i64 x)) N lo n m b V G (S.set i x) := by
  have hoth : ∀ g, g ≠ b 1 → (w.setCell ⟨b 1, i, none⟩ (.int .i64 x)).heap[g]? = w.heap[g]? := fun g hg => Below.heap_setCell _ _ _ _ hg
  have old : ∀ k, k < 6 → k ≠ 1 → (w.setCell ⟨b 1, i, none⟩ (.int .i64 x)).heap[b k]? = w.heap[b k]? := fun k hk6 hk0 => hoth _ (h.ne k 1 hk6 (by omega) hk0)
  exact ⟨h.fam.keep (fun g hg _ => hoth g (by have := (h.place 1 (by omega)).2; omega)), h.rows.keep (old 0 (by omega) (by omega)), IRow.set h.sets i x, by rw [List.length_set]; exact h.slen, h.read.keep (old 2 (by omega) (by omega)), h.pure.keep (old 3 (by omega) (by omega)), h.gone.keep (old 4 (by omega) (by omega)), (old 5 (by omega) (by omega)).trans h.box, h.place, h.ne⟩
theorem MapX.mono {mb m m' : Nat} {f : Int → Value} {R : Int → List Int} (h : MapX w mb m f R) (hm : m ≤ m') : MapX w mb m' f R := by
  obtain ⟨k, ks, h1, h2⟩ := h
  exact ⟨k, ks, by omega, h2⟩
theorem USt.mono {m' : Nat} (h : USt w N lo n m b V G S) (hm : m ≤ m') : USt w N lo n m' b V G S := { h with read := h.read.mono hm, pure := h.pure.mono hm }
theorem USt.read_put {x y : Int} {a : Option Addr} {c g3 cap3 : Nat} (h : USt w N lo n m b V G S) (hv : V 1 x = .slice a (G 1 x).length c)
    (hown : w3.ownsRow lo 3 1 (.slice (some ⟨g3, 0, none⟩) ((G 1 x).length + 1) cap3) ((G 1 x).length + 1) (ints (G 1 x) ++ [.int .i64 y])) (hk : ∀ g, g < w.heap.size → (Value.slice a (G 1 x).length c).ownBlock ≠ some g → w3.heap[g]? = w.heap[g]?) (hat : (Value.slice a (G 1 x).length c).ownBlock = some g3 ∨ w.heap.size ≤ g3) (hs3 : w.heap.size ≤ w3.heap.size)
    (ht : w3.mapTurned w4 (b 2)) (hM : ∀ R' : Int → List Int, R' x ≠ [] → (∀ y, y ≠ x → R' y = G 1 y) → MapX w4 (b 2) (m + 1) (fun y => if y = x then .slice (some ⟨g3, 0, none⟩) ((G 1 x).length + 1) cap3 else V 1 y) R') :
    USt w4 N lo n (m + 1) b (upF V 1 x (.slice (some ⟨g3, 0, none⟩) ((G 1 x).length + 1) cap3)) (add1 G 1 y x) S := by
  have hoth : ∀ g, g < w3.heap.size → g ≠ b 2 → w4.heap[g]? = w3.heap[g]? := fun g h1 h2 => ht.grown.block g h1 (fun e => h2 (by injection e with e))
  have old : ∀ k, k < 6 → k ≠ 2 → b k < w.heap.size → w4.heap[b k]? = w.heap[b k]? := fun k hk6 hk0 hs => (hoth _ (by omega) (h.ne k 2 hk6 (by omega) hk0)).trans (h.old hv hk hk6 hs)
  have h0 : (add1 G 1 y x) 0 = G 0 := upF_kind _ _ _ (by decide)
  have h2 : (add1 G 1 y x) 2 = G 2 := upF_kind _ _ _ (by decide)
  refine ⟨(h.fam.put hv hown hk hat).keep (fun g hg hl => hoth g hl (by have := (h.place 2 (by omega)).2; omega)), ?_, VRow.keep h.sets (old 1 (by omega) (by omega) (VRow.lt h.sets)), h.slen, ?_, ?_, h.gone.keep (old 4 (by omega) (by omega) h.gone.lt), (old 5 (by omega) (by omega) (lt_heap h.box)).trans h.box, h.place, h.ne⟩
  · rw [upF_kind _ _ _ (by decide : (0 : Nat) ≠ 1)]
    exact h.rows.keep (old 0 (by omega) (by omega) h.rows.lt)
  · rw [upF_at]
    refine hM _ ?_ (fun z hz => ?_)
    · unfold add1; rw [upF_same]; simp
    · unfold add1; rw [upF_other _ _ (fun e => hz e.2)]
  · rw [upF_kind _ _ _ (by decide : (2 : Nat) ≠ 1), h2]
    exact (h.pure.keep (old 3 (by omega) (by omega) h.pure.lt)).mono (by omega)
theorem USt.pure_put {x y : Int} {a : Option Addr} {c g3 cap3 : Nat} (h : USt w N lo n m b V G S) (hv : V 2 x = .slice a (G 2 x).length c)
    (hown : w3.ownsRow lo 3 1 (.slice (some ⟨g3, 0, none⟩) ((G 2 x).length + 1) cap3) ((G 2 x).length + 1) (ints (G 2 x) ++ [.int .i64 y])) (hk : ∀ g, g < w.heap.size → (Value.slice a (G 2 x).length c).ownBlock ≠ some g → w3.heap[g]? = w.heap[g]?) (hat : (Value.slice a (G 2 x).length c).ownBlock = some g3 ∨ w.heap.size ≤ g3) (hs3 : w.heap.size ≤ w3.heap.size)
    (ht : w3.mapTurned w4 (b 3)) (hM : ∀ R' : Int → List Int, R' x ≠ [] → (∀ y, y ≠ x → R' y = G 2 y) → MapX w4 (b 3) (m + 1) (fun y => if y = x then .slice (some ⟨g3, 0, none⟩) ((G 2 x).length + 1) cap3 else V 2 y) R') :
    USt w4 N lo n (m + 1) b (upF V 2 x (.slice (some ⟨g3, 0, none⟩) ((G 2 x).length + 1) cap3)) (add1 G 2 y x) S := by
  have hoth : ∀ g, g < w3.heap.size → g ≠ b 3 → w4.heap[g]? = w3.heap[g]? := fun g h1 h2 => ht.grown.block g h1 (fun e => h2 (by injection e with e))
  have old : ∀ k, k < 6 → k ≠ 3 → b k < w.heap.size → w4.heap[b k]? = w.heap[b k]? := fun k hk6 hk0 hs => (hoth _ (by omega) (h.ne k 3 hk6 (by omega) hk0)).trans (h.old hv hk hk6 hs)
  have h1 : (add1 G 2 y x) 1 = G 1 := upF_kind _ _ _ (by decide)
  refine ⟨(h.fam.put hv hown hk hat).keep (fun g hg hl => hoth g hl (by have := (h.place 3 (by omega)).2; omega)), ?_, VRow.keep h.sets (old 1 (by omega) (by omega) (VRow.lt h.sets)), h.slen, ?_, ?_, h.gone.keep (old 4 (by omega) (by omega) h.gone.lt), (old 5 (by omega) (by omega) (lt_heap h.box)).trans h.box, h.place, h.ne⟩
  · rw [upF_kind _ _ _ (by decide : (0 : Nat) ≠ 2)]
    exact h.rows.keep (old 0 (by omega) (by omega) h.rows.lt)
  · rw [upF_kind _ _ _ (by decide : (1 : Nat) ≠ 2), h1]
    exact (h.read.keep (old 2 (by omega) (by omega) h.read.lt)).mono (by omega)
  · rw [upF_at]
    refine hM _ ?_ (fun z hz => ?_)
    · unfold add1; rw [upF_same]; simp
    · unfold add1; rw [upF_other _ _ (fun e => hz e.2)]
end
theorem USt.lt {w : World} {N lo n m : Nat} {b : Nat → Nat} {V : Nat → Int → Value} {G : Nat → Int → List Int} {S : List Int} (h : USt w N lo n m b V G S) {k : Nat} (hk : k < 6) : b k < w.heap.size := by
  rcases (by omega : k = 0 ∨ k = 1 ∨ k = 2 ∨ k = 3 ∨ k = 4 ∨ k = 5) with rfl | rfl | rfl | rfl | rfl | rfl
  · exact h.rows.lt
  · exact VRow.lt h.sets
  · exact h.read.lt
  · exact h.pure.lt
  · exact h.gone.lt
  · exact lt_heap h.box
theorem USt.from_r {w w3 : World} {N lo n m : Nat} {b : Nat → Nat} {V : Nat → Int → Value} {G : Nat → Int → List Int} {S r : List Int} {i : Nat} {y : Int} {a : Option Addr} {c g3 cap3 : Nat} (h : USt w N lo n m b V G S) (hi : i < n) (hr : G 0 (i : Int) = r) (hv : V 0 (i : Int) = .slice a r.length c)
    (hown : w3.ownsRow lo 3 1 (.slice (some ⟨g3, 0, none⟩) (r.length + 1) cap3) (r.length + 1) (ints r ++ [.int .i64 y])) (hk : ∀ g, g < w.heap.size → (Value.slice a r.length c).ownBlock ≠ some g → w3.heap[g]? = w.heap[g]?) (hat : (Value.slice a r.length c).ownBlock = some g3 ∨ w.heap.size ≤ g3) :
    USt (w3.setCell ⟨b 0, i, none⟩ (.slice (some ⟨g3, 0, none⟩) (r.length + 1) cap3)) N lo n m b (upF V 0 (i : Int) (.slice (some ⟨g3, 0, none⟩) (r.length + 1) cap3)) (add1 G 0 y (i : Int)) S := by
  subst hr; exact h.from_put hi hv hown hk hat
theorem USt.read_r {w w3 w4 : World} {N lo n m : Nat} {b : Nat → Nat} {V : Nat → Int → Value} {G : Nat → Int → List Int} {S r : List Int} {x y : Int} {a : Option Addr} {c g3 cap3 : Nat} (h : USt w N lo n m b V G S) (hr : G 1 x = r) (hv : V 1 x = .slice a r.length c)
    (hown : w3.ownsRow lo 3 1 (.slice (some ⟨g3, 0, none⟩) (r.length + 1) cap3) (r.length + 1) (ints r ++ [.int .i64 y])) (hk : ∀ g, g < w.heap.size → (Value.slice a r.length c).ownBlock ≠ some g → w3.heap[g]? = w.heap[g]?) (hat : (Value.slice a r.length c).ownBlock = some g3 ∨ w.heap.size ≤ g3) (hs3 : w.heap.size ≤ w3.heap.size)
    (ht : w3.mapTurned w4 (b 2)) (hM : ∀ R' : Int → List Int, R' x ≠ [] → (∀ y, y ≠ x → R' y = G 1 y) → MapX w4 (b 2) (m + 1) (fun y => if y = x then .slice (some ⟨g3, 0, none⟩) (r.length + 1) cap3 else V 1 y) R') :
    USt w4 N lo n (m + 1) b (upF V 1 x (.slice (some ⟨g3, 0, none⟩) (r.length + 1) cap3)) (add1 G 1 y x) S := by
  subst hr; exact h.read_put hv hown hk hat hs3 ht hM
theorem USt.pure_r {w w3 w4 : World} {N lo n m : Nat} {b : Nat → Nat} {V : Nat → Int → Value} {G : Nat → Int → List Int} {S r : List Int} {x y : Int} {a : Option Addr} {c g3 cap3 : Nat} (h : USt w N lo n m b V G S) (hr : G 2 x = r) (hv : V 2 x = .slice a r.length c)
    (hown : w3.ownsRow lo 3 1 (.slice (some ⟨g3, 0, none⟩) (r.length + 1) cap3) (r.length + 1) (ints r ++ [.int .i64 y])) (hk : ∀ g, g < w.heap.size → (Value.slice a r.length c).ownBlock ≠ some g → w3.heap[g]? = w.heap[g]?) (hat : (Value.slice a r.length c).ownBlock = some g3 ∨ w.heap.size ≤ g3) (hs3 : w.heap.size ≤ w3.heap.size)
    (ht : w3.mapTurned w4 (b 3)) (hM : ∀ R' : Int → List Int, R' x ≠ [] → (∀ y, y ≠ x → R' y = G 2 y) → MapX w4 (b 3) (m + 1) (fun y => if y = x then .slice (some ⟨g3, 0, none⟩) (r.length + 1) cap3 else V 2 y) R') :
    USt w4 N lo n (m + 1) b (upF V 2 x (.slice (some ⟨g3, 0, none⟩) (r.length + 1) cap3)) (add1 G 2 y x) S := by
  subst hr; exact h.pure_put hv hown hk hat hs3 ht hM
structure Mv (b : Nat → Nat) (V0 : Nat → Int → Value) (w0 : World) (V : Nat → Int → Value) (w : World) : Prop where
  size : w0.heap.size ≤ w.heap.size
  kept : ∀ g, g < w0.heap.size → (∀ t x, (V0 t x).ownBlock ≠ some g) → (∀ k, k < 6 → g ≠ b k) → w.heap[g]? = w0.heap[g]?
  own : ∀ t x g, (V t x).ownBlock = some g → (∃ t' x', (V0 t' x').ownBlock = some g) ∨ w0.heap.size ≤ g
theorem Mv.refl (b : Nat → Nat) (V : Nat → Int → Value) (w : World) : Mv b V w V w := ⟨Nat.le_refl _, fun _ _ _ _ => rfl, fun t x g h => .inl ⟨t, x, h⟩⟩
theorem Mv.below {b : Nat → Nat} {V0 V : Nat → Int → Value} {w0 w w' : World} (h : Mv b V0 w0 V w) (hb : Below w.heap.size w w') : Mv b V0 w0 V w' :=
  ⟨Nat.le_trans h.size hb.size, fun g h1 h2 h3 => (hb.block g (Nat.lt_of_lt_of_le h1 h.size)).trans (h.kept g h1 h2 h3), h.own⟩
theorem Mv.grow {b : Nat → Nat} {V0 V : Nat → Int → Value} {w0 w w3 w4 : World} (h : Mv b V0 w0 V w) {t : Nat} {x : Int} {v : Value} {g3 n3 cap3 : Nat} (hv : V t x = v) (hk : ∀ g, g < w.heap.size → v.ownBlock ≠ some g → w3.heap[g]? = w.heap[g]?) (hat : v.ownBlock = some g3 ∨ w.heap.size ≤ g3) (hs : w.heap.size ≤ w3.heap.size)
    (hs4 : w3.heap.size ≤ w4.heap.size) (h4 : ∀ g, g < w3.heap.size → (∀ k, k < 6 → g ≠ b k) → w4.heap[g]? = w3.heap[g]?) : Mv b V0 w0 (upF V t x (.slice (some ⟨g3, 0, none⟩) n3 cap3)) w4 := by
  have hsz := h.size
  refine ⟨by omega, fun g h1 h2 h3 => ?_, fun t' x' g hg => ?_⟩
  · have hne : v.ownBlock ≠ some g := fun e => by
      rw [← hv] at e
      rcases h.own t x g e with ⟨t', x', e'⟩ | e'
      · exact h2 t' x' e'
      · omega
    exact (h4 g (by omega) h3).trans ((hk g (by omega) hne).trans (h.kept g h1 h2 h3))
  · by_cases hx : t' = t ∧ x' = x
    · obtain ⟨rfl, rfl⟩ := hx
      rw [upF_same] at hg
      simp [Value.ownBlock] at hg
      subst hg
      rcases hat with e | e
      · rw [← hv] at e; exact h.own _ _ _ e
      · right; omega
    · rw [upF_other _ _ hx] at hg
      exact h.own _ _ _ hg
theorem set_sets {code : List Ins} {k : Nat} {x : Ins} (h : code[k]? = some x) : (((code.take k).map Cd.sets) ++ List.replicate (code.length - k) (0 : Int)).set k (Cd.sets x) = ((code.take (k + 1)).map Cd.sets) ++ List.replicate (code.length - (k + 1)) 0 := by
  have hlt := (List.getElem?_eq_some_iff.1 h).1
  have hl : ((code.take k).map Cd.sets).length = k := by rw [List.length_map, List.length_take]; omega
  rw [List.set_append_right _ _ (by omega), hl, Nat.sub_self, List.take_add_one, h, List.map_append, List.append_assoc]
  congr 1
  obtain ⟨q, hq⟩ : ∃ q, code.length - k = q + 1 := ⟨code.length - k - 1, by omega⟩
  have hq2 : code.length - (k + 1) = q := by omega
  rw [hq, hq2, List.replicate_succ]
  rfl
end Go.Proofs.Ytgnpbodhjmappaa
namespace Go.Proofs.Ytgnpbodhjmappaa
set_option maxRecDepth 100000
open Go.RowKit Cd Go.Maps
structure UsW (w : World) (lo : Nat) (c : List Ins) (m : Nat) (b : Nat → Nat) (V : Nat → Int → Value) (gone : List Bool) : Prop where
  fam : FamX w lo V (UG c c.length)
  rows : VRow w (b 0) 30 ((List.range c.length).map (fun i : Nat => V 0 (i : Int)))
  sets : IRow w (b 1) (c.map Cd.sets)
  read : MapX w (b 2) m (V 1) (UG c c.length 1)
  pure : MapX w (b 3) m (V 2) (UG c c.length 2)
  gon : VRow w (b 4) 4 (bools gone)
  gl : gone.length = c.length
  place : ∀ k, k < 5 → b k < lo
  ne : ∀ k, k < 4 → b k ≠ b 4
  hlt : ∀ k, k < 5 → b k < w.heap.size
section
variable {w w3 : World} {lo m : Nat} {c : List Ins} {b : Nat → Nat} {V : Nat → Int → Value} {gone : List Bool}
theorem UsW.of {N : Nat} (h : USt w N lo c.length m b V (UG c c.length) (c.map Cd.sets)) : UsW w lo c m b V (List.replicate c.length false) :=
  ⟨h.fam, h.rows, h.sets, h.read, h.pure, h.gone, by simp, fun k hk => (h.place k (by omega)).2, fun k hk => h.ne k 4 (by omega) (by omega) (by omega), fun k hk => h.lt (by omega)⟩
theorem UsW.lt (h : UsW w lo c m b V gone) {k : Nat} (hk : k < 5) : b k < w.heap.size := h.hlt k hk
theorem UsW.keep (h : UsW w lo c m b V gone) (hs : w.heap.size ≤ w3.heap.size) (hb : ∀ g, g < w.heap.size → (lo ≤ g ∨ ∃ k, k < 5 ∧ g = b k) → w3.heap[g]? = w.heap[g]?) : UsW w3 lo c m b V gone :=
  ⟨h.fam.keep (fun g h1 h2 => hb g h2 (.inl h1)), h.rows.keep (hb _ (h.lt (by omega)) (.inr ⟨0, by omega, rfl⟩)), VRow.keep h.sets (hb _ (h.lt (by omega)) (.inr ⟨1, by omega, rfl⟩)), h.read.keep (hb _ (h.lt (by omega)) (.inr ⟨2, by omega, rfl⟩)), h.pure.keep (hb _ (h.lt (by omega)) (.inr ⟨3, by omega, rfl⟩)), h.gon.keep (hb _ (h.lt (by omega)) (.inr ⟨4, by omega, rfl⟩)), h.gl, h.place, h.ne, fun k hk => Nat.lt_of_lt_of_le (h.hlt k hk) hs⟩
theorem UsW.below (h : UsW w lo c m b V gone) (hb : Below w.heap.size w w3) : UsW w3 lo c m b V gone := h.keep hb.size (fun g hg _ => hb.block g hg)
theorem UsW.put (h : UsW w lo c m b V gone) (i : Nat) (v : Bool) : UsW (w.setCell ⟨b 4, i, none⟩ (.bool v)) lo c m b V (gone.set i v) := by
  have ho : ∀ g, g ≠ b 4 → (w.setCell ⟨b 4, i, none⟩ (.bool v)).heap[g]? = w.heap[g]? := fun g hg => Below.heap_setCell _ _ _ _ (by simpa using hg)
  have hr := h.gon.set i (.bool v)
  have e : (bools gone).set i (.bool v) = bools (gone.set i v) := by simp [bools, List.map_set]
  rw [e] at hr
  exact ⟨h.fam.keep (fun g h1 _ => ho g (by have := h.place 4 (by omega); omega)), h.rows.keep (ho _ (h.ne 0 (by omega))), VRow.keep h.sets (ho _ (h.ne 1 (by omega))), h.read.keep (ho _ (h.ne 2 (by omega))), h.pure.keep (ho _ (h.ne 3 (by omega))), hr, by rw [List.length_set]; exact h.gl, h.place, h.ne, fun k hk => by simpa [World.setCell] using h.hlt k hk⟩
theorem VRow.rowAt {w : World} {g : Nat} {t : TypeId} {vs : List Value} (h : VRow w g t vs) : RowAt w w.heap.size (some ⟨g, 0, none⟩) vs := fun _ => ⟨g, 0, rfl, lt_heap h, Nat.le_refl _, fun j u hu => by rw [Nat.zero_add]; exact VRow.cell h hu⟩
theorem own_cap {lo n c : Nat} {a : Option Addr} {l : List Int} (h : w.ownsRow lo 3 1 (.slice a n c) n (ints l)) : n ≤ c ∧ c ≤ maxLen := by
  rcases h.2 with ⟨e, h5⟩ | ⟨g, cap, cur, e, _, _, h8, h9, _⟩
  · injection e with _ e1 e2
    subst e2
    exact ⟨by omega, by unfold maxLen; omega⟩
  · injection e with _ _ e2
    subst e2
    exact ⟨h8, h9⟩
theorem MapX.rd {lo : Nat} {t : Nat} {G : Nat → Int → List Int} {mb : Nat} (hf : FamX w lo V G) (h : MapX w mb m (V t) (G t)) : ∃ ks, RdM w w.heap.size mb (G t) ks ∧ (∀ x, x ∈ ks ↔ G t x ≠ []) ∧ ks.Nodup := by
  obtain ⟨n, ks, h1, h2, h3, h4, h5⟩ := h
  refine ⟨ks, ⟨h2.lt, n, V t, h2, fun x hx => ?_, fun x hx => ?_⟩, h3, h5⟩
  · obtain ⟨a, c, e1, e2⟩ := hf.rows t x
    exact ⟨a, c, e1, LiesIn.row (LiesIn.of_own e2)⟩
  · exact Classical.byContradiction fun hn => hx ((h3 x).2 hn)
theorem UsW.at (h : UsW w lo c m b V gone) : ∃ rk pk, UsAt w w.heap.size c.length (fromL c) (c.map Cd.sets) gone (UG c c.length 1) (UG c c.length 2) rk pk (some ⟨b 0, 0, none⟩) (some ⟨b 1, 0, none⟩) (some ⟨b 4, 0, none⟩) (b 2) (b 3) := by
  obtain ⟨rk, h1, _⟩ := MapX.rd h.fam h.read
  obtain ⟨pk, h2, _⟩ := MapX.rd h.fam h.pure
  refine ⟨rk, pk, ⟨⟨_, by simp [fromL], h.rows.rowAt, fun i l hi => ?_⟩, VRow.rowAt h.sets, h.gon.rowAt, h1, h2⟩⟩
  unfold fromL at hi
  rw [List.getElem?_map] at hi
  have hil : i < c.length := by
    rcases Nat.lt_or_ge i c.length with h0 | h0
    · exact h0
    · rw [List.getElem?_eq_none (by simpa using h0)] at hi; cases hi
  rw [List.getElem?_range hil] at hi
  injection hi with hi
  subst hi
  obtain ⟨a, cc, e1, e2⟩ := h.fam.rows 0 (i : Int)
  have := own_cap e2
  exact ⟨a, cc, by rw [List.getElem?_map, List.getElem?_range hil, Option.map_some, e1], LiesIn.row (LiesIn.of_own e2), this.1, this.2⟩
theorem ug_in {t : Nat} (ht : t < 3) {x y : Int} (hy : y ∈ UG c c.length t x) : 0 ≤ y ∧ y < (c.length : Int) := by
  obtain ⟨p, i, h1, _, rfl, _⟩ := (ug_mem ht _ (Nat.le_refl _)).1 hy
  omega
theorem usOk_of (hl : c.length ≤ 8192) (hg : gone.length = c.length) : UsOk c.length (fromL c) (c.map Cd.sets) gone (UG c c.length 1) (UG c c.length 2) := by
  have hlen : ∀ t x, (UG c c.length t x).length ≤ 100000 := fun t x => by have := ug_len c t x c.length; omega
  refine ⟨by simp [fromL], by simp, hg, by omega, fun l hl y hy => ?_, fun l hl => ?_, fun r => ⟨hlen 1 r, fun x hx => ug_in (by omega) hx⟩, fun r => ⟨hlen 2 r, fun x hx => ug_in (by omega) hx⟩⟩
  · unfold fromL at hl
    obtain ⟨n, _, rfl⟩ := List.mem_map.1 hl
    have := ug_in (by omega) hy
    simpa [fromL] using this
  · unfold fromL at hl
    obtain ⟨n, _, rfl⟩ := List.mem_map.1 hl
    exact hlen 0 _
end
end Go.Proofs.Ytgnpbodhjmappaa
