/-
  Layer 10: what usesOf tells of a function that may be.
-/
import Derived.Test.YtgnpbodhjmappaaPG10UsesA
import Derived.Test.YtgnpbodhjmappaaPMG
import Derived.Test.YtgnpbodhjmappaaPMH
import Derived.Test.YtgnpbodhjmappaaPMF
import Derived.Lib.SlKeysI
import Derived.Test.YtgnpbodhjmappaaPShelf
import Derived.Maps.AppendAt
import Derived.Sort.OwnSortedInts
import Derived.Test.YtgnpbodhjmappaaPME
import Derived.Maps.RangeWalk
set_option linter.unusedVariables false
set_option linter.unusedSimpArgs false
namespace Go.Proofs.Ytgnpbodhjmappaa
set_option maxRecDepth 100000
open Go.RowKit Cd Go.Maps
theorem wf_small {y : Int} (h0 : 0 ≤ y) (h1 : y ≤ 100000) : (Lit.int .i64 y).wf = true := by
  have e : IntKind.i64.min = -9223372036854775808 := by decide
  have e2 : IntKind.i64.max = 9223372036854775807 := by decide
  simp [Lit.wf, e, e2]
  omega
def UsesPost (c : List Ins) (w : World) (e : Ending) (w' : World) : Prop :=
  ∃ (b : Nat → Nat) (V : Nat → Int → Value) (lo : Nat), e = .returned (usV (some ⟨b 0, 0, none⟩) c.length c.length (some ⟨b 1, 0, none⟩) c.length c.length (b 2) (b 3) (some ⟨b 4, 0, none⟩) c.length c.length) ∧ w.heap.size ≤ lo ∧ (∀ k, k < 5 → w.heap.size ≤ b k) ∧ UsW w' lo c (9 * c.length) b V (List.replicate c.length false) ∧ Below w.heap.size w w'
theorem uses_w (r : FnR) (w : World) (hR : RightF r.f) (hC : CodeAt w w.heap.size r) : Calls Try.prog 35 #[fnV r] w (UsesPost r.f.code w) := by
  obtain ⟨⟨name, params, regs, frame, code⟩, ca, cc⟩ := r
  have hn := hR.code
  have hrg := hR.regs
  refine (usesOf_c name params regs frame code ca cc w (fun p i hi => ?_) (by have := hn.2; simp only at this; omega) (closed_of hR) hC).mono ?_
  · have hI := hR.all i (List.mem_of_getElem? hi)
    simp only at hrg
    refine ⟨fun y hy => ?_, fun hp => ?_⟩
    · have := hI.uses y hy
      unfold regOk at this
      simp only at this
      exact wf_small (by omega) (by omega)
    · have hd := hI.dst
      have hk := pureI_iff.1 hp
      unfold dstOk at hd
      simp only at hd
      have hk5 : i.kind = 1 ∨ i.kind = 2 ∨ i.kind = 3 ∨ i.kind = 4 ∨ i.kind = 5 := by omega
      rcases hk5 with h | h | h | h | h <;> simp [h, regOk] at hd <;> exact wf_small (by omega) (by omega)
  · rintro e w' ⟨b, V, lo, rfl, hlo, hU, hb⟩
    exact ⟨b, V, lo, rfl, by omega, fun k hk => by have := (hU.place k (by omega)).1; omega, UsW.of hU, hb⟩
end Go.Proofs.Ytgnpbodhjmappaa
namespace Go.Proofs.Ytgnpbodhjmappaa.Cd
def isDead (c : List Ins) (p : Nat) : Bool := match c[p]? with | some i => pureI i && !behindR c p i.dst | none => false
def deadF (c : List Ins) : List Int := ((List.range c.length).filter (isDead c)).map (fun n : Nat => (n : Int))
theorem isDead_iff {c : List Ins} {p : Nat} : isDead c p = true ↔ ∃ i, c[p]? = some i ∧ pureI i = true ∧ behindR c p i.dst = false := by
  unfold isDead
  cases hc : c[p]? with
  | none => simp
  | some i => simp
theorem deadF_mem {c : List Ins} {y : Int} : y ∈ deadF c ↔ ∃ (p : Nat) (i : Ins), c[p]? = some i ∧ y = (p : Int) ∧ pureI i = true ∧ behindR c p i.dst = false := by
  unfold deadF
  rw [List.mem_map]
  constructor
  · rintro ⟨p, hp, rfl⟩
    obtain ⟨h1, h2⟩ := List.mem_filter.1 hp
    obtain ⟨i, h3, h4, h5⟩ := isDead_iff.1 h2
    exact ⟨p, i, h3, rfl, h4, h5⟩
  · rintro ⟨p, i, h1, rfl, h2, h3⟩
    exact ⟨p, List.mem_filter.2 ⟨List.mem_range.2 (List.getElem?_eq_some_iff.1 h1).1, isDead_iff.2 ⟨i, h1, h2, h3⟩⟩, rfl⟩
theorem deadF_lt (c : List Ins) : (deadF c).Pairwise (fun x y => x < y) := by
  unfold deadF
  rw [List.pairwise_map]
  refine List.Pairwise.imp (fun h => by omega) (List.Pairwise.filter _ List.pairwise_lt_range)
theorem deadF_nodup (c : List Ins) : (deadF c).Nodup := (deadF_lt c).imp (fun h e => by omega)
theorem dead_sort {c : List Ins} {l : List Int} (h : ∀ y, y ∈ l ↔ y ∈ deadF c) (hn : l.Nodup) : l.mergeSort (fun x y => decide (x ≤ y)) = deadF c := by
  have hp : l.Perm (deadF c) := (List.perm_ext_iff_of_nodup hn (deadF_nodup c)).2 h
  have e := mergeSort_of_perm_i hp
  have e2 : (deadF c).mergeSort (fun x y => decide (x ≤ y)) = deadF c := List.mergeSort_of_pairwise ((deadF_lt c).imp (fun h => by simpa using Int.le_of_lt h))
  exact Eq.trans e e2
theorem ug2_lt (c : List Ins) (x : Int) : ∀ k : Nat, k ≤ c.length → (∀ y ∈ UG c k 2 x, y < (k : Int)) ∧ (UG c k 2 x).Nodup
  | 0, _ => by simp [UG]
  | k + 1, hk => by
    obtain ⟨h1, h2⟩ := ug2_lt c x k (by omega)
    obtain ⟨i, hi⟩ : ∃ i, c[k]? = some i := ⟨_, List.getElem?_eq_getElem (by omega)⟩
    have e0 : ∀ (l : List Int) (G : Nat → Int → List Int), addL G 0 k l 2 x = G 2 x := fun l => by
      induction l with
      | nil => intro G; rfl
      | cons y l ih => intro G; unfold addL; rw [ih]; unfold add1; exact upF_other _ _ (by omega)
    have e1 : ∀ (l : List Int) (G : Nat → Int → List Int), addL G 1 k l 2 x = G 2 x := fun l => by
      induction l with
      | nil => intro G; rfl
      | cons y l ih => intro G; unfold addL; rw [ih]; unfold add1; exact upF_other _ _ (by omega)
    have e : UG c (k + 1) 2 x = (if pureI i = true ∧ i.dst = x then UG c k 2 x ++ [(k : Int)] else UG c k 2 x) := by
      rw [ug_more hi]
      unfold pureL
      by_cases hp : pureI i = true
      · rw [if_pos hp]
        show add1 _ 2 _ _ 2 x = _
        unfold add1
        by_cases hx : i.dst = x
        · subst hx
          rw [upF_same, e1, e0, if_pos ⟨hp, rfl⟩]
        · rw [upF_other _ _ (fun h => hx h.2.symm), e1, e0, if_neg (fun h => hx h.2)]
      · rw [if_neg hp, if_neg (fun h => hp h.1)]
        show addL _ 1 _ _ 2 x = _
        rw [e1, e0]
    rw [e]
    split
    · refine ⟨fun y hy => ?_, ?_⟩
      · rcases List.mem_append.1 hy with hy | hy
        · have := h1 y hy; omega
        · rw [List.mem_singleton] at hy; omega
      · rw [List.nodup_append]
        refine ⟨h2, by simp, fun u hu v hv => ?_⟩
        rw [List.mem_singleton] at hv
        have := h1 u hu
        omega
    · exact ⟨fun y hy => by have := h1 y hy; omega, h2⟩
noncomputable def deadO (c : List Ins) (gone : List Bool) (x : Int) : List Int := deadL gone (behB (fromL c) (c.map Cd.sets) x (rdr gone (UG c c.length 1 x)) c.length) (UG c c.length 2 x)
def keptOf (gone : List Bool) : List Bool := gone.map (fun b => !b)
theorem goneOf_kept {c : List Ins} {gone : List Bool} (hg : gone.length = c.length) {x : Int} (hx : Inside c x) : goneOf (keptOf gone) x ↔ gone.getD x.toNat false = true := by
  unfold Inside at hx
  obtain ⟨b, hb⟩ : ∃ b, gone[x.toNat]? = some b := ⟨_, List.getElem?_eq_getElem (by omega)⟩
  unfold goneOf keptOf
  rw [List.getElem?_map, hb, List.getD_eq_getElem?_getD, hb]
  cases b <;> simp
theorem rdrs_gone {c : List Ins} {gone : List Bool} (hg : gone.length = c.length) (r : Int) : Rdrs c (goneOf (keptOf gone)) r (rdr gone (UG c c.length 1 r)) := by
  intro x
  unfold rdr
  rw [List.mem_filter, rdrs_of c r x]
  constructor
  · rintro ⟨⟨h1, _, h3⟩, h4⟩
    refine ⟨h1, fun h => ?_, h3⟩
    rw [(goneOf_kept hg h1).1 h] at h4
    cases h4
  · rintro ⟨h1, h2, h3⟩
    refine ⟨⟨h1, fun h => h, h3⟩, ?_⟩
    cases hb : gone.getD x.toNat false with
    | false => rfl
    | true => exact absurd ((goneOf_kept hg h1).2 hb) h2
theorem beh_gone {c : List Ins} {gone : List Bool} (hc : Closed c) (hg : gone.length = c.length) (r : Int) {p : Nat} (hp : p < c.length) : (behB (fromL c) (c.map Cd.sets) r (rdr gone (UG c c.length 1 r)) c.length).getD p false = true ↔ BehN c (goneOf (keptOf gone)) r (p : Int) := by
  rw [← (usIn_of c).beh hc (rdrs_gone hg r) (show Inside c (p : Int) by unfold Inside; omega), List.getD_eq_getElem?_getD]
  have h := behB_at (F := fromL c) (st := c.map Cd.sets) (r := r) (R := rdr gone (UG c c.length 1 r)) hp
  rw [← h]
  obtain ⟨b, hb⟩ : ∃ b, (behB (fromL c) (c.map Cd.sets) r (rdr gone (UG c c.length 1 r)) c.length)[p]? = some b := ⟨_, List.getElem?_eq_getElem (by rw [behB_len]; exact hp)⟩
  rw [hb]
  cases b <;> simp
theorem deadO_mem {c : List Ins} {gone : List Bool} (hc : Closed c) (hg : gone.length = c.length) {x y : Int} : y ∈ deadO c gone x ↔ ∃ (p : Nat) (i : Ins), c[p]? = some i ∧ y = (p : Int) ∧ pureI i = true ∧ i.dst = x ∧ gone.getD p false = false ∧ ¬ BehN c (goneOf (keptOf gone)) x (p : Int) := by
  unfold deadO deadL
  rw [List.mem_filter, ug_mem (by omega) _ (Nat.le_refl _)]
  constructor
  · rintro ⟨⟨p, i, h1, h2, rfl, h4⟩, h5⟩
    change x ∈ pureL i at h4
    unfold pureL at h4
    rw [Int.toNat_natCast] at h5
    simp only [Bool.and_eq_true, Bool.not_eq_true'] at h5
    split at h4
    · rename_i hp
      rw [List.mem_singleton] at h4
      refine ⟨p, i, h2, rfl, hp, h4.symm, h5.1, fun hb => ?_⟩
      rw [(beh_gone hc hg x h1).2 hb] at h5
      cases h5.2
    · cases h4
  · rintro ⟨p, i, h1, rfl, h2, h3, h4, h5⟩
    have hpl := (List.getElem?_eq_some_iff.1 h1).1
    refine ⟨⟨p, i, hpl, h1, rfl, ?_⟩, ?_⟩
    · show x ∈ pureL i
      unfold pureL
      rw [if_pos h2]
      simp [h3]
    · rw [Int.toNat_natCast, h4]
      cases hb : (behB (fromL c) (c.map Cd.sets) x (rdr gone (UG c c.length 1 x)) c.length).getD p false with
      | false => rfl
      | true => exact absurd ((beh_gone hc hg x hpl).1 hb) h5
theorem deadO_nodup (c : List Ins) (gone : List Bool) (x : Int) : (deadO c gone x).Nodup := List.Nodup.sublist List.filter_sublist (ug2_lt c x _ (Nat.le_refl _)).2
theorem deadO_len (c : List Ins) (gone : List Bool) (x : Int) : (deadO c gone x).length ≤ 11 * c.length := Nat.le_trans (List.length_filter_le _ _) (ug_len c 2 x _)
theorem behN_none {c : List Ins} {n : Nat} (hn : n = c.length) {r p : Int} (hc : Closed c) : BehN c (goneOf (keptOf (List.replicate n false))) r p ↔ BehN c none0 r p := by
  subst hn
  have key : ∀ x, Inside c x → ¬ goneOf (keptOf (List.replicate c.length false)) x := fun x hx h => by
    have := (goneOf_kept (by simp) hx).1 h
    unfold Inside at hx
    rw [List.getD_eq_getElem?_getD, List.getElem?_replicate, if_pos (by omega)] at this
    cases this
  refine ⟨fun h => h.mono (fun x hx => hx.elim), fun h => ?_⟩
  obtain ⟨y, h1, h2⟩ := h
  refine ⟨y, h1, ?_⟩
  clear h1
  induction h2 with
  | @here x i h1 h2 h3 =>
    have hl := (List.getElem?_eq_some_iff.1 h1).1
    have hng : ¬ goneOf (keptOf (List.replicate c.length false)) x := fun hg => by
      unfold goneOf keptOf at hg
      rw [List.getElem?_map, List.getElem?_replicate, if_pos hl] at hg
      exact hg rfl
    exact .here h1 hng h3
  | on h1 h2 h3 _ ih => exact .on h1 h2 h3 ih
theorem deadO_none {c : List Ins} (hc : Closed c) {y : Int} : (∃ x, y ∈ deadO c (List.replicate c.length false) x) ↔ y ∈ deadF c := by
  rw [deadF_mem]
  constructor
  · rintro ⟨x, hx⟩
    obtain ⟨p, i, h1, h2, h3, h4, _, h5⟩ := (deadO_mem hc (by simp)).1 hx
    refine ⟨p, i, h1, h2, h3, ?_⟩
    subst h4
    rw [behN_none rfl hc, beh_none hc (by unfold Inside; have := (List.getElem?_eq_some_iff.1 h1).1; omega)] at h5
    simpa using h5
  · rintro ⟨p, i, h1, h2, h3, h4⟩
    have hl := (List.getElem?_eq_some_iff.1 h1).1
    refine ⟨i.dst, (deadO_mem hc (by simp)).2 ⟨p, i, h1, h2, h3, rfl, by rw [List.getD_eq_getElem?_getD, List.getElem?_replicate, if_pos hl]; rfl, ?_⟩⟩
    rw [behN_none rfl hc, beh_none hc (by unfold Inside; omega), h4]
    simp
end Go.Proofs.Ytgnpbodhjmappaa.Cd
namespace Go.Proofs.Ytgnpbodhjmappaa
set_option maxRecDepth 100000
open Go.RowKit Cd Go.Maps Go.Sort
theorem run_append_none {w : World} {t ty e : TypeId} {i : TypeInfo} {size base : Nat} (ht : Try.prog.underlying t = some (.slice e)) (hi : Try.prog.info? e = some i) (v : Value) (n : Nat) (xs : List Value) (hown : w.ownsRow base e size v n xs) (a : Option Addr) (c : Nat) :
    (Builtin.append_ #[t, t] ty #[v, .slice a 0 c]).run Try.prog w = .ok v w := by
  have hl : ∀ (x : Addr), (loadCells x 0).run Try.prog w = .ok #[] w := fun x => by simpa using run_loadCells_list (P := Try.prog) w x [] (by simp)
  rcases hown.2 with ⟨rfl, rfl⟩ | ⟨g, cap, cur, rfl, _, _, hnc, _⟩
  · cases a <;> simp [Builtin.append_, run_underlying ht, sizeOf, typeInfo, hi, Builtin.lenOf, Builtin.firstCells, hl, storeCells]
  · cases a <;> simp [Builtin.append_, run_underlying ht, sizeOf, typeInfo, hi, Builtin.lenOf, Builtin.firstCells, hnc, hl, storeCells]
theorem wpList_append_twoI {w : World} {ops : Array Oper} {rest : List Oper} {o : Oper} {a : Act} {Q : Exit → Act → World → Prop} (hgd : o.guard = none) (s x : Operand)
    (ho : o.op = .call { callee := .builtin .append, args := #[s, x], argTypes := #[30, 30] })
    (lo : Nat) (v : Value) (xs : List Int) (hs : a.eval s = v) (hown : w.ownsRow lo 3 1 v xs.length (ints xs)) (pa : Option Addr) (ys : List Int) (pc : Nat) (hx : a.eval x = .slice pa ys.length pc) (hp : RowAt w w.heap.size pa (ints ys)) (hl : xs.length + ys.length ≤ 1000000000000) (hlo : lo ≤ w.heap.size)
    (h : ∀ v' w', w'.ownsRow lo 3 1 v' (xs ++ ys).length (ints (xs ++ ys)) → w.grownBy w' v.ownBlock → wpList Try.prog ops Q rest (a.put o.dst v') w') : wpList Try.prog ops Q (o :: rest) a w := by
  obtain ⟨i0, hi0, hz0, hz1, hz2⟩ := info_parts infoInt
  refine wpList_plain hgd fun K hK => ?_
  by_cases h0 : ys.length = 0
  · have hrun := run_append_none (w := w) (t := 30) (ty := o.type) Try.underlying30 hi0 _ _ _ hown pa pc
    rw [h0] at hx
    unfold Oper.wp
    simp [execOp, ho, resolve, invoke, builtin, hs, hx, hrun, Result.andThen]
    have hv : ys = [] := List.eq_nil_of_length_eq_zero h0
    subst hv
    refine hK _ _ (h v w (by simpa using hown) ⟨rfl, rfl, rfl, Nat.le_refl _, fun _ _ _ => rfl⟩)
  · obtain ⟨b, off, rfl, hb, _, hc⟩ := hp (by simp [ints]; omega)
    obtain ⟨v', w', hr, h2, h3, h4, h5⟩ := run_append_own_at (P := Try.prog) w lo 30 o.type 3 i0 _ 1 8 Try.underlying30 hi0 hz0 hz1 hz2 rfl (by decide) _ _ _ hown ⟨b, off, none⟩ ys.length pc (ints ys) (by simp [ints]) (fun j u hu => by
          have := hc j u hu
          unfold Addr.add
          by_cases hj : j = 0
          · subst hj; simpa using this
          · simpa [hj] using this) (fun u hu => by
          obtain ⟨x, _, rfl⟩ := List.mem_map.1 hu
          simp [Value.oneCell']) (by unfold maxLen; omega) (by omega) (by omega)
    unfold Oper.wp execOp
    simp only [ho, resolve, invoke, builtin, Sem.run_bind, Sem.run_pure, Result.andThen_ok, List.map_toArray, List.map_cons, List.map_nil, hs, hx, hr]
    refine hK _ _ (h v' w' ?_ h3)
    rw [List.length_append]
    simpa [ints] using h2
theorem sort_own {lo : Nat} {a : Option Addr} {ss : List Int} {cap : Nat} (w : World) (h : w.ownsRow lo 3 1 (.slice a ss.length cap) ss.length (ints ss)) (hl : ss.length ≤ 1000000000000) :
    Calls Try.prog 42 #[.slice a ss.length cap] w fun e w' => e = .returned (.tuple #[]) ∧ w'.ownsRow lo 3 1 (.slice a ss.length cap) ss.length (ints (ss.mergeSort (fun x y => decide (x ≤ y)))) ∧ w.grownBy w' (Value.slice a ss.length cap).ownBlock := by
  rcases h.2 with ⟨e, h5⟩ | ⟨g, cap', cur, e, h6, h7, h8, h9, h10, h11⟩
  · injection e with e1 e2 e3
    subst e1
    have hs : ss = [] := List.eq_nil_of_length_eq_zero h5
    subst hs
    refine (Try.slices_Sort_int_nil none cap w).mono ?_
    rintro e w' ⟨rfl, rfl⟩
    exact ⟨rfl, by simpa using h, ⟨rfl, rfl, rfl, Nat.le_refl _, fun _ _ _ => rfl⟩⟩
  · injection e with e1 e2 e3
    subst e1 e3
    have ht : cur.toList.take ss.length = ss.map (Value.int .i64) := by rw [Nat.mul_one] at h11; exact h11
    refine (Try.slices_Sort_int g 0 cap ss w (holds_of_blockI h7 ht) (lt_heap h7) (by omega)).mono ?_
    rintro e w' ⟨rfl, n, os, rfl⟩
    refine ⟨rfl, ?_, grownBy_sortedI _⟩
    have := ownsRow_sortedI (w := w) (base := lo) (os := os) (n := n) (ts := ss.mergeSort (fun x y => decide (x ≤ y))) (ss := ss) (by simp) h6 h7 h8 h9 h10
    exact this
end Go.Proofs.Ytgnpbodhjmappaa
namespace Go.Proofs.Ytgnpbodhjmappaa
set_option maxRecDepth 100000
open Go.RowKit Cd Go.Maps
theorem same_int (z x : Int) : (Lit.int .i64 z).sameKey (.int .i64 x) = decide (z = x) := by
  by_cases h : z = x
  · subst h; simp [Lit.sameKey]
  · rw [sameKey_ne (fun e => h (by injection e)), decide_eq_false h]
structure DLk (D : DataW Unit) (ks : List Int) (DO : Int → List Int) (left : Lit → Bool) (cnt : Nat) (o : List Int) : Prop where
  sub : ∀ kl, left kl = true → Maps.has D kl = true
  mem : ∀ y, y ∈ o ↔ ∃ x, x ∈ ks ∧ left (.int .i64 x) = false ∧ y ∈ DO x
  nod : o.Nodup
  len : o.length + cnt * 100000 ≤ Maps.size D * 100000
theorem DLk.start {D : DataW Unit} {ks : List Int} {DO : Int → List Int} (h : ∀ x : Int, Maps.has D (.int .i64 x) = ks.contains x) : DLk D ks DO (Maps.has D) (Maps.size D) [] :=
  ⟨fun _ h => h, fun y => ⟨fun h => (by cases h), fun hh => (by obtain ⟨x, h1, h2, _⟩ := hh; rw [h x, List.contains_iff_mem.2 h1] at h2; cases h2)⟩, List.nodup_nil, by simp⟩
theorem DLk.step {D : DataW Unit} {ks : List Int} {DO : Int → List Int} {left : Lit → Bool} {cnt cnt' : Nat} {o : List Int} (h : DLk D ks DO left cnt o) (hk : ∀ x : Int, Maps.has D (.int .i64 x) = ks.contains x) {x : Int} (hx : left (.int .i64 x) = true) (hc : cnt' < cnt)
    (hd : (DO x).Nodup) (hdl : (DO x).length ≤ 100000) (hdj : ∀ x' y, x' ≠ x → y ∈ DO x → y ∉ DO x') : DLk D ks DO (fun z => left z && !z.sameKey (.int .i64 x)) cnt' (o ++ DO x) := by
  refine ⟨fun kl hl => h.sub kl (by simp only [Bool.and_eq_true] at hl; exact hl.1), fun y => ?_, ?_, ?_⟩
  · rw [List.mem_append, h.mem y]
    constructor
    · rintro (⟨z, h1, h2, h3⟩ | h1)
      · exact ⟨z, h1, by simp [h2], h3⟩
      · exact ⟨x, List.contains_iff_mem.1 (by rw [← hk x]; exact h.sub _ hx), by simp [same_int], h1⟩
    · rintro ⟨z, h1, h2, h3⟩
      by_cases e : z = x
      · subst e; exact .inr h3
      · refine .inl ⟨z, h1, ?_, h3⟩
        simpa [same_int, e] using h2
  · rw [List.nodup_append]
    refine ⟨h.nod, hd, fun u hu v hv e => ?_⟩
    subst e
    obtain ⟨z, h1, h2, h3⟩ := (h.mem u).1 hu
    refine hdj z u (fun e => ?_) hv h3
    subst e
    rw [hx] at h2; cases h2
  · have := h.len
    rw [List.length_append]
    have h2 : (cnt' + 1) * 100000 ≤ cnt * 100000 := Nat.mul_le_mul_right _ hc
    omega
theorem code_up {r : FnR} {w : World} {B : Nat} (h : CodeAt w B r) (hB : B ≤ w.heap.size) : CodeAt w w.heap.size r := RowAt.mono h hB (Nat.le_refl _)
set_option maxHeartbeats 4000000 in
theorem dead_yes (r : FnR) (w : World) (hC : CodeAt w w.heap.size r) (hm : r.f.code.length ≤ maxLen) (hR : RightF r.f) : Calls Try.prog 16 #[fnV r] w (ListPost (deadF r.f.code) w) := by
  obtain ⟨i0, hi0, hz0, hz1, hz2⟩ := info_parts infoInt
  have HB0 := Lib.hid ((Below.refl w.heap.size w).alloc (Nat.le_refl _) (fnO r))
  have HX0 := Lib.hid (heap_alloc_new w (fnO r))
  have HC := Lib.hid hC; have HM := Lib.hid hm; have HR := Lib.hid hR
  have hn := hR.code.2
  obtain ⟨c0, c1, c2, c3, c4⟩ := nv5 HX0.out
  clear hC hm hR
  go_enter Try.func16, Try.ntmps16
  go_upto_region 5 with (first | ((with_reducible refine (rightF_v r true w.heap.size _ (HC.out.below HB0.out) HB0.out.size HM.out (rightF_iff.2 HR.out)).mono ?_); rintro e w1 ⟨rfl, hb1⟩; have HB1 := Lib.hid (HB0.out.trans (hb1.mono HB0.out.size)); have HX1 := Lib.hid ((hb1.block w.heap.size (lt_heap HX0.out)).trans HX0.out); clear hb1 c0 c1 c2 c3 c4; obtain ⟨c0, c1, c2, c3, c4⟩ := nv5 HX1.out) | ((with_reducible refine (uses_w r _ HR.out (code_up (HC.out.below HB1.out) HB1.out.size)).mono ?_); rintro e w3 ⟨b, V, lo, rfl, hlo, hbk, hU, hb3⟩; have HU := Lib.hid hU; have HBK := Lib.hid hbk; have HB3 := Lib.hid (HB1.out.trans (hb3.mono HB1.out.size)); clear hb3 hU hbk c0 c1 c2 c3 c4))
  obtain ⟨rk, pk, hat⟩ := HU.out.at
  have HAT := Lib.hid hat
  have HOK := Lib.hid (usOk_of (c := r.f.code) (gone := List.replicate r.f.code.length false) hn (by simp))
  obtain ⟨nn, ks, hnm, ⟨D, hown, htidy, hhas, _⟩, hks, _, hnd⟩ := HU.out.pure
  have HHAS := Lib.hid hhas
  have hsz := hown.size_le
  have hX4 := heap_alloc_new w3 (usO (some ⟨b 0, 0, none⟩) r.f.code.length r.f.code.length (some ⟨b 1, 0, none⟩) r.f.code.length r.f.code.length (b 2) (b 3) (some ⟨b 4, 0, none⟩) r.f.code.length r.f.code.length)
  have HBA := Lib.hid ((Below.refl w3.heap.size w3).alloc (Nat.le_refl _) (usO (some ⟨b 0, 0, none⟩) r.f.code.length r.f.code.length (some ⟨b 1, 0, none⟩) r.f.code.length r.f.code.length (b 2) (b 3) (some ⟨b 4, 0, none⟩) r.f.code.length r.f.code.length))
  have hown4 : (w3.alloc (usO (some ⟨b 0, 0, none⟩) r.f.code.length r.f.code.length (some ⟨b 1, 0, none⟩) r.f.code.length r.f.code.length (b 2) (b 3) (some ⟨b 4, 0, none⟩) r.f.code.length r.f.code.length)).ownsMap Try.prog 3 hdrE (b 3) nn D := by
    obtain ⟨es, clock, h1, h2⟩ := hown
    exact ⟨es, clock, (HBA.out.block _ HU.out.pure.lt).trans h1, h2⟩
  obtain ⟨X, hX⟩ : ∃ X, w3.heap.size = X := ⟨_, rfl⟩
  obtain ⟨w4, hw4⟩ : ∃ w4, w3.alloc (usO (some ⟨b 0, 0, none⟩) r.f.code.length r.f.code.length (some ⟨b 1, 0, none⟩) r.f.code.length r.f.code.length (b 2) (b 3) (some ⟨b 4, 0, none⟩) r.f.code.length r.f.code.length) = w4 := ⟨_, rfl⟩
  have hs4 : w4.heap.size = X + 1 := by rw [← hw4, ← hX]; simp
  rw [hw4] at HBA hX4 hown4 ⊢
  rw [hX] at HBA hX4 HAT ⊢
  have hXw : w.heap.size ≤ X := by rw [← hX]; exact HB3.out.size
  have HX4 := Lib.hid hX4
  have HKS := Lib.hid hks
  obtain ⟨t0, t1, t2, t3, t4⟩ := nv5 hX4
  clear hown hhas htidy hnd hat hw4 hks
  go_wp2_with (first
    | (at_range; refine wpList_range_own _ rfl _ 54 rfl 3 30 lawI Try.underlying54 hdrE (b 3) nn D rfl hown4 ?_; intro w5 hrg0 hg0 hs0)
    | go_in)
  go_frame
  have HB5 := Lib.hid (HBA.out.grown hg0 (by omega) (fun q e => by cases e))
  have HX5 : Hid (w5.heap[X]? = some (usO (some ⟨b 0, 0, none⟩) r.f.code.length r.f.code.length (some ⟨b 1, 0, none⟩) r.f.code.length r.f.code.length (b 2) (b 3) (some ⟨b 4, 0, none⟩) r.f.code.length r.f.code.length)) := Lib.hid ((hg0.block X (by omega) (by simp)).trans HX4.out)
  rw [hs4] at hrg0 hs0 ⊢
  have HRG0 := Lib.hid hrg0
  have hmx : nn ≤ 9 * r.f.code.length := hnm
  clear hrg0 hg0 hown4 t0 t1 t2 t3 t4 hX4
  go_loopw [4] (fun s4 wr => ∃ (left : Lit → Bool) (cnt : Nat) (o : List Int), Hid (wr.ranges Try.prog 3 hdrE (b 3) (X + 1) nn D left cnt) ∧ Hid (wr.ownsRow (X + 2) 3 1 s4 o.length (ints o)) ∧ Hid (DLk D ks (deadO r.f.code (List.replicate r.f.code.length false)) left cnt o) ∧ Hid (Below X w3 wr) ∧ Hid (wr.heap[X]? = some (usO (some ⟨b 0, 0, none⟩) r.f.code.length r.f.code.length (some ⟨b 1, 0, none⟩) r.f.code.length r.f.code.length (b 2) (b 3) (some ⟨b 4, 0, none⟩) r.f.code.length r.f.code.length)) ∧ X + 2 ≤ wr.heap.size) (fun _ wr => wr.rangeLeft (b 3) (X + 1))
  case atStart => exact ⟨_, _, [], HRG0, Lib.hid (World.ownsRow_nil _ _ _ _), Lib.hid (DLk.start HHAS.out), HB5, HX5, by omega⟩
  case round =>
    clear HRG0 HB5 HX5 hs0
    obtain ⟨left, cnt, o, HRG, HOW, HDL, HBW, HXW, hws⟩ := hrel
    obtain ⟨a4, c4, rfl⟩ := row_slice HOW.out
    have hol : o.length ≤ 100000000000 := by have := HDL.out.len; have h8 : Maps.size D * 100000 ≤ 80000 * 100000 := Nat.mul_le_mul_right _ (by omega); omega
    go_wp2_with (first
      | (at_next; refine wpList_next_ranges _ rfl _ rfl 3 lawI hdrE (Value.int .i64) (id : Value → Value) (fun key kl hk => by obtain ⟨x, rfl, _⟩ := Maps.keyOf_int_inv Try.underlying3 hk; exact ⟨x, rfl⟩) (fun v y _ => ⟨v, rfl⟩) (b 3) (X + 1) nn D left cnt rfl HRG.out ?_ ?_)
      | go_in)
    · intro hc0 hl0
      have hfin : o.mergeSort (fun x y => decide (x ≤ y)) = deadF r.f.code := dead_sort (fun y => by
        rw [← deadO_none (closed_of HR.out), HDL.out.mem y]
        constructor
        · rintro ⟨x, _, _, h3⟩; exact ⟨x, h3⟩
        · rintro ⟨x, h3⟩
          refine ⟨x, (HKS.out x).2 (fun e => ?_), hl0 _, h3⟩
          unfold deadO deadL at h3
          rw [e] at h3
          cases h3) HDL.out.nod
      have hle : o.length = (deadF r.f.code).length := by rw [← hfin, List.length_mergeSort]
      have HFIN := Lib.hid hfin; have HLE := Lib.hid hle
      clear hfin hle
      go_wp2_with ((with_reducible refine (sort_own _ HOW.out (by omega)).mono ?_); rintro e w9 ⟨rfl, hso, hsg⟩; have HSO := Lib.hid hso; have HSB := Lib.hid (HBW.out.grown hsg (by omega) (fun q e => by have := (HOW.out.lt q e).1; omega)); clear hso hsg)
      go_ret
      have hso := HSO.out
      rw [HFIN.out, HLE.out] at hso
      rw [HLE.out]
      exact ⟨_, rfl, ownsRow_le hso (by omega), HB3.out.trans (HSB.out.mono hXw)⟩
    · intro x cv kl y1 y2 w6 cnt1 hkey hlk hv hat hrg1 hlt hg1 hs1 hen
      obtain ⟨x', ex, rfl, hwx⟩ := Maps.keyOf_int_inv Try.underlying3 hkey
      cases ex
      have HB6 := Lib.hid (HBW.out.grown hg1 (by omega) (fun q e => by injection e with e; omega))
      have HX6 : Hid (w6.heap[X]? = some (usO (some ⟨b 0, 0, none⟩) r.f.code.length r.f.code.length (some ⟨b 1, 0, none⟩) r.f.code.length r.f.code.length (b 2) (b 3) (some ⟨b 4, 0, none⟩) r.f.code.length r.f.code.length)) := Lib.hid ((hg1.block X (by omega) (fun e => by injection e with e; omega)).trans HXW.out)
      have HO6 := Lib.hid (own_keep (w' := w6) HOW.out (fun g hg => hg1.block g (HOW.out.lt g hg).2 (fun e => by injection e with e; have := (HOW.out.lt g hg).1; omega)))
      have HRG1 := Lib.hid hrg1; have HLK := Lib.hid hlk; have HWX := Lib.hid hwx
      obtain ⟨t0, t1, t2, t3, t4⟩ := nv5 HX6.out
      have hs6 : X + 2 ≤ w6.heap.size := by omega
      clear hkey hlk hv hat hrg1 hg1 hwx
      go_wp2_with (first
        | (go_at_call 41; go_loud ((with_reducible refine (dead_c X r.f.code.length (fromL r.f.code) (r.f.code.map Cd.sets) (List.replicate r.f.code.length false) (UG r.f.code r.f.code.length 1) (UG r.f.code r.f.code.length 2) rk pk (some ⟨b 0, 0, none⟩) (some ⟨b 1, 0, none⟩) (some ⟨b 4, 0, none⟩) r.f.code.length r.f.code.length r.f.code.length (b 2) (b 3) x _ (HAT.out.below HB6.out) HOK.out (by omega) HWX.out).mono ?_); rintro e w7 ⟨v7, rfl, ho7, hb7⟩; have HO7 := Lib.hid ho7; have HB7 := Lib.hid hb7; have hs7 := hb7.size; clear ho7 hb7 t0 t1 t2 t3 t4))
        | (at_builtin; go_loud (obtain ⟨a7, c7, rfl⟩ := row_slice HO7.out; refine wpList_append_twoI rfl (.tmp 18) (.tmp 21) rfl (X + 2) (.slice a4 o.length c4) o rfl (own_keep HO6.out (fun g hg => HB7.out.block g (HO6.out.lt g hg).2)) a7 (deadO r.f.code (List.replicate r.f.code.length false) x) c7 rfl (LiesIn.row (LiesIn.of_own HO7.out)) (by have := deadO_len r.f.code (List.replicate r.f.code.length false) x; omega) (by omega) ?_; intro v8 w8 hown8 hgr8; have HO8 := Lib.hid hown8; have HG8 := Lib.hid hgr8; clear hown8 hgr8)))
      have HG67 := Lib.hid (show w6.grownBy w7 none from ⟨HB7.out.os, HB7.out.tape, HB7.out.output, HB7.out.size, fun g hg _ => HB7.out.block g hg⟩)
      have hrow : ∀ g, (Value.slice a4 o.length c4).ownBlock = some g → X + 2 ≤ g ∧ g < w6.heap.size := fun g hg => HO6.out.lt g hg
      have HRG8 := Lib.hid ((HRG1.out.kept HG67.out (by simp) (by simp)).kept HG8.out (fun e => by have h1 := hrow _ e.symm; have h2 := HU.out.pure.lt; omega) (fun e => by have h1 := hrow _ e.symm; omega))
      have HB8 := Lib.hid ((HB6.out.trans (HB7.out.mono (show X ≤ w6.heap.size by omega))).grown HG8.out (by omega) (fun q e => by have h1 := hrow q e; omega))
      have HX8 : Hid (w8.heap[X]? = some (usO (some ⟨b 0, 0, none⟩) r.f.code.length r.f.code.length (some ⟨b 1, 0, none⟩) r.f.code.length r.f.code.length (b 2) (b 3) (some ⟨b 4, 0, none⟩) r.f.code.length r.f.code.length)) := Lib.hid ((HG8.out.block X (by omega) (fun e => by have h1 := hrow _ e.symm; omega)).trans ((HB7.out.block X (by omega)).trans HX6.out))
      have HDL8 := Lib.hid (HDL.out.step HHAS.out HLK.out hlt (deadO_nodup r.f.code (List.replicate r.f.code.length false) x) (by have := deadO_len r.f.code (List.replicate r.f.code.length false) x; omega) (fun x' y hne hy hy' => by
        obtain ⟨p1, i1, e1, e2, _, e3, _⟩ := (deadO_mem (closed_of HR.out) (by simp)).1 hy
        obtain ⟨p2, i2, f1, f2, _, f3, _⟩ := (deadO_mem (closed_of HR.out) (by simp)).1 hy'
        have hp : p1 = p2 := by omega
        subst hp
        rw [e1] at f1
        injection f1 with f1
        subst f1
        exact hne (f3.symm.trans e3)))
      have hw8 := HG8.out.size
      go_roundw
      case rel => exact ⟨_, cnt1, _, HRG8, HO8, HDL8, HB8, HX8, by omega⟩
      case measure => rw [HRG8.out.left_eq, HRG.out.left_eq]; exact hlt
end Go.Proofs.Ytgnpbodhjmappaa
