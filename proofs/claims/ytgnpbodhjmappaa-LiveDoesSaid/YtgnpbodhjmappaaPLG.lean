/-
  Which registers are live, on lists.
-/
import Derived.Test.YtgnpbodhjmappaaPNA
import Derived.Test.YtgnpbodhjmappaaPLQ
import Derived.Test.YtgnpbodhjmappaaPNB
import Derived.Test.YtgnpbodhjmappaaPLA
import Derived.Maps.AppendAt
import Derived.Laws.AppendOwnNone
import Derived.Test.YtgnpbodhjmappaaPLH
import Derived.RegionTactic
import Derived.Deep.RegionHeld
set_option linter.unusedVariables false
set_option linter.unusedSimpArgs false
namespace Go.Proofs.Ytgnpbodhjmappaa.Cd

inductive Live (c : List Ins) (r : Int) : Int → Prop where
  | here {x : Int} {i : Ins} : c[x.toNat]? = some i → r ∈ uses i → Live c r x
  | on {x y : Int} {i : Ins} : c[x.toNat]? = some i → sets i ≠ r → y ∈ next i x → Live c r y → Live c r x
def aheadF (c : List Ins) (r : Int) : Nat → List Int → Nat → Bool
  | 0, _, _ => false
  | f + 1, todo, k => match todo[k]? with
    | none => false
    | some x => match c[x.toNat]? with
      | none => false
      | some i => if (uses i).contains r then true else if sets i = r then aheadF c r f todo (k + 1) else aheadF c r f (addNew (-1) todo (next i x)) (k + 1)
def aheadR (c : List Ins) (a r : Int) : Bool := aheadF c r (c.length + 1) [a] 0
def behindR (c : List Ins) (a r : Int) : Bool := (nexts c a).any (fun y => aheadR c y r)
def pureI (i : Ins) : Bool := decide (i.kind = 1 ∨ i.kind = 2 ∨ i.kind = 4 ∨ i.kind = 5) || (decide (i.kind = 3) && decide (1 ≤ i.op) && decide (i.op ≤ 23) && (decide (i.op < 4) || decide (7 < i.op)))
structure LiveFar (c : List Ins) (r a : Int) (out : List Int) (k : Nat) : Prop where
  nodup : out.Nodup
  inside : ∀ x ∈ out, Inside c x
  first : a ∈ out
  live : ∀ x ∈ out, Live c r x → Live c r a
  done : ∀ i x, i < k → out[i]? = some x → ∀ j, c[x.toNat]? = some j → r ∉ uses j ∧ (sets j = r ∨ ∀ y ∈ next j x, y ∈ out)
theorem LiveFar.begin {c : List Ins} {r a : Int} (ha : Inside c a) : LiveFar c r a [a] 0 :=
  ⟨by simp, fun x hx => by rw [List.mem_singleton] at hx; rw [hx]; exact ha, by simp, fun x hx h => by rw [List.mem_singleton] at hx; rw [← hx]; exact h, fun i x h => by omega⟩
theorem next_mem {c : List Ins} {x : Int} {i : Ins} (h : c[x.toNat]? = some i) (y : Int) : y ∈ next i x ↔ y ∈ nexts c x := by rw [nexts_at h]
theorem LiveFar.none {c : List Ins} {r a : Int} {out : List Int} {k : Nat} (h : LiveFar c r a out k) (hk : out.length ≤ k) : ¬ Live c r a := by
  intro hl
  have key : ∀ x, Live c r x → x ∈ out → False := by
    intro x hx
    induction hx with
    | @here x i hi hu =>
      intro hm
      obtain ⟨j, hj⟩ := List.mem_iff_getElem?.1 hm
      have := (List.getElem?_eq_some_iff.1 hj).1
      exact (h.done j x (by omega) hj i hi).1 hu
    | @on x y i hi hs hy _ ih =>
      intro hm
      obtain ⟨j, hj⟩ := List.mem_iff_getElem?.1 hm
      have := (List.getElem?_eq_some_iff.1 hj).1
      rcases (h.done j x (by omega) hj i hi).2 with h1 | h1
      · exact hs h1
      · exact ih (h1 y hy)
  exact key a hl h.first
theorem LiveFar.more {c : List Ins} {r a : Int} {out : List Int} {k : Nat} {x : Int} {i : Ins} (hc : Closed c) (h : LiveFar c r a out k) (hx : out[k]? = some x) (hi : c[x.toNat]? = some i) (hu : r ∉ uses i) (hs : sets i ≠ r) :
    LiveFar c r a (addNew (-1) out (next i x)) (k + 1) := by
  have hm : x ∈ out := List.mem_of_getElem? hx
  have hin : ∀ y ∈ next i x, Inside c y := fun y hy => hc x (h.inside x hm) y ((next_mem hi y).1 hy)
  obtain ⟨t, ht⟩ := addNew_grows (-1) (next i x) out
  have hk : k < out.length := (List.getElem?_eq_some_iff.1 hx).1
  refine ⟨addNew_nodup _ _ _ h.nodup, fun y hy => ?_, (addNew_mem _ _ _ _).2 (.inl h.first), fun y hy hl => ?_, fun j z hj hz m hmz => ?_⟩
  · rcases (addNew_mem _ _ _ _).1 hy with h1 | h1
    · exact h.inside y h1
    · exact hin y h1.1
  · rcases (addNew_mem _ _ _ _).1 hy with h1 | h1
    · exact h.live y h1 hl
    · exact h.live x hm (.on hi hs h1.1 hl)
  · rw [ht] at hz
    by_cases hjk : j < k
    · rw [List.getElem?_append_left (by omega)] at hz
      obtain ⟨h1, h2⟩ := h.done j z hjk hz m hmz
      exact ⟨h1, h2.imp id fun h3 y hy => (addNew_mem _ _ _ _).2 (.inl (h3 y hy))⟩
    · obtain rfl : j = k := by omega
      rw [List.getElem?_append_left (by omega), hx] at hz
      injection hz with hz
      subst hz
      rw [hi] at hmz
      injection hmz with hmz
      subst hmz
      exact ⟨hu, .inr fun y hy => (addNew_mem _ _ _ _).2 (.inr ⟨hy, by have := hin y hy; unfold Inside at this; omega⟩)⟩
theorem LiveFar.skip {c : List Ins} {r a : Int} {out : List Int} {k : Nat} {x : Int} {i : Ins} (h : LiveFar c r a out k) (hx : out[k]? = some x) (hi : c[x.toNat]? = some i) (hu : r ∉ uses i) (hs : sets i = r) : LiveFar c r a out (k + 1) := by
  refine ⟨h.nodup, h.inside, h.first, h.live, fun j z hj hz m hmz => ?_⟩
  by_cases hjk : j < k
  · exact h.done j z hjk hz m hmz
  · obtain rfl : j = k := by omega
    rw [hx] at hz
    injection hz with hz
    subst hz
    rw [hi] at hmz
    injection hmz with hmz
    subst hmz
    exact ⟨hu, .inl hs⟩
theorem aheadF_iff {c : List Ins} {r a : Int} (hc : Closed c) : ∀ (f : Nat) (out : List Int) (k : Nat), LiveFar c r a out k → k ≤ out.length → c.length < f + k → (aheadF c r f out k = true ↔ Live c r a)
  | 0, out, k, h, hk, hf => by
    have := nodup_le h.nodup h.inside
    omega
  | f + 1, out, k, h, hk, hf => by
    unfold aheadF
    cases hx : out[k]? with
    | none => exact ⟨fun h1 => by simp at h1, fun h1 => absurd h1 (h.none (by rw [List.getElem?_eq_none_iff] at hx; exact hx))⟩
    | some x =>
      have hm := List.mem_of_getElem? hx
      have hin := h.inside x hm
      have hkl : k < out.length := (List.getElem?_eq_some_iff.1 hx).1
      cases hi : c[x.toNat]? with
      | none => rw [List.getElem?_eq_none_iff] at hi; unfold Inside at hin; omega
      | some i =>
        simp only [hi]
        by_cases hu : r ∈ uses i
        · have : (uses i).contains r = true := by rw [List.contains_iff_mem]; exact hu
          rw [this]
          exact ⟨fun _ => h.live x hm (.here hi hu), fun _ => rfl⟩
        · have : (uses i).contains r = false := by rw [Bool.eq_false_iff, ne_eq, List.contains_iff_mem]; exact hu
          rw [this]
          by_cases hs : sets i = r
          · rw [if_neg (by simp), if_pos hs]
            exact aheadF_iff hc f out (k + 1) (h.skip hx hi hu hs) (by omega) (by omega)
          · rw [if_neg (by simp), if_neg hs]
            obtain ⟨t, ht⟩ := addNew_grows (-1) (next i x) out
            exact aheadF_iff hc f _ (k + 1) (h.more hc hx hi hu hs) (by rw [ht, List.length_append]; omega) (by omega)
theorem ahead_iff {c : List Ins} {r a : Int} (hc : Closed c) (ha : Inside c a) : aheadR c a r = true ↔ Live c r a :=
  aheadF_iff hc (c.length + 1) [a] 0 (LiveFar.begin ha) (by simp) (by omega)
end Go.Proofs.Ytgnpbodhjmappaa.Cd
namespace Go.Proofs.Ytgnpbodhjmappaa
set_option maxRecDepth 100000
open Go.RowKit Cd
theorem arguments_no (k : Int) (cb co : Nat) (w : World) (hk : k ≠ 8) (c0 : w.cell? ⟨cb, co, none⟩ = some (.int .i64 k)) : Calls Try.prog 86 #[.pointer (some ⟨cb, co, none⟩)] w fun e w' => e = .returned (.slice none 0 0) ∧ w = w' := by
  have t0 : (k == (8 : Int)) = false := by simpa using hk
  go_enter Try.func86, Try.ntmps86
  go_wp2
  go_ret
  exact ⟨rfl, rfl⟩
theorem ra_v (k : Int) (b : Bool) (h : readsA k = b) (w : World) : Calls Try.prog 84 #[.int .i64 k] w fun e w' => e = .returned (.bool b) ∧ w = w' := h ▸ creadsA_any k w
theorem rb_v (k : Int) (b : Bool) (h : readsB k = b) (w : World) : Calls Try.prog 85 #[.int .i64 k] w fun e w' => e = .returned (.bool b) ∧ w = w' := h ▸ creadsB_any k w
theorem ss_v (k : Int) (b : Bool) (h : setsB k = b) (w : World) : Calls Try.prog 83 #[.int .i64 k] w fun e w' => e = .returned (.bool b) ∧ w = w' := h ▸ csets_any k w
set_option maxHeartbeats 4000000 in
theorem cuses_no (i : Ins) (w : World) (h8 : i.kind ≠ 8) : Calls Try.prog 59 #[inV i] w (ListPost (uses i) w) := by
  obtain ⟨i0, hi0, hz0, hz1, hz2⟩ := info_parts infoInt
  have HX := Lib.hid (heap_alloc_new w (inO i))
  have HB0 := Lib.hid ((Below.refl w.heap.size w).alloc (Nat.le_refl _) (inO i))
  obtain ⟨c0, c1, c2, c3, c4, c5, c6, c7, c8, c9, c10, c11, c12, c13, c14⟩ := nv15 HX.out
  have H8 := Lib.hid h8
  cases ha : readsA i.kind with
  | false =>
    have hb : readsB i.kind = false := by
      unfold readsA at ha; unfold readsB
      simp only [Bool.or_eq_false_iff] at ha ⊢
      exact ⟨ha.1.1.1.1.1.1.2, ha.1.1.1.2⟩
    have e : uses i = [] := by unfold uses; rw [ha, hb, if_neg h8]; rfl
    have HA := Lib.hid ha; have HB := Lib.hid hb
    rw [e]; clear e ha hb h8
    go_enter Try.func59, Try.ntmps59
    go_wp2_with (first | ((with_reducible refine (ra_v _ false HA.out _).mono ?_); rintro e w1 ⟨rfl, rfl⟩) | ((with_reducible refine (rb_v _ false HB.out _).mono ?_); rintro e w1 ⟨rfl, rfl⟩) | ((with_reducible refine (arguments_no i.kind w.heap.size 0 _ H8.out c0).mono ?_); rintro e w1 ⟨rfl, rfl⟩))
    go_ret
    exact list_nil HB0.out
  | true =>
    have tok1 : True := trivial
    have tok3 : True := trivial
    cases hb : readsB i.kind with
    | false =>
      have e : uses i = [i.a] := by unfold uses; rw [ha, hb, if_neg h8]; rfl
      have HA := Lib.hid ha; have HB := Lib.hid hb
      rw [e]; clear e ha hb h8
      go_enter Try.func59, Try.ntmps59
      go_wp2_with (first | ((with_reducible refine (ra_v _ true HA.out _).mono ?_); rintro e w1 ⟨rfl, rfl⟩) | ((with_reducible refine (rb_v _ false HB.out _).mono ?_); rintro e w1 ⟨rfl, rfl⟩) | (at_builtin; have _t := tok1; go_loud (refine wpList_append_lies _ rfl (.tmp 7) (.tmp 10) 30 rfl (w.heap.size + 1) 3 i0 (.int .i64 0) 1 8 Try.underlying30 hi0 hz0 hz1 hz2 rfl (by decide) (.slice none 0 0) 0 [] rfl (World.ownsRow_nil _ _ _ _) _ 1 1 [.int .i64 i.a] rfl rfl (cell_new1 _ _ _ _ (by simp)) (by simp [Value.oneCell']) (by omega) (by unfold maxLen; omega) (by omega) (by first | omega | (simp; done) | (simp; omega)) (w.heap.size + 1 + 1) (by simp) ?_; intro g2 capg2 w2 hown hgrow hat hlt; clear tok1; have HOw2 := Lib.hid hown; have hsw2 : w.heap.size + 1 ≤ w2.heap.size := (by have := hgrow.size; simp at this; omega); have HBw2 := Lib.hid ((HB0.out.alloc (by first | omega | (simp; done) | (simp; omega)) _).grown hgrow (by first | omega | (simp; done) | (simp; omega)) (fun q e => by simp [Value.ownBlock] at e)); have HXw2 := Lib.hid ((hgrow.block w.heap.size (by first | omega | (simp; done) | (simp; omega)) (fun e => by simp [Value.ownBlock] at e)).trans ((Below.heap_alloc _ _ _ (by first | omega | (simp; done) | (simp; omega))).trans HX.out)); clear hown hgrow hat hlt c0 c1 c2 c3 c4 c5 c6 c7 c8 c9 c10 c11 c12 c13 c14; obtain ⟨c0, c1, c2, c3, c4, c5, c6, c7, c8, c9, c10, c11, c12, c13, c14⟩ := nv15 HXw2.out)) | (at_builtin; have _t := tok3; go_loud (refine wpList_append_own_none rfl (.tmp 20) (.tmp 21) 30 rfl (w.heap.size + 1) 3 i0 1 Try.underlying30 hi0 (.slice (some ⟨g2, 0, none⟩) (0 + 1) capg2) (0 + 1) ([] ++ [.int .i64 i.a]) rfl HOw2.out rfl ?_; clear tok3)) | ((with_reducible refine (arguments_no i.kind w.heap.size 0 _ H8.out c0).mono ?_); rintro e w1 ⟨rfl, rfl⟩))
      go_ret
      exact ⟨_, rfl, ownsRow_le HOw2.out (by omega), HBw2.out⟩
    | true =>
      have tok2 : True := trivial
      have e : uses i = [i.a, i.b] := by unfold uses; rw [ha, hb, if_neg h8]; rfl
      have HA := Lib.hid ha; have HB := Lib.hid hb
      rw [e]; clear e ha hb h8
      go_enter Try.func59, Try.ntmps59
      go_wp2_with (first | ((with_reducible refine (ra_v _ true HA.out _).mono ?_); rintro e w1 ⟨rfl, rfl⟩) | ((with_reducible refine (rb_v _ true HB.out _).mono ?_); rintro e w1 ⟨rfl, rfl⟩) | (at_builtin; have _t := tok1; go_loud (refine wpList_append_lies _ rfl (.tmp 7) (.tmp 10) 30 rfl (w.heap.size + 1) 3 i0 (.int .i64 0) 1 8 Try.underlying30 hi0 hz0 hz1 hz2 rfl (by decide) (.slice none 0 0) 0 [] rfl (World.ownsRow_nil _ _ _ _) _ 1 1 [.int .i64 i.a] rfl rfl (cell_new1 _ _ _ _ (by simp)) (by simp [Value.oneCell']) (by omega) (by unfold maxLen; omega) (by omega) (by first | omega | (simp; done) | (simp; omega)) (w.heap.size + 1 + 1) (by simp) ?_; intro g2 capg2 w2 hown hgrow hat hlt; clear tok1; have HOw2 := Lib.hid hown; have hsw2 : w.heap.size + 1 ≤ w2.heap.size := (by have := hgrow.size; simp at this; omega); have HBw2 := Lib.hid ((HB0.out.alloc (by first | omega | (simp; done) | (simp; omega)) _).grown hgrow (by first | omega | (simp; done) | (simp; omega)) (fun q e => by simp [Value.ownBlock] at e)); have HXw2 := Lib.hid ((hgrow.block w.heap.size (by first | omega | (simp; done) | (simp; omega)) (fun e => by simp [Value.ownBlock] at e)).trans ((Below.heap_alloc _ _ _ (by first | omega | (simp; done) | (simp; omega))).trans HX.out)); clear hown hgrow hat hlt c0 c1 c2 c3 c4 c5 c6 c7 c8 c9 c10 c11 c12 c13 c14; obtain ⟨c0, c1, c2, c3, c4, c5, c6, c7, c8, c9, c10, c11, c12, c13, c14⟩ := nv15 HXw2.out)) | (at_builtin; have _t := tok2; go_loud (refine wpList_append_lies _ rfl (.tmp 15) (.tmp 18) 30 rfl (w.heap.size + 1) 3 i0 (.int .i64 0) 1 8 Try.underlying30 hi0 hz0 hz1 hz2 rfl (by decide) (.slice (some ⟨g2, 0, none⟩) (0 + 1) capg2) (0 + 1) ([] ++ [.int .i64 i.a]) rfl (HOw2.out.alloc _) _ 1 1 [.int .i64 i.b] rfl rfl (cell_new1 _ _ _ _ (by simp)) (by simp [Value.oneCell']) (by omega) (by unfold maxLen; omega) (by omega) (by first | omega | (simp; done) | (simp; omega)) (w2.heap.size + 1) (by simp) ?_; intro g3 capg3 w3 hown hgrow hat hlt; clear tok2; have HOw3 := Lib.hid hown; have hsw3 : w.heap.size + 1 ≤ w3.heap.size := (by have := hgrow.size; simp at this; omega); have HBw3 := Lib.hid ((HBw2.out.alloc (by first | omega | (simp; done) | (simp; omega)) _).grown hgrow (by first | omega | (simp; done) | (simp; omega)) (fun q e => by have := (HOw2.out.lt q e).1; omega)); have HXw3 := Lib.hid ((hgrow.block w.heap.size (by first | omega | (simp; done) | (simp; omega)) (fun e => by have := (HOw2.out.lt _ e.symm).1; omega)).trans ((Below.heap_alloc _ _ _ (by first | omega | (simp; done) | (simp; omega))).trans HXw2.out)); clear hown hgrow hat hlt c0 c1 c2 c3 c4 c5 c6 c7 c8 c9 c10 c11 c12 c13 c14; obtain ⟨c0, c1, c2, c3, c4, c5, c6, c7, c8, c9, c10, c11, c12, c13, c14⟩ := nv15 HXw3.out)) | (at_builtin; have _t := tok3; go_loud (refine wpList_append_own_none rfl (.tmp 20) (.tmp 21) 30 rfl (w.heap.size + 1) 3 i0 1 Try.underlying30 hi0 (.slice (some ⟨g3, 0, none⟩) (0 + 1 + 1) capg3) (0 + 1 + 1) ([] ++ [.int .i64 i.a] ++ [.int .i64 i.b]) rfl HOw3.out rfl ?_; clear tok3)) | ((with_reducible refine (arguments_no i.kind w.heap.size 0 _ H8.out c0).mono ?_); rintro e w1 ⟨rfl, rfl⟩))
      go_ret
      exact ⟨_, rfl, ownsRow_le HOw3.out (by omega), HBw3.out⟩
theorem wpList_app_run {w : World} {ops : Array Oper} {rest : List Oper} {o : Oper} {a : Act} {Q : Exit → Act → World → Prop} (hgd : o.guard = none) (s x : Operand)
    (ho : o.op = .call { callee := .builtin .append, args := #[s, x], argTypes := #[30, 30] })
    (v u v' : Value) (hs : a.eval s = v) (hx : a.eval x = u) (hrun : ∀ ty, (Builtin.append_ #[30, 30] ty #[v, u]).run Try.prog w = .ok v' w)
    (h : wpList Try.prog ops Q rest (a.put o.dst v') w) : wpList Try.prog ops Q (o :: rest) a w := by
  refine wpList_plain hgd fun K hK => ?_
  have hr := hrun o.type
  unfold Oper.wp
  simp [execOp, ho, resolve, invoke, builtin, hs, hx, hr, Result.andThen]
  exact hK _ _ h
theorem nil_empty (w : World) (ty : TypeId) (b off c : Nat) : (Builtin.append_ #[30, 30] ty #[.slice none 0 0, .slice (some ⟨b, off, none⟩) 0 c]).run Try.prog w = .ok (.slice none 0 0) w := by
  have ht := Try.underlying30
  go_simp
theorem addK (b k j : Nat) : (⟨b, k, none⟩ : Addr).add j = ⟨b, k + j, none⟩ := by unfold Addr.add; split <;> simp_all
theorem argN_take (i : Ins) : i.args.take i.n.toNat = i.args.take (argN i.n) ∧ (i.args.take (argN i.n)).length = argN i.n := by
  have h6 : i.args.length = 6 := rfl
  unfold argN
  constructor
  · split
    · rw [show i.n.toNat = 0 by omega]
    · split
      · rw [List.take_of_length_le (by rw [h6]; omega), List.take_of_length_le (by rw [h6]; omega)]
      · rfl
  · rw [List.length_take, h6]
    split
    · omega
    · split
      · rfl
      · omega
set_option maxHeartbeats 4000000 in
theorem cuses_8 (i : Ins) (w : World) (h8 : i.kind = 8) : Calls Try.prog 59 #[inV i] w (ListPost (uses i) w) := by
  obtain ⟨i0, hi0, hz0, hz1, hz2⟩ := info_parts infoInt
  have HX := Lib.hid (heap_alloc_new w (inO i))
  have HB0 := Lib.hid ((Below.refl w.heap.size w).alloc (Nat.le_refl _) (inO i))
  obtain ⟨e1, e2⟩ := argN_take i
  have e : uses i = i.args.take (argN i.n) := by unfold uses; rw [h8]; simp [readsA, readsB, e1]
  obtain ⟨us, hus⟩ : ∃ us, i.args.take (argN i.n) = us := ⟨_, rfl⟩
  rw [e, hus]
  rw [hus] at e2
  have hcell : ∀ j u, (us.map (Value.int .i64))[j]? = some u → (w.alloc (inO i)).drew.cell? ⟨w.heap.size, 7 + j, none⟩ = some u := fun j u hu => by
    rw [cell_of_row (w.alloc (inO i)).drew w.heap.size (7 + j) _ _ _ HX.out]
    rw [← hus, List.getElem?_map, List.getElem?_take] at hu
    split at hu
    · rename_i hj
      have hj6 : j < 6 := by unfold argN at hj; split at hj <;> (try split at hj) <;> omega
      rcases (by omega : j = 0 ∨ j = 1 ∨ j = 2 ∨ j = 3 ∨ j = 4 ∨ j = 5) with rfl | rfl | rfl | rfl | rfl | rfl <;> simpa [Ins.args] using hu
    · simp at hu
  obtain ⟨kind, op, dst, a, b, n, text, x0, x1, x2, x3, x4, x5, dest, els⟩ := i
  simp only at h8 e2 hus
  subst h8
  obtain ⟨c0, c1, c2, c3, c4, c5, c6, c7, c8, c9, c10, c11, c12, c13, c14⟩ := nv15 HX.out
  have HC := Lib.hid hcell
  have HA : Hid (readsA 8 = false) := Lib.hid rfl
  have HB : Hid (readsB 8 = false) := Lib.hid rfl
  obtain ⟨q, hq⟩ : ∃ q, argN n = q := ⟨_, rfl⟩
  rw [hq] at e2
  have hq6 : q ≤ 6 := by rw [← hq]; unfold argN; split <;> (try split) <;> omega
  clear hcell hus e1 e
  by_cases h0 : q = 0
  · subst h0
    obtain rfl : us = [] := List.eq_nil_of_length_eq_zero e2
    go_enter Try.func59, Try.ntmps59
    go_wp2_with (first | ((with_reducible refine (ra_v _ false HA.out _).mono ?_); rintro e w1 ⟨rfl, rfl⟩) | ((with_reducible refine (rb_v _ false HB.out _).mono ?_); rintro e w1 ⟨rfl, rfl⟩) | ((with_reducible refine (arguments_8 n w.heap.size 0 _ c0 c5).mono ?_); rintro e w1 ⟨rfl, rfl⟩; rw [hq]) | (at_builtin; go_loud (refine wpList_app_run rfl (.tmp 20) (.tmp 21) rfl _ _ _ rfl rfl (fun ty => nil_empty _ ty w.heap.size _ 6) ?_)))
    go_ret
    exact list_nil (drW HB0.out)
  · have hq0 : 0 < q := by omega
    go_enter Try.func59, Try.ntmps59
    go_wp2_with (first | ((with_reducible refine (ra_v _ false HA.out _).mono ?_); rintro e w1 ⟨rfl, rfl⟩) | ((with_reducible refine (rb_v _ false HB.out _).mono ?_); rintro e w1 ⟨rfl, rfl⟩) | ((with_reducible refine (arguments_8 n w.heap.size 0 _ c0 c5).mono ?_); rintro e w1 ⟨rfl, rfl⟩; rw [hq]) | (at_builtin; go_loud (refine wpList_append_lies _ rfl (.tmp 20) (.tmp 21) 30 rfl (w.heap.size + 1) 3 i0 (.int .i64 0) 1 8 Try.underlying30 hi0 hz0 hz1 hz2 rfl (by decide) (.slice none 0 0) 0 [] rfl (World.ownsRow_nil _ _ _ _) ⟨w.heap.size, 0 + 7, none⟩ q 6 (us.map (Value.int .i64)) rfl (by rw [List.length_map, e2]; omega) (fun j u hu => by rw [addK]; exact HC.out j u hu) (fun u hu => by obtain ⟨y, _, rfl⟩ := List.mem_map.1 hu; simp [Value.oneCell']) hq0 (by unfold maxLen; omega) (by omega) (by simp) (w.heap.size + 1) (by simp) ?_; intro g2 cap2 w2 hown hgrow hat hlt; have HO2 := Lib.hid hown; have HB2 := Lib.hid ((drW HB0.out).grown hgrow (by simp) (fun q e => by simp [Value.ownBlock] at e)); clear hown hgrow hat hlt)))
    go_ret
    refine ⟨_, rfl, ?_, HB2.out⟩
    have h9 := ownsRow_le HO2.out (show w.heap.size ≤ w.heap.size + 1 by omega)
    simpa [e2] using h9
theorem cuses_any (i : Ins) (w : World) : Calls Try.prog 59 #[inV i] w (ListPost (uses i) w) := by
  by_cases h8 : i.kind = 8
  · exact cuses_8 i w h8
  · exact cuses_no i w h8
theorem csets_i (i : Ins) (w : World) : Calls Try.prog 60 #[inV i] w (RPost (.int .i64 (Cd.sets i)) w) := by
  obtain ⟨b, hb⟩ : ∃ b, setsB i.kind = b := ⟨_, rfl⟩
  have HB := Lib.hid hb
  obtain ⟨c0, c1, c2, c3, c4, c5, c6, c7, c8, c9, c10, c11, c12, c13, c14⟩ := nv15 (heap_alloc_new w (inO i))
  have HE : Hid (Cd.sets i = if b = true then i.dst else -1) := Lib.hid (by
    rw [← hb]
    unfold Cd.sets setsB inB
    by_cases h : (1 ≤ i.kind ∧ i.kind ≤ 6) ∨ i.kind = 8 ∨ i.kind = 9
    · rw [if_pos h, if_pos]; simp only [Bool.or_eq_true, Bool.and_eq_true, decide_eq_true_eq, beq_iff_eq]; omega
    · rw [if_neg h, if_neg]; simp only [Bool.or_eq_true, Bool.and_eq_true, decide_eq_true_eq, beq_iff_eq]; omega)
  clear hb
  cases b with
  | true =>
    go_enter Try.func60, Try.ntmps60
    go_wp2_with ((with_reducible refine (ss_v _ true HB.out _).mono ?_); rintro e w1 ⟨rfl, rfl⟩)
    go_ret
    exact ⟨by rw [HE.out]; rfl, (Below.refl w.heap.size w).alloc (Nat.le_refl _) _⟩
  | false =>
    go_enter Try.func60, Try.ntmps60
    go_wp2_with ((with_reducible refine (ss_v _ false HB.out _).mono ?_); rintro e w1 ⟨rfl, rfl⟩)
    go_ret
    exact ⟨by rw [HE.out]; rfl, (Below.refl w.heap.size w).alloc (Nat.le_refl _) _⟩
def steadyB (op : Int) : Bool := oneB op || (twoB op && !(decide (4 ≤ op) && decide (op ≤ 7)))
theorem steady_v (op : Int) (b : Bool) (h : steadyB op = b) (w : World) : Calls Try.prog 54 #[.int .i64 op] w fun e w' => e = .returned (.bool b) ∧ w = w' := by
  subst h
  obtain ⟨o, ho⟩ : ∃ o, oneB op = o := ⟨_, rfl⟩
  obtain ⟨t, ht⟩ : ∃ t, twoB op = t := ⟨_, rfl⟩
  have HO := Lib.hid ho; have HT := Lib.hid ht
  have HS : Hid (steadyB op = (o || (t && !(decide (4 ≤ op) && decide (op ≤ 7))))) := Lib.hid (by unfold steadyB; rw [ho, ht])
  rw [HS.out]
  clear ho ht
  by_cases h4 : 4 ≤ op
  · have t4 : decide ((4 : Int) ≤ op) = true := decide_eq_true h4
    by_cases h7 : op ≤ 7
    · have t7 : decide (op ≤ (7 : Int)) = true := decide_eq_true h7
      rw [t4, t7]
      cases o <;> cases t
      all_goals
        go_enter Try.func54, Try.ntmps54
        go_wp2_with (first | ((with_reducible refine (wone_v _ _ HO.out _).mono ?_); rintro e w1 ⟨rfl, rfl⟩) | ((with_reducible refine (wtwo_v _ _ HT.out _).mono ?_); rintro e w1 ⟨rfl, rfl⟩))
        go_ret
        exact ⟨rfl, rfl⟩
    · have t7 : decide (op ≤ (7 : Int)) = false := decide_eq_false h7
      rw [t4, t7]
      cases o <;> cases t
      all_goals
        go_enter Try.func54, Try.ntmps54
        go_wp2_with (first | ((with_reducible refine (wone_v _ _ HO.out _).mono ?_); rintro e w1 ⟨rfl, rfl⟩) | ((with_reducible refine (wtwo_v _ _ HT.out _).mono ?_); rintro e w1 ⟨rfl, rfl⟩))
        go_ret
        exact ⟨rfl, rfl⟩
  · have t4 : decide ((4 : Int) ≤ op) = false := decide_eq_false h4
    rw [t4]
    cases o <;> cases t
    all_goals
      go_enter Try.func54, Try.ntmps54
      go_wp2_with (first | ((with_reducible refine (wone_v _ _ HO.out _).mono ?_); rintro e w1 ⟨rfl, rfl⟩) | ((with_reducible refine (wtwo_v _ _ HT.out _).mono ?_); rintro e w1 ⟨rfl, rfl⟩))
      go_ret
      exact ⟨rfl, rfl⟩
theorem steady_pure {i : Ins} (h : i.kind = 3) : pureI i = steadyB i.op := by
  unfold pureI steadyB oneB twoB
  rw [h]
  rw [Bool.eq_iff_iff]
  simp [inB]
  omega
theorem lpure_any (i : Ins) (w : World) : Calls Try.prog 33 #[inV i] w (RPost (.bool (pureI i)) w) := by
  obtain ⟨c0, c1, c2, c3, c4, c5, c6, c7, c8, c9, c10, c11, c12, c13, c14⟩ := nv15 (heap_alloc_new w (inO i))
  have HB0 := Lib.hid ((Below.refl w.heap.size w).alloc (Nat.le_refl _) (inO i))
  by_cases h : i.kind = 1 ∨ i.kind = 2 ∨ i.kind = 4 ∨ i.kind = 5
  · have e : pureI i = true := by unfold pureI; simp [h]
    rw [e]; clear e
    obtain ⟨kind, op, dst, a, b, n, text, x0, x1, x2, x3, x4, x5, dest, els⟩ := i
    simp only at h
    rcases h with rfl | rfl | rfl | rfl
    all_goals
      go_enter Try.func33, Try.ntmps33
      go_wp2
      go_ret
      exact ⟨rfl, HB0.out⟩
  · by_cases h3 : i.kind = 3
    · rw [steady_pure h3]
      obtain ⟨b, hb⟩ : ∃ b, steadyB i.op = b := ⟨_, rfl⟩
      rw [hb]
      have HB := Lib.hid hb
      clear hb h
      obtain ⟨kind, op, dst, a, b', n, text, x0, x1, x2, x3, x4, x5, dest, els⟩ := i
      simp only at h3
      subst h3
      go_enter Try.func33, Try.ntmps33
      go_wp2_with ((with_reducible refine (steady_v _ b HB.out _).mono ?_); rintro e w1 ⟨rfl, rfl⟩)
      go_ret
      exact ⟨rfl, HB0.out⟩
    · have e : pureI i = false := by unfold pureI; simp; omega
      rw [e]; clear e
      simp only [not_or] at h
      obtain ⟨h1, h2, h4, h5⟩ := h
      have t1 : (i.kind == (1 : Int)) = false := by simpa using h1
      have t2 : (i.kind == (2 : Int)) = false := by simpa using h2
      have t3 : (i.kind == (3 : Int)) = false := by simpa using h3
      have t4 : (i.kind == (4 : Int)) = false := by simpa using h4
      have t5 : (i.kind == (5 : Int)) = false := by simpa using h5
      clear h1 h2 h3 h4 h5
      go_enter Try.func33, Try.ntmps33
      go_wp2
      go_ret
      exact ⟨rfl, HB0.out⟩
end Go.Proofs.Ytgnpbodhjmappaa
namespace Go.Proofs.Ytgnpbodhjmappaa
set_option maxRecDepth 100000
open Cd
section
variable {P : Program} {ops : Array Oper} {Q : Exit → Act → World → Prop} {md : Region.Mode}
theorem lacks_pos : ∀ (l : List Bool) (k : Nat), l[k]? = some false → 0 < lacks l := fun l k h => by
  have := lacks_set l k h; omega
theorem any_inv {J : Array Bool → Act → World → Prop}
    (hstep : ∀ listed a w i o, J listed a w → i ∈ Region.ready md ops listed → ops[i]? = some o → ∀ K' : Act → World → Prop, (∀ a' w', J (listed.setIfInBounds i true) a' w' → K' a' w') → if Region.wanted o (yielded ops a.tmps) = true then Oper.wp P o a w K' Q else K' (a.put o.dst undef) w)
    (hend : ∀ listed a w, J listed a w → Region.ready md ops listed = [] → Q .normal a w) :
    ∀ (fuel : Nat) (listed : Array Bool) (a : Act) (w : World), lacks listed.toList ≤ fuel → J listed a w → wpAny P md ops Q fuel listed a w
  | 0, listed, a, w, hl, hJ => by
    have hr : Region.ready md ops listed = [] := by
      rw [List.eq_nil_iff_forall_not_mem]
      intro i hi
      obtain ⟨hun, _⟩ := mem_ready.1 hi
      have : listed.toList[i]? = some false := by
        cases hc : listed[i]? with
        | none => simp [hc] at hun
        | some b => simp [hc] at hun; simp [hc, hun]
      have := lacks_pos _ _ this
      omega
    exact ⟨hr, hend listed a w hJ hr⟩
  | fuel + 1, listed, a, w, hl, hJ => by
    refine ⟨fun hr => hend listed a w hJ hr, fun i hi => ?_⟩
    obtain ⟨hun, o, ho, _⟩ := mem_ready.1 hi
    have hli : listed.toList[i]? = some false := by
      cases hc : listed[i]? with
      | none => simp [hc] at hun
      | some b => simp [hc] at hun; simp [hc, hun]
    have hset := lacks_set _ _ hli
    refine wpOp_step ho (fun K' hK => hstep listed a w i o hJ hi ho K' (fun a' w' hJ' => hK a' w' ?_))
    refine any_inv hstep hend fuel (listed.setIfInBounds i true) a' w' ?_ hJ'
    rw [Array.toList_setIfInBounds]
    omega
end
end Go.Proofs.Ytgnpbodhjmappaa
