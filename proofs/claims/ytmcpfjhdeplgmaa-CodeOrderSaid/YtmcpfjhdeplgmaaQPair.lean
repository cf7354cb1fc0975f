/-
  Contract of doppellaw07's Result.
  A statement 'x, y := f(..), g(..)' of two results (structs of a row of bytes) that lie in boxes: a region that draws its order: the two calls come one behind the other, the boxes whenever they like.
-/
import Derived.Test.YtmcpfjhdeplgmaaQRightA
import Derived.Test.YtmcpfjhdeplgmaaQPlaces
import Derived.Test.YtmcpfjhdeplgmaaQRuns
import Derived.Test.YtmcpfjhdeplgmaaQRun
import Derived.Test.YtmcpfjhdeplgmaaQBase
namespace Go.Proofs.Ytmcpfjhdeplgmaa
open Go.RowKit Cd
set_option linter.unusedVariables false
set_option linter.unusedSimpArgs false

/-- A row of bytes lies in memory. -/
def BytesAt (w : World) (a : Option Addr) (l : List UInt8) : Prop := RowAt w w.heap.size a (l.map fun c => Value.int .u8 c.toNat)
theorem BytesAt.below {w w' : World} {a : Option Addr} {l : List UInt8} (h : BytesAt w a l) (hb : Below w.heap.size w w') : BytesAt w' a l := RowAt.mono (RowAt.below h hb) hb.size (Nat.le_refl _)
theorem BytesAt.at {w : World} {a : Option Addr} {l : List UInt8} {k : Nat} {x : UInt8} (h : BytesAt w a l) (hk : l[k]? = some x) : ∃ b off, a = some ⟨b, off, none⟩ ∧ b < w.heap.size ∧ w.cell? ⟨b, off + k, none⟩ = some (.int .u8 x.toNat) := by
  have hlt := (List.getElem?_eq_some_iff.1 hk).1
  obtain ⟨b, off, ha, hb, _, hc⟩ := h (by rw [List.length_map]; omega)
  exact ⟨b, off, ha, hb, hc k _ (by rw [List.getElem?_map, hk]; rfl)⟩
abbrev rsV (r : Rsu) (a : Option Addr) (c : Nat) : Value := .agg #[.int .i64 r.fin, .int .i64 r.code, .slice a r.out.length c]
abbrev rsO (r : Rsu) (a : Option Addr) (c : Nat) : Obj := .cells #[.int .i64 r.fin, .int .i64 r.code, .slice a r.out.length c] 36
/-- Are results the same? -/
def Cd.sameR (x y : Rsu) : Bool := decide (x.fin = y.fin) && decide (x.code = y.code) && decide (x.out = y.out)
theorem take_moreB {l : List UInt8} {k : Nat} {x : UInt8} (h : l[k]? = some x) : l.take (k + 1) = l.take k ++ [x] := by
  obtain ⟨hk, hx⟩ := List.getElem?_eq_some_iff.1 h
  rw [List.take_succ_eq_append_getElem hk, hx]
set_option maxHeartbeats 4000000 in
theorem result_v (x y : Rsu) (xa ya : Option Addr) (xc yc : Nat) (m : Bool) (w : World) (hx : BytesAt w xa x.out) (hy : BytesAt w ya y.out) (hl : x.out.length ≤ maxLen) (hl2 : y.out.length ≤ maxLen) (hm : sameR x y = m) :
    Calls Try.prog 16 #[rsV x xa xc, rsV y ya yc] w (RPost (.bool m) w) := by
  unfold maxLen at hl hl2
  have HX := Lib.hid hx; have HY := Lib.hid hy; have HM := Lib.hid hm; clear hx hy hm
  by_cases y0 : x.fin = y.fin
  rotate_left
  · have t0 : (x.fin != y.fin) = true := by simpa using y0
    have E := Lib.hid (show m = false by rw [← HM.out]; unfold sameR; rw [decide_eq_false y0]; rfl)
    go_enter Try.func16, Try.ntmps16
    go_wp2
    go_ret
    exact ⟨by rw [E.out]; rfl, ((Below.refl _ _).alloc (Nat.le_refl _) _).alloc (by simp) _⟩
  have t0 : (x.fin != y.fin) = false := by simpa using y0
  by_cases y1 : x.code = y.code
  rotate_left
  · have t1 : (x.code != y.code) = true := by simpa using y1
    have E := Lib.hid (show m = false by rw [← HM.out]; unfold sameR; rw [decide_eq_false y1]; simp)
    go_enter Try.func16, Try.ntmps16
    go_wp2
    go_ret
    exact ⟨by rw [E.out]; rfl, ((Below.refl _ _).alloc (Nat.le_refl _) _).alloc (by simp) _⟩
  have t1 : (x.code != y.code) = false := by simpa using y1
  by_cases y2 : x.out.length = y.out.length
  rotate_left
  · have t2 : ((x.out.length : Int) != (y.out.length : Int)) = true := by simp; omega
    have E := Lib.hid (show m = false by rw [← HM.out]; unfold sameR; rw [decide_eq_false (show ¬ x.out = y.out from fun h => y2 (by rw [h]))]; simp)
    go_enter Try.func16, Try.ntmps16
    go_wp2
    go_ret
    exact ⟨by rw [E.out]; rfl, ((Below.refl _ _).alloc (Nat.le_refl _) _).alloc (by simp) _⟩
  have t2 : ((x.out.length : Int) != (y.out.length : Int)) = false := by simp; omega
  have HM2 := Lib.hid (show decide (x.out = y.out) = m by rw [← HM.out]; unfold sameR; rw [decide_eq_true y0, decide_eq_true y1]; simp)
  clear y0 y1 HM
  have HL := Lib.hid y2
  have y2' : y.out.length = x.out.length := y2.symm
  have hle : x.out.length ≤ y.out.length := by omega
  clear y2 y2'
  go_enter Try.func16, Try.ntmps16
  go_wp2
  go_loopw [30] (fun s30 wr => ∃ k : Nat, k ≤ x.out.length ∧ s30 = .int .i64 k ∧ Hid (Below w.heap.size w wr) ∧ Hid (wr.heap[w.heap.size]? = some (rsO x xa xc)) ∧ Hid (wr.heap[w.heap.size + 1]? = some (rsO y ya yc)) ∧ Hid (x.out.take k = y.out.take k)) (fun i wr => x.out.length - (intOf i).toNat)
  case atStart => exact ⟨0, by omega, rfl, Lib.hid (((Below.refl _ _).alloc (Nat.le_refl _) _).alloc (by simp) _), Lib.hid ((Below.heap_alloc _ _ _ (by simp)).trans (heap_alloc_new w _)), Lib.hid (by have := heap_alloc_new (w.alloc (rsO x xa xc)) (rsO y ya yc); rw [World.size_alloc] at this; exact this), Lib.hid (by simp)⟩
  case round =>
    obtain ⟨k, hk, rfl, HB, HW, HV, HA⟩ := hrel
    obtain ⟨d0, d1, d2⟩ := nv3 HW.out
    obtain ⟨e0, e1, e2⟩ := nv3 HV.out
    by_cases hlt : k < x.out.length
    · obtain ⟨u, hu⟩ : ∃ u, x.out[k]? = some u := ⟨_, List.getElem?_eq_getElem hlt⟩
      obtain ⟨v, hv⟩ : ∃ v, y.out[k]? = some v := ⟨_, List.getElem?_eq_getElem (by omega)⟩
      obtain ⟨b, off, hxa, hb, c0⟩ := (HX.out.below HB.out).at hu
      subst hxa
      obtain ⟨b2, off2, hya, hb2, c1⟩ := (HY.out.below HB.out).at hv
      subst hya
      have HU := Lib.hid hu; have HVV := Lib.hid hv; clear hu hv
      have p0 : (0 : Int) ≤ (k : Int) := Int.natCast_nonneg _
      have p1 : (k : Int) < (x.out.length : Int) := by omega
      have p2 : (k : Int) < (y.out.length : Int) := by omega
      by_cases huv : u = v
      · have t9 : (((u.toNat : Nat) : Int) != ((v.toNat : Nat) : Int)) = false := by simp [huv]
        have HA2 := Lib.hid (show x.out.take (k + 1) = y.out.take (k + 1) by have e1 := take_moreB HU.out; have e2 := take_moreB HVV.out; rw [e1, e2, HA.out, huv])
        clear huv
        go_wp2
        go_quiet (fail)
        go_wp2
        go_roundw
        case rel => exact ⟨k + 1, by omega, by go_num, Lib.hid (drN HB.out _), Lib.hid HW.out, Lib.hid HV.out, HA2⟩
        case measure => simp [intOf]; omega
      · have t9 : (((u.toNat : Nat) : Int) != ((v.toNat : Nat) : Int)) = true := by simp; intro h; exact huv (UInt8.toNat_inj.1 (by omega))
        have E := Lib.hid (show m = false by rw [← HM2.out]; exact decide_eq_false (fun h => huv (by have h1 := HU.out; rw [h, HVV.out] at h1; injection h1 with h1; exact h1.symm)))
        clear huv
        go_wp2
        go_quiet (fail)
        go_wp2
        go_ret
        exact ⟨by rw [E.out]; rfl, drN HB.out _⟩
    · obtain rfl : k = x.out.length := by omega
      have E := Lib.hid (show m = true by rw [← HM2.out]; exact decide_eq_true (by have h := HA.out; rw [List.take_length, HL.out, List.take_length] at h; exact h))
      go_wp2
      go_ret
      exact ⟨by rw [E.out]; rfl, HB.out⟩
end Go.Proofs.Ytmcpfjhdeplgmaa
namespace Go.Proofs.Ytmcpfjhdeplgmaa
open Go.RowKit Cd
set_option linter.unusedVariables false

theorem drW {B : Nat} {a w : World} (h : Below B a w) : Below B a w.drew := ⟨h.os, h.tape, h.output, h.size, h.block⟩
theorem region_lastS {P : Program} {ops : Array Oper} {Q : Exit → Act → World → Prop} {id : Nat} {a : Act} {w : World} (S : World → Prop) (m : Nat) (hm : P.follows .mixedOrders = true) (hS : S w.drew)
    (h : S w.drew → anyL P .any ops Q S m ops.size (Array.replicate ops.size false) a w.drew) : (Code.region id ops true).wp P Q a w := region_last S m hm (h hS)
theorem bytes_of_own {w : World} {B n c : Nat} {a : Option Addr} {l : List UInt8} (h : w.ownsRow B 5 1 (.slice a n c) n (u8s l)) : BytesAt w a l := by
  obtain ⟨hl, ⟨_, h0⟩ | ⟨g, cap, cur, hv, hg, hh, h1, h2, h3, ht⟩⟩ := h
  · intro hp
    rw [h0] at hl
    simp [u8s] at hl
    rw [hl] at hp
    simp at hp
  · intro hp
    injection hv with ha _ _
    refine ⟨g, 0, ha, lt_heap hh, Nat.le_refl _, fun j u hu => ?_⟩
    rw [cell_of_row w g _ _ _ _ hh]
    have hu' : (u8s l)[j]? = some u := hu
    rw [← ht] at hu'
    have hj : j < n * 1 := by
      have := (List.getElem?_eq_some_iff.1 hu').1
      rw [List.length_take] at this
      omega
    rw [List.getElem?_take_of_lt hj] at hu'
    rw [Nat.zero_add]
    simpa using hu'
theorem own_cap {w : World} {B n c : Nat} {e : TypeId} {a : Option Addr} {xs : List Value} (h : w.ownsRow B e 1 (.slice a n c) n xs) : n ≤ c ∧ c ≤ maxLen := by
  obtain ⟨_, ⟨hv, h0⟩ | ⟨g, cap, cur, hv, _, _, h1, h2, _⟩⟩ := h
  · injection hv with _ h3 h4
    subst h0
    rw [h4]
    exact ⟨Nat.le_refl _, by unfold maxLen; omega⟩
  · injection hv with _ _ h4
    rw [h4]
    exact ⟨h1, h2⟩
theorem BytesAt.take {w : World} {a : Option Addr} {l : List UInt8} (h : BytesAt w a l) (n : Nat) : BytesAt w a (l.take n) := by
  intro hp
  obtain ⟨b, off, ha, hb, hB, hc⟩ := h (by simp at hp ⊢; omega)
  refine ⟨b, off, ha, hb, hB, fun j u hu => hc j u ?_⟩
  rw [List.map_take] at hu
  have hj : j < n := by
    have := (List.getElem?_eq_some_iff.1 hu).1
    rw [List.length_take] at this
    omega
  rwa [List.getElem?_take_of_lt hj] at hu
section
variable {P : Program} {ops : Array Oper} {Q : Exit → Act → World → Prop} {md : Region.Mode} {S : World → Prop} {m : Nat}
/-- Whatever may come up. -/
theorem anyL_all {l : List Nat} {fuel : Nat} {listed : Array Bool} {a : Act} {w : World} (hr : Region.ready md ops listed = l) (hne : l ≠ [])
    (h : ∀ i ∈ l, ∃ o, ops[i]? = some o ∧ ∀ K' : Act → World → Prop, Shut (∀ a w, (i ≠ m → S w) → anyL P md ops Q S m fuel (listed.setIfInBounds i true) a w → K' a w) → if Region.wanted o (yielded ops a.tmps) = true then Oper.wp P o a w K' Q else K' (a.put o.dst undef) w) :
    anyL P md ops Q S m (fuel + 1) listed a w := by
  refine ⟨fun h0 => absurd (hr.symm.trans h0) hne, fun j hj => ?_⟩
  rw [hr] at hj
  obtain ⟨o, ho, hk⟩ := h j hj
  exact wpOp_step ho (fun K' hK => hk K' (fun a w hS hW => hK a w ⟨hS, hW⟩))
end
theorem put_comm {a : Act} {s t : Nat} (h : s ≠ t) (x y : Value) : (a.put (some s) x).put (some t) y = (a.put (some t) y).put (some s) x := by
  unfold Act.put
  simp only
  congr 1
  apply Array.ext_getElem?
  intro i
  by_cases e1 : t = i
  · subst e1
    rw [Array.getElem?_setIfInBounds_ne h, Array.getElem?_setIfInBounds_self, Array.getElem?_setIfInBounds_self]
    simp
  · rw [Array.getElem?_setIfInBounds_ne e1]
    by_cases e2 : s = i
    · subst e2
      rw [Array.getElem?_setIfInBounds_self, Array.getElem?_setIfInBounds_self]
      simp
    · rw [Array.getElem?_setIfInBounds_ne e2, Array.getElem?_setIfInBounds_ne e2, Array.getElem?_setIfInBounds_ne e1]
def putO (a : Act) (t : Nat) : Option Value → Act
  | none => a
  | some v => a.put (some t) v
theorem putO_comm {a : Act} {s t : Nat} (h : s ≠ t) (x : Value) (y : Option Value) : (putO a s y).put (some t) x = putO (a.put (some t) x) s y := by
  cases y with
  | none => rfl
  | some y => exact put_comm h y x
/-- The frame, with what is there so far. -/
def A4 (a : Act) (tA tB tP tQ : Nat) (x y p q : Option Value) : Act := putO (putO (putO (putO a tA x) tB y) tP p) tQ q
theorem set_comm' (l : Array Bool) (i j : Nat) : (l.setIfInBounds i true).setIfInBounds j true = (l.setIfInBounds j true).setIfInBounds i true := by
  by_cases hij : i = j
  · rw [hij]
  apply Array.ext_getElem?
  intro k
  by_cases e1 : j = k
  · subst e1
    rw [Array.getElem?_setIfInBounds_ne hij, Array.getElem?_setIfInBounds_self, Array.getElem?_setIfInBounds_self]
    simp
  · rw [Array.getElem?_setIfInBounds_ne e1]
    by_cases e2 : i = k
    · subst e2
      rw [Array.getElem?_setIfInBounds_self, Array.getElem?_setIfInBounds_self]
      simp
    · rw [Array.getElem?_setIfInBounds_ne e2, Array.getElem?_setIfInBounds_ne e2, Array.getElem?_setIfInBounds_ne e1]
def setB (l : Array Bool) (i : Nat) (b : Bool) : Array Bool := if b then l.setIfInBounds i true else l
theorem setB_comm (l : Array Bool) (i j : Nat) (b : Bool) : (setB l i b).setIfInBounds j true = setB (l.setIfInBounds j true) i b := by
  unfold setB
  cases b
  · rfl
  · exact set_comm' l i j
/-- What is done so far. -/
def L4 (L0 : Array Bool) (iA iB iP iQ c : Nat) (p q : Bool) : Array Bool := setB (setB (setB (setB L0 iA (decide (1 ≤ c))) iB (decide (2 ≤ c))) iP p) iQ q
def exp4 (iA iB iP iQ iS c : Nat) (p q : Bool) : List Nat :=
  if c = 2 ∧ p = true ∧ q = true then [iS] else (if c = 0 then [iA] else if c = 1 then [iB] else []) ++ (if p then [] else [iP]) ++ (if q then [] else [iQ])
/-- What may come up, whatever is done. -/
def check4 (md : Region.Mode) (ops : Array Oper) (L0 : Array Bool) (iA iB iP iQ iS : Nat) : Bool :=
  [0, 1, 2].all fun c => [false, true].all fun p => [false, true].all fun q => Region.ready md ops (L4 L0 iA iB iP iQ c p q) == exp4 iA iB iP iQ iS c p q
theorem check4_at {md : Region.Mode} {ops : Array Oper} {L0 : Array Bool} {iA iB iP iQ iS : Nat} (h : check4 md ops L0 iA iB iP iQ iS = true) {c : Nat} (hc : c ≤ 2) (p q : Bool) : Region.ready md ops (L4 L0 iA iB iP iQ c p q) = exp4 iA iB iP iQ iS c p q := by
  unfold check4 at h
  rw [List.all_eq_true] at h
  have h1 := h c (by simp; omega)
  rw [List.all_eq_true] at h1
  have h2 := h1 p (by cases p <;> simp)
  rw [List.all_eq_true] at h2
  have h3 := h2 q (by cases q <;> simp)
  exact eq_of_beq h3
def OwnB (w : World) (B : Nat) (r : Rsu) (s : Option Addr × Nat) : Prop := w.ownsRow B 5 1 (.slice s.1 r.out.length s.2) r.out.length (u8s r.out)
theorem OwnB.keep {w w' : World} {B : Nat} {r : Rsu} {s : Option Addr × Nat} (h : OwnB w B r s) (hb : Below w.heap.size w w') : OwnB w' B r s := own_keep h fun g hg => hb.block g (World.ownsRow.lt h g hg).2
/-- What is there so far, in memory. -/
structure StP (W2 : World) (x y : Rsu) (O : Obj) (X Y : Option (Option Addr × Nat)) (p q : Option Nat) (w : World) : Prop where
  bel : Below W2.heap.size W2 w
  ownX : ∀ s, X = some s → OwnB w W2.heap.size x s
  ownY : ∀ s, Y = some s → OwnB w W2.heap.size y s
  boxP : ∀ b, p = some b → w.heap[b]? = some O ∧ W2.heap.size ≤ b
  boxQ : ∀ b, q = some b → w.heap[b]? = some O ∧ W2.heap.size ≤ b
  pq : ∀ b d, p = some b → q = some d → b ≠ d
  xp : ∀ s g b, X = some s → s.1 = some g → p = some b → g.block ≠ b
  xq : ∀ s g b, X = some s → s.1 = some g → q = some b → g.block ≠ b
  yp : ∀ s g b, Y = some s → s.1 = some g → p = some b → g.block ≠ b
  yq : ∀ s g b, Y = some s → s.1 = some g → q = some b → g.block ≠ b
variable {W2 w w' : World} {x y : Rsu} {O : Obj} {X Y : Option (Option Addr × Nat)} {p q : Option Nat}
theorem StP.keep (h : StP W2 x y O X Y p q w) (hb : Below w.heap.size w w') : StP W2 x y O X Y p q w' :=
  ⟨h.bel.trans (hb.mono h.bel.size), fun s hs => (h.ownX s hs).keep hb, fun s hs => (h.ownY s hs).keep hb, fun b hp => ⟨(hb.block b (lt_heap (h.boxP b hp).1)).trans (h.boxP b hp).1, (h.boxP b hp).2⟩, fun b hp => ⟨(hb.block b (lt_heap (h.boxQ b hp).1)).trans (h.boxQ b hp).1, (h.boxQ b hp).2⟩, h.pq, h.xp, h.xq, h.yp, h.yq⟩
theorem OwnB.block {B : Nat} {r : Rsu} {s : Option Addr × Nat} (h : OwnB w B r s) {g : Addr} (hg : s.1 = some g) : B ≤ g.block ∧ g.block < w.heap.size := World.ownsRow.lt h g.block (by rw [hg]; rfl)
theorem StP.addX (h : StP W2 x y O none Y p q w) {s : Option Addr × Nat} (hb : Below w.heap.size w w') (hs : OwnB w' w.heap.size x s) : StP W2 x y O (some s) Y p q w' := by
  have h' := h.keep hb
  have hz := h.bel.size
  refine ⟨h'.bel, fun t ht => ?_, h'.ownY, h'.boxP, h'.boxQ, h'.pq, fun t g b ht hg hp => ?_, fun t g b ht hg hp => ?_, h'.yp, h'.yq⟩
  · injection ht with ht; subst ht; exact ownsRow_le hs hz
  · injection ht with ht; subst ht
    have := (hs.block hg).1
    have := lt_heap (h.boxP b hp).1
    omega
  · injection ht with ht; subst ht
    have := (hs.block hg).1
    have := lt_heap (h.boxQ b hp).1
    omega
theorem StP.addY (h : StP W2 x y O X none p q w) {s : Option Addr × Nat} (hb : Below w.heap.size w w') (hs : OwnB w' w.heap.size y s) : StP W2 x y O X (some s) p q w' := by
  have h' := h.keep hb
  have hz := h.bel.size
  refine ⟨h'.bel, h'.ownX, fun t ht => ?_, h'.boxP, h'.boxQ, h'.pq, h'.xp, h'.xq, fun t g b ht hg hp => ?_, fun t g b ht hg hp => ?_⟩
  · injection ht with ht; subst ht; exact ownsRow_le hs hz
  · injection ht with ht; subst ht
    have := (hs.block hg).1
    have := lt_heap (h.boxP b hp).1
    omega
  · injection ht with ht; subst ht
    have := (hs.block hg).1
    have := lt_heap (h.boxQ b hp).1
    omega
theorem StP.addP (h : StP W2 x y O X Y none q w) : StP W2 x y O X Y (some w.heap.size) q (w.alloc O) := by
  have h' := h.keep ((Below.refl w.heap.size w).alloc (Nat.le_refl _) O)
  refine ⟨h'.bel, h'.ownX, h'.ownY, fun b hb => ?_, h'.boxQ, fun b d hb hd => ?_, fun t g b ht hg hb => ?_, h'.xq, fun t g b ht hg hb => ?_, h'.yq⟩
  · injection hb with hb; subst hb; exact ⟨heap_alloc_new w O, h.bel.size⟩
  · injection hb with hb; subst hb
    have := lt_heap (h.boxQ d hd).1
    omega
  · injection hb with hb; subst hb
    have := ((h.ownX t ht).block hg).2
    omega
  · injection hb with hb; subst hb
    have := ((h.ownY t ht).block hg).2
    omega
theorem StP.addQ (h : StP W2 x y O X Y p none w) : StP W2 x y O X Y p (some w.heap.size) (w.alloc O) := by
  have h' := h.keep ((Below.refl w.heap.size w).alloc (Nat.le_refl _) O)
  refine ⟨h'.bel, h'.ownX, h'.ownY, h'.boxP, fun b hb => ?_, fun b d hb hd => ?_, h'.xp, fun t g b ht hg hb => ?_, h'.yp, fun t g b ht hg hb => ?_⟩
  · injection hb with hb; subst hb; exact ⟨heap_alloc_new w O, h.bel.size⟩
  · injection hd with hd; subst hd
    have := lt_heap (h.boxP b hb).1
    omega
  · injection hb with hb; subst hb
    have := ((h.ownX t ht).block hg).2
    omega
  · injection hb with hb; subst hb
    have := ((h.ownY t ht).block hg).2
    omega
def resX (r : Rsu) (s : Option Addr × Nat) : Value := .agg #[.int .i64 r.fin, .int .i64 r.code, .slice s.1 r.out.length s.2]
def ptrB (b : Nat) : Value := .pointer (some ⟨b, 0, none⟩)
/-- Both results lie in their boxes. -/
theorem StP.both {s t : Option Addr × Nat} {b d : Nat} (h : StP W2 x y resO7 (some s) (some t) (some b) (some d) w) :
    let W4 := (((((w.setCell ⟨b, 0, none⟩ (.int .i64 x.fin)).setCell ⟨b, 1, none⟩ (.int .i64 x.code)).setCell ⟨b, 2, none⟩ (.slice s.1 x.out.length s.2)).setCell ⟨d, 0, none⟩ (.int .i64 y.fin)).setCell ⟨d, 1, none⟩ (.int .i64 y.code)).setCell ⟨d, 2, none⟩ (.slice t.1 y.out.length t.2)
    W4.heap[b]? = some (rsO x s.1 s.2) ∧ W4.heap[d]? = some (rsO y t.1 t.2) ∧ OwnB W4 W2.heap.size x s ∧ OwnB W4 W2.heap.size y t ∧ Below W2.heap.size W2 W4 := by
  intro W4
  have hbd := h.pq b d rfl rfl
  obtain ⟨p1, p2⟩ := h.boxP b rfl
  obtain ⟨q1, q2⟩ := h.boxQ d rfl
  refine ⟨?_, ?_, ?_, ?_, ?_⟩
  · exact (heap_other7 hbd).trans ((heap_other7 hbd).trans ((heap_other7 hbd).trans (cells_set (cells_set (cells_set p1 0 _) 1 _) 2 _)))
  · exact cells_set (cells_set (cells_set ((heap_other7 (fun e => hbd e.symm)).trans ((heap_other7 (fun e => hbd e.symm)).trans ((heap_other7 (fun e => hbd e.symm)).trans q1))) 0 _) 1 _) 2 _
  · refine own_keep (h.ownX s rfl) fun g hg => ?_
    cases hs : s.1 with
    | none => rw [hs] at hg; cases hg
    | some a =>
      rw [hs] at hg
      have e : a.block = g := by simpa [Value.ownBlock] using hg
      have n1 := h.xp s a b rfl hs rfl
      have n2 := h.xq s a d rfl hs rfl
      rw [e] at n1 n2
      exact (heap_other7 n2).trans ((heap_other7 n2).trans ((heap_other7 n2).trans ((heap_other7 n1).trans ((heap_other7 n1).trans (heap_other7 n1)))))
  · refine own_keep (h.ownY t rfl) fun g hg => ?_
    cases hs : t.1 with
    | none => rw [hs] at hg; cases hg
    | some a =>
      rw [hs] at hg
      have e : a.block = g := by simpa [Value.ownBlock] using hg
      have n1 := h.yp t a b rfl hs rfl
      have n2 := h.yq t a d rfl hs rfl
      rw [e] at n1 n2
      exact (heap_other7 n2).trans ((heap_other7 n2).trans ((heap_other7 n2).trans ((heap_other7 n1).trans ((heap_other7 n1).trans (heap_other7 n1)))))
  · exact (((((h.bel.setCell (show W2.heap.size ≤ b from p2) _).setCell (show W2.heap.size ≤ b from p2) _).setCell (show W2.heap.size ≤ b from p2) _).setCell (show W2.heap.size ≤ d from q2) _).setCell (show W2.heap.size ≤ d from q2) _).setCell (show W2.heap.size ≤ d from q2) _
/-- Two calls and two boxes, in whatever order. -/
theorem pair_run {P : Program} {ops : Array Oper} {Q : Exit → Act → World → Prop} {md : Region.Mode} {S : World → Prop} {m : Nat} {L0 : Array Bool} {a : Act} (W2 : World) (x y : Rsu) (O : Obj) (iA iB iP iQ iS tA tB tP tQ : Nat) (oA oB oP oQ : Oper)
    (hA : ops[iA]? = some oA) (hB : ops[iB]? = some oB) (hP : ops[iP]? = some oP) (hQ : ops[iQ]? = some oQ) (hm : iA ≠ m ∧ iB ≠ m ∧ iP ≠ m ∧ iQ ≠ m)
    (ht : tA ≠ tB ∧ tA ≠ tP ∧ tA ≠ tQ ∧ tB ≠ tP ∧ tB ≠ tQ ∧ tP ≠ tQ) (hch : check4 md ops L0 iA iB iP iQ iS = true) (hS : ∀ w, Below W2.heap.size W2 w → S w)
    (cA : ∀ (p q : Option Value) (w : World) (K' : Act → World → Prop), Below W2.heap.size W2 w → (∀ s w', OwnB w' w.heap.size x s → Below w.heap.size w w' → K' ((A4 a tA tB tP tQ none none p q).put (some tA) (resX x s)) w') → if Region.wanted oA (yielded ops (A4 a tA tB tP tQ none none p q).tmps) = true then Oper.wp P oA (A4 a tA tB tP tQ none none p q) w K' Q else K' ((A4 a tA tB tP tQ none none p q).put oA.dst undef) w)
    (cB : ∀ (v : Value) (p q : Option Value) (w : World) (K' : Act → World → Prop), Below W2.heap.size W2 w → (∀ s w', OwnB w' w.heap.size y s → Below w.heap.size w w' → K' ((A4 a tA tB tP tQ (some v) none p q).put (some tB) (resX y s)) w') → if Region.wanted oB (yielded ops (A4 a tA tB tP tQ (some v) none p q).tmps) = true then Oper.wp P oB (A4 a tA tB tP tQ (some v) none p q) w K' Q else K' ((A4 a tA tB tP tQ (some v) none p q).put oB.dst undef) w)
    (cP : ∀ (b : Act) (w : World) (K' : Act → World → Prop), K' (b.put (some tP) (ptrB w.heap.size)) (w.alloc O) → if Region.wanted oP (yielded ops b.tmps) = true then Oper.wp P oP b w K' Q else K' (b.put oP.dst undef) w)
    (cQ : ∀ (b : Act) (w : World) (K' : Act → World → Prop), K' (b.put (some tQ) (ptrB w.heap.size)) (w.alloc O) → if Region.wanted oQ (yielded ops b.tmps) = true then Oper.wp P oQ b w K' Q else K' (b.put oQ.dst undef) w)
    (f : Nat) (hend : ∀ (s t : Option Addr × Nat) (b d : Nat) (w : World), StP W2 x y O (some s) (some t) (some b) (some d) w → anyL P md ops Q S m f (L4 L0 iA iB iP iQ 2 true true) (A4 a tA tB tP tQ (some (resX x s)) (some (resX y t)) (some (ptrB b)) (some (ptrB d))) w) :
    ∀ (n : Nat) (c : Nat) (X Y : Option (Option Addr × Nat)) (p q : Option Nat) (w : World), c ≤ 2 → (X.isSome = decide (1 ≤ c)) → (Y.isSome = decide (2 ≤ c)) → n = (2 - c) + (if p.isSome then 0 else 1) + (if q.isSome then 0 else 1) → StP W2 x y O X Y p q w →
      anyL P md ops Q S m (n + f) (L4 L0 iA iB iP iQ c p.isSome q.isSome) (A4 a tA tB tP tQ (X.map (resX x)) (Y.map (resX y)) (p.map ptrB) (q.map ptrB)) w := by
  obtain ⟨t1, t2, t3, t4, t5, t6⟩ := ht
  intro n
  induction n with
  | zero =>
    intro c X Y p q w hc hX hY hn hst
    have hc2 : c = 2 := by omega
    subst hc2
    cases p with
    | none => exfalso; cases q <;> simp at hn
    | some b =>
      cases q with
      | none => simp at hn
      | some d =>
        cases X with
        | none => simp at hX
        | some s =>
          cases Y with
          | none => simp at hY
          | some t =>
            rw [Nat.zero_add]
            exact hend s t b d w hst
  | succ n ih =>
    intro c X Y p q w hc hX hY hn hst
    have hr := check4_at hch hc p.isSome q.isSome
    have hnf : ¬ (c = 2 ∧ p.isSome = true ∧ q.isSome = true) := by
      rintro ⟨h1, h2, h3⟩
      rw [h1, h2, h3] at hn
      simp at hn
    unfold exp4 at hr
    rw [if_neg hnf] at hr
    have hne : (if c = 0 then [iA] else if c = 1 then [iB] else []) ++ (if p.isSome then [] else [iP]) ++ (if q.isSome then [] else [iQ]) ≠ [] := by
      intro h0
      apply hnf
      have hcc : c = 0 ∨ c = 1 ∨ c = 2 := by omega
      cases hp : p.isSome <;> cases hq : q.isSome <;> rcases hcc with e | e | e <;> simp [e, hp, hq] at h0 ⊢
    rw [show n + 1 + f = (n + f) + 1 by omega]
    refine anyL_all hr hne fun i hi => ?_
    rcases List.mem_append.1 hi with hi | hi
    · rcases List.mem_append.1 hi with hi | hi
      · by_cases h0 : c = 0
        · rw [if_pos h0] at hi
          obtain rfl : i = iA := by simpa using hi
          subst h0
          cases X with
          | some s => simp at hX
          | none =>
            cases Y with
            | some s => simp at hY
            | none =>
              refine ⟨oA, hA, fun K' hK => cA (p.map ptrB) (q.map ptrB) w K' hst.bel fun s w' hs hb => ?_⟩
              have hst' := hst.addX hb hs
              refine hK.out _ _ (fun _ => hS _ hst'.bel) ?_
              have e1 : (L4 L0 i iB iP iQ 0 p.isSome q.isSome).setIfInBounds i true = L4 L0 i iB iP iQ 1 p.isSome q.isSome := by
                unfold L4
                rw [setB_comm, setB_comm, setB_comm]
                rfl
              have e2 : (A4 a tA tB tP tQ none none (p.map ptrB) (q.map ptrB)).put (some tA) (resX x s) = A4 a tA tB tP tQ ((some s).map (resX x)) (Option.map (resX y) none) (p.map ptrB) (q.map ptrB) := by
                unfold A4
                rw [putO_comm (fun e => t3 e.symm), putO_comm (fun e => t2 e.symm), putO_comm (fun e => t1 e.symm)]
                rfl
              rw [e1, e2]
              exact ih 1 (some s) none p q w' (by omega) rfl rfl (by omega) hst'
        · rw [if_neg h0] at hi
          by_cases h1 : c = 1
          · rw [if_pos h1] at hi
            obtain rfl : i = iB := by simpa using hi
            subst h1
            cases X with
            | none => simp at hX
            | some s0 =>
              cases Y with
              | some s => simp at hY
              | none =>
                refine ⟨oB, hB, fun K' hK => cB (resX x s0) (p.map ptrB) (q.map ptrB) w K' hst.bel fun s w' hs hb => ?_⟩
                have hst' := hst.addY hb hs
                refine hK.out _ _ (fun _ => hS _ hst'.bel) ?_
                have e1 : (L4 L0 iA i iP iQ 1 p.isSome q.isSome).setIfInBounds i true = L4 L0 iA i iP iQ 2 p.isSome q.isSome := by
                  unfold L4
                  rw [setB_comm, setB_comm]
                  rfl
                have e2 : (A4 a tA tB tP tQ (some (resX x s0)) none (p.map ptrB) (q.map ptrB)).put (some tB) (resX y s) = A4 a tA tB tP tQ ((some s0).map (resX x)) ((some s).map (resX y)) (p.map ptrB) (q.map ptrB) := by
                  unfold A4
                  rw [putO_comm (fun e => t5 e.symm), putO_comm (fun e => t4 e.symm)]
                  rfl
                rw [e1, e2]
                exact ih 2 (some s0) (some s) p q w' (by omega) rfl rfl (by omega) hst'
          · rw [if_neg h1] at hi
            simp at hi
      · cases p with
        | some b => simp at hi
        | none =>
          obtain rfl : i = iP := by simpa using hi
          refine ⟨oP, hP, fun K' hK => cP _ w K' ?_⟩
          have hst' := hst.addP
          refine hK.out _ _ (fun _ => hS _ hst'.bel) ?_
          have e1 : (L4 L0 iA iB i iQ c (none : Option Nat).isSome q.isSome).setIfInBounds i true = L4 L0 iA iB i iQ c (some w.heap.size).isSome q.isSome := by
            unfold L4
            rw [setB_comm]
            rfl
          have e2 : (A4 a tA tB tP tQ (X.map (resX x)) (Y.map (resX y)) (Option.map ptrB none) (q.map ptrB)).put (some tP) (ptrB w.heap.size) = A4 a tA tB tP tQ (X.map (resX x)) (Y.map (resX y)) ((some w.heap.size).map ptrB) (q.map ptrB) := by
            unfold A4
            rw [putO_comm (fun e => t6 e.symm)]
            rfl
          rw [e1, e2]
          exact ih c X Y (some w.heap.size) q _ hc hX hY (by simp at hn ⊢; omega) hst'
    · cases q with
      | some b => simp at hi
      | none =>
        obtain rfl : i = iQ := by simpa using hi
        refine ⟨oQ, hQ, fun K' hK => cQ _ w K' ?_⟩
        have hst' := hst.addQ
        refine hK.out _ _ (fun _ => hS _ hst'.bel) ?_
        have e1 : (L4 L0 iA iB iP i c p.isSome (none : Option Nat).isSome).setIfInBounds i true = L4 L0 iA iB iP i c p.isSome (some w.heap.size).isSome := by
          unfold L4
          rfl
        have e2 : (A4 a tA tB tP tQ (X.map (resX x)) (Y.map (resX y)) (p.map ptrB) (Option.map ptrB none)).put (some tQ) (ptrB w.heap.size) = A4 a tA tB tP tQ (X.map (resX x)) (Y.map (resX y)) (p.map ptrB) ((some w.heap.size).map ptrB) := by
          unfold A4
          rfl
        rw [e1, e2]
        exact ih c X Y p (some w.heap.size) _ hc hX hY (by simp at hn ⊢; omega) hst'
end Go.Proofs.Ytmcpfjhdeplgmaa
