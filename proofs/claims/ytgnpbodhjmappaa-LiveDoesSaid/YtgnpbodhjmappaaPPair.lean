/-
  A statement 'x, y := f(..), g(..)' of two results (structs of a row of bytes) that lie in boxes: a region that draws its order: the two calls come one behind the other, the boxes whenever they like.
-/
import Derived.Test.YtgnpbodhjmappaaPPE
import Derived.Test.YtgnpbodhjmappaaPLast
set_option linter.unusedVariables false
set_option linter.unusedSimpArgs false
namespace Go.Proofs.Ytgnpbodhjmappaa
open Go.RowKit Cd
section
variable {P : Program} {ops : Array Oper} {Q : Exit → Act → World → Prop} {md : Region.Mode} {S : World → Prop} {m : Nat}
theorem anyL_all {l : List Nat} {fuel : Nat} {listed : Array Bool} {a : Act} {w : World} (hr : Region.ready md ops listed = l) (hne : l ≠ [])
    (h : ∀ i ∈ l, ∃ o, ops[i]? = some o ∧ ∀ K' : Act → World → Prop, Shut (∀ a w, (i ≠ m → S w) → anyL P md ops Q S m fuel (listed.setIfInBounds i true) a w → K' a w) → if Region.wanted o (yielded ops a.tmps) = true then Oper.wp P o a w K' Q else K' (a.put o.dst undef) w) :
    anyL P md ops Q S m (fuel + 1) listed a w := by
  refine ⟨fun h0 => absurd (hr.symm.trans h0) hne, fun j hj => ?_⟩
  rw [hr] at hj
  obtain ⟨o, ho, hk⟩ := h j hj
  exact wpOp_step ho (fun K' hK => hk K' (fun a w hS hW => hK a w ⟨hS, hW⟩))
end
theorem put_comm {a : Act} {s t : Nat} (h : s ≠ t) (x y : Value) : (a.put (some s) x).put (some t) y = (a.put (some t) y).put (some s) x := by
  unfold Act.put
  simp only
  congr 1
  apply Array.ext_getElem?
  intro i
  by_cases e1 : t = i
  · subst e1
    rw [Array.getElem?_setIfInBounds_ne h, Array.getElem?_setIfInBounds_self, Array.getElem?_setIfInBounds_self]
    simp
  · rw [Array.getElem?_setIfInBounds_ne e1]
    by_cases e2 : s = i
    · subst e2
      rw [Array.getElem?_setIfInBounds_self, Array.getElem?_setIfInBounds_self]
      simp
    · rw [Array.getElem?_setIfInBounds_ne e2, Array.getElem?_setIfInBounds_ne e2, Array.getElem?_setIfInBounds_ne e1]
def putO (a : Act) (t : Nat) : Option Value → Act
  | none => a
  | some v => a.put (some t) v
theorem putO_comm {a : Act} {s t : Nat} (h : s ≠ t) (x : Value) (y : Option Value) : (putO a s y).put (some t) x = putO (a.put (some t) x) s y := by
  cases y with
  | none => rfl
  | some y => exact put_comm h y x
def A4 (a : Act) (tA tB tP tQ : Nat) (x y p q : Option Value) : Act := putO (putO (putO (putO a tA x) tB y) tP p) tQ q
theorem set_comm' (l : Array Bool) (i j : Nat) : (l.setIfInBounds i true).setIfInBounds j true = (l.setIfInBounds j true).setIfInBounds i true := by
  by_cases hij : i = j
  · rw [hij]
  apply Array.ext_getElem?
  intro k
  by_cases e1 : j = k
  · subst e1
    rw [Array.getElem?_setIfInBounds_ne hij, Array.getElem?_setIfInBounds_self, Array.getElem?_setIfInBounds_self]
    simp
  · rw [Array.getElem?_setIfInBounds_ne e1]
    by_cases e2 : i = k
    · subst e2
      rw [Array.getElem?_setIfInBounds_self, Array.getElem?_setIfInBounds_self]
      simp
    · rw [Array.getElem?_setIfInBounds_ne e2, Array.getElem?_setIfInBounds_ne e2, Array.getElem?_setIfInBounds_ne e1]
def setB (l : Array Bool) (i : Nat) (b : Bool) : Array Bool := if b then l.setIfInBounds i true else l
theorem setB_comm (l : Array Bool) (i j : Nat) (b : Bool) : (setB l i b).setIfInBounds j true = setB (l.setIfInBounds j true) i b := by
  unfold setB
  cases b
  · rfl
  · exact set_comm' l i j
def L4 (L0 : Array Bool) (iA iB iP iQ c : Nat) (p q : Bool) : Array Bool := setB (setB (setB (setB L0 iA (decide (1 ≤ c))) iB (decide (2 ≤ c))) iP p) iQ q
def exp4 (iA iB iP iQ iS c : Nat) (p q : Bool) : List Nat :=
  if c = 2 ∧ p = true ∧ q = true then [iS] else (if c = 0 then [iA] else if c = 1 then [iB] else []) ++ (if p then [] else [iP]) ++ (if q then [] else [iQ])
def check4 (md : Region.Mode) (ops : Array Oper) (L0 : Array Bool) (iA iB iP iQ iS : Nat) : Bool :=
  [0, 1, 2].all fun c => [false, true].all fun p => [false, true].all fun q => Region.ready md ops (L4 L0 iA iB iP iQ c p q) == exp4 iA iB iP iQ iS c p q
theorem check4_at {md : Region.Mode} {ops : Array Oper} {L0 : Array Bool} {iA iB iP iQ iS : Nat} (h : check4 md ops L0 iA iB iP iQ iS = true) {c : Nat} (hc : c ≤ 2) (p q : Bool) : Region.ready md ops (L4 L0 iA iB iP iQ c p q) = exp4 iA iB iP iQ iS c p q := by
  unfold check4 at h
  rw [List.all_eq_true] at h
  have h1 := h c (by simp; omega)
  rw [List.all_eq_true] at h1
  have h2 := h1 p (by cases p <;> simp)
  rw [List.all_eq_true] at h2
  have h3 := h2 q (by cases q <;> simp)
  exact eq_of_beq h3
def OwnB (w : World) (B : Nat) (r : Rsu) (s : Option Addr × Nat) : Prop := w.ownsRow B 5 1 (.slice s.1 r.out.length s.2) r.out.length (u8s r.out)
theorem OwnB.keep {w w' : World} {B : Nat} {r : Rsu} {s : Option Addr × Nat} (h : OwnB w B r s) (hb : Below w.heap.size w w') : OwnB w' B r s := own_keep h fun g hg => hb.block g (World.ownsRow.lt h g hg).2
structure StP (W2 : World) (x y : Rsu) (O : Obj) (X Y : Option (Option Addr × Nat)) (p q : Option Nat) (w : World) : Prop where
  bel : Below W2.heap.size W2 w
  ownX : ∀ s, X = some s → OwnB w W2.heap.size x s
  ownY : ∀ s, Y = some s → OwnB w W2.heap.size y s
  boxP : ∀ b, p = some b → w.heap[b]? = some O ∧ W2.heap.size ≤ b
  boxQ : ∀ b, q = some b → w.heap[b]? = some O ∧ W2.heap.size ≤ b
  pq : ∀ b d, p = some b → q = some d → b ≠ d
  xp : ∀ s g b, X = some s → s.1 = some g → p = some b → g.block ≠ b
  xq : ∀ s g b, X = some s → s.1 = some g → q = some b → g.block ≠ b
  yp : ∀ s g b, Y = some s → s.1 = some g → p = some b → g.block ≠ b
  yq : ∀ s g b, Y = some s → s.1 = some g → q = some b → g.block ≠ b
variable {W2 w w' : World} {x y : Rsu} {O : Obj} {X Y : Option (Option Addr × Nat)} {p q : Option Nat}
theorem StP.keep (h : StP W2 x y O X Y p q w) (hb : Below w.heap.size w w') : StP W2 x y O X Y p q w' :=
  ⟨h.bel.trans (hb.mono h.bel.size), fun s hs => (h.ownX s hs).keep hb, fun s hs => (h.ownY s hs).keep hb, fun b hp => ⟨(hb.block b (lt_heap (h.boxP b hp).1)).trans (h.boxP b hp).1, (h.boxP b hp).2⟩, fun b hp => ⟨(hb.block b (lt_heap (h.boxQ b hp).1)).trans (h.boxQ b hp).1, (h.boxQ b hp).2⟩, h.pq, h.xp, h.xq, h.yp, h.yq⟩
theorem OwnB.block {B : Nat} {r : Rsu} {s : Option Addr × Nat} (h : OwnB w B r s) {g : Addr} (hg : s.1 = some g) : B ≤ g.block ∧ g.block < w.heap.size := World.ownsRow.lt h g.block (by rw [hg]; rfl)
theorem StP.addX (h : StP W2 x y O none Y p q w) {s : Option Addr × Nat} (hb : Below w.heap.size w w') (hs : OwnB w' w.heap.size x s) : StP W2 x y O (some s) Y p q w' := by
  have h' := h.keep hb
  have hz := h.bel.size
  refine ⟨h'.bel, fun t ht => ?_, h'.ownY, h'.boxP, h'.boxQ, h'.pq, fun t g b ht hg hp => ?_, fun t g b ht hg hp => ?_, h'.yp, h'.yq⟩
  · injection ht with ht; subst ht; exact ownsRow_le hs hz
  · injection ht with ht; subst ht
    have := (hs.block hg).1
    have := lt_heap (h.boxP b hp).1
    omega
  · injection ht with ht; subst ht
    have := (hs.block hg).1
    have := lt_heap (h.boxQ b hp).1
    omega
theorem StP.addY (h : StP W2 x y O X none p q w) {s : Option Addr × Nat} (hb : Below w.heap.size w w') (hs : OwnB w' w.heap.size y s) : StP W2 x y O X (some s) p q w' := by
  have h' := h.keep hb
  have hz := h.bel.size
  refine ⟨h'.bel, h'.ownX, fun t ht => ?_, h'.boxP, h'.boxQ, h'.pq, h'.xp, h'.xq, fun t g b ht hg hp => ?_, fun t g b ht hg hp => ?_⟩
  · injection ht with ht; subst ht; exact ownsRow_le hs hz
  · injection ht with ht; subst ht
    have := (hs.block hg).1
    have := lt_heap (h.boxP b hp).1
    omega
  · injection ht with ht; subst ht
    have := (hs.block hg).1
    have := lt_heap (h.boxQ b hp).1
    omega
theorem StP.addP (h : StP W2 x y O X Y none q w) : StP W2 x y O X Y (some w.heap.size) q (w.alloc O) := by
  have h' := h.keep ((Below.refl w.heap.size w).alloc (Nat.le_refl _) O)
  refine ⟨h'.bel, h'.ownX, h'.ownY, fun b hb => ?_, h'.boxQ, fun b d hb hd => ?_, fun t g b ht hg hb => ?_, h'.xq, fun t g b ht hg hb => ?_, h'.yq⟩
  · injection hb with hb; subst hb; exact ⟨heap_alloc_new w O, h.bel.size⟩
  · injection hb with hb; subst hb
    have := lt_heap (h.boxQ d hd).1
    omega
  · injection hb with hb; subst hb
    have := ((h.ownX t ht).block hg).2
    omega
  · injection hb with hb; subst hb
    have := ((h.ownY t ht).block hg).2
    omega
theorem StP.addQ (h : StP W2 x y O X Y p none w) : StP W2 x y O X Y p (some w.heap.size) (w.alloc O) := by
  have h' := h.keep ((Below.refl w.heap.size w).alloc (Nat.le_refl _) O)
  refine ⟨h'.bel, h'.ownX, h'.ownY, h'.boxP, fun b hb => ?_, fun b d hb hd => ?_, h'.xp, fun t g b ht hg hb => ?_, h'.yp, fun t g b ht hg hb => ?_⟩
  · injection hb with hb; subst hb; exact ⟨heap_alloc_new w O, h.bel.size⟩
  · injection hd with hd; subst hd
    have := lt_heap (h.boxP b hb).1
    omega
  · injection hb with hb; subst hb
    have := ((h.ownX t ht).block hg).2
    omega
  · injection hb with hb; subst hb
    have := ((h.ownY t ht).block hg).2
    omega
def resX (r : Rsu) (s : Option Addr × Nat) : Value := .agg #[.int .i64 r.fin, .int .i64 r.code, .slice s.1 r.out.length s.2]
def ptrB (b : Nat) : Value := .pointer (some ⟨b, 0, none⟩)
theorem StP.both {s t : Option Addr × Nat} {b d : Nat} (h : StP W2 x y resO (some s) (some t) (some b) (some d) w) :
    let W4 := (((((w.setCell ⟨b, 0, none⟩ (.int .i64 x.fin)).setCell ⟨b, 1, none⟩ (.int .i64 x.code)).setCell ⟨b, 2, none⟩ (.slice s.1 x.out.length s.2)).setCell ⟨d, 0, none⟩ (.int .i64 y.fin)).setCell ⟨d, 1, none⟩ (.int .i64 y.code)).setCell ⟨d, 2, none⟩ (.slice t.1 y.out.length t.2)
    W4.heap[b]? = some (rsO x s.1 s.2) ∧ W4.heap[d]? = some (rsO y t.1 t.2) ∧ OwnB W4 W2.heap.size x s ∧ OwnB W4 W2.heap.size y t ∧ Below W2.heap.size W2 W4 := by
  intro W4
  have hbd := h.pq b d rfl rfl
  obtain ⟨p1, p2⟩ := h.boxP b rfl
  obtain ⟨q1, q2⟩ := h.boxQ d rfl
  refine ⟨?_, ?_, ?_, ?_, ?_⟩
  · exact (heap_other hbd).trans ((heap_other hbd).trans ((heap_other hbd).trans (cells_set (cells_set (cells_set p1 0 _) 1 _) 2 _)))
  · exact cells_set (cells_set (cells_set ((heap_other (fun e => hbd e.symm)).trans ((heap_other (fun e => hbd e.symm)).trans ((heap_other (fun e => hbd e.symm)).trans q1))) 0 _) 1 _) 2 _
  · refine own_keep (h.ownX s rfl) fun g hg => ?_
    cases hs : s.1 with
    | none => rw [hs] at hg; cases hg
    | some a =>
      rw [hs] at hg
      have e : a.block = g := by simpa [Value.ownBlock] using hg
      have n1 := h.xp s a b rfl hs rfl
      have n2 := h.xq s a d rfl hs rfl
      rw [e] at n1 n2
      exact (heap_other n2).trans ((heap_other n2).trans ((heap_other n2).trans ((heap_other n1).trans ((heap_other n1).trans (heap_other n1)))))
  · refine own_keep (h.ownY t rfl) fun g hg => ?_
    cases hs : t.1 with
    | none => rw [hs] at hg; cases hg
    | some a =>
      rw [hs] at hg
      have e : a.block = g := by simpa [Value.ownBlock] using hg
      have n1 := h.yp t a b rfl hs rfl
      have n2 := h.yq t a d rfl hs rfl
      rw [e] at n1 n2
      exact (heap_other n2).trans ((heap_other n2).trans ((heap_other n2).trans ((heap_other n1).trans ((heap_other n1).trans (heap_other n1)))))
  · exact (((((h.bel.setCell (show W2.heap.size ≤ b from p2) _).setCell (show W2.heap.size ≤ b from p2) _).setCell (show W2.heap.size ≤ b from p2) _).setCell (show W2.heap.size ≤ d from q2) _).setCell (show W2.heap.size ≤ d from q2) _).setCell (show W2.heap.size ≤ d from q2) _
theorem pair_run {P : Program} {ops : Array Oper} {Q : Exit → Act → World → Prop} {md : Region.Mode} {S : World → Prop} {m : Nat} {L0 : Array Bool} {a : Act} (W2 : World) (x y : Rsu) (O : Obj) (iA iB iP iQ iS tA tB tP tQ : Nat) (oA oB oP oQ : Oper)
    (hA : ops[iA]? = some oA) (hB : ops[iB]? = some oB) (hP : ops[iP]? = some oP) (hQ : ops[iQ]? = some oQ) (hm : iA ≠ m ∧ iB ≠ m ∧ iP ≠ m ∧ iQ ≠ m)
    (ht : tA ≠ tB ∧ tA ≠ tP ∧ tA ≠ tQ ∧ tB ≠ tP ∧ tB ≠ tQ ∧ tP ≠ tQ) (hch : check4 md ops L0 iA iB iP iQ iS = true) (hS : ∀ w, Below W2.heap.size W2 w → S w)
    (cA : ∀ (p q : Option Value) (w : World) (K' : Act → World → Prop), Below W2.heap.size W2 w → (∀ s w', OwnB w' w.heap.size x s → Below w.heap.size w w' → K' ((A4 a tA tB tP tQ none none p q).put (some tA) (resX x s)) w') → if Region.wanted oA (yielded ops (A4 a tA tB tP tQ none none p q).tmps) = true then Oper.wp P oA (A4 a tA tB tP tQ none none p q) w K' Q else K' ((A4 a tA tB tP tQ none none p q).put oA.dst undef) w)
    (cB : ∀ (v : Value) (p q : Option Value) (w : World) (K' : Act → World → Prop), Below W2.heap.size W2 w → (∀ s w', OwnB w' w.heap.size y s → Below w.heap.size w w' → K' ((A4 a tA tB tP tQ (some v) none p q).put (some tB) (resX y s)) w') → if Region.wanted oB (yielded ops (A4 a tA tB tP tQ (some v) none p q).tmps) = true then Oper.wp P oB (A4 a tA tB tP tQ (some v) none p q) w K' Q else K' ((A4 a tA tB tP tQ (some v) none p q).put oB.dst undef) w)
    (cP : ∀ (b : Act) (w : World) (K' : Act → World → Prop), K' (b.put (some tP) (ptrB w.heap.size)) (w.alloc O) → if Region.wanted oP (yielded ops b.tmps) = true then Oper.wp P oP b w K' Q else K' (b.put oP.dst undef) w)
    (cQ : ∀ (b : Act) (w : World) (K' : Act → World → Prop), K' (b.put (some tQ) (ptrB w.heap.size)) (w.alloc O) → if Region.wanted oQ (yielded ops b.tmps) = true then Oper.wp P oQ b w K' Q else K' (b.put oQ.dst undef) w)
    (f : Nat) (hend : ∀ (s t : Option Addr × Nat) (b d : Nat) (w : World), StP W2 x y O (some s) (some t) (some b) (some d) w → anyL P md ops Q S m f (L4 L0 iA iB iP iQ 2 true true) (A4 a tA tB tP tQ (some (resX x s)) (some (resX y t)) (some (ptrB b)) (some (ptrB d))) w) :
    ∀ (n : Nat) (c : Nat) (X Y : Option (Option Addr × Nat)) (p q : Option Nat) (w : World), c ≤ 2 → (X.isSome = decide (1 ≤ c)) → (Y.isSome = decide (2 ≤ c)) → n = (2 - c) + (if p.isSome then 0 else 1) + (if q.isSome then 0 else 1) → StP W2 x y O X Y p q w →
      anyL P md ops Q S m (n + f) (L4 L0 iA iB iP iQ c p.isSome q.isSome) (A4 a tA tB tP tQ (X.map (resX x)) (Y.map (resX y)) (p.map ptrB) (q.map ptrB)) w := by
  obtain ⟨t1, t2, t3, t4, t5, t6⟩ := ht
  intro n
  induction n with
  | zero =>
    intro c X Y p q w hc hX hY hn hst
    have hc2 : c = 2 := by omega
    subst hc2
    cases p with
    | none => exfalso; cases q <;> simp at hn
    | some b =>
      cases q with
      | none => simp at hn
      | some d =>
        cases X with
        | none => simp at hX
        | some s =>
          cases Y with
          | none => simp at hY
          | some t =>
            rw [Nat.zero_add]
            exact hend s t b d w hst
  | succ n ih =>
    intro c X Y p q w hc hX hY hn hst
    have hr := check4_at hch hc p.isSome q.isSome
    have hnf : ¬ (c = 2 ∧ p.isSome = true ∧ q.isSome = true) := by
      rintro ⟨h1, h2, h3⟩
      rw [h1, h2, h3] at hn
      simp at hn
    unfold exp4 at hr
    rw [if_neg hnf] at hr
    have hne : (if c = 0 then [iA] else if c = 1 then [iB] else []) ++ (if p.isSome then [] else [iP]) ++ (if q.isSome then [] else [iQ]) ≠ [] := by
      intro h0
      apply hnf
      have hcc : c = 0 ∨ c = 1 ∨ c = 2 := by omega
      cases hp : p.isSome <;> cases hq : q.isSome <;> rcases hcc with e | e | e <;> simp [e, hp, hq] at h0 ⊢
    rw [show n + 1 + f = (n + f) + 1 by omega]
    refine anyL_all hr hne fun i hi => ?_
    rcases List.mem_append.1 hi with hi | hi
    · rcases List.mem_append.1 hi with hi | hi
      · by_cases h0 : c = 0
        · rw [if_pos h0] at hi
          obtain rfl : i = iA := by simpa using hi
          subst h0
          cases X with
          | some s => simp at hX
          | none =>
            cases Y with
            | some s => simp at hY
            | none =>
              refine ⟨oA, hA, fun K' hK => cA (p.map ptrB) (q.map ptrB) w K' hst.bel fun s w' hs hb => ?_⟩
              have hst' := hst.addX hb hs
              refine hK.out _ _ (fun _ => hS _ hst'.bel) ?_
              have e1 : (L4 L0 i iB iP iQ 0 p.isSome q.isSome).setIfInBounds i true = L4 L0 i iB iP iQ 1 p.isSome q.isSome := by
                unfold L4
                rw [setB_comm, setB_comm, setB_comm]
                rfl
              have e2 : (A4 a tA tB tP tQ none none (p.map ptrB) (q.map ptrB)).put (some tA) (resX x s) = A4 a tA tB tP tQ ((some s).map (resX x)) (Option.map (resX y) none) (p.map ptrB) (q.map ptrB) := by
                unfold A4
                rw [putO_comm (fun e => t3 e.symm), putO_comm (fun e => t2 e.symm), putO_comm (fun e => t1 e.symm)]
                rfl
              rw [e1, e2]
              exact ih 1 (some s) none p q w' (by omega) rfl rfl (by omega) hst'
        · rw [if_neg h0] at hi
          by_cases h1 : c = 1
          · rw [if_pos h1] at hi
            obtain rfl : i = iB := by simpa using hi
            subst h1
            cases X with
            | none => simp at hX
            | some s0 =>
              cases Y with
              | some s => simp at hY
              | none =>
                refine ⟨oB, hB, fun K' hK => cB (resX x s0) (p.map ptrB) (q.map ptrB) w K' hst.bel fun s w' hs hb => ?_⟩
                have hst' := hst.addY hb hs
                refine hK.out _ _ (fun _ => hS _ hst'.bel) ?_
                have e1 : (L4 L0 iA i iP iQ 1 p.isSome q.isSome).setIfInBounds i true = L4 L0 iA i iP iQ 2 p.isSome q.isSome := by
                  unfold L4
                  rw [setB_comm, setB_comm]
                  rfl
                have e2 : (A4 a tA tB tP tQ (some (resX x s0)) none (p.map ptrB) (q.map ptrB)).put (some tB) (resX y s) = A4 a tA tB tP tQ ((some s0).map (resX x)) ((some s).map (resX y)) (p.map ptrB) (q.map ptrB) := by
                  unfold A4
                  rw [putO_comm (fun e => t5 e.symm), putO_comm (fun e => t4 e.symm)]
                  rfl
                rw [e1, e2]
                exact ih 2 (some s0) (some s) p q w' (by omega) rfl rfl (by omega) hst'
          · rw [if_neg h1] at hi
            simp at hi
      · cases p with
        | some b => simp at hi
        | none =>
          obtain rfl : i = iP := by simpa using hi
          refine ⟨oP, hP, fun K' hK => cP _ w K' ?_⟩
          have hst' := hst.addP
          refine hK.out _ _ (fun _ => hS _ hst'.bel) ?_
          have e1 : (L4 L0 iA iB i iQ c (none : Option Nat).isSome q.isSome).setIfInBounds i true = L4 L0 iA iB i iQ c (some w.heap.size).isSome q.isSome := by
            unfold L4
            rw [setB_comm]
            rfl
          have e2 : (A4 a tA tB tP tQ (X.map (resX x)) (Y.map (resX y)) (Option.map ptrB none) (q.map ptrB)).put (some tP) (ptrB w.heap.size) = A4 a tA tB tP tQ (X.map (resX x)) (Y.map (resX y)) ((some w.heap.size).map ptrB) (q.map ptrB) := by
            unfold A4
            rw [putO_comm (fun e => t6 e.symm)]
            rfl
          rw [e1, e2]
          exact ih c X Y (some w.heap.size) q _ hc hX hY (by simp at hn ⊢; omega) hst'
    · cases q with
      | some b => simp at hi
      | none =>
        obtain rfl : i = iQ := by simpa using hi
        refine ⟨oQ, hQ, fun K' hK => cQ _ w K' ?_⟩
        have hst' := hst.addQ
        refine hK.out _ _ (fun _ => hS _ hst'.bel) ?_
        have e1 : (L4 L0 iA iB iP i c p.isSome (none : Option Nat).isSome).setIfInBounds i true = L4 L0 iA iB iP i c p.isSome (some w.heap.size).isSome := by
          unfold L4
          rfl
        have e2 : (A4 a tA tB tP tQ (X.map (resX x)) (Y.map (resX y)) (p.map ptrB) (Option.map ptrB none)).put (some tQ) (ptrB w.heap.size) = A4 a tA tB tP tQ (X.map (resX x)) (Y.map (resX y)) (p.map ptrB) ((some w.heap.size).map ptrB) := by
          unfold A4
          rfl
        rw [e1, e2]
        exact ih c X Y p (some w.heap.size) _ hc hX hY (by simp at hn ⊢; omega) hst'
end Go.Proofs.Ytgnpbodhjmappaa
