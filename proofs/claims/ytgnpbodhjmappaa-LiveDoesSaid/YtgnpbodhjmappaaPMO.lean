/-
  Layer 10: what goes when a register's dead instructions go, on lists: whatever the order.
-/
import Derived.Test.YtgnpbodhjmappaaPMI
import Derived.Test.YtgnpbodhjmappaaPLG
import Derived.Test.YtgnpbodhjmappaaPG10Reach
set_option linter.unusedVariables false
set_option linter.unusedSimpArgs false
namespace Go.Proofs.Ytgnpbodhjmappaa.Cd
theorem keptOf_set (gone : List Bool) (p : Nat) : keptOf (gone.set p true) = (keptOf gone).set p false := by
  unfold keptOf
  rw [List.map_set]; rfl
theorem live_set {c : List Ins} {gone : List Bool} {p : Nat} {i : Ins} {z q : Int} (hc : c[p]? = some i) (hz : z ∉ uses i) (h : LiveN c (goneOf (keptOf gone)) z q) : LiveN c (goneOf (keptOf (gone.set p true))) z q := by
  induction h with
  | @here x j h1 h2 h3 =>
    by_cases e : p = x.toNat
    · subst e
      rw [h1] at hc
      injection hc with hc
      subst hc
      exact absurd h3 hz
    · refine .here h1 (fun hg => h2 ?_) h3
      unfold goneOf at hg ⊢
      rw [keptOf_set, List.getElem?_set_ne e] at hg
      exact hg
  | on h1 h2 h3 _ ih => exact .on h1 h2 h3 ih
theorem beh_set {c : List Ins} {gone : List Bool} {p : Nat} {i : Ins} {z q : Int} (hc : c[p]? = some i) (hz : z ∉ uses i) (h : BehN c (goneOf (keptOf gone)) z q) : BehN c (goneOf (keptOf (gone.set p true))) z q := by
  obtain ⟨y, h1, h2⟩ := h
  exact ⟨y, h1, live_set hc hz h2⟩
theorem beh_back {c : List Ins} {gone : List Bool} {p : Nat} {z q : Int} (h : BehN c (goneOf (keptOf (gone.set p true))) z q) : BehN c (goneOf (keptOf gone)) z q :=
  h.mono (fun x hx => by rw [keptOf_set]; exact goneOf_set hx)
theorem getD_set_self {gone : List Bool} {p : Nat} (hp : p < gone.length) : (gone.set p true).getD p false = true := by
  rw [List.getD_eq_getElem?_getD, List.getElem?_set_self hp]; rfl
theorem getD_set_ne {gone : List Bool} {p q : Nat} (h : p ≠ q) : (gone.set p true).getD q false = gone.getD q false := by
  rw [List.getD_eq_getElem?_getD, List.getElem?_set_ne h, ← List.getD_eq_getElem?_getD]
theorem deadO_set {c : List Ins} {gone : List Bool} (hcl : Closed c) (hg : gone.length = c.length) {p : Nat} {i : Ins} {z : Int} (hc : c[p]? = some i) (hz : z ∉ uses i) {y : Int} (hy : y ∈ deadO c (gone.set p true) z) : y ∈ deadO c gone z ∧ y ≠ (p : Int) := by
  obtain ⟨q, j, h1, h2, h3, h4, h5, h6⟩ := (deadO_mem hcl (by simpa using hg)).1 hy
  have hne : p ≠ q := by
    rintro rfl
    rw [getD_set_self (by rw [hg]; exact (List.getElem?_eq_some_iff.1 hc).1)] at h5
    cases h5
  rw [getD_set_ne hne] at h5
  exact ⟨(deadO_mem hcl hg).2 ⟨q, j, h1, h2, h3, h4, h5, fun hb => h6 (beh_set hc hz hb)⟩, by omega⟩
def manyK (gone : List Bool) : Nat := ((keptOf gone).filter id).length
theorem manyK_le (gone : List Bool) : manyK gone ≤ gone.length := by
  unfold manyK keptOf
  have := List.length_filter_le id (gone.map (fun b => !b))
  simpa using this
theorem manyK_set : ∀ (gone : List Bool) (p : Nat), p < gone.length → gone.getD p false = false → manyK (gone.set p true) + 1 = manyK gone
  | [], p, h, _ => by simp at h
  | b :: g, 0, _, h => by
    simp at h
    subst h
    simp [manyK, keptOf]
  | b :: g, p + 1, h, h2 => by
    have ih := manyK_set g p (by simpa using h) (by simpa using h2)
    unfold manyK keptOf at ih ⊢
    cases b <;> simp at ih ⊢ <;> omega
def addS (ks : List Int) (x : Int) : List Int := if ks.contains x = true then ks else ks ++ [x]
theorem addS_mem {ks : List Int} {x y : Int} : y ∈ addS ks x ↔ y ∈ ks ∨ y = x := by
  unfold addS
  split
  · rename_i h
    exact ⟨.inl, fun hh => hh.elim id (fun e => by rw [e]; exact List.contains_iff_mem.1 h)⟩
  · simp
def addsS (ks : List Int) (l : List Int) : List Int := l.foldl addS ks
theorem addsS_mem {l : List Int} : ∀ {ks : List Int} {y : Int}, y ∈ addsS ks l ↔ y ∈ ks ∨ y ∈ l := by
  induction l with
  | nil => intro ks y; simp [addsS]
  | cons x l ih =>
    intro ks y
    show y ∈ addsS (addS ks x) l ↔ _
    rw [ih, addS_mem, List.mem_cons, or_assoc]
theorem addsS_take {ks l : List Int} {k : Nat} {x : Int} (h : l[k]? = some x) : addsS ks (l.take (k + 1)) = addS (addsS ks (l.take k)) x := by
  unfold addsS
  rw [List.take_add_one, h, List.foldl_append]; rfl
structure LvP (c : List Ins) (gone0 gone : List Bool) (n : Nat) (ks : List Int) (A : Int → Prop) (x : Int) (rest : List Int) : Prop where
  gk : GoneK c (keptOf gone)
  gl : gone.length = c.length
  only : ∀ z y, y ∈ deadO c gone z → A z ∨ z ∈ ks ∨ y ∈ rest
  rst : ∀ y ∈ rest, y ∈ deadO c gone x
  nod : rest.Nodup
  few : n + 8 * manyK gone ≤ 8 * c.length
  le : manyK gone ≤ manyK gone0
  les : ks ≠ [] → manyK gone < manyK gone0
theorem LvP.dead {c : List Ins} {gone0 gone : List Bool} {n : Nat} {ks : List Int} {A : Int → Prop} {x y : Int} {rest : List Int} (hcl : Closed c) (h : LvP c gone0 gone n ks A x (y :: rest)) : ∃ (p : Nat) (i : Ins), c[p]? = some i ∧ y = (p : Int) ∧ pureI i = true ∧ i.dst = x ∧ gone.getD p false = false ∧ ¬ BehN c (goneOf (keptOf gone)) x (p : Int) := (deadO_mem hcl h.gl).1 (h.rst y (List.mem_cons_self ..))
theorem LvP.step {c : List Ins} {gone0 gone : List Bool} {n n' : Nat} {ks : List Int} {A : Int → Prop} {x : Int} {rest : List Int} {p : Nat} {i : Ins} (hcl : Closed c) (h : LvP c gone0 gone n ks A x ((p : Int) :: rest)) (hi : c[p]? = some i) (hn : n' ≤ n + 8) : LvP c gone0 (gone.set p true) n' (addsS ks (uses i)) A x rest := by
  obtain ⟨p', i', h1, h2, h3, h4, h5, h6⟩ := h.dead hcl
  obtain rfl : p = p' := by omega
  rw [hi] at h1
  injection h1 with h1
  subst h1
  have hpl : p < gone.length := by rw [h.gl]; exact (List.getElem?_eq_some_iff.1 hi).1
  have hk : (keptOf gone)[p]? = some true := by
    rw [List.getD_eq_getElem?_getD, List.getElem?_eq_getElem hpl] at h5
    unfold keptOf
    rw [List.getElem?_map, List.getElem?_eq_getElem hpl]
    have h5' : gone[p] = false := h5
    rw [h5']; rfl
  have hm := manyK_set gone p hpl h5
  obtain ⟨hn1, hn2⟩ := List.nodup_cons.1 h.nod
  refine ⟨?_, by rw [List.length_set]; exact h.gl, fun z y hy => ?_, fun y hy => ?_, hn2, ?_, ?_, fun _ => ?_⟩
  · rw [keptOf_set]; exact .out h.gk hk hi h3 (by rw [h4]; exact h6)
  · by_cases hz : z ∈ uses i
    · exact .inr (.inl (addsS_mem.2 (.inr hz)))
    · obtain ⟨a1, a2⟩ := deadO_set hcl h.gl hi hz hy
      rcases h.only z y a1 with b | b | b
      · exact .inl b
      · exact .inr (.inl (addsS_mem.2 (.inl b)))
      · rcases List.mem_cons.1 b with b | b
        · exact absurd b a2
        · exact .inr (.inr b)
  · obtain ⟨q, j, a1, rfl, a3, a4, a5, a6⟩ := (deadO_mem hcl h.gl).1 (h.rst y (List.mem_cons_of_mem _ hy))
    have hne : p ≠ q := fun e => hn1 (by rw [e]; exact hy)
    exact (deadO_mem hcl (by simpa using h.gl)).2 ⟨q, j, a1, rfl, a3, a4, by rw [getD_set_ne hne]; exact a5, fun hb => a6 (beh_back hb)⟩
  · have := h.few; omega
  · have := h.le; omega
  · have := h.le; omega
theorem LvP.next {c : List Ins} {gone0 gone : List Bool} {n : Nat} {ks : List Int} {A A' : Int → Prop} {x x' : Int} (h : LvP c gone0 gone n ks A x []) (hA : ∀ z, A z → z ≠ x' → A' z) : LvP c gone0 gone n ks A' x' (deadO c gone x') := by
  refine ⟨h.gk, h.gl, fun z y hy => ?_, fun y hy => hy, deadO_nodup _ _ _, h.few, h.le, h.les⟩
  rcases h.only z y hy with b | b | b
  · by_cases e : z = x'
    · subst e; exact .inr (.inr hy)
    · exact .inl (hA z b e)
  · exact .inr (.inl b)
  · cases b
theorem LvP.begin {c : List Ins} {gone : List Bool} {A : Int → Prop} {x : Int} (hg : GoneK c (keptOf gone)) (hl : gone.length = c.length) (hA : ∀ z y, y ∈ deadO c gone z → A z) : LvP c gone gone 0 [] A x [] :=
  ⟨hg, hl, fun z y hy => .inl (hA z y hy), fun y hy => (by cases hy), List.nodup_nil, (by have := manyK_le gone; omega), Nat.le_refl _, fun h => absurd rfl h⟩
theorem done_of {c : List Ins} {gone : List Bool} (hcl : Closed c) (hl : gone.length = c.length) (h : ∀ z, deadO c gone z = []) : DoneK c (keptOf gone) := by
  intro p i hk hi hp
  apply Classical.byContradiction
  intro hb
  have hpl : p < gone.length := by rw [hl]; exact (List.getElem?_eq_some_iff.1 hi).1
  have hg : gone.getD p false = false := by
    unfold keptOf at hk
    rw [List.getElem?_map, List.getElem?_eq_getElem hpl] at hk
    rw [List.getD_eq_getElem?_getD, List.getElem?_eq_getElem hpl]
    cases hv : gone[p] with
    | false => rfl
    | true => rw [hv] at hk; cases hk
  have hm : (p : Int) ∈ deadO c gone i.dst := (deadO_mem hcl hl).2 ⟨p, i, hi, rfl, hp, rfl, hg, hb⟩
  rw [h i.dst] at hm
  cases hm
end Go.Proofs.Ytgnpbodhjmappaa.Cd
namespace Go.Proofs.Ytgnpbodhjmappaa
set_option maxRecDepth 100000
open Go.RowKit Cd Go.Maps
def setE : Value → Option (DataW Unit × List MemPlace)
  | .agg xs => if xs.size = 0 then some (.agg [], []) else none
  | _ => none
def SetAt (w : World) (mb n : Nat) (ks : List Int) : Prop := ∃ D : DataW Unit, w.ownsMap Try.prog 3 setE mb n D ∧ Tidy D ∧ (∀ x : Int, Maps.has D (.int .i64 x) = ks.contains x) ∧ ks.Nodup
theorem SetAt.lt {w : World} {mb n : Nat} {ks : List Int} (h : SetAt w mb n ks) : mb < w.heap.size := by obtain ⟨D, h, _⟩ := h; exact h.lt
theorem SetAt.keep {w w' : World} {mb n : Nat} {ks : List Int} (h : SetAt w mb n ks) (hb : w'.heap[mb]? = w.heap[mb]?) : SetAt w' mb n ks := by
  obtain ⟨D, ⟨es, clock, h1, F, h2, h3⟩, h4⟩ := h
  exact ⟨D, ⟨es, clock, hb.trans h1, F, h2, h3⟩, h4⟩
theorem SetAt.made (w : World) : SetAt (w.alloc (.map #[] 0)) w.heap.size 0 [] := ⟨.map [], World.ownsMap_made w Try.prog 3 setE, tidy_empty, fun x => rfl, List.nodup_nil⟩
theorem SetAt.store {w : World} {mb n : Nat} {ks : List Int} (h : SetAt w mb n ks) (hm : n < maxLen) {x : Int} (hx : (Lit.int .i64 x).wf = true) :
    ∃ w', (Instr.mapUpdate 60 (.map (some mb)) (.int .i64 x) (.agg #[])).run Try.prog w = .ok () w' ∧ w.mapTurned w' mb ∧ SetAt w' mb (n + 1) (if ks.contains x = true then ks else ks ++ [x]) := by
  obtain ⟨D, g1, g2, g3, g4⟩ := h
  obtain ⟨w', r1, r2, r3⟩ := g1.store (t := 60) (e := 61) (val := .agg #[]) lawI Try.underlying60 (by omega) (keyI hx) (show setE (.agg #[]) = some (.agg [], []) from rfl)
  refine ⟨w', r1, r3, _, r2, g2.put (intKey _) _, fun y => ?_, ?_⟩
  · by_cases e : y = x
    · subst e
      rw [has_put_same g2.isMap (intKey _)]
      split
      · rename_i hk; exact hk.symm
      · simp
    · rw [has_put_other (fun e' => e (by injection e')), g3 y]
      split
      · rfl
      · simp [e]
  · split
    · exact g4
    · rename_i hk
      rw [List.nodup_append]
      refine ⟨g4, by simp, fun u hu v hv => ?_⟩
      rw [List.mem_singleton] at hv
      subst hv
      exact fun e => hk (List.contains_iff_mem.2 (e ▸ hu))
end Go.Proofs.Ytgnpbodhjmappaa
namespace Go.Proofs.Ytgnpbodhjmappaa
set_option maxRecDepth 100000
open Go.RowKit Cd Go.Maps
theorem UsW.move {w w1 : World} {lo m : Nat} {c : List Ins} {b : Nat → Nat} {V : Nat → Int → Value} {gone1 gone : List Bool} (h : UsW w1 lo c m b V gone1) (hs : w1.heap.size ≤ w.heap.size) (hb : ∀ g, g < w1.heap.size → g ≠ b 4 → w.heap[g]? = w1.heap[g]?) (hg : VRow w (b 4) 4 (bools gone)) (hl : gone.length = c.length) : UsW w lo c m b V gone :=
  ⟨h.fam.keep (fun g h1 h2 => hb g h2 (by have := h.place 4 (by omega); omega)), h.rows.keep (hb _ (h.lt (by omega)) (h.ne 0 (by omega))), VRow.keep h.sets (hb _ (h.lt (by omega)) (h.ne 1 (by omega))), h.read.keep (hb _ (h.lt (by omega)) (h.ne 2 (by omega))), h.pure.keep (hb _ (h.lt (by omega)) (h.ne 3 (by omega))), hg, hl, h.place, h.ne, fun k hk => Nat.lt_of_lt_of_le (h.hlt k hk) hs⟩
structure LvB (w : World) (B UB FB SB b4 sm n k : Nat) (r : FnR) (uv : Obj) (gone : List Bool) (ks : List Int) : Prop where
  ub : w.heap[UB]? = some uv
  fb : w.heap[FB]? = some (fnO r)
  sb : w.heap[SB]? = some (.cells #[.map (some sm)] 60)
  code : CodeAt w B r
  gon : VRow w b4 4 (bools gone)
  set : SetAt w sm k ks
  ne : UB ≠ b4 ∧ FB ≠ b4 ∧ SB ≠ b4 ∧ sm ≠ b4 ∧ UB ≠ sm ∧ FB ≠ sm ∧ SB ≠ sm
  hB : B ≤ b4 ∧ B ≤ sm ∧ B ≤ w.heap.size
theorem LvB.keep {w w' : World} {B UB FB SB b4 sm n k : Nat} {r : FnR} {uv : Obj} {gone : List Bool} {ks : List Int} (h : LvB w B UB FB SB b4 sm n k r uv gone ks) (hb : Below w.heap.size w w') : LvB w' B UB FB SB b4 sm n k r uv gone ks :=
  ⟨(hb.block _ (lt_heap h.ub)).trans h.ub, (hb.block _ (lt_heap h.fb)).trans h.fb, (hb.block _ (lt_heap h.sb)).trans h.sb, h.code.below (hb.mono h.hB.2.2), h.gon.keep (hb.block _ h.gon.lt), h.set.keep (hb.block _ h.set.lt), h.ne, ⟨h.hB.1, h.hB.2.1, Nat.le_trans h.hB.2.2 hb.size⟩⟩
theorem LvB.put {w : World} {B UB FB SB b4 sm n k : Nat} {r : FnR} {uv : Obj} {gone : List Bool} {ks : List Int} (h : LvB w B UB FB SB b4 sm n k r uv gone ks) (p : Nat) : LvB (w.setCell ⟨b4, p, none⟩ (.bool true)) B UB FB SB b4 sm n k r uv (gone.set p true) ks := by
  have ho : ∀ g, g ≠ b4 → (w.setCell ⟨b4, p, none⟩ (.bool true)).heap[g]? = w.heap[g]? := fun g hg => Below.heap_setCell _ _ _ _ (by simpa using hg)
  have hr := h.gon.set p (.bool true)
  have e : (bools gone).set p (.bool true) = bools (gone.set p true) := by simp [bools, List.map_set]
  rw [e] at hr
  obtain ⟨n1, n2, n3, n4, _⟩ := h.ne
  exact ⟨(ho _ n1).trans h.ub, (ho _ n2).trans h.fb, (ho _ n3).trans h.sb, h.code.below ((Below.mono (Below.refl w.heap.size w) h.hB.2.2).setCell (by simpa using h.hB.1) _), hr, h.set.keep (ho _ n4), h.ne, ⟨h.hB.1, h.hB.2.1, by simpa [World.setCell] using h.hB.2.2⟩⟩
theorem LvB.turn {w w' : World} {B UB FB SB b4 sm n k k' : Nat} {r : FnR} {uv : Obj} {gone : List Bool} {ks ks' : List Int} (h : LvB w B UB FB SB b4 sm n k r uv gone ks) (ht : w.mapTurned w' sm) (hs : SetAt w' sm k' ks') : LvB w' B UB FB SB b4 sm n k' r uv gone ks' := by
  have ho : ∀ g, g < w.heap.size → g ≠ sm → w'.heap[g]? = w.heap[g]? := fun g h1 h2 => ht.grown.block g h1 (fun e => h2 (by injection e))
  obtain ⟨n1, n2, n3, n4, n5, n6, n7⟩ := h.ne
  exact ⟨(ho _ (lt_heap h.ub) n5).trans h.ub, (ho _ (lt_heap h.fb) n6).trans h.fb, (ho _ (lt_heap h.sb) n7).trans h.sb, h.code.below ((Below.mono (Below.refl w.heap.size w) h.hB.2.2).grown ht.grown h.hB.2.2 (fun q e => by injection e with e; have := h.hB.2.1; omega)), h.gon.keep (ho _ h.gon.lt (Ne.symm n4)), hs, h.ne, ⟨h.hB.1, h.hB.2.1, Nat.le_trans h.hB.2.2 ht.grown.size⟩⟩
end Go.Proofs.Ytgnpbodhjmappaa
namespace Go.Proofs.Ytgnpbodhjmappaa
set_option maxRecDepth 100000
open Go.RowKit Cd Go.Maps
theorem cuses_d (x : Ins) (us : List Int) (hus : uses x = us) (w : World) :
    Calls Try.prog 59 #[inV x] w fun e w' => ∃ (a : Option Addr) (c : Nat), e = .returned (.slice a us.length c) ∧ LiesIn w' w.heap.size a (ints us) ∧ Below w.heap.size w w' := by
  subst hus
  refine (cuses_any x w).mono ?_
  rintro e w' ⟨v, rfl, ho, hb⟩
  obtain ⟨a, c, rfl⟩ := row_slice ho
  exact ⟨a, c, rfl, LiesIn.of_own ho, hb⟩
set_option maxHeartbeats 4000000 in
theorem leave1_c (name : List UInt8) (params regs frame : Int) (code : List Ins) (ca : Option Addr) (cc : Nat) (w : World) (B UB FB SB b4 sm m n p : Nat) (ga : Option Addr) (gl gc : Nat) (sa : Option Addr) (sl sc rm pm : Nat) (gone : List Bool) (ks : List Int) (i : Ins)
    (h : LvB w B UB FB SB b4 sm m n ⟨⟨name, params, regs, frame, code⟩, ca, cc⟩ (usO ga gl gc sa sl sc rm pm (some ⟨b4, 0, none⟩) code.length code.length) gone ks) (hi : code[p]? = some i) (hgl : gone.length = code.length) (hw : ∀ x ∈ uses i, (Lit.int .i64 x).wf = true) (hn : n ≤ 1000000) (hlen : code.length ≤ 100000) :
    Calls Try.prog 63 #[.int .i64 (p : Int), .pointer (some ⟨UB, 0, none⟩), .pointer (some ⟨FB, 0, none⟩), .pointer (some ⟨SB, 0, none⟩)] w fun e w' => e = .returned (.tuple #[]) ∧ ∃ n', n' ≤ n + 8 ∧ LvB w' B UB FB SB b4 sm m n' ⟨⟨name, params, regs, frame, code⟩, ca, cc⟩ (usO ga gl gc sa sl sc rm pm (some ⟨b4, 0, none⟩) code.length code.length) (gone.set p true) (addsS ks (uses i)) ∧ Below B w w' ∧ ∀ g, g < w.heap.size → g ≠ b4 → g ≠ sm → w'.heap[g]? = w.heap[g]? := by
  obtain ⟨us, hus⟩ : ∃ us, uses i = us := ⟨_, rfl⟩
  have hul : us.length ≤ 8 := by rw [← hus]; exact uses_len8 i
  rw [hus] at hw ⊢
  have hpl := (List.getElem?_eq_some_iff.1 hi).1
  have H1 := Lib.hid (LvB.put h p)
  have hsz1 : (w.setCell ⟨b4, p, none⟩ (.bool true)).heap.size = w.heap.size := by simp [World.setCell]
  have HO1 : Hid (∀ g, g ≠ b4 → (w.setCell ⟨b4, p, none⟩ (.bool true)).heap[g]? = w.heap[g]?) := Lib.hid (fun g hg => Below.heap_setCell _ _ _ _ (by simpa using hg))
  have HB1 : Hid (Below B w (w.setCell ⟨b4, p, none⟩ (.bool true))) := Lib.hid ((Below.mono (Below.refl w.heap.size w) h.hB.2.2).setCell (by simpa using h.hB.1) _)
  have hsm := h.set.lt
  have hb4 := h.gon.lt
  obtain ⟨v0, v1, v2, v3, v4⟩ := nv5 h.ub
  clear v0 v1 v2 v3
  have hfr : ∀ j, w.frozen? ⟨b4, j, none⟩ = false := fun j => h.gon.frozen j
  have hcell : w.cell? ⟨b4, p, none⟩ = some (.bool (gone.getD p false)) := h.gon.cell (by unfold bools; rw [List.getElem?_map, List.getD_eq_getElem?_getD, List.getElem?_eq_getElem (by omega)]; rfl)
  have p0 : (0 : Int) ≤ (p : Int) := Int.natCast_nonneg _
  have p1 : (p : Int) < (code.length : Int) := by omega
  obtain ⟨b, off, hca, hb, hBw, q0, q1, q2, q3, q4, q5, q6, q7, q8, q9, q10, q11, q12, q13, q14⟩ := H1.out.code.cells hi
  simp only at hca
  subst hca
  obtain ⟨f0, f1, f2, f3, f4⟩ := nv5 H1.out.fb
  clear f0 f1 f2 f3
  have hB := h.hB
  have HUS := Lib.hid hus; have HW := Lib.hid hw
  have hne := h.ne.2.2.2.1
  clear h hi hus hw
  go_enter Try.func63, Try.ntmps63
  go_wp2_with ((with_reducible refine (cuses_d i us HUS.out _).mono ?_); rintro e w2 ⟨na, nc, rfl, hn1, hb1⟩; have HN1 := Lib.hid hn1; have H2 := Lib.hid (H1.out.keep hb1); have HB2 : Hid (Below B w w2) := Lib.hid (HB1.out.trans (hb1.mono (show B ≤ (w.setCell ⟨b4, p, none⟩ (.bool true)).heap.size by rw [hsz1]; exact hB.2.2))); have HO2 : Hid (∀ g, g < w.heap.size → g ≠ b4 → w2.heap[g]? = w.heap[g]?) := Lib.hid (fun g h1 h2 => (hb1.block g (by rw [hsz1]; exact h1)).trans (HO1.out g h2)); have hw2 := hb1.size; clear hn1 hb1)
  clear q0 q1 q2 q3 q4 q5 q6 q7 q8 q9 q10 q11 q12 q13 q14 f4 v4 hfr hcell
  rw [hsz1] at hw2
  go_loopw [18] (fun s18 wr => ∃ k n' : Nat, k ≤ us.length ∧ s18 = .int .i64 (k : Int) ∧ n' ≤ n + k ∧ Hid (LvB wr B UB FB SB b4 sm m n' ⟨⟨name, params, regs, frame, code⟩, some ⟨b, off, none⟩, cc⟩ (usO ga gl gc sa sl sc rm pm (some ⟨b4, 0, none⟩) code.length code.length) (gone.set p true) (addsS ks (us.take k))) ∧ Hid (Below B w wr) ∧ Hid (∀ g, g < w2.heap.size → g ≠ sm → wr.heap[g]? = w2.heap[g]?) ∧ w2.heap.size ≤ wr.heap.size) (fun s18 wr => us.length - (Go.RowKit.intOf s18).toNat)
  case atStart => exact ⟨0, n, by omega, rfl, by omega, H2, HB2, Lib.hid (fun _ _ _ => rfl), Nat.le_refl _⟩
  case round =>
    obtain ⟨k, n', hk, rfl, hn', HLV, HBW, HKP, hsz⟩ := hrel
    have HI : Hid (IntsAt wr na us) := Lib.hid (LiesIn.row (HN1.out.keep hsz (fun g h1 h2 => HKP.out g h2 (by rw [hsz1] at h1; omega))))
    have k0 : (0 : Int) ≤ (k : Int) := Int.natCast_nonneg _
    by_cases hlt : k < us.length
    · have k1 : (k : Int) < (us.length : Int) := by omega
      obtain ⟨y, hy⟩ : ∃ y, us[k]? = some y := ⟨_, List.getElem?_eq_getElem hlt⟩
      obtain ⟨yb, yoff, rfl, hyb, hyc⟩ := HI.out.at hy
      have E := Lib.hid (addsS_take (ks := ks) hy)
      obtain ⟨s0, s1⟩ : wr.cell? ⟨SB, 0, none⟩ = some (.map (some sm)) ∧ True := ⟨by rw [cell_of_row wr SB 0 _ _ _ HLV.out.sb]; rfl, trivial⟩
      obtain ⟨w3, r1, r2, r3⟩ := HLV.out.set.store (by unfold maxLen; omega) (HW.out y (List.mem_of_getElem? hy))
      have HRUN := Lib.hid r1
      have HL3 : Hid (LvB w3 B UB FB SB b4 sm m (n' + 1) ⟨⟨name, params, regs, frame, code⟩, some ⟨b, off, none⟩, cc⟩ (usO ga gl gc sa sl sc rm pm (some ⟨b4, 0, none⟩) code.length code.length) (gone.set p true) (addsS ks (us.take (k + 1)))) := Lib.hid (HLV.out.turn r2 (by rw [E.out]; exact r3))
      have HB3 : Hid (Below B w w3) := Lib.hid (HBW.out.grown r2.grown (by have := hB.2.2; omega) (fun q e => by injection e with e; omega))
      have HK3 : Hid (∀ g, g < w2.heap.size → g ≠ sm → w3.heap[g]? = w2.heap[g]?) := Lib.hid (fun g h1 h2 => (r2.grown.block g (by omega) (fun e => by injection e with e; exact h2 e)).trans (HKP.out g h1 h2))
      have hz3 : w2.heap.size ≤ w3.heap.size := Nat.le_trans hsz r2.grown.size
      have HLT := Lib.hid hlt
      clear hy hlt r1 r2 r3
      go_wp2_with (at_mapUpdate; refine wpList_mapUpdate_run rfl _ _ _ 60 rfl _ _ _ rfl rfl rfl HRUN.out ?_)
      go_roundw
      case rel => exact ⟨k + 1, n' + 1, HLT.out, by go_num, by omega, HL3, HB3, HK3, hz3⟩
      case measure => have := HLT.out; simp [Go.RowKit.intOf]; omega
    · obtain rfl : k = us.length := by omega
      have HS2 := HLV.out
      rw [List.take_length] at HS2
      go_wp2
      go_end0
      exact ⟨rfl, n', by omega, HS2, HBW.out, fun g h1 h2 h3 => (HKP.out g (by omega) h3).trans (HO2.out g h1 h2)⟩
end Go.Proofs.Ytgnpbodhjmappaa
namespace Go.Proofs.Ytgnpbodhjmappaa
set_option maxRecDepth 100000
open Go.RowKit Cd Go.Maps
theorem ranges_moved {H : Type} {P : Program} {k : TypeId} {R : Value → Option (DataW H × List MemPlace)} {w w' : World} {b r n : Nat} {D : DataW H} {left : Lit → Bool} {cnt : Nat} (h : w.ranges P k R b r n D left cnt) (hb' : w'.heap[b]? = w.heap[b]?) (hr' : w'.heap[r]? = w.heap[r]?) : w'.ranges P k R b r n D left cnt := by
  obtain ⟨es, clock, since, seen, c0, hb, F, hs, hD, hr, rest⟩ := h
  exact ⟨es, clock, since, seen, c0, hb'.trans hb, F, hs, hD, hr'.trans hr, rest⟩
abbrev setO (v : Option Nat) : Obj := .cells #[.map v] 60
abbrev lvW (w : World) (r : FnR) (u : Obj) : World := ((((w.alloc (fnO r)).alloc u).alloc (.map #[] 0)).alloc (setO (some (w.heap.size + 1 + 1))))
theorem LvB.first (w : World) (r : FnR) (B b4 : Nat) (u : Obj) (gone : List Bool) (hC : CodeAt w B r) (hB : B ≤ b4) (hg : VRow w b4 4 (bools gone)) : LvB (lvW w r u) B (w.heap.size + 1) w.heap.size (w.heap.size + 1 + 1 + 1) b4 (w.heap.size + 1 + 1) 0 0 r u gone [] ∧ Below w.heap.size w (lvW w r u) ∧ (lvW w r u).heap.size = w.heap.size + 4 := by
  have hlt := hg.lt
  have e1 := heap_alloc_new w (fnO r)
  have e2 := heap_alloc_new (w.alloc (fnO r)) u
  have e3 := SetAt.made ((w.alloc (fnO r)).alloc u)
  have e4 := heap_alloc_new (((w.alloc (fnO r)).alloc u).alloc (.map #[] 0)) (setO (some (w.heap.size + 1 + 1)))
  simp only [World.size_alloc] at e2 e3 e4
  have hb : Below w.heap.size w (lvW w r u) := ((((Below.refl w.heap.size w).alloc (Nat.le_refl _) _).alloc (by simp) _).alloc (by simp <;> omega) _).alloc (by simp <;> omega) _
  refine ⟨⟨?_, ?_, e4, hC.below (hb.mono (by omega)), hg.keep (hb.block _ hlt), e3.keep (Below.heap_alloc _ _ _ (by simp)), by refine ⟨?_, ?_, ?_, ?_, ?_, ?_, ?_⟩ <;> omega, ⟨hB, by omega, by simp; omega⟩⟩, hb, by simp⟩
  · exact (Below.heap_alloc _ _ _ (by simp <;> omega)).trans ((Below.heap_alloc _ _ _ (by simp <;> omega)).trans e2)
  · exact (Below.heap_alloc _ _ _ (by simp <;> omega)).trans ((Below.heap_alloc _ _ _ (by simp <;> omega)).trans ((Below.heap_alloc _ _ _ (by simp <;> omega)).trans e1))
def LvPost (c : List Ins) (B b4 : Nat) (gone0 : List Bool) (w : World) (e : Ending) (w' : World) : Prop :=
  ∃ (sm n : Nat) (gone : List Bool) (ks : List Int), e = .returned (.map (some sm)) ∧ w.heap.size ≤ sm ∧ SetAt w' sm n ks ∧ VRow w' b4 4 (bools gone) ∧ LvP c gone0 gone n ks (fun _ => False) 0 [] ∧ Below B w w' ∧ ∀ g, g < w.heap.size → g ≠ b4 → w'.heap[g]? = w.heap[g]?
theorem LvB.keepX {w w' : World} {B UB FB SB b4 sm n k q : Nat} {r : FnR} {uv : Obj} {gone : List Bool} {ks : List Int} (h : LvB w B UB FB SB b4 sm n k r uv gone ks) (hg : w.grownBy w' (some q)) (hq : UB ≠ q ∧ FB ≠ q ∧ SB ≠ q ∧ b4 ≠ q ∧ sm ≠ q ∧ B ≤ q) : LvB w' B UB FB SB b4 sm n k r uv gone ks := by
  have ho : ∀ g, g < w.heap.size → g ≠ q → w'.heap[g]? = w.heap[g]? := fun g h1 h2 => hg.block g h1 (fun e => h2 (by injection e))
  obtain ⟨q1, q2, q3, q4, q5, q6⟩ := hq
  exact ⟨(ho _ (lt_heap h.ub) q1).trans h.ub, (ho _ (lt_heap h.fb) q2).trans h.fb, (ho _ (lt_heap h.sb) q3).trans h.sb, h.code.below ((Below.mono (Below.refl w.heap.size w) h.hB.2.2).grown hg h.hB.2.2 (fun x e => by injection e with e; omega)), h.gon.keep (ho _ h.gon.lt q4), h.set.keep (ho _ h.set.lt q5), h.ne, ⟨h.hB.1, h.hB.2.1, Nat.le_trans h.hB.2.2 hg.size⟩⟩
theorem Cd.LvP.last {c : List Ins} {gone0 gone : List Bool} {n : Nat} {ks : List Int} {A : Int → Prop} {x : Int} (h : LvP c gone0 gone n ks A x []) (hA : ∀ z, ¬ A z) : LvP c gone0 gone n ks (fun _ => False) 0 [] :=
  ⟨h.gk, h.gl, fun z y hy => (h.only z y hy).elim (fun a => absurd a (hA z)) .inr, fun y hy => (by cases hy), h.nod, h.few, h.le, h.les⟩
theorem Cd.LvP.any {c : List Ins} {gone0 gone : List Bool} {n : Nat} {ks : List Int} {A : Int → Prop} {x : Int} (h : LvP c gone0 gone n ks A x []) : LvP c gone0 gone n ks A 0 [] :=
  ⟨h.gk, h.gl, h.only, fun y hy => (by cases hy), h.nod, h.few, h.le, h.les⟩
theorem dead_w (code : List Ins) (w : World) (lo m : Nat) (b : Nat → Nat) (V : Nat → Int → Value) (gone : List Bool) (x : Int) (o : List Int) (ho : deadO code gone x = o) (hU : UsW w lo code m b V gone) (hlen : code.length ≤ 8192) (hx : (Lit.int .i64 x).wf = true) :
    Calls Try.prog 41 #[usV (some ⟨b 0, 0, none⟩) code.length code.length (some ⟨b 1, 0, none⟩) code.length code.length (b 2) (b 3) (some ⟨b 4, 0, none⟩) code.length code.length, .int .i64 x] w fun e w' => ∃ (a : Option Addr) (c : Nat), e = .returned (.slice a o.length c) ∧ LiesIn w' w.heap.size a (ints o) ∧ Below w.heap.size w w' := by
  obtain ⟨rk, pk, hat⟩ := hU.at
  subst ho
  refine (dead_c w.heap.size code.length (fromL code) (code.map Cd.sets) gone (UG code code.length 1) (UG code code.length 2) rk pk (some ⟨b 0, 0, none⟩) (some ⟨b 1, 0, none⟩) (some ⟨b 4, 0, none⟩) code.length code.length code.length (b 2) (b 3) x w hat (usOk_of hlen hU.gl) (Nat.le_refl _) hx).mono ?_
  rintro e w' ⟨v, rfl, h1, h2⟩
  obtain ⟨a, c, rfl⟩ := row_slice h1
  exact ⟨a, c, rfl, LiesIn.of_own h1, h2⟩
set_option maxHeartbeats 16000000 in
theorem leave_c (name : List UInt8) (params regs frame : Int) (code : List Ins) (ca : Option Addr) (cc : Nat) (w : World) (B lo m mb nS : Nat) (b : Nat → Nat) (V : Nat → Int → Value) (gone0 : List Bool) (S : List Int)
    (hU : UsW w lo code m b V gone0) (hC : CodeAt w B ⟨⟨name, params, regs, frame, code⟩, ca, cc⟩) (hB : B ≤ b 4) (hS : SetAt w mb nS S) (hmb : mb ≠ b 4) (hcl : Closed code) (hlen : code.length ≤ 8192) (huse : ∀ (p : Nat) (i : Ins), code[p]? = some i → ∀ x ∈ uses i, (Lit.int .i64 x).wf = true)
    (hK : GoneK code (keptOf gone0)) (hA : ∀ z y, y ∈ deadO code gone0 z → z ∈ S) :
    Calls Try.prog 37 #[fnV ⟨⟨name, params, regs, frame, code⟩, ca, cc⟩, usV (some ⟨b 0, 0, none⟩) code.length code.length (some ⟨b 1, 0, none⟩) code.length code.length (b 2) (b 3) (some ⟨b 4, 0, none⟩) code.length code.length, .map (some mb)] w (LvPost code B (b 4) gone0 w) := by
  obtain ⟨D, hown, htidy, hhas, hnod⟩ := hS
  obtain ⟨hL0, hb0, hsz0⟩ := LvB.first w ⟨⟨name, params, regs, frame, code⟩, ca, cc⟩ B (b 4) (usO (some ⟨b 0, 0, none⟩) code.length code.length (some ⟨b 1, 0, none⟩) code.length code.length (b 2) (b 3) (some ⟨b 4, 0, none⟩) code.length code.length) gone0 hC hB hU.gon
  have HU := Lib.hid hU; have HA := Lib.hid hA; have HUSE := Lib.hid huse; have HCL := Lib.hid hcl; have HHAS := Lib.hid hhas
  have HLP0 : Hid (LvP code gone0 gone0 0 [] (fun z => Maps.has D (.int .i64 z) = true) 0 []) := Lib.hid (LvP.begin hK hU.gl (fun z y hy => by rw [hhas z]; exact List.contains_iff_mem.2 (hA z y hy)))
  have hmbl := hown.lt
  have hown4 : (lvW w ⟨⟨name, params, regs, frame, code⟩, ca, cc⟩ (usO (some ⟨b 0, 0, none⟩) code.length code.length (some ⟨b 1, 0, none⟩) code.length code.length (b 2) (b 3) (some ⟨b 4, 0, none⟩) code.length code.length)).ownsMap Try.prog 3 setE mb nS D := by
    obtain ⟨es, clock, h1, h2⟩ := hown
    exact ⟨es, clock, (hb0.block _ hmbl).trans h1, h2⟩
  have hb4l := hU.gon.lt
  have HL0 := Lib.hid hL0; have HB0 := Lib.hid hb0
  clear hU hA huse hcl hK hC hnod htidy hown hhas hL0 hb0
  have hmm : ∀ (w : World), (Instr.makeMap 60 none).run Try.prog w = .ok (.map (some w.heap.size)) (w.alloc (.map #[] 0)) := fun w => by simp [Instr.makeMap, go_sem]
  go_enter Try.func37, Try.ntmps37
  go_wp2_with (first
    | (at_range; refine wpList_range_own _ rfl _ 60 rfl 3 61 lawI Try.underlying60 setE mb nS D rfl hown4 ?_; intro w5 hrg0 hg0 hs0)
    | go_in)
  go_frame
  rw [hsz0] at hrg0 hs0 ⊢
  have HL5 : Hid (LvB w5 B (w.heap.size + 1) w.heap.size (w.heap.size + 1 + 1 + 1) (b 4) (w.heap.size + 1 + 1) 0 0 ⟨⟨name, params, regs, frame, code⟩, ca, cc⟩ (usO (some ⟨b 0, 0, none⟩) code.length code.length (some ⟨b 1, 0, none⟩) code.length code.length (b 2) (b 3) (some ⟨b 4, 0, none⟩) code.length code.length) gone0 []) := Lib.hid (HL0.out.keep ((Below.refl _ _).grown hg0 (Nat.le_refl _) (fun q e => by cases e)))
  have HB5 : Hid (Below w.heap.size w w5) := Lib.hid (HB0.out.grown hg0 (by omega) (fun q e => by cases e))
  have HRG0 := Lib.hid hrg0
  have hB0 := HL0.out.hB
  have hne0 := HL0.out.ne
  clear hrg0 hg0 hown4
  go_loopw [] (fun wr => ∃ (left : Lit → Bool) (cnt n : Nat) (gone : List Bool) (ks : List Int), Hid (wr.ranges Try.prog 3 setE mb (w.heap.size + 4) nS D left cnt) ∧ Hid (LvB wr B (w.heap.size + 1) w.heap.size (w.heap.size + 1 + 1 + 1) (b 4) (w.heap.size + 1 + 1) 0 n ⟨⟨name, params, regs, frame, code⟩, ca, cc⟩ (usO (some ⟨b 0, 0, none⟩) code.length code.length (some ⟨b 1, 0, none⟩) code.length code.length (b 2) (b 3) (some ⟨b 4, 0, none⟩) code.length code.length) gone ks) ∧ Hid (LvP code gone0 gone n ks (fun z => left (.int .i64 z) = true) 0 []) ∧ Hid (Below B w wr) ∧ Hid (∀ g, g < w.heap.size → g ≠ b 4 → wr.heap[g]? = w.heap[g]?) ∧ w.heap.size + 5 ≤ wr.heap.size) (fun wr => wr.rangeLeft mb (w.heap.size + 4))
  case atStart => exact ⟨_, _, 0, gone0, [], HRG0, HL5, HLP0, Lib.hid (HB5.out.mono (by omega)), Lib.hid (fun g h1 _ => HB5.out.block g h1), by omega⟩
  case round =>
    clear HRG0 HB5 HL5 HL0 HB0 hs0
    obtain ⟨left, cnt, n, gone, ks, HRG, HLV, HLP, HBW, HKW, hws⟩ := hrel
    have s0 : wr.cell? ⟨w.heap.size + 1 + 1 + 1, 0, none⟩ = some (.map (some (w.heap.size + 1 + 1))) := by rw [cell_of_row wr _ 0 _ _ _ HLV.out.sb]; rfl
    go_wp2_with (first
      | (at_next; refine wpList_next_ranges _ rfl _ rfl 3 lawI setE (Value.int .i64) (id : Value → Value) (fun key kl hk => by obtain ⟨x, rfl, _⟩ := Maps.keyOf_int_inv Try.underlying3 hk; exact ⟨x, rfl⟩) (fun v y _ => ⟨v, rfl⟩) mb (w.heap.size + 4) nS D left cnt rfl HRG.out ?_ ?_)
      | go_in)
    · intro hc0 hl0
      go_wp2
      go_ret
      exact ⟨w.heap.size + 1 + 1, n, gone, ks, rfl, by omega, HLV.out.set, HLV.out.gon, HLP.out.last (fun z hz => by rw [hl0] at hz; cases hz), HBW.out, HKW.out⟩
    · intro x cv kl y1 y2 w6 cnt1 hkey hlk hv hat hrg1 hlt hg1 hs1 hen
      obtain ⟨x', ex, rfl, hwx⟩ := Maps.keyOf_int_inv Try.underlying3 hkey
      cases ex
      have HL6 : Hid (LvB w6 B (w.heap.size + 1) w.heap.size (w.heap.size + 1 + 1 + 1) (b 4) (w.heap.size + 1 + 1) 0 n ⟨⟨name, params, regs, frame, code⟩, ca, cc⟩ (usO (some ⟨b 0, 0, none⟩) code.length code.length (some ⟨b 1, 0, none⟩) code.length code.length (b 2) (b 3) (some ⟨b 4, 0, none⟩) code.length code.length) gone ks) := Lib.hid (HLV.out.keepX hg1 (by obtain ⟨n1, n2, n3, n4, n5, n6, n7⟩ := hne0; refine ⟨?_, ?_, ?_, ?_, ?_, ?_⟩ <;> omega))
      have HK6 : Hid (∀ g, g < w.heap.size → g ≠ b 4 → w6.heap[g]? = w.heap[g]?) := Lib.hid (fun g h1 h2 => (hg1.block g (by omega) (fun e => by injection e with e; omega)).trans (HKW.out g h1 h2))
      have HB6 : Hid (Below B w w6) := Lib.hid (HBW.out.grown hg1 (by omega) (fun q e => by injection e with e; omega))
      have HU6 : Hid (UsW w6 lo code m b V gone) := Lib.hid (HU.out.move (by omega) (fun g h1 h2 => HK6.out g h1 h2) HL6.out.gon HLP.out.gl)
      obtain ⟨o, ho⟩ : ∃ o, deadO code gone x = o := ⟨_, rfl⟩
      have HLP6 : Hid (LvP code gone0 gone n ks (fun z => (left (.int .i64 z) && !(Lit.int .i64 z).sameKey (.int .i64 x)) = true) x o) := Lib.hid (by rw [← ho]; exact HLP.out.next (fun z hz hne => by simp [hz, same_int, hne]))
      have hol : o.length ≤ 11 * code.length := by rw [← ho]; exact deadO_len _ _ _
      have HRG1 := Lib.hid hrg1; have HWX := Lib.hid hwx; have HO := Lib.hid ho
      have hs6 : w.heap.size + 5 ≤ w6.heap.size := by omega
      obtain ⟨t0, t1, t2, t3, t4⟩ := nv5 HL6.out.ub
      clear hkey hlk hv hat hrg1 hg1 hwx ho s0
      go_wp2_with ((with_reducible refine (dead_w code _ lo m b V gone x o HO.out HU6.out hlen HWX.out).mono ?_); rintro e w7 ⟨a7, c7, rfl, h7, hb7⟩; have HI7 := Lib.hid h7; have HB67 := Lib.hid hb7; have hs7 := hb7.size; clear h7 hb7 t0 t1 t2 t3 t4)
      have HL7 : Hid (LvB w7 B (w.heap.size + 1) w.heap.size (w.heap.size + 1 + 1 + 1) (b 4) (w.heap.size + 1 + 1) 0 n ⟨⟨name, params, regs, frame, code⟩, ca, cc⟩ (usO (some ⟨b 0, 0, none⟩) code.length code.length (some ⟨b 1, 0, none⟩) code.length code.length (b 2) (b 3) (some ⟨b 4, 0, none⟩) code.length code.length) gone ks) := Lib.hid (HL6.out.keep HB67.out)
      have HB7 : Hid (Below B w w7) := Lib.hid (HB6.out.trans (HB67.out.mono (by omega)))
      go_loopw [24] (fun s24 wr => ∃ (k n' : Nat) (gone' : List Bool) (ks' : List Int), k ≤ o.length ∧ s24 = .int .i64 (k : Int) ∧ Hid (LvB wr B (w.heap.size + 1) w.heap.size (w.heap.size + 1 + 1 + 1) (b 4) (w.heap.size + 1 + 1) 0 n' ⟨⟨name, params, regs, frame, code⟩, ca, cc⟩ (usO (some ⟨b 0, 0, none⟩) code.length code.length (some ⟨b 1, 0, none⟩) code.length code.length (b 2) (b 3) (some ⟨b 4, 0, none⟩) code.length code.length) gone' ks') ∧ Hid (LvP code gone0 gone' n' ks' (fun z => (left (.int .i64 z) && !(Lit.int .i64 z).sameKey (.int .i64 x)) = true) x (o.drop k)) ∧ Hid (Below B w wr) ∧ Hid (∀ g, g < w7.heap.size → g ≠ b 4 → g ≠ w.heap.size + 1 + 1 → wr.heap[g]? = w7.heap[g]?) ∧ w7.heap.size ≤ wr.heap.size) (fun s24 wr => o.length - (Go.RowKit.intOf s24).toNat)
      case atStart => exact ⟨0, n, gone, ks, by omega, rfl, HL7, by rw [List.drop_zero]; exact HLP6, HB7, Lib.hid (fun _ _ _ _ => rfl), Nat.le_refl _⟩
      case round =>
        obtain ⟨k, n', gone', ks', hk, rfl, HLQ, HLPK, HBQ, HKQ, hwq⟩ := hrel
        have k0 : (0 : Int) ≤ (k : Int) := Int.natCast_nonneg _
        by_cases hkl : k < o.length
        · have k1 : (k : Int) < (o.length : Int) := by omega
          obtain ⟨y, hy⟩ : ∃ y, o[k]? = some y := ⟨_, List.getElem?_eq_getElem hkl⟩
          have hdr : o.drop k = y :: o.drop (k + 1) := by
            rw [List.drop_eq_getElem_cons hkl]
            rw [List.getElem?_eq_getElem hkl] at hy
            injection hy with hy
            rw [hy]
          have hlp := HLPK.out
          rw [hdr] at hlp
          obtain ⟨p, i, hi, rfl, _⟩ := hlp.dead HCL.out
          have HI : Hid (IntsAt wr a7 o) := Lib.hid (LiesIn.row (HI7.out.keep hwq (fun g h1 h2 => HKQ.out g h2 (by omega) (by omega))))
          obtain ⟨yb, yoff, rfl, hyb, hyc⟩ := HI.out.at hy
          have HLP9 := Lib.hid hlp
          have HPI := Lib.hid hi
          have hfew := hlp.few
          have HLT := Lib.hid hkl
          clear hy hkl hdr hlp hi
          go_wp2_with ((with_reducible refine (leave1_c name params regs frame code ca cc _ B (w.heap.size + 1) w.heap.size (w.heap.size + 1 + 1 + 1) (b 4) (w.heap.size + 1 + 1) 0 n' p _ _ _ _ _ _ _ _ gone' ks' i HLQ.out HPI.out HLP9.out.gl (HUSE.out p i HPI.out) (by omega) (by omega)).mono ?_); rintro e w8 ⟨rfl, n8, hn8, h8, hb8, hk8⟩; have HL8 := Lib.hid h8; have HB8 := Lib.hid (HBQ.out.trans hb8); have HP8 := Lib.hid (HLP9.out.step HCL.out HPI.out hn8); have HK8 : Hid (∀ g, g < w7.heap.size → g ≠ b 4 → g ≠ w.heap.size + 1 + 1 → w8.heap[g]? = w7.heap[g]?) := Lib.hid (fun g h1 h2 h3 => (hk8 g (by omega) h2 h3).trans (HKQ.out g h1 h2 h3)); have hw8 : w7.heap.size ≤ w8.heap.size := Nat.le_trans hwq hb8.size; clear h8 hb8 hk8)
          go_roundw
          case rel => exact ⟨k + 1, n8, _, _, HLT.out, by go_num, HL8, HP8, HB8, HK8, hw8⟩
          case measure => have := HLT.out; simp [Go.RowKit.intOf]; omega
        · obtain rfl : k = o.length := by omega
          have hp9 := HLPK.out
          rw [List.drop_length] at hp9
          have HP9 := Lib.hid hp9.any
          have HRG9 := Lib.hid (ranges_moved HRG1.out ((HKQ.out mb (by omega) hmb (by omega)).trans (HB67.out.block mb (by omega))) ((HKQ.out (w.heap.size + 4) (by omega) (by omega) (by omega)).trans (HB67.out.block (w.heap.size + 4) (by omega))))
          have HK9 : Hid (∀ g, g < w.heap.size → g ≠ b 4 → wr.heap[g]? = w.heap[g]?) := Lib.hid (fun g h1 h2 => (HKQ.out g (by omega) h2 (by omega)).trans ((HB67.out.block g (by omega)).trans (HK6.out g h1 h2)))
          clear hp9
          go_wp2
          go_roundw
          case rel => exact ⟨_, cnt1, n', gone', ks', HRG9, HLQ, HP9, HBQ, HK9, by omega⟩
          case measure => rw [HRG9.out.left_eq, HRG.out.left_eq]; exact hlt
end Go.Proofs.Ytgnpbodhjmappaa
