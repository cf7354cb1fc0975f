/-
  The two blocks that the reference's Define makes for itself; names, one behind the other.
-/
import Derived.Test.YtemnlkgjgalipaaDoorRefMakes
import Derived.Test.YtemnlkgjgalipaaDoorRefSizeB
import Derived.Laws.AppendOwnNone
namespace Go.Proofs.YtemnlkgjgalipaaDoor
open Go.RowKit Go.Maps Tp Go.Sort
set_option linter.unusedVariables false

structure Box (w w1 : World) (a b x y : Value) : Prop where
  below : Below w.heap.size w w1
  h0 : w1.heap[w.heap.size]? = some (.cells #[a, b] 30 (0, 0))
  h1 : w1.heap[w.heap.size + 1]? = some (.cells #[x, y] 30 (0, 0))
theorem Box.z {w w1 : World} {a b x y : Value} (h : Box w w1 a b x y) : w.heap.size + 1 < w1.heap.size := (Array.getElem?_eq_some_iff.1 h.h1).1
theorem Box.next {w w1 w2 : World} {a b x y : Value} (h : Box w w1 a b x y) (hb : Below w1.heap.size w1 w2) : Box w w2 a b x y :=
  ⟨h.below.trans (hb.mono h.below.size), (hb.block _ (by have := h.z; omega)).trans h.h0, (hb.block _ h.z).trans h.h1⟩
theorem Box.new (w : World) (a b x y : Value) : Box w ((w.alloc (.cells #[a, b] 30)).alloc (.cells #[x, y] 30)) a b x y := by
  refine ⟨two _ _ _, heap_alloc_eq (heap_alloc_new w _) _, ?_⟩
  have := heap_alloc_new (w.alloc (.cells #[a, b] 30)) (.cells #[x, y] 30)
  simpa using this
theorem Box.store {w w1 : World} {a b x y : Value} (h : Box w w1 a b x y) (a' b' : Value) : Box w ((w1.setCell ⟨w.heap.size, 0, none⟩ a').setCell ⟨w.heap.size, 1, none⟩ b') a' b' x y := by
  refine ⟨(h.below.setCell (by simp) _).setCell (by simp) _, ?_, ?_⟩
  · simp only [World.setCell, Array.getElem?_modify, if_true, h.h0, Option.map_some]
    rfl
  · rw [Below.heap_setCell _ _ _ _ (by simp), Below.heap_setCell _ _ _ _ (by simp)]
    exact h.h1
theorem Box.cells {w w1 : World} {a b x y : Value} (h : Box w w1 a b x y) : (∀ o, w1.cell? ⟨w.heap.size, o, none⟩ = #[a, b][o]?) ∧ (∀ o, w1.cell? ⟨w.heap.size + 1, o, none⟩ = #[x, y][o]?) ∧ (∀ o, w1.frozen? ⟨w.heap.size, o, none⟩ = false) ∧ (∀ o, w1.frozen? ⟨w.heap.size + 1, o, none⟩ = false) :=
  ⟨fun o => cell_of_row w1 _ o _ _ _ h.h0, fun o => cell_of_row w1 _ o _ _ _ h.h1, fun o => by simp [World.frozen?, h.h0], fun o => by simp [World.frozen?, h.h1]⟩
theorem RefX.set {w : World} {F : Nat → Prop} {T : Tab} {Y : List ((List UInt8 × List Fl) × Value)} {la da : Option Addr} {lc dc : Nat} (h : RefX w F T Y la lc da dc) (p : Addr) (u : Value) (hp : ¬ F p.block) : RefX (w.setCell p u) F T Y la lc da dc :=
  h.keep (fun q _ hf => Below.heap_setCell _ _ _ _ (fun e => hp (e ▸ hf)))
/-- The blocks behind those two, or of before. -/
def Gb (F : Nat → Prop) (w : World) : Nat → Prop := fun q => (q < w.heap.size ∧ F q) ∨ w.heap.size + 2 ≤ q
theorem gb0 (F : Nat → Prop) (w : World) : ¬ Gb F w w.heap.size := by rintro (⟨h, _⟩ | h) <;> omega
theorem gb1 (F : Nat → Prop) (w : World) : ¬ Gb F w (w.heap.size + 1) := by rintro (⟨h, _⟩ | h) <;> omega
theorem named_take {l : List Fl} {k : Nat} {f : Fl} (h : named (l.take k) = true) (hf : l[k]? = some f) (hne : f.1 ≠ []) (hd : ∀ m, m < k → ∀ g, l[m]? = some g → g.1 ≠ f.1) : named (l.take (k + 1)) = true := by
  rw [named_eq] at h ⊢
  rw [List.take_add_one, hf]
  simp only [Option.toList_some, List.map_append, List.map_cons, List.map_nil]
  simp only [Bool.and_eq_true, decide_eq_true_eq] at h ⊢
  obtain ⟨h1, h2⟩ := h
  constructor
  · rw [List.count_append, h1]
    simp [hne]
  · rw [List.nodup_append]
    refine ⟨h2, by simp, ?_⟩
    intro a ha b hb
    simp only [List.mem_singleton] at hb
    subst hb
    obtain ⟨g, hg, rfl⟩ := List.mem_map.1 ha
    obtain ⟨m, hm⟩ := List.mem_iff_getElem?.1 hg
    rw [List.getElem?_take] at hm
    split at hm
    · rename_i hmk; exact hd m hmk g hm
    · cases hm
theorem named_empty {l : List Fl} {k : Nat} {f : Fl} (hf : l[k]? = some f) (he : f.1 = []) : named l = false := by
  rw [named_eq, decide_eq_false]
  · rfl
  · intro h
    exact List.count_eq_zero.1 h (List.mem_map.2 ⟨f, List.mem_of_getElem? hf, he⟩)
theorem named_dup {l : List Fl} {m k : Nat} {g f : Fl} (hm : l[m]? = some g) (hf : l[k]? = some f) (hmk : m < k) (he : g.1 = f.1) : named l = false := by
  rw [named_eq]
  have : ¬ (l.map (·.1)).Nodup := fun hn => by
    have := (List.getElem?_inj (i := m) (j := k) (by rw [List.length_map]; exact (List.getElem?_eq_some_iff.1 hm).1) hn).1 (by rw [List.getElem?_map, List.getElem?_map, hm, hf]; simp [he])
    omega
  rw [decide_eq_false this, Bool.and_false]
theorem named_nil : named [] = true := rfl
theorem tyCells_setF (T : Tab) (i : Nat) (r : List Pl × Int) : tyCells (setF T i r) = tyCells T := by
  have h : (setF T i r).map (·.self) = T.map (·.self) := setF_self T i r
  have e : ∀ A : Tab, tyCells A = (A.map (·.self)).flatMap fun s => [.int .i64 s.kind, .int .i64 s.elem, .int .i64 s.n, .string (bs s.name)] := fun A => by unfold tyCells; rw [List.flatMap_map]
  rw [e, e, h]
theorem setF_len (T : Tab) (i : Nat) (r : List Pl × Int) : (setF T i r).length = T.length := by unfold setF; simp
theorem RefX.setF {w : World} {F : Nat → Prop} {T : Tab} {Y : List ((List UInt8 × List Fl) × Value)} {la da : Option Addr} {lc dc : Nat} (h : RefX w F T Y la lc da dc) (i : Nat) (r : List Pl × Int) : RefX w F (Tp.setF T i r) Y la lc da dc :=
  ⟨by rw [tyCells_setF, setF_len]; exact h.rowL, by rw [setF_len]; exact h.farL, h.rowD, h.farD, h.each⟩
def DefRPost (F : Nat → Prop) (Y : List ((List UInt8 × List Fl) × Value)) (n : List UInt8) (l : List Fl) (r : Int × Tab) (w : World) (e : Ending) (w' : World) : Prop :=
  ∃ la lc Y' da dc, e = .returned (.tuple #[.agg #[.slice la r.2.length lc, .slice da Y'.length dc], .int .i64 r.1]) ∧ RefX w' (FarOr F w) r.2 Y' la lc da dc ∧ Y'.map (·.1) = (if r.1 = 0 then Y.map (·.1) ++ [(n, l)] else Y.map (·.1)) ∧ (Y' = [] → da = none) ∧ Below w.heap.size w w'
theorem Gb.farOr {F : Nat → Prop} {w : World} {g : Nat} (h : Gb F w g) : FarOr F w g := by
  rcases h with ⟨_, h⟩ | h
  · exact .inl h
  · right; omega
theorem def_err {w W : World} {F : Nat → Prop} {T T1 : Tab} {Y : List ((List UInt8 × List Fl) × Value)} {la da : Option Addr} {lc dc : Nat} {n : List UInt8} {l : List Fl} {k : Int} (h : RefX W (Gb F w) T1 Y la lc da dc) (hd : define T n l = (k, T1)) (hk : k ≠ 0) (hY : Y = [] → da = none) (hW : Below w.heap.size w W) (u v : Value) :
    DefRPost F Y n l (define T n l) w (.returned (.tuple #[.agg #[.slice la T1.length lc, .slice da Y.length dc], .int .i64 k])) ((W.setCell ⟨w.heap.size + 1, 0, none⟩ u).setCell ⟨w.heap.size + 1, 1, none⟩ v) := by
  rw [hd]
  exact ⟨la, lc, Y, da, dc, rfl, ((h.set _ _ (gb1 F w)).set _ _ (gb1 F w)).far (fun g _ hg => hg.farOr), by rw [if_neg hk], hY, (hW.setCell (by simp) _).setCell (by simp) _⟩
theorem infoDef : (Tryd.prog.info? 92).map (fun i => (i.zero, i.size, i.bytes)) = some (some (.agg #[.string ⟨#[]⟩, .slice none 0 0]), 2, 40) := by kernel_rfl
theorem infoRFld : (Tryd.prog.info? 64).map (fun i => (i.zero, i.size, i.bytes)) = some (some (.agg #[.string ⟨#[]⟩, .int .i64 0]), 2, 24) := by kernel_rfl
/-- What a row holds, laid behind an own row that holds nothing. -/
theorem wpList_append_copy {P : Program} {w : World} {B H0 : Nat} {ops : Array Oper} {rest : List Oper} {o : Oper} {a : Act} {Q : Exit → Act → World → Prop} (hgd : o.guard = none) (s x : Operand) (t : TypeId)
    (ho : o.op = .call { callee := .builtin .append, args := #[s, x], argTypes := #[t, t] })
    (e : TypeId) (i : TypeInfo) (z : Value) (size bytes : Nat) (ht : P.underlying t = some (.slice e)) (hi : P.info? e = some i) (hz : i.zero = some z)
    (hsize : i.size = size) (hby : i.bytes = bytes) (hzs : z.cells.size = size) (hsz : 0 < size)
    (hs : a.eval s = .slice (some ⟨H0, 0, none⟩) 0 0) (hown : w.ownsRow 0 e size (.slice (some ⟨H0, 0, none⟩) 0 0) 0 [])
    (xa : Option Addr) (n c : Nat) (xs : List Value) (hx : a.eval x = .slice xa n c) (hsrc : w.ownsRow 0 e size (.slice xa n c) n xs) (h1 : ∀ u ∈ xs, u.oneCell' = true) (hnone : n = 0 → xa = none)
    (hn : n ≤ maxLen) (hbytes : n * bytes ≤ 140737488355328) (hB : B ≤ w.heap.size) (hH : B ≤ H0)
    (h : ∀ g cap w', w'.ownsRow 0 e size (.slice (some ⟨g, 0, none⟩) n cap) n xs → Below B w w' → B ≤ g → g < w'.heap.size → wpList P ops Q rest (a.put o.dst (.slice (some ⟨g, 0, none⟩) n cap)) w') : wpList P ops Q (o :: rest) a w := by
  by_cases h0 : n = 0
  · subst h0
    obtain rfl := hnone rfl
    have hxs : xs = [] := by have := hsrc.1; simpa using this
    subst hxs
    have hc : c = 0 := by
      rcases hsrc.2 with ⟨h2, _⟩ | ⟨g, cap, cur, hv, _⟩
      · simp at h2; exact h2
      · simp at hv
    subst hc
    exact wpList_append_own_none hgd s x t ho 0 e i size ht hi _ 0 [] hs hown hx (h H0 0 w hown (Below.refl _ _) hH (hown.lt H0 rfl).2)
  · obtain ⟨g, cap2, hv, _, hlt⟩ := hsrc.form (by omega)
    simp only [Value.slice.injEq] at hv
    obtain ⟨rfl, _, rfl⟩ := hv
    refine wpList_append_lies w hgd s x t ho 0 e i z size bytes ht hi hz hsize hby hzs hsz _ 0 [] hs hown ⟨g, 0, none⟩ n c xs hx hsrc.1 (hsrc.cells (g := g) rfl) h1 (by omega) (by omega) (by rw [Nat.zero_add]; exact hbytes) (Nat.zero_le _) w.heap.size rfl ?_
    intro g2 cap3 w' hown' hgrow hat hlt'
    rw [Nat.zero_add, List.nil_append] at hown'
    rw [Nat.zero_add]
    refine h g2 cap3 w' hown' ((Below.refl B w).grown hgrow hB (fun q e => by injection e with e; have e : H0 = q := e; omega)) ?_ hlt'
    rcases hat with e | e
    · injection e with e; have e : H0 = g2 := e; omega
    · omega
theorem def_one (Y : List ((List UInt8 × List Fl) × Value)) (h : ∀ y ∈ Y, y.2.oneCell' = true) : ∀ u ∈ defCells Y, u.oneCell' = true := by
  intro u hu
  unfold defCells at hu
  rw [List.mem_flatMap] at hu
  obtain ⟨y, hy, he⟩ := hu
  simp at he
  rcases he with rfl | rfl
  · rfl
  · exact h y hy
theorem fl_one (l : List Fl) : ∀ u ∈ flCells l, u.oneCell' = true := by
  intro u hu
  unfold flCells at hu
  rw [List.mem_flatMap] at hu
  obtain ⟨y, hy, he⟩ := hu
  simp at he
  rcases he with rfl | rfl <;> rfl
theorem defCells_snoc (Y : List ((List UInt8 × List Fl) × Value)) (y : (List UInt8 × List Fl) × Value) : defCells (Y ++ [y]) = defCells Y ++ [.string (bs y.1.1), y.2] := by simp [defCells]
theorem row_one {w : World} {B size n : Nat} {e : TypeId} {v : Value} {xs : List Value} (h : w.ownsRow B e size v n xs) : v.oneCell' = true := by
  rcases h.2 with ⟨h2, _⟩ | ⟨g, cap, cur, rfl, _⟩
  · rw [h2]; rfl
  · rfl
theorem own_below {w w' : World} {B size n : Nat} {e : TypeId} {v : Value} {xs : List Value} (h : w.ownsRow B e size v n xs) (hb : Below w.heap.size w w') : w'.ownsRow B e size v n xs :=
  own_keep (F := fun _ => True) h (fun _ _ => trivial) (fun g hg _ => hb.block g hg)
theorem RefX.more {w w' : World} {F : Nat → Prop} {T : Tab} {Y : List ((List UInt8 × List Fl) × Value)} {la da : Option Addr} {lc dc : Nat} (h : RefX w F T Y la lc da dc) (hb : Below w.heap.size w w') {y : (List UInt8 × List Fl) × Value} {g c : Nat}
    (hd : w'.ownsRow 0 92 2 (.slice (some ⟨g, 0, none⟩) (Y.length + 1) c) (Y.length + 1) (defCells Y ++ [.string (bs y.1.1), y.2])) (hg : F g)
    (hf : w'.ownsRow 0 64 2 y.2 y.1.2.length (flCells y.1.2)) (hy : ∀ g, y.2.ownBlock = some g → F g) : RefX w' F T (Y ++ [y]) la lc (some ⟨g, 0, none⟩) c := by
  have h' := h.below hb
  refine ⟨h'.rowL, h'.farL, ?_, ?_, ?_⟩
  · rw [List.length_append, defCells_snoc]; exact hd
  · intro q hq
    rw [List.length_append] at hq
    injection hq with hq
    have hq : g = q := hq
    rw [← hq]; exact hg
  · intro x hx
    rcases List.mem_append.1 hx with hx | hx
    · exact h'.each x hx
    · rw [List.mem_singleton] at hx
      subst hx
      exact ⟨hf, hy⟩
theorem def_ok {w W : World} {F : Nat → Prop} {T T1 : Tab} {Y : List ((List UInt8 × List Fl) × Value)} {la : Option Addr} {g lc dc k : Nat} {n : List UInt8} {l : List Fl} {r : List Pl × Int} {fv : Value} (h : RefX W (Gb F w) T1 (Y ++ [((n, l), fv)]) la lc (some ⟨g, 0, none⟩) dc) (hd : define T n l = (0, Tp.setF T1 k r)) (hW : Below w.heap.size w W) (a u v : Value) :
    DefRPost F Y n l (define T n l) w (.returned (.tuple #[.agg #[.slice la T1.length lc, .slice (some ⟨g, 0, none⟩) (Y.length + 1) dc], .int .i64 0])) (((W.setCell ⟨w.heap.size, 1, none⟩ a).setCell ⟨w.heap.size + 1, 0, none⟩ u).setCell ⟨w.heap.size + 1, 1, none⟩ v) := by
  rw [hd]
  exact ⟨la, lc, Y ++ [((n, l), fv)], some ⟨g, 0, none⟩, dc, by simp [setF_len], ((((h.set _ _ (gb0 F w)).set _ _ (gb1 F w)).set _ _ (gb1 F w)).setF k r).far (fun g _ hg => hg.farOr), by simp, fun e => by simp at e, ((hW.setCell (by simp) _).setCell (by simp) _).setCell (by simp) _⟩
theorem def_end {w wr w3 w4 w5 : World} {F : Nat → Prop} {T1 : Tab} {Y : List ((List UInt8 × List Fl) × Value)} {la1 da : Option Addr} {lc1 dc g1 cap1 g2 cap2 gF capF : Nat} {n : List UInt8} {l : List Fl} {o : Obj} (h3 : RefX wr (Gb F w) T1 Y la1 lc1 da dc) (hz : w.heap.size + 1 < wr.heap.size) (b3 : Below wr.heap.size wr w3) (hg1 : wr.heap.size ≤ g1) (hl1 : g1 < w3.heap.size) (b4 : Below w3.heap.size w3 w4) (hg2 : w3.heap.size ≤ g2)
    (o4 : w4.ownsRow 0 64 2 (.slice (some ⟨g2, 0, none⟩) l.length cap2) l.length (flCells l))
    (o5 : w5.ownsRow 0 92 2 (.slice (some ⟨gF, 0, none⟩) (Y.length + 1) capF) (Y.length + 1) (defCells Y ++ [.string (bs n), .slice (some ⟨g2, 0, none⟩) l.length cap2]))
    (hgrow : (w4.alloc o).grownBy w5 (Value.slice (some ⟨g1, 0, none⟩) Y.length cap1).ownBlock) (hat : (Value.slice (some ⟨g1, 0, none⟩) Y.length cap1).ownBlock = some gF ∨ gF = w4.heap.size + 1) :
    Below wr.heap.size wr w5 ∧ RefX w5 (Gb F w) T1 (Y ++ [((n, l), .slice (some ⟨g2, 0, none⟩) l.length cap2)]) la1 lc1 (some ⟨gF, 0, none⟩) capF := by
  have b34 : Below wr.heap.size wr w4 := b3.trans (b4.mono b3.size)
  have z34 := b34.size
  have z3 := b3.size
  have hb5 : Below wr.heap.size wr w5 := (b34.alloc z34 o).grown hgrow (by simp; omega) (fun q e => by injection e with e; have e : g1 = q := e; omega)
  have hgF : wr.heap.size ≤ gF := by
    rcases hat with e | e
    · injection e with e; have e : g1 = gF := e; omega
    · omega
  refine ⟨hb5, h3.more hb5 o5 (by right; omega) ?_ (fun q e => by injection e with e; have e : g2 = q := e; right; omega)⟩
  exact own_keep (F := fun q => q ≠ g1) (o4.alloc o) (fun q e => by injection e with e; have e : g2 = q := e; show q ≠ g1; omega) (fun q hq hf => hgrow.block q hq (fun e => hf (by injection e)))
/-- Fields as they come in: wherever they lie. -/
def FArg (w : World) (a : Option Addr) (l : List Fl) : Prop := 0 < l.length → ∃ b off, a = some ⟨b, off, none⟩ ∧ b < w.heap.size ∧ ∀ j u, (flCells l)[j]? = some u → w.cell? ⟨b, off + j, none⟩ = some u
theorem FArg.below {w w' : World} {a : Option Addr} {l : List Fl} (h : FArg w a l) (hb : Below w.heap.size w w') : FArg w' a l := fun hl => by
  obtain ⟨b, off, h1, h2, h3⟩ := h hl
  exact ⟨b, off, h1, by have := hb.size; omega, fun j u hu => (hb.cell (p := ⟨b, off + j, none⟩) h2).trans (h3 j u hu)⟩
theorem add_offs (b off j : Nat) : (⟨b, off, none⟩ : Addr).add j = ⟨b, off + j, none⟩ := by unfold Addr.add; split <;> simp_all
theorem flCells_len (l : List Fl) : (flCells l).length = l.length * 2 := by
  induction l with
  | nil => rfl
  | cons a l ih => simp only [flCells, List.flatMap_cons, List.length_append, List.length_cons] at ih ⊢; rw [ih]; simp; omega
theorem fld_end {w3 w4 : World} {o : Obj} {n g2 cap2 : Nat} {xs : List Value}
    (hown : w4.ownsRow 0 64 2 (.slice (some ⟨g2, 0, none⟩) (0 + n) cap2) (0 + n) ([] ++ xs))
    (hgrow : (w3.alloc o).grownBy w4 (Value.slice (some ⟨w3.heap.size, 0, none⟩) 0 0).ownBlock) (hat : (Value.slice (some ⟨w3.heap.size, 0, none⟩) 0 0).ownBlock = some g2 ∨ g2 = w3.heap.size + 1) :
    w4.ownsRow 0 64 2 (.slice (some ⟨g2, 0, none⟩) n cap2) n xs ∧ Below w3.heap.size w3 w4 ∧ w3.heap.size ≤ g2 := by
  rw [Nat.zero_add, List.nil_append] at hown
  refine ⟨hown, ((Below.refl _ _).alloc (Nat.le_refl _) o).grown hgrow (by simp) (fun q e => by injection e with e; have e : w3.heap.size = q := e; omega), ?_⟩
  rcases hat with e | e
  · injection e with e; have e : w3.heap.size = g2 := e; omega
  · omega
end Go.Proofs.YtemnlkgjgalipaaDoor
