/-
  Layer 7: the machine of code.Run in memory.
  Layer 7: finish, get, next.
  Layer 7: a row of the machine grows: what is put aside, the calls, the output.
  Layer 7: the machine's set.
  Layer 7: arguments in memory, and set one by one.
  Layer 7: the machine's begin.
-/
import Derived.Test.YtmcpfjhdeplgmaaQRuns
import Derived.Test.YtmcpfjhdeplgmaaQPlaces
import Derived.Test.YtmcpfjhdeplgmaaQBase
import Derived.Deep.RegionHeld3
namespace Go.Proofs.Ytmcpfjhdeplgmaa
open Go.RowKit Cd Go.Maps
set_option linter.unusedVariables false
set_option linter.unusedSimpArgs false

/-- The machine's block, the registers', the setters', the map's; the values of its rows. -/
structure Blk where
  mb : Nat
  rb : Nat
  sb : Nat
  pb : Nat
structure MV where
  va : Value
  vc : Value
  vo : Value
  vi : Value
def codeV (U : UnR) (k : Nat) : Value := match U.fs[k]? with
  | some r => .slice r.ca r.f.code.length r.cc
  | none => .slice none 0 0
def vlCells (v : Vl) : List Value := [.int .i64 v.reg, .int .i64 v.word, .int .i64 v.call]
theorem vlCells_len (v : Vl) : (vlCells v).length = 3 := rfl
def calCells (U : UnR) (c : Cal) : List Value := [codeV U c.k, .int .i64 c.pos, .int .i64 c.frame, .int .i64 c.dst, .int .i64 c.aside]
theorem calCells_len (U : UnR) (c : Cal) : (calCells U c).length = 5 := rfl
def hdL (U : UnR) (b : Blk) : List Value := [.slice U.fa U.fs.length U.fc, .slice U.ga U.gs.length U.gc, .int .i64 U.top, .map (some b.pb)]
def tlL (b : Blk) (M : Mac) (V : MV) : List Value := [.int .i64 M.free, .slice (some ⟨b.rb, 0, none⟩) M.regs.length M.regs.length, .slice (some ⟨b.sb, 0, none⟩) M.sets.length M.sets.length, V.va, V.vc, V.vi, .int .i64 M.fuel, .int .i64 M.fin, .int .i64 M.code, V.vo]
def mcL (U : UnR) (b : Blk) (M : Mac) (V : MV) : List Value := hdL U b ++ (M.mem.map (Value.int .i64) ++ tlL b M V)
def mcO (l : List Value) : Obj := .cells l.toArray 67
def intsO (l : List Int) : Obj := .cells (l.map (Value.int .i64)).toArray 3
def u8s (l : List UInt8) : List Value := l.map fun c => Value.int .u8 c.toNat
/-- A row of bytes as a slice, read only. -/
def CIn (w : World) (v : Value) (l : List UInt8) : Prop := ∃ a c, v = .slice a l.length c ∧ l.length ≤ c ∧ c ≤ maxLen ∧ RowAt w w.heap.size a (u8s l)
structure MacAt (w0 w : World) (U : UnR) (N : Nat) (b : Blk) (M : Mac) (V : MV) : Prop where
  below : Below w0.heap.size w0 w
  lo : w0.heap.size ≤ b.mb ∧ w0.heap.size ≤ b.rb ∧ w0.heap.size ≤ b.sb ∧ w0.heap.size ≤ b.pb
  hi : b.mb < N ∧ b.rb < N ∧ b.sb < N ∧ b.pb < N
  ne : b.mb ≠ b.rb ∧ b.mb ≠ b.sb ∧ b.mb ≠ b.pb ∧ b.rb ≠ b.sb ∧ b.rb ≠ b.pb ∧ b.sb ≠ b.pb
  box : w.heap[b.mb]? = some (mcO (mcL U b M V))
  memlen : M.mem.length = 4096
  regs : w.heap[b.rb]? = some (intsO M.regs)
  sets : w.heap[b.sb]? = some (intsO M.sets)
  pl : PlacesAt w b.pb U.fns
  aside : w.ownsRow N 86 3 V.va M.aside.length (M.aside.flatMap vlCells)
  calls : w.ownsRow N 79 5 V.vc M.calls.length (M.calls.flatMap (calCells U))
  out : w.ownsRow N 5 1 V.vo M.out.length (u8s M.out)
  inp : CIn w0 V.vi M.inp
  ac : ∀ g, V.va.ownBlock = some g → V.vc.ownBlock ≠ some g
  ao : ∀ g, V.va.ownBlock = some g → V.vo.ownBlock ≠ some g
  co : ∀ g, V.vc.ownBlock = some g → V.vo.ownBlock ≠ some g
  base : N ≤ w.heap.size
variable {w0 w w' : World} {U : UnR} {N : Nat} {b : Blk} {M : Mac} {V : MV}
theorem mcL_get {U : UnR} {b : Blk} {M : Mac} {V : MV} (hm : M.mem.length = 4096) (k : Nat) : (mcL U b M V)[4100 + k]? = (tlL b M V)[k]? := by
  unfold mcL
  have e1 : (hdL U b).length = 4 := rfl
  rw [List.getElem?_append_right (by omega), List.getElem?_append_right (by rw [List.length_map, hm]; omega), List.length_map, hm, e1, show 4100 + k - 4 - 4096 = k by omega]
theorem mcL_mem {U : UnR} {b : Blk} {M : Mac} {V : MV} (hm : M.mem.length = 4096) {k : Nat} {x : Int} (hx : M.mem[k]? = some x) : (mcL U b M V)[4 + k]? = some (.int .i64 x) := by
  have hk := (List.getElem?_eq_some_iff.1 hx).1
  unfold mcL
  rw [List.getElem?_append_right (by simp [hdL]), List.getElem?_append_left (by simp [hdL]; omega)]
  simp [hdL, hx]
theorem mcL_hd {U : UnR} {b : Blk} {M : Mac} {V : MV} {k : Nat} (hk : k < 4) : (mcL U b M V)[k]? = (hdL U b)[k]? := by
  unfold mcL
  rw [List.getElem?_append_left (by simpa [hdL] using hk)]
theorem mcL_set {U : UnR} {b : Blk} {M M' : Mac} {V V' : MV} (hm : M.mem.length = 4096) (hmm : M'.mem = M.mem) (k : Nat) (u : Value) (ht : (tlL b M V).set k u = tlL b M' V') : (mcL U b M V).set (4100 + k) u = mcL U b M' V' := by
  unfold mcL
  have e1 : (hdL U b).length = 4 := rfl
  rw [List.set_append_right _ _ (by omega), List.set_append_right _ _ (by rw [List.length_map, hm]; omega), List.length_map, hm, hmm, ← ht, e1, show 4100 + k - 4 - 4096 = k by omega]
theorem mcL_setMem {U : UnR} {b : Blk} {M : Mac} {V : MV} (k : Nat) (x : Int) (hk : k < M.mem.length) : (mcL U b M V).set (4 + k) (.int .i64 x) = mcL U b { M with mem := M.mem.set k x } V := by
  unfold mcL
  rw [List.set_append_right _ _ (by simp [hdL]), List.set_append_left _ _ (by simp [hdL]; omega)]
  have : 4 + k - (hdL U b).length = k := by simp [hdL]
  rw [this, List.map_set]
  rfl
theorem cell_blk7 {w w' : World} {b : Nat} (h : w'.heap[b]? = w.heap[b]?) (j : Nat) : w'.cell? ⟨b, j, none⟩ = w.cell? ⟨b, j, none⟩ := by
  unfold World.cell?
  simp only [h]
theorem mcO_cell {w : World} {mb : Nat} {l : List Value} (h : w.heap[mb]? = some (mcO l)) (j : Nat) : w.cell? ⟨mb, j, none⟩ = l[j]? := by
  rw [cell_of_row w mb j _ _ _ h]; simp
theorem mcO_set {w : World} {mb : Nat} {l : List Value} (h : w.heap[mb]? = some (mcO l)) (j : Nat) (u : Value) : (w.setCell ⟨mb, j, none⟩ u).heap[mb]? = some (mcO (l.set j u)) := by
  rw [cells_set h j u]
  simp [mcO]
theorem intsO_cell {w : World} {rb : Nat} {l : List Int} (h : w.heap[rb]? = some (intsO l)) {j : Nat} {x : Int} (hx : l[j]? = some x) : w.cell? ⟨rb, j, none⟩ = some (.int .i64 x) ∧ w.frozen? ⟨rb, j, none⟩ = false := by
  refine ⟨?_, by simp [World.frozen?, h, intsO]⟩
  rw [cell_of_row w rb j _ _ _ h]
  simp [hx]
theorem intsO_set {w : World} {rb : Nat} {l : List Int} (h : w.heap[rb]? = some (intsO l)) (j : Nat) (x : Int) : (w.setCell ⟨rb, j, none⟩ (.int .i64 x)).heap[rb]? = some (intsO (l.set j x)) := by
  rw [cells_set h j _]
  simp [intsO, List.map_set]
theorem MacAt.cells (h : MacAt w0 w U N b M V) : w.cell? ⟨b.mb, 0, none⟩ = some (.slice U.fa U.fs.length U.fc) ∧ w.cell? ⟨b.mb, 1, none⟩ = some (.slice U.ga U.gs.length U.gc) ∧ w.cell? ⟨b.mb, 2, none⟩ = some (.int .i64 U.top) ∧ w.cell? ⟨b.mb, 3, none⟩ = some (.map (some b.pb)) ∧
    w.cell? ⟨b.mb, 4100, none⟩ = some (.int .i64 M.free) ∧ w.cell? ⟨b.mb, 4101, none⟩ = some (.slice (some ⟨b.rb, 0, none⟩) M.regs.length M.regs.length) ∧ w.cell? ⟨b.mb, 4102, none⟩ = some (.slice (some ⟨b.sb, 0, none⟩) M.sets.length M.sets.length) ∧ w.cell? ⟨b.mb, 4103, none⟩ = some V.va ∧ w.cell? ⟨b.mb, 4104, none⟩ = some V.vc ∧
    w.cell? ⟨b.mb, 4105, none⟩ = some V.vi ∧ w.cell? ⟨b.mb, 4106, none⟩ = some (.int .i64 M.fuel) ∧ w.cell? ⟨b.mb, 4107, none⟩ = some (.int .i64 M.fin) ∧ w.cell? ⟨b.mb, 4108, none⟩ = some (.int .i64 M.code) ∧ w.cell? ⟨b.mb, 4109, none⟩ = some V.vo := by
  have g := fun k => (mcO_cell h.box (4100 + k)).trans (mcL_get h.memlen k)
  exact ⟨(mcO_cell h.box 0).trans (mcL_hd (by omega)), (mcO_cell h.box 1).trans (mcL_hd (by omega)), (mcO_cell h.box 2).trans (mcL_hd (by omega)), (mcO_cell h.box 3).trans (mcL_hd (by omega)), g 0, g 1, g 2, g 3, g 4, g 5, g 6, g 7, g 8, g 9⟩
theorem MacAt.fz (h : MacAt w0 w U N b M V) (j : Nat) : w.frozen? ⟨b.mb, j, none⟩ = false := by simp [World.frozen?, h.box, mcO]
theorem MacAt.word (h : MacAt w0 w U N b M V) {k : Nat} {x : Int} (hx : M.mem[k]? = some x) : w.cell? ⟨b.mb, 4 + k, none⟩ = some (.int .i64 x) := (mcO_cell h.box _).trans (mcL_mem h.memlen hx)
/-- Which blocks are the machine's own. -/
def MV.own (V : MV) (g : Nat) : Prop := V.va.ownBlock = some g ∨ V.vc.ownBlock = some g ∨ V.vo.ownBlock = some g
/-- What a method does to memory. -/
structure Mov (b : Blk) (w : World) (V : MV) (w' : World) (V' : MV) : Prop where
  size : w.heap.size ≤ w'.heap.size
  own : ∀ g, V'.own g → V.own g ∨ w.heap.size ≤ g
  kept : ∀ j, j < w.heap.size → j ≠ b.mb → j ≠ b.rb → j ≠ b.sb → ¬ V.own j → w'.heap[j]? = w.heap[j]?
theorem Mov.refl (b : Blk) (w : World) (V : MV) : Mov b w V w V := ⟨Nat.le_refl _, fun _ h => .inl h, fun _ _ _ _ _ _ => rfl⟩
theorem Mov.trans {b : Blk} {w w' w'' : World} {V V' V'' : MV} (h : Mov b w V w' V') (h' : Mov b w' V' w'' V'') : Mov b w V w'' V'' :=
  ⟨Nat.le_trans h.size h'.size, fun g hg => (h'.own g hg).elim (h.own g) (fun e => .inr (Nat.le_trans h.size e)),
    fun j hj h1 h2 h3 h4 => (h'.kept j (Nat.lt_of_lt_of_le hj h.size) h1 h2 h3 (fun e => (h.own j e).elim h4 (fun e => by omega))).trans (h.kept j hj h1 h2 h3 h4)⟩
theorem Mov.same {b : Blk} {w w' : World} {V V' V'' : MV} (h : Mov b w V w' V') (ha : V''.va = V'.va) (hc : V''.vc = V'.vc) (ho : V''.vo = V'.vo) : Mov b w V w' V'' :=
  ⟨h.size, fun g hg => h.own g (by unfold MV.own at hg ⊢; rw [ha, hc, ho] at hg; exact hg), h.kept⟩
theorem Mov.of_below {b : Blk} {w w' : World} {V : MV} (h : Below w.heap.size w w') : Mov b w V w' V := ⟨h.size, fun _ h => .inl h, fun j hj _ _ _ _ => h.block j hj⟩
theorem MacAt.keep (h : MacAt w0 w U N b M V) (hb : Below w.heap.size w w') : MacAt w0 w' U N b M V :=
  ⟨h.below.trans (hb.mono h.below.size), h.lo, h.hi, h.ne, (hb.block _ (lt_heap h.box)).trans h.box, h.memlen, (hb.block _ (lt_heap h.regs)).trans h.regs, (hb.block _ (lt_heap h.sets)).trans h.sets, h.pl.below hb h.pl.lt,
    own_keep h.aside (fun g hg => hb.block g (h.aside.lt g hg).2), own_keep h.calls (fun g hg => hb.block g (h.calls.lt g hg).2), own_keep h.out (fun g hg => hb.block g (h.out.lt g hg).2), h.inp, h.ac, h.ao, h.co, Nat.le_trans h.base hb.size⟩
/-- A field of the machine is set; rows and registers stay. -/
theorem MacAt.field (h : MacAt w0 w U N b M V) (k : Nat) (u : Value) {M' : Mac} (ht : (tlL b M V).set k u = tlL b M' V) (hm : M'.mem = M.mem) (hr : M'.regs = M.regs) (hs : M'.sets = M.sets) (ha : M'.aside = M.aside) (hc : M'.calls = M.calls) (ho : M'.out = M.out) (hi : M'.inp = M.inp) :
    MacAt w0 (w.setCell ⟨b.mb, 4100 + k, none⟩ u) U N b M' V := by
  obtain ⟨l1, l2, l3, l4⟩ := h.lo
  obtain ⟨n1, n2, n3, n4, n5, n6⟩ := h.ne
  obtain ⟨i1, i2, i3, i4⟩ := h.hi
  refine ⟨h.below.setCell (show w0.heap.size ≤ b.mb by omega) _, h.lo, h.hi, h.ne, ?_, by rw [hm]; exact h.memlen, by rw [hr]; exact (heap_other7 (Ne.symm n1)).trans h.regs, by rw [hs]; exact (heap_other7 (Ne.symm n2)).trans h.sets, h.pl.keep (heap_other7 (Ne.symm n3)),
    by rw [ha]; exact own_keep h.aside (fun g hg => heap_other7 (by have := (h.aside.lt g hg).1; omega)), by rw [hc]; exact own_keep h.calls (fun g hg => heap_other7 (by have := (h.calls.lt g hg).1; omega)), by rw [ho]; exact own_keep h.out (fun g hg => heap_other7 (by have := (h.out.lt g hg).1; omega)), by rw [hi]; exact h.inp, h.ac, h.ao, h.co, by simpa using h.base⟩
  rw [mcO_set h.box, mcL_set h.memlen hm k u ht]
theorem MacAt.setInp (h : MacAt w0 w U N b M V) (u : Value) (cs : List UInt8) (hu : CIn w0 u cs) : MacAt w0 (w.setCell ⟨b.mb, 4105, none⟩ u) U N b { M with inp := cs } { V with vi := u } := by
  obtain ⟨l1, l2, l3, l4⟩ := h.lo
  obtain ⟨n1, n2, n3, n4, n5, n6⟩ := h.ne
  obtain ⟨i1, i2, i3, i4⟩ := h.hi
  refine ⟨h.below.setCell (show w0.heap.size ≤ b.mb by omega) _, h.lo, h.hi, h.ne, ?_, h.memlen, (heap_other7 (Ne.symm n1)).trans h.regs, (heap_other7 (Ne.symm n2)).trans h.sets, h.pl.keep (heap_other7 (Ne.symm n3)),
    own_keep h.aside (fun g hg => heap_other7 (by have := (h.aside.lt g hg).1; omega)), own_keep h.calls (fun g hg => heap_other7 (by have := (h.calls.lt g hg).1; omega)), own_keep h.out (fun g hg => heap_other7 (by have := (h.out.lt g hg).1; omega)), hu, h.ac, h.ao, h.co, by simpa using h.base⟩
  rw [mcO_set h.box]
  exact congrArg (fun l => some (mcO l)) (mcL_set (U := U) (b := b) (M := M) (V := V) (M' := { M with inp := cs }) (V' := { V with vi := u }) h.memlen rfl 5 u rfl)
theorem MacAt.setWord (h : MacAt w0 w U N b M V) (k : Nat) (x : Int) (hk : k < 4096) : MacAt w0 (w.setCell ⟨b.mb, 4 + k, none⟩ (.int .i64 x)) U N b { M with mem := M.mem.set k x } V := by
  obtain ⟨l1, l2, l3, l4⟩ := h.lo
  obtain ⟨n1, n2, n3, n4, n5, n6⟩ := h.ne
  obtain ⟨i1, i2, i3, i4⟩ := h.hi
  refine ⟨h.below.setCell (show w0.heap.size ≤ b.mb by omega) _, h.lo, h.hi, h.ne, ?_, by simpa using h.memlen, (heap_other7 (Ne.symm n1)).trans h.regs, (heap_other7 (Ne.symm n2)).trans h.sets, h.pl.keep (heap_other7 (Ne.symm n3)),
    own_keep h.aside (fun g hg => heap_other7 (by have := (h.aside.lt g hg).1; omega)), own_keep h.calls (fun g hg => heap_other7 (by have := (h.calls.lt g hg).1; omega)), own_keep h.out (fun g hg => heap_other7 (by have := (h.out.lt g hg).1; omega)), h.inp, h.ac, h.ao, h.co, by simpa using h.base⟩
  rw [mcO_set h.box, mcL_setMem k x (by rw [h.memlen]; exact hk)]
theorem MacAt.setReg (h : MacAt w0 w U N b M V) (k : Nat) (x : Int) : MacAt w0 (w.setCell ⟨b.rb, k, none⟩ (.int .i64 x)) U N b { M with regs := M.regs.set k x } V := by
  obtain ⟨l1, l2, l3, l4⟩ := h.lo
  obtain ⟨n1, n2, n3, n4, n5, n6⟩ := h.ne
  obtain ⟨i1, i2, i3, i4⟩ := h.hi
  refine ⟨h.below.setCell (show w0.heap.size ≤ b.rb by omega) _, h.lo, h.hi, h.ne, ?_, h.memlen, intsO_set h.regs k x, (heap_other7 (Ne.symm n4)).trans h.sets, h.pl.keep (heap_other7 (Ne.symm n5)),
    own_keep h.aside (fun g hg => heap_other7 (by have := (h.aside.lt g hg).1; omega)), own_keep h.calls (fun g hg => heap_other7 (by have := (h.calls.lt g hg).1; omega)), own_keep h.out (fun g hg => heap_other7 (by have := (h.out.lt g hg).1; omega)), h.inp, h.ac, h.ao, h.co, by simpa using h.base⟩
  rw [heap_other7 n1, h.box]
  simp [mcL, tlL]
theorem MacAt.setSet (h : MacAt w0 w U N b M V) (k : Nat) (x : Int) : MacAt w0 (w.setCell ⟨b.sb, k, none⟩ (.int .i64 x)) U N b { M with sets := M.sets.set k x } V := by
  obtain ⟨l1, l2, l3, l4⟩ := h.lo
  obtain ⟨n1, n2, n3, n4, n5, n6⟩ := h.ne
  obtain ⟨i1, i2, i3, i4⟩ := h.hi
  refine ⟨h.below.setCell (show w0.heap.size ≤ b.sb by omega) _, h.lo, h.hi, h.ne, ?_, h.memlen, (heap_other7 n4).trans h.regs, intsO_set h.sets k x, h.pl.keep (heap_other7 (Ne.symm n6)),
    own_keep h.aside (fun g hg => heap_other7 (by have := (h.aside.lt g hg).1; omega)), own_keep h.calls (fun g hg => heap_other7 (by have := (h.calls.lt g hg).1; omega)), own_keep h.out (fun g hg => heap_other7 (by have := (h.out.lt g hg).1; omega)), h.inp, h.ac, h.ao, h.co, by simpa using h.base⟩
  rw [heap_other7 n2, h.box]
  simp [mcL, tlL]
theorem Mov.cell (b : Blk) (w : World) (V : MV) {bk : Nat} (hb : bk = b.mb ∨ bk = b.rb ∨ bk = b.sb) (j : Nat) (u : Value) : Mov b w V (w.setCell ⟨bk, j, none⟩ u) V :=
  ⟨by simp, fun _ h => .inl h, fun k _ h1 h2 h3 _ => heap_other7 (by rcases hb with rfl | rfl | rfl <;> assumption)⟩
end Go.Proofs.Ytmcpfjhdeplgmaa
namespace Go.Proofs.Ytmcpfjhdeplgmaa
open Go.RowKit Cd Go.Maps
set_option linter.unusedVariables false
set_option linter.unusedSimpArgs false

variable {w0 w w' : World} {U : UnR} {N : Nat} {b : Blk} {M : Mac} {V : MV}
abbrev mP (b : Blk) : Value := .pointer (some ⟨b.mb, 0, none⟩)
/-- What a method leaves. -/
def MPost (w0 : World) (U : UnR) (N : Nat) (b : Blk) (w : World) (V : MV) (M' : Mac) (v : Value) (e : Ending) (w' : World) : Prop := e = .returned v ∧ ∃ V', MacAt w0 w' U N b M' V' ∧ Mov b w V w' V'
set_option maxHeartbeats 1000000 in
theorem finish_any (h : MacAt w0 w U N b M V) (fin code : Int) : Calls Try.prog 46 #[mP b, .int .i64 fin, .int .i64 code] w (MPost w0 U N b w V { M with fin := fin, code := code } (.tuple #[])) := by
  obtain ⟨c0, c1, c2, c3, c4, c5, c6, c7, c8, c9, c10, c11, c12, c13⟩ := h.cells
  have f1 := h.fz 4107
  have f2 := h.fz 4108
  have H := Lib.hid h; clear h
  clear c0 c1 c2 c3 c4 c5 c6 c7 c8 c9 c10
  go_enter Try.func46, Try.ntmps46
  go_wp2
  go_end0
  have h1 := H.out.field (M' := { M with fin := fin }) 7 (.int .i64 fin) rfl rfl rfl rfl rfl rfl rfl rfl
  have h2 := h1.field (M' := { M with fin := fin, code := code }) 8 (.int .i64 code) rfl rfl rfl rfl rfl rfl rfl rfl
  exact ⟨rfl, V, h2, (Mov.cell b _ V (.inl rfl) _ _).trans (Mov.cell b _ V (.inl rfl) _ _)⟩
/-- The registers' lists have one length. -/
theorem gR_at {l : List Int} {r : Int} (h0 : 0 ≤ r) (h1 : r < l.length) : l[r.toNat]? = some (gR l r.toNat) := by
  unfold gR
  rw [List.getD_eq_getElem?_getD, List.getElem?_eq_getElem (by omega)]
  rfl
set_option maxRecDepth 100000 in
set_option maxHeartbeats 2000000 in
theorem get_any (h : MacAt w0 w U N b M V) (r : Int) (h0 : 0 ≤ r) (h1 : r < M.regs.length) (hs : M.sets.length = M.regs.length) (hcl : M.calls.length ≤ 1000001) : Calls Try.prog 49 #[mP b, .int .i64 r] w (RPost (.int .i64 (mget M r)) w) := by
  obtain ⟨c0, c1, c2, c3, c4, c5, c6, c7, c8, c9, c10, c11, c12, c13⟩ := h.cells
  obtain ⟨ca, cc, hvc⟩ := row_slice h.calls
  rw [hvc] at c8
  obtain ⟨r0, _⟩ := intsO_cell h.regs (gR_at h0 h1)
  obtain ⟨s0, _⟩ := intsO_cell h.sets (gR_at h0 (by omega))
  rw [hs] at c6
  obtain ⟨x, hx⟩ : ∃ x, gR M.sets r.toNat = x := ⟨_, rfl⟩
  obtain ⟨y, hy⟩ : ∃ y, gR M.regs r.toNat = y := ⟨_, rfl⟩
  obtain ⟨n, hn⟩ : ∃ n, M.regs.length = n := ⟨_, rfl⟩
  obtain ⟨d, hd⟩ : ∃ d, M.calls.length = d := ⟨_, rfl⟩
  have hg : mget M r = if x = (d : Int) then y else 0 := by unfold mget; rw [hx, hy, hd]
  rw [hg]
  rw [hx] at s0; rw [hy] at r0; rw [hn] at c5 c6 h1; rw [hd] at c8
  clear hg hx hy hn hd h hs hvc c0 c1 c2 c3 c4 c7 c9 c10 c11 c12 c13 hcl
  by_cases he : x = (d : Int)
  · have t1 : (x != (d : Int)) = false := by simpa using he
    rw [if_pos he]
    clear he
    go_enter Try.func49, Try.ntmps49
    go_wp2
    go_region_held3 (fun w' => w'.cell? ⟨b.mb, 4102, none⟩ = some (.slice (some ⟨b.sb, 0, none⟩) n n) ∧ w'.cell? ⟨b.mb, 4104, none⟩ = some (.slice ca d cc) ∧ w'.cell? ⟨b.sb, r.toNat, none⟩ = some (.int .i64 x)) (go_keep) (fail)
    all_goals go_wp2
    all_goals go_ret
    all_goals exact ⟨rfl, (Below.refl _ w).drew⟩
  · have t1 : (x != (d : Int)) = true := by simpa using he
    rw [if_neg he]
    clear he
    go_enter Try.func49, Try.ntmps49
    go_wp2
    go_region_held3 (fun w' => w'.cell? ⟨b.mb, 4102, none⟩ = some (.slice (some ⟨b.sb, 0, none⟩) n n) ∧ w'.cell? ⟨b.mb, 4104, none⟩ = some (.slice ca d cc) ∧ w'.cell? ⟨b.sb, r.toNat, none⟩ = some (.int .i64 x)) (go_keep) (fail)
    all_goals go_wp2
    all_goals go_ret
    all_goals exact ⟨rfl, (Below.refl _ w).drew⟩
theorem CIn.cons {w : World} {v : Value} {c : UInt8} {cs : List UInt8} (h : CIn w v (c :: cs)) : ∃ b off ic, v = .slice (some ⟨b, off, none⟩) (cs.length + 1) ic ∧ cs.length + 1 ≤ ic ∧ ic ≤ maxLen ∧ b < w.heap.size ∧ w.cell? ⟨b, off, none⟩ = some (.int .u8 c.toNat) ∧ CIn w (sliced (some ⟨b, off, none⟩) 1 (cs.length + 1) ic 1) cs := by
  obtain ⟨a, ic, rfl, hl, hm, hr⟩ := h
  obtain ⟨b, off, rfl, hb, hB, hc⟩ := hr (by simp [u8s])
  refine ⟨b, off, ic, rfl, by simp at hl; omega, hm, hb, by have := hc 0 (.int .u8 c.toNat) (by simp [u8s]); simpa using this, ?_⟩
  unfold sliced
  refine ⟨_, _, rfl, by simp at hl; omega, by omega, fun h0 => ?_⟩
  by_cases he : ic = 1
  · exfalso
    simp [u8s] at h0 hl
    omega
  · rw [if_neg he]
    refine ⟨b, off + 1, by simp [Addr.add], hb, hB, fun j u hu => ?_⟩
    have := hc (j + 1) u (by simpa [u8s] using hu)
    rwa [show off + 1 + j = off + (j + 1) by omega]
/-- The next byte. -/
def nextM (M : Mac) : Int × Mac := match M.inp with
  | [] => (-1, M)
  | c :: cs => (c.toNat, { M with inp := cs })
set_option maxRecDepth 100000 in
set_option maxHeartbeats 2000000 in
theorem next_c (h : MacAt w0 w U N b M V) : Calls Try.prog 52 #[mP b] w (MPost w0 U N b w V (nextM M).2 (.int .i64 (nextM M).1)) := by
  obtain ⟨c0, c1, c2, c3, c4, c5, c6, c7, c8, c9, c10, c11, c12, c13⟩ := h.cells
  have fz := h.fz 4105
  have hinp := h.inp
  have H := Lib.hid h; clear h
  clear c0 c1 c2 c3 c4 c5 c6 c7 c8 c10 c11 c12 c13
  unfold nextM
  cases hi : M.inp with
  | nil =>
    rw [hi] at hinp
    obtain ⟨a, ic, hv, _⟩ := hinp
    rw [hv] at c9
    simp only [List.length_nil] at c9
    clear hv hi
    go_enter Try.func52, Try.ntmps52
    go_wp2
    go_ret
    exact ⟨rfl, V, H.out, Mov.refl b w V⟩
  | cons c cs =>
    rw [hi] at hinp
    obtain ⟨ib, off, ic, hv, hl, hm, hbl, k0, hc⟩ := hinp.cons
    unfold maxLen at hm
    rw [hv] at c9
    have k1 : w.cell? ⟨ib, off, none⟩ = some (.int .u8 c.toNat) := (H.out.below.cell (p := ⟨ib, off, none⟩) hbl).trans k0
    have HC := Lib.hid hc
    have p0 : (0 : Int) ≤ (c.toNat : Int) := Int.natCast_nonneg _
    have p1 : (c.toNat : Int) ≤ 255 := by have := c.toNat_lt; omega
    obtain ⟨n, hn⟩ : ∃ n, cs.length + 1 = n := ⟨_, rfl⟩
    rw [hn] at c9 hl
    have HN := Lib.hid hn
    have n0 : (1 : Int) ≤ (n : Int) := by omega
    have n1 : (n : Int) ≤ 9223372036854775807 := by omega
    have n2 : (n : Int) ≤ (ic : Int) := by omega
    have n3 : 1 ≤ n := by omega
    have t0 : ((n : Int) == 0) = false := by simp; omega
    clear hm
    clear hv hi k0 hinp hc hn
    by_cases hic : ic = 1
    · subst hic
      obtain rfl : n = 1 := by omega
      have hs : sliced (some ⟨ib, off, none⟩) 1 1 1 1 = .slice (some ⟨ib, off, none⟩) 0 0 := by
        unfold sliced; simp
      have HSL : Hid (CIn w0 (.slice (some ⟨ib, off, none⟩) 0 0) cs) := Lib.hid (by have h := HC.out; rw [HN.out] at h; rw [hs] at h; exact h)
      clear hs HC
      go_enter Try.func52, Try.ntmps52
      go_wp2
      go_ret
      exact ⟨rfl, _, H.out.setInp _ _ HSL.out, (Mov.cell b w V (.inl rfl) _ _).same rfl rfl rfl⟩
    · have hs : sliced (some ⟨ib, off, none⟩) 1 n ic 1 = .slice (some ⟨ib, off + 1, none⟩) (n - 1) (ic - 1) := by
        unfold sliced; rw [if_neg hic]; simp [Addr.add]
      have HSL : Hid (CIn w0 (.slice (some ⟨ib, off + 1, none⟩) (n - 1) (ic - 1)) cs) := Lib.hid (by have h := HC.out; rw [HN.out] at h; rw [hs] at h; exact h)
      clear hs HC
      go_enter Try.func52, Try.ntmps52
      go_wp2
      go_ret
      exact ⟨rfl, _, H.out.setInp _ _ HSL.out, (Mov.cell b w V (.inl rfl) _ _).same rfl rfl rfl⟩
end Go.Proofs.Ytmcpfjhdeplgmaa
namespace Go.Proofs.Ytmcpfjhdeplgmaa
open Go.RowKit Cd Go.Maps
set_option linter.unusedVariables false
set_option linter.unusedSimpArgs false
variable {w0 w w' : World} {U : UnR} {N : Nat} {b : Blk} {M : Mac} {V : MV}
theorem MacAt.pushA (h : MacAt w0 w U N b M V) {w2 w1 : World} (hb : Below w.heap.size w w2) (hg1 : w2.grownBy w1 V.va.ownBlock) {v' : Value} {x : Vl} (ho : w1.ownsRow N 86 3 v' (M.aside.length + 1) (M.aside.flatMap vlCells ++ vlCells x)) (hat : ∀ g, v'.ownBlock = some g → V.va.ownBlock = some g ∨ w.heap.size ≤ g) :
    MacAt w0 (w1.setCell ⟨b.mb, 4103, none⟩ v') U N b { M with aside := M.aside ++ [x] } { V with va := v' } ∧ Mov b w V (w1.setCell ⟨b.mb, 4103, none⟩ v') { V with va := v' } := by
  have hk := h.keep hb
  obtain ⟨l1, l2, l3, l4⟩ := h.lo
  obtain ⟨n1, n2, n3, n4, n5, n6⟩ := h.ne
  obtain ⟨i1, i2, i3, i4⟩ := h.hi
  have hbs := hb.size
  have hbase := h.base
  have hlow : ∀ q, q < N → w1.heap[q]? = w2.heap[q]? := fun q hq => hg1.block q (by omega) (fun e => by have := (h.aside.lt q e.symm).1; omega)
  have hs1 : w2.heap.size ≤ w1.heap.size := hg1.size
  constructor
  · refine ⟨((h.below.trans (hb.mono h.below.size)).grown hg1 (by have := h.below.size; omega) (fun q e => by have := (h.aside.lt q e).1; omega)).setCell (show w0.heap.size ≤ b.mb by omega) _, h.lo, h.hi, h.ne, ?_, h.memlen, (heap_other7 (Ne.symm n1)).trans ((hlow _ i2).trans hk.regs), (heap_other7 (Ne.symm n2)).trans ((hlow _ i3).trans hk.sets), (hk.pl.keep (hlow _ i4)).keep (heap_other7 (Ne.symm n3)),
      by simpa [List.flatMap_append] using (own_keep ho (fun g hg => heap_other7 (by have := (ho.lt g hg).1; omega))), own_keep hk.calls (fun g hg => (heap_other7 (by have := (h.calls.lt g hg).1; omega)).trans (hg1.block g (hk.calls.lt g hg).2 (fun e => h.ac g e.symm hg))), own_keep hk.out (fun g hg => (heap_other7 (by have := (h.out.lt g hg).1; omega)).trans (hg1.block g (hk.out.lt g hg).2 (fun e => h.ao g e.symm hg))), h.inp, fun g hg e => (hat g hg).elim (fun h1 => h.ac g h1 e) (fun h1 => by have := (h.calls.lt g e).2; omega), fun g hg e => (hat g hg).elim (fun h1 => h.ao g h1 e) (fun h1 => by have := (h.out.lt g e).2; omega), h.co, by simp; omega⟩
    have hbx := (hlow _ i1).trans hk.box
    rw [mcO_set hbx]
    exact congrArg (fun l => some (mcO l)) (mcL_set (U := U) (b := b) (M := M) (V := V) (M' := { M with aside := M.aside ++ [x] }) (V' := { V with va := v' }) h.memlen rfl 3 v' rfl)
  · refine ⟨by simp; omega, fun g hg => ?_, fun j hj h1 h2 h3 h4 => ?_⟩
    · unfold MV.own at hg ⊢
      simp only at hg
      rcases hg with hg | hg | hg
      · exact (hat g hg).imp .inl id
      · exact .inl (.inr (.inl hg))
      · exact .inl (.inr (.inr hg))
    · rw [heap_other7 h1, hg1.block j (by omega) (fun e => h4 (.inl e.symm)), hb.block j hj]
theorem MacAt.pushC (h : MacAt w0 w U N b M V) {w2 w1 : World} (hb : Below w.heap.size w w2) (hg1 : w2.grownBy w1 V.vc.ownBlock) {v' : Value} {x : Cal} (ho : w1.ownsRow N 79 5 v' (M.calls.length + 1) (M.calls.flatMap (calCells U) ++ calCells U x)) (hat : ∀ g, v'.ownBlock = some g → V.vc.ownBlock = some g ∨ w.heap.size ≤ g) :
    MacAt w0 (w1.setCell ⟨b.mb, 4104, none⟩ v') U N b { M with calls := M.calls ++ [x] } { V with vc := v' } ∧ Mov b w V (w1.setCell ⟨b.mb, 4104, none⟩ v') { V with vc := v' } := by
  have hk := h.keep hb
  obtain ⟨l1, l2, l3, l4⟩ := h.lo
  obtain ⟨n1, n2, n3, n4, n5, n6⟩ := h.ne
  obtain ⟨i1, i2, i3, i4⟩ := h.hi
  have hbs := hb.size
  have hbase := h.base
  have hlow : ∀ q, q < N → w1.heap[q]? = w2.heap[q]? := fun q hq => hg1.block q (by omega) (fun e => by have := (h.calls.lt q e.symm).1; omega)
  have hs1 : w2.heap.size ≤ w1.heap.size := hg1.size
  constructor
  · refine ⟨((h.below.trans (hb.mono h.below.size)).grown hg1 (by have := h.below.size; omega) (fun q e => by have := (h.calls.lt q e).1; omega)).setCell (show w0.heap.size ≤ b.mb by omega) _, h.lo, h.hi, h.ne, ?_, h.memlen, (heap_other7 (Ne.symm n1)).trans ((hlow _ i2).trans hk.regs), (heap_other7 (Ne.symm n2)).trans ((hlow _ i3).trans hk.sets), (hk.pl.keep (hlow _ i4)).keep (heap_other7 (Ne.symm n3)),
      own_keep hk.aside (fun g hg => (heap_other7 (by have := (h.aside.lt g hg).1; omega)).trans (hg1.block g (hk.aside.lt g hg).2 (fun e => h.ac g hg e.symm))), by simpa [List.flatMap_append] using (own_keep ho (fun g hg => heap_other7 (by have := (ho.lt g hg).1; omega))), own_keep hk.out (fun g hg => (heap_other7 (by have := (h.out.lt g hg).1; omega)).trans (hg1.block g (hk.out.lt g hg).2 (fun e => h.co g e.symm hg))), h.inp, fun g hg e => (hat g e).elim (fun h1 => h.ac g hg h1) (fun h1 => by have := (h.aside.lt g hg).2; omega), h.ao, fun g hg e => (hat g hg).elim (fun h1 => h.co g h1 e) (fun h1 => by have := (h.out.lt g e).2; omega), by simp; omega⟩
    have hbx := (hlow _ i1).trans hk.box
    rw [mcO_set hbx]
    exact congrArg (fun l => some (mcO l)) (mcL_set (U := U) (b := b) (M := M) (V := V) (M' := { M with calls := M.calls ++ [x] }) (V' := { V with vc := v' }) h.memlen rfl 4 v' rfl)
  · refine ⟨by simp; omega, fun g hg => ?_, fun j hj h1 h2 h3 h4 => ?_⟩
    · unfold MV.own at hg ⊢
      simp only at hg
      rcases hg with hg | hg | hg
      · exact .inl (.inl hg)
      · exact (hat g hg).imp (fun e => .inr (.inl e)) id
      · exact .inl (.inr (.inr hg))
    · rw [heap_other7 h1, hg1.block j (by omega) (fun e => h4 (.inr (.inl e.symm))), hb.block j hj]
theorem MacAt.pushO (h : MacAt w0 w U N b M V) {w2 w1 : World} (hb : Below w.heap.size w w2) (hg1 : w2.grownBy w1 V.vo.ownBlock) {v' : Value} {x : UInt8} (ho : w1.ownsRow N 5 1 v' (M.out.length + 1) (u8s M.out ++ [Value.int .u8 x.toNat])) (hat : ∀ g, v'.ownBlock = some g → V.vo.ownBlock = some g ∨ w.heap.size ≤ g) :
    MacAt w0 (w1.setCell ⟨b.mb, 4109, none⟩ v') U N b { M with out := M.out ++ [x] } { V with vo := v' } ∧ Mov b w V (w1.setCell ⟨b.mb, 4109, none⟩ v') { V with vo := v' } := by
  have hk := h.keep hb
  obtain ⟨l1, l2, l3, l4⟩ := h.lo
  obtain ⟨n1, n2, n3, n4, n5, n6⟩ := h.ne
  obtain ⟨i1, i2, i3, i4⟩ := h.hi
  have hbs := hb.size
  have hbase := h.base
  have hlow : ∀ q, q < N → w1.heap[q]? = w2.heap[q]? := fun q hq => hg1.block q (by omega) (fun e => by have := (h.out.lt q e.symm).1; omega)
  have hs1 : w2.heap.size ≤ w1.heap.size := hg1.size
  constructor
  · refine ⟨((h.below.trans (hb.mono h.below.size)).grown hg1 (by have := h.below.size; omega) (fun q e => by have := (h.out.lt q e).1; omega)).setCell (show w0.heap.size ≤ b.mb by omega) _, h.lo, h.hi, h.ne, ?_, h.memlen, (heap_other7 (Ne.symm n1)).trans ((hlow _ i2).trans hk.regs), (heap_other7 (Ne.symm n2)).trans ((hlow _ i3).trans hk.sets), (hk.pl.keep (hlow _ i4)).keep (heap_other7 (Ne.symm n3)),
      own_keep hk.aside (fun g hg => (heap_other7 (by have := (h.aside.lt g hg).1; omega)).trans (hg1.block g (hk.aside.lt g hg).2 (fun e => h.ao g hg e.symm))), own_keep hk.calls (fun g hg => (heap_other7 (by have := (h.calls.lt g hg).1; omega)).trans (hg1.block g (hk.calls.lt g hg).2 (fun e => h.co g hg e.symm))), by simpa [u8s] using (own_keep ho (fun g hg => heap_other7 (by have := (ho.lt g hg).1; omega))), h.inp, h.ac, fun g hg e => (hat g e).elim (fun h1 => h.ao g hg h1) (fun h1 => by have := (h.aside.lt g hg).2; omega), fun g hg e => (hat g e).elim (fun h1 => h.co g hg h1) (fun h1 => by have := (h.calls.lt g hg).2; omega), by simp; omega⟩
    have hbx := (hlow _ i1).trans hk.box
    rw [mcO_set hbx]
    exact congrArg (fun l => some (mcO l)) (mcL_set (U := U) (b := b) (M := M) (V := V) (M' := { M with out := M.out ++ [x] }) (V' := { V with vo := v' }) h.memlen rfl 9 v' rfl)
  · refine ⟨by simp; omega, fun g hg => ?_, fun j hj h1 h2 h3 h4 => ?_⟩
    · unfold MV.own at hg ⊢
      simp only at hg
      rcases hg with hg | hg | hg
      · exact .inl (.inl hg)
      · exact .inl (.inr (.inl hg))
      · exact (hat g hg).imp (fun e => .inr (.inr e)) id
    · rw [heap_other7 h1, hg1.block j (by omega) (fun e => h4 (.inr (.inr e.symm))), hb.block j hj]
end Go.Proofs.Ytmcpfjhdeplgmaa
namespace Go.Proofs.Ytmcpfjhdeplgmaa
open Go.RowKit Cd Go.Maps
set_option linter.unusedVariables false
set_option linter.unusedSimpArgs false
variable {w0 w w' : World} {U : UnR} {N : Nat} {b : Blk} {M : Mac} {V : MV}
theorem infoVl : (Try.prog.info? 86).map (fun i => (i.zero, i.size, i.bytes)) = some (some (.agg #[.int .i64 0, .int .i64 0, .int .i64 0]), 3, 24) := by kernel_rfl
/-- What set leaves: the row of calls stays where it is. -/
def SPost (w0 : World) (U : UnR) (N : Nat) (b : Blk) (w : World) (V : MV) (M' : Mac) (e : Ending) (w' : World) : Prop := e = .returned (.tuple #[]) ∧ ∃ V', MacAt w0 w' U N b M' V' ∧ Mov b w V w' V' ∧ V'.vc = V.vc
set_option maxRecDepth 100000 in
set_option maxHeartbeats 8000000 in
theorem set_c (h : MacAt w0 w U N b M V) (r : Int) (x' : Int) (h0 : 0 ≤ r) (h1 : r < M.regs.length) (hs : M.sets.length = M.regs.length) (hcl : M.calls.length ≤ 1000001) (hal : M.aside.length ≤ 10000000) :
    Calls Try.prog 47 #[mP b, .int .i64 r, .int .i64 x'] w (SPost w0 U N b w V (mset M r x')) := by
  have hmix : Try.prog.follows .mixedOrders = true := by kernel_rfl
  obtain ⟨c0, c1, c2, c3, c4, c5, c6, c7, c8, c9, c10, c11, c12, c13⟩ := h.cells
  obtain ⟨ca, cc, hvc⟩ := row_slice h.calls
  obtain ⟨aa, ac, hva⟩ := row_slice h.aside
  rw [hvc] at c8
  rw [hva] at c7
  have rr := intsO_cell h.regs (gR_at h0 h1)
  obtain ⟨r0, r1⟩ := rr
  obtain ⟨s0, s1⟩ := intsO_cell h.sets (gR_at h0 (by omega))
  rw [hs] at c6
  have f1 := h.fz 4103
  obtain ⟨x, hx⟩ : ∃ x, gR M.sets r.toNat = x := ⟨_, rfl⟩
  obtain ⟨y, hy⟩ : ∃ y, gR M.regs r.toNat = y := ⟨_, rfl⟩
  obtain ⟨n, hn⟩ : ∃ n, M.regs.length = n := ⟨_, rfl⟩
  obtain ⟨d, hd⟩ : ∃ d, M.calls.length = d := ⟨_, rfl⟩
  obtain ⟨an, han⟩ : ∃ an, M.aside.length = an := ⟨_, rfl⟩
  have HR1 := Lib.hid h1
  have HY := Lib.hid hy
  have HLN := Lib.hid hn
  have HSN : Hid (M.sets.length = n) := Lib.hid (hs.trans hn)
  have HCN := Lib.hid hd
  have HAN := Lib.hid han
  have HVA : Hid (V.va = .slice aa an ac) := Lib.hid (by rw [hva, han])
  have hms : mset M r x' = if x = (d : Int) then { M with regs := M.regs.set r.toNat x' } else { M with aside := M.aside ++ [⟨r, y, x⟩], sets := M.sets.set r.toNat d, regs := M.regs.set r.toNat x' } := by unfold mset; rw [hx, hy, hd]
  rw [hms]
  have H := Lib.hid h
  rw [hx] at s0; rw [hy] at r0; rw [hn] at c5 c6 h1; rw [hd] at c8 hcl; rw [han] at c7 hal
  have C5 := Lib.hid c5; have C7 := Lib.hid c7; have C6 := Lib.hid c6; have C8 := Lib.hid c8; have R0 := Lib.hid r0; have F1 := Lib.hid f1; have S0 := Lib.hid s0
  have hvc2 : V.vc = .slice ca M.calls.length cc := hvc
  clear hms hx hy hn hd h hs hvc hva han c0 c1 c2 c3 c4 c9 c10 c11 c12 c13
  by_cases he : x = (d : Int)
  · have t1 : (x != (d : Int)) = false := by simpa using he
    rw [if_pos he]
    clear he
    go_enter Try.func47, Try.ntmps47
    go_wp2
    go_end0
    exact ⟨rfl, V, H.out.setReg _ _, Mov.cell b _ V (.inr (.inl rfl)) _ _, rfl⟩
  · have t1 : (x != (d : Int)) = true := by simpa using he
    rw [if_neg he]
    clear he
    go_enter Try.func47, Try.ntmps47
    go_wp2
    refine region_last (fun W => W.cell? ⟨b.mb, 4103, none⟩ = some (.slice aa an ac) ∧ W.cell? ⟨b.mb, 4101, none⟩ = some (.slice (some ⟨b.rb, 0, none⟩) n n) ∧ W.cell? ⟨b.rb, r.toNat, none⟩ = some (.int .i64 y) ∧ W.frozen? ⟨b.mb, 4103, none⟩ = false) 19 hmix ?_
    have hS : (fun W => W.cell? ⟨b.mb, 4103, none⟩ = some (.slice aa an ac) ∧ W.cell? ⟨b.mb, 4101, none⟩ = some (.slice (some ⟨b.rb, 0, none⟩) n n) ∧ W.cell? ⟨b.rb, r.toNat, none⟩ = some (.int .i64 y) ∧ W.frozen? ⟨b.mb, 4103, none⟩ = false) w.drew := ⟨c7, c5, r0, f1⟩
    refine anyL_take (i := 0) (v := ?_) rfl rfl (by kernel_rfl) (by kernel_rfl) (by kernel_rfl) (by kernel_rfl) (fun _ _ _ h => h) (Or.inl ⟨by rfl, ?_⟩) hS ?_
    rotate_left
    · (intro w' hSw; obtain ⟨s1, s2, s3, s4⟩ := hSw; go_simp; first | done | with_reducible rfl)
    simp only [Act.put, List.getElem_toArray, List.getElem_cons_succ, List.getElem_cons_zero, List.setIfInBounds_toArray, List.set_cons_succ, List.set_cons_zero]
    refine anyL_take (i := 1) (v := ?_) rfl rfl (by kernel_rfl) (by kernel_rfl) (by kernel_rfl) (by kernel_rfl) (fun _ _ _ h => h) (Or.inl ⟨by rfl, ?_⟩) hS ?_
    rotate_left
    · (intro w' hSw; obtain ⟨s1, s2, s3, s4⟩ := hSw; go_simp; first | done | with_reducible rfl)
    simp only [Act.put, List.getElem_toArray, List.getElem_cons_succ, List.getElem_cons_zero, List.setIfInBounds_toArray, List.set_cons_succ, List.set_cons_zero]
    refine anyL_take (i := 2) (v := ?_) rfl rfl (by kernel_rfl) (by kernel_rfl) (by kernel_rfl) (by kernel_rfl) (fun _ _ _ h => h) (Or.inl ⟨by rfl, ?_⟩) hS ?_
    rotate_left
    · (intro w' hSw; obtain ⟨s1, s2, s3, s4⟩ := hSw; go_simp; first | done | with_reducible rfl)
    simp only [Act.put, List.getElem_toArray, List.getElem_cons_succ, List.getElem_cons_zero, List.setIfInBounds_toArray, List.set_cons_succ, List.set_cons_zero]
    refine anyL_take (i := 3) (v := ?_) rfl rfl (by kernel_rfl) (by kernel_rfl) (by kernel_rfl) (by kernel_rfl) (fun _ _ _ h => h) (Or.inl ⟨by rfl, ?_⟩) hS ?_
    rotate_left
    · (intro w' hSw; obtain ⟨s1, s2, s3, s4⟩ := hSw; go_simp; first | done | with_reducible rfl)
    simp only [Act.put, List.getElem_toArray, List.getElem_cons_succ, List.getElem_cons_zero, List.setIfInBounds_toArray, List.set_cons_succ, List.set_cons_zero]
    refine anyL_take (i := 4) (v := ?_) rfl rfl (by kernel_rfl) (by kernel_rfl) (by kernel_rfl) (by kernel_rfl) (fun _ _ _ h => h) (Or.inl ⟨by rfl, ?_⟩) hS ?_
    rotate_left
    · (intro w' hSw; obtain ⟨s1, s2, s3, s4⟩ := hSw; go_simp; first | done | with_reducible rfl)
    simp only [Act.put, List.getElem_toArray, List.getElem_cons_succ, List.getElem_cons_zero, List.setIfInBounds_toArray, List.set_cons_succ, List.set_cons_zero]
    refine anyL_take (i := 5) (v := ?_) rfl rfl (by kernel_rfl) (by kernel_rfl) (by kernel_rfl) (by kernel_rfl) (fun _ _ _ h => h) (Or.inl ⟨by rfl, ?_⟩) hS ?_
    rotate_left
    · (intro w' hSw; obtain ⟨s1, s2, s3, s4⟩ := hSw; go_simp; first | done | with_reducible rfl)
    simp only [Act.put, List.getElem_toArray, List.getElem_cons_succ, List.getElem_cons_zero, List.setIfInBounds_toArray, List.set_cons_succ, List.set_cons_zero]
    refine anyL_take (i := 6) (v := ?_) rfl rfl (by kernel_rfl) (by kernel_rfl) (by kernel_rfl) (by kernel_rfl) (fun _ _ _ h => h) (Or.inl ⟨by rfl, ?_⟩) hS ?_
    rotate_left
    · (intro w' hSw; obtain ⟨s1, s2, s3, s4⟩ := hSw; go_simp; first | done | with_reducible rfl)
    simp only [Act.put, List.getElem_toArray, List.getElem_cons_succ, List.getElem_cons_zero, List.setIfInBounds_toArray, List.set_cons_succ, List.set_cons_zero]
    refine anyL_take (i := 7) (v := ?_) rfl rfl (by kernel_rfl) (by kernel_rfl) (by kernel_rfl) (by kernel_rfl) (fun _ _ _ h => h) (Or.inl ⟨by rfl, ?_⟩) hS ?_
    rotate_left
    · (intro w' hSw; obtain ⟨s1, s2, s3, s4⟩ := hSw; go_simp; first | done | with_reducible rfl)
    simp only [Act.put, List.getElem_toArray, List.getElem_cons_succ, List.getElem_cons_zero, List.setIfInBounds_toArray, List.set_cons_succ, List.set_cons_zero]
    refine anyL_take (i := 8) (v := ?_) rfl rfl (by kernel_rfl) (by kernel_rfl) (by kernel_rfl) (by kernel_rfl) (fun _ _ _ h => h) (Or.inl ⟨by rfl, ?_⟩) hS ?_
    rotate_left
    · (intro w' hSw; obtain ⟨s1, s2, s3, s4⟩ := hSw; go_simp; first | done | with_reducible rfl)
    simp only [Act.put, List.getElem_toArray, List.getElem_cons_succ, List.getElem_cons_zero, List.setIfInBounds_toArray, List.set_cons_succ, List.set_cons_zero]
    refine anyL_take (i := 9) (v := ?_) rfl rfl (by kernel_rfl) (by kernel_rfl) (by kernel_rfl) (by kernel_rfl) (fun _ _ _ h => h) (Or.inl ⟨by rfl, ?_⟩) hS ?_
    rotate_left
    · (intro w' hSw; obtain ⟨s1, s2, s3, s4⟩ := hSw; go_simp; first | done | with_reducible rfl)
    simp only [Act.put, List.getElem_toArray, List.getElem_cons_succ, List.getElem_cons_zero, List.setIfInBounds_toArray, List.set_cons_succ, List.set_cons_zero]
    refine anyL_take (i := 10) (v := ?_) rfl rfl (by kernel_rfl) (by kernel_rfl) (by kernel_rfl) (by kernel_rfl) (fun _ _ _ h => h) (Or.inl ⟨by rfl, ?_⟩) hS ?_
    rotate_left
    · (intro w' hSw; obtain ⟨s1, s2, s3, s4⟩ := hSw; go_simp; first | done | with_reducible rfl)
    simp only [Act.put, List.getElem_toArray, List.getElem_cons_succ, List.getElem_cons_zero, List.setIfInBounds_toArray, List.set_cons_succ, List.set_cons_zero]
    refine anyL_take (i := 11) (v := ?_) rfl rfl (by kernel_rfl) (by kernel_rfl) (by kernel_rfl) (by kernel_rfl) (fun _ _ _ h => h) (Or.inl ⟨by rfl, ?_⟩) hS ?_
    rotate_left
    · (intro w' hSw; obtain ⟨s1, s2, s3, s4⟩ := hSw; go_simp; first | done | with_reducible rfl)
    simp only [Act.put, List.getElem_toArray, List.getElem_cons_succ, List.getElem_cons_zero, List.setIfInBounds_toArray, List.set_cons_succ, List.set_cons_zero]
    refine anyL_take (i := 12) (v := ?_) rfl rfl (by kernel_rfl) (by kernel_rfl) (by kernel_rfl) (by kernel_rfl) (fun _ _ _ h => h) (Or.inl ⟨by rfl, ?_⟩) hS ?_
    rotate_left
    · (intro w' hSw; obtain ⟨s1, s2, s3, s4⟩ := hSw; go_simp; first | done | with_reducible rfl)
    simp only [Act.put, List.getElem_toArray, List.getElem_cons_succ, List.getElem_cons_zero, List.setIfInBounds_toArray, List.set_cons_succ, List.set_cons_zero]
    refine anyL_take (i := 13) (v := ?_) rfl rfl (by kernel_rfl) (by kernel_rfl) (by kernel_rfl) (by kernel_rfl) (fun _ _ _ h => h) (Or.inl ⟨by rfl, ?_⟩) hS ?_
    rotate_left
    · (intro w' hSw; obtain ⟨s1, s2, s3, s4⟩ := hSw; go_simp; first | done | with_reducible rfl)
    simp only [Act.put, List.getElem_toArray, List.getElem_cons_succ, List.getElem_cons_zero, List.setIfInBounds_toArray, List.set_cons_succ, List.set_cons_zero]
    refine anyL_take (i := 14) (v := ?_) rfl rfl (by kernel_rfl) (by kernel_rfl) (by kernel_rfl) (by kernel_rfl) (fun _ _ _ h => h) (Or.inl ⟨by rfl, ?_⟩) hS ?_
    rotate_left
    · (intro w' hSw; obtain ⟨s1, s2, s3, s4⟩ := hSw; go_simp; first | done | with_reducible rfl)
    simp only [Act.put, List.getElem_toArray, List.getElem_cons_succ, List.getElem_cons_zero, List.setIfInBounds_toArray, List.set_cons_succ, List.set_cons_zero]
    refine anyL_one (i := 15) (by kernel_rfl) rfl (fun K1 hK1 => ?_)
    go_simp
    have HB2 : Hid (Below w.heap.size w (w.drew.alloc (.cells #[.int .i64 r, .int .i64 y, .int .i64 x] 86))) := Lib.hid ((Below.refl _ w).drew.alloc (Nat.le_refl _) _)
    have HK2 := Lib.hid (H.out.keep HB2.out)
    clear hS
    have hS : (fun W => W.cell? ⟨b.mb, 4103, none⟩ = some (.slice aa an ac) ∧ W.cell? ⟨b.mb, 4101, none⟩ = some (.slice (some ⟨b.rb, 0, none⟩) n n) ∧ W.cell? ⟨b.rb, r.toNat, none⟩ = some (.int .i64 y) ∧ W.frozen? ⟨b.mb, 4103, none⟩ = false) (w.drew.alloc (.cells #[.int .i64 r, .int .i64 y, .int .i64 x] 86)) := by
      obtain ⟨_, _, _, _, _, d5, _, d7, _⟩ := HK2.out.cells
      rw [HVA.out] at d7
      rw [HLN.out] at d5
      refine ⟨d7, d5, ?_, HK2.out.fz _⟩
      have := (intsO_cell HK2.out.regs (gR_at h0 HR1.out)).1
      rw [HY.out] at this
      exact this
    refine hK1.out _ _ (fun _ => hS) ?_
    clear hK1 K1
    obtain ⟨i0, hi0, hz0, hz1, hz2⟩ := info_parts infoVl
    have HOW := Lib.hid HK2.out.aside
    rw [HVA.out, HAN.out] at HOW
    have HOW := HOW
    refine anyL_one (i := 16) (by kernel_rfl) rfl (fun K1 hK1 => ?_)
    refine step_append_lies _ (by rfl) _ _ 64 (by rfl) N 86 i0 _ 3 24 Try.underlying64 hi0 hz0 hz1 hz2 rfl (by omega) _ an (M.aside.flatMap vlCells) (by rfl) HOW.out ⟨w.heap.size, 0, none⟩ 1 1 (vlCells ⟨r, y, x⟩) (by rfl) (by rfl) (by exact World.news_of_block (cs := #[.int .i64 r, .int .i64 y, .int .i64 x]) (heap_alloc_new w.drew _)) (by simp [vlCells, Value.oneCell']) (by omega) (by unfold maxLen; omega) (by omega) (by have := H.out.base; simp; omega) (w.heap.size + 1) (by simp) ?_
    intro g cap w1 hown1 hgrow0 hat hlt1
    have hgrow : (w.drew.alloc (.cells #[.int .i64 r, .int .i64 y, .int .i64 x] 86)).grownBy w1 (Value.slice aa an ac).ownBlock := hgrow0
    have hdsz : (w.drew.alloc (.cells #[.int .i64 r, .int .i64 y, .int .i64 x] 86)).heap.size = w.heap.size + 1 := by simp
    clear hgrow0
    have HP := Lib.hid (H.out.pushA (v' := .slice (some ⟨g, 0, none⟩) (an + 1) cap) (x := ⟨r, y, x⟩) HB2.out (by rw [HVA.out]; exact hgrow) (by rw [HAN.out]; exact hown1) (fun q hq => by
      rw [HVA.out]
      rcases hat with h | h
      · exact .inl (h.trans hq)
      · right
        have : g = q := by simpa [Value.ownBlock] using hq
        omega))
    have hlow : ∀ q, q < N → w1.heap[q]? = w.heap[q]? := fun q hq => (hgrow.block q (by have := H.out.base; omega) (fun e => by have h1 := (HOW.out.lt q e.symm).1; omega)).trans (HB2.out.block q (by have := H.out.base; omega))
    have hbx : w1.heap[b.mb]? = w.heap[b.mb]? := hlow _ H.out.hi.1
    have hrx : w1.heap[b.rb]? = w.heap[b.rb]? := hlow _ H.out.hi.2.1
    have hS1 : (fun W => W.cell? ⟨b.mb, 4103, none⟩ = some (.slice aa an ac) ∧ W.cell? ⟨b.mb, 4101, none⟩ = some (.slice (some ⟨b.rb, 0, none⟩) n n) ∧ W.cell? ⟨b.rb, r.toNat, none⟩ = some (.int .i64 y) ∧ W.frozen? ⟨b.mb, 4103, none⟩ = false) w1 := ⟨(cell_blk7 hbx _).trans C7.out, (cell_blk7 hbx _).trans C5.out, (cell_blk7 hrx _).trans R0.out, by have := F1.out; unfold World.frozen? at this ⊢; simp only [hbx]; exact this⟩
    clear hS hlow hown1 hgrow hat hbx hrx
    refine hK1.out _ _ (fun _ => hS1) ?_
    clear hK1 K1
    have hS := hS1; clear hS1
    refine anyL_one (i := 17) (by kernel_rfl) rfl (fun K1 hK1 => ?_)
    go_simp
    refine hK1.out _ _ (fun _ => hS) ?_
    clear hK1 K1
    refine anyL_one (i := 18) (by kernel_rfl) rfl (fun K1 hK1 => ?_)
    go_simp
    refine hK1.out _ _ (fun _ => hS) ?_
    clear hK1 K1
    obtain ⟨s1, s2, s3, s4⟩ := hS
    refine anyL_one (i := 19) (by kernel_rfl) rfl (fun K1 hK1 => ?_)
    go_simp
    refine hK1.out _ _ (fun h => absurd rfl h) ?_
    clear hK1 K1
    refine anyL_done (by kernel_rfl) ?_ _
    obtain ⟨HM2, HV2⟩ := HP.out
    have HM2 := Lib.hid HM2; have HV2 := Lib.hid HV2
    clear HP s1 s2 s3 s4
    obtain ⟨wA, hwA⟩ : ∃ wA : World, w1.setCell ⟨b.mb, 4103, none⟩ (.slice (some ⟨g, 0, none⟩) (an + 1) cap) = wA := ⟨_, rfl⟩
    rw [hwA] at HM2 HV2 ⊢
    clear hwA c5 c6 c7 c8 r0 r1 s0 s1 f1
    obtain ⟨c0, c1, c2, c3, c4, c5, c6, c7, c8, c9, c10, c11, c12, c13⟩ := HM2.out.cells
    dsimp only at c5 c6 c8
    rw [HLN.out] at c5
    rw [HSN.out] at c6
    rw [hvc2, HCN.out] at c8
    obtain ⟨r0, r1⟩ := intsO_cell HM2.out.regs (gR_at h0 HR1.out)
    obtain ⟨s0, s1⟩ := intsO_cell HM2.out.sets (gR_at h0 (by dsimp only; rw [HSN.out]; exact h1))
    obtain ⟨n1, n2, n3, n4, n5, n6⟩ := HM2.out.ne
    have m1 : ¬ b.rb = b.sb := n4
    have m2 : ¬ b.sb = b.rb := fun e => n4 e.symm
    have m3 : ¬ b.mb = b.sb := n2
    have m4 : ¬ b.sb = b.mb := fun e => n2 e.symm
    dsimp only at r0 s0
    obtain ⟨x2, hx2⟩ : ∃ x2, gR M.sets r.toNat = x2 := ⟨_, rfl⟩
    obtain ⟨y2, hy2⟩ : ∃ y2, gR M.regs r.toNat = y2 := ⟨_, rfl⟩
    rw [hx2] at s0
    rw [hy2] at r0
    clear hx2 hy2 n1 n2 n3 n4 n5 n6 c0 c1 c2 c3 c4 c7 c9 c10 c11 c12 c13
    go_wp2
    go_region_held3 (fun w' => w'.cell? ⟨b.mb, 4102, none⟩ = some (.slice (some ⟨b.sb, 0, none⟩) n n) ∧ w'.cell? ⟨b.mb, 4104, none⟩ = some (.slice ca d cc) ∧ w'.cell? ⟨b.mb, 4101, none⟩ = some (.slice (some ⟨b.rb, 0, none⟩) n n)) (go_keep) (fail)
    all_goals go_wp2
    all_goals go_end0
    all_goals
      have hD := HM2.out.keep ((Below.refl _ wA).drew)
      have hE := hD.setSet r.toNat d
      have hF := hE.setReg r.toNat x'
      exact ⟨rfl, _, hF, (HV2.out.trans (Mov.of_below ((Below.refl _ wA).drew))).trans ((Mov.cell b _ _ (.inr (.inr rfl)) _ _).trans (Mov.cell b _ _ (.inr (.inl rfl)) _ _)), rfl⟩
theorem set_any (h : MacAt w0 w U N b M V) (r : Int) (x' : Int) (h0 : 0 ≤ r) (h1 : r < M.regs.length) (hs : M.sets.length = M.regs.length) (hcl : M.calls.length ≤ 1000001) (hal : M.aside.length ≤ 10000000) :
    Calls Try.prog 47 #[mP b, .int .i64 r, .int .i64 x'] w (MPost w0 U N b w V (mset M r x') (.tuple #[])) :=
  (set_c h r x' h0 h1 hs hcl hal).mono fun e w' ⟨a, V', b, c, _⟩ => ⟨a, V', b, c⟩
end Go.Proofs.Ytmcpfjhdeplgmaa
namespace Go.Proofs.Ytmcpfjhdeplgmaa
open Go.RowKit Cd Go.Maps
set_option linter.unusedVariables false
set_option linter.unusedSimpArgs false
variable {w0 w w' : World} {U : UnR} {N : Nat} {b : Blk} {M : Mac} {V V' : MV}
/-- Words that lie apart from the machine. -/
def ArgAt (b : Blk) (V : MV) (w : World) (a : Option Addr) (l : List Int) : Prop :=
  0 < l.length → ∃ zb zo, a = some ⟨zb, zo, none⟩ ∧ zb < w.heap.size ∧ zb ≠ b.mb ∧ zb ≠ b.rb ∧ zb ≠ b.sb ∧ ¬ V.own zb ∧ ∀ (j : Nat) (x : Int), l[j]? = some x → w.cell? ⟨zb, zo + j, none⟩ = some (.int .i64 x)
theorem ArgAt.mov {a : Option Addr} {l : List Int} (h : ArgAt b V w a l) (hm : Mov b w V w' V') : ArgAt b V' w' a l := fun h0 => by
  obtain ⟨zb, zo, ha, h1, h2, h3, h4, h5, h6⟩ := h h0
  exact ⟨zb, zo, ha, Nat.lt_of_lt_of_le h1 hm.size, h2, h3, h4, fun e => (hm.own zb e).elim h5 (fun e => by omega), fun j x hx => (cell_blk7 (hm.kept zb h1 h2 h3 h4 h5) _).trans (h6 j x hx)⟩
/-- The first k arguments are set. -/
def argsK (M : Mac) (l : List Int) : Nat → Mac
  | 0 => M
  | k + 1 => mset (argsK M l k) (k : Int) (l.getD k 0)
theorem mset_same (M : Mac) (r x : Int) : (mset M r x).regs.length = M.regs.length ∧ (mset M r x).sets.length = M.sets.length ∧ (mset M r x).calls = M.calls ∧ (mset M r x).aside.length ≤ M.aside.length + 1 ∧ (mset M r x).fin = M.fin ∧ (mset M r x).fuel = M.fuel ∧ (mset M r x).free = M.free ∧ (mset M r x).mem = M.mem ∧ (mset M r x).inp = M.inp ∧ (mset M r x).out = M.out ∧ (mset M r x).code = M.code := by
  unfold mset
  split <;> simp
theorem argsK_same (M : Mac) (l : List Int) : ∀ k, (argsK M l k).regs.length = M.regs.length ∧ (argsK M l k).sets.length = M.sets.length ∧ (argsK M l k).calls = M.calls ∧ (argsK M l k).aside.length ≤ M.aside.length + k ∧ (argsK M l k).fin = M.fin ∧ (argsK M l k).fuel = M.fuel ∧ (argsK M l k).free = M.free ∧ (argsK M l k).mem = M.mem ∧ (argsK M l k).inp = M.inp ∧ (argsK M l k).out = M.out ∧ (argsK M l k).code = M.code
  | 0 => ⟨rfl, rfl, rfl, Nat.le_refl _, rfl, rfl, rfl, rfl, rfl, rfl, rfl⟩
  | k + 1 => by
    obtain ⟨a1, a2, a3, a4, a5, a6, a7, a8, a9, a10, a11⟩ := argsK_same M l k
    obtain ⟨b1, b2, b3, b4, b5, b6, b7, b8, b9, b10, b11⟩ := mset_same (argsK M l k) (k : Int) (l.getD k 0)
    unfold argsK
    exact ⟨b1.trans a1, b2.trans a2, b3.trans a3, by omega, b5.trans a5, b6.trans a6, b7.trans a7, b8.trans a8, b9.trans a9, b10.trans a10, b11.trans a11⟩
end Go.Proofs.Ytmcpfjhdeplgmaa
namespace Go.Proofs.Ytmcpfjhdeplgmaa
open Go.RowKit Cd Go.Maps
set_option linter.unusedVariables false
set_option linter.unusedSimpArgs false
variable {w0 w w' : World} {U : UnR} {N : Nat} {b : Blk} {M : Mac} {V : MV}
theorem infoCal : (Try.prog.info? 79).map (fun i => (i.zero, i.size, i.bytes)) = some (some (.agg #[.slice none 0 0, .int .i64 0, .int .i64 0, .int .i64 0, .int .i64 0]), 5, 56) := by kernel_rfl
/-- A call begins: or there is no room. -/
def beginM (U : UnR) (M : Mac) (k : Nat) (r : FnR) (dst : Int) (l : List Int) : Mac :=
  if r.f.frame > 4096 - M.free then { M with fin := 3, code := 0 }
  else argsK { M with calls := M.calls ++ [⟨k, 0, M.free, dst, M.aside.length⟩], free := M.free + r.f.frame } l l.length
theorem UnAt.fnC {w : World} {B : Nat} {U : UnR} (h : UnAt w B U) {k : Nat} {r : FnR} (hk : U.fs[k]? = some r) {fb off : Nat} (ha : U.fa = some ⟨fb, off, none⟩) : w.cell? ⟨fb, off + k * 5 + 4, none⟩ = some (.slice r.ca r.f.code.length r.cc) ∧ w.cell? ⟨fb, off + k * 5 + 3, none⟩ = some (.int .i64 r.f.frame) := by
  obtain ⟨b, o, h1, _, _, _, _, _, h3, h4⟩ := h.fn hk
  rw [ha] at h1
  injection h1 with h1
  injection h1 with e1 e2 _
  subst e1 e2
  exact ⟨h4, h3⟩
set_option maxRecDepth 100000 in
set_option maxHeartbeats 16000000 in
theorem begin_any (h : MacAt w0 w U N b M V) (hU : UnAt w0 w0.heap.size U) (k : Nat) (r : FnR) (hr : U.fs[k]? = some r) (dst : Int) (la : Option Addr) (lc : Nat) (l : List Int) (hla : ArgAt b V w la l) (hll : l.length ≤ M.regs.length) (h6 : l.length ≤ 6)
    (hs : M.sets.length = M.regs.length) (hf : 0 ≤ M.free ∧ M.free ≤ 4096) (hfr : 0 ≤ r.f.frame ∧ r.f.frame ≤ 4096) (hcl : M.calls.length ≤ 1000000) (hal : M.aside.length ≤ 9000000) :
    Calls Try.prog 32 #[mP b, .int .i64 k, .int .i64 dst, .slice la l.length lc] w (MPost w0 U N b w V (beginM U M k r dst l) (.tuple #[])) := by
  obtain ⟨c0, c1, c2, c3, c4, c5, c6, c7, c8, c9, c10, c11, c12, c13⟩ := h.cells
  obtain ⟨ca, cc, hvc⟩ := row_slice h.calls
  obtain ⟨aa, ac, hva⟩ := row_slice h.aside
  rw [hvc] at c8
  rw [hva] at c7
  obtain ⟨fb, off, hfa, hfB, _⟩ := hU.fn hr
  have hlow := h.below.size
  have hfb : fb < w.heap.size := by omega
  have HFA := Lib.hid hfa
  obtain ⟨g4, g3⟩ := (hU.below h.below).fnC hr hfa
  rw [hfa] at c0
  have HR := Lib.hid hr
  have HCV : Hid (codeV U k = .slice r.ca r.f.code.length r.cc) := Lib.hid (by unfold codeV; rw [hr])
  have p0 : (0 : Int) ≤ (k : Int) := Int.natCast_nonneg _
  have p1 : (k : Int) < (U.fs.length : Int) := by have := (List.getElem?_eq_some_iff.1 hr).1; omega
  have f2 := h.fz 4104
  obtain ⟨hf0, hf1⟩ := hf
  obtain ⟨hr0, hr1⟩ := hfr
  have hw1 : IntKind.i64.wrap (4096 - M.free) = 4096 - M.free := by rw [IntKind.wrap_i64]; omega
  have hw2 : IntKind.i64.wrap (M.free + r.f.frame) = M.free + r.f.frame := by rw [IntKind.wrap_i64]; omega
  obtain ⟨cn, hcn⟩ : ∃ cn, M.calls.length = cn := ⟨_, rfl⟩
  obtain ⟨an, han⟩ : ∃ an, M.aside.length = an := ⟨_, rfl⟩
  have HCN := Lib.hid hcn
  have HAN := Lib.hid han
  have HVA : Hid (V.va = .slice aa an ac) := Lib.hid (by rw [hva, han])
  have HVC : Hid (V.vc = .slice ca cn cc) := Lib.hid (by rw [hvc, hcn])
  unfold beginM
  rw [hcn] at c8 hcl
  rw [han] at c7 hal ⊢
  have H := Lib.hid h
  have HAR0 := Lib.hid hla
  have C4 := Lib.hid c4; have C7 := Lib.hid c7; have C8 := Lib.hid c8; have F2 := Lib.hid f2; have G4 := Lib.hid g4
  clear h hla hvc hva hcn han c1 c2 c3 c5 c6 c9 c10 c11 c12 c13 hr
  by_cases hbig : r.f.frame > 4096 - M.free
  · have t1 : decide (r.f.frame > 4096 - M.free) = true := by simpa using hbig
    have t2 : decide (4096 - M.free < r.f.frame) = true := by simpa using hbig
    rw [if_pos hbig]
    clear hbig
    go_enter Try.func32, Try.ntmps32
    go_wp2
    go_region_held3 (fun w' => w'.cell? ⟨fb, off + k * 5 + 3, none⟩ = some (.int .i64 r.f.frame) ∧ w'.cell? ⟨b.mb, 4100, none⟩ = some (.int .i64 M.free)) (go_keep) (fail)
    have HD := Lib.hid (H.out.keep ((Below.refl _ w).drew))
    go_wp2_with ((with_reducible refine (finish_any HD.out 3 0).mono ?_); rintro e v ⟨rfl, V2, hm2, hv2⟩; have HM2 := Lib.hid hm2; have HV2 := Lib.hid ((Mov.of_below ((Below.refl _ w).drew)).trans hv2); clear hm2 hv2)
    go_end0
    exact ⟨rfl, V2, HM2.out, HV2.out⟩
  · have t1 : decide (r.f.frame > 4096 - M.free) = false := by simpa using hbig
    have t2 : decide (4096 - M.free < r.f.frame) = false := by simpa using hbig
    rw [if_neg hbig]
    clear hbig
    go_enter Try.func32, Try.ntmps32
    go_wp2
    go_region_held3 (fun w' => w'.cell? ⟨fb, off + k * 5 + 3, none⟩ = some (.int .i64 r.f.frame) ∧ w'.cell? ⟨b.mb, 4100, none⟩ = some (.int .i64 M.free)) (go_keep) (fail)
    go_wp2
    have hmix : Try.prog.follows .mixedOrders = true := by kernel_rfl
    refine region_last (fun W => W.cell? ⟨b.mb, 4104, none⟩ = some (.slice ca cn cc) ∧ W.cell? ⟨b.mb, 4100, none⟩ = some (.int .i64 M.free) ∧ W.cell? ⟨b.mb, 4103, none⟩ = some (.slice aa an ac) ∧ W.cell? ⟨fb, off + k * 5 + 4, none⟩ = some (.slice r.ca r.f.code.length r.cc) ∧ W.frozen? ⟨b.mb, 4104, none⟩ = false) 24 hmix ?_
    have hS : (fun W => W.cell? ⟨b.mb, 4104, none⟩ = some (.slice ca cn cc) ∧ W.cell? ⟨b.mb, 4100, none⟩ = some (.int .i64 M.free) ∧ W.cell? ⟨b.mb, 4103, none⟩ = some (.slice aa an ac) ∧ W.cell? ⟨fb, off + k * 5 + 4, none⟩ = some (.slice r.ca r.f.code.length r.cc) ∧ W.frozen? ⟨b.mb, 4104, none⟩ = false) w.drew.drew := ⟨c8, c4, c7, g4, f2⟩
    refine anyL_take (i := 0) (v := ?_) rfl rfl (by kernel_rfl) (by kernel_rfl) (by kernel_rfl) (by kernel_rfl) (fun _ _ _ h => h) (Or.inl ⟨by rfl, ?_⟩) hS ?_
    rotate_left
    · (intro w' hSw; obtain ⟨s1, s2, s3, s4, s5⟩ := hSw; go_simp; first | done | with_reducible rfl)
    simp only [Act.put, List.getElem_toArray, List.getElem_cons_succ, List.getElem_cons_zero, List.setIfInBounds_toArray, List.set_cons_succ, List.set_cons_zero]
    refine anyL_take (i := 1) (v := ?_) rfl rfl (by kernel_rfl) (by kernel_rfl) (by kernel_rfl) (by kernel_rfl) (fun _ _ _ h => h) (Or.inl ⟨by rfl, ?_⟩) hS ?_
    rotate_left
    · (intro w' hSw; obtain ⟨s1, s2, s3, s4, s5⟩ := hSw; go_simp; first | done | with_reducible rfl)
    simp only [Act.put, List.getElem_toArray, List.getElem_cons_succ, List.getElem_cons_zero, List.setIfInBounds_toArray, List.set_cons_succ, List.set_cons_zero]
    refine anyL_take (i := 2) (v := ?_) rfl rfl (by kernel_rfl) (by kernel_rfl) (by kernel_rfl) (by kernel_rfl) (fun _ _ _ h => h) (Or.inl ⟨by rfl, ?_⟩) hS ?_
    rotate_left
    · (intro w' hSw; obtain ⟨s1, s2, s3, s4, s5⟩ := hSw; go_simp; first | done | with_reducible rfl)
    simp only [Act.put, List.getElem_toArray, List.getElem_cons_succ, List.getElem_cons_zero, List.setIfInBounds_toArray, List.set_cons_succ, List.set_cons_zero]
    refine anyL_take (i := 3) (v := ?_) rfl rfl (by kernel_rfl) (by kernel_rfl) (by kernel_rfl) (by kernel_rfl) (fun _ _ _ h => h) (Or.inl ⟨by rfl, ?_⟩) hS ?_
    rotate_left
    · (intro w' hSw; obtain ⟨s1, s2, s3, s4, s5⟩ := hSw; go_simp; first | done | with_reducible rfl)
    simp only [Act.put, List.getElem_toArray, List.getElem_cons_succ, List.getElem_cons_zero, List.setIfInBounds_toArray, List.set_cons_succ, List.set_cons_zero]
    refine anyL_take (i := 4) (v := ?_) rfl rfl (by kernel_rfl) (by kernel_rfl) (by kernel_rfl) (by kernel_rfl) (fun _ _ _ h => h) (Or.inl ⟨by rfl, ?_⟩) hS ?_
    rotate_left
    · (intro w' hSw; obtain ⟨s1, s2, s3, s4, s5⟩ := hSw; go_simp; first | done | with_reducible rfl)
    simp only [Act.put, List.getElem_toArray, List.getElem_cons_succ, List.getElem_cons_zero, List.setIfInBounds_toArray, List.set_cons_succ, List.set_cons_zero]
    refine anyL_take (i := 5) (v := ?_) rfl rfl (by kernel_rfl) (by kernel_rfl) (by kernel_rfl) (by kernel_rfl) (fun _ _ _ h => h) (Or.inl ⟨by rfl, ?_⟩) hS ?_
    rotate_left
    · (intro w' hSw; obtain ⟨s1, s2, s3, s4, s5⟩ := hSw; go_simp; first | done | with_reducible rfl)
    simp only [Act.put, List.getElem_toArray, List.getElem_cons_succ, List.getElem_cons_zero, List.setIfInBounds_toArray, List.set_cons_succ, List.set_cons_zero]
    refine anyL_take (i := 6) (v := ?_) rfl rfl (by kernel_rfl) (by kernel_rfl) (by kernel_rfl) (by kernel_rfl) (fun _ _ _ h => h) (Or.inl ⟨by rfl, ?_⟩) hS ?_
    rotate_left
    · (intro w' hSw; obtain ⟨s1, s2, s3, s4, s5⟩ := hSw; go_simp; first | done | with_reducible rfl)
    simp only [Act.put, List.getElem_toArray, List.getElem_cons_succ, List.getElem_cons_zero, List.setIfInBounds_toArray, List.set_cons_succ, List.set_cons_zero]
    refine anyL_take (i := 7) (v := ?_) rfl rfl (by kernel_rfl) (by kernel_rfl) (by kernel_rfl) (by kernel_rfl) (fun _ _ _ h => h) (Or.inl ⟨by rfl, ?_⟩) hS ?_
    rotate_left
    · (intro w' hSw; obtain ⟨s1, s2, s3, s4, s5⟩ := hSw; go_simp; first | done | with_reducible rfl)
    simp only [Act.put, List.getElem_toArray, List.getElem_cons_succ, List.getElem_cons_zero, List.setIfInBounds_toArray, List.set_cons_succ, List.set_cons_zero]
    refine anyL_take (i := 8) (v := ?_) rfl rfl (by kernel_rfl) (by kernel_rfl) (by kernel_rfl) (by kernel_rfl) (fun _ _ _ h => h) (Or.inl ⟨by rfl, ?_⟩) hS ?_
    rotate_left
    · (intro w' hSw; obtain ⟨s1, s2, s3, s4, s5⟩ := hSw; go_simp; first | done | with_reducible rfl)
    simp only [Act.put, List.getElem_toArray, List.getElem_cons_succ, List.getElem_cons_zero, List.setIfInBounds_toArray, List.set_cons_succ, List.set_cons_zero]
    refine anyL_take (i := 9) (v := ?_) rfl rfl (by kernel_rfl) (by kernel_rfl) (by kernel_rfl) (by kernel_rfl) (fun _ _ _ h => h) (Or.inl ⟨by rfl, ?_⟩) hS ?_
    rotate_left
    · (intro w' hSw; obtain ⟨s1, s2, s3, s4, s5⟩ := hSw; go_simp; first | done | with_reducible rfl)
    simp only [Act.put, List.getElem_toArray, List.getElem_cons_succ, List.getElem_cons_zero, List.setIfInBounds_toArray, List.set_cons_succ, List.set_cons_zero]
    refine anyL_take (i := 10) (v := ?_) rfl rfl (by kernel_rfl) (by kernel_rfl) (by kernel_rfl) (by kernel_rfl) (fun _ _ _ h => h) (Or.inl ⟨by rfl, ?_⟩) hS ?_
    rotate_left
    · (intro w' hSw; obtain ⟨s1, s2, s3, s4, s5⟩ := hSw; go_simp; first | done | with_reducible rfl)
    simp only [Act.put, List.getElem_toArray, List.getElem_cons_succ, List.getElem_cons_zero, List.setIfInBounds_toArray, List.set_cons_succ, List.set_cons_zero]
    refine anyL_take (i := 11) (v := ?_) rfl rfl (by kernel_rfl) (by kernel_rfl) (by kernel_rfl) (by kernel_rfl) (fun _ _ _ h => h) (Or.inl ⟨by rfl, ?_⟩) hS ?_
    rotate_left
    · (intro w' hSw; obtain ⟨s1, s2, s3, s4, s5⟩ := hSw; go_simp; first | done | with_reducible rfl)
    simp only [Act.put, List.getElem_toArray, List.getElem_cons_succ, List.getElem_cons_zero, List.setIfInBounds_toArray, List.set_cons_succ, List.set_cons_zero]
    refine anyL_take (i := 12) (v := ?_) rfl rfl (by kernel_rfl) (by kernel_rfl) (by kernel_rfl) (by kernel_rfl) (fun _ _ _ h => h) (Or.inl ⟨by rfl, ?_⟩) hS ?_
    rotate_left
    · (intro w' hSw; obtain ⟨s1, s2, s3, s4, s5⟩ := hSw; go_simp; first | done | with_reducible rfl)
    simp only [Act.put, List.getElem_toArray, List.getElem_cons_succ, List.getElem_cons_zero, List.setIfInBounds_toArray, List.set_cons_succ, List.set_cons_zero]
    refine anyL_take (i := 13) (v := ?_) rfl rfl (by kernel_rfl) (by kernel_rfl) (by kernel_rfl) (by kernel_rfl) (fun _ _ _ h => h) (Or.inl ⟨by rfl, ?_⟩) hS ?_
    rotate_left
    · (intro w' hSw; obtain ⟨s1, s2, s3, s4, s5⟩ := hSw; go_simp; first | done | with_reducible rfl)
    simp only [Act.put, List.getElem_toArray, List.getElem_cons_succ, List.getElem_cons_zero, List.setIfInBounds_toArray, List.set_cons_succ, List.set_cons_zero]
    refine anyL_take (i := 14) (v := ?_) rfl rfl (by kernel_rfl) (by kernel_rfl) (by kernel_rfl) (by kernel_rfl) (fun _ _ _ h => h) (Or.inl ⟨by rfl, ?_⟩) hS ?_
    rotate_left
    · (intro w' hSw; obtain ⟨s1, s2, s3, s4, s5⟩ := hSw; go_simp; first | done | with_reducible rfl)
    simp only [Act.put, List.getElem_toArray, List.getElem_cons_succ, List.getElem_cons_zero, List.setIfInBounds_toArray, List.set_cons_succ, List.set_cons_zero]
    refine anyL_take (i := 15) (v := ?_) rfl rfl (by kernel_rfl) (by kernel_rfl) (by kernel_rfl) (by kernel_rfl) (fun _ _ _ h => h) (Or.inl ⟨by rfl, ?_⟩) hS ?_
    rotate_left
    · (intro w' hSw; obtain ⟨s1, s2, s3, s4, s5⟩ := hSw; go_simp; first | done | with_reducible rfl)
    simp only [Act.put, List.getElem_toArray, List.getElem_cons_succ, List.getElem_cons_zero, List.setIfInBounds_toArray, List.set_cons_succ, List.set_cons_zero]
    refine anyL_take (i := 16) (v := ?_) rfl rfl (by kernel_rfl) (by kernel_rfl) (by kernel_rfl) (by kernel_rfl) (fun _ _ _ h => h) (Or.inl ⟨by rfl, ?_⟩) hS ?_
    rotate_left
    · (intro w' hSw; obtain ⟨s1, s2, s3, s4, s5⟩ := hSw; go_simp; first | done | with_reducible rfl)
    simp only [Act.put, List.getElem_toArray, List.getElem_cons_succ, List.getElem_cons_zero, List.setIfInBounds_toArray, List.set_cons_succ, List.set_cons_zero]
    refine anyL_take (i := 17) (v := ?_) rfl rfl (by kernel_rfl) (by kernel_rfl) (by kernel_rfl) (by kernel_rfl) (fun _ _ _ h => h) (Or.inl ⟨by rfl, ?_⟩) hS ?_
    rotate_left
    · (intro w' hSw; obtain ⟨s1, s2, s3, s4, s5⟩ := hSw; go_simp; first | done | with_reducible rfl)
    simp only [Act.put, List.getElem_toArray, List.getElem_cons_succ, List.getElem_cons_zero, List.setIfInBounds_toArray, List.set_cons_succ, List.set_cons_zero]
    refine anyL_take (i := 18) (v := ?_) rfl rfl (by kernel_rfl) (by kernel_rfl) (by kernel_rfl) (by kernel_rfl) (fun _ _ _ h => h) (Or.inl ⟨by rfl, ?_⟩) hS ?_
    rotate_left
    · (intro w' hSw; obtain ⟨s1, s2, s3, s4, s5⟩ := hSw; go_simp; first | done | with_reducible rfl)
    simp only [Act.put, List.getElem_toArray, List.getElem_cons_succ, List.getElem_cons_zero, List.setIfInBounds_toArray, List.set_cons_succ, List.set_cons_zero]
    refine anyL_take (i := 19) (v := ?_) rfl rfl (by kernel_rfl) (by kernel_rfl) (by kernel_rfl) (by kernel_rfl) (fun _ _ _ h => h) (Or.inl ⟨by rfl, ?_⟩) hS ?_
    rotate_left
    · (intro w' hSw; obtain ⟨s1, s2, s3, s4, s5⟩ := hSw; go_simp; first | done | with_reducible rfl)
    simp only [Act.put, List.getElem_toArray, List.getElem_cons_succ, List.getElem_cons_zero, List.setIfInBounds_toArray, List.set_cons_succ, List.set_cons_zero]
    refine anyL_one (i := 20) (by kernel_rfl) rfl (fun K1 hK1 => ?_)
    go_simp
    have HB2 : Hid (Below w.heap.size w (w.drew.drew.alloc (.cells #[.slice r.ca r.f.code.length r.cc, .int .i64 0, .int .i64 M.free, .int .i64 dst, .int .i64 an] 79))) := Lib.hid ((Below.refl _ w).drew.drew.alloc (Nat.le_refl _) _)
    have HK2 := Lib.hid (H.out.keep HB2.out)
    clear hS
    have hS : (fun W => W.cell? ⟨b.mb, 4104, none⟩ = some (.slice ca cn cc) ∧ W.cell? ⟨b.mb, 4100, none⟩ = some (.int .i64 M.free) ∧ W.cell? ⟨b.mb, 4103, none⟩ = some (.slice aa an ac) ∧ W.cell? ⟨fb, off + k * 5 + 4, none⟩ = some (.slice r.ca r.f.code.length r.cc) ∧ W.frozen? ⟨b.mb, 4104, none⟩ = false) (w.drew.drew.alloc (.cells #[.slice r.ca r.f.code.length r.cc, .int .i64 0, .int .i64 M.free, .int .i64 dst, .int .i64 an] 79)) := by
      obtain ⟨_, _, _, _, d4, _, _, d7, d8, _⟩ := HK2.out.cells
      rw [HVA.out] at d7
      rw [HVC.out] at d8
      exact ⟨d8, d4, d7, (HB2.out.cell (p := ⟨fb, off + k * 5 + 4, none⟩) hfb).trans g4, HK2.out.fz _⟩
    refine hK1.out _ _ (fun _ => hS) ?_
    clear hK1 K1
    obtain ⟨i0, hi0, hz0, hz1, hz2⟩ := info_parts infoCal
    have HOW := Lib.hid HK2.out.calls
    rw [HVC.out, HCN.out] at HOW
    refine anyL_one (i := 21) (by kernel_rfl) rfl (fun K1 hK1 => ?_)
    refine step_append_lies _ (by rfl) _ _ 65 (by rfl) N 79 i0 _ 5 56 Try.underlying65 hi0 hz0 hz1 hz2 rfl (by omega) _ cn (M.calls.flatMap (calCells U)) (by rfl) HOW.out ⟨w.heap.size, 0, none⟩ 1 1 (calCells U ⟨k, 0, M.free, dst, an⟩) (by rfl) (by rfl) (by unfold calCells; rw [HCV.out]; exact World.news_of_block (cs := #[.slice r.ca r.f.code.length r.cc, .int .i64 0, .int .i64 M.free, .int .i64 dst, .int .i64 an]) (heap_alloc_new w.drew.drew _)) (by unfold calCells; rw [HCV.out]; simp [Value.oneCell']) (by omega) (by unfold maxLen; omega) (by omega) (by have := H.out.base; simp; omega) (w.heap.size + 1) (by simp) ?_
    intro g cap w1 hown1 hgrow0 hat hlt1
    have hgrow : (w.drew.drew.alloc (.cells #[.slice r.ca r.f.code.length r.cc, .int .i64 0, .int .i64 M.free, .int .i64 dst, .int .i64 an] 79)).grownBy w1 (Value.slice ca cn cc).ownBlock := hgrow0
    have hdsz : (w.drew.drew.alloc (.cells #[.slice r.ca r.f.code.length r.cc, .int .i64 0, .int .i64 M.free, .int .i64 dst, .int .i64 an] 79)).heap.size = w.heap.size + 1 := by simp
    clear hgrow0
    have HP := Lib.hid (H.out.pushC (v' := .slice (some ⟨g, 0, none⟩) (cn + 1) cap) (x := ⟨k, 0, M.free, dst, an⟩) HB2.out (by rw [HVC.out]; exact hgrow) (by rw [HCN.out]; exact hown1) (fun q hq => by
      rw [HVC.out]
      rcases hat with h | h
      · exact .inl (h.trans hq)
      · right
        have : g = q := by simpa [Value.ownBlock] using hq
        omega))
    have hlow : ∀ q, q < N → w1.heap[q]? = w.heap[q]? := fun q hq => (hgrow.block q (by have := H.out.base; omega) (fun e => by have h1 := (HOW.out.lt q e.symm).1; omega)).trans (HB2.out.block q (by have := H.out.base; omega))
    have hbx : w1.heap[b.mb]? = w.heap[b.mb]? := hlow _ H.out.hi.1
    have hfx : w1.heap[fb]? = w.heap[fb]? := hlow _ (by have := H.out.lo.1; have := H.out.hi.1; omega)
    have hS1 : (fun W => W.cell? ⟨b.mb, 4104, none⟩ = some (.slice ca cn cc) ∧ W.cell? ⟨b.mb, 4100, none⟩ = some (.int .i64 M.free) ∧ W.cell? ⟨b.mb, 4103, none⟩ = some (.slice aa an ac) ∧ W.cell? ⟨fb, off + k * 5 + 4, none⟩ = some (.slice r.ca r.f.code.length r.cc) ∧ W.frozen? ⟨b.mb, 4104, none⟩ = false) w1 := ⟨(cell_blk7 hbx _).trans C8.out, (cell_blk7 hbx _).trans C4.out, (cell_blk7 hbx _).trans C7.out, (cell_blk7 hfx _).trans G4.out, by have := F2.out; unfold World.frozen? at this ⊢; simp only [hbx]; exact this⟩
    clear hS hlow hown1 hgrow hat hbx hfx
    refine hK1.out _ _ (fun _ => hS1) ?_
    clear hK1 K1
    have hS := hS1; clear hS1
    refine anyL_one (i := 22) (by kernel_rfl) rfl (fun K1 hK1 => ?_)
    go_simp
    refine hK1.out _ _ (fun _ => hS) ?_
    clear hK1 K1
    refine anyL_one (i := 23) (by kernel_rfl) rfl (fun K1 hK1 => ?_)
    go_simp
    refine hK1.out _ _ (fun _ => hS) ?_
    clear hK1 K1
    obtain ⟨s1, s2, s3, s4, s5⟩ := hS
    refine anyL_one (i := 24) (by kernel_rfl) rfl (fun K1 hK1 => ?_)
    go_simp
    refine hK1.out _ _ (fun h => absurd rfl h) ?_
    clear hK1 K1
    refine anyL_done (by kernel_rfl) ?_ _
    obtain ⟨HM2, HV2⟩ := HP.out
    have HM2 := Lib.hid HM2; have HV2 := Lib.hid HV2
    clear HP s1 s2 s3 s4 s5 c4 c7 c8 g3 g4 f2
    obtain ⟨wA, hwA⟩ : ∃ wA : World, w1.setCell ⟨b.mb, 4104, none⟩ (.slice (some ⟨g, 0, none⟩) (cn + 1) cap) = wA := ⟨_, rfl⟩
    rw [hwA] at HM2 HV2 ⊢
    clear hwA
    obtain ⟨_, _, _, _, c4, _⟩ := HM2.out.cells
    dsimp only at c4
    have g3 := ((hU.below HM2.out.below).fnC HR.out HFA.out).2
    have fA := HM2.out.fz 4100
    have HDA := Lib.hid (HM2.out.keep ((Below.refl _ wA).drew))
    have HEA := Lib.hid (HDA.out.field (M' := { M with calls := M.calls ++ [⟨k, 0, M.free, dst, an⟩], free := M.free + r.f.frame }) 0 (.int .i64 (M.free + r.f.frame)) rfl rfl rfl rfl rfl rfl rfl rfl)
    have HVA2 := Lib.hid ((HV2.out.trans (Mov.of_below ((Below.refl _ wA).drew))).trans (Mov.cell b wA.drew _ (.inl rfl) 4100 (.int .i64 (M.free + r.f.frame))))
    go_wp2
    refine region_last (fun W => W.cell? ⟨b.mb, 4100, none⟩ = some (.int .i64 M.free) ∧ W.cell? ⟨fb, off + k * 5 + 3, none⟩ = some (.int .i64 r.f.frame) ∧ W.frozen? ⟨b.mb, 4100, none⟩ = false) 11 hmix ?_
    have hS : (fun W => W.cell? ⟨b.mb, 4100, none⟩ = some (.int .i64 M.free) ∧ W.cell? ⟨fb, off + k * 5 + 3, none⟩ = some (.int .i64 r.f.frame) ∧ W.frozen? ⟨b.mb, 4100, none⟩ = false) wA.drew := ⟨c4, g3, fA⟩
    refine anyL_take (i := 0) (v := ?_) rfl rfl (by kernel_rfl) (by kernel_rfl) (by kernel_rfl) (by kernel_rfl) (fun _ _ _ h => h) (Or.inl ⟨by rfl, ?_⟩) hS ?_
    rotate_left
    · (intro w' hSw; obtain ⟨s1, s2, s3⟩ := hSw; go_simp; first | done | with_reducible rfl)
    simp only [Act.put, List.getElem_toArray, List.getElem_cons_succ, List.getElem_cons_zero, List.setIfInBounds_toArray, List.set_cons_succ, List.set_cons_zero]
    refine anyL_take (i := 1) (v := ?_) rfl rfl (by kernel_rfl) (by kernel_rfl) (by kernel_rfl) (by kernel_rfl) (fun _ _ _ h => h) (Or.inl ⟨by rfl, ?_⟩) hS ?_
    rotate_left
    · (intro w' hSw; obtain ⟨s1, s2, s3⟩ := hSw; go_simp; first | done | with_reducible rfl)
    simp only [Act.put, List.getElem_toArray, List.getElem_cons_succ, List.getElem_cons_zero, List.setIfInBounds_toArray, List.set_cons_succ, List.set_cons_zero]
    refine anyL_take (i := 2) (v := ?_) rfl rfl (by kernel_rfl) (by kernel_rfl) (by kernel_rfl) (by kernel_rfl) (fun _ _ _ h => h) (Or.inl ⟨by rfl, ?_⟩) hS ?_
    rotate_left
    · (intro w' hSw; obtain ⟨s1, s2, s3⟩ := hSw; go_simp; first | done | with_reducible rfl)
    simp only [Act.put, List.getElem_toArray, List.getElem_cons_succ, List.getElem_cons_zero, List.setIfInBounds_toArray, List.set_cons_succ, List.set_cons_zero]
    refine anyL_take (i := 3) (v := ?_) rfl rfl (by kernel_rfl) (by kernel_rfl) (by kernel_rfl) (by kernel_rfl) (fun _ _ _ h => h) (Or.inl ⟨by rfl, ?_⟩) hS ?_
    rotate_left
    · (intro w' hSw; obtain ⟨s1, s2, s3⟩ := hSw; go_simp; first | done | with_reducible rfl)
    simp only [Act.put, List.getElem_toArray, List.getElem_cons_succ, List.getElem_cons_zero, List.setIfInBounds_toArray, List.set_cons_succ, List.set_cons_zero]
    refine anyL_take (i := 4) (v := ?_) rfl rfl (by kernel_rfl) (by kernel_rfl) (by kernel_rfl) (by kernel_rfl) (fun _ _ _ h => h) (Or.inl ⟨by rfl, ?_⟩) hS ?_
    rotate_left
    · (intro w' hSw; obtain ⟨s1, s2, s3⟩ := hSw; go_simp; first | done | with_reducible rfl)
    simp only [Act.put, List.getElem_toArray, List.getElem_cons_succ, List.getElem_cons_zero, List.setIfInBounds_toArray, List.set_cons_succ, List.set_cons_zero]
    refine anyL_take (i := 5) (v := ?_) rfl rfl (by kernel_rfl) (by kernel_rfl) (by kernel_rfl) (by kernel_rfl) (fun _ _ _ h => h) (Or.inl ⟨by rfl, ?_⟩) hS ?_
    rotate_left
    · (intro w' hSw; obtain ⟨s1, s2, s3⟩ := hSw; go_simp; first | done | with_reducible rfl)
    simp only [Act.put, List.getElem_toArray, List.getElem_cons_succ, List.getElem_cons_zero, List.setIfInBounds_toArray, List.set_cons_succ, List.set_cons_zero]
    refine anyL_take (i := 6) (v := ?_) rfl rfl (by kernel_rfl) (by kernel_rfl) (by kernel_rfl) (by kernel_rfl) (fun _ _ _ h => h) (Or.inl ⟨by rfl, ?_⟩) hS ?_
    rotate_left
    · (intro w' hSw; obtain ⟨s1, s2, s3⟩ := hSw; go_simp; first | done | with_reducible rfl)
    simp only [Act.put, List.getElem_toArray, List.getElem_cons_succ, List.getElem_cons_zero, List.setIfInBounds_toArray, List.set_cons_succ, List.set_cons_zero]
    refine anyL_take (i := 7) (v := ?_) rfl rfl (by kernel_rfl) (by kernel_rfl) (by kernel_rfl) (by kernel_rfl) (fun _ _ _ h => h) (Or.inl ⟨by rfl, ?_⟩) hS ?_
    rotate_left
    · (intro w' hSw; obtain ⟨s1, s2, s3⟩ := hSw; go_simp; first | done | with_reducible rfl)
    simp only [Act.put, List.getElem_toArray, List.getElem_cons_succ, List.getElem_cons_zero, List.setIfInBounds_toArray, List.set_cons_succ, List.set_cons_zero]
    refine anyL_take (i := 8) (v := ?_) rfl rfl (by kernel_rfl) (by kernel_rfl) (by kernel_rfl) (by kernel_rfl) (fun _ _ _ h => h) (Or.inl ⟨by rfl, ?_⟩) hS ?_
    rotate_left
    · (intro w' hSw; obtain ⟨s1, s2, s3⟩ := hSw; go_simp; first | done | with_reducible rfl)
    simp only [Act.put, List.getElem_toArray, List.getElem_cons_succ, List.getElem_cons_zero, List.setIfInBounds_toArray, List.set_cons_succ, List.set_cons_zero]
    refine anyL_one (i := 9) (by kernel_rfl) rfl (fun K1 hK1 => ?_)
    go_simp
    refine hK1.out _ _ (fun _ => hS) ?_
    clear hK1 K1
    refine anyL_one (i := 10) (by kernel_rfl) rfl (fun K1 hK1 => ?_)
    go_simp
    refine hK1.out _ _ (fun _ => hS) ?_
    clear hK1 K1
    obtain ⟨s1, s2, s3⟩ := hS
    refine anyL_one (i := 11) (by kernel_rfl) rfl (fun K1 hK1 => ?_)
    go_simp
    refine hK1.out _ _ (fun h => absurd rfl h) ?_
    clear hK1 K1 s1 s2 s3 c4 g3 fA
    refine anyL_done (by kernel_rfl) ?_ _
    obtain ⟨wB, hwB⟩ : ∃ wB : World, (wA.setCell ⟨b.mb, 4100, none⟩ (.int .i64 (M.free + r.f.frame))).drew = wB := ⟨_, rfl⟩
    rw [show (wA.drew.setCell ⟨b.mb, 4100 + 0, none⟩ (.int .i64 (M.free + r.f.frame))) = wB from hwB] at HEA
    rw [show (wA.drew.setCell ⟨b.mb, 4100, none⟩ (.int .i64 (M.free + r.f.frame))) = wB from hwB] at HVA2
    rw [hwB]
    clear hwB HDA HM2 HV2
    obtain ⟨M1, hM1⟩ : ∃ M1 : Mac, ({ M with calls := M.calls ++ [⟨k, 0, M.free, dst, an⟩], free := M.free + r.f.frame } : Mac) = M1 := ⟨_, rfl⟩
    rw [hM1] at HEA
    have HM1 := Lib.hid hM1
    have hr1 : M1.regs.length = M.regs.length := by rw [← hM1]
    have hs1 : M1.sets.length = M.sets.length := by rw [← hM1]
    have hc1 : M1.calls.length = cn + 1 := by rw [← hM1]; simp; exact HCN.out
    have ha1 : M1.aside.length = an := by rw [← hM1]; exact HAN.out
    clear hM1
    have HAR := Lib.hid (HAR0.out.mov HVA2.out)
    go_wp2
    go_loopw [67] (fun s67 wr => ∃ j : Nat, j ≤ l.length ∧ s67 = .int .i64 j ∧ ∃ Vk : MV, Hid (MacAt w0 wr U N b (argsK M1 l j) Vk) ∧ Hid (Mov b w V wr Vk) ∧ Hid (ArgAt b Vk wr la l)) (fun i wr => l.length - (intOf i).toNat)
    case atStart => exact ⟨0, by omega, rfl, _, HEA, HVA2, HAR⟩
    case round =>
      clear HEA HVA2 HAR HAR0
      obtain ⟨j, hj, rfl, Vk, HM, HV, HAR⟩ := hrel
      obtain ⟨e1, e2, e3, e4, e5, e6, e7, e8, e9, e10, e11⟩ := argsK_same M1 l j
      have q0 : (0 : Int) ≤ (j : Int) := Int.natCast_nonneg _
      by_cases hlt : j < l.length
      · obtain ⟨x, hx⟩ : ∃ x, l[j]? = some x := ⟨_, List.getElem?_eq_getElem hlt⟩
        have hgd : l.getD j 0 = x := by rw [List.getD_eq_getElem?_getD, hx]; rfl
        obtain ⟨zb, zo, hla, hz1, hz2, hz3, hz4, hz5, hz6⟩ := HAR.out (by omega)
        have zc := hz6 j x hx
        have q1 : (j : Int) < (l.length : Int) := by omega
        have t1 : decide ((j : Int) < (l.length : Int)) = true := by simpa using q1
        have hix : ∀ W, (Instr.indexAt 63 (.slice la l.length lc) (.int .i64 j)).run Try.prog W = .ok (.pointer (some ⟨zb, zo + j, none⟩)) W := fun W => by
          rw [hla]
          go_simp
        have HSM : Hid (mset (argsK M1 l j) (j : Int) x = argsK M1 l (j + 1)) := Lib.hid (by rw [← hgd]; rfl)
        have HS1 := Lib.hid e1; have HS2 := Lib.hid e2; have HS3 := Lib.hid e3; have HS4 := Lib.hid e4
        clear hla hz6 hx hgd e1 e2 e3 e4 e5 e6 e7 e8 e9 e10 e11 hz1 hz2 hz3 hz4 hz5
        go_wp2_with ((with_reducible refine (set_any HM.out (j : Int) x q0 (by rw [HS1.out]; omega) (by rw [HS2.out, HS1.out]; omega) (by rw [HS3.out]; omega) (by have := HS4.out; omega)).mono ?_); rintro e v ⟨rfl, V2, hm2, hv2⟩; have HM2 := Lib.hid hm2; have HV2 := Lib.hid (HV.out.trans hv2); have HAR2 := Lib.hid (HAR.out.mov hv2); clear hm2 hv2)
        go_roundw
        case rel => exact ⟨j + 1, by omega, by go_num, V2, Lib.hid (by rw [← HSM.out]; exact HM2.out), HV2, HAR2⟩
        case measure => simp [intOf]; omega
      · obtain rfl : j = l.length := by omega
        have t1 : decide ((l.length : Int) < (l.length : Int)) = false := by simp
        go_wp2
        go_end0
        exact ⟨rfl, Vk, by rw [HM1.out]; exact HM.out, HV.out⟩
end Go.Proofs.Ytmcpfjhdeplgmaa
