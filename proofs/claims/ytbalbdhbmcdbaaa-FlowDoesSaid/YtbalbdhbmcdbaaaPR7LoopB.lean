/-
  doppelref07's Run: the great loop's body in pieces; its frame, by what a slot holds; what holds within a round.
-/
import Derived.Test.YtbalbdhbmcdbaaaPMF
import Derived.Deep.LoopGhost
import Derived.Maps.AppendAt
import Derived.ChangeKeysEq
import Derived.Laws.Slices
set_option linter.unusedVariables false
set_option linter.unusedSimpArgs false
namespace Go.Proofs.Ytbalbdhbmcdbaaa
set_option maxRecDepth 100000
open Go.RowKit Cd
def loopsOf : Code → List Code
  | .loop c => [c]
  | .seq a b => loopsOf a ++ loopsOf b
  | .block _ c => loopsOf c
  | .scope c => loopsOf c
  | .cond _ a b => loopsOf a ++ loopsOf b
  | _ => []
def cL : Code → Code
  | .seq a _ => a
  | c => c
def cR : Code → Code
  | .seq _ b => b
  | c => c
def cB : Code → Code
  | .block _ c => c
  | c => c
noncomputable def runBody : Code := ((((Try.f54.body.map loopsOf).getD [])[1]?).getD .skip)
noncomputable def codeF : Code := cL runBody
noncomputable def codeX : Code := cB (cL (cR runBody))
noncomputable def codeD : Code := cR (cR (cR (cR codeX)))
noncomputable def codeE : Code := cL codeD
noncomputable def codeT : Code := cR codeD
noncomputable def codeM : Code := cR (cR runBody)
theorem body_eq : runBody = .seq codeF (.seq (.block 3 (.seq (cL codeX) (.seq (cL (cR codeX)) (.seq (cL (cR (cR codeX))) (.seq (cL (cR (cR (cR codeX)))) (.seq codeE codeT)))))) codeM) := by kernel_rfl
set_option maxRecDepth 1000000 in
def frM (Us : Nat → Value) (ub qb mb : Nat) (vi v2 vo vs s12 s13 s14 s15 : Value) : Act := ⟨#[Us 0, vi, v2, .pointer (some ⟨ub, 0, none⟩), Us 4, Us 5, .pointer (some ⟨qb, 0, none⟩), Us 7, .slice (some ⟨mb, 0, none⟩) 4096 4096, Us 9, vo, vs, s12, s13, s14, s15, Us 16, Us 17, Us 18, Us 19, Us 20, Us 21, Us 22, Us 23, Us 24, Us 25, Us 26, Us 27, Us 28, Us 29, Us 30, Us 31, Us 32, Us 33, Us 34, Us 35, Us 36, Us 37, Us 38, Us 39, Us 40, Us 41, Us 42, Us 43, Us 44, Us 45, Us 46, Us 47, Us 48, Us 49, Us 50, Us 51, Us 52, Us 53, Us 54, Us 55, Us 56, Us 57, Us 58, Us 59, Us 60, Us 61, Us 62, Us 63, Us 64, Us 65, Us 66, Us 67, Us 68, Us 69, Us 70, Us 71, Us 72, Us 73, Us 74, Us 75, Us 76, Us 77, Us 78, Us 79, Us 80, Us 81, Us 82, Us 83, Us 84, Us 85, Us 86, Us 87, Us 88, Us 89, Us 90, Us 91, Us 92, Us 93, Us 94, Us 95, Us 96, Us 97, Us 98, Us 99, Us 100, Us 101, Us 102, Us 103, Us 104, Us 105, Us 106, Us 107, Us 108, Us 109, Us 110, Us 111, Us 112, Us 113, Us 114, Us 115, Us 116, Us 117, Us 118, Us 119, Us 120, Us 121, Us 122, Us 123, Us 124, Us 125, Us 126, Us 127, Us 128, Us 129, Us 130, Us 131, Us 132, Us 133, Us 134, Us 135, Us 136, Us 137, Us 138, Us 139, Us 140, Us 141, Us 142, Us 143, Us 144, Us 145, Us 146, Us 147, Us 148, Us 149, Us 150, Us 151, Us 152, Us 153, Us 154, Us 155, Us 156, Us 157, Us 158, Us 159, Us 160, Us 161, Us 162, Us 163, Us 164, Us 165, Us 166, Us 167, Us 168, Us 169, Us 170, Us 171, Us 172, Us 173, Us 174, Us 175, Us 176, Us 177, Us 178, Us 179, Us 180, Us 181, Us 182, Us 183, Us 184, Us 185, Us 186, Us 187, Us 188, Us 189, Us 190, Us 191, Us 192, Us 193, Us 194, Us 195, Us 196, Us 197, Us 198, Us 199, Us 200, Us 201, Us 202, Us 203, Us 204, Us 205, Us 206, Us 207, Us 208, Us 209, Us 210, Us 211, Us 212, Us 213, Us 214, Us 215, Us 216, Us 217, Us 218, Us 219, Us 220, Us 221, Us 222, Us 223, Us 224, Us 225, Us 226, Us 227, Us 228, Us 229, Us 230, Us 231, Us 232, Us 233, Us 234, Us 235, Us 236, Us 237, Us 238, Us 239, Us 240, Us 241, Us 242, Us 243, Us 244, Us 245, Us 246, Us 247, Us 248, Us 249, Us 250, Us 251, Us 252, Us 253, Us 254, Us 255, Us 256, Us 257, Us 258, Us 259, Us 260, Us 261, Us 262, Us 263, Us 264, Us 265, Us 266, Us 267, Us 268, Us 269, Us 270, Us 271, Us 272, Us 273, Us 274, Us 275, Us 276, Us 277, Us 278, Us 279, Us 280, Us 281, Us 282, Us 283, Us 284, Us 285, Us 286, Us 287, Us 288, Us 289, Us 290, Us 291, Us 292, Us 293, Us 294, Us 295, Us 296, Us 297, Us 298, Us 299, Us 300, Us 301, Us 302, Us 303, Us 304, Us 305, Us 306, Us 307, Us 308, Us 309, Us 310, Us 311, Us 312, Us 313, Us 314, Us 315, Us 316, Us 317, Us 318, Us 319, Us 320, Us 321, Us 322, Us 323, Us 324, Us 325, Us 326, Us 327, Us 328, Us 329, Us 330, Us 331, Us 332, Us 333, Us 334, Us 335, Us 336, Us 337, Us 338, Us 339, Us 340, Us 341, Us 342, Us 343, Us 344, Us 345, Us 346, Us 347, Us 348, Us 349, Us 350, Us 351, Us 352, Us 353, Us 354, Us 355, Us 356, Us 357, Us 358, Us 359, Us 360, Us 361, Us 362, Us 363, Us 364, Us 365, Us 366, Us 367, Us 368, Us 369, Us 370, Us 371, Us 372, Us 373, Us 374, Us 375, Us 376, Us 377], []⟩
def IsFr (a : Act) (ub qb mb : Nat) (vi v2 vo vs s12 s13 s14 s15 : Value) : Prop := ∃ Us, a = frM Us ub qb mb vi v2 vo vs s12 s13 s14 s15
def InAt (w : World) (v : Value) (l : List UInt8) : Prop := ∃ a c, v = .slice a l.length c ∧ l.length ≤ c ∧ c ≤ maxLen ∧ RowAt w w.heap.size a (u8s l)
theorem InAt.cons {w : World} {v : Value} {c : UInt8} {cs : List UInt8} (h : InAt w v (c :: cs)) : ∃ b off ic, v = .slice (some ⟨b, off, none⟩) (cs.length + 1) ic ∧ cs.length + 1 ≤ maxLen ∧ w.cell? ⟨b, off, none⟩ = some (.int .u8 c.toNat) ∧ InAt w (sliced (some ⟨b, off, none⟩) 1 (cs.length + 1) ic 1) cs := by
  obtain ⟨a, ic, rfl, hl, hm, hr⟩ := h
  obtain ⟨b, off, rfl, hb, hB, hc⟩ := hr (by simp [u8s])
  refine ⟨b, off, ic, rfl, by simp at hl; omega, by have := hc 0 (.int .u8 c.toNat) (by simp [u8s]); simpa using this, ?_⟩
  unfold sliced
  refine ⟨_, _, rfl, by simp at hl; omega, by omega, fun h0 => ?_⟩
  by_cases he : ic = 1
  · exfalso
    simp [u8s] at h0 hl
    omega
  · rw [if_neg he]
    refine ⟨b, off + 1, by simp [Addr.add], hb, hB, fun j u hu => ?_⟩
    have := hc (j + 1) u (by simpa [u8s] using hu)
    rw [show off + 1 + j = off + (j + 1) by omega]
    exact this
theorem RunAt.cap {w0 w : World} {U : UnR} {N ub qb mb : Nat} {mem : List Int} {out : List UInt8} {vo : Value} {stk : List FrR} {g n cap : Nat} (h : RunAt w0 w U N ub qb mb mem out vo (.slice (some ⟨g, 0, none⟩) n cap) stk) : stk.length ≤ cap := by
  obtain ⟨_, ⟨h0, _⟩ | ⟨g', cap', cur, hv, _, _, h1, _⟩⟩ := h.stkh
  · cases h0
  · injection hv with _ _ hc
    omega
theorem infoByte : (Try.prog.info? 5).map (fun i => (i.zero, i.size, i.bytes)) = some (some (.int .u8 0), 1, 1) := by kernel_rfl
theorem Cd.byteOf_rem (n : Int) : n % 4294967296 % 256 = ((Cd.byteOf n).toNat : Int) := by
  unfold Cd.byteOf
  rw [UInt8.toNat_ofNat']
  omega
theorem RunAt.word {w0 w : World} {U : UnR} {N ub qb mb : Nat} {mem : List Int} {out : List UInt8} {vo vs : Value} {stk : List FrR} (h : RunAt w0 w U N ub qb mb mem out vo vs stk) {q : Int} (h0 : 0 ≤ q) (h1 : q < 4096) : w.cell? ⟨mb, q.toNat, none⟩ = some (.int .i64 (mem.getD q.toNat 0)) := by
  have hl := h.memlen
  have hlt : q.toNat < mem.length := by omega
  rw [cell_of_row w mb _ _ _ _ h.memh]
  simp only [List.getElem?_toArray, List.getElem?_map]
  rw [List.getElem?_eq_getElem hlt, List.getD_eq_getElem?_getD, List.getElem?_eq_getElem hlt]
  rfl
theorem IsFr.of {xs : List Value} {ub qb mb : Nat} {vi v2 vo vs s12 s13 s14 s15 : Value} (h : (⟨xs.toArray, []⟩ : Act) = frM (fun i => xs.getD i undef) ub qb mb vi v2 vo vs s12 s13 s14 s15) : IsFr ⟨xs.toArray, []⟩ ub qb mb vi v2 vo vs s12 s13 s14 s15 := ⟨_, h⟩
structure RunRel (w0 : World) (U : UnR) (N ub qb mb n : Nat) (r : Rsu) (vi vo vs : Value) (stk : List FrR) (s : Sta) (w : World) : Prop where
  un : UnAt w0 w0.heap.size U
  right : RightU U.un
  mem : RunAt w0 w U N ub qb mb s.mem s.out vo vs stk
  stack : s.stack = (stk.map (·.fr)).reverse
  some : s.stack ≠ []
  ok : StkOk U.un s.stack
  inp : InAt w0 vi s.inp
  run : runS U.un n s = r
  base : N ≤ w.heap.size
  outb : s.out.length + n ≤ 1000000
  stkb : stk.length + n ≤ 1000001
structure Mid (w0 : World) (U : UnR) (N ub qb mb fb ib : Nat) (mem : List Int) (out inp : List UInt8) (vi vo vs : Value) (ini : List FrR) (f : FrR) (i : Ins) (w : World) : Prop where
  un : UnAt w0 w0.heap.size U
  right : RightU U.un
  mem : RunAt w0 w U N ub qb mb mem out vo vs (ini ++ [f])
  inp : InAt w0 vi inp
  fbox : w.heap[fb]? = some (frO f)
  ibox : w.heap[ib]? = some (inO i)
  far : N ≤ fb ∧ N ≤ ib ∧ fb ≠ ib
  apf : vo.ownBlock ≠ some fb ∧ vs.ownBlock ≠ some fb ∧ ∀ x ∈ ini ++ [f], x.rb ≠ fb
  api : vo.ownBlock ≠ some ib ∧ vs.ownBlock ≠ some ib ∧ ∀ x ∈ ini ++ [f], x.rb ≠ ib
def MidA (w0 : World) (U : UnR) (N ub qb mb fb ib n : Nat) (mem : List Int) (out inp : List UInt8) (ini : List FrR) (f : FrR) (i : Ins) (p v : Int) (a : Act) (w : World) : Prop :=
  ∃ vi vo vs, Mid w0 U N ub qb mb fb ib mem out inp vi vo vs ini f i w ∧ IsFr a ub qb mb vi (.int .i64 ((n : Int) + 1)) vo vs (.pointer (some ⟨fb, 0, none⟩)) (.pointer (some ⟨ib, 0, none⟩)) (.int .i64 p) (.int .i64 v)
def RunI (w0 : World) (U : UnR) (N ub qb mb : Nat) (r : Rsu) (n : Nat) (a : Act) (w : World) : Prop :=
  ∃ (vi vo vs s12 s13 s14 s15 : Value) (stk : List FrR) (s : Sta), RunRel w0 U N ub qb mb n r vi vo vs stk s w ∧ IsFr a ub qb mb vi (.int .i64 n) vo vs s12 s13 s14 s15
def RunJ (w0 : World) (U : UnR) (N ub qb mb : Nat) (r : Rsu) (n : Nat) (a : Act) (w : World) : Prop :=
  ∃ (vi vo vs s12 s13 s14 s15 : Value) (stk : List FrR) (s : Sta), RunRel w0 U N ub qb mb n r vi vo vs stk s w ∧ IsFr a ub qb mb vi (.int .i64 ((n : Int) + 1)) vo vs s12 s13 s14 s15
def RunE (w0 : World) (qb : Nat) (r : Rsu) (w : World) : Prop :=
  ∃ a n c, w.heap[qb]? = some (.cells #[.int .i64 r.fin, .int .i64 r.code, .slice a n c] 69) ∧ w.ownsRow w0.heap.size 5 1 (.slice a n c) r.out.length (u8s r.out) ∧ Below w0.heap.size w0 w
def RunZ (w0 : World) (qb : Nat) (r : Rsu) (a : Act) (w : World) : Prop := RunE w0 qb r w ∧ ∃ (ub mb : Nat) (vi v2 vo vs s12 s13 s14 s15 : Value), IsFr a ub qb mb vi v2 vo vs s12 s13 s14 s15
variable {w0 w w' : World} {U : UnR} {N ub qb mb fb ib : Nat} {mem : List Int} {out inp : List UInt8} {vi vo vs : Value} {ini : List FrR} {f : FrR} {i : Ins}
theorem Mid.keep (h : Mid w0 U N ub qb mb fb ib mem out inp vi vo vs ini f i w) (hb : Below w.heap.size w w') : Mid w0 U N ub qb mb fb ib mem out inp vi vo vs ini f i w' :=
  ⟨h.un, h.right, h.mem.keep hb, h.inp, (hb.block _ (lt_heap h.fbox)).trans h.fbox, (hb.block _ (lt_heap h.ibox)).trans h.ibox, h.far, h.apf, h.api⟩
theorem Mid.inp' (h : Mid w0 U N ub qb mb fb ib mem out inp vi vo vs ini f i w) {vi' : Value} {inp' : List UInt8} (hi : InAt w0 vi' inp') : Mid w0 U N ub qb mb fb ib mem out inp' vi' vo vs ini f i w :=
  ⟨h.un, h.right, h.mem, hi, h.fbox, h.ibox, h.far, h.apf, h.api⟩
theorem Mid.setMem (h : Mid w0 U N ub qb mb fb ib mem out inp vi vo vs ini f i w) (a : Nat) (x : Int) : Mid w0 U N ub qb mb fb ib (mem.set a x) out inp vi vo vs ini f i (w.setCell ⟨mb, a, none⟩ (.int .i64 x)) := by
  have hm := h.mem.lmb
  have hf := h.far
  exact ⟨h.un, h.right, h.mem.setMem a x, h.inp, (heap_other (by omega)).trans h.fbox, (heap_other (by omega)).trans h.ibox, h.far, h.apf, h.api⟩
theorem Mid.grown {vo' : Value} {b : UInt8} (h : Mid w0 U N ub qb mb fb ib mem out inp vi vo vs ini f i w) (ho : w'.ownsRow N 5 1 vo' (out ++ [b]).length (u8s (out ++ [b]))) (hg : w.grownBy w' vo.ownBlock) (hat : ∀ g, vo'.ownBlock = some g → vo.ownBlock = some g ∨ w.heap.size ≤ g) :
    Mid w0 U N ub qb mb fb ib mem (out ++ [b]) inp vi vo' vs ini f i w' := by
  have hf := h.far
  have hfl := lt_heap h.fbox
  have hil := lt_heap h.ibox
  refine ⟨h.un, h.right, h.mem.grown (by omega) ho hg hat, h.inp, (hg.block _ hfl (fun e => h.apf.1 e.symm)).trans h.fbox, (hg.block _ hil (fun e => h.api.1 e.symm)).trans h.ibox, h.far, ⟨fun e => ?_, h.apf.2⟩, ⟨fun e => ?_, h.api.2⟩⟩
  · rcases hat _ e with h1 | h1
    · exact h.apf.1 h1
    · omega
  · rcases hat _ e with h1 | h1
    · exact h.api.1 h1
    · omega
theorem RunE.keep {w0 w w' : World} {qb : Nat} {r : Rsu} (h : RunE w0 qb r w) (hb : Below w.heap.size w w') : RunE w0 qb r w' := by
  obtain ⟨a, n, c, h1, h2, h3⟩ := h
  exact ⟨a, n, c, (hb.block _ (lt_heap h1)).trans h1, own_keep h2 fun g hg => hb.block g (h2.lt g hg).2, h3.trans (hb.mono h3.size)⟩
theorem Mid.ended (h : Mid w0 U N ub qb mb fb ib mem out inp vi vo vs ini f i w) (x y : Int) : RunE w0 qb ⟨x, y, out⟩ (((w.setCell ⟨qb, 0, none⟩ (.int .i64 x)).setCell ⟨qb, 1, none⟩ (.int .i64 y)).setCell ⟨qb, 2, none⟩ vo) := by
  obtain ⟨a, c, hv⟩ := row_slice h.mem.outh
  have hq := h.mem.lqb
  have hne : ∀ g, vo.ownBlock = some g → g ≠ qb := fun g hg => by have := (h.mem.outh.lt g hg).1; omega
  refine ⟨a, out.length, c, ?_, ?_, ?_⟩
  · rw [hv]
    exact cells_set (cells_set (cells_set h.mem.res 0 _) 1 _) 2 _
  · rw [← hv]
    refine ownsRow_le (own_keep h.mem.outh fun g hg => ?_) (show w0.heap.size ≤ N by omega)
    exact (heap_other (hne g hg)).trans ((heap_other (hne g hg)).trans (heap_other (hne g hg)))
  · exact ((h.mem.below.setCell (show w0.heap.size ≤ qb by omega) _).setCell (show w0.heap.size ≤ qb by omega) _).setCell (show w0.heap.size ≤ qb by omega) _
set_option maxHeartbeats 8000000 in
set_option maxRecDepth 1000000 in
theorem piece_fuel (w0 : World) (U : UnR) (N ub qb mb n : Nat) (r : Rsu) (w : World) (K : Act → World → Prop) (Q : Exit → Act → World → Prop) (a : Act) (h : RunJ w0 U N ub qb mb r n a w) (hK : ∀ a w', RunI w0 U N ub qb mb r n a w' → K a w') :
    Code.wp Try.prog codeM (Exit.then K Q) a w := by
  obtain ⟨vi, vo, vs, s12, s13, s14, s15, stk, s, hrel, Us, rfl⟩ := h
  have hn : n ≤ 1000000 := by have := hrel.outb; omega
  have HK := Lib.hid hK; clear hK
  have HREL := Lib.hid hrel; clear hrel
  have hs : IntKind.i64.wrap ((n : Int) + 1 - 1) = (n : Int) := by rw [IntKind.wrap_i64]; omega
  unfold frM
  conv => arg 2; whnf
  go_wp2
  exact HK.out _ _ ⟨vi, vo, vs, s12, s13, s14, s15, stk, s, HREL.out, IsFr.of (by kernel_rfl)⟩
end Go.Proofs.Ytbalbdhbmcdbaaa
