/-
  Plain facts on words of 32 bits: a wrapped number is a bit vector's number; sums, products and bits go through.
-/
import Derived.WalkKit
import Derived.Test.YtgnpbodhjmappaaRows
import Derived.Deep.Light
import Derived.WalkMore
import Derived.ScopeJumps
import Derived.WalkSpells
import Derived.WalkLawsBesides
import Derived.Lib.Hide
import Derived.Test.YtgnpbodhjmappaaPNA
set_option linter.unusedVariables false
set_option linter.unusedSimpArgs false
namespace Go.Proofs.Ytgnpbodhjmappaa
open Go.RowKit (wrap32 wrap64)

def bv (n : Int) : BitVec 32 := BitVec.ofInt 32 n
theorem wrap32_bv (n : Int) : wrap32 n = (bv n).toInt := by
  unfold wrap32 bv
  rw [BitVec.toInt_ofInt, Int.bmod_def]
  simp
  split <;> omega
theorem bv_wrap (n : Int) : bv (wrap32 n) = bv n := by rw [wrap32_bv, bv, BitVec.ofInt_toInt, bv]
theorem wrap32_wrap32 (n : Int) : wrap32 (wrap32 n) = wrap32 n := by rw [wrap32_bv (wrap32 n), bv_wrap, ← wrap32_bv]
theorem bv_wrap64 (n : Int) : bv (wrap64 n) = bv n := by
  apply BitVec.eq_of_toInt_eq
  rw [← wrap32_bv, ← wrap32_bv]; unfold wrap32 wrap64; omega
theorem bv_add (a b : Int) : bv (a + b) = bv a + bv b := BitVec.ofInt_add _ _
theorem bv_mul (a b : Int) : bv (a * b) = bv a * bv b := BitVec.ofInt_mul _ _
theorem bv_neg (a : Int) : bv (-a) = - bv a := BitVec.ofInt_neg
theorem bv_sub (a b : Int) : bv (a - b) = bv a - bv b := by rw [Int.sub_eq_add_neg, bv_add, bv_neg, BitVec.sub_eq_add_neg]
theorem wrap32_eq_iff (a b : Int) : wrap32 a = wrap32 b ↔ bv a = bv b := by
  rw [wrap32_bv, wrap32_bv]; exact BitVec.toInt_inj
theorem bv_toNat64 (x : BitVec 64) : bv (x.toNat : Int) = x.setWidth 32 := by
  apply BitVec.eq_of_toNat_eq
  simp [bv, BitVec.toNat_setWidth]
theorem ofInt64_setWidth (a : Int) : (BitVec.ofInt 64 a).setWidth 32 = bv a := by
  apply BitVec.eq_of_toNat_eq
  simp [bv, BitVec.toNat_setWidth, BitVec.toNat_ofInt]
  omega
theorem bits_bv (x : BitVec 64) : bv (IntKind.i64.wrap (x.toNat : Int)) = x.setWidth 32 := by
  rw [IntWalk.i64_left, bv_wrap64, bv_toNat64]
theorem bv_and (a b : Int) : bv (bits .and .i64 a b) = bv a &&& bv b := by
  show bv (IntKind.i64.wrap ((BitVec.ofInt 64 a &&& BitVec.ofInt 64 b).toNat : Int)) = _
  rw [bits_bv, BitVec.setWidth_and, ofInt64_setWidth, ofInt64_setWidth]
theorem bv_or (a b : Int) : bv (bits .or .i64 a b) = bv a ||| bv b := by
  show bv (IntKind.i64.wrap ((BitVec.ofInt 64 a ||| BitVec.ofInt 64 b).toNat : Int)) = _
  rw [bits_bv, BitVec.setWidth_or, ofInt64_setWidth, ofInt64_setWidth]
theorem bv_xor (a b : Int) : bv (bits .xor .i64 a b) = bv a ^^^ bv b := by
  show bv (IntKind.i64.wrap ((BitVec.ofInt 64 a ^^^ BitVec.ofInt 64 b).toNat : Int)) = _
  rw [bits_bv, BitVec.setWidth_xor, ofInt64_setWidth, ofInt64_setWidth]
theorem bv_not (a : Int) : bv (-a - 1) = ~~~ bv a := by
  rw [bv_sub, bv_neg]
  show - bv a - 1#32 = _
  rw [BitVec.neg_eq_not_add, BitVec.add_sub_cancel]
end Go.Proofs.Ytgnpbodhjmappaa
namespace Go.Proofs.Ytgnpbodhjmappaa
open Go.RowKit (wrap32 wrap64)

theorem ret_int {k : IntKind} {a b : Int} (h : a = b) : Ending.returned (.int k a) = .returned (.int k b) := by rw [h]
theorem ret_bool {a b : Bool} (h : a = b) : Ending.returned (.bool a) = .returned (.bool b) := by rw [h]
theorem wrap32_bd (n : Int) : -2147483648 ≤ wrap32 n ∧ wrap32 n ≤ 2147483647 := by unfold wrap32; omega
theorem wrap_any (n : Int) (w : World) :
    Calls Try.prog 106 #[.int .i64 n] w fun e w' => e = .returned (.int .i64 (wrap32 n)) ∧ w = w' := by
  have hb := wrap32_bd n
  go_enter Try.func106, Try.ntmps106
  go_wp2
  go_ret
  exact ⟨rfl, rfl⟩
theorem is_any (n : Int) (w : World) :
    Calls Try.prog 72 #[.int .i64 n] w fun e w' => e = .returned (.bool (wrap32 n == n)) ∧ w = w' := by
  go_enter Try.func72, Try.ntmps72
  go_wp2_with ((with_reducible refine (wrap_any _ _).mono ?_); rintro e w' ⟨rfl, rfl⟩)
  go_ret
  exact ⟨rfl, rfl⟩
def twoB (op : Int) : Bool := decide (1 ≤ op ∧ op ≤ 19)
def oneB (op : Int) : Bool := decide (20 ≤ op ∧ op ≤ 23)
theorem two_any (op : Int) (w : World) :
    Calls Try.prog 80 #[.int .i64 op] w fun e w' => e = .returned (.bool (twoB op)) ∧ w = w' := by
  by_cases h : 1 ≤ op
  all_goals
    go_enter Try.func80, Try.ntmps80
    go_wp2
    go_ret
    exact ⟨ret_bool (by unfold twoB; simp; omega), rfl⟩
theorem one_any (op : Int) (w : World) :
    Calls Try.prog 79 #[.int .i64 op] w fun e w' => e = .returned (.bool (oneB op)) ∧ w = w' := by
  by_cases h : 20 ≤ op
  all_goals
    go_enter Try.func79, Try.ntmps79
    go_wp2
    go_ret
    exact ⟨ret_bool (by unfold oneB; simp; omega), rfl⟩
end Go.Proofs.Ytgnpbodhjmappaa
namespace Go.Proofs.Ytgnpbodhjmappaa
open Go.RowKit (wrap32 wrap64)

def num (b : Bool) : Int := if b then 1 else 0
def cmpB (op a b : Int) : Bool :=
  if op = 14 then a == b else if op = 15 then a != b else if op = 16 then decide (a < b) else if op = 17 then decide (a ≤ b)
  else if op = 18 then decide (a % 4294967296 < b % 4294967296) else decide (a % 4294967296 ≤ b % 4294967296)
def twoV (op a b : Int) : Int :=
  if op = 1 then a + b else if op = 2 then a - b else if op = 3 then wrap64 (a * b) else if op = 8 then bits .and .i64 a b
  else if op = 9 then bits .or .i64 a b else if op = 10 then bits .xor .i64 a b else if op = 11 then wrap64 (a * 2 ^ (b % 32).toNat)
  else if op = 12 then a / 2 ^ (b % 32).toNat else if op = 13 then a % 4294967296 / 2 ^ (b % 32).toNat else num (cmpB op a b)
def oneV (op a : Int) : Int :=
  if op = 20 then -a else if op = 21 then bits .xor .i64 (-1) a else if op = 22 then a % 256 else num (a == 0)
end Go.Proofs.Ytgnpbodhjmappaa
namespace Go.Proofs.Ytgnpbodhjmappaa
open Go.RowKit (wrap32 wrap64)

section
variable {P : Program} {a : Act} {w : World} {Q : Exit → Act → World → Prop}
end
def divV (op a b : Int) : Int :=
  if op = 4 then wrap32 (wrap64 ((wrap32 a).tdiv (wrap32 b))) else if op = 5 then wrap32 ((wrap32 a).tmod (wrap32 b))
  else if op = 6 then wrap32 (wrap32 a % 4294967296 / (wrap32 b % 4294967296)) else wrap32 (wrap32 a % 4294967296 % (wrap32 b % 4294967296))
def doB (op b : Int) : Bool := decide ((1 ≤ op ∧ op ≤ 23) ∧ ¬ ((4 ≤ op ∧ op ≤ 7) ∧ wrap32 b = 0))
def doV (op a b : Int) : Int :=
  if doB op b = false then 0 else if 4 ≤ op ∧ op ≤ 7 then divV op a b else if op ≤ 19 then wrap32 (twoV op (wrap32 a) (wrap32 b)) else wrap32 (oneV op (wrap32 a))
theorem doV_word (op a b : Int) : wrap32 (doV op a b) = doV op a b := by
  unfold doV divV
  repeat' split
  all_goals first | exact wrap32_wrap32 _ | simp [wrap32]
end Go.Proofs.Ytgnpbodhjmappaa
namespace Go.Proofs.Ytgnpbodhjmappaa.Cd

structure Frm where
  k : Nat
  base : Int
  pos : Int
  dst : Int
  regs : List Int
structure Rsu where
  fin : Int
  code : Int
  out : List UInt8
structure Sta where
  mem : List Int
  out : List UInt8
  inp : List UInt8
  stack : List Frm
def reg (f : Frm) (r : Int) : Int := f.regs.getD r.toNat 0
def byteOf (n : Int) : UInt8 := UInt8.ofNat (n % 256).toNat
def went (f : Frm) (i : Ins) (v p : Int) : Frm := { f with pos := p, regs := if 0 ≤ sets i then f.regs.set i.dst.toNat v else f.regs }
def addr (f : Frm) (i : Ins) : Int := reg f i.a % 4294967296
def valB (f : Frm) (i : Ins) : Int := if i.kind = 3 then reg f i.b else 0
def stepI (u : Uni) (g : Fnc) (i : Ins) (f : Frm) (rest : List Frm) (s : Sta) : Rsu ⊕ Sta :=
  if i.kind = 1 then .inr { s with stack := went f i i.n (f.pos + 1) :: rest }
  else if i.kind = 2 ∨ i.kind = 3 then
    if doB i.op (valB f i) = true then .inr { s with stack := went f i (doV i.op (reg f i.a) (valB f i)) (f.pos + 1) :: rest } else .inl ⟨2, 2, s.out⟩
  else if i.kind = 4 then .inr { s with stack := went f i (reg f i.a) (f.pos + 1) :: rest }
  else if i.kind = 5 then .inr { s with stack := went f i (f.base + i.n) (f.pos + 1) :: rest }
  else if i.kind = 6 ∨ i.kind = 7 then
    if 1 ≤ addr f i ∧ addr f i < 4096 then
      (if i.kind = 6 then .inr { s with stack := went f i (s.mem.getD (addr f i).toNat 0) (f.pos + 1) :: rest }
       else .inr { s with mem := s.mem.set (addr f i).toNat (reg f i.b), stack := went f i 0 (f.pos + 1) :: rest })
    else .inl ⟨2, 1, s.out⟩
  else if i.kind = 8 then
    match findN u.funcs i.text with
    | none => .inl ⟨4, 0, s.out⟩
    | some k => match u.funcs[k]? with
      | none => .inl ⟨4, 0, s.out⟩
      | some h =>
        if f.base + g.frame + h.frame > 4096 then .inl ⟨3, 0, s.out⟩
        else .inr { s with stack := ⟨k, f.base + g.frame, 0, i.dst, (uses i).map (reg f) ++ List.replicate (h.regs.toNat - (uses i).length) 0⟩ :: { f with pos := f.pos + 1 } :: rest }
  else if i.kind = 9 then
    match s.inp with
    | [] => .inr { s with stack := went f i (-1) (f.pos + 1) :: rest }
    | c :: cs => .inr { s with inp := cs, stack := went f i c.toNat (f.pos + 1) :: rest }
  else if i.kind = 10 then .inr { s with out := s.out ++ [byteOf (reg f i.a)], stack := went f i 0 (f.pos + 1) :: rest }
  else if i.kind = 11 then .inr { s with stack := went f i 0 i.dest :: rest }
  else if i.kind = 12 then .inr { s with stack := went f i 0 (if reg f i.a ≠ 0 then i.dest else i.els) :: rest }
  else match rest with
    | [] => .inl ⟨1, reg f i.a, s.out⟩
    | p :: ps => .inr { s with stack := (if 0 ≤ f.dst then { p with regs := p.regs.set f.dst.toNat (reg f i.a) } else p) :: ps }
def step (u : Uni) (s : Sta) : Rsu ⊕ Sta :=
  match s.stack with
  | [] => .inl ⟨4, 0, s.out⟩
  | f :: rest => match u.funcs[f.k]? with
    | none => .inl ⟨4, 0, s.out⟩
    | some g => match g.code[f.pos.toNat]? with
      | none => .inl ⟨4, 0, s.out⟩
      | some i => stepI u g i f rest s
def runS (u : Uni) : Nat → Sta → Rsu
  | 0, s => ⟨4, 0, s.out⟩
  | n + 1, s => match step u s with
    | .inl r => r
    | .inr s' => runS u n s'
def wMain : List UInt8 := [109, 97, 105, 110]
def memOf : List Glo → List Int → List Int
  | [], m => m
  | g :: gs, m => memOf gs (if g.pos < 4096 then m.set g.pos.toNat g.init else m)
def mem0 (u : Uni) : List Int := memOf u.globals (List.replicate 4096 0)
def fuelOf (n : Int) : Nat := if n > 1000000 then 1000000 else n.toNat
def runU (u : Uni) (inp : List UInt8) (fuel : Int) : Rsu :=
  match findN u.funcs wMain with
  | none => ⟨4, 0, []⟩
  | some m => match u.funcs[m]? with
    | none => ⟨4, 0, []⟩
    | some g =>
      if rightU u = false ∨ g.params > 0 then ⟨4, 0, []⟩
      else if u.top + g.frame > 4096 then ⟨3, 0, []⟩
      else runS u (fuelOf fuel) ⟨mem0 u, [], inp, [⟨m, u.top, 0, -1, List.replicate g.regs.toNat 0⟩]⟩
end Go.Proofs.Ytgnpbodhjmappaa.Cd
