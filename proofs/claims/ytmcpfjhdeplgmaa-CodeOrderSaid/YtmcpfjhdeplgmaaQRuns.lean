/-
  Contracts of word.Do: what it returns at each operation, whatever the numbers; the world stays as it was.
  What a unit does, step by step, on lists.
  Layer 7: the machine of code.Run on lists: all calls share one list of registers; and that it goes along with a run of calls that have registers of their own. Of no program.
  Runs with more fuel; runs that read nothing of their input.
  A run's calls stay as they may be: each stands within its code, has its registers, its frame within memory.
-/
import Derived.Test.YtmcpfjhdeplgmaaQSmall
import Derived.Test.YtmcpfjhdeplgmaaQBase
import Derived.Test.YtmcpfjhdeplgmaaQEach
namespace Go.Proofs.Ytmcpfjhdeplgmaa
open Go.RowKit (wrap32 wrap64)

theorem do_two (op a b : Int) (w : World) (h : 1 ≤ op ∧ op ≤ 3 ∨ 8 ≤ op ∧ op ≤ 19) :
    Calls Try.prog 53 #[.int .i64 op, .int .i64 a, .int .i64 b] w fun e w' => e = .returned (.tuple #[.int .i64 (wrap32 (twoV op (wrap32 a) (wrap32 b))), .bool true]) ∧ w = w' := by
  have h4 : ((op : Int) == 4) = false := by simp; omega
  have h5 : ((op : Int) == 5) = false := by simp; omega
  have h6 : ((op : Int) == 6) = false := by simp; omega
  have h7 : ((op : Int) == 7) = false := by simp; omega
  have ht : twoB op = true := by unfold twoB; simp; omega
  go_enter Try.func53, Try.ntmps53
  go_wp2
  go_step3
  go_wp2_with (first | ((with_reducible refine (wrap_any _ _).mono ?_); rintro e w' ⟨rfl, rfl⟩) | ((with_reducible refine (two_any _ _).mono ?_); rintro e w' ⟨rfl, rfl⟩) | ((with_reducible refine (ofTwo_any _ _ _ _ (wrap32_bd _) (wrap32_bd _)).mono ?_); rintro e w' ⟨rfl, rfl⟩) | ((with_reducible refine (result_any _ _).mono ?_); rintro e w' ⟨rfl, rfl⟩))
  rw [Exit.noGoto_ret]
  go_ret2
  exact ⟨rfl, rfl⟩
theorem do_one (op a b : Int) (w : World) (h : 20 ≤ op ∧ op ≤ 23) :
    Calls Try.prog 53 #[.int .i64 op, .int .i64 a, .int .i64 b] w fun e w' => e = .returned (.tuple #[.int .i64 (wrap32 (oneV op (wrap32 a))), .bool true]) ∧ w = w' := by
  have h4 : ((op : Int) == 4) = false := by simp; omega
  have h5 : ((op : Int) == 5) = false := by simp; omega
  have h6 : ((op : Int) == 6) = false := by simp; omega
  have h7 : ((op : Int) == 7) = false := by simp; omega
  have ht : twoB op = false := by unfold twoB; simp; omega
  have h1 : oneB op = true := by unfold oneB; simp; omega
  go_enter Try.func53, Try.ntmps53
  go_wp2
  go_step3
  go_wp2_with (first | ((with_reducible refine (wrap_any _ _).mono ?_); rintro e w' ⟨rfl, rfl⟩) | ((with_reducible refine (two_any _ _).mono ?_); rintro e w' ⟨rfl, rfl⟩) | ((with_reducible refine (one_any _ _).mono ?_); rintro e w' ⟨rfl, rfl⟩) | ((with_reducible refine (ofOne_any _ _ _ (wrap32_bd _)).mono ?_); rintro e w' ⟨rfl, rfl⟩) | ((with_reducible refine (result_any _ _).mono ?_); rintro e w' ⟨rfl, rfl⟩))
  rw [Exit.noGoto_ret]
  go_ret2
  exact ⟨rfl, rfl⟩
theorem do_none (op a b : Int) (w : World) (h : op < 1 ∨ 23 < op) :
    Calls Try.prog 53 #[.int .i64 op, .int .i64 a, .int .i64 b] w fun e w' => e = .returned (.tuple #[.int .i64 0, .bool false]) ∧ w = w' := by
  have h4 : ((op : Int) == 4) = false := by simp; omega
  have h5 : ((op : Int) == 5) = false := by simp; omega
  have h6 : ((op : Int) == 6) = false := by simp; omega
  have h7 : ((op : Int) == 7) = false := by simp; omega
  have ht : twoB op = false := by unfold twoB; simp; omega
  have h1 : oneB op = false := by unfold oneB; simp; omega
  go_enter Try.func53, Try.ntmps53
  go_wp2
  go_step3
  go_wp2_with (first | ((with_reducible refine (wrap_any _ _).mono ?_); rintro e w' ⟨rfl, rfl⟩) | ((with_reducible refine (two_any _ _).mono ?_); rintro e w' ⟨rfl, rfl⟩) | ((with_reducible refine (one_any _ _).mono ?_); rintro e w' ⟨rfl, rfl⟩))
  rw [Exit.noGoto_ret]
  go_ret2
  exact ⟨rfl, rfl⟩
section
variable {P : Program} {a : Act} {w : World} {Q : Exit → Act → World → Prop}
theorem wp_scope_forward {c rest : Code} (l : Nat) (hf : findLabel c l = some rest)
    (first : c.wp P (Exit.jump l (fun a' w' => rest.wp P (Exit.noGoto Q) a' w') Q) a w) : (Code.scope c).wp P Q a w :=
  wp_scope_jumps l _ (fun _ _ => 0) hf first fun _ _ h => Code.wp_mono (fun e _ _ hq => by
    cases e <;> first | exact hq | exact hq.elim) h
end
def divV (op a b : Int) : Int :=
  if op = 4 then wrap32 (wrap64 ((wrap32 a).tdiv (wrap32 b))) else if op = 5 then wrap32 ((wrap32 a).tmod (wrap32 b))
  else if op = 6 then wrap32 (wrap32 a % 4294967296 / (wrap32 b % 4294967296)) else wrap32 (wrap32 a % 4294967296 % (wrap32 b % 4294967296))
theorem do_div (a b : Int) (w : World) (hb : wrap32 b ≠ 0) :
    Calls Try.prog 53 #[.int .i64 4, .int .i64 a, .int .i64 b] w fun e w' => e = .returned (.tuple #[.int .i64 (divV 4 a b), .bool true]) ∧ w = w' := by
  have hb0 : (wrap32 b == 0) = false := by simp; omega
  have hb2 : ¬ (wrap32 b = 0) := hb
  clear hb
  go_enter Try.func53, Try.ntmps53
  go_wp2
  refine wp_scope_forward 0 rfl ?_
  go_wp2_with (first | ((with_reducible refine (wrap_any _ _).mono ?_); rintro e w' ⟨rfl, rfl⟩) | ((with_reducible refine (plain_any _ _).mono ?_); rintro e w' ⟨rfl, rfl⟩) | ((with_reducible refine (result_any _ _).mono ?_); rintro e w' ⟨rfl, rfl⟩))
  go_step3
  refine ⟨rfl, ?_⟩
  show Code.wp _ _ _ _ _
  go_wp2_with ((with_reducible refine (result_any _ _).mono ?_); rintro e w' ⟨rfl, rfl⟩)
  rw [Exit.noGoto_ret]
  go_ret2
  exact ⟨rfl, rfl⟩
theorem do_div0 (a b : Int) (w : World) (hb : wrap32 b = 0) :
    Calls Try.prog 53 #[.int .i64 4, .int .i64 a, .int .i64 b] w fun e w' => e = .returned (.tuple #[.int .i64 0, .bool false]) ∧ w = w' := by
  have hb0 : (wrap32 b == 0) = true := by simp; omega
  clear hb
  go_enter Try.func53, Try.ntmps53
  go_wp2
  refine wp_scope_forward 0 rfl ?_
  go_wp2_with (first | ((with_reducible refine (wrap_any _ _).mono ?_); rintro e w' ⟨rfl, rfl⟩) | ((with_reducible refine (plain_any _ _).mono ?_); rintro e w' ⟨rfl, rfl⟩) | ((with_reducible refine (result_any _ _).mono ?_); rintro e w' ⟨rfl, rfl⟩))
  go_step3
  refine ⟨rfl, ?_⟩
  show Code.wp _ _ _ _ _
  go_wp2_with ((with_reducible refine (result_any _ _).mono ?_); rintro e w' ⟨rfl, rfl⟩)
  rw [Exit.noGoto_ret]
  go_ret2
  exact ⟨rfl, rfl⟩
theorem do_rem (a b : Int) (w : World) (hb : wrap32 b ≠ 0) :
    Calls Try.prog 53 #[.int .i64 5, .int .i64 a, .int .i64 b] w fun e w' => e = .returned (.tuple #[.int .i64 (divV 5 a b), .bool true]) ∧ w = w' := by
  have hb0 : (wrap32 b == 0) = false := by simp; omega
  have hb2 : ¬ (wrap32 b = 0) := hb
  clear hb
  go_enter Try.func53, Try.ntmps53
  go_wp2
  refine wp_scope_forward 0 rfl ?_
  go_wp2_with (first | ((with_reducible refine (wrap_any _ _).mono ?_); rintro e w' ⟨rfl, rfl⟩) | ((with_reducible refine (plain_any _ _).mono ?_); rintro e w' ⟨rfl, rfl⟩) | ((with_reducible refine (result_any _ _).mono ?_); rintro e w' ⟨rfl, rfl⟩))
  go_step3
  refine ⟨rfl, ?_⟩
  show Code.wp _ _ _ _ _
  go_wp2_with ((with_reducible refine (result_any _ _).mono ?_); rintro e w' ⟨rfl, rfl⟩)
  rw [Exit.noGoto_ret]
  go_ret2
  exact ⟨rfl, rfl⟩
theorem do_rem0 (a b : Int) (w : World) (hb : wrap32 b = 0) :
    Calls Try.prog 53 #[.int .i64 5, .int .i64 a, .int .i64 b] w fun e w' => e = .returned (.tuple #[.int .i64 0, .bool false]) ∧ w = w' := by
  have hb0 : (wrap32 b == 0) = true := by simp; omega
  clear hb
  go_enter Try.func53, Try.ntmps53
  go_wp2
  refine wp_scope_forward 0 rfl ?_
  go_wp2_with (first | ((with_reducible refine (wrap_any _ _).mono ?_); rintro e w' ⟨rfl, rfl⟩) | ((with_reducible refine (plain_any _ _).mono ?_); rintro e w' ⟨rfl, rfl⟩) | ((with_reducible refine (result_any _ _).mono ?_); rintro e w' ⟨rfl, rfl⟩))
  go_step3
  refine ⟨rfl, ?_⟩
  show Code.wp _ _ _ _ _
  go_wp2_with ((with_reducible refine (result_any _ _).mono ?_); rintro e w' ⟨rfl, rfl⟩)
  rw [Exit.noGoto_ret]
  go_ret2
  exact ⟨rfl, rfl⟩
theorem do_divu (a b : Int) (w : World) (hb : wrap32 b ≠ 0) :
    Calls Try.prog 53 #[.int .i64 6, .int .i64 a, .int .i64 b] w fun e w' => e = .returned (.tuple #[.int .i64 (divV 6 a b), .bool true]) ∧ w = w' := by
  have hbd := wrap32_bd b
  have hb0 : (wrap32 b % 4294967296 == 0) = false := by simp; omega
  have hb2 : ¬ (wrap32 b % 4294967296 = 0) := by omega
  clear hb hbd
  go_enter Try.func53, Try.ntmps53
  go_wp2
  refine wp_scope_forward 0 rfl ?_
  go_wp2_with (first | ((with_reducible refine (wrap_any _ _).mono ?_); rintro e w' ⟨rfl, rfl⟩) | ((with_reducible refine (plain_any _ _).mono ?_); rintro e w' ⟨rfl, rfl⟩) | ((with_reducible refine (result_any _ _).mono ?_); rintro e w' ⟨rfl, rfl⟩))
  go_step3
  refine ⟨rfl, ?_⟩
  show Code.wp _ _ _ _ _
  go_wp2_with ((with_reducible refine (result_any _ _).mono ?_); rintro e w' ⟨rfl, rfl⟩)
  rw [Exit.noGoto_ret]
  go_ret2
  exact ⟨rfl, rfl⟩
theorem do_divu0 (a b : Int) (w : World) (hb : wrap32 b = 0) :
    Calls Try.prog 53 #[.int .i64 6, .int .i64 a, .int .i64 b] w fun e w' => e = .returned (.tuple #[.int .i64 0, .bool false]) ∧ w = w' := by
  have hbd := wrap32_bd b
  have hb0 : (wrap32 b % 4294967296 == 0) = true := by simp; omega
  clear hb hbd
  go_enter Try.func53, Try.ntmps53
  go_wp2
  refine wp_scope_forward 0 rfl ?_
  go_wp2_with (first | ((with_reducible refine (wrap_any _ _).mono ?_); rintro e w' ⟨rfl, rfl⟩) | ((with_reducible refine (plain_any _ _).mono ?_); rintro e w' ⟨rfl, rfl⟩) | ((with_reducible refine (result_any _ _).mono ?_); rintro e w' ⟨rfl, rfl⟩))
  go_step3
  refine ⟨rfl, ?_⟩
  show Code.wp _ _ _ _ _
  go_wp2_with ((with_reducible refine (result_any _ _).mono ?_); rintro e w' ⟨rfl, rfl⟩)
  rw [Exit.noGoto_ret]
  go_ret2
  exact ⟨rfl, rfl⟩
theorem do_remu (a b : Int) (w : World) (hb : wrap32 b ≠ 0) :
    Calls Try.prog 53 #[.int .i64 7, .int .i64 a, .int .i64 b] w fun e w' => e = .returned (.tuple #[.int .i64 (divV 7 a b), .bool true]) ∧ w = w' := by
  have hbd := wrap32_bd b
  have hb0 : (wrap32 b % 4294967296 == 0) = false := by simp; omega
  have hb2 : ¬ (wrap32 b % 4294967296 = 0) := by omega
  clear hb hbd
  go_enter Try.func53, Try.ntmps53
  go_wp2
  refine wp_scope_forward 0 rfl ?_
  go_wp2_with (first | ((with_reducible refine (wrap_any _ _).mono ?_); rintro e w' ⟨rfl, rfl⟩) | ((with_reducible refine (plain_any _ _).mono ?_); rintro e w' ⟨rfl, rfl⟩) | ((with_reducible refine (result_any _ _).mono ?_); rintro e w' ⟨rfl, rfl⟩))
  go_step3
  refine ⟨rfl, ?_⟩
  show Code.wp _ _ _ _ _
  go_wp2_with ((with_reducible refine (result_any _ _).mono ?_); rintro e w' ⟨rfl, rfl⟩)
  rw [Exit.noGoto_ret]
  go_ret2
  exact ⟨rfl, rfl⟩
theorem do_remu0 (a b : Int) (w : World) (hb : wrap32 b = 0) :
    Calls Try.prog 53 #[.int .i64 7, .int .i64 a, .int .i64 b] w fun e w' => e = .returned (.tuple #[.int .i64 0, .bool false]) ∧ w = w' := by
  have hbd := wrap32_bd b
  have hb0 : (wrap32 b % 4294967296 == 0) = true := by simp; omega
  clear hb hbd
  go_enter Try.func53, Try.ntmps53
  go_wp2
  refine wp_scope_forward 0 rfl ?_
  go_wp2_with (first | ((with_reducible refine (wrap_any _ _).mono ?_); rintro e w' ⟨rfl, rfl⟩) | ((with_reducible refine (plain_any _ _).mono ?_); rintro e w' ⟨rfl, rfl⟩) | ((with_reducible refine (result_any _ _).mono ?_); rintro e w' ⟨rfl, rfl⟩))
  go_step3
  refine ⟨rfl, ?_⟩
  show Code.wp _ _ _ _ _
  go_wp2_with ((with_reducible refine (result_any _ _).mono ?_); rintro e w' ⟨rfl, rfl⟩)
  rw [Exit.noGoto_ret]
  go_ret2
  exact ⟨rfl, rfl⟩

/-- Whether there is a result, and which. -/
def doB (op b : Int) : Bool := decide ((1 ≤ op ∧ op ≤ 23) ∧ ¬ ((4 ≤ op ∧ op ≤ 7) ∧ wrap32 b = 0))
def doV (op a b : Int) : Int :=
  if doB op b = false then 0 else if 4 ≤ op ∧ op ≤ 7 then divV op a b else if op ≤ 19 then wrap32 (twoV op (wrap32 a) (wrap32 b)) else wrap32 (oneV op (wrap32 a))
theorem do_any (op a b : Int) (w : World) :
    Calls Try.prog 53 #[.int .i64 op, .int .i64 a, .int .i64 b] w fun e w' => e = .returned (.tuple #[.int .i64 (doV op a b), .bool (doB op b)]) ∧ w = w' := by
  by_cases h1 : op < 1 ∨ 23 < op
  · have hB : doB op b = false := by unfold doB; simp; omega
    rw [doV, if_pos hB, hB]; exact do_none op a b w h1
  · by_cases h2 : 4 ≤ op ∧ op ≤ 7
    · by_cases h3 : wrap32 b = 0
      · have hB : doB op b = false := by unfold doB; simp; omega
        rw [doV, if_pos hB, hB]
        rcases (by omega : op = 4 ∨ op = 5 ∨ op = 6 ∨ op = 7) with rfl | rfl | rfl | rfl
        · exact do_div0 a b w h3
        · exact do_rem0 a b w h3
        · exact do_divu0 a b w h3
        · exact do_remu0 a b w h3
      · have hB : doB op b = true := by unfold doB; simp; omega
        rw [doV, if_neg (by rw [hB]; simp), if_pos h2, hB]
        rcases (by omega : op = 4 ∨ op = 5 ∨ op = 6 ∨ op = 7) with rfl | rfl | rfl | rfl
        · exact do_div a b w h3
        · exact do_rem a b w h3
        · exact do_divu a b w h3
        · exact do_remu a b w h3
    · have hB : doB op b = true := by unfold doB; simp; omega
      rw [doV, if_neg (by rw [hB]; simp), if_neg h2, hB]
      by_cases h4 : op ≤ 19
      · rw [if_pos h4]; exact do_two op a b w (by omega)
      · rw [if_neg h4]; exact do_one op a b w (by omega)
theorem doV_word (op a b : Int) : wrap32 (doV op a b) = doV op a b := by
  unfold doV divV
  repeat' split
  all_goals first | exact wrap32_wrap32 _ | simp [wrap32]
theorem doV_bd (op a b : Int) : -2147483648 ≤ doV op a b ∧ doV op a b ≤ 2147483647 := by rw [← doV_word]; exact wrap32_bd _
end Go.Proofs.Ytmcpfjhdeplgmaa
namespace Go.Proofs.Ytmcpfjhdeplgmaa.Cd

/-- A call that goes on: which function, where its frame is, where it stands, where its caller wants the answer, its registers. -/
structure Frm where
  k : Nat
  base : Int
  pos : Int
  dst : Int
  regs : List Int
/-- What came of a run. -/
structure Rsu where
  fin : Int
  code : Int
  out : List UInt8
/-- How far a run is: the innermost call first. -/
structure Sta where
  mem : List Int
  out : List UInt8
  inp : List UInt8
  stack : List Frm
def reg (f : Frm) (r : Int) : Int := f.regs.getD r.toNat 0
def byteOf (n : Int) : UInt8 := UInt8.ofNat (n % 256).toNat
/-- The call behind an instruction that tells v, and goes on at p. -/
def went (f : Frm) (i : Ins) (v p : Int) : Frm := { f with pos := p, regs := if 0 ≤ sets i then f.regs.set i.dst.toNat v else f.regs }
def addr (f : Frm) (i : Ins) : Int := reg f i.a % 4294967296
/-- What an operation has as its second number. -/
def valB (f : Frm) (i : Ins) : Int := if i.kind = 3 then reg f i.b else 0
/-- A step by an instruction: the end, or how far it is then. -/
def stepI (u : Uni) (g : Fnc) (i : Ins) (f : Frm) (rest : List Frm) (s : Sta) : Rsu ⊕ Sta :=
  if i.kind = 1 then .inr { s with stack := went f i i.n (f.pos + 1) :: rest }
  else if i.kind = 2 ∨ i.kind = 3 then
    if doB i.op (valB f i) = true then .inr { s with stack := went f i (doV i.op (reg f i.a) (valB f i)) (f.pos + 1) :: rest } else .inl ⟨2, 2, s.out⟩
  else if i.kind = 4 then .inr { s with stack := went f i (reg f i.a) (f.pos + 1) :: rest }
  else if i.kind = 5 then .inr { s with stack := went f i (f.base + i.n) (f.pos + 1) :: rest }
  else if i.kind = 6 ∨ i.kind = 7 then
    if 1 ≤ addr f i ∧ addr f i < 4096 then
      (if i.kind = 6 then .inr { s with stack := went f i (s.mem.getD (addr f i).toNat 0) (f.pos + 1) :: rest }
       else .inr { s with mem := s.mem.set (addr f i).toNat (reg f i.b), stack := went f i 0 (f.pos + 1) :: rest })
    else .inl ⟨2, 1, s.out⟩
  else if i.kind = 8 then
    match findN u.funcs i.text with
    | none => .inl ⟨4, 0, s.out⟩
    | some k => match u.funcs[k]? with
      | none => .inl ⟨4, 0, s.out⟩
      | some h =>
        if f.base + g.frame + h.frame > 4096 then .inl ⟨3, 0, s.out⟩
        else .inr { s with stack := ⟨k, f.base + g.frame, 0, i.dst, (uses i).map (reg f) ++ List.replicate (h.regs.toNat - (uses i).length) 0⟩ :: { f with pos := f.pos + 1 } :: rest }
  else if i.kind = 9 then
    match s.inp with
    | [] => .inr { s with stack := went f i (-1) (f.pos + 1) :: rest }
    | c :: cs => .inr { s with inp := cs, stack := went f i c.toNat (f.pos + 1) :: rest }
  else if i.kind = 10 then .inr { s with out := s.out ++ [byteOf (reg f i.a)], stack := went f i 0 (f.pos + 1) :: rest }
  else if i.kind = 11 then .inr { s with stack := went f i 0 i.dest :: rest }
  else if i.kind = 12 then .inr { s with stack := went f i 0 (if reg f i.a ≠ 0 then i.dest else i.els) :: rest }
  else match rest with
    | [] => .inl ⟨1, reg f i.a, s.out⟩
    | p :: ps => .inr { s with stack := (if 0 ≤ f.dst then { p with regs := p.regs.set f.dst.toNat (reg f i.a) } else p) :: ps }
def step (u : Uni) (s : Sta) : Rsu ⊕ Sta :=
  match s.stack with
  | [] => .inl ⟨4, 0, s.out⟩
  | f :: rest => match u.funcs[f.k]? with
    | none => .inl ⟨4, 0, s.out⟩
    | some g => match g.code[f.pos.toNat]? with
      | none => .inl ⟨4, 0, s.out⟩
      | some i => stepI u g i f rest s
def runS (u : Uni) : Nat → Sta → Rsu
  | 0, s => ⟨4, 0, s.out⟩
  | n + 1, s => match step u s with
    | .inl r => r
    | .inr s' => runS u n s'
def wMain : List UInt8 := [109, 97, 105, 110]
def memOf : List Glo → List Int → List Int
  | [], m => m
  | g :: gs, m => memOf gs (if g.pos < 4096 then m.set g.pos.toNat g.init else m)
def mem0 (u : Uni) : List Int := memOf u.globals (List.replicate 4096 0)
def fuelOf (n : Int) : Nat := if n > 1000000 then 1000000 else n.toNat
/-- What comes of a unit. -/
def runU (u : Uni) (inp : List UInt8) (fuel : Int) : Rsu :=
  match findN u.funcs wMain with
  | none => ⟨4, 0, []⟩
  | some m => match u.funcs[m]? with
    | none => ⟨4, 0, []⟩
    | some g =>
      if rightU u = false ∨ g.params > 0 then ⟨4, 0, []⟩
      else if u.top + g.frame > 4096 then ⟨3, 0, []⟩
      else runS u (fuelOf fuel) ⟨mem0 u, [], inp, [⟨m, u.top, 0, -1, List.replicate g.regs.toNat 0⟩]⟩
end Go.Proofs.Ytmcpfjhdeplgmaa.Cd
namespace Go.Proofs.Ytmcpfjhdeplgmaa.Cd
set_option linter.unusedVariables false

/-- A call; a value put aside; the machine. -/
structure Cal where
  k : Nat
  pos : Int
  frame : Int
  dst : Int
  aside : Nat
structure Vl where
  reg : Int
  word : Int
  call : Int
structure Mac where
  mem : List Int
  free : Int
  regs : List Int
  sets : List Int
  aside : List Vl
  calls : List Cal
  inp : List UInt8
  fuel : Int
  fin : Int
  code : Int
  out : List UInt8
def gR (l : List Int) (r : Nat) : Int := l.getD r 0
def mget (m : Mac) (r : Int) : Int := if gR m.sets r.toNat = (m.calls.length : Int) then gR m.regs r.toNat else 0
def mset (m : Mac) (r n : Int) : Mac :=
  if gR m.sets r.toNat = (m.calls.length : Int) then { m with regs := m.regs.set r.toNat n }
  else { m with aside := m.aside ++ [⟨r, gR m.regs r.toNat, gR m.sets r.toNat⟩], sets := m.sets.set r.toNat m.calls.length, regs := m.regs.set r.toNat n }
/-- What was put aside is put back. -/
def undoR : List Vl → List Int → List Int
  | [], R => R
  | v :: l, R => undoR l (R.set v.reg.toNat v.word)
def undoS : List Vl → List Int → List Int
  | [], S => S
  | v :: l, S => undoS l (S.set v.reg.toNat v.call)
theorem undoR_len : ∀ (l : List Vl) (R : List Int), (undoR l R).length = R.length
  | [], R => rfl
  | v :: l, R => by unfold undoR; rw [undoR_len l, List.length_set]
theorem undoS_len : ∀ (l : List Vl) (R : List Int), (undoS l R).length = R.length
  | [], R => rfl
  | v :: l, R => by unfold undoS; rw [undoS_len l, List.length_set]
theorem gR_set (R : List Int) (r q : Nat) (n : Int) : gR (R.set r n) q = if r = q ∧ r < R.length then n else gR R q := by
  unfold gR
  rw [List.getD_eq_getElem?_getD, List.getD_eq_getElem?_getD, List.getElem?_set]
  by_cases h : r = q
  · subst h
    by_cases hr : r < R.length
    · simp [hr]
    · simp [hr]
  · simp [h]
theorem gR_ne {R : List Int} {r q : Nat} {n : Int} (h : ¬ r = q) : gR (R.set r n) q = gR R q := by rw [gR_set, if_neg (fun e => h e.1)]
theorem gR_eq {R : List Int} {r : Nat} {n : Int} (h : r < R.length) : gR (R.set r n) r = n := by rw [gR_set, if_pos ⟨rfl, h⟩]
def keys (l : List Vl) : List Nat := l.map (·.reg.toNat)
theorem undoS_other : ∀ (l : List Vl) (S : List Int) (r : Nat), r ∉ keys l → gR (undoS l S) r = gR S r
  | [], S, r, _ => rfl
  | v :: l, S, r, h => by
    unfold keys at h
    simp only [List.map_cons, List.mem_cons, not_or] at h
    unfold undoS
    rw [undoS_other l _ r h.2, gR_set, if_neg (fun e => h.1 e.1.symm)]
theorem undoR_in : ∀ (l : List Vl) (R : List Int) (r : Nat) (n : Int), r ∈ keys l → undoR l (R.set r n) = undoR l R
  | [], R, r, n, h => by cases h
  | v :: l, R, r, n, h => by
    unfold undoR
    by_cases hv : v.reg.toNat = r
    · rw [hv, List.set_set]
    · have h2 : r ∈ keys l := by
        unfold keys at h ⊢
        simp only [List.map_cons, List.mem_cons] at h
        exact h.resolve_left (fun e => hv e.symm)
      rw [List.set_comm _ _ (Ne.symm hv), undoR_in l _ r n h2]
theorem undoR_out : ∀ (l : List Vl) (R : List Int) (r : Nat) (n : Int), r ∉ keys l → undoR l (R.set r n) = (undoR l R).set r n
  | [], R, r, n, h => rfl
  | v :: l, R, r, n, h => by
    unfold keys at h
    simp only [List.map_cons, List.mem_cons, not_or] at h
    unfold undoR
    rw [List.set_comm _ _ h.1, undoR_out l _ r n h.2]
theorem undoS_out : ∀ (l : List Vl) (R : List Int) (r : Nat) (n : Int), r ∉ keys l → undoS l (R.set r n) = (undoS l R).set r n
  | [], R, r, n, h => rfl
  | v :: l, R, r, n, h => by
    unfold keys at h
    simp only [List.map_cons, List.mem_cons, not_or] at h
    unfold undoS
    rw [List.set_comm _ _ h.1, undoS_out l _ r n h.2]
theorem undoR_snoc : ∀ (l : List Vl) (v : Vl) (R : List Int), undoR (l ++ [v]) R = (undoR l R).set v.reg.toNat v.word
  | [], v, R => rfl
  | x :: l, v, R => by show undoR (l ++ [v]) _ = _; rw [undoR_snoc l v]; rfl
theorem undoS_snoc : ∀ (l : List Vl) (v : Vl) (R : List Int), undoS (l ++ [v]) R = (undoS l R).set v.reg.toNat v.call
  | [], v, R => rfl
  | x :: l, v, R => by show undoS (l ++ [v]) _ = _; rw [undoS_snoc l v]; rfl
theorem set_get (R : List Int) (r : Nat) : R.set r (gR R r) = R := by
  refine List.ext_getElem? fun q => ?_
  rw [List.getElem?_set]
  by_cases h : r = q
  · subst h
    by_cases hr : r < R.length
    · simp [gR, hr]
    · simp [hr]
  · simp [h]
theorem undoR_get : ∀ (l : List Vl) (R : List Int) (r : Nat), r ∉ keys l → gR (undoR l R) r = gR R r
  | [], S, r, _ => rfl
  | v :: l, S, r, h => by
    unfold keys at h
    simp only [List.map_cons, List.mem_cons, not_or] at h
    unfold undoR
    rw [undoR_get l _ r h.2, gR_set, if_neg (fun e => h.1 e.1.symm)]
/-- A frame lies behind its caller's. -/
def Behind (u : Uni) (f : Frm) : List Frm → Prop
  | [] => True
  | p :: _ => ∃ g, u.funcs[p.k]? = some g ∧ f.base = p.base + g.frame
/-- The calls, the innermost first, and the machine's. -/
def StkR (u : Uni) : List Frm → List Cal → List Int → List Int → List Vl → Prop
  | [], [], R, S, A => (∀ r, gR S r = 0) ∧ A = []
  | f :: fs, c :: cs, R, S, A =>
    (c.k = f.k ∧ c.pos = f.pos ∧ c.frame = f.base ∧ c.dst = f.dst) ∧ Behind u f fs ∧
    ∃ base seg, A = base ++ seg ∧ c.aside = base.length ∧ (∀ r, r < f.regs.length → gR f.regs r = if gR S r = ((cs.length + 1 : Nat) : Int) then gR R r else 0) ∧
      (∀ r, gR S r = ((cs.length + 1 : Nat) : Int) ↔ r ∈ keys seg) ∧ StkR u fs cs (undoR seg R) (undoS seg S) base
  | _, _, _, _, _ => False
theorem StkR.le {u : Uni} : ∀ {fs : List Frm} {cs : List Cal} {R S : List Int} {A : List Vl}, StkR u fs cs R S A → ∀ r, 0 ≤ gR S r ∧ gR S r ≤ (cs.length : Int)
  | [], [], R, S, A, h, r => by rw [h.1 r]; simp
  | [], c :: cs, R, S, A, h, r => h.elim
  | f :: fs, [], R, S, A, h, r => h.elim
  | f :: fs, c :: cs, R, S, A, ⟨_, _, base, seg, _, _, _, h4, h5⟩, r => by
    by_cases hr : r ∈ keys seg
    · rw [(h4 r).2 hr]; simp; omega
    · have := StkR.le h5 r
      rw [undoS_other _ _ _ hr] at this
      simp only [List.length_cons]
      omega
theorem StkR.len {u : Uni} : ∀ {fs : List Frm} {cs : List Cal} {R S : List Int} {A : List Vl}, StkR u fs cs R S A → fs.length = cs.length
  | [], [], R, S, A, h => rfl
  | [], c :: cs, R, S, A, h => h.elim
  | f :: fs, [], R, S, A, h => h.elim
  | f :: fs, c :: cs, R, S, A, ⟨_, _, base, seg, _, _, _, h4, h5⟩ => by simp [StkR.len h5]
/-- A register is set in the innermost call. -/
theorem StkR.set {u : Uni} {f : Frm} {fs : List Frm} {c : Cal} {cs : List Cal} {R S : List Int} {A : List Vl} (h : StkR u (f :: fs) (c :: cs) R S A) (r n : Int) (hr : r.toNat < R.length) (hl : S.length = R.length) :
    (gR S r.toNat = ((cs.length + 1 : Nat) : Int) → StkR u ({ f with regs := f.regs.set r.toNat n } :: fs) (c :: cs) (R.set r.toNat n) S A) ∧
    (gR S r.toNat ≠ ((cs.length + 1 : Nat) : Int) → StkR u ({ f with regs := f.regs.set r.toNat n } :: fs) (c :: cs) (R.set r.toNat n) (S.set r.toNat ((cs.length + 1 : Nat) : Int)) (A ++ [⟨r, gR R r.toNat, gR S r.toNat⟩])) := by
  obtain ⟨h1, h2, base, seg, h3, h4, h5, h6, h7⟩ := h
  have hb : Behind u { f with regs := f.regs.set r.toNat n } fs := by cases fs <;> exact h2
  constructor
  · intro hd
    refine ⟨h1, hb, base, seg, h3, h4, fun q hq => ?_, h6, ?_⟩
    · simp only [List.length_set] at hq
      by_cases hqr : r.toNat = q
      · subst hqr
        rw [gR_eq hq, gR_eq hr, if_pos hd]
      · rw [gR_ne hqr, gR_ne hqr]
        exact h5 q hq
    · rw [undoR_in _ _ _ _ ((h6 _).1 hd)]
      exact h7
  · intro hd
    have hk : r.toNat ∉ keys seg := fun e => hd ((h6 _).2 e)
    refine ⟨h1, hb, base, seg ++ [⟨r, gR R r.toNat, gR S r.toNat⟩], by rw [h3, List.append_assoc], h4, fun q hq => ?_, fun q => ?_, ?_⟩
    · simp only [List.length_set] at hq
      by_cases hqr : r.toNat = q
      · subst hqr
        rw [gR_eq hq, gR_eq hr, gR_eq (by omega), if_pos rfl]
      · rw [gR_ne hqr, gR_ne hqr, gR_ne hqr]
        exact h5 q hq
    · rw [gR_set]
      unfold keys
      rw [List.map_append, List.mem_append]
      simp only [List.map_cons, List.map_nil, List.mem_singleton]
      by_cases hqr : r.toNat = q
      · subst hqr
        rw [if_pos ⟨rfl, by omega⟩]
        simp
      · rw [if_neg (fun e => hqr e.1)]
        rw [h6 q]
        unfold keys
        constructor
        · exact .inl
        · rintro (h | h)
          · exact h
          · exact absurd h.symm hqr
    · rw [undoR_snoc, undoS_snoc, undoR_out _ _ _ _ hk, undoS_out _ _ _ _ hk]
      simp only [List.set_set]
      have e1 : (undoR seg R).set r.toNat (gR R r.toNat) = undoR seg R := by
        rw [← undoR_get seg R r.toNat hk]; exact set_get _ _
      have e2 : (undoS seg S).set r.toNat (gR S r.toNat) = undoS seg S := by
        rw [← undoS_other seg S r.toNat hk]; exact set_get _ _
      rw [e1, e2]
      exact h7
/-- A call begins. -/
theorem StkR.push {u : Uni} {fs : List Frm} {cs : List Cal} {R S : List Int} {A : List Vl} (h : StkR u fs cs R S A) (k : Nat) (base dst : Int) (n : Nat) (hb : Behind u ⟨k, base, 0, dst, List.replicate n 0⟩ fs) :
    StkR u (⟨k, base, 0, dst, List.replicate n 0⟩ :: fs) (⟨k, 0, base, dst, A.length⟩ :: cs) R S A := by
  have hle := h.le
  have hno : ∀ r, gR S r ≠ ((cs.length + 1 : Nat) : Int) := fun r e => by have := (hle r).2; omega
  refine ⟨⟨rfl, rfl, rfl, rfl⟩, hb, A, [], by simp, rfl, fun r hr => ?_, fun r => ?_, h⟩
  · rw [if_neg (hno r)]
    unfold gR
    rw [List.getD_eq_getElem?_getD, List.getElem?_replicate]
    split <;> rfl
  · exact ⟨fun e => absurd e (hno r), fun e => by cases e⟩
/-- The innermost call goes on elsewhere. -/
theorem StkR.pos {u : Uni} {f : Frm} {fs : List Frm} {c : Cal} {cs : List Cal} {R S : List Int} {A : List Vl} (h : StkR u (f :: fs) (c :: cs) R S A) (p : Int) : StkR u ({ f with pos := p } :: fs) ({ c with pos := p } :: cs) R S A := by
  obtain ⟨h1, h2, h3⟩ := h
  exact ⟨⟨h1.1, rfl, h1.2.2.1, h1.2.2.2⟩, by cases fs <;> exact h2, h3⟩
/-- The innermost call ends. -/
theorem StkR.pop {u : Uni} {f : Frm} {fs : List Frm} {c : Cal} {cs : List Cal} {R S : List Int} {A : List Vl} (h : StkR u (f :: fs) (c :: cs) R S A) : c.aside ≤ A.length ∧ StkR u fs cs (undoR (A.drop c.aside) R) (undoS (A.drop c.aside) S) (A.take c.aside) := by
  obtain ⟨h1, h2, base, seg, h3, h4, h5, h6, h7⟩ := h
  subst h3
  rw [h4]
  refine ⟨by simp, ?_⟩
  simpa using h7
/-- What a register of the innermost call is. -/
theorem StkR.get {u : Uni} {f : Frm} {fs : List Frm} {c : Cal} {cs : List Cal} {R S : List Int} {A : List Vl} (h : StkR u (f :: fs) (c :: cs) R S A) {r : Int} (hr : r.toNat < f.regs.length) : (if gR S r.toNat = ((cs.length + 1 : Nat) : Int) then gR R r.toNat else 0) = reg f r := by
  obtain ⟨_, _, base, seg, _, _, h5, _⟩ := h
  exact (h5 _ hr).symm
end Go.Proofs.Ytmcpfjhdeplgmaa.Cd
namespace Go.Proofs.Ytmcpfjhdeplgmaa.Cd

/-- What a step lets out goes on. -/
def OutOk (s : Sta) : Rsu ⊕ Sta → Prop
  | .inl r => r.out = s.out
  | .inr s' => s.out <+: s'.out
theorem stepI_ok (u : Uni) (g : Fnc) (i : Ins) (f : Frm) (rest : List Frm) (s : Sta) : OutOk s (stepI u g i f rest s) := by
  have hp : s.out <+: s.out := List.prefix_refl _
  unfold stepI
  by_cases h1 : i.kind = 1
  · rw [if_pos h1]; exact hp
  rw [if_neg h1]
  by_cases h2 : i.kind = 2 ∨ i.kind = 3
  · rw [if_pos h2]
    by_cases hb : doB i.op (valB f i) = true
    · rw [if_pos hb]; exact hp
    · rw [if_neg hb]; rfl
  rw [if_neg h2]
  by_cases h4 : i.kind = 4
  · rw [if_pos h4]; exact hp
  rw [if_neg h4]
  by_cases h5 : i.kind = 5
  · rw [if_pos h5]; exact hp
  rw [if_neg h5]
  by_cases h6 : i.kind = 6 ∨ i.kind = 7
  · rw [if_pos h6]
    by_cases ha : 1 ≤ addr f i ∧ addr f i < 4096
    · rw [if_pos ha]
      by_cases hl : i.kind = 6
      · rw [if_pos hl]; exact hp
      · rw [if_neg hl]; exact hp
    · rw [if_neg ha]; rfl
  rw [if_neg h6]
  by_cases h8 : i.kind = 8
  · rw [if_pos h8]
    cases findN u.funcs i.text with
    | none => rfl
    | some k =>
      simp only
      cases u.funcs[k]? with
      | none => rfl
      | some h =>
        simp only
        by_cases hb : f.base + g.frame + h.frame > 4096
        · rw [if_pos hb]; rfl
        · rw [if_neg hb]; exact hp
  rw [if_neg h8]
  by_cases h9 : i.kind = 9
  · rw [if_pos h9]
    cases s.inp <;> exact hp
  rw [if_neg h9]
  by_cases h10 : i.kind = 10
  · rw [if_pos h10]; exact List.prefix_append _ _
  rw [if_neg h10]
  by_cases h11 : i.kind = 11
  · rw [if_pos h11]; exact hp
  rw [if_neg h11]
  by_cases h12 : i.kind = 12
  · rw [if_pos h12]; exact hp
  rw [if_neg h12]
  cases rest with
  | nil => rfl
  | cons p ps => exact hp
theorem stepI_out {u : Uni} {g : Fnc} {i : Ins} {f : Frm} {rest : List Frm} {s s' : Sta} (h : stepI u g i f rest s = .inr s') : s.out <+: s'.out := by
  have := stepI_ok u g i f rest s
  rw [h] at this
  exact this
theorem stepI_end {u : Uni} {g : Fnc} {i : Ins} {f : Frm} {rest : List Frm} {s : Sta} {r : Rsu} (h : stepI u g i f rest s = .inl r) : r.out = s.out := by
  have := stepI_ok u g i f rest s
  rw [h] at this
  exact this
theorem step_out {u : Uni} {s s' : Sta} (h : step u s = .inr s') : s.out <+: s'.out := by
  unfold step at h
  repeat' (first | split at h)
  all_goals first | (cases h) | exact stepI_out h | skip
theorem step_end {u : Uni} {s : Sta} {r : Rsu} (h : step u s = .inl r) : r.out = s.out := by
  unfold step at h
  repeat' (first | split at h)
  all_goals first | (cases h; rfl) | exact stepI_end h | skip
theorem runS_out (u : Uni) : ∀ (n : Nat) (s : Sta), s.out <+: (runS u n s).out
  | 0, s => List.prefix_refl _
  | n + 1, s => by
    unfold runS
    cases h : step u s with
    | inl r => rw [show r.out = s.out from step_end h]; exact List.prefix_refl _
    | inr s' => exact (step_out h).trans (runS_out u n s')
/-- With more fuel a run that was not spent is the same. -/
theorem runS_more (u : Uni) : ∀ (n m : Nat) (s : Sta), n ≤ m → (runS u n s).fin ≠ 4 → runS u m s = runS u n s
  | 0, m, s, _, h => absurd rfl h
  | n + 1, 0, s, hm, _ => by omega
  | n + 1, m + 1, s, hm, h => by
    unfold runS at h ⊢
    cases hs : step u s with
    | inl r => rfl
    | inr s' => rw [hs] at h; exact runS_more u n m s' (by omega) h
/-- Whatever fuel: one output is a beginning of the other one. -/
theorem runS_prefix (u : Uni) : ∀ (n m : Nat) (s : Sta), n ≤ m → (runS u n s).out <+: (runS u m s).out
  | 0, m, s, _ => runS_out u m s
  | n + 1, 0, s, hm => by omega
  | n + 1, m + 1, s, hm => by
    unfold runS
    cases hs : step u s with
    | inl r => exact List.prefix_refl _
    | inr s' => exact runS_prefix u n m s' (by omega)
/-- The same run by another input. -/
def withInp (s : Sta) (inp : List UInt8) : Sta := { s with inp := inp }
def liftR (inp : List UInt8) : Rsu ⊕ Sta → Rsu ⊕ Sta
  | .inl r => .inl r
  | .inr s => .inr (withInp s inp)
theorem stepI_inp {u : Uni} {g : Fnc} {i : Ins} {f : Frm} {rest : List Frm} {s : Sta} (inp : List UInt8) (hk : i.kind ≠ 9) : stepI u g i f rest (withInp s inp) = liftR inp (stepI u g i f rest s) := by
  unfold stepI
  by_cases h1 : i.kind = 1
  · rw [if_pos h1, if_pos h1]; rfl
  rw [if_neg h1, if_neg h1]
  by_cases h2 : i.kind = 2 ∨ i.kind = 3
  · rw [if_pos h2, if_pos h2]
    by_cases hb : doB i.op (valB f i) = true
    · rw [if_pos hb, if_pos hb]; rfl
    · rw [if_neg hb, if_neg hb]; rfl
  rw [if_neg h2, if_neg h2]
  by_cases h4 : i.kind = 4
  · rw [if_pos h4, if_pos h4]; rfl
  rw [if_neg h4, if_neg h4]
  by_cases h5 : i.kind = 5
  · rw [if_pos h5, if_pos h5]; rfl
  rw [if_neg h5, if_neg h5]
  by_cases h6 : i.kind = 6 ∨ i.kind = 7
  · rw [if_pos h6, if_pos h6]
    by_cases ha : 1 ≤ addr f i ∧ addr f i < 4096
    · rw [if_pos ha, if_pos ha]
      by_cases hl : i.kind = 6
      · rw [if_pos hl, if_pos hl]; rfl
      · rw [if_neg hl, if_neg hl]; rfl
    · rw [if_neg ha, if_neg ha]; rfl
  rw [if_neg h6, if_neg h6]
  by_cases h8 : i.kind = 8
  · rw [if_pos h8, if_pos h8]
    cases findN u.funcs i.text with
    | none => rfl
    | some k =>
      simp only
      cases u.funcs[k]? with
      | none => rfl
      | some h =>
        simp only
        by_cases hb : f.base + g.frame + h.frame > 4096
        · rw [if_pos hb, if_pos hb]; rfl
        · rw [if_neg hb, if_neg hb]; rfl
  rw [if_neg h8, if_neg h8, if_neg hk, if_neg hk]
  by_cases h10 : i.kind = 10
  · rw [if_pos h10, if_pos h10]; rfl
  rw [if_neg h10, if_neg h10]
  by_cases h11 : i.kind = 11
  · rw [if_pos h11, if_pos h11]; rfl
  rw [if_neg h11, if_neg h11]
  by_cases h12 : i.kind = 12
  · rw [if_pos h12, if_pos h12]; rfl
  rw [if_neg h12, if_neg h12]
  cases rest <;> rfl
/-- No instruction of a unit reads input. -/
def NoGetc (u : Uni) : Prop := ∀ f ∈ u.funcs, ∀ i ∈ f.code, i.kind ≠ 9
theorem step_inp {u : Uni} (hu : NoGetc u) (s : Sta) (inp : List UInt8) : step u (withInp s inp) = liftR inp (step u s) := by
  unfold step
  simp only [withInp]
  cases s.stack with
  | nil => rfl
  | cons f rest =>
    simp only
    cases hf : u.funcs[f.k]? with
    | none => rfl
    | some g =>
      simp only
      cases hi : g.code[f.pos.toNat]? with
      | none => rfl
      | some i => exact stepI_inp inp (hu g (List.mem_of_getElem? hf) i (List.mem_of_getElem? hi))
theorem runS_inp {u : Uni} (hu : NoGetc u) (inp : List UInt8) : ∀ (n : Nat) (s : Sta), runS u n (withInp s inp) = runS u n s
  | 0, s => rfl
  | n + 1, s => by
    unfold runS
    rw [step_inp hu]
    cases step u s with
    | inl r => rfl
    | inr s' => exact runS_inp hu inp n s'
/-- A run is of no use at all, or begins as it begins. -/
theorem runU_form (u : Uni) : (∃ r : Rsu, ∀ inp fuel, runU u inp fuel = r) ∨ ∃ st : Sta, ∀ inp fuel, runU u inp fuel = runS u (fuelOf fuel) (withInp st inp) := by
  unfold runU
  cases findN u.funcs wMain with
  | none => exact .inl ⟨_, fun _ _ => rfl⟩
  | some m =>
    simp only
    cases u.funcs[m]? with
    | none => exact .inl ⟨_, fun _ _ => rfl⟩
    | some g =>
      simp only
      by_cases h1 : rightU u = false ∨ g.params > 0
      · exact .inl ⟨⟨4, 0, []⟩, fun _ _ => if_pos h1⟩
      · by_cases h2 : u.top + g.frame > 4096
        · exact .inl ⟨⟨3, 0, []⟩, fun _ _ => by rw [if_neg h1, if_pos h2]⟩
        · exact .inr ⟨⟨mem0 u, [], [], [⟨m, u.top, 0, -1, List.replicate g.regs.toNat 0⟩]⟩, fun _ _ => by rw [if_neg h1, if_neg h2]; rfl⟩
theorem runU_inp {u : Uni} (hu : NoGetc u) (a b : List UInt8) (fuel : Int) : runU u a fuel = runU u b fuel := by
  rcases runU_form u with ⟨r, h⟩ | ⟨st, h⟩
  · rw [h, h]
  · rw [h, h, runS_inp hu, runS_inp hu]
theorem fuelOf_le {a b : Int} (h : a ≤ b) : fuelOf a ≤ fuelOf b := by unfold fuelOf; split <;> split <;> omega
theorem runU_more (u : Uni) (inp : List UInt8) {a b : Int} (h : a ≤ b) (hf : (runU u inp a).fin ≠ 4) : runU u inp b = runU u inp a := by
  rcases runU_form u with ⟨r, h1⟩ | ⟨st, h1⟩
  · rw [h1, h1]
  · rw [h1] at hf ⊢
    rw [h1]
    exact runS_more u _ _ _ (fuelOf_le h) hf
theorem runU_prefix (u : Uni) (inp : List UInt8) {a b : Int} (h : a ≤ b) : (runU u inp a).out <+: (runU u inp b).out := by
  rcases runU_form u with ⟨r, h1⟩ | ⟨st, h1⟩
  · rw [h1, h1]; exact List.prefix_refl _
  · rw [h1, h1]; exact runS_prefix u _ _ _ (fuelOf_le h)
end Go.Proofs.Ytmcpfjhdeplgmaa.Cd
namespace Go.Proofs.Ytmcpfjhdeplgmaa
open Go.RowKit Cd
set_option linter.unusedVariables false
set_option linter.unusedSimpArgs false

/-- What holds of a call that goes on. -/
structure FrGood (u : Uni) (f : Frm) (g : Fnc) : Prop where
  fn : u.funcs[f.k]? = some g
  pos : 0 ≤ f.pos ∧ f.pos < g.code.length
  regs : (f.regs.length : Int) = g.regs
  base : 0 ≤ f.base ∧ f.base + g.frame ≤ 4096
  dst : -1 ≤ f.dst
/-- What holds of the calls, the innermost first. -/
def StkOk (u : Uni) : List Frm → Prop
  | [] => True
  | f :: l => (∃ g, FrGood u f g) ∧ (∀ p, l.head? = some p → f.dst < p.regs.length) ∧ StkOk u l
theorem FrGood.at {u : Uni} {f : Frm} {g : Fnc} (h : FrGood u f g) : ∃ i, g.code[f.pos.toNat]? = some i := by
  have := h.pos
  exact ⟨_, List.getElem?_eq_getElem (by omega)⟩
theorem FrGood.next {u : Uni} {f : Frm} {g : Fnc} {i : Ins} {p : Int} (hU : RightU u) (h : FrGood u f g) (hi : g.code[f.pos.toNat]? = some i) (hp : p ∈ next i f.pos) : 0 ≤ p ∧ p < g.code.length := by
  have hf := hU.funcs _ _ h.fn
  unfold funcOk at hf
  rw [Bool.and_eq_true, Bool.and_eq_true, rightF_iff] at hf
  exact closed_of hf.1.1 f.pos h.pos p (by rw [nexts_at hi]; exact hp)
theorem FrGood.right {u : Uni} {f : Frm} {g : Fnc} (hU : RightU u) (h : FrGood u f g) : RightF g ∧ g.code.all (callOk u.funcs) = true := by
  have hf := hU.funcs _ _ h.fn
  unfold funcOk at hf
  rw [Bool.and_eq_true, Bool.and_eq_true, rightF_iff] at hf
  exact ⟨hf.1.1, hf.2⟩
theorem went_len (f : Frm) (i : Ins) (v p : Int) : (went f i v p).regs.length = f.regs.length := by
  unfold went
  simp only
  split <;> simp
theorem FrGood.went {u : Uni} {f : Frm} {g : Fnc} {i : Ins} {v p : Int} (hU : RightU u) (h : FrGood u f g) (hi : g.code[f.pos.toNat]? = some i) (hp : p ∈ Cd.next i f.pos) : FrGood u (Cd.went f i v p) g :=
  ⟨h.fn, h.next hU hi hp, by rw [went_len]; exact h.regs, h.base, h.dst⟩
theorem StkOk.went {u : Uni} {f : Frm} {g : Fnc} {i : Ins} {rest : List Frm} {v p : Int} (hU : RightU u) (h : StkOk u (f :: rest)) (hg : FrGood u f g) (hi : g.code[f.pos.toNat]? = some i) (hp : p ∈ Cd.next i f.pos) : StkOk u (Cd.went f i v p :: rest) :=
  ⟨⟨g, hg.went hU hi hp⟩, h.2.1, h.2.2⟩
theorem next_one {i : Ins} (n : Int) (h1 : i.kind ≠ 11) (h2 : i.kind ≠ 12) (h3 : i.kind ≠ 13) : n + 1 ∈ next i n := by
  unfold next
  rw [if_neg h1, if_neg h2, if_neg h3]
  simp
/-- What holds of where a run goes on. -/
def KeepOk (u : Uni) (s : Sta) : Rsu ⊕ Sta → Prop
  | .inl _ => True
  | .inr s' => StkOk u s'.stack ∧ s'.stack ≠ [] ∧ s'.mem.length = s.mem.length
theorem call_of {u : Uni} {g : Fnc} {i : Ins} {k : Nat} {h : Fnc} (hg : RightF g ∧ g.code.all (callOk u.funcs) = true) {q : Nat} (hi : g.code[q]? = some i) (h8 : i.kind = 8) (hk : findN u.funcs i.text = some k) (hh : u.funcs[k]? = some h) :
    h.params = i.n ∧ 0 ≤ i.n ∧ i.n ≤ 6 ∧ -1 ≤ i.dst ∧ i.dst < g.regs ∧ (uses i).length = i.n.toNat := by
  have hr := hg.1.all i (List.mem_of_getElem? hi)
  have hc := all_at hg.2 hi
  unfold callOk at hc
  rw [if_pos h8, hk] at hc
  simp only [hh, decide_eq_true_eq] at hc
  have hn := hr.n
  unfold nOk at hn
  rw [if_neg (by omega), if_neg (by omega), if_pos h8] at hn
  simp only [Bool.and_eq_true, decide_eq_true_eq] at hn
  have hd := hr.dst
  unfold dstOk at hd
  rw [if_pos h8] at hd
  simp only [Bool.and_eq_true, decide_eq_true_eq] at hd
  refine ⟨hc, hn.1.1, hn.1.2, hd.1, hd.2, ?_⟩
  unfold uses readsA readsB
  simp [h8, Ins.args]
  omega
theorem stepI_keeps {u : Uni} (hU : RightU u) {g : Fnc} {i : Ins} {f : Frm} {rest : List Frm} {s : Sta} (h : StkOk u (f :: rest)) (hg : FrGood u f g) (hi : g.code[f.pos.toNat]? = some i) : KeepOk u s (stepI u g i f rest s) := by
  have hR := hg.right hU
  have hk := hR.1.all i (List.mem_of_getElem? hi)
  have hlo := hk.low
  have hhi := hk.high
  have one : ∀ (v : Int), i.kind ≠ 11 → i.kind ≠ 12 → i.kind ≠ 13 → StkOk u (went f i v (f.pos + 1) :: rest) := fun v a b c => h.went hU hg hi (next_one _ a b c)
  unfold stepI
  by_cases h1 : i.kind = 1
  · rw [if_pos h1]; exact ⟨one _ (by omega) (by omega) (by omega), by simp, rfl⟩
  rw [if_neg h1]
  by_cases h2 : i.kind = 2 ∨ i.kind = 3
  · rw [if_pos h2]
    by_cases hb : doB i.op (valB f i) = true
    · rw [if_pos hb]; exact ⟨one _ (by omega) (by omega) (by omega), by simp, rfl⟩
    · rw [if_neg hb]; trivial
  rw [if_neg h2]
  by_cases h4 : i.kind = 4
  · rw [if_pos h4]; exact ⟨one _ (by omega) (by omega) (by omega), by simp, rfl⟩
  rw [if_neg h4]
  by_cases h5 : i.kind = 5
  · rw [if_pos h5]; exact ⟨one _ (by omega) (by omega) (by omega), by simp, rfl⟩
  rw [if_neg h5]
  by_cases h6 : i.kind = 6 ∨ i.kind = 7
  · rw [if_pos h6]
    by_cases ha : 1 ≤ addr f i ∧ addr f i < 4096
    · rw [if_pos ha]
      by_cases hl : i.kind = 6
      · rw [if_pos hl]; exact ⟨one _ (by omega) (by omega) (by omega), by simp, rfl⟩
      · rw [if_neg hl]; exact ⟨one _ (by omega) (by omega) (by omega), by simp, by simp⟩
    · rw [if_neg ha]; trivial
  rw [if_neg h6]
  by_cases h8 : i.kind = 8
  · rw [if_pos h8]
    cases hk : findN u.funcs i.text with
    | none => trivial
    | some k =>
      simp only
      cases hh : u.funcs[k]? with
      | none => trivial
      | some h' =>
        simp only
        by_cases hb : f.base + g.frame + h'.frame > 4096
        · rw [if_pos hb]; trivial
        · rw [if_neg hb]
          obtain ⟨hp, hn, hn6, hd, hdr, hlen⟩ := call_of hR hi h8 hk hh
          have hf' := hU.funcs _ _ hh
          unfold funcOk at hf'
          rw [Bool.and_eq_true, Bool.and_eq_true, rightF_iff] at hf'
          have hF := hf'.1.1
          have h0 := hF.params
          have hr := hF.regs
          have hfr := hR.1.frame
          have hcode := hF.code
          have hfb := hg.base
          have hfrg := hg.regs
          refine ⟨⟨⟨h', hh, ⟨Int.le_refl _, by show (0:Int) < (h'.code.length : Int); omega⟩, ?_, ⟨by show 0 ≤ f.base + g.frame; omega, by show f.base + g.frame + h'.frame ≤ 4096; omega⟩, hd⟩, ?_, ?_⟩, by simp, rfl⟩
          · simp only [List.length_append, List.length_map, List.length_replicate, hlen]
            omega
          · intro p hp2
            have : ({ f with pos := f.pos + 1 } : Frm) = p := by simpa using hp2
            subst this
            show i.dst < (f.regs.length : Int)
            omega
          · exact ⟨⟨g, hg.fn, hg.next hU hi (next_one _ (by omega) (by omega) (by omega)), hg.regs, hg.base, hg.dst⟩, h.2.1, h.2.2⟩
  rw [if_neg h8]
  by_cases h9 : i.kind = 9
  · rw [if_pos h9]
    cases s.inp <;> exact ⟨one _ (by omega) (by omega) (by omega), by simp, rfl⟩
  rw [if_neg h9]
  by_cases h10 : i.kind = 10
  · rw [if_pos h10]; exact ⟨one _ (by omega) (by omega) (by omega), by simp, rfl⟩
  rw [if_neg h10]
  by_cases h11 : i.kind = 11
  · rw [if_pos h11]; exact ⟨h.went hU hg hi (by unfold next; rw [if_pos h11]; simp), by simp, rfl⟩
  rw [if_neg h11]
  by_cases h12 : i.kind = 12
  · rw [if_pos h12]
    refine ⟨h.went hU hg hi ?_, by simp, rfl⟩
    unfold next
    rw [if_neg h11, if_pos h12]
    split <;> simp
  rw [if_neg h12]
  cases rest with
  | nil => trivial
  | cons p ps =>
    obtain ⟨_, hch, ⟨gp, hgp⟩, hch2, hps⟩ := h
    refine ⟨?_, by simp, rfl⟩
    show StkOk u ((if 0 ≤ f.dst then { p with regs := p.regs.set f.dst.toNat (reg f i.a) } else p) :: ps)
    split
    · exact ⟨⟨gp, hgp.fn, hgp.pos, by rw [List.length_set]; exact hgp.regs, hgp.base, hgp.dst⟩, hch2, hps⟩
    · exact ⟨⟨gp, hgp⟩, hch2, hps⟩
theorem step_keeps {u : Uni} (hU : RightU u) {s s' : Sta} (h : StkOk u s.stack) (hs : Cd.step u s = .inr s') : StkOk u s'.stack ∧ s'.stack ≠ [] ∧ s'.mem.length = s.mem.length := by
  unfold Cd.step at hs
  cases hst : s.stack with
  | nil => rw [hst] at hs; simp at hs
  | cons f rest =>
    rw [hst] at hs h
    obtain ⟨g, hg⟩ := h.1
    obtain ⟨i, hi⟩ := hg.at
    simp only [hg.fn, hi] at hs
    have := stepI_keeps (s := s) hU h hg hi
    rw [hs] at this
    exact this
/-- The innermost call has a function and an instruction: so does a step. -/
theorem step_at {u : Uni} {s : Sta} {f : Frm} {rest : List Frm} {g : Fnc} {i : Ins} (hs : s.stack = f :: rest) (hg : FrGood u f g) (hi : g.code[f.pos.toNat]? = some i) : Cd.step u s = stepI u g i f rest s := by
  unfold Cd.step
  rw [hs]
  simp only [hg.fn, hi]
/-- A run's first calls. -/
theorem StkOk.first {u : Uni} (hU : RightU u) {m : Nat} {g : Fnc} (hm : u.funcs[m]? = some g) (ht : ¬ u.top + g.frame > 4096) : StkOk u [⟨m, u.top, 0, -1, List.replicate g.regs.toNat 0⟩] := by
  have hf := hU.funcs _ _ hm
  unfold funcOk at hf
  rw [Bool.and_eq_true, Bool.and_eq_true, rightF_iff] at hf
  have hF := hf.1.1
  have h0 := hF.params
  have hr := hF.regs
  have hcode := hF.code
  have htop := hU.top
  refine ⟨⟨g, hm, ⟨Int.le_refl _, by show (0:Int) < (g.code.length : Int); omega⟩, ?_, ⟨by show 0 ≤ u.top; omega, by show u.top + g.frame ≤ 4096; omega⟩, Int.le_refl _⟩, by simp, trivial⟩
  simp only [List.length_replicate]
  omega
theorem mem0_len (u : Uni) : (mem0 u).length = 4096 := by
  have h : ∀ (gs : List Glo) (m : List Int), (memOf gs m).length = m.length := by
    intro gs
    induction gs with
    | nil => intro m; rfl
    | cons g gs ih => intro m; unfold memOf; rw [ih]; split <;> simp
  unfold mem0
  rw [h, List.length_replicate]
end Go.Proofs.Ytmcpfjhdeplgmaa
