/-
  Layer 7, the program's small functions: within, sets, readsA, readsB, Plain, Sets, the closures that need.
-/
import Derived.Test.YtgnpbodhjmappaaPNB
import Derived.Lib.QuietBelow
import Derived.Deep.RegionWith
import Derived.Test.YtgnpbodhjmappaaPLast
import Derived.Test.YtgnpbodhjmappaaPLB
import Derived.Deep.RegionHeld3
set_option linter.unusedVariables false
set_option linter.unusedSimpArgs false
namespace Go.Proofs.Ytgnpbodhjmappaa
set_option maxRecDepth 100000
open Go.RowKit Cd
def inB (n lo hi : Int) : Bool := decide (lo ≤ n) && decide (n ≤ hi)
theorem within_any (n lo hi : Int) (w : World) : Calls Try.prog 56 #[.int .i64 n, .int .i64 lo, .int .i64 hi] w fun e w' => e = .returned (.bool (inB n lo hi)) ∧ w = w' := by
  unfold inB
  by_cases h1 : lo ≤ n
  · have t1 : decide (lo ≤ n) = true := by simpa using h1
    rw [t1]
    by_cases h2 : n ≤ hi
    · have t2 : decide (n ≤ hi) = true := by simpa using h2
      rw [t2]
      go_enter Try.func56, Try.ntmps56
      go_wp2
      go_ret
      exact ⟨rfl, rfl⟩
    · have t2 : decide (n ≤ hi) = false := by simpa using h2
      rw [t2]
      go_enter Try.func56, Try.ntmps56
      go_wp2
      go_ret
      exact ⟨rfl, rfl⟩
  · have t1 : decide (lo ≤ n) = false := by simpa using h1
    rw [t1]
    go_enter Try.func56, Try.ntmps56
    go_wp2
    go_ret
    exact ⟨rfl, rfl⟩
theorem within_v (n lo hi : Int) (b : Bool) (h : inB n lo hi = b) (w : World) : Calls Try.prog 56 #[.int .i64 n, .int .i64 lo, .int .i64 hi] w fun e w' => e = .returned (.bool b) ∧ w = w' := h ▸ within_any n lo hi w
def setsB (k : Int) : Bool := inB k 1 6 || k == 8 || k == 9
theorem csets_any (k : Int) (w : World) : Calls Try.prog 83 #[.int .i64 k] w fun e w' => e = .returned (.bool (setsB k)) ∧ w = w' := by
  by_cases h1 : 1 ≤ k ∧ k ≤ 6
  · obtain ⟨h1, h2⟩ := h1
    have t1 : decide ((1 : Int) ≤ k) = true := by simpa using h1
    have t2 : decide (k ≤ (6 : Int)) = true := by simpa using h2
    have e : setsB k = true := by unfold setsB inB; rw [t1, t2]; rfl
    rw [e]; clear e
    go_enter Try.func83, Try.ntmps83
    go_wp2
    go_ret
    exact ⟨rfl, rfl⟩
  · have e0 : inB k 1 6 = false := by unfold inB; simp; omega
    by_cases h8 : k = 8
    · subst h8
      go_enter Try.func83, Try.ntmps83
      go_wp2
      go_ret
      exact ⟨rfl, rfl⟩
    · by_cases h9 : k = 9
      · subst h9
        go_enter Try.func83, Try.ntmps83
        go_wp2
        go_ret
        exact ⟨rfl, rfl⟩
      · have t8 : (k == (8 : Int)) = false := by simpa using h8
        have t9 : (k == (9 : Int)) = false := by simpa using h9
        have e : setsB k = false := by unfold setsB; rw [e0, t8, t9]; rfl
        rw [e]; clear e e0
        by_cases h2 : 1 ≤ k
        · have t1 : decide ((1 : Int) ≤ k) = true := by simpa using h2
          have t2 : decide (k ≤ (6 : Int)) = false := by simp; omega
          clear h1 h2 h8 h9
          go_enter Try.func83, Try.ntmps83
          go_wp2
          go_ret
          exact ⟨rfl, rfl⟩
        · have t1 : decide ((1 : Int) ≤ k) = false := by simpa using h2
          clear h1 h2 h8 h9
          go_enter Try.func83, Try.ntmps83
          go_wp2
          go_ret
          exact ⟨rfl, rfl⟩
theorem creadsA_any (k : Int) (w : World) : Calls Try.prog 84 #[.int .i64 k] w fun e w' => e = .returned (.bool (Cd.readsA k)) ∧ w = w' := by
  by_cases h : k = 2 ∨ k = 3 ∨ k = 4 ∨ k = 6 ∨ k = 7 ∨ k = 10 ∨ k = 12 ∨ k = 13
  · rcases h with rfl | rfl | rfl | rfl | rfl | rfl | rfl | rfl
    all_goals
      go_enter Try.func84, Try.ntmps84
      go_wp2
      go_ret
      exact ⟨rfl, rfl⟩
  · simp only [not_or] at h
    obtain ⟨h2, h3, h4, h6, h7, h10, h12, h13⟩ := h
    have t2 : (k == (2 : Int)) = false := by simpa using h2
    have t3 : (k == (3 : Int)) = false := by simpa using h3
    have t4 : (k == (4 : Int)) = false := by simpa using h4
    have t6 : (k == (6 : Int)) = false := by simpa using h6
    have t7 : (k == (7 : Int)) = false := by simpa using h7
    have t10 : (k == (10 : Int)) = false := by simpa using h10
    have t12 : (k == (12 : Int)) = false := by simpa using h12
    have t13 : (k == (13 : Int)) = false := by simpa using h13
    have e : Cd.readsA k = false := by unfold Cd.readsA; rw [t2, t3, t4, t6, t7, t10, t12, t13]; rfl
    rw [e]; clear e h2 h3 h4 h6 h7 h10 h12 h13
    go_enter Try.func84, Try.ntmps84
    go_wp2
    go_ret
    exact ⟨rfl, rfl⟩
theorem creadsB_any (k : Int) (w : World) : Calls Try.prog 85 #[.int .i64 k] w fun e w' => e = .returned (.bool (Cd.readsB k)) ∧ w = w' := by
  by_cases h3 : k = 3
  · subst h3
    go_enter Try.func85, Try.ntmps85
    go_wp2
    go_ret
    exact ⟨rfl, rfl⟩
  · by_cases h7 : k = 7
    · subst h7
      go_enter Try.func85, Try.ntmps85
      go_wp2
      go_ret
      exact ⟨rfl, rfl⟩
    · have t3 : (k == (3 : Int)) = false := by simpa using h3
      have t7 : (k == (7 : Int)) = false := by simpa using h7
      have e : Cd.readsB k = false := by unfold Cd.readsB; rw [t3, t7]; rfl
      rw [e]; clear e h3 h7
      go_enter Try.func85, Try.ntmps85
      go_wp2
      go_ret
      exact ⟨rfl, rfl⟩
def plainI (k : Int) : Ins := ⟨k, 0, -1, 0, 0, 0, [], 0, 0, 0, 0, 0, 0, 0, -1⟩
theorem cplain_any (k : Int) (w : World) : Calls Try.prog 32 #[.int .i64 k] w (RPost (inV (plainI k)) w) := by
  go_enter Try.func32, Try.ntmps32
  go_wp2
  refine bodyPost_ret (v := inV (plainI k)) (by simp [results, Try.results32, go_sem] <;> simp [plainI]) rfl ⟨rfl, ?_⟩
  repeat (first | exact (Below.refl _ _).alloc (Nat.le_refl _) _ | refine Below.setCell ?_ (Nat.le_refl _) _)
/-! ### What is needed: one variable -/
abbrev bxB (b : Bool) : Obj := .cells #[.bool b] 4
structure Nd (z : Nat) (b : Bool) (w w' : World) : Prop where
  below : Below z w w'
  kept : ∀ j, j < w.heap.size → j ≠ z → w'.heap[j]? = w.heap[j]?
  cell : w'.heap[z]? = some (bxB b)
theorem Nd.trans {z : Nat} {b b' : Bool} {w w' w'' : World} (h : Nd z b w w') (h' : Nd z b' w' w'') : Nd z b' w w'' :=
  ⟨h.below.trans h'.below, fun j hj hn => (h'.kept j (Nat.lt_of_lt_of_le hj h.below.size) hn).trans (h.kept j hj hn), h'.cell⟩
theorem Nd.refl {z : Nat} {b : Bool} {w : World} (h : w.heap[z]? = some (bxB b)) : Nd z b w w := ⟨Below.refl _ _, fun _ _ _ => rfl, h⟩
theorem Nd.drew {z : Nat} {b : Bool} {w w' : World} (h : Nd z b w w') : Nd z b w w'.drew := ⟨h.below.drew, h.kept, h.cell⟩
theorem Nd.drN {z : Nat} {b : Bool} {w w' : World} (h : Nd z b w w') (n : Nat) : Nd z b w (w'.drewN n) := ⟨Go.Proofs.Ytgnpbodhjmappaa.drN h.below n, h.kept, h.cell⟩
theorem Nd.more {z : Nat} {b : Bool} {w w' w'' : World} (h : Nd z b w w') (hb : Below w'.heap.size w' w'') : Nd z b w w'' := by
  have hz := lt_heap h.cell
  exact ⟨h.below.trans (hb.mono (Nat.le_of_lt hz)), fun j hj hn => (hb.block j (Nat.lt_of_lt_of_le hj h.below.size)).trans (h.kept j hj hn), (hb.block z hz).trans h.cell⟩
theorem Nd.ahead {z : Nat} {b : Bool} {w w' w'' : World} (hb : Below w.heap.size w w') (hz : z < w.heap.size) (h : Nd z b w' w'') : Nd z b w w'' :=
  ⟨(hb.mono (Nat.le_of_lt hz)).trans h.below, fun j hj hn => (h.kept j (Nat.lt_of_lt_of_le hj hb.size) hn).trans (hb.block j hj), h.cell⟩
theorem Nd.put {z : Nat} {b : Bool} {w : World} (h : w.heap[z]? = some (bxB b)) (b' : Bool) : Nd z b' w (w.setCell ⟨z, 0, none⟩ (.bool b')) :=
  ⟨(Below.refl z w).setCell (p := ⟨z, 0, none⟩) (Nat.le_refl _) _, fun j _ hn => Below.heap_setCell _ _ _ _ (by simpa using hn), by rw [cells_set h]; simp⟩
theorem heap_other7 {w : World} {b j k : Nat} {u : Value} (h : k ≠ b) : (w.setCell ⟨b, j, none⟩ u).heap[k]? = w.heap[k]? := Below.heap_setCell _ _ _ _ (by simpa using h)
theorem boxB_cell {w : World} {z : Nat} {b : Bool} (h : w.heap[z]? = some (bxB b)) : w.cell? ⟨z, 0, none⟩ = some (.bool b) ∧ w.frozen? ⟨z, 0, none⟩ = false :=
  ⟨by rw [cell_of_row w z 0 _ _ _ h]; rfl, by simp [World.frozen?, h]⟩
theorem need1_any (z : Nat) (R b : Bool) (w : World) (hz : w.heap[z]? = some (bxB R)) : Calls Try.prog 55 #[.bool b, .pointer (some ⟨z, 0, none⟩)] w fun e w' => e = .returned (.tuple #[]) ∧ Nd z (R && b) w w' := by
  obtain ⟨c0, f0⟩ := boxB_cell hz
  have HZ := Lib.hid hz; clear hz
  cases R
  · go_enter Try.func55, Try.ntmps55
    go_wp2
    go_end0
    exact ⟨rfl, Nd.put HZ.out _⟩
  · go_enter Try.func55, Try.ntmps55
    go_wp2
    go_end0
    exact ⟨rfl, Nd.put HZ.out _⟩
end Go.Proofs.Ytgnpbodhjmappaa
namespace Go.Proofs.Ytgnpbodhjmappaa
set_option maxRecDepth 100000
open Go.RowKit Cd
abbrev needV (z : Nat) : Value := .func (.func 55) #[] #[.pointer (some ⟨z, 0, none⟩)]
abbrev needO (z : Nat) : Obj := .cells #[needV z] 84
theorem nv1 {w : World} {b : Nat} {x : Value} {t : TypeId} (h : w.heap[b]? = some (.cells #[x] t (0, 0))) : w.cell? ⟨b, 0, none⟩ = some x ∧ w.frozen? ⟨b, 0, none⟩ = false :=
  ⟨by rw [cell_of_row w b 0 _ _ _ h]; rfl, by simp [World.frozen?, h]⟩
theorem inB_reg (n r : Int) : inB n 0 (r - 1) = regOk r n := by
  unfold inB regOk
  congr 1
  simp only [decide_eq_decide]
  omega
set_option maxHeartbeats 1000000 in
theorem register_any (n : Int) (bn z bf : Nat) (R : Bool) (f : FnR) (hr : 0 ≤ f.f.regs ∧ f.f.regs ≤ 4096) (w : World) (hz : w.heap[z]? = some (bxB R)) (hn : w.heap[bn]? = some (needO z)) (hf : w.heap[bf]? = some (fnO f)) :
    Calls Try.prog 81 #[.int .i64 n, .pointer (some ⟨bn, 0, none⟩), .pointer (some ⟨bf, 0, none⟩)] w fun e w' => e = .returned (.int .i64 n) ∧ Nd z (R && regOk f.f.regs n) w w' := by
  obtain ⟨hr0, hr1⟩ := hr
  obtain ⟨c0, _⟩ := nv1 hn
  obtain ⟨_, _, c2, _, _⟩ := nv5 hf
  have HZ := Lib.hid hz; have HZ2 : Hid (w.drew.heap[z]? = some (bxB R)) := Lib.hid hz; clear hz hn hf
  have e := inB_reg n f.f.regs
  have hw : IntKind.i64.wrap (f.f.regs - 1) = f.f.regs - 1 := by rw [IntKind.wrap_i64]; omega
  go_enter Try.func81, Try.ntmps81
  go_wp2
  go_region_with (first | ((with_reducible refine (within_v _ _ _ _ e _).mono ?_); rintro e2 w2 ⟨rfl, rfl⟩) | ((with_reducible refine (need1_any z R _ _ HZ2.out).mono ?_); rintro e3 w3 ⟨rfl, HN⟩))
  all_goals go_wp2
  all_goals go_ret
  all_goals exact ⟨rfl, Nd.ahead ((Below.refl _ w).drew) (lt_heap HZ.out) HN⟩
set_option maxHeartbeats 1000000 in
theorem target_any (n : Int) (bn z bf : Nat) (R : Bool) (f : FnR) (hr : f.f.code.length ≤ 1000000) (w : World) (hz : w.heap[z]? = some (bxB R)) (hn : w.heap[bn]? = some (needO z)) (hf : w.heap[bf]? = some (fnO f)) :
    Calls Try.prog 82 #[.int .i64 n, .pointer (some ⟨bn, 0, none⟩), .pointer (some ⟨bf, 0, none⟩)] w fun e w' => e = .returned (.int .i64 n) ∧ Nd z (R && regOk f.f.code.length n) w w' := by
  obtain ⟨c0, _⟩ := nv1 hn
  obtain ⟨_, _, _, _, c4⟩ := nv5 hf
  have HZ := Lib.hid hz; have HZ2 : Hid (w.drew.heap[z]? = some (bxB R)) := Lib.hid hz; clear hz hn hf
  have e := inB_reg n f.f.code.length
  have hw : IntKind.i64.wrap ((f.f.code.length : Int) - 1) = (f.f.code.length : Int) - 1 := by rw [IntKind.wrap_i64]; omega
  go_enter Try.func82, Try.ntmps82
  go_wp2
  go_region_with (first | ((with_reducible refine (within_v _ _ _ _ e _).mono ?_); rintro e2 w2 ⟨rfl, rfl⟩) | ((with_reducible refine (need1_any z R _ _ HZ2.out).mono ?_); rintro e3 w3 ⟨rfl, HN⟩))
  all_goals go_wp2
  all_goals go_ret
  all_goals exact ⟨rfl, Nd.ahead ((Below.refl _ w).drew) (lt_heap HZ.out) HN⟩
end Go.Proofs.Ytgnpbodhjmappaa
namespace Go.Proofs.Ytgnpbodhjmappaa
open Go.RowKit Cd
theorem Nd.other {z : Nat} {b : Bool} {w w' : World} (h : Nd z b w w') {b6 : Nat} (j : Nat) (u : Value) (hb : w.heap.size ≤ b6) (hn : b6 ≠ z) (hz : z < b6) : Nd z b w (w'.setCell ⟨b6, j, none⟩ u) :=
  ⟨h.below.setCell (show z ≤ b6 by omega) _, fun k hk hz => (heap_other7 (by omega)).trans (h.kept k hk hz), (heap_other7 (Ne.symm hn)).trans h.cell⟩
structure InSt (w0 w : World) (z bn bf b6 cb co : Nat) (i o : Ins) (f : FnR) (R : Bool) : Prop where
  nd : Nd z R w0 w
  hn : w.heap[bn]? = some (needO z)
  hf : w.heap[bf]? = some (fnO f)
  h6 : w.heap[b6]? = some (inO o)
  hi : ∀ (j : Nat) (u : Value), (inCells i)[j]? = some u → w.cell? ⟨cb, co + j, none⟩ = some u
  hcb : cb < w0.heap.size
  hz : z < w0.heap.size
  ne : z ≠ cb
  lb : w0.heap.size ≤ bn ∧ w0.heap.size ≤ bf ∧ w0.heap.size ≤ b6
  ne6 : bn ≠ b6 ∧ bf ≠ b6
variable {w0 w w' : World} {z bn bf b6 cb co : Nat} {i o o' : Ins} {f : FnR} {R R' : Bool}
theorem cell_blk {w w' : World} {b : Nat} (h : w'.heap[b]? = w.heap[b]?) (j : Nat) : w'.cell? ⟨b, j, none⟩ = w.cell? ⟨b, j, none⟩ := by
  unfold World.cell?
  simp only [h]
theorem InSt.need (h : InSt w0 w z bn bf b6 cb co i o f R) (hd : Nd z R' w w') : InSt w0 w' z bn bf b6 cb co i o f R' := by
  have h1 := h.lb; have h2 := h.hz; have h3 := h.hcb; have h4 := h.ne
  have hs := h.nd.below.size
  exact ⟨h.nd.trans hd, (hd.kept bn (lt_heap h.hn) (by omega)).trans h.hn, (hd.kept bf (lt_heap h.hf) (by omega)).trans h.hf, (hd.kept b6 (lt_heap h.h6) (by omega)).trans h.h6,
    fun j u hu => (cell_blk (hd.kept cb (by omega) (Ne.symm h4)) _).trans (h.hi j u hu), h.hcb, h.hz, h.ne, h.lb, h.ne6⟩
theorem InSt.drew (h : InSt w0 w z bn bf b6 cb co i o f R) : InSt w0 w.drew z bn bf b6 cb co i o f R := ⟨h.nd.drew, h.hn, h.hf, h.h6, h.hi, h.hcb, h.hz, h.ne, h.lb, h.ne6⟩
theorem InSt.put (h : InSt w0 w z bn bf b6 cb co i o f R) (j : Nat) (u : Value) (ho : (#[Value.int .i64 o.kind, Value.int .i64 o.op, Value.int .i64 o.dst, Value.int .i64 o.a, Value.int .i64 o.b, Value.int .i64 o.n, Value.string (sb o.text), Value.int .i64 o.x0, Value.int .i64 o.x1, Value.int .i64 o.x2, Value.int .i64 o.x3, Value.int .i64 o.x4, Value.int .i64 o.x5, Value.int .i64 o.dest, Value.int .i64 o.els] : Array Value).setIfInBounds j u = #[Value.int .i64 o'.kind, Value.int .i64 o'.op, Value.int .i64 o'.dst, Value.int .i64 o'.a, Value.int .i64 o'.b, Value.int .i64 o'.n, Value.string (sb o'.text), Value.int .i64 o'.x0, Value.int .i64 o'.x1, Value.int .i64 o'.x2, Value.int .i64 o'.x3, Value.int .i64 o'.x4, Value.int .i64 o'.x5, Value.int .i64 o'.dest, Value.int .i64 o'.els]) :
    InSt w0 (w.setCell ⟨b6, j, none⟩ u) z bn bf b6 cb co i o' f R := by
  have h1 := h.lb; have h2 := h.hz; have h3 := h.hcb; have h4 := h.ne6
  exact ⟨h.nd.other j u h1.2.2 (by omega) (by omega), (heap_other7 h4.1).trans h.hn, (heap_other7 h4.2).trans h.hf, by rw [cells_set h.h6, ho],
    fun k v hv => (cell_blk (heap_other7 (by omega)) _).trans (h.hi k v hv), h.hcb, h.hz, h.ne, h.lb, h.ne6⟩
theorem InSt.told (h : InSt w0 w z bn bf b6 cb co i o f R) : w.heap[z]? = some (bxB R) := h.nd.cell
theorem InSt.cells (h : InSt w0 w z bn bf b6 cb co i o f R) :
    w.cell? ⟨cb, co, none⟩ = some (.int .i64 i.kind) ∧ w.cell? ⟨cb, co + 1, none⟩ = some (.int .i64 i.op) ∧ w.cell? ⟨cb, co + 2, none⟩ = some (.int .i64 i.dst) ∧ w.cell? ⟨cb, co + 3, none⟩ = some (.int .i64 i.a) ∧ w.cell? ⟨cb, co + 4, none⟩ = some (.int .i64 i.b) ∧
    w.cell? ⟨cb, co + 5, none⟩ = some (.int .i64 i.n) ∧ w.cell? ⟨cb, co + 6, none⟩ = some (.string (sb i.text)) ∧ w.cell? ⟨cb, co + 7, none⟩ = some (.int .i64 i.x0) ∧ w.cell? ⟨cb, co + 8, none⟩ = some (.int .i64 i.x1) ∧ w.cell? ⟨cb, co + 9, none⟩ = some (.int .i64 i.x2) ∧
    w.cell? ⟨cb, co + 10, none⟩ = some (.int .i64 i.x3) ∧ w.cell? ⟨cb, co + 11, none⟩ = some (.int .i64 i.x4) ∧ w.cell? ⟨cb, co + 12, none⟩ = some (.int .i64 i.x5) ∧ w.cell? ⟨cb, co + 13, none⟩ = some (.int .i64 i.dest) ∧ w.cell? ⟨cb, co + 14, none⟩ = some (.int .i64 i.els) :=
  ⟨h.hi 0 _ rfl, h.hi 1 _ rfl, h.hi 2 _ rfl, h.hi 3 _ rfl, h.hi 4 _ rfl, h.hi 5 _ rfl, h.hi 6 _ rfl, h.hi 7 _ rfl, h.hi 8 _ rfl, h.hi 9 _ rfl, h.hi 10 _ rfl, h.hi 11 _ rfl, h.hi 12 _ rfl, h.hi 13 _ rfl, h.hi 14 _ rfl⟩
theorem InSt.side (h : InSt w0 w z bn bf b6 cb co i o f R) :
    w.cell? ⟨bn, 0, none⟩ = some (needV z) ∧ w.cell? ⟨bf, 3, none⟩ = some (.int .i64 f.f.frame) ∧ (∀ j, w.frozen? ⟨b6, j, none⟩ = false) := by
  obtain ⟨_, _, _, c3, _⟩ := nv5 h.hf
  exact ⟨(nv1 h.hn).1, c3, fun j => by simp [World.frozen?, h.h6]⟩
theorem InSt.apart (h : InSt w0 w z bn bf b6 cb co i o f R) : ¬ cb = b6 ∧ ¬ b6 = cb ∧ ¬ bn = b6 ∧ ¬ b6 = bn ∧ ¬ bf = b6 ∧ ¬ b6 = bf := by
  have h1 := h.lb; have h2 := h.hz; have h3 := h.hcb; have h4 := h.ne6
  omega
theorem inSt_first {w v1 : World} {z cb co : Nat} {i : Ins} {r : FnR} {R : Bool} (hz : w.heap[z]? = some (bxB R)) (hi : ∀ (j : Nat) (u : Value), (inCells i)[j]? = some u → w.cell? ⟨cb, co + j, none⟩ = some u) (hcb : cb < w.heap.size) (hne : z ≠ cb)
    (hb : Below ((w.alloc (fnO r)).alloc (needO z)).heap.size ((w.alloc (fnO r)).alloc (needO z)) v1) : InSt w (v1.alloc (inO (plainI i.kind))) z (w.heap.size + 1) w.heap.size v1.heap.size cb co i (plainI i.kind) r R := by
  have hs := hb.size
  have hzl := lt_heap hz
  simp only [World.size_alloc] at hs
  have b1 : Below w.heap.size w ((w.alloc (fnO r)).alloc (needO z)) := ((Below.refl _ w).alloc (Nat.le_refl _) _).alloc (by simp) _
  have b2 : Below w.heap.size w v1 := b1.trans (hb.mono (by simp <;> omega))
  have b3 : Below w.heap.size w (v1.alloc (inO (plainI i.kind))) := b2.alloc (by omega) _
  have e1 := heap_alloc_new (w.alloc (fnO r)) (needO z)
  rw [World.size_alloc] at e1
  refine ⟨⟨b3.mono (Nat.le_of_lt hzl), fun j hj _ => b3.block j hj, (b3.block z hzl).trans hz⟩, ?_, ?_, heap_alloc_new v1 _, fun j u hu => (cell_blk (b3.block cb hcb) _).trans (hi j u hu), hcb, hzl, hne, ⟨by omega, Nat.le_refl _, by omega⟩, ⟨by omega, by omega⟩⟩
  · exact (Below.heap_alloc _ _ _ (by omega)).trans ((hb.block _ (by simp)).trans e1)
  · exact (Below.heap_alloc _ _ _ (by omega)).trans ((hb.block _ (by simp <;> omega)).trans ((Below.heap_alloc _ _ _ (by simp)).trans (heap_alloc_new w _)))
def InPost (z : Nat) (R : Bool) (w : World) (e : Ending) (w' : World) : Prop := e = .returned (.tuple #[]) ∧ Nd z R w w'
theorem csets_v (k : Int) (b : Bool) (h : setsB k = b) (w : World) : Calls Try.prog 83 #[.int .i64 k] w fun e w' => e = .returned (.bool b) ∧ w = w' := h ▸ csets_any k w
theorem creadsA_v (k : Int) (b : Bool) (h : Cd.readsA k = b) (w : World) : Calls Try.prog 84 #[.int .i64 k] w fun e w' => e = .returned (.bool b) ∧ w = w' := h ▸ creadsA_any k w
theorem creadsB_v (k : Int) (b : Bool) (h : Cd.readsB k = b) (w : World) : Calls Try.prog 85 #[.int .i64 k] w fun e w' => e = .returned (.bool b) ∧ w = w' := h ▸ creadsB_any k w
theorem wis_v (n : Int) (b : Bool) (h : isW n = b) (w : World) : Calls Try.prog 72 #[.int .i64 n] w fun e w' => e = .returned (.bool b) ∧ w = w' := by
  have e : (wrap32 n == n) = b := by
    rw [← h]; unfold isW
    by_cases hn : wrap32 n = n
    · have := wrap32_bd n
      rw [hn] at this
      simp [hn]; omega
    · rw [Bool.eq_iff_iff]
      simp [hn]
      unfold RowKit.wrap32 at hn
      omega
  exact e ▸ is_any n w
theorem wone_v (op : Int) (b : Bool) (h : oneB op = b) (w : World) : Calls Try.prog 79 #[.int .i64 op] w fun e w' => e = .returned (.bool b) ∧ w = w' := h ▸ one_any op w
theorem wtwo_v (op : Int) (b : Bool) (h : twoB op = b) (w : World) : Calls Try.prog 80 #[.int .i64 op] w fun e w' => e = .returned (.bool b) ∧ w = w' := h ▸ two_any op w
end Go.Proofs.Ytgnpbodhjmappaa
namespace Go.Proofs.Ytgnpbodhjmappaa
set_option maxRecDepth 100000
open Go.RowKit Cd
def argN (n : Int) : Nat := if n < 0 then 0 else if 6 < n then 6 else n.toNat
theorem arguments_8 (n : Int) (cb co : Nat) (w : World) (c0 : w.cell? ⟨cb, co, none⟩ = some (.int .i64 8)) (c5 : w.cell? ⟨cb, co + 5, none⟩ = some (.int .i64 n)) :
    Calls Try.prog 86 #[.pointer (some ⟨cb, co, none⟩)] w fun e w' => e = .returned (.slice (some ⟨cb, co + 7, none⟩) (argN n) 6) ∧ w' = w.drew := by
  unfold argN
  by_cases h1 : n < 0
  · rw [if_pos h1]
    go_enter Try.func86, Try.ntmps86
    go_wp2
    go_region_held3 (fun w' => w'.cell? ⟨cb, co, none⟩ = some (.int .i64 8) ∧ w'.cell? ⟨cb, co + 5, none⟩ = some (.int .i64 n)) (go_keep) (fail)
    all_goals go_wp2
    all_goals go_ret
    all_goals exact ⟨rfl, rfl⟩
  rw [if_neg h1]
  by_cases h2 : 6 < n
  · rw [if_pos h2]
    have g1 : (0 : Int) ≤ n := by omega
    have e1 : (n < (0 : Int)) = False := eq_false h1
    have e3 : ((0 : Int) > n) = False := eq_false h1
    have e2 : ((6 : Int) < n) = True := eq_true h2
    have hmax : ∀ ts t W, (Builtin.max_ ts t #[.int .i64 n, .int .i64 0]).run Try.prog W = .ok (.int .i64 n) W := fun ts t W => by rw [run_max_int2, if_neg h1]
    have hmin : ∀ ts t W, (Builtin.min_ ts t #[.int .i64 n, .int .i64 6]).run Try.prog W = .ok (.int .i64 6) W := fun ts t W => by rw [run_min_int2, if_pos h2]
    go_enter Try.func86, Try.ntmps86
    go_wp2
    go_region_held3 (fun w' => w'.cell? ⟨cb, co, none⟩ = some (.int .i64 8) ∧ w'.cell? ⟨cb, co + 5, none⟩ = some (.int .i64 n)) (go_keep) (fail)
    all_goals go_wp2
    all_goals go_ret
    all_goals exact ⟨rfl, rfl⟩
  rw [if_neg h2]
  obtain ⟨m, rfl⟩ : ∃ m : Nat, n = m := ⟨n.toNat, by omega⟩
  have p0 : (0 : Int) ≤ (m : Int) := Int.natCast_nonneg _
  have p1 : (m : Int) ≤ 6 := by omega
  have hmax : ∀ ts t W, (Builtin.max_ ts t #[.int .i64 m, .int .i64 0]).run Try.prog W = .ok (.int .i64 m) W := fun ts t W => by rw [run_max_int2, if_neg h1]
  have hmin : ∀ ts t W, (Builtin.min_ ts t #[.int .i64 m, .int .i64 6]).run Try.prog W = .ok (.int .i64 m) W := fun ts t W => by rw [run_min_int2, if_neg h2]
  go_enter Try.func86, Try.ntmps86
  go_wp2
  go_region_held3 (fun w' => w'.cell? ⟨cb, co, none⟩ = some (.int .i64 8) ∧ w'.cell? ⟨cb, co + 5, none⟩ = some (.int .i64 m)) (go_keep) (fail)
  all_goals go_wp2
  all_goals go_ret
  all_goals exact ⟨rfl, rfl⟩
variable {w0 w : World} {z bn bf b6 cb co : Nat} {i : Ins} {r : FnR} {R : Bool}
theorem InSt.arg {o : Ins} (h : InSt w0 w z bn bf b6 cb co i o r R) {k : Nat} (hk : k < 6) : w.cell? ⟨cb, co + 7 + k, none⟩ = some (.int .i64 ([i.x0, i.x1, i.x2, i.x3, i.x4, i.x5].getD k 0)) := by
  have := h.hi (7 + k) (.int .i64 ([i.x0, i.x1, i.x2, i.x3, i.x4, i.x5].getD k 0)) (by
    match k, hk with
    | 0, _ => rfl
    | 1, _ => rfl
    | 2, _ => rfl
    | 3, _ => rfl
    | 4, _ => rfl
    | 5, _ => rfl)
  rwa [← Nat.add_assoc] at this
theorem InSt.arg6 {o : Ins} (h : InSt w0 w z bn bf b6 cb co i o r R) {k : Nat} (hk : k < 6) : ∃ x, w.cell? ⟨b6, 7 + k, none⟩ = some x := by
  rw [cell_of_row w b6 _ _ _ _ h.h6]
  match k, hk with
  | 0, _ => exact ⟨_, rfl⟩
  | 1, _ => exact ⟨_, rfl⟩
  | 2, _ => exact ⟨_, rfl⟩
  | 3, _ => exact ⟨_, rfl⟩
  | 4, _ => exact ⟨_, rfl⟩
  | 5, _ => exact ⟨_, rfl⟩
theorem InSt.put8 {dst n : Int} {text : List UInt8} {x0 x1 x2 x3 x4 x5 x : Int} {k : Nat} (h : InSt w0 w z bn bf b6 cb co i (o8 dst n text x0 x1 x2 x3 x4 x5 k) r R) (hk : k < 6) (hx : [x0, x1, x2, x3, x4, x5].getD k 0 = x) :
    InSt w0 (w.setCell ⟨b6, 7 + k, none⟩ (.int .i64 x)) z bn bf b6 cb co i (o8 dst n text x0 x1 x2 x3 x4 x5 (k + 1)) r R := by
  subst hx
  refine h.put _ _ ?_
  match k, hk with
  | 0, _ => rfl
  | 1, _ => rfl
  | 2, _ => rfl
  | 3, _ => rfl
  | 4, _ => rfl
  | 5, _ => rfl
theorem all_next {x0 x1 x2 x3 x4 x5 x regs : Int} {k : Nat} (hk : k < 6) (hx : [x0, x1, x2, x3, x4, x5].getD k 0 = x) : ([x0, x1, x2, x3, x4, x5].take (k + 1)).all (regOk regs) = (([x0, x1, x2, x3, x4, x5].take k).all (regOk regs) && regOk regs x) := by
  subst hx
  rw [List.take_add_one, List.all_append]
  congr 1
  match k, hk with
  | 0, _ => simp
  | 1, _ => simp
  | 2, _ => simp
  | 3, _ => simp
  | 4, _ => simp
  | 5, _ => simp
end Go.Proofs.Ytgnpbodhjmappaa
