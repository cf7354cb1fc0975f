/-
  Contracts of program, newParser, Parse and Read.
-/
import Derived.Test.YtkgnmlllmihmlaaGreatDoorWhole
import Derived.Recover
import Derived.RegionCalls
import Derived.Deep.RegionWith
import Derived.Deep.RegionHeld3
namespace Go.Proofs.YtkgnmlllmihmlaaGreatDoor
open Go.RowKit Sp Tr Go.Shelf
set_option linter.unusedVariables false

/-- A parser whose tree is whole. -/
structure TIn (w : World) (c : PC) (vn vt : Value) (s : S) (top : Int) : Prop where
  c7 : w.cell? ⟨c.p, 7, none⟩ = some vn
  c8 : w.cell? ⟨c.p, 8, none⟩ = some vt
  c9 : w.cell? ⟨c.p, 9, none⟩ = some (.int .i64 top)
  nodes : w.ownsRow c.B 33 9 vn s.nodes.length (s.nodes.flatMap ndCells)
  types : w.ownsRow c.B 36 4 vt s.types.length (s.types.flatMap tyCells)
  ln : s.nodes.length ≤ 8192
  lt : s.types.length ≤ 256
  ge : c.B ≤ c.p
section
variable {w0 w : World} {c : PC} {v u : Value} {E : PE} {s s' : S} {L : List (Nat × Obj)}
theorem At.top (h0 : PIn w0 c v u E s) (h : At w0 c v u E s' L w) (q : Int) : ∃ vn vt, TIn (w.setCell ⟨c.p, 9, none⟩ (.int .i64 q)) c vn vt s' q ∧ (∀ x ∈ L, Out c vn vt x.1) ∧ Below c.B w0 (w.setCell ⟨c.p, 9, none⟩ (.int .i64 q)) := by
  obtain ⟨vn, vt, h1, h2, h3, h4⟩ := h
  have hz : ∀ k, k ≠ c.p → (w.setCell ⟨c.p, 9, none⟩ (.int .i64 q)).heap[k]? = w.heap[k]? := fun k hk => Below.heap_setCell _ _ _ _ (by simpa using hk)
  have hh := cells_set h1.head 9 (.int .i64 q)
  refine ⟨vn, vt, ⟨?_, ?_, ?_, own_keep h1.nodes fun g hg => hz g (fun e => h1.apn (by rw [hg, e])), own_keep h1.types fun g hg => hz g (fun e => h1.apt (by rw [hg, e])), h1.ln, h1.lt, h1.ge⟩, fun x hx => (h3 x hx).2.1, (h0.turn_below h2).setCell (p := ⟨c.p, 9, none⟩) h1.ge _⟩
  · rw [cell_of_row _ c.p _ _ _ _ hh]; rfl
  · rw [cell_of_row _ c.p _ _ _ _ hh]; rfl
  · rw [cell_of_row _ c.p _ _ _ _ hh]; rfl
theorem TIn.set {vn vt : Value} {q : Int} (h : TIn w c vn vt s q) {b : Nat} (hb : Out c vn vt b) (j : Nat) (x : Value) : TIn (w.setCell ⟨b, j, none⟩ x) c vn vt s q := by
  have hz : ∀ k, k ≠ b → (w.setCell ⟨b, j, none⟩ x).heap[k]? = w.heap[k]? := fun k hk => Below.heap_setCell _ _ _ _ (by simpa using hk)
  have hc : ∀ o, (w.setCell ⟨b, j, none⟩ x).cell? ⟨c.p, o, none⟩ = w.cell? ⟨c.p, o, none⟩ := fun o => World.cell?_of_block (hz c.p (Ne.symm hb.p))
  exact ⟨(hc _).trans h.c7, (hc _).trans h.c8, (hc _).trans h.c9, own_keep h.nodes fun g hg => hz g (fun e => hb.n (by rw [hg, e])), own_keep h.types fun g hg => hz g (fun e => hb.t (by rw [hg, e])), h.ln, h.lt, h.ge⟩
theorem catch_idle (p q : Option Addr) (w : World) :
    CallsD Tryz.prog 48 #[.pointer p, .pointer q] .returning w fun e u' w' => e = .returned (.tuple #[]) ∧ u' = .returning ∧ w' = w := by
  refine callsD_of_wpS Tryz.func48 rfl fun c₀ cs hu => ?_
  apply wpS_seq
  apply wpS_region
  simp [wpOpsS, go_sem, recoverD, hu, Tryz.ntmps48, Exit.thenS]
  refine wpS_cond (t := false) (by simp [Act.eval, Array.replicate]) ?_
  simp only [Bool.false_eq_true, if_false]
  refine wpS_of_wp (wp_skip ?_)
  cases c₀
  simp_all [bodyPostS, results, Tryz.results48]
set_option maxHeartbeats 1000000 in
theorem program_p {f : Nat} (hf : f ≤ 1000000) {vn vt : Value} {s1 : S} {xs : List Int} {q : Int} (h : PIn w c vn vt E s) (h1 : wholesF f (wholeF f E) E s = some (xs, s1)) (h2 : listOf xs s1 = some (q, s')) :
    Calls Tryz.prog 26 #[.pointer (some ⟨c.p, 0, none⟩)] w fun e w' => e = .returned (.int .i64 0) ∧ ∃ vn' vt', TIn w' c vn' vt' s' q ∧ Below c.B w w' := by
  have hmf : ∀ (fn : Fn) (first cap : Array Value) (w : World), (Instr.makeFunc fn first cap).run Tryz.prog w = .ok (.func fn first cap) w := fun _ _ _ _ => rfl
  have A0 := Lib.hid (At.start h)
  have hl := wholesF_len f _ _ _ h1
  have hl2 : xs.length ≤ 1000000 := by omega
  have hi : ∀ w v u, IterOK w c v u E 50 #[.pointer (some ⟨c.p, 0, none⟩)] #[] s s1 xs := fun w v u => wholes_iter (whole_p hf) hf h1
  have eg : ∀ args w, (callFunc 50 args).run Tryz.prog w = .ok (.enter 50 args) w := enters_of Tryz.func50 (by kernel_rfl) rfl
  have A1 : Hid (At w c vn vt E s [(w.heap.size + 1, .cells #[.int .i64 0] 27 (0, 0)), (w.heap.size, bxO c)] ((w.alloc (bxO c)).alloc (.cells #[.int .i64 0] 27)).drew) := by
    have := (A0.out.alloc (bxO c)).alloc (.cells #[.int .i64 0] 27)
    rw [World.size_alloc] at this
    exact Lib.hid this.drew
  have hp := lt_heap h.head
  have hn1 : ¬ w.heap.size + 1 = c.p := by omega
  have hn2 : ¬ c.p = w.heap.size + 1 := by omega
  have HP := Lib.hid h; clear h
  have H2 := Lib.hid h2; clear h2 h1 hl
  go_enter_defers Tryz.func26, Tryz.ntmps26
  go_wp2
  refine wp_region_noPanic ?_
  go_region_with ((with_reducible refine (list_a A1.out eg hi hl2 H2.out).mono ?_); rintro e v1 ⟨rfl, ha⟩; have hb0 := ha.mem (x := (w.heap.size, bxO c)) (by simp); have cb0 := (nv1 hb0).1; obtain ⟨cb1, fb1⟩ := nv1 ha.loc; obtain ⟨vx, vy, hx, _⟩ := id ha; have c9 := hx.cells.2.2.2.2.2.2.2.2.2; have f9 := hx.frozen 9; have B1 := Lib.hid ha; clear ha hb0 hx)
  all_goals
    refine NoPanic.normal ?_
    obtain ⟨vn', vt', hT, hO, hB⟩ := At.top HP.out B1.out q
    have HT := Lib.hid hT
    have HO := Lib.hid hO
    have HB := Lib.hid hB
    clear hT hO hB
    go_wp2
    refine leaves_cons (f := 48) (args := #[.pointer (some ⟨w.heap.size, 0, none⟩), .pointer (some ⟨w.heap.size + 1, 0, none⟩)]) (by simp) (by simp [go_sem]) ?_
    refine (catch_idle _ _ _).mono ?_
    rintro e u' w'' ⟨rfl, rfl, rfl⟩
    exact ⟨.int .i64 0, by simp [results, Tryz.results26, go_sem, cb1], rfl, vn', vt', HT.out.set (HO.out (w.heap.size + 1, .cells #[.int .i64 0] 27 (0, 0)) (by simp)) 0 _, HB.out.setCell (p := ⟨w.heap.size + 1, 0, none⟩) (by have := HP.out.ge; simp; omega) _⟩
end
end Go.Proofs.YtkgnmlllmihmlaaGreatDoor
