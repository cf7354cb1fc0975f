/-
  Contracts of program and Parse, with their errors.
  Contracts of Parse and Read, with their errors.
-/
import Derived.Test.YtaamllikceaifaaGreatDoorStR
import Derived.Test.YtaamllikceaifaaGreatDoorRead
namespace Go.Proofs.YtaamllikceaifaaGreatDoor
open Go.RowKit Sp Tr Go.Shelf
set_option linter.unusedVariables false

section
variable {w0 w : World} {c : PC} {v u : Value} {E : PE} {s s' : S} {L : List (Nat × Obj)}
theorem catch_bad {bp be : Nat} {k x : Int} (h1 : w.cell? ⟨bp, 0, none⟩ = some (.pointer (some ⟨c.p, 0, none⟩))) (h2 : w.cell? ⟨c.p, 10, none⟩ = some (.int .i64 k)) (h3 : w.cell? ⟨be, 0, none⟩ = some (.int .i64 x)) (h4 : w.frozen? ⟨be, 0, none⟩ = false) (hp : c.p < w.heap.size) :
    CallsD Tryz.prog 48 #[.pointer (some ⟨bp, 0, none⟩), .pointer (some ⟨be, 0, none⟩)] (.panicking (chV k)) w fun e u' w' =>
      e = .returned (.tuple #[]) ∧ u' = .panicking [{ v := .iface 27 (.int .i64 k), recovered := true }] ∧ w' = w.setCell ⟨be, 0, none⟩ (.int .i64 k) := by
  refine callsD_of_wpS Tryz.func48 rfl fun c₀ cs hu => ?_
  apply wpS_seq
  apply wpS_region
  simp [wpOpsS, go_sem, recoverD, hu, Tryz.ntmps48, Exit.thenS]
  refine wpS_cond (t := true) (by simp [Act.eval, Array.replicate]) ?_
  simp only [if_true]
  apply wpS_region
  simp [wpOpsS, go_sem, h1, h2, h3, h4, bodyPostS, results, Tryz.results48]
/-- How program ends. -/
def ProgEnd (w : World) (c : PC) (E : PE) (r : Tr.Res Int) (e : Ending) (w' : World) : Prop := match r with
  | .ok q s => e = .returned (.int .i64 0) ∧ (∃ vn vt, TIn w' c vn vt s q) ∧ Below c.B w w'
  | .bad k s => e = .returned (.int .i64 k) ∧ (∃ vn vt, PBad w' c vn vt E s k) ∧ Below c.B w w'
  | .out => False
theorem PBad.set {vn vt : Value} {k : Int} (h : PBad w c vn vt E s k) {b : Nat} (hb : b ≠ c.p) (hg : b ≠ c.g) (x : Value) : PBad (w.setCell ⟨b, 0, none⟩ x) c vn vt E s k := by
  have hz : ∀ k, k ≠ b → (w.setCell ⟨b, 0, none⟩ x).heap[k]? = w.heap[k]? := fun k hk => Below.heap_setCell _ _ _ _ (by simpa using hk)
  obtain ⟨cs, ty, h1, h2⟩ := h.toks
  exact ⟨(hz _ (Ne.symm hb)).trans h.head, ⟨cs, ty, (hz _ (Ne.symm hg)).trans h1, h2⟩, h.gB, h.ge, h.rd, h.dp, h.tl⟩
set_option maxHeartbeats 2000000 in
theorem program_q {f : Nat} (hf : f ≤ 1000000) {vn vt : Value} (h : PIn w c vn vt E s) (hN : (wholesM f (wholeM f E) E s).bind listM ≠ .out) :
    Calls Tryz.prog 26 #[.pointer (some ⟨c.p, 0, none⟩)] w (ProgEnd w c E ((wholesM f (wholeM f E) E s).bind listM)) := by
  have hmf : ∀ (fn : Fn) (first cap : Array Value) (w : World), (Instr.makeFunc fn first cap).run Tryz.prog w = .ok (.func fn first cap) w := fun _ _ _ _ => rfl
  have A0 := Lib.hid (At.start h)
  have A1 : Hid (At w c vn vt E s [(w.heap.size + 1, .cells #[.int .i64 0] 27 (0, 0)), (w.heap.size, bxO c)] ((w.alloc (bxO c)).alloc (.cells #[.int .i64 0] 27)).drew) := by
    have := (A0.out.alloc (bxO c)).alloc (.cells #[.int .i64 0] 27)
    rw [World.size_alloc] at this
    exact Lib.hid this.drew
  have hp := lt_heap h.head
  have hn1 : ¬ w.heap.size + 1 = c.p := by omega
  have hn2 : ¬ c.p = w.heap.size + 1 := by omega
  have hg : c.g < w.heap.size := by obtain ⟨cs, ty, h1, _⟩ := h.toks; exact lt_heap h1
  have hW := whole_all c E f hf
  have hL := list_wholes hW hf A1.out hN
  have HP := Lib.hid h; clear h
  obtain ⟨RR, hRR⟩ : ∃ RR, (wholesM f (wholeM f E) E s).bind listM = RR := ⟨_, rfl⟩
  rw [hRR] at hL hN ⊢
  have HL := Lib.hid hL; clear hL hN hRR
  have hlast : ∀ (v1 : World) (a : Act) (er : Int) (s' : S), a.defers = [{ target := .fn (.func 48) #[.pointer (some ⟨w.heap.size, 0, none⟩), .pointer (some ⟨w.heap.size + 1, 0, none⟩)], args := #[] }] → a.tmps[2]?.getD undef = .pointer (some ⟨w.heap.size + 1, 0, none⟩) → Bad w c vn vt E s' er [(w.heap.size + 1, .cells #[.int .i64 0] 27 (0, 0)), (w.heap.size, bxO c)] v1 →
      bodyPostD Tryz.prog Tryz.f26 (ProgEnd w c E (.bad er s')) (.panic (chV er)) a v1 := by
    intro v1 a er s' hd ht hb
    obtain ⟨vn', vt', h1, h2, h3⟩ := hb
    have hb0 := h3 (w.heap.size, bxO c) (by simp)
    have hb1 := h3 (w.heap.size + 1, .cells #[.int .i64 0] 27 (0, 0)) (by simp)
    have k10 : v1.cell? ⟨c.p, 10, none⟩ = some (.int .i64 er) := by rw [cell_of_row v1 c.p _ _ _ _ h1.head]; rfl
    have hz1 := lt_heap hb1
    have hz2 := lt_heap h1.head
    have gB := HP.out.turn_below h2
    obtain ⟨tm, df⟩ := a
    dsimp only at hd ht
    subst hd
    show Leaves _ _ _ _ _ _ _
    refine leaves_cons (f := 48) (args := #[.pointer (some ⟨w.heap.size, 0, none⟩), .pointer (some ⟨w.heap.size + 1, 0, none⟩)]) (by simp) (by simp [go_sem]) ?_
    refine (catch_bad (nv1 hb0).1 k10 (nv1 hb1).1 (nv1 hb1).2 hz2).mono ?_
    rintro e u' w'' ⟨rfl, rfl, rfl⟩
    refine ⟨.int .i64 er, ?_, rfl, ⟨vn', vt', h1.set (by omega) (by omega) _⟩, gB.setCell (p := ⟨w.heap.size + 1, 0, none⟩) (by have := HP.out.ge; simp; omega) _⟩
    have hz3 : w.heap.size + 1 < v1.heap.size := hz1
    simp [results, Tryz.results26, go_sem, ht, (nv1 hb1).1]
  have HLA := Lib.hid hlast; clear hlast
  go_enter_defers Tryz.func26, Tryz.ntmps26
  go_wp2
  first | go_region_with ((with_reducible refine HL.out.mono ?_); rintro e v1 hz; rcases hz.split1 (Lib.hid rfl) with ⟨q, s', rfl, hrr, ha⟩ | ⟨er, s', rfl, rfl, hb⟩; rotate_left; (exact HLA.out _ _ _ _ rfl rfl hb); clear hz; have hb0 := ha.mem (x := (w.heap.size, bxO c)) (by simp); have cb0 := (nv1 hb0).1; obtain ⟨cb1, fb1⟩ := nv1 ha.loc; obtain ⟨vx, vy, hx, _⟩ := id ha; have c9 := hx.cells.2.2.2.2.2.2.2.2.2; have f9 := hx.frozen 9; have B1 := Lib.hid ha; clear ha hb0 hx) | fail
  all_goals
    obtain ⟨vn', vt', hT, hO, hB⟩ := At.top HP.out B1.out q
    have HT := Lib.hid hT
    have HO := Lib.hid hO
    have HB := Lib.hid hB
    clear hT hO hB
    go_wp2
    refine leaves_cons (f := 48) (args := #[.pointer (some ⟨w.heap.size, 0, none⟩), .pointer (some ⟨w.heap.size + 1, 0, none⟩)]) (by simp) (by simp [go_sem]) ?_
    refine (catch_idle _ _ _).mono ?_
    rintro e u' w'' ⟨rfl, rfl, rfl⟩
    rw [hrr]
    exact ⟨.int .i64 0, by simp [results, Tryz.results26, go_sem, cb1], rfl, ⟨vn', vt', HT.out.set (HO.out (w.heap.size + 1, .cells #[.int .i64 0] 27 (0, 0)) (by simp)) 0 _⟩, HB.out.setCell (p := ⟨w.heap.size + 1, 0, none⟩) (by have := HP.out.ge; simp; omega) _⟩
end
end Go.Proofs.YtaamllikceaifaaGreatDoor
namespace Go.Proofs.YtaamllikceaifaaGreatDoor
open Go.RowKit Sp Tr Go.Shelf
set_option linter.unusedVariables false

section
variable {w : World} {c : PC} {vn vt : Value} {E : PE} {s : S} {er : Int}
theorem PBad.keep {w' : World} (h : PBad w c vn vt E s er) (hk : ∀ k, k < w.heap.size → w'.heap[k]? = w.heap[k]?) : PBad w' c vn vt E s er := by
  obtain ⟨cs, ty, h1, h2⟩ := h.toks
  exact ⟨(hk _ (lt_heap h.head)).trans h.head, ⟨cs, ty, (hk _ (lt_heap h1)).trans h1, h2⟩, h.gB, h.ge, h.rd, h.dp, h.tl⟩
theorem PBad.below {w' : World} (h : PBad w c vn vt E s er) (hb : Below w.heap.size w w') : PBad w' c vn vt E s er := h.keep fun k hk => hb.block k hk
theorem PBad.cells (h : PBad w c vn vt E s er) :
    w.cell? ⟨c.p, 0, none⟩ = some (.slice (some ⟨c.g, 0, none⟩) E.toks.length c.cap) ∧ w.cell? ⟨c.p, 1, none⟩ = some (.int .i64 E.fin.k) ∧ w.cell? ⟨c.p, 2, none⟩ = some (.string (bt E.fin.text)) ∧ w.cell? ⟨c.p, 3, none⟩ = some (.int .i64 E.fin.n) ∧ w.cell? ⟨c.p, 4, none⟩ = some (.int .i64 E.fin.pos) ∧
    w.cell? ⟨c.p, 5, none⟩ = some (.int .i64 s.read) := by
  refine ⟨?_, ?_, ?_, ?_, ?_, ?_⟩ <;> (rw [cell_of_row w c.p _ _ _ _ h.head]; rfl)
theorem PBad.tok (h : PBad w c vn vt E s er) {i : Nat} {t : Tok} (hi : E.toks[i]? = some t) :
    w.cell? ⟨c.g, i * 4, none⟩ = some (.int .i64 t.k) ∧ w.cell? ⟨c.g, i * 4 + 1, none⟩ = some (.string (bt t.text)) ∧ w.cell? ⟨c.g, i * 4 + 2, none⟩ = some (.int .i64 t.n) ∧ w.cell? ⟨c.g, i * 4 + 3, none⟩ = some (.int .i64 t.pos) := by
  obtain ⟨cs, ty, hg, hc⟩ := h.toks
  have c0 := hc i t hi
  refine ⟨?_, ?_, ?_, ?_⟩ <;> rw [cell_of_row w c.g _ _ _ _ hg]
  · exact c0 0 (by omega)
  · exact c0 1 (by omega)
  · exact c0 2 (by omega)
  · exact c0 3 (by omega)
theorem ahead_bad (h : PBad w c vn vt E s er) (k : Nat) (hk : k ≤ 2) :
    Calls Tryz.prog 51 #[.pointer (some ⟨c.p, 0, none⟩), .int .i64 k] w (RPost (tkV (ahd E s k)) w) := by
  obtain ⟨d0, d1, d2, d3, d4, d5⟩ := h.cells
  have hp := lt_heap h.head
  have hrd := h.rd
  have htl := h.tl
  unfold big at hrd
  by_cases hlt : s.read + k < E.toks.length
  · obtain ⟨t, ht⟩ : ∃ t, E.toks[s.read + k]? = some t := ⟨_, List.getElem?_eq_getElem hlt⟩
    obtain ⟨c0, c1, c2, c3⟩ := h.tok ht
    obtain ⟨cs, ty, hgg, _⟩ := h.toks
    have hg := lt_heap hgg
    rw [aheadOk ht]
    have q1 : (s.read : Int) + k < E.toks.length := by omega
    have q0 : 0 ≤ (s.read : Int) + k := by omega
    have q2 : ((s.read : Int) + k).toNat = s.read + k := by omega
    clear h ht hgg
    go_enter Tryz.func51, Tryz.ntmps51
    go_wp2
    go_quiet (fail)
    go_wp2
    go_region
    all_goals go_wp2
    all_goals exact bodyPost_ret (v := tkV t) (by simp [results, Tryz.results51, go_sem] <;> rfl) rfl ⟨rfl, ((((drN ((Below.refl _ _).alloc (Nat.le_refl _) _) _).setCell (Nat.le_refl _) _).setCell (Nat.le_refl _) _).setCell (Nat.le_refl _) _).setCell (Nat.le_refl _) _⟩
  · have e := aheadEnd hlt
    rw [e]
    have q1 : ¬ (s.read : Int) + k < E.toks.length := by omega
    clear h
    go_enter Tryz.func51, Tryz.ntmps51
    go_wp2
    go_quiet (fail)
    go_wp2
    exact bodyPost_ret (v := tkV E.fin) (by simp [results, Tryz.results51, go_sem] <;> rfl) rfl ⟨rfl, ((((drN ((Below.refl _ _).alloc (Nat.le_refl _) _) _).setCell (Nat.le_refl _) _).setCell (Nat.le_refl _) _).setCell (Nat.le_refl _) _).setCell (Nat.le_refl _) _⟩
theorem ahead_bad0 (h : PBad w c vn vt E s er) : Calls Tryz.prog 51 #[.pointer (some ⟨c.p, 0, none⟩), .int .i64 0] w (RPost (tkV (nowT E s)) w) := ahead_bad h 0 (by omega)
theorem now_bad (h : PBad w c vn vt E s er) :
    Calls Tryz.prog 27 #[.pointer (some ⟨c.p, 0, none⟩)] w (RPost (tkV (nowT E s)) w) := by
  have H := Lib.hid h; clear h
  go_enter Tryz.func27, Tryz.ntmps27
  go_wp2_with ((with_reducible refine (ahead_bad0 (H.out.below ((Below.refl _ _).alloc (Nat.le_refl _) _))).mono ?_); rintro e w1 ⟨rfl, hb⟩; have hsz := hb.size; obtain ⟨f0, f1, f2, f3, g0, g1, g2, g3⟩ := nv4 (new_at hb); have HB := Lib.hid hb; clear hb; dsimp only [tkV])
  exact bodyPost_ret (v := tkV (nowT E s)) (by simp [results, Tryz.results27, go_sem, f0, f1, f2, f3] <;> rfl) rfl ⟨rfl, ((((((Below.refl _ _).alloc (Nat.le_refl _) _).trans (HB.out.mono (by simp))).setCell (Nat.le_refl _) _).setCell (Nat.le_refl _) _).setCell (Nat.le_refl _) _).setCell (Nat.le_refl _) _⟩
end
/-- How Parse ends: with a tree, or with where and which error. -/
def ParseEnd (E : PE) (r : Tr.Res Int) (w : World) (e : Ending) (w' : World) : Prop := match r with
  | .ok q s => ParsePost ⟨s.nodes, s.types, q⟩ w e w'
  | .bad er s => e = .returned (.tuple #[.agg #[.slice none 0 0, .slice none 0 0, .int .i64 0], .int .i64 (here E s), .int .i64 er]) ∧ Below w.heap.size w w'
  | .out => False
set_option maxHeartbeats 1000000 in
theorem parse_q {w : World} {g cap f : Nat} {ts : List Tok} {fin : Tok} (hf : f ≤ 1000000) (h : ToksIn w g cap ts fin) (hN : programM f ⟨ts, fin⟩ ≠ .out) (hne : ∀ er s, programM f ⟨ts, fin⟩ = .bad er s → er ≠ 0) :
    Calls Tryz.prog 13 #[.slice (some ⟨g, 0, none⟩) (ts.length + 1) cap] w (ParseEnd ⟨ts, fin⟩ (programM f ⟨ts, fin⟩) w) := by
  have HT := Lib.hid h; clear h
  have hNp : ∀ {w}, ToksIn w g cap ts fin → Calls Tryz.prog 25 #[.slice (some ⟨g, 0, none⟩) (ts.length + 1) cap] w _ := fun h => newParser_p h.hg h.hf h.hl h.hc h.hm h.cells h.names h.kn
  have hP := fun {w : World} {c : PC} {vn vt : Value} (h : PIn w c vn vt ⟨ts, fin⟩ start0) => program_q (f := f) hf h hN
  unfold programM at hN hne ⊢
  obtain ⟨RR, hRR⟩ : ∃ RR, (wholesM f (wholeM f ⟨ts, fin⟩) ⟨ts, fin⟩ start0).bind listM = RR := ⟨_, rfl⟩
  rw [hRR] at hN hne hP ⊢
  clear hRR
  cases RR with
  | out => exact absurd rfl hN
  | ok q s2 =>
    clear hN hne
    go_enter Tryz.func13, Tryz.ntmps13
    go_wp2_with (first | ((with_reducible refine (hNp (HT.out.below ((Below.refl _ _).alloc (Nat.le_refl _) _))).mono ?_); rintro e v1 ⟨vt, rfl, hp, hb⟩; rw [World.size_alloc] at hp; have HP := Lib.hid hp; have HB := Lib.hid hb; clear hp hb) | ((with_reducible refine (hP HP.out).mono ?_); rintro e v2 ⟨rfl, ⟨vn', vt', ht⟩, hb⟩; obtain ⟨an, cn, rfl⟩ := row_slice ht.nodes; obtain ⟨ay, cy, rfl⟩ := row_slice ht.types; have c7 := ht.c7; have c8 := ht.c8; have c9 := ht.c9; obtain ⟨r0, r1, r2, z0, z1, z2⟩ := nv3 ((hb.block _ (by simp)).trans (new_at HB.out)); have HT2 := Lib.hid ht; have HB2 := Lib.hid hb; clear ht hb))
    refine bodyPost_ret (v := .tuple #[.agg #[.slice an s2.nodes.length cn, .slice ay s2.types.length cy, .int .i64 q], .int .i64 0, .int .i64 0]) (by simp [results, Tryz.results13, go_sem, r0, r1, r2] <;> rfl) rfl ⟨_, _, rfl, ?_, ?_⟩
    · have h0 : TreeIn v2 (w.heap.size + 1) (.slice an s2.nodes.length cn) (.slice ay s2.types.length cy) ⟨s2.nodes, s2.types, q⟩ := ⟨HT2.out.nodes, HT2.out.types, HT2.out.ln, HT2.out.lt⟩
      exact (((h0.set (by omega)).set (by omega)).set (by omega)).mono (by omega)
    · exact ((((((Below.refl _ _).alloc (Nat.le_refl _) _).trans (HB.out.mono (by simp))).trans (HB2.out.mono (by simp))).setCell (Nat.le_refl _) _).setCell (Nat.le_refl _) _).setCell (Nat.le_refl _) _
  | bad er s2 =>
    have hz : er ≠ 0 := hne er s2 rfl
    have e1 : (er != 0) = true := by simp [hz]
    clear hN hne hz
    have y3 := fld3
    go_enter Tryz.func13, Tryz.ntmps13
    go_wp2_with (first | ((with_reducible refine (hNp (HT.out.below ((Below.refl _ _).alloc (Nat.le_refl _) _))).mono ?_); rintro e v1 ⟨vt, rfl, hp, hb⟩; rw [World.size_alloc] at hp; have HP := Lib.hid hp; have HB := Lib.hid hb; clear hp hb) | ((with_reducible refine (hP HP.out).mono ?_); rintro e v2 ⟨rfl, ⟨vn', vt', ht⟩, hb⟩; have hh2 := (hb.block _ (by simp)).trans (new_at HB.out); obtain ⟨r0, r1, r2, z0, z1, z2⟩ := nv3 hh2; have HH2 := Lib.hid hh2; have HT2 := Lib.hid ht; have HB2 := Lib.hid hb; clear ht hb hh2) | ((with_reducible refine (now_bad HT2.out).mono ?_); rintro e v3 ⟨rfl, hb⟩; have hh3 := (hb.block _ (lt_heap HH2.out)).trans HH2.out; obtain ⟨k0, k1, k2, l0, l1, l2⟩ := nv3 hh3; have hz3 := lt_heap hh3; have HB3 := Lib.hid hb; clear hb hh3))
    refine bodyPost_ret (v := .tuple #[.agg #[.slice none 0 0, .slice none 0 0, .int .i64 0], .int .i64 (here ⟨ts, fin⟩ s2), .int .i64 er]) (by simp [results, Tryz.results13, go_sem, here, k0, k1, k2] <;> rfl) rfl ⟨rfl, ?_⟩
    exact (((((((Below.refl _ _).alloc (Nat.le_refl _) _).trans (HB.out.mono (by simp))).trans (HB2.out.mono (by simp))).trans (HB3.out.mono (by have := lt_heap HH2.out; omega))).setCell (Nat.le_refl _) _).setCell (Nat.le_refl _) _).setCell (Nat.le_refl _) _
set_option maxHeartbeats 1000000 in
theorem read_q {w : World} {s : ByteArray} {f : Nat} {l : List Tok} {E : PE} (hf : f ≤ 1000000) (henv : EnvT w) (hs : s.size ≤ maxLen) (hl : Sp.scan s.data.toList = .ok l) (hk : ∀ t ∈ l, t.k ≤ 4) (hE : envOf l = some E)
    (hN : programM f E ≠ .out) (hne : ∀ er s, programM f E = .bad er s → er ≠ 0) :
    Calls Tryz.prog 9 #[.string s] w (ParseEnd E (programM f E) w) := by
  have hz := henv.lex.sz
  have HE := Lib.hid henv; clear henv
  have hlen : l.length = E.toks.length + 1 := by rw [(envOf_eq hE).1]; simp
  have HL := Lib.hid hl
  have HF := Lib.hid hE
  have HK := Lib.hid hk
  have hP := fun {w : World} {g cap : Nat} (h : ToksIn w g cap E.toks E.fin) => parse_q hf h hN hne
  have HA : Hid (EnvT (w.alloc (.cells #[.slice none 0 0, .slice none 0 0, .int .i64 0] 26))) := Lib.hid (HE.out.below ((Below.refl _ _).alloc (Nat.le_refl _) _) hz)
  show Calls _ _ _ _ (ParseEnd E (programM f ⟨E.toks, E.fin⟩) w)
  obtain ⟨RR, hRR⟩ : ∃ RR, programM f ⟨E.toks, E.fin⟩ = RR := ⟨_, rfl⟩
  rw [hRR] at hP ⊢
  have hN2 : RR ≠ .out := by rw [← hRR]; exact hN
  clear hl hE hk hN hne hRR
  cases RR with
  | out => exact absurd rfl hN2
  | ok q s2 =>
    clear hN2
    go_enter Tryz.func9, Tryz.ntmps9
    go_wp2_with (first | ((with_reducible refine (scan_ok s l _ HA.out.lex hs HL.out).mono ?_); rintro e v1 ⟨g, cap, rfl, ht, hb⟩; have hb1 := hb.size; rw [World.size_alloc] at hb1; have HT := Lib.hid (toksIn_of ht (by simp) (HA.out.below hb (by simp; omega)).names HL.out HK.out HF.out); have HB := Lib.hid hb; rw [hlen]; clear ht hb) | ((with_reducible refine (hP HT.out).mono ?_); rintro e v2 ⟨vn', vt', rfl, ht, hb⟩; obtain ⟨an, cn, rfl⟩ := row_slice ht.nodes; obtain ⟨ay, cy, rfl⟩ := row_slice ht.types; obtain ⟨r0, r1, r2, z0, z1, z2⟩ := nv3 ((hb.block _ (by omega)).trans (new_at HB.out)); have HT2 := Lib.hid ht; have HB2 := Lib.hid hb; clear ht hb))
    refine bodyPost_ret (v := .tuple #[.agg #[.slice an s2.nodes.length cn, .slice ay s2.types.length cy, .int .i64 q], .int .i64 0, .int .i64 0]) (by simp [results, Tryz.results9, go_sem, r0, r1, r2] <;> rfl) rfl ⟨_, _, rfl, ?_, ?_⟩
    · exact (((HT2.out.set (by omega)).set (by omega)).set (by omega)).mono (by omega)
    · exact ((((((Below.refl _ _).alloc (Nat.le_refl _) _).trans (HB.out.mono (by simp))).trans (HB2.out.mono (by omega))).setCell (Nat.le_refl _) _).setCell (Nat.le_refl _) _).setCell (Nat.le_refl _) _
  | bad er s2 =>
    clear hN2
    go_enter Tryz.func9, Tryz.ntmps9
    go_wp2_with (first | ((with_reducible refine (scan_ok s l _ HA.out.lex hs HL.out).mono ?_); rintro e v1 ⟨g, cap, rfl, ht, hb⟩; have hb1 := hb.size; rw [World.size_alloc] at hb1; have HT := Lib.hid (toksIn_of ht (by simp) (HA.out.below hb (by simp; omega)).names HL.out HK.out HF.out); have HB := Lib.hid hb; rw [hlen]; clear ht hb) | ((with_reducible refine (hP HT.out).mono ?_); rintro e v2 ⟨rfl, hb⟩; obtain ⟨r0, r1, r2, z0, z1, z2⟩ := nv3 ((hb.block _ (by omega)).trans (new_at HB.out)); have HB2 := Lib.hid hb; clear hb))
    refine bodyPost_ret (v := .tuple #[.agg #[.slice none 0 0, .slice none 0 0, .int .i64 0], .int .i64 (here E s2), .int .i64 er]) (by simp [results, Tryz.results9, go_sem, r0, r1, r2] <;> rfl) rfl ⟨rfl, ?_⟩
    exact ((((((Below.refl _ _).alloc (Nat.le_refl _) _).trans (HB.out.mono (by simp))).trans (HB2.out.mono (by omega))).setCell (Nat.le_refl _) _).setCell (Nat.le_refl _) _).setCell (Nat.le_refl _) _
set_option maxHeartbeats 1000000 in
theorem read_err {w : World} {s : ByteArray} {p : Nat} {x : Int} (henv : EnvT w) (hs : s.size ≤ maxLen) (hl : Sp.scan s.data.toList = .error (p, x)) (hx : x ≠ 0) :
    Calls Tryz.prog 9 #[.string s] w fun e w' => e = .returned (.tuple #[.agg #[.slice none 0 0, .slice none 0 0, .int .i64 0], .int .i64 p, .int .i64 x]) ∧ Below w.heap.size w w' := by
  have hz := henv.lex.sz
  have HE := Lib.hid henv; clear henv
  have HL := Lib.hid hl
  have e1 : (x != 0) = true := by simp [hx]
  have HA : Hid (EnvT (w.alloc (.cells #[.slice none 0 0, .slice none 0 0, .int .i64 0] 26))) := Lib.hid (HE.out.below ((Below.refl _ _).alloc (Nat.le_refl _) _) hz)
  clear hl hx
  go_enter Tryz.func9, Tryz.ntmps9
  go_wp2_with ((with_reducible refine (scan_err s p x _ HA.out.lex hs HL.out).mono ?_); rintro e v1 ⟨rfl, hb⟩; obtain ⟨r0, r1, r2, z0, z1, z2⟩ := nv3 (new_at hb); have hz1 := lt_heap (new_at hb); have HB := Lib.hid hb; clear hb)
  refine bodyPost_ret (v := .tuple #[.agg #[.slice none 0 0, .slice none 0 0, .int .i64 0], .int .i64 p, .int .i64 x]) (by simp [results, Tryz.results9, go_sem, r0, r1, r2] <;> rfl) rfl ⟨rfl, ?_⟩
  exact (((((Below.refl _ _).alloc (Nat.le_refl _) _).trans (HB.out.mono (by simp))).setCell (Nat.le_refl _) _).setCell (Nat.le_refl _) _).setCell (Nat.le_refl _) _
/-- The kinds of what is scanned. -/
theorem scanF_kinds : ∀ (f : Nat) (l : List UInt8) (p c : Nat) (ts : List Tok), scanF f l p c = .ok ts → ∀ t ∈ ts, t.k ≤ 4
  | 0, _, _, _, _, h => by cases h
  | f + 1, l, p, c, ts, h => by
    unfold scanF at h
    cases hs : Sp.step l with
    | fin => rw [hs] at h; injection h with h; subst h; intro t ht; simp at ht; subst ht; simp
    | line => rw [hs] at h; injection h with h; subst h; intro t ht; simp at ht; subst ht; simp
    | white n => rw [hs] at h; exact scanF_kinds f _ _ _ _ h
    | bad e => rw [hs] at h; cases h
    | tok k len n =>
      rw [hs] at h
      dsimp only at h
      split at h
      · cases h
      · cases hq : scanF f (l.drop len) (p + len) (c + 1) with
        | error e => rw [hq] at h; cases h
        | ok us =>
          rw [hq] at h
          injection h with h
          subst h
          intro t ht
          rcases List.mem_cons.1 ht with rfl | ht
          · exact (Sp.step_kind hs).2.1
          · exact scanF_kinds f _ _ _ _ hq t ht
theorem scan_kinds {l : List UInt8} {ts : List Tok} (h : Sp.scan l = .ok ts) : ∀ t ∈ ts, t.k ≤ 4 := by
  unfold Sp.scan at h
  split at h
  · cases h
  · exact scanF_kinds _ _ _ _ _ h
end Go.Proofs.YtaamllikceaifaaGreatDoor
