/-
  How the parser's methods end: with an answer, or with an error, which is a panic.
-/
import Derived.Test.YtaamllikceaifaaGreatDoorTake
import Derived.Test.YtaamllikceaifaaGreatDoorGram
namespace Go.Proofs.YtaamllikceaifaaGreatDoor
open Go.RowKit Sp Tr
set_option linter.unusedVariables false

abbrev chV (k : Int) : List PanicEntry := [{ v := .iface 27 (.int .i64 k), recovered := false }]
/-- A parser that has an error. -/
structure PBad (w : World) (c : PC) (vn vt : Value) (E : PE) (s : S) (k : Int) : Prop where
  head : w.heap[c.p]? = some (.cells ((pCells c vn vt E s).setIfInBounds 10 (.int .i64 k)) 76 (0, 0))
  toks : ∃ cs ty, w.heap[c.g]? = some (.cells cs ty (0, 0)) ∧ ∀ i t, E.toks[i]? = some t → ∀ j, j < 4 → cs[i * 4 + j]? = (tkCells t)[j]?
  gB : c.g < c.B
  ge : c.B ≤ c.p
  rd : s.read ≤ big
  dp : s.depth ≤ big
  tl : E.toks.length ≤ 32768
/-- Since w0 the parser has come to an error at s; L: as for At. -/
def Bad (w0 : World) (c : PC) (v u : Value) (E : PE) (s : S) (k : Int) (L : List (Nat × Obj)) (w : World) : Prop :=
  ∃ vn vt, PBad w c vn vt E s k ∧ Turn c.p v u vn vt w0 w ∧ ∀ x ∈ L, w.heap[x.1]? = some x.2
/-- The answer of a method that reads r. -/
def AnsR {α : Type} (w0 : World) (c : PC) (v u : Value) (E : PE) (L : List (Nat × Obj)) (r : Res α) (val : α → Value) (e : Ending) (w : World) : Prop := match r with
  | .ok a s => e = .returned (val a) ∧ At w0 c v u E s L w
  | .bad k s => e = .panicked (chV k) ∧ Bad w0 c v u E s k L w
  | .out => False
abbrev iV (n : Int) : Value := .int .i64 n
abbrev uV (_ : Unit) : Value := .tuple #[]
abbrev sV (x : List UInt8) : Value := .string (bt x)

section
variable {α β : Type} {w0 w : World} {c : PC} {v u : Value} {E : PE} {s s' : S} {L : List (Nat × Obj)} {r : Res α} {k : α → S → Res β} {R : Res β} {val : α → Value} {e : Ending}
theorem ne_out (hR : Hid (r.bind k = R)) (hN : Hid (R ≠ .out)) : r ≠ .out := by
  rintro rfl
  exact hN.out hR.out.symm
theorem ne_out1 {r R : Res α} (hR : Hid (r = R)) (hN : Hid (R ≠ .out)) : r ≠ .out := by rw [hR.out]; exact hN.out
theorem AnsR.split (h : AnsR w0 c v u E L r val e w) (hR : Hid (r.bind k = R)) :
    (∃ a s1, e = .returned (val a) ∧ Hid (r = .ok a s1) ∧ Hid (k a s1 = R) ∧ At w0 c v u E s1 L w) ∨ (∃ er s1, e = .panicked (chV er) ∧ R = .bad er s1 ∧ Bad w0 c v u E s1 er L w) := by
  cases r with
  | ok a s1 => exact .inl ⟨a, s1, h.1, Lib.hid rfl, hR, h.2⟩
  | bad er s1 => exact .inr ⟨er, s1, h.1, hR.out.symm, h.2⟩
  | out => exact h.elim
theorem AnsR.split1 {r R : Res α} (h : AnsR w0 c v u E L r val e w) (hR : Hid (r = R)) :
    (∃ a s1, e = .returned (val a) ∧ R = .ok a s1 ∧ At w0 c v u E s1 L w) ∨ (∃ er s1, e = .panicked (chV er) ∧ R = .bad er s1 ∧ Bad w0 c v u E s1 er L w) := by
  cases r with
  | ok a s1 => exact .inl ⟨a, s1, h.1, hR.out.symm, h.2⟩
  | bad er s1 => exact .inr ⟨er, s1, h.1, hR.out.symm, h.2⟩
  | out => exact h.elim
theorem ite_T {p : Prop} [Decidable p] {X Y R : Res β} (h : Hid ((if p then X else Y) = R)) (hp : p) : Hid (X = R) := Lib.hid ((if_pos hp).symm.trans h.out)
theorem ite_F {p : Prop} [Decidable p] {X Y R : Res β} (h : Hid ((if p then X else Y) = R)) (hp : ¬ p) : Hid (Y = R) := Lib.hid ((if_neg hp).symm.trans h.out)
theorem At.nil (h : At w0 c v u E s L w) : At w0 c v u E s [] w := by
  obtain ⟨vn, vt, h1, h2, h3, h4⟩ := h
  exact ⟨vn, vt, h1, h2, fun x hx => by simp at hx, by simp⟩
theorem Bad.nil {er : Int} (h : Bad w0 c v u E s er L w) : Bad w0 c v u E s er [] w := by
  obtain ⟨vn, vt, h1, h2, h3⟩ := h
  exact ⟨vn, vt, h1, h2, fun x hx => by simp at hx⟩
theorem Bad.sub {er : Int} {L' : List (Nat × Obj)} (h : Bad w0 c v u E s er L w) (hL : ∀ x ∈ L', x ∈ L) : Bad w0 c v u E s er L' w := by
  obtain ⟨vn, vt, h1, h2, h3⟩ := h
  exact ⟨vn, vt, h1, h2, fun x hx => h3 x (hL x hx)⟩
theorem AnsR.ret {a : α} (h : At w0 c v u E s L w) : AnsR w0 c v u E [] (.ok a s) val (.returned (val a)) w := ⟨rfl, h.nil⟩
theorem AnsR.err {er : Int} (h : Bad w0 c v u E s er L w) : AnsR w0 c v u E [] (.bad er s : Res α) val (.panicked (chV er)) w := ⟨rfl, h.nil⟩
/-- What ends a method alike. -/
theorem AnsR.end1 {R : Res α} {a : α} (hR : Hid (.ok a s = R)) (h : At w0 c v u E s L w) : AnsR w0 c v u E [] R val (.returned (val a)) w := by
  rw [← hR.out]; exact ⟨rfl, h.nil⟩

theorem PIn.fail {vn vt : Value} (h : PIn w c vn vt E s) (er : Int) : PBad (w.setCell ⟨c.p, 10, none⟩ (.int .i64 er)) c vn vt E s er := by
  have hz : ∀ k, k ≠ c.p → (w.setCell ⟨c.p, 10, none⟩ (.int .i64 er)).heap[k]? = w.heap[k]? := fun k hk => Below.heap_setCell _ _ _ _ (by simpa using hk)
  obtain ⟨cs, ty, hg, ht2⟩ := h.toks
  have h1 := h.gB; have h2 := h.ge
  exact ⟨cells_set h.head _ _, ⟨cs, ty, (hz _ (by omega)).trans hg, ht2⟩, h1, h2, h.rd, h.dp, h.tl⟩
theorem At.fail (h : At w0 c v u E s L w) (er : Int) : Bad w0 c v u E s er L (w.setCell ⟨c.p, 10, none⟩ (.int .i64 er)) := by
  obtain ⟨vn, vt, h1, h2, h3, h4⟩ := h
  exact ⟨vn, vt, h1.fail er, h2.setP 10 _, fun x hx => (Below.heap_setCell _ _ _ _ (by simpa using (h3 x hx).2.1.p)).trans (h3 x hx).1⟩
theorem fail_a (h : At w0 c v u E s L w) (er : Int) : Calls Tryz.prog 93 #[.pointer (some ⟨c.p, 0, none⟩), .int .i64 er] w fun e w' => e = .panicked (chV er) ∧ Bad w0 c v u E s er L w' := by
  obtain ⟨vn, vt, h1, _⟩ := id h
  have c10 : w.cell? ⟨c.p, 10, none⟩ = some (.int .i64 0) := by rw [cell_of_row w c.p _ _ _ _ h1.head]; rfl
  have f10 := h1.frozen 10
  have hp := lt_heap h1.head
  have H := Lib.hid h; clear h h1
  go_enter Tryz.func93, Tryz.ntmps93
  go_wp2
  exact ⟨rfl, rfl, H.out.fail er⟩
/-- What reads, for a caller in the midst of a method. -/
theorem At.liftR {f : FuncId} {args : Array Value} (h : At w0 c v u E s L w) (m : ∀ vn vt, PIn w c vn vt E s → Calls Tryz.prog f args w (AnsR w c vn vt E [] r val)) : Calls Tryz.prog f args w (AnsR w0 c v u E L r val) := by
  obtain ⟨vn, vt, h1, h2, h3, h5⟩ := h
  refine (m vn vt h1).mono ?_
  intro e w' ha
  cases r with
  | ok a s1 =>
    obtain ⟨rfl, vn', vt', h4, t4, _⟩ := ha
    exact ⟨rfl, vn', vt', h4, h2.trans t4, fun x hx => ⟨(t4.kept (h3 x hx).2.1 (lt_heap (h3 x hx).1)).trans (h3 x hx).1, (h3 x hx).2.1.turn (lt_heap (h3 x hx).1) t4, (h3 x hx).2.2⟩, h5⟩
  | bad er s1 =>
    obtain ⟨rfl, vn', vt', h4, t4, _⟩ := ha
    exact ⟨rfl, vn', vt', h4, h2.trans t4, fun x hx => (t4.kept (h3 x hx).2.1 (lt_heap (h3 x hx).1)).trans (h3 x hx).1⟩
  | out => exact ha.elim

/-! ### What only reads, with its answer spelled -/
theorem is_q {x : List UInt8} (h : At w0 c v u E s L w) : Calls Tryz.prog 94 #[.pointer (some ⟨c.p, 0, none⟩), .string (bt x)] w fun e w' => ∃ b, e = .returned (.bool b) ∧ isT E s x = b ∧ At w0 c v u E s L w' :=
  (is_a h rfl).mono fun _ _ ⟨he, ha⟩ => ⟨_, he, rfl, ha⟩
abbrev ndC (n : Nd) : Obj := .cells #[.int .i64 n.kind, .int .i64 n.a, .int .i64 n.b, .int .i64 n.c, .int .i64 n.d, .string (bt n.text), .int .i64 n.n, .int .i64 n.ty, .int .i64 n.pos] 33
theorem node_q {k : Int} (h : At w0 c v u E s L w) : Calls Tryz.prog 70 #[.pointer (some ⟨c.p, 0, none⟩), .int .i64 k] w fun e w' => e = .returned (ndV ⟨k, -1, -1, -1, -1, [], 0, 0, here E s⟩) ∧ At w0 c v u E s L w' ∧ At w0 c v u E s ((w'.heap.size, ndC ⟨k, -1, -1, -1, -1, [], 0, 0, here E s⟩) :: L) (w'.alloc (ndC ⟨k, -1, -1, -1, -1, [], 0, 0, here E s⟩)) :=
  (node_a h rfl).mono fun _ _ ⟨he, ha⟩ => ⟨he, ha, ha.alloc _⟩
theorem sign_q (h : At w0 c v u E s L w) : Calls Tryz.prog 152 #[.pointer (some ⟨c.p, 0, none⟩)] w fun e w' => e = .returned (sV (sgn E s)) ∧ At w0 c v u E s L w' :=
  (sign_a h rfl).mono fun _ _ ⟨he, ha⟩ => ⟨he, ha⟩
theorem now_q (h : At w0 c v u E s L w) : Calls Tryz.prog 27 #[.pointer (some ⟨c.p, 0, none⟩)] w fun e w' => ∃ t, e = .returned (tkV t) ∧ Hid (nowT E s = t) ∧ At w0 c v u E s L w' :=
  (now_a h rfl).mono fun _ _ ⟨he, ha⟩ => ⟨_, he, Lib.hid rfl, ha⟩

/-! ### Tokens -/
theorem take_q (h : At w0 c v u E s L w) (hN : takeM E s ≠ .out) : Calls Tryz.prog 127 #[.pointer (some ⟨c.p, 0, none⟩)] w (AnsR w0 c v u E L (takeM E s) tkV) := by
  refine h.liftR fun vn vt hq => ?_
  clear h
  have h := hq
  clear hq
  unfold takeM at hN ⊢
  by_cases hd : 100 < s.depth
  · rw [if_pos hd]
    have d6 := h.cells.2.2.2.2.2.2.1
    have hp := lt_heap h.head
    have e2 : (100 : Int) < (s.depth : Int) := by omega
    have e1 : decide ((100 : Int) < (s.depth : Int)) = true := by simpa using e2
    have H := Lib.hid (At.start h); clear h hN hd
    go_enter Tryz.func127, Tryz.ntmps127
    go_wp2_with ((with_reducible refine (fail_a (H.out.alloc _) 6).mono ?_); rintro e w1 ⟨rfl, hb⟩; exact ⟨rfl, AnsR.err hb⟩)
  · rw [if_neg hd] at hN ⊢
    by_cases hr : s.read < big
    · rw [if_pos hr]
      refine (take_p h (s' := { s with read := s.read + 1 }) (by unfold takeT; rw [if_pos ⟨by omega, hr⟩])).mono ?_
      rintro e w' ⟨vn', vt', rfl, h2, t2⟩
      exact ⟨rfl, vn', vt', h2, t2, fun x hx => by simp at hx, by simp⟩
    · rw [if_neg hr] at hN
      exact absurd rfl hN
end
end Go.Proofs.YtaamllikceaifaaGreatDoor
