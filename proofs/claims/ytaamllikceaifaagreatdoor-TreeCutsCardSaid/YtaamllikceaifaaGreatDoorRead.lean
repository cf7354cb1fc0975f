/-
  Contracts of Parse and Read.
  The contract of Read.
  Contracts of is and List.
-/
import Derived.Test.YtaamllikceaifaaGreatDoorNewp
import Derived.Test.YtaamllikceaifaaGreatDoorScan
import Derived.Test.YtaamllikceaifaaGreatDoorPlaced
namespace Go.Proofs.YtaamllikceaifaaGreatDoor
open Go.RowKit Sp Tr Go.Shelf
set_option linter.unusedVariables false

/-- A tree in memory. -/
structure TreeIn (w : World) (B : Nat) (vn vt : Value) (T : Tr.Tree) : Prop where
  nodes : w.ownsRow B 33 9 vn T.nodes.length (T.nodes.flatMap ndCells)
  types : w.ownsRow B 36 4 vt T.types.length (T.types.flatMap tyCells)
  ln : T.nodes.length ≤ 8192
  lt : T.types.length ≤ 256
theorem TreeIn.below {w w' : World} {B : Nat} {vn vt : Value} {T : Tr.Tree} (h : TreeIn w B vn vt T) (hb : Below w.heap.size w w') : TreeIn w' B vn vt T :=
  ⟨own_keep h.nodes fun g hg => hb.block g (h.nodes.lt g hg).2, own_keep h.types fun g hg => hb.block g (h.types.lt g hg).2, h.ln, h.lt⟩
theorem TreeIn.set {w : World} {B b j : Nat} {vn vt x : Value} {T : Tr.Tree} (h : TreeIn w B vn vt T) (hb : b < B) : TreeIn (w.setCell ⟨b, j, none⟩ x) B vn vt T :=
  ⟨own_keep h.nodes fun g hg => Below.heap_setCell _ _ _ _ (by have := (h.nodes.lt g hg).1; simp; omega), own_keep h.types fun g hg => Below.heap_setCell _ _ _ _ (by have := (h.types.lt g hg).1; simp; omega), h.ln, h.lt⟩
theorem TreeIn.mono {w : World} {B B' : Nat} {vn vt : Value} {T : Tr.Tree} (h : TreeIn w B vn vt T) (hb : B' ≤ B) : TreeIn w B' vn vt T := by
  refine ⟨?_, ?_, h.ln, h.lt⟩
  · obtain ⟨h1, h2⟩ := h.nodes
    exact ⟨h1, h2.imp id fun ⟨g, cap, cur, hv, hg, r⟩ => ⟨g, cap, cur, hv, Nat.le_trans hb hg, r⟩⟩
  · obtain ⟨h1, h2⟩ := h.types
    exact ⟨h1, h2.imp id fun ⟨g, cap, cur, hv, hg, r⟩ => ⟨g, cap, cur, hv, Nat.le_trans hb hg, r⟩⟩
theorem nv3 {w : World} {b : Nat} {x0 x1 x2 : Value} {t : TypeId} (h : w.heap[b]? = some (.cells #[x0, x1, x2] t (0, 0))) :
    w.cell? ⟨b, 0, none⟩ = some x0 ∧ w.cell? ⟨b, 1, none⟩ = some x1 ∧ w.cell? ⟨b, 2, none⟩ = some x2 ∧ w.frozen? ⟨b, 0, none⟩ = false ∧ w.frozen? ⟨b, 1, none⟩ = false ∧ w.frozen? ⟨b, 2, none⟩ = false := by
  refine ⟨?_, ?_, ?_, ?_, ?_, ?_⟩ <;> first | (rw [cell_of_row w b _ _ _ _ h]; rfl) | simp [World.frozen?, h]
def ParsePost (T : Tr.Tree) (w : World) (e : Ending) (w' : World) : Prop :=
  ∃ vn vt, e = .returned (.tuple #[.agg #[vn, vt, .int .i64 T.top], .int .i64 0, .int .i64 0]) ∧ TreeIn w' w.heap.size vn vt T ∧ Below w.heap.size w w'
/-- A list of tokens in memory that a parser can be made of. -/
structure ToksIn (w : World) (g cap : Nat) (ts : List Tok) (fin : Tok) : Prop where
  hg : 0 < g
  hf : fin.k = 0
  hl : ts.length ≤ 32768
  hc : ts.length + 1 ≤ cap
  hm : cap ≤ maxLen
  cells : ∃ cs ty, w.heap[g]? = some (.cells cs ty (0, 0)) ∧ ∀ i t, (ts ++ [fin])[i]? = some t → ∀ j, j < 4 → cs[i * 4 + j]? = (tkCells t)[j]?
  names : ∃ ty fr, w.heap[0]? = some (.cells namesV ty fr)
  kn : ∀ t, t ∈ fin :: ts → 0 ≤ t.k ∧ t.k ≤ 4 ∧ (t.n : Int) ≤ 4294967295 ∧ (t.pos : Int) ≤ 32768 ∧ t.text.length ≤ 32768
theorem ToksIn.below {w w' : World} {g cap : Nat} {ts : List Tok} {fin : Tok} (h : ToksIn w g cap ts fin) (hb : Below w.heap.size w w') : ToksIn w' g cap ts fin := by
  obtain ⟨cs, ty, hg, hc⟩ := h.cells
  obtain ⟨ty2, fr2, hn⟩ := h.names
  exact ⟨h.hg, h.hf, h.hl, h.hc, h.hm, ⟨cs, ty, (hb.block _ (lt_heap hg)).trans hg, hc⟩, ⟨ty2, fr2, (hb.block _ (lt_heap hn)).trans hn⟩, h.kn⟩
set_option maxHeartbeats 1000000 in
theorem parse_p {w : World} {g cap f : Nat} {ts : List Tok} {fin : Tok} {T : Tr.Tree} (hf : f ≤ 1000000) (h : ToksIn w g cap ts fin) (hT : parseT f ⟨ts, fin⟩ = some T) :
    Calls Tryz.prog 13 #[.slice (some ⟨g, 0, none⟩) (ts.length + 1) cap] w (ParsePost T w) := by
  unfold parseT at hT
  obtain ⟨⟨xs, s1⟩, h1, h2⟩ := Option.bind_eq_some_iff.1 hT
  obtain ⟨⟨q, s2⟩, h3, h4⟩ := Option.bind_eq_some_iff.1 h2
  injection h4 with h4
  subst h4
  have HT := Lib.hid h; clear h
  have H1 := Lib.hid h1
  have H3 := Lib.hid h3
  clear hT h1 h2 h3
  have hN : ∀ {w}, ToksIn w g cap ts fin → Calls Tryz.prog 25 #[.slice (some ⟨g, 0, none⟩) (ts.length + 1) cap] w _ := fun h => newParser_p h.hg h.hf h.hl h.hc h.hm h.cells h.names h.kn
  go_enter Tryz.func13, Tryz.ntmps13
  go_wp2_with (first | ((with_reducible refine (hN (HT.out.below ((Below.refl _ _).alloc (Nat.le_refl _) _))).mono ?_); rintro e v1 ⟨vt, rfl, hp, hb⟩; rw [World.size_alloc] at hp; have HP := Lib.hid hp; have HB := Lib.hid hb; clear hp hb) | ((with_reducible refine (program_p hf HP.out H1.out H3.out).mono ?_); rintro e v2 ⟨rfl, vn', vt', ht, hb⟩; obtain ⟨an, cn, rfl⟩ := row_slice ht.nodes; obtain ⟨ay, cy, rfl⟩ := row_slice ht.types; have c7 := ht.c7; have c8 := ht.c8; have c9 := ht.c9; obtain ⟨r0, r1, r2, z0, z1, z2⟩ := nv3 ((hb.block _ (by simp)).trans (new_at HB.out)); have HT2 := Lib.hid ht; have HB2 := Lib.hid hb; clear ht hb))
  refine bodyPost_ret (v := .tuple #[.agg #[.slice an s2.nodes.length cn, .slice ay s2.types.length cy, .int .i64 q], .int .i64 0, .int .i64 0]) (by simp [results, Tryz.results13, go_sem, r0, r1, r2] <;> rfl) rfl ⟨_, _, rfl, ?_, ?_⟩
  · have h0 : TreeIn v2 (w.heap.size + 1) (.slice an s2.nodes.length cn) (.slice ay s2.types.length cy) ⟨s2.nodes, s2.types, q⟩ := ⟨HT2.out.nodes, HT2.out.types, HT2.out.ln, HT2.out.lt⟩
    exact (((h0.set (by omega)).set (by omega)).set (by omega)).mono (by omega)
  · exact ((((((Below.refl _ _).alloc (Nat.le_refl _) _).trans (HB.out.mono (by simp))).trans (HB2.out.mono (by simp))).setCell (Nat.le_refl _) _).setCell (Nat.le_refl _) _).setCell (Nat.le_refl _) _
/-- What holds of the listed variables, tree's names too. -/
structure EnvT (w : World) : Prop where
  lex : Env w
  names : ∃ ty fr, w.heap[0]? = some (.cells namesV ty fr)
theorem EnvT.below {w w' : World} {B : Nat} (h : EnvT w) (hb : Below B w w') (hB : 11 ≤ B) : EnvT w' := by
  obtain ⟨ty, fr, hn⟩ := h.names
  exact ⟨h.lex.below hb hB, ty, fr, (hb.block _ (by omega)).trans hn⟩
theorem cellsOf_tk (ts : List Tok) : cellsOf ts = ts.flatMap tkCells := rfl
theorem Pl.mem {l : List UInt8} : ∀ {ts : List Tok} {a : Nat}, Sp.Pl l a ts → l.length ≤ 32768 → (∀ t ∈ ts, t.k ≤ 4) → ∀ t ∈ ts, 0 ≤ t.k ∧ t.k ≤ 4 ∧ (t.n : Int) ≤ 4294967295 ∧ (t.pos : Int) ≤ 32768 ∧ t.text.length ≤ 32768
  | [], _, h, _, _ => by simp [Sp.Pl] at h
  | [t], a, ⟨h1, h2, h3, h4, h5⟩, hl, hk => by
    intro x hx
    obtain rfl : x = t := by simpa using hx
    rw [h1, h2, h3]
    exact ⟨by omega, by omega, by omega, by omega, by simp⟩
  | t :: u :: r, a, ⟨h1, h2, h3, h4, h5, h6, h7⟩, hl, hk => by
    intro x hx
    rcases List.mem_cons.1 hx with rfl | hx
    · exact ⟨by omega, hk x (by simp), by omega, by omega, by omega⟩
    · exact Pl.mem h7 hl (fun t ht => hk t (List.mem_cons_of_mem _ ht)) x hx
end Go.Proofs.YtaamllikceaifaaGreatDoor
namespace Go.Proofs.YtaamllikceaifaaGreatDoor
open Go.RowKit Sp Tr Go.Shelf
set_option linter.unusedVariables false

theorem envOf_eq {l : List Tok} {E : PE} (h : envOf l = some E) : l = E.toks ++ [E.fin] ∧ E.fin.k = 0 := by
  unfold envOf at h
  cases hg : l.getLast? with
  | none => rw [hg] at h; cases h
  | some t =>
    rw [hg] at h
    dsimp only at h
    split at h
    · rename_i hk
      injection h with h
      subst h
      refine ⟨?_, hk⟩
      have hne : l ≠ [] := by rintro rfl; simp at hg
      have := List.dropLast_concat_getLast hne
      rw [List.getLast?_eq_some_getLast hne] at hg
      injection hg with hg
      rw [hg] at this
      exact this.symm
    · cases h
theorem toksIn_of {w : World} {g cap base : Nat} {l : List Tok} {E : PE} {src : List UInt8} (h : Toks g cap base l w) (hb : 0 < base) (hn : ∃ ty fr, w.heap[0]? = some (.cells namesV ty fr)) (hs : Sp.scan src = .ok l) (hk : ∀ t ∈ l, t.k ≤ 4) (hE : envOf l = some E) :
    ToksIn w g cap E.toks E.fin := by
  obtain ⟨he, hf⟩ := envOf_eq hE
  have hsl : src.length ≤ 32768 := by
    unfold Sp.scan at hs
    split at hs
    · cases hs
    · omega
  have hpl := Pl.mem (Sp.scan_placed hs) hsl hk
  have hfew := Sp.scan_few hs
  have hlen : l.length = E.toks.length + 1 := by rw [he]; simp
  obtain ⟨h1, h2⟩ := h.own
  rcases h2 with ⟨e, _⟩ | ⟨g', cap', cur, hv, hge, hh, hle, hcm, hcs, htk⟩
  · cases e
  simp only [Value.slice.injEq, Option.some.injEq, Addr.mk.injEq] at hv
  obtain ⟨⟨rfl, _⟩, _, rfl⟩ := hv
  refine ⟨by omega, hf, by omega, by omega, hcm, ⟨cur, _, hh, fun i t hi j hj => ?_⟩, hn, fun t ht => hpl t ?_⟩
  · rw [← he] at hi
    have hil := (List.getElem?_eq_some_iff.1 hi).1
    have h3 := flat_at tkCells 4 (fun _ => rfl) l i j t hi hj
    rw [← h3, ← cellsOf_tk, ← htk, List.getElem?_take, if_pos (by omega)]
    simp
  · rw [he]
    rcases List.mem_cons.1 ht with rfl | ht
    · simp
    · simp [ht]
set_option maxHeartbeats 1000000 in
theorem read_p {w : World} {s : ByteArray} {f : Nat} {l : List Tok} {E : PE} {T : Tr.Tree} (hf : f ≤ 1000000) (henv : EnvT w) (hs : s.size ≤ maxLen) (hl : Sp.scan s.data.toList = .ok l) (hk : ∀ t ∈ l, t.k ≤ 4) (hE : envOf l = some E) (hT : parseT f E = some T) :
    Calls Tryz.prog 9 #[.string s] w (ParsePost T w) := by
  have hz := henv.lex.sz
  have HE := Lib.hid henv; clear henv
  have hlen : l.length = E.toks.length + 1 := by rw [(envOf_eq hE).1]; simp
  have HL := Lib.hid hl
  have HF := Lib.hid hE
  have HK := Lib.hid hk
  have HTT := Lib.hid hT
  clear hl hE hk hT
  have HA : Hid (EnvT (w.alloc (.cells #[.slice none 0 0, .slice none 0 0, .int .i64 0] 26))) := Lib.hid (HE.out.below ((Below.refl _ _).alloc (Nat.le_refl _) _) hz)
  go_enter Tryz.func9, Tryz.ntmps9
  go_wp2_with (first | ((with_reducible refine (scan_ok s l _ HA.out.lex hs HL.out).mono ?_); rintro e v1 ⟨g, cap, rfl, ht, hb⟩; have hb1 := hb.size; rw [World.size_alloc] at hb1; have HT := Lib.hid (toksIn_of ht (by simp) (HA.out.below hb (by simp; omega)).names HL.out HK.out HF.out); have HB := Lib.hid hb; rw [hlen]; clear ht hb) | ((with_reducible refine (parse_p hf HT.out HTT.out).mono ?_); rintro e v2 ⟨vn', vt', rfl, ht, hb⟩; obtain ⟨an, cn, rfl⟩ := row_slice ht.nodes; obtain ⟨ay, cy, rfl⟩ := row_slice ht.types; obtain ⟨r0, r1, r2, z0, z1, z2⟩ := nv3 ((hb.block _ (by omega)).trans (new_at HB.out)); have HT2 := Lib.hid ht; have HB2 := Lib.hid hb; clear ht hb))
  refine bodyPost_ret (v := .tuple #[.agg #[.slice an T.nodes.length cn, .slice ay T.types.length cy, .int .i64 T.top], .int .i64 0, .int .i64 0]) (by simp [results, Tryz.results9, go_sem, r0, r1, r2] <;> rfl) rfl ⟨_, _, rfl, ?_, ?_⟩
  · exact (((HT2.out.set (by omega)).set (by omega)).set (by omega)).mono (by omega)
  · exact ((((((Below.refl _ _).alloc (Nat.le_refl _) _).trans (HB.out.mono (by simp))).trans (HB2.out.mono (by omega))).setCell (Nat.le_refl _) _).setCell (Nat.le_refl _) _).setCell (Nat.le_refl _) _
end Go.Proofs.YtaamllikceaifaaGreatDoor
namespace Go.Proofs.YtaamllikceaifaaGreatDoor
open Go.RowKit Sp Tr Go.Shelf
set_option linter.unusedVariables false

def trV (vn vt : Value) (T : Tr.Tree) : Value := .agg #[vn, vt, .int .i64 T.top]
def ndAt (T : Tr.Tree) (n : Int) : Option Nd := if n < 0 then none else T.nodes[n.toNat]?
def isNd (T : Tr.Tree) (n k : Int) : Bool := match ndAt T n with | some x => x.kind == k | none => false
/-- A list's items. -/
def itemsF : Nat → Tr.Tree → Int → Nat → List Int
  | 0, _, _, _ => []
  | f + 1, T, n, have_ => if isNd T n 20 && decide (have_ < T.nodes.length) then (match ndAt T n with | some x => x.a :: itemsF f T x.b (have_ + 1) | none => []) else []
theorem TreeIn.node {w : World} {B g n cap : Nat} {vt : Value} {T : Tr.Tree} (h : TreeIn w B (.slice (some ⟨g, 0, none⟩) n cap) vt T) {i : Nat} {x : Nd} (hi : T.nodes[i]? = some x) :
    ∀ j u, j < 9 → (ndCells x)[j]? = some u → w.cell? ⟨g, i * 9 + j, none⟩ = some u := by
  intro j u hj hu
  have hc := h.nodes.cells (g := g) rfl (i * 9 + j) u (by rw [flat_at ndCells 9 (fun _ => rfl) T.nodes i j x hi hj]; exact hu)
  have hadd : (⟨g, 0, none⟩ : Addr).add (i * 9 + j) = ⟨g, i * 9 + j, none⟩ := by unfold Addr.add; split <;> simp_all
  rwa [hadd] at hc
theorem is_t {w : World} {B : Nat} {vn vt : Value} {T : Tr.Tree} (h : TreeIn w B vn vt T) (n k : Int) (hn : -9223372036854775808 ≤ n ∧ n ≤ 9223372036854775807) :
    Calls Tryz.prog 21 #[.agg #[vn, vt, .int .i64 T.top], .int .i64 n, .int .i64 k] w (RPost (.bool (isNd T n k)) w) := by
  obtain ⟨an, cn, rfl⟩ := row_slice h.nodes
  obtain ⟨ay, cy, rfl⟩ := row_slice h.types
  have hln := h.ln
  by_cases h0 : n < 0
  · have e : isNd T n k = false := by unfold isNd ndAt; rw [if_pos h0]
    rw [e]
    have e1 : decide ((0 : Int) ≤ n) = false := by simpa using h0
    clear h
    go_enter Tryz.func21, Tryz.ntmps21
    go_wp2
    go_ret
    exact ⟨rfl, (Below.refl _ _).alloc (Nat.le_refl _) _⟩
  · obtain ⟨q, rfl⟩ : ∃ q : Nat, n = q := ⟨n.toNat, by omega⟩
    have e1 : decide ((0 : Int) ≤ (q : Int)) = true := by simp
    by_cases hq : q < T.nodes.length
    · obtain ⟨x, hx⟩ : ∃ x, T.nodes[q]? = some x := ⟨_, List.getElem?_eq_getElem hq⟩
      obtain ⟨g, cap, hv, _, hg⟩ := h.nodes.form (by omega)
      simp only [Value.slice.injEq] at hv
      obtain ⟨rfl, _, rfl⟩ := hv
      have c0 : w.cell? ⟨g, q * 9, none⟩ = some (.int .i64 x.kind) := h.node hx 0 _ (by omega) rfl
      have e : isNd T q k = (x.kind == k) := by unfold isNd ndAt; rw [if_neg h0, Int.toNat_natCast, hx]
      rw [e]
      have q0 : (0 : Int) ≤ (q : Int) := Int.natCast_nonneg _
      have q1 : (q : Int) < (T.nodes.length : Int) := by omega
      have e2 : decide (q < T.nodes.length) = true := by simpa using hq
      clear h hx
      go_enter Tryz.func21, Tryz.ntmps21
      go_wp2
      go_ret
      exact ⟨rfl, (Below.refl _ _).alloc (Nat.le_refl _) _⟩
    · have e : isNd T q k = false := by unfold isNd ndAt; rw [if_neg h0, Int.toNat_natCast, List.getElem?_eq_none (by omega)]
      rw [e]
      have e2 : decide (q < T.nodes.length) = false := by simpa using hq
      clear h
      go_enter Tryz.func21, Tryz.ntmps21
      go_wp2
      go_ret
      exact ⟨rfl, (Below.refl _ _).alloc (Nat.le_refl _) _⟩
theorem is_lit {w : World} {B : Nat} {vn vt : Value} {T : Tr.Tree} {n k : Int} {b : Bool} (h : TreeIn w B vn vt T) (hn : -9223372036854775808 ≤ n ∧ n ≤ 9223372036854775807) (hb : isNd T n k = b) :
    Calls Tryz.prog 21 #[.agg #[vn, vt, .int .i64 T.top], .int .i64 n, .int .i64 k] w (RPost (.bool b) w) := hb ▸ is_t h n k hn
/-- The parts of a tree's nodes are words that an int can be. -/
def Fits (T : Tr.Tree) : Prop := ∀ x ∈ T.nodes, (-9223372036854775808 ≤ x.a ∧ x.a ≤ 9223372036854775807) ∧ (-9223372036854775808 ≤ x.b ∧ x.b ≤ 9223372036854775807)
def ListPost (xs : List Int) (w : World) (e : Ending) (w' : World) : Prop :=
  ∃ v, e = .returned v ∧ w'.ownsRow w.heap.size 3 1 v xs.length (xs.map (Value.int .i64)) ∧ Below w.heap.size w w'
theorem ownsRow_le {w : World} {base base' size n : Nat} {e : TypeId} {v : Value} {xs : List Value} (h : w.ownsRow base e size v n xs) (hb : base' ≤ base) : w.ownsRow base' e size v n xs := by
  obtain ⟨h1, h2⟩ := h
  exact ⟨h1, h2.imp id fun ⟨g, cap, cur, hv, hg, r⟩ => ⟨g, cap, cur, hv, Nat.le_trans hb hg, r⟩⟩
theorem itemsF_no {f : Nat} {T : Tr.Tree} {n : Int} {k : Nat} (h : isNd T n 20 = false) : itemsF f T n k = [] := by
  cases f with
  | zero => rfl
  | succ f => unfold itemsF; rw [h]; rfl
theorem itemsF_full {f : Nat} {T : Tr.Tree} {n : Int} {k : Nat} (h : ¬ k < T.nodes.length) : itemsF f T n k = [] := by
  cases f with
  | zero => rfl
  | succ f => unfold itemsF; rw [decide_eq_false h, Bool.and_false]; rfl
theorem itemsF_step {f : Nat} {T : Tr.Tree} {n : Int} {k : Nat} {x : Nd} (h : isNd T n 20 = true) (hk : k < T.nodes.length) (hx : ndAt T n = some x) : itemsF (f + 1) T n k = x.a :: itemsF f T x.b (k + 1) := by
  conv => lhs; unfold itemsF
  rw [h, decide_eq_true hk, hx]; rfl
set_option maxHeartbeats 2000000 in
theorem list_t {w : World} {B F : Nat} {vn vt : Value} {T : Tr.Tree} (h : TreeIn w B vn vt T) (hF : Fits T) (n : Int) (hn : -9223372036854775808 ≤ n ∧ n ≤ 9223372036854775807) (hFF : T.nodes.length < F) :
    Calls Tryz.prog 11 #[.agg #[vn, vt, .int .i64 T.top], .int .i64 n] w (ListPost (itemsF F T n 0) w) := by
  obtain ⟨an, cn, rfl⟩ := row_slice h.nodes
  obtain ⟨ay, cy, rfl⟩ := row_slice h.types
  have hln := h.ln
  obtain ⟨i0, hi0, hz0, hz1, hz2⟩ := info_parts infoInt
  have H := Lib.hid h; clear h
  have HF := Lib.hid hF; clear hF
  go_enter Tryz.func11, Tryz.ntmps11
  go_wp2
  go_loopg [1, 5] F (fun gk s1 s5 wr => ∃ (m : Int) (pre : List Int), s1 = .int .i64 m ∧ (-9223372036854775808 ≤ m ∧ m ≤ 9223372036854775807) ∧ Hid (pre ++ itemsF gk T m pre.length = itemsF F T n 0) ∧ gk + pre.length = F ∧ pre.length ≤ T.nodes.length ∧ Hid (wr.ownsRow (w.heap.size + 1) 3 1 s5 pre.length (pre.map (Value.int .i64))) ∧ Hid (Below w.heap.size w wr) ∧ Hid (wr.heap[w.heap.size]? = some (.cells #[.slice an T.nodes.length cn, .slice ay T.types.length cy, .int .i64 T.top] 26 (0, 0))))
  case atStart => exact ⟨n, [], rfl, hn, Lib.hid (by rfl), rfl, Nat.zero_le _, Lib.hid ⟨rfl, .inl ⟨rfl, rfl⟩⟩, Lib.hid ((Below.refl _ _).alloc (Nat.le_refl _) _), Lib.hid (heap_alloc_new w _)⟩
  case round =>
    obtain ⟨m, pre, rfl, hm, HI, hgk, hpl, HR, HB, HH⟩ := hrel
    obtain ⟨r0, r1, r2, _, _, _⟩ := nv3 HH.out
    have hz := lt_heap HH.out
    obtain ⟨a5, c5, rfl⟩ := row_slice HR.out
    have HT := Lib.hid (H.out.below HB.out)
    by_cases hi : isNd T m 20 = true
    · have HX := Lib.hid hi
      by_cases hk : pre.length < T.nodes.length
      · cases gk with
        | zero => omega
        | succ g =>
          obtain ⟨q, x, rfl, hx⟩ : ∃ (q : Nat) (x : Nd), m = q ∧ T.nodes[q]? = some x := by
            unfold isNd ndAt at hi
            by_cases h0 : m < 0
            · rw [if_pos h0] at hi; cases hi
            · rw [if_neg h0] at hi
              cases hx : T.nodes[m.toNat]? with
              | none => rw [hx] at hi; cases hi
              | some x => exact ⟨m.toNat, x, by omega, hx⟩
          have hI := HI.out
          have hnd : ndAt T q = some x := by unfold ndAt; rw [if_neg (by omega), Int.toNat_natCast, hx]
          rw [itemsF_step hi hk hnd] at hI
          have HI2 := Lib.hid hI
          have hq : q < T.nodes.length := (List.getElem?_eq_some_iff.1 hx).1
          obtain ⟨gg, cap, hv, _, hg⟩ := H.out.nodes.form (by omega)
          simp only [Value.slice.injEq] at hv
          obtain ⟨rfl, _, rfl⟩ := hv
          have q0 : (0 : Int) ≤ (q : Int) := Int.natCast_nonneg _
          have q1 : (q : Int) < (T.nodes.length : Int) := by omega
          have e2 : decide (pre.length < T.nodes.length) = true := by simpa using hk
          have hxm := HF.out x (List.mem_of_getElem? hx)
          have HXX := Lib.hid hx
          clear hI hi hx hnd HI
          go_wp2_with (first | ((with_reducible refine (is_lit HT.out hm HX.out).mono ?_); rintro e v1 ⟨rfl, hb⟩; obtain ⟨p0, p1, p2, _, _, _⟩ := nv3 ((hb.block _ hz).trans HH.out); have hs1 := hb.size; have hR1 := own_keep HR.out (fun g hg => hb.block g (HR.out.lt g hg).2); have hT1 := HT.out.below hb; have ca := hT1.node HXX.out 1 (.int .i64 x.a) (by omega) rfl; have cb := hT1.node HXX.out 2 (.int .i64 x.b) (by omega) rfl; have zg := (hT1.nodes.lt gg rfl).2; have HB1 := Lib.hid hb; clear hT1 hb) | (at_builtin; refine wpList_append_lies _ rfl (.tmp 17) (.tmp 24) 37 rfl (w.heap.size + 1) 3 i0 (.int .i64 0) 1 8 Tryz.underlying37 hi0 hz0 hz1 hz2 rfl (by decide) _ pre.length (pre.map (Value.int .i64)) rfl (hR1.alloc _) ⟨v1.heap.size, 0, none⟩ 1 1 [.int .i64 x.a] rfl rfl (cell_one_new _ _ _) (by simp [Value.oneCell']) (by omega) (by unfold maxLen; omega) (by omega) (by simp; omega) (v1.heap.size + 1) (by simp) ?_; intro g2 cap2 w1 hown1 hgrow hat hlt1; have HO := Lib.hid hown1; have hbl : Below w.heap.size w w1 := (((HB.out.trans (HB1.out.mono HB.out.size)).alloc (by have := HB.out.size; omega) _).grown hgrow (by have := HB.out.size; simp; omega) (fun k e => by have := (hR1.lt k e).1; omega)); have HBL := Lib.hid hbl; have hT2 := H.out.below hbl; have ca2 := hT2.node HXX.out 1 (.int .i64 x.a) (by omega) rfl; have cb2 := hT2.node HXX.out 2 (.int .i64 x.b) (by omega) rfl; have hh2 : w1.heap[w.heap.size]? = _ := (hgrow.block _ (by simp; omega) (fun e => by have := (hR1.lt _ e.symm).1; omega)).trans ((Below.heap_alloc _ _ _ (by omega)).trans ((HB1.out.block _ hz).trans HH.out)); obtain ⟨u0, u1, u2, _, _, _⟩ := nv3 hh2; have HH2 := Lib.hid hh2; clear hown1 hgrow hat hbl hT2 hh2))
          go_roundg g
          case rel => exact ⟨x.b, pre ++ [x.a], rfl, hxm.2, Lib.hid (by rw [List.append_assoc, List.length_append]; exact HI2.out), by simp; omega, by simp; omega, Lib.hid (by simpa using HO.out), HBL, HH2⟩
          case measure => omega
      · have e2 : decide (pre.length < T.nodes.length) = false := by simpa using hk
        have hI := HI.out
        rw [itemsF_full hk, List.append_nil] at hI
        have HI2 := Lib.hid hI; clear hI HI
        go_wp2_with ((with_reducible refine (is_lit HT.out hm HX.out).mono ?_); rintro e v1 ⟨rfl, hb⟩; obtain ⟨p0, p1, p2, _, _, _⟩ := nv3 ((hb.block _ hz).trans HH.out); have HB1 := Lib.hid hb; clear hb)
        go_ret
        exact ⟨_, rfl, by rw [← HI2.out]; exact ownsRow_le (own_keep HR.out (fun g hg => HB1.out.block g (HR.out.lt g hg).2)) (by omega), HB.out.trans (HB1.out.mono HB.out.size)⟩
    · have HX := Lib.hid (bfalse hi)
      have hI := HI.out
      rw [itemsF_no HX.out, List.append_nil] at hI
      have HI2 := Lib.hid hI; clear hI HI
      go_wp2_with ((with_reducible refine (is_lit HT.out hm HX.out).mono ?_); rintro e v1 ⟨rfl, hb⟩; have HB1 := Lib.hid hb; clear hb)
      go_ret
      exact ⟨_, rfl, by rw [← HI2.out]; exact ownsRow_le (own_keep HR.out (fun g hg => HB1.out.block g (HR.out.lt g hg).2)) (by omega), HB.out.trans (HB1.out.mono HB.out.size)⟩
end Go.Proofs.YtaamllikceaifaaGreatDoor
