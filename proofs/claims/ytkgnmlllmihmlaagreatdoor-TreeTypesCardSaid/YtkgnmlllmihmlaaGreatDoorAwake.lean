/-
  The laws' own 'awake'.
-/
import Derived.Test.YtkgnmlllmihmlaaGreatDoorAwk
namespace Go.Proofs.YtkgnmlllmihmlaaGreatDoor
open Go.RowKit Sp Tr Go.Shelf
set_option linter.unusedVariables false

abbrev srcA : List UInt8 := [105, 110, 116, 32, 109, 97, 105, 110, 40, 41, 123, 114, 101, 116, 117, 114, 110, 32, 49, 43, 50, 42, 51, 59, 125]
abbrev srcB : List UInt8 := [105, 110, 116, 32, 109, 97, 105, 110, 40, 41, 123, 114, 101, 116, 117, 114, 110, 32, 40, 49, 43, 40, 50, 42, 51, 41, 41, 59, 125]
def nodesA (p1 p2 p3 p4 p5 : Int) : List Nd := [⟨1, -1, -1, -1, -1, [], 1, 0, p1⟩, ⟨1, -1, -1, -1, -1, [], 2, 0, p2⟩, ⟨1, -1, -1, -1, -1, [], 3, 0, p3⟩, ⟨4, 1, 2, -1, -1, [42], 0, 0, p4⟩, ⟨4, 0, 3, -1, -1, [43], 0, 0, p5⟩, ⟨37, 4, -1, -1, -1, [], 0, 0, 11⟩, ⟨20, 5, -1, -1, -1, [], 0, 0, 11⟩, ⟨43, 6, -1, -1, -1, [], 0, 0, 10⟩, ⟨50, -1, 7, -1, -1, [109, 97, 105, 110], 0, 1, 0⟩, ⟨20, 8, -1, -1, -1, [], 0, 0, 0⟩]
def typesA : List Ty := [⟨0, 0, 0, []⟩, ⟨1, 0, 0, []⟩, ⟨2, 0, 0, []⟩, ⟨3, 0, 0, []⟩]
def treeA : Tr.Tree := ⟨nodesA 18 20 22 21 19, typesA, 9⟩
def treeB : Tr.Tree := ⟨nodesA 19 22 24 23 20, typesA, 9⟩
/-- What is read of a source. -/
structure Read' (src : List UInt8) (f : Nat) (T : Tr.Tree) : Prop where
  out : ∃ l E, Sp.scan src = .ok l ∧ (∀ t ∈ l, t.k ≤ 4) ∧ envOf l = some E ∧ parseT f E = some T
def readOk (f : Nat) (src : List UInt8) : Option Tr.Tree := match Sp.scan src with
  | .ok l => if l.all (fun t => decide (t.k ≤ 4)) then (envOf l).bind (parseT f) else none
  | .error _ => none
theorem readOk_out {f : Nat} {src : List UInt8} {T : Tr.Tree} (h : readOk f src = some T) : Read' src f T := by
  unfold readOk at h
  cases hs : Sp.scan src with
  | error e => rw [hs] at h; cases h
  | ok l =>
    rw [hs] at h
    dsimp only at h
    split at h
    · rename_i hk
      obtain ⟨E, hE, hT⟩ := Option.bind_eq_some_iff.1 h
      exact ⟨l, E, hs, fun t ht => by simpa using (List.all_eq_true.1 hk) t ht, hE, hT⟩
    · cases h
theorem readA : Read' srcA 60 treeA := readOk_out (by kernel_rfl)
theorem readB : Read' srcB 60 treeB := readOk_out (by kernel_rfl)
theorem read_r {w : World} {s : ByteArray} {f : Nat} {T : Tr.Tree} (hf : f ≤ 1000000) (henv : EnvT w) (hs : s.size ≤ maxLen) (h : Read' s.data.toList f T) :
    Calls Tryz.prog 9 #[.string s] w (ParsePost T w) := by
  obtain ⟨l, E, h1, h2, h3, h4⟩ := h.out
  exact read_p hf henv hs h1 h2 h3 h4
theorem fitsA : Fits treeA := by
  intro x hx
  simp only [treeA, nodesA, List.mem_cons, List.not_mem_nil, or_false] at hx
  rcases hx with rfl | rfl | rfl | rfl | rfl | rfl | rfl | rfl | rfl | rfl <;> simp
theorem tellsA : Tells treeA 5 ⟨37, 4, -1, -1, -1, [], 0, 0, 11⟩ ⟨4, 0, 3, -1, -1, [43], 0, 0, 19⟩ ⟨4, 1, 2, -1, -1, [42], 0, 0, 21⟩ := by
  refine ⟨?_, rfl, rfl, rfl, rfl, rfl, rfl, rfl, rfl, rfl, rfl, rfl⟩
  intro k x hk hx
  have h5 : k = 0 ∨ k = 1 ∨ k = 2 ∨ k = 3 ∨ k = 4 := by omega
  rcases h5 with rfl | rfl | rfl | rfl | rfl <;> (simp only [treeA, nodesA] at hx; injection hx with hx; subst hx; simp)
theorem alikeAB : ∀ (i : Nat) (x : Nd), treeA.nodes[i]? = some x → ∃ p : Int, treeB.nodes[i]? = some ⟨x.kind, x.a, x.b, x.c, x.d, x.text, x.n, x.ty, p⟩ := by
  intro i x hx
  have hl : i < 10 := (List.getElem?_eq_some_iff.1 hx).1
  have h5 : i = 0 ∨ i = 1 ∨ i = 2 ∨ i = 3 ∨ i = 4 ∨ i = 5 ∨ i = 6 ∨ i = 7 ∨ i = 8 ∨ i = 9 := by omega
  rcases h5 with rfl | rfl | rfl | rfl | rfl | rfl | rfl | rfl | rfl | rfl <;> (simp only [treeA, nodesA] at hx; injection hx with hx; subst hx; exact ⟨_, rfl⟩)
theorem same_b {w : World} {b1 b2 B1 B2 : Nat} {vn vt un ut : Value} (h1 : TB w b1 B1 vn vt treeA) (h2 : TB w b2 B2 un ut treeB) :
    Calls Tryz.prog 17 #[.agg #[vn, vt, .int .i64 treeA.top], .agg #[un, ut, .int .i64 treeB.top]] w (RPost (.bool true) w) := same_t h1.t h2.t rfl rfl rfl alikeAB
theorem bound_b {w : World} {b B : Nat} {vn vt : Value} (h : TB w b B vn vt treeA) : Calls Tryz.prog 18 #[.agg #[vn, vt, .int .i64 treeA.top]] w (RPost (.bool true) w) := bound_t h.t fitsA tellsA
set_option maxHeartbeats 1000000 in
theorem awake_any (w : World) (henv : EnvT w) :
    Calls Tryz.prog 8 #[] w fun e w' => e = .returned (.bool true) ∧ Below w.heap.size w w' := by
  have hs1 : (⟨#[105, 110, 116, 32, 109, 97, 105, 110, 40, 41, 123, 114, 101, 116, 117, 114, 110, 32, 49, 43, 50, 42, 51, 59, 125]⟩ : ByteArray).size ≤ maxLen := by decide
  have hs2 : (⟨#[105, 110, 116, 32, 109, 97, 105, 110, 40, 41, 123, 114, 101, 116, 117, 114, 110, 32, 40, 49, 43, 40, 50, 42, 51, 41, 41, 59, 125]⟩ : ByteArray).size ≤ maxLen := by decide
  have hsz := henv.lex.sz
  have HE := Lib.hid henv; clear henv
  go_enter Tryz.func8, Tryz.ntmps8
  have HRA : Hid (Calls Tryz.prog 9 #[.string ⟨#[105, 110, 116, 32, 109, 97, 105, 110, 40, 41, 123, 114, 101, 116, 117, 114, 110, 32, 49, 43, 50, 42, 51, 59, 125]⟩] w (ParsePost treeA w)) := Lib.hid (read_r (f := 60) (T := treeA) (by omega) HE.out hs1 readA)
  have HRB : ∀ v, Below w.heap.size w v → Hid (Calls Tryz.prog 9 #[.string ⟨#[105, 110, 116, 32, 109, 97, 105, 110, 40, 41, 123, 114, 101, 116, 117, 114, 110, 32, 40, 49, 43, 40, 50, 42, 51, 41, 41, 59, 125]⟩] v (ParsePost treeB v)) := fun v hb => Lib.hid (read_r (f := 60) (T := treeB) (by omega) (HE.out.below hb hsz) hs2 readB)
  have HRB' := Lib.hid HRB; clear HRB hs1 hs2
  go_wp2_with (first | ((with_reducible refine HRA.out.mono ?_); rintro e v1 ⟨vn, vt, rfl, ht, hb⟩; obtain ⟨an, cn, rfl⟩ := row_slice ht.nodes; obtain ⟨ay, cy, rfl⟩ := row_slice ht.types; have HB := Lib.hid hb; have HA : Hid (TB (v1.alloc (trO (.slice an treeA.nodes.length cn) (.slice ay treeA.types.length cy) treeA)) v1.heap.size w.heap.size (.slice an treeA.nodes.length cn) (.slice ay treeA.types.length cy) treeA) := Lib.hid ⟨ht.below ((Below.refl v1.heap.size v1).alloc (Nat.le_refl _) _), heap_alloc_new _ _⟩; have HC := Lib.hid (hb.alloc hb.size (trO (.slice an treeA.nodes.length cn) (.slice ay treeA.types.length cy) treeA)); clear ht hb) | ((with_reducible refine (HRB'.out _ HC.out).out.mono ?_); rintro e v2 ⟨vn2, vt2, rfl, ht, hb⟩; obtain ⟨bn, dn, rfl⟩ := row_slice ht.nodes; obtain ⟨by', dy, rfl⟩ := row_slice ht.types; have HD := Lib.hid hb; have HA2 := Lib.hid ((HA.out.below hb).alloc (trO (.slice bn treeB.nodes.length dn) (.slice by' treeB.types.length dy) treeB)); have HB2 : Hid (TB (v2.alloc (trO (.slice bn treeB.nodes.length dn) (.slice by' treeB.types.length dy) treeB)) v2.heap.size _ (.slice bn treeB.nodes.length dn) (.slice by' treeB.types.length dy) treeB) := Lib.hid ⟨ht.below ((Below.refl v2.heap.size v2).alloc (Nat.le_refl _) _), heap_alloc_new _ _⟩; obtain ⟨r0, r1, r2, _⟩ := nv3 (HA.out.below hb).b; have z1 := lt_heap (HA.out.below hb).b; clear ht hb) | ((with_reducible refine (same_b HA2.out HB2.out).mono ?_); rintro e v3 ⟨rfl, hb⟩; have HA3 := Lib.hid (HA2.out.below hb); obtain ⟨k0, k1, k2, _⟩ := nv3 HA3.out.b; have HE3 := Lib.hid hb; clear hb) | ((with_reducible refine (bound_b HA3.out).mono ?_); rintro e v4 ⟨rfl, hb⟩; have HE4 := Lib.hid hb; clear hb))
  go_ret
  have b2 := HC.out.trans (HD.out.mono HC.out.size)
  have b3 := b2.alloc b2.size (trO (.slice bn treeB.nodes.length dn) (.slice by' treeB.types.length dy) treeB)
  have b4 := b3.trans (HE3.out.mono b3.size)
  exact ⟨rfl, b4.trans (HE4.out.mono b4.size)⟩
end Go.Proofs.YtkgnmlllmihmlaaGreatDoor
