/-
  Semidominators and dominators as they are reckoned, on lists.
  Layer 9: contract of shorten.
  Layer 9: slices.Repeat of one number.
-/
import Derived.Test.YtbpagfddofbjbaaQG9C
import Derived.Test.YtbpagfddofbjbaaQG9A
import Derived.Test.YtbpagfddofbjbaaLast
import Derived.Test.YtbpagfddofbjbaaQR9A
import Derived.Laws.CopyOwn
namespace Go.Proofs.Ytbpagfddofbjbaa.Cd
set_option linter.unusedVariables false

/-- The lowest of each place, and what is above. -/
abbrev LU := List Int × List Int
def gt (l : List Int) (n : Int) : Int := l.getD n.toNat 0
def shortF : Nat → Int → LU → LU
  | 0, _, s => s
  | f + 1, n, s => if gt s.2 n = -1 ∨ gt s.2 (gt s.2 n) = -1 then s else
    ((shortF f (gt s.2 n) s).1.set n.toNat (min (gt (shortF f (gt s.2 n) s).1 n) (gt (shortF f (gt s.2 n) s).1 (gt (shortF f (gt s.2 n) s).2 n))),
     (shortF f (gt s.2 n) s).2.set n.toNat (gt (shortF f (gt s.2 n) s).2 (gt (shortF f (gt s.2 n) s).2 n)))
/-- Places are above those of higher numbers. -/
def UpOk (m : Nat) (up : List Int) : Prop := up.length = m ∧ ∀ (i : Nat) (u : Int), up[i]? = some u → -1 ≤ u ∧ u < (i : Int)
def InR (m : Nat) (l : List Int) : Prop := l.length = m ∧ ∀ x ∈ l, 0 ≤ x ∧ x ≤ (m : Int)
theorem gt_at {l : List Int} {n : Int} {x : Int} (h : l[n.toNat]? = some x) : gt l n = x := by unfold gt; rw [List.getD_eq_getElem?_getD, h]; rfl
theorem gt_get {l : List Int} {n : Int} (h : n.toNat < l.length) : l[n.toNat]? = some (gt l n) := by
  have : l[n.toNat]? = some l[n.toNat] := List.getElem?_eq_getElem h
  rw [this, gt_at this]
theorem InR.gt {m : Nat} {l : List Int} (h : InR m l) {n : Int} (hn : n.toNat < m) : 0 ≤ gt l n ∧ gt l n ≤ (m : Int) :=
  h.2 _ (List.mem_of_getElem? (gt_get (by rw [h.1]; exact hn)))
theorem UpOk.gt {m : Nat} {l : List Int} (h : UpOk m l) {n : Int} (h0 : 0 ≤ n) (hn : n < (m : Int)) : -1 ≤ gt l n ∧ gt l n < n := by
  have h1 := h.2 n.toNat _ (gt_get (by rw [h.1]; omega))
  omega
theorem InR.set {m : Nat} {l : List Int} (h : InR m l) {k : Nat} {x : Int} (hx : 0 ≤ x ∧ x ≤ (m : Int)) : InR m (l.set k x) := by
  refine ⟨by simp [h.1], fun y hy => ?_⟩
  rcases List.mem_or_eq_of_mem_set hy with h1 | h1
  · exact h.2 y h1
  · rw [h1]; exact hx
theorem UpOk.set {m : Nat} {l : List Int} (h : UpOk m l) {k : Nat} {x : Int} (hx : -1 ≤ x ∧ x < (k : Int)) : UpOk m (l.set k x) := by
  refine ⟨by simp [h.1], fun i u hu => ?_⟩
  by_cases hik : k = i
  · subst hik
    have hlt := (List.getElem?_eq_some_iff.1 hu).1
    rw [List.length_set] at hlt
    rw [List.getElem?_set_self hlt] at hu
    injection hu with hu
    rw [← hu]; exact hx
  · rw [List.getElem?_set_ne hik] at hu
    exact h.2 i u hu
structure LUOk (m : Nat) (s : LU) : Prop where
  low : InR m s.1
  up : UpOk m s.2
theorem gt_set_self {l : List Int} {n : Int} {x : Int} (h : n.toNat < l.length) : gt (l.set n.toNat x) n = x := gt_at (List.getElem?_set_self h)
theorem gt_set_ne {l : List Int} {n k : Int} {x : Int} (h : n.toNat ≠ k.toNat) : gt (l.set n.toNat x) k = gt l k := by
  unfold gt; rw [List.getD_eq_getElem?_getD, List.getD_eq_getElem?_getD, List.getElem?_set_ne h]
/-- Shortening turns nothing of places above n. -/
theorem shortF_far {m : Nat} : ∀ (f : Nat) (n : Int) (s : LU), LUOk m s → 0 ≤ n → n < (m : Int) → LUOk m (shortF f n s) ∧ ∀ k : Int, n < k → gt (shortF f n s).1 k = gt s.1 k ∧ gt (shortF f n s).2 k = gt s.2 k
  | 0, n, s, h, _, _ => ⟨h, fun k _ => ⟨rfl, rfl⟩⟩
  | f + 1, n, s, h, h0, hn => by
    unfold shortF
    split
    · exact ⟨h, fun k _ => ⟨rfl, rfl⟩⟩
    · rename_i hc
      rw [not_or] at hc
      have hu := h.up.gt h0 hn
      have hu0 : 0 ≤ gt s.2 n := by omega
      obtain ⟨h1, h2⟩ := shortF_far f (gt s.2 n) s h hu0 (by omega)
      have hu2 := h1.up.gt h0 hn
      have e : gt (shortF f (gt s.2 n) s).2 n = gt s.2 n := (h2 n hu.2).2
      rw [e]
      have hu3 := h1.up.gt hu0 (by omega)
      have l1 := h1.low.gt (n := n) (by omega)
      have l2 := h1.low.gt (n := gt s.2 n) (by omega)
      refine ⟨⟨h1.low.set (by rw [Int.min_def]; split <;> omega), h1.up.set (by omega)⟩, fun k hk => ?_⟩
      have hne : n.toNat ≠ k.toNat := by omega
      rw [gt_set_ne hne, gt_set_ne hne]
      exact h2 k (by omega)
/-! ### Semidominators -/
structure SLU where
  semi : List Int
  low : List Int
  up : List Int
/-- The edges that come in, one by one. -/
def semiOne (e : List Int) (n : Nat) (s : SLU) (a : Int) : SLU :=
  if a ∈ e then ⟨s.semi.set n (min (gt s.semi n) (gt (shortF e.length (e.idxOf a : Int) (s.low, s.up)).1 (e.idxOf a : Int))), (shortF e.length (e.idxOf a : Int) (s.low, s.up)).1, (shortF e.length (e.idxOf a : Int) (s.low, s.up)).2⟩ else s
def semiIn (e : List Int) (n : Nat) (s : SLU) : List Int → SLU
  | [] => s
  | a :: l => semiIn e n (semiOne e n s a) l
theorem semiIn_snoc (e : List Int) (n : Nat) : ∀ (l : List Int) (s : SLU) (a : Int), semiIn e n s (l ++ [a]) = semiOne e n (semiIn e n s l) a
  | [], s, a => rfl
  | x :: l, s, a => semiIn_snoc e n l _ a
def semiBegin (s : SLU) (n : Nat) : SLU := ⟨s.semi.set n (n : Int), s.low, s.up⟩
def semiEnd (p : List Int) (s : SLU) (n : Nat) : SLU := ⟨s.semi, s.low.set n (gt s.semi n), s.up.set n (gt p n)⟩
/-- The edges that come to a place. -/
def into (B : List (List Int)) (e : List Int) (n : Nat) : List Int := egs B (gt e n)
def semiStep (B : List (List Int)) (e p : List Int) (s : SLU) (n : Nat) : SLU := semiEnd p (semiIn e n (semiBegin s n) (into B e n)) n
def semi0 (m : Nat) : SLU := ⟨List.replicate m 0, (List.range m).map Int.ofNat, List.replicate m (-1)⟩
/-- The last j places are done. -/
def semiD (B : List (List Int)) (e p : List Int) : Nat → SLU
  | 0 => semi0 e.length
  | j + 1 => semiStep B e p (semiD B e p j) (e.length - 1 - j)
structure SOk (m : Nat) (s : SLU) : Prop where
  semi : InR m s.semi
  lu : LUOk m (s.low, s.up)
theorem semiOne_ok {e : List Int} {n : Nat} {s : SLU} {a : Int} (hn : n < e.length) (h : SOk e.length s) : SOk e.length (semiOne e n s a) := by
  unfold semiOne
  split
  · rename_i ha
    have hi : (e.idxOf a : Int) < (e.length : Int) := by have := List.idxOf_lt_length_of_mem ha; omega
    obtain ⟨h1, _⟩ := shortF_far e.length (e.idxOf a : Int) (s.low, s.up) h.lu (Int.natCast_nonneg _) hi
    have l1 := h.semi.gt (n := (n : Int)) (by simpa using hn)
    have l2 := h1.low.gt (n := (e.idxOf a : Int)) (by omega)
    exact ⟨h.semi.set (by rw [Int.min_def]; split <;> omega), h1⟩
  · exact h
theorem semiIn_ok {e : List Int} {n : Nat} (hn : n < e.length) : ∀ (l : List Int) (s : SLU), SOk e.length s → SOk e.length (semiIn e n s l)
  | [], s, h => h
  | a :: l, s, h => semiIn_ok hn l _ (semiOne_ok hn h)
theorem semiBegin_ok {m n : Nat} {s : SLU} (hn : n < m) (h : SOk m s) : SOk m (semiBegin s n) := ⟨h.semi.set (by omega), h.lu⟩
/-- What a search tells of parents. -/
def ParOk (m : Nat) (p : List Int) : Prop := p.length = m ∧ ∀ (i : Nat) (u : Int), p[i]? = some u → -1 ≤ u ∧ u < (i : Int)
theorem semiEnd_ok {m n : Nat} {p : List Int} {s : SLU} (hn : n < m) (hp : ParOk m p) (h : SOk m s) : SOk m (semiEnd p s n) := by
  have l1 := h.semi.gt (n := (n : Int)) (by simpa using hn)
  have l2 := hp.2 n _ (by have := gt_get (l := p) (n := (n : Int)) (by rw [hp.1]; simpa using hn); simpa using this)
  exact ⟨h.semi, ⟨h.lu.low.set l1, h.lu.up.set l2⟩⟩
theorem semi0_ok (m : Nat) : SOk m (semi0 m) := by
  refine ⟨⟨by simp [semi0], fun x hx => ?_⟩, ⟨⟨by simp [semi0], fun x hx => ?_⟩, ⟨by simp [semi0], fun i u hu => ?_⟩⟩⟩
  · have := List.eq_of_mem_replicate hx; omega
  · simp only [semi0, List.mem_map, List.mem_range] at hx
    obtain ⟨a, ha, rfl⟩ := hx
    exact ⟨Int.natCast_nonneg _, by show (a : Int) ≤ m; omega⟩
  · have := List.eq_of_mem_replicate (List.mem_of_getElem? hu); omega
theorem semiD_ok {B : List (List Int)} {e p : List Int} (hp : ParOk e.length p) : ∀ j, j ≤ e.length → SOk e.length (semiD B e p j)
  | 0, _ => semi0_ok _
  | j + 1, hj => by
    have h := semiD_ok (B := B) hp j (by omega)
    exact semiEnd_ok (by omega) hp (semiIn_ok (by omega) _ _ (semiBegin_ok (by omega) h))
/-! ### Dominators -/
/-- Up from a place, till it is no higher than a bound. -/
def upTo (ab : List Int) (lim : Int) : Nat → Int → Int
  | 0, d => d
  | f + 1, d => if d > lim then upTo ab lim f (gt ab d) else d
def domOne (p semi ab : List Int) (n : Nat) : List Int := ab.set n (upTo ab (gt semi n) n (gt p n))
def domD (p semi : List Int) (m : Nat) : Nat → List Int
  | 0 => List.replicate m 0
  | k + 1 => domOne p semi (domD p semi m k) k
theorem upTo_more {ab : List Int} {lim : Int} {m : Nat} (h0 : 0 ≤ lim) (hab : ∀ i : Nat, i < m → -1 ≤ gt ab (i : Int) ∧ gt ab (i : Int) < (i : Int)) : ∀ (f : Nat) (d : Int), d < (f : Int) + 1 → d < (m : Int) → -1 ≤ d → (-1 ≤ upTo ab lim f d ∧ upTo ab lim f d ≤ d ∧ upTo ab lim f d ≤ max lim d ∧ upTo ab lim f d ≤ lim)
  | 0, d, h, hm, h1 => by unfold upTo; omega
  | f + 1, d, h, hm, h1 => by
    unfold upTo
    split
    · rename_i hd
      have hd0 : 0 ≤ d := by omega
      have h2 := hab d.toNat (by omega)
      rw [Int.toNat_of_nonneg hd0] at h2
      have h3 := upTo_more h0 hab f (gt ab d) (by omega) (by omega) h2.1
      omega
    · omega
theorem upTo_step {ab : List Int} {lim d : Int} {f : Nat} (h : d > lim) : upTo ab lim (f + 1) d = upTo ab lim f (gt ab d) := by rw [upTo]; exact if_pos h
theorem upTo_stop {ab : List Int} {lim d : Int} {f : Nat} (h : ¬ d > lim) : upTo ab lim f d = d := by
  cases f with
  | zero => rfl
  | succ f => rw [upTo]; exact if_neg h
theorem domD_ok {p semi : List Int} {m : Nat} (hp : ParOk m p) (hs : InR m semi) : ∀ k, k ≤ m → (domD p semi m k).length = m ∧ ∀ i : Nat, i < k → -1 ≤ gt (domD p semi m k) (i : Int) ∧ gt (domD p semi m k) (i : Int) < (i : Int)
  | 0, _ => ⟨by simp [domD], fun i hi => by omega⟩
  | k + 1, hk => by
    obtain ⟨h1, h2⟩ := domD_ok hp hs k (by omega)
    have hpk := hp.2 k _ (by have := gt_get (l := p) (n := (k : Int)) (by rw [hp.1]; simp; omega); simpa using this)
    have h3 := upTo_more (hs.gt (n := (k : Int)) (by simp; omega)).1 h2 k (gt p k) (by omega) hpk.2 hpk.1
    refine ⟨by simp [domD, domOne, h1], fun i hi => ?_⟩
    unfold domD domOne
    by_cases hik : i = k
    · subst hik
      have : gt ((domD p semi m i).set i (upTo (domD p semi m i) (gt semi i) i (gt p i))) (i : Int) = upTo (domD p semi m i) (gt semi i) i (gt p i) := gt_at (List.getElem?_set_self (by omega))
      rw [this]
      obtain ⟨q1, q2, _⟩ := h3
      exact ⟨q1, by omega⟩
    · have : gt ((domD p semi m k).set k (upTo (domD p semi m k) (gt semi k) k (gt p k))) (i : Int) = gt (domD p semi m k) (i : Int) := by
        have := gt_set_ne (l := domD p semi m k) (n := (k : Int)) (k := (i : Int)) (x := upTo (domD p semi m k) (gt semi k) k (gt p k)) (by simp; omega)
        simpa using this
      rw [this]; exact h2 i (by omega)
/-- Is a place above another one, or it? -/
def domsP (ab : List Int) (a b : Int) : Bool := decide (a = upTo ab a ab.length b)
end Go.Proofs.Ytbpagfddofbjbaa.Cd
namespace Go.Proofs.Ytbpagfddofbjbaa
set_option maxRecDepth 100000
open Go.RowKit Cd
set_option linter.unusedVariables false
set_option linter.unusedSimpArgs false

/-- Two blocks have turned, nothing else. -/
structure Only (b1 b2 : Nat) (w w' : World) : Prop where
  os : w'.os = w.os
  tape : w'.tape = w.tape
  output : w'.output = w.output
  size : w'.heap.size = w.heap.size
  block : ∀ g, g ≠ b1 → g ≠ b2 → w'.heap[g]? = w.heap[g]?
theorem Only.refl (b1 b2 : Nat) (w : World) : Only b1 b2 w w := ⟨rfl, rfl, rfl, rfl, fun _ _ _ => rfl⟩
theorem Only.trans {b1 b2 : Nat} {w w' w'' : World} (h : Only b1 b2 w w') (k : Only b1 b2 w' w'') : Only b1 b2 w w'' :=
  ⟨k.os.trans h.os, k.tape.trans h.tape, k.output.trans h.output, k.size.trans h.size, fun g h1 h2 => (k.block g h1 h2).trans (h.block g h1 h2)⟩
theorem Only.drew {b1 b2 : Nat} {w w' : World} (h : Only b1 b2 w w') : Only b1 b2 w w'.drew := ⟨h.os, h.tape, h.output, h.size, h.block⟩
theorem Only.drewN {b1 b2 : Nat} {w w' : World} (h : Only b1 b2 w w') (n : Nat) : Only b1 b2 w (w'.drewN n) := ⟨h.os, h.tape, h.output, h.size, h.block⟩
theorem Only.set1 {b1 b2 : Nat} {w w' : World} (h : Only b1 b2 w w') (i : Nat) (v : Value) : Only b1 b2 w (w'.setCell ⟨b1, i, none⟩ v) :=
  ⟨h.os, h.tape, h.output, by rw [World.size_setCell]; exact h.size, fun g h1 h2 => (Below.heap_setCell _ _ _ _ h1).trans (h.block g h1 h2)⟩
theorem Only.set2 {b1 b2 : Nat} {w w' : World} (h : Only b1 b2 w w') (i : Nat) (v : Value) : Only b1 b2 w (w'.setCell ⟨b2, i, none⟩ v) :=
  ⟨h.os, h.tape, h.output, by rw [World.size_setCell]; exact h.size, fun g h1 h2 => (Below.heap_setCell _ _ _ _ h2).trans (h.block g h1 h2)⟩
theorem Only.below {N b1 b2 : Nat} {w w' : World} (h : Only b1 b2 w w') (h1 : N ≤ b1) (h2 : N ≤ b2) : Below N w w' := ⟨h.os, h.tape, h.output, by rw [h.size]; exact Nat.le_refl _, fun g hg => h.block g (by omega) (by omega)⟩
theorem gt_cell {w : World} {b m : Nat} {l : List Int} (h : IRow w b l) (hl : l.length = m) {n : Nat} (hn : n < m) : w.cell? ⟨b, n, none⟩ = some (.int .i64 (Cd.gt l (n : Int))) :=
  h.cell (by have := gt_get (l := l) (n := (n : Int)) (by simp; omega); simpa using this)
theorem shortF_none {f : Nat} {n : Int} {s : LU} (h : Cd.gt s.2 n = -1 ∨ Cd.gt s.2 (Cd.gt s.2 n) = -1) : shortF f n s = s := by
  cases f with
  | zero => rfl
  | succ f => rw [shortF]; exact if_pos h
theorem shortF_go {f : Nat} {n : Int} {s r : LU} (h : ¬ (Cd.gt s.2 n = -1 ∨ Cd.gt s.2 (Cd.gt s.2 n) = -1)) (hr : shortF f (Cd.gt s.2 n) s = r) :
    shortF (f + 1) n s = (r.1.set n.toNat (min (Cd.gt r.1 n) (Cd.gt r.1 (Cd.gt r.2 n))), r.2.set n.toNat (Cd.gt r.2 (Cd.gt r.2 n))) := by
  subst hr
  rw [shortF]; exact if_neg h
set_option maxHeartbeats 4000000 in
set_option maxRecDepth 100000 in
theorem short_c (m lb ub : Nat) (hb : lb ≠ ub) (hm : m ≤ 100000) : ∀ (f : Nat) (n : Int) (s : LU) (w : World), LUOk m s → 0 ≤ n → n < (m : Int) → n < (f : Int) → IRow w lb s.1 → IRow w ub s.2 →
    Calls Try.prog 115 #[.int .i64 n, .slice (some ⟨lb, 0, none⟩) m m, .slice (some ⟨ub, 0, none⟩) m m] w fun e w' => e = .returned (.tuple #[]) ∧ IRow w' lb (shortF f n s).1 ∧ IRow w' ub (shortF f n s).2 ∧ Only lb ub w w'
  | 0, n, s, w, hs, h0, hn, hf, h1, h2 => by omega
  | f + 1, n, s, w, hs, h0, hn, hf, h1, h2 => by
    have hmix : Try.prog.follows .mixedOrders = true := by kernel_rfl
    have HIH := Lib.hid (short_c m lb ub hb hm f)
    obtain ⟨k, rfl⟩ : ∃ k : Nat, n = (k : Int) := ⟨n.toNat, by omega⟩
    have hl1 := hs.low.1
    have hl2 := hs.up.1
    have hu := hs.up.gt h0 hn
    have k1 : (k : Int) < (m : Int) := hn
    have cu := gt_cell h2 hl2 (n := k) (by omega)
    have H1 := Lib.hid h1; have H2 := Lib.hid h2; have HS := Lib.hid hs
    obtain ⟨u, hug⟩ : ∃ u, Cd.gt s.2 (k : Int) = u := ⟨_, rfl⟩
    rw [hug] at hu cu
    have HU := Lib.hid hug
    clear h1 h2 hs hug
    by_cases hu1 : u = -1
    · have E := Lib.hid (shortF_none (f := f + 1) (n := (k : Int)) (s := s) (.inl (HU.out.trans hu1)))
      have t0 : (u == (-1 : Int)) = true := by simpa using hu1
      subst hu1
      go_enter Try.func115, Try.ntmps115
      go_wp2
      refine bodyPost_ret (results_none rfl _ _ _) rfl ?_
      rw [E.out]
      exact ⟨rfl, H1.out, H2.out, Only.refl _ _ _⟩
    · have t0 : (u == (-1 : Int)) = false := by simpa using hu1
      obtain ⟨i, rfl⟩ : ∃ i : Nat, u = (i : Int) := ⟨u.toNat, by omega⟩
      have i0 : (0 : Int) ≤ (i : Int) := Int.natCast_nonneg _
      have i1 : (i : Int) < (m : Int) := by omega
      have cv := gt_cell H2.out hl2 (n := i) (by omega)
      obtain ⟨v, hvg⟩ : ∃ v, Cd.gt s.2 (i : Int) = v := ⟨_, rfl⟩
      have hv := HS.out.up.gt i0 i1
      rw [hvg] at cv hv
      have HV := Lib.hid hvg
      clear hvg
      by_cases hv1 : v = -1
      · have E := Lib.hid (shortF_none (f := f + 1) (n := (k : Int)) (s := s) (.inr (by rw [HU.out, HV.out]; exact hv1)))
        have t1 : (v == (-1 : Int)) = true := by simpa using hv1
        subst hv1
        go_enter Try.func115, Try.ntmps115
        go_wp2
        refine bodyPost_ret (results_none rfl _ _ _) rfl ?_
        rw [E.out]
        exact ⟨rfl, H1.out, H2.out, Only.refl _ _ _⟩
      · have t1 : (v == (-1 : Int)) = false := by simpa using hv1
        obtain ⟨r, hr⟩ : ∃ r, shortF f (i : Int) s = r := ⟨_, rfl⟩
        have E := Lib.hid (shortF_go (f := f) (n := (k : Int)) (s := s) (r := r) (by rw [HU.out, HV.out]; omega) (by rw [HU.out]; exact hr))
        obtain ⟨hrok, hfar⟩ := shortF_far f (i : Int) s HS.out i0 i1
        rw [hr] at hrok hfar
        have hrk : Cd.gt r.2 (k : Int) = (i : Int) := ((hfar (k : Int) hu.2).2).trans HU.out
        rw [hrk, Int.toNat_natCast] at E
        have hq := hrok.up.gt i0 i1
        have hR1 := hrok.low.1; have hR2 := hrok.up.1
        have HROK := Lib.hid hrok; have HRK := Lib.hid hrk
        have HC := Lib.hid (hr ▸ HIH.out (i : Int) s w HS.out i0 i1 (by omega) H1.out H2.out)
        clear hfar hrok hrk hr
        obtain ⟨x, hx⟩ : ∃ x, Cd.gt r.1 (k : Int) = x := ⟨_, rfl⟩
        obtain ⟨y, hy⟩ : ∃ y, Cd.gt r.1 (i : Int) = y := ⟨_, rfl⟩
        obtain ⟨z, hz⟩ : ∃ z, Cd.gt r.2 (i : Int) = z := ⟨_, rfl⟩
        rw [hx, hy, hz] at E
        rw [hz] at hq
        have HX := Lib.hid hx; have HY := Lib.hid hy; have HZ := Lib.hid hz
        clear hx hy hz
        go_enter Try.func115, Try.ntmps115
        go_wp2_with ((with_reducible refine HC.out.mono ?_); rintro e w1 ⟨rfl, g1, g2, g3⟩; have G1 := Lib.hid g1; have G2 := Lib.hid g2; have G3 := Lib.hid g3; have d1 := HX.out ▸ gt_cell g1 hR1 (n := k) (by omega); have d2 := HY.out ▸ gt_cell g1 hR1 (n := i) (by omega); have d3 := HRK.out ▸ gt_cell g2 hR2 (n := k) (by omega); have d4 := HZ.out ▸ gt_cell g2 hR2 (n := i) (by omega); have f1 := VRow.frozen g1 k; clear g1 g2 g3)
        refine region_last (fun W : World => W.cell? ⟨lb, k, none⟩ = some (.int .i64 x) ∧ W.cell? ⟨lb, i, none⟩ = some (.int .i64 y) ∧ W.cell? ⟨ub, k, none⟩ = some (.int .i64 (i : Int)) ∧ W.frozen? ⟨lb, k, none⟩ = false) 15 hmix ?_
        have hS : (fun W : World => W.cell? ⟨lb, k, none⟩ = some (.int .i64 x) ∧ W.cell? ⟨lb, i, none⟩ = some (.int .i64 y) ∧ W.cell? ⟨ub, k, none⟩ = some (.int .i64 (i : Int)) ∧ W.frozen? ⟨lb, k, none⟩ = false) w1.drew := ⟨d1, d2, d3, f1⟩
        clear d1 d2 d3 f1
        refine anyL_take (i := 0) (v := ?_) rfl rfl (by kernel_rfl) (by kernel_rfl) (by kernel_rfl) (by kernel_rfl) (fun _ _ _ h => h) (Or.inl ⟨by rfl, ?_⟩) hS ?_
        rotate_left
        · (intro w' hSw; obtain ⟨s1, s2, s3, s4⟩ := hSw; go_simp; first | done | with_reducible rfl)
        simp only [Act.put, List.getElem_toArray, List.getElem_cons_succ, List.getElem_cons_zero, List.setIfInBounds_toArray, List.set_cons_succ, List.set_cons_zero]
        refine anyL_take (i := 1) (v := ?_) rfl rfl (by kernel_rfl) (by kernel_rfl) (by kernel_rfl) (by kernel_rfl) (fun _ _ _ h => h) (Or.inl ⟨by rfl, ?_⟩) hS ?_
        rotate_left
        · (intro w' hSw; obtain ⟨s1, s2, s3, s4⟩ := hSw; go_simp; first | done | with_reducible rfl)
        simp only [Act.put, List.getElem_toArray, List.getElem_cons_succ, List.getElem_cons_zero, List.setIfInBounds_toArray, List.set_cons_succ, List.set_cons_zero]
        refine anyL_take (i := 2) (v := ?_) rfl rfl (by kernel_rfl) (by kernel_rfl) (by kernel_rfl) (by kernel_rfl) (fun _ _ _ h => h) (Or.inl ⟨by rfl, ?_⟩) hS ?_
        rotate_left
        · (intro w' hSw; obtain ⟨s1, s2, s3, s4⟩ := hSw; go_simp; first | done | with_reducible rfl)
        simp only [Act.put, List.getElem_toArray, List.getElem_cons_succ, List.getElem_cons_zero, List.setIfInBounds_toArray, List.set_cons_succ, List.set_cons_zero]
        refine anyL_take (i := 3) (v := ?_) rfl rfl (by kernel_rfl) (by kernel_rfl) (by kernel_rfl) (by kernel_rfl) (fun _ _ _ h => h) (Or.inl ⟨by rfl, ?_⟩) hS ?_
        rotate_left
        · (intro w' hSw; obtain ⟨s1, s2, s3, s4⟩ := hSw; go_simp; first | done | with_reducible rfl)
        simp only [Act.put, List.getElem_toArray, List.getElem_cons_succ, List.getElem_cons_zero, List.setIfInBounds_toArray, List.set_cons_succ, List.set_cons_zero]
        refine anyL_take (i := 4) (v := ?_) rfl rfl (by kernel_rfl) (by kernel_rfl) (by kernel_rfl) (by kernel_rfl) (fun _ _ _ h => h) (Or.inl ⟨by rfl, ?_⟩) hS ?_
        rotate_left
        · (intro w' hSw; obtain ⟨s1, s2, s3, s4⟩ := hSw; go_simp; first | done | with_reducible rfl)
        simp only [Act.put, List.getElem_toArray, List.getElem_cons_succ, List.getElem_cons_zero, List.setIfInBounds_toArray, List.set_cons_succ, List.set_cons_zero]
        refine anyL_take (i := 5) (v := ?_) rfl rfl (by kernel_rfl) (by kernel_rfl) (by kernel_rfl) (by kernel_rfl) (fun _ _ _ h => h) (Or.inl ⟨by rfl, ?_⟩) hS ?_
        rotate_left
        · (intro w' hSw; obtain ⟨s1, s2, s3, s4⟩ := hSw; go_simp; first | done | with_reducible rfl)
        simp only [Act.put, List.getElem_toArray, List.getElem_cons_succ, List.getElem_cons_zero, List.setIfInBounds_toArray, List.set_cons_succ, List.set_cons_zero]
        refine anyL_take (i := 6) (v := ?_) rfl rfl (by kernel_rfl) (by kernel_rfl) (by kernel_rfl) (by kernel_rfl) (fun _ _ _ h => h) (Or.inl ⟨by rfl, ?_⟩) hS ?_
        rotate_left
        · (intro w' hSw; obtain ⟨s1, s2, s3, s4⟩ := hSw; go_simp; first | done | with_reducible rfl)
        simp only [Act.put, List.getElem_toArray, List.getElem_cons_succ, List.getElem_cons_zero, List.setIfInBounds_toArray, List.set_cons_succ, List.set_cons_zero]
        refine anyL_take (i := 7) (v := ?_) rfl rfl (by kernel_rfl) (by kernel_rfl) (by kernel_rfl) (by kernel_rfl) (fun _ _ _ h => h) (Or.inl ⟨by rfl, ?_⟩) hS ?_
        rotate_left
        · (intro w' hSw; obtain ⟨s1, s2, s3, s4⟩ := hSw; go_simp; first | done | with_reducible rfl)
        simp only [Act.put, List.getElem_toArray, List.getElem_cons_succ, List.getElem_cons_zero, List.setIfInBounds_toArray, List.set_cons_succ, List.set_cons_zero]
        refine anyL_take (i := 8) (v := ?_) rfl rfl (by kernel_rfl) (by kernel_rfl) (by kernel_rfl) (by kernel_rfl) (fun _ _ _ h => h) (Or.inl ⟨by rfl, ?_⟩) hS ?_
        rotate_left
        · (intro w' hSw; obtain ⟨s1, s2, s3, s4⟩ := hSw; go_simp; first | done | with_reducible rfl)
        simp only [Act.put, List.getElem_toArray, List.getElem_cons_succ, List.getElem_cons_zero, List.setIfInBounds_toArray, List.set_cons_succ, List.set_cons_zero]
        refine anyL_take (i := 9) (v := ?_) rfl rfl (by kernel_rfl) (by kernel_rfl) (by kernel_rfl) (by kernel_rfl) (fun _ _ _ h => h) (Or.inl ⟨by rfl, ?_⟩) hS ?_
        rotate_left
        · (intro w' hSw; obtain ⟨s1, s2, s3, s4⟩ := hSw; go_simp; first | done | with_reducible rfl)
        simp only [Act.put, List.getElem_toArray, List.getElem_cons_succ, List.getElem_cons_zero, List.setIfInBounds_toArray, List.set_cons_succ, List.set_cons_zero]
        refine anyL_take (i := 10) (v := ?_) rfl rfl (by kernel_rfl) (by kernel_rfl) (by kernel_rfl) (by kernel_rfl) (fun _ _ _ h => h) (Or.inl ⟨by rfl, ?_⟩) hS ?_
        rotate_left
        · (intro w' hSw; obtain ⟨s1, s2, s3, s4⟩ := hSw; go_simp; first | done | with_reducible rfl)
        simp only [Act.put, List.getElem_toArray, List.getElem_cons_succ, List.getElem_cons_zero, List.setIfInBounds_toArray, List.set_cons_succ, List.set_cons_zero]
        refine anyL_take (i := 11) (v := ?_) rfl rfl (by kernel_rfl) (by kernel_rfl) (by kernel_rfl) (by kernel_rfl) (fun _ _ _ h => h) (Or.inl ⟨by rfl, ?_⟩) hS ?_
        rotate_left
        · (intro w' hSw; obtain ⟨s1, s2, s3, s4⟩ := hSw; go_simp; first | done | with_reducible rfl)
        simp only [Act.put, List.getElem_toArray, List.getElem_cons_succ, List.getElem_cons_zero, List.setIfInBounds_toArray, List.set_cons_succ, List.set_cons_zero]
        refine anyL_take (i := 12) (v := ?_) rfl rfl (by kernel_rfl) (by kernel_rfl) (by kernel_rfl) (by kernel_rfl) (fun _ _ _ h => h) (Or.inl ⟨by rfl, ?_⟩) hS ?_
        rotate_left
        · (intro w' hSw; obtain ⟨s1, s2, s3, s4⟩ := hSw; go_simp; first | done | with_reducible rfl)
        simp only [Act.put, List.getElem_toArray, List.getElem_cons_succ, List.getElem_cons_zero, List.setIfInBounds_toArray, List.set_cons_succ, List.set_cons_zero]
        refine anyL_take (i := 13) (v := ?_) rfl rfl (by kernel_rfl) (by kernel_rfl) (by kernel_rfl) (by kernel_rfl) (fun _ _ _ h => h) (Or.inl ⟨by rfl, ?_⟩) hS ?_
        rotate_left
        · (intro w' hSw; obtain ⟨s1, s2, s3, s4⟩ := hSw; go_simp; first | done | with_reducible rfl)
        simp only [Act.put, List.getElem_toArray, List.getElem_cons_succ, List.getElem_cons_zero, List.setIfInBounds_toArray, List.set_cons_succ, List.set_cons_zero]
        refine anyL_take (i := 14) (v := ?_) rfl rfl (by kernel_rfl) (by kernel_rfl) (by kernel_rfl) (by kernel_rfl) (fun _ _ _ h => h) (Or.inl ⟨by rfl, ?_⟩) hS ?_
        rotate_left
        · (intro w' hSw; obtain ⟨s1, s2, s3, s4⟩ := hSw; go_simp; first | done | with_reducible rfl)
        simp only [Act.put, List.getElem_toArray, List.getElem_cons_succ, List.getElem_cons_zero, List.setIfInBounds_toArray, List.set_cons_succ, List.set_cons_zero]
        obtain ⟨s1, s2, s3, s4⟩ := hS
        refine anyL_one (i := 15) (by kernel_rfl) rfl (fun K1 hK1 => ?_)
        go_simp
        refine hK1.out _ _ (fun hne => absurd rfl hne) ?_
        clear hK1 K1 s1 s2 s3 s4
        refine anyL_done (by kernel_rfl) ?_ _
        have d3 := HRK.out ▸ gt_cell G2.out hR2 (n := k) (by omega)
        have f2 := VRow.frozen G2.out k
        have hb1 : ¬ ub = lb := fun h => hb h.symm
        have hb2 : ¬ lb = ub := hb
        have hmin : (if y < x then y else x) = min x y := by rw [Int.min_def]; split <;> split <;> omega
        obtain ⟨mn, hmn⟩ : ∃ mn, (if y < x then y else x) = mn := ⟨_, rfl⟩
        rw [hmn] at hmin ⊢
        have HMIN := Lib.hid hmin
        clear hmin hmn
        go_wp2
        go_end0
        rw [E.out, ← HMIN.out]
        refine ⟨rfl, ?_, ?_, ?_⟩
        · exact VRow.keep (IRow.set G1.out k _) (Below.heap_setCell _ _ _ _ hb2)
        · exact IRow.set (w := (w1.setCell ⟨lb, k, none⟩ (.int .i64 mn)).drew) (VRow.keep G2.out (Below.heap_setCell _ _ _ _ hb1)) k _
        · exact ((G3.out.set1 k _).drew).set2 k _
end Go.Proofs.Ytbpagfddofbjbaa
namespace Go.Proofs.Ytbpagfddofbjbaa
set_option maxRecDepth 100000
open Go.RowKit Cd
set_option linter.unusedVariables false
set_option linter.unusedSimpArgs false

theorem and_lo (n : Nat) (h : n ≤ 100000) : bits .and .u64 (n : Int) 4294967295 = (n : Int) := by
  show IntKind.u64.wrap ((BitVec.ofInt 64 (n : Int) &&& BitVec.ofInt 64 4294967295).toNat : Int) = _
  have e1 : (BitVec.ofInt 64 (4294967295 : Int)).toNat = 2 ^ 32 - 1 := by decide
  have e2 : (BitVec.ofInt 64 (n : Int)).toNat = n := by rw [BitVec.toNat_ofInt]; simp only [Nat.reducePow]; omega
  rw [BitVec.toNat_and, e1, Nat.and_two_pow_sub_one_eq_mod, e2, Nat.mod_eq_of_lt (by omega), IntKind.wrap_u64]
  omega
theorem w64 {n : Int} (h0 : 0 ≤ n) (h1 : n ≤ 100000) : IntKind.u64.wrap n = n := by rw [IntKind.wrap_u64]; omega
set_option maxHeartbeats 2000000 in
theorem mul64_c (n : Nat) (h : n ≤ 100000) (w : World) : Calls Try.prog 114 #[.int .u64 1, .int .u64 (n : Int)] w fun e w' => e = .returned (.tuple #[.int .u64 0, .int .u64 (n : Int)]) ∧ w = w' := by
  have h0 : (0 : Int) ≤ (n : Int) := Int.natCast_nonneg _
  have h1 : (n : Int) ≤ 100000 := by omega
  have b1 := and_lo n h
  go_enter Try.func114, Try.ntmps114
  go_wp2
  have b2 : bits .and .u64 1 4294967295 = 1 := and_lo 1 (by omega)
  have b3 : bits .and .u64 0 4294967295 = 0 := and_lo 0 (by omega)
  have b4 : (n : Int) / 4294967296 = 0 := by omega
  have b5 := w64 h0 h1
  have b6 : IntKind.u64.wrap 0 = 0 := w64 (by omega) (by omega)
  go_ret2
  exact ⟨by simp [b1, b2, b3, b4, b5, b6], (by first | rfl | trivial)⟩
set_option maxHeartbeats 2000000 in
theorem mul_c (n : Nat) (h : n ≤ 100000) (w : World) : Calls Try.prog 90 #[.int .u64 1, .int .u64 (n : Int)] w fun e w' => e = .returned (.tuple #[.int .u64 0, .int .u64 (n : Int)]) ∧ w = w' := by
  have h0 : (0 : Int) ≤ (n : Int) := Int.natCast_nonneg _
  have h1 : (n : Int) ≤ 100000 := by omega
  go_enter Try.func90, Try.ntmps90
  go_wp2_with ((with_reducible refine (mul64_c n h _).mono ?_); rintro e w1 ⟨rfl, rfl⟩)
  go_ret2
  exact ⟨rfl, (by first | rfl | trivial)⟩
/-- The row as it is filled. -/
def rpI (m n : Nat) : List Value := ints (List.replicate n (-1) ++ List.replicate (m - n) 0)
theorem rpI_len {m n : Nat} (h : n ≤ m) : (rpI m n).length = m := by unfold rpI; simp; omega
def mnI (k : Nat) : List Value := ints (List.replicate k (-1))
theorem mnI_len (k : Nat) : (mnI k).length = k := by unfold mnI; simp
theorem rpI_zero (m : Nat) : rpI m 0 = ints (List.replicate m 0) := by unfold rpI; simp
theorem rpI_full (m : Nat) : rpI m m = ints (List.replicate m (-1)) := by unfold rpI; simp
theorem rpI_more {m n k : Nat} (h : n + k ≤ m) : splice (rpI m n) n (mnI k) = rpI m (n + k) := by
  unfold splice rpI mnI ints
  rw [List.length_map, List.length_replicate, ← List.map_take, ← List.map_drop, ← List.map_append, ← List.map_append]
  congr 1
  apply List.ext_getElem?
  intro i
  simp only [List.take_append, List.drop_append, List.length_replicate, List.take_replicate, List.drop_replicate]
  by_cases h1 : i < n
  · rw [List.getElem?_append_left (by simp; omega), List.getElem?_append_left (by simp; omega), List.getElem?_append_left (by simp; omega)]
    rw [List.getElem?_replicate, List.getElem?_replicate, if_pos (by omega), if_pos (by omega)]
  · rw [List.getElem?_append_right (by simp; omega)]
    by_cases h2 : i < n + k
    · rw [List.getElem?_append_left (by simp; omega), List.getElem?_append_left (by simp; omega)]
      rw [List.getElem?_replicate, List.getElem?_replicate, if_pos (by first | omega | (simp; omega)), if_pos (by omega)]
    · rw [List.getElem?_append_right (by simp <;> omega), List.getElem?_append_right (by simp <;> omega), List.getElem?_append_right (by simp <;> omega)]
      simp only [List.getElem?_replicate, List.length_append, List.length_replicate]
      by_cases h3 : i < m
      · rw [if_pos (by omega), if_pos (by omega)]
      · rw [if_neg (by omega), if_neg (by omega)]
theorem slice_fromI {b m k : Nat} (hk : k < m) (hm : m ≤ 100000) (W : World) :
    (Instr.sliceAt 31 (.slice (some ⟨b, 0, none⟩) m m) (some (.int .i64 k)) none none).run Try.prog W = .ok (.slice (some ⟨b, k, none⟩) (m - k) (m - k)) W := by
  have h0 : (0 : Int) ≤ (k : Int) := Int.natCast_nonneg _
  have h1 : (k : Int) ≤ (m : Int) := by omega
  have h2 : (k : Int) < (m : Int) := by omega
  have ht := Try.underlying31
  have hz : ∀ W, (sizeOf 3).run Try.prog W = .ok 1 W := fun W => by kernel_rfl
  have hel : Try.prog.elem 31 = 3 := by simp [Program.elem, ht]
  go_simp
  intro h; omega
theorem infoI1 : (Try.prog.info? 3).map (·.size) = some 1 := by kernel_rfl
theorem mnI_one (k : Nat) : ∀ v ∈ mnI k, v.oneCell' = true := fun v hv => by
  unfold mnI at hv
  obtain ⟨x, _, rfl⟩ := List.mem_map.1 hv
  simp [Value.oneCell']
theorem mnI_at {k j : Nat} {v : Value} (h : (mnI k)[j]? = some v) : j < k ∧ v = .int .i64 (-1) := by
  have hl := (List.getElem?_eq_some_iff.1 h).1
  rw [mnI_len] at hl
  unfold mnI ints at h
  rw [List.getElem?_map, List.getElem?_replicate, if_pos hl] at h
  exact ⟨hl, by injection h with h; exact h.symm⟩
theorem rpI_at {m n j : Nat} (h : j < n) : (rpI m n)[j]? = some (.int .i64 (-1)) := by
  unfold rpI ints
  rw [List.getElem?_map, List.getElem?_append_left (by simpa using h), List.getElem?_replicate, if_pos h]; rfl
theorem add0 (b j : Nat) : (⟨b, 0, none⟩ : Addr).add j = ⟨b, j, none⟩ := by unfold Addr.add; split <;> simp_all
theorem copy_runI {W w0 : World} {B g off dLen dCap sLen sCap : Nat} {dp sp : Option Addr} (ty : TypeId) (cur cs : List Value) (hg : W.heap[g]? = some (.cells cur.toArray 3 (0, 0))) (hn : cs.length = Nat.min sLen dLen)
    (hpos : 0 < cs.length → dp = some ⟨g, off, none⟩ ∧ ∃ ad, sp = some ad ∧ ∀ j v, cs[j]? = some v → W.cell? (ad.add j) = some v) (hfit : off + cs.length ≤ cur.length) (h1 : ∀ v ∈ cs, v.oneCell' = true) (hb : Below B w0 W) (hBg : B ≤ g) :
    ∃ w2, (Builtin.copy_ #[31, 31] ty #[.slice dp dLen dCap, .slice sp sLen sCap]).run Try.prog W = .ok (.int .i64 (cs.length : Int)) w2 ∧ w2.heap[g]? = some (.cells (splice cur off cs).toArray 3 (0, 0)) ∧ Below B w0 w2 := by
  by_cases h0 : cs.length = 0
  · obtain rfl : cs = [] := List.eq_nil_of_length_eq_zero h0
    exact ⟨W, run_copy_none (P := Try.prog) W 31 31 ty 3 dp sp dLen dCap sLen sCap Try.underlying31 infoI1 (by simpa using hn.symm), by simpa [splice] using hg, hb⟩
  · obtain ⟨rfl, ad, rfl, hsrc⟩ := hpos (by omega)
    exact ⟨_, run_copy_row (P := Try.prog) W 31 31 ty 3 g off dLen dCap ad sLen sCap cur.toArray 3 cs Try.underlying31 infoI1 hg hn hsrc (by simpa using hfit) h1, by simpa [splice] using setRow_heap W g _ _ 3 _ hg, below_setRow hb hBg _⟩
set_option maxHeartbeats 8000000 in
set_option maxRecDepth 100000 in
theorem repeat_c (m xb : Nat) (hm : m ≤ 10000) (w : World) (hx : IRow w xb [-1]) :
    Calls Try.prog 63 #[.slice (some ⟨xb, 0, none⟩) 1 1, .int .i64 (m : Int)] w fun e w' => e = .returned (.slice (some ⟨w.heap.size, 0, none⟩) m m) ∧ IRow w' w.heap.size (List.replicate m (-1)) ∧ Below w.heap.size w w' := by
  have hmix : Try.prog.follows .mixedOrders = true := by kernel_rfl
  have m0 : (0 : Int) ≤ (m : Int) := Int.natCast_nonneg _
  have m1 : (m : Int) ≤ 10000 := by omega
  have cx : w.cell? ⟨xb, 0, none⟩ = some (.int .i64 (-1)) := IRow.cell hx rfl
  have hxl := hx.lt
  have HX := Lib.hid hx
  have hmk := make_ints m (by omega)
  have HR0 : Hid ((w.alloc (iObj (List.replicate m 0))).heap[w.heap.size]? = some (.cells (rpI m 0).toArray 3 (0, 0))) := Lib.hid (by rw [rpI_zero]; exact heap_alloc_new w _)
  have HB0 := Lib.hid ((Below.refl w.heap.size w).alloc (Nat.le_refl _) (iObj (List.replicate m 0)))
  clear hx
  obtain ⟨k1, hk1⟩ : ∃ k1, min 1 m = k1 := ⟨_, rfl⟩
  have hk1m : k1 ≤ m := by omega
  have hk1n : m = 0 ∨ 1 ≤ k1 := by omega
  obtain ⟨w2, hcp, hr2, hb2⟩ := copy_runI (W := w.alloc (iObj (List.replicate m 0))) (w0 := w) (B := w.heap.size) (g := w.heap.size) (off := 0) (dLen := m) (dCap := m) (sLen := 1) (sCap := 1) (dp := some ⟨w.heap.size, 0, none⟩) (sp := some ⟨xb, 0, none⟩) 3 (rpI m 0) (mnI k1) HR0.out (by rw [mnI_len]; exact hk1.symm) (fun _ => ⟨rfl, _, rfl, fun j v hv => by obtain ⟨h1, rfl⟩ := mnI_at hv; rw [add0, show j = 0 by omega]; exact (Below.cell HB0.out (p := ⟨xb, 0, none⟩) hxl).trans cx⟩) (by rw [mnI_len, rpI_len (by omega)]; omega) (mnI_one _) HB0.out (Nat.le_refl _)
  rw [mnI_len] at hcp
  have HB2 := Lib.hid hb2
  have HR2 : Hid (w2.heap[w.heap.size]? = some (.cells (rpI m k1).toArray 3 (0, 0))) := Lib.hid (by rw [hr2, rpI_more (by omega), Nat.zero_add])
  clear hb2 hr2
  go_enter Try.func63, Try.ntmps63
  go_wp2_with ((with_reducible refine (mul_c m (by omega) _).mono ?_); rintro e w1 ⟨rfl, rfl⟩)
  go_loopw [8] (fun s8 wr => ∃ n : Nat, n ≤ m ∧ (m = 0 ∨ 1 ≤ n) ∧ s8 = .int .i64 (n : Int) ∧ Hid (wr.heap[w.heap.size]? = some (.cells (rpI m n).toArray 3 (0, 0))) ∧ Hid (Below w.heap.size w wr)) (fun s8 wr => m - (intOf s8).toNat)
  case atStart => exact ⟨k1, hk1m, hk1n, rfl, HR2, HB2⟩
  case round =>
    obtain ⟨n, hn, hn1, rfl, HR, HB⟩ := hrel
    have n0 : (0 : Int) ≤ (n : Int) := Int.natCast_nonneg _
    by_cases hlt : n < m
    · have n1 : (n : Int) < (m : Int) := by omega
      have hs1 := slice_fromI (b := w.heap.size) hlt (by omega)
      have hs2 := slice_short (a := some ⟨w.heap.size, 0, none⟩) (n := m) (c := m) (k := n) (.inr ⟨_, _, rfl⟩) (by omega) (by unfold maxLen; omega)
      obtain ⟨k, hk⟩ : ∃ k, Nat.min n (m - n) = k := ⟨_, rfl⟩
      have hk2 : n + k ≤ m ∧ 1 ≤ k ∧ k ≤ n := by
        have hk' : min n (m - n) = k := hk
        omega
      have hk3 := hk2.2.1
      have hk4 := hk2.1
      have hwr : IntKind.i64.wrap ((n : Int) + (k : Int)) = (n : Int) + (k : Int) := by rw [IntKind.wrap_i64]; omega
      have HK := Lib.hid hk
      clear hk
      go_wp2
      refine region_last (fun W : World => True) 1000000 hmix ?_
      have hS : (fun W : World => True) wr.drew := trivial
      refine anyL_takeH (i := 0) (v := ?_) rfl (by decide) (by kernel_rfl) (by kernel_rfl) (by kernel_rfl) (fun _ _ _ h => h) (Or.inl ⟨by rfl, ?_⟩) hS ?_
      rotate_left
      · (intro w' hSw; go_simp; first | done | with_reducible rfl)
      simp only [Act.put, List.getElem_toArray, List.getElem_cons_succ, List.getElem_cons_zero, List.setIfInBounds_toArray, List.set_cons_succ, List.set_cons_zero]
      refine anyL_takeH (i := 1) (v := ?_) rfl (by decide) (by kernel_rfl) (by kernel_rfl) (by kernel_rfl) (fun _ _ _ h => h) (Or.inl ⟨by rfl, ?_⟩) hS ?_
      rotate_left
      · (intro w' hSw; go_simp; first | done | with_reducible rfl)
      simp only [Act.put, List.getElem_toArray, List.getElem_cons_succ, List.getElem_cons_zero, List.setIfInBounds_toArray, List.set_cons_succ, List.set_cons_zero]
      refine anyL_takeH (i := 2) (v := ?_) rfl (by decide) (by kernel_rfl) (by kernel_rfl) (by kernel_rfl) (fun _ _ _ h => h) (Or.inl ⟨by rfl, ?_⟩) hS ?_
      rotate_left
      · (intro w' hSw; go_simp; first | done | with_reducible rfl)
      simp only [Act.put, List.getElem_toArray, List.getElem_cons_succ, List.getElem_cons_zero, List.setIfInBounds_toArray, List.set_cons_succ, List.set_cons_zero]
      refine anyL_takeH (i := 3) (v := ?_) rfl (by decide) (by kernel_rfl) (by kernel_rfl) (by kernel_rfl) (fun _ _ _ h => h) (Or.inl ⟨by rfl, ?_⟩) hS ?_
      rotate_left
      · (intro w' hSw; go_simp; first | done | with_reducible rfl)
      simp only [Act.put, List.getElem_toArray, List.getElem_cons_succ, List.getElem_cons_zero, List.setIfInBounds_toArray, List.set_cons_succ, List.set_cons_zero]
      refine anyL_takeH (i := 4) (v := ?_) rfl (by decide) (by kernel_rfl) (by kernel_rfl) (by kernel_rfl) (fun _ _ _ h => h) (Or.inl ⟨by rfl, ?_⟩) hS ?_
      rotate_left
      · (intro w' hSw; go_simp; first | done | with_reducible rfl)
      simp only [Act.put, List.getElem_toArray, List.getElem_cons_succ, List.getElem_cons_zero, List.setIfInBounds_toArray, List.set_cons_succ, List.set_cons_zero]
      refine anyL_takeH (i := 5) (v := ?_) rfl (by decide) (by kernel_rfl) (by kernel_rfl) (by kernel_rfl) (fun _ _ _ h => h) (Or.inl ⟨by rfl, ?_⟩) hS ?_
      rotate_left
      · (intro w' hSw; go_simp; first | done | with_reducible rfl)
      simp only [Act.put, List.getElem_toArray, List.getElem_cons_succ, List.getElem_cons_zero, List.setIfInBounds_toArray, List.set_cons_succ, List.set_cons_zero]
      refine anyL_takeH (i := 6) (v := ?_) rfl (by decide) (by kernel_rfl) (by kernel_rfl) (by kernel_rfl) (fun _ _ _ h => h) (Or.inl ⟨by rfl, ?_⟩) hS ?_
      rotate_left
      · (intro w' hSw; go_simp; first | done | with_reducible rfl)
      simp only [Act.put, List.getElem_toArray, List.getElem_cons_succ, List.getElem_cons_zero, List.setIfInBounds_toArray, List.set_cons_succ, List.set_cons_zero]
      refine anyL_one (i := 7) (by kernel_rfl) rfl (fun K1 hK1 => ?_)
      refine step_copy_splice (by rfl) (.tmp 41) (.tmp 44) 31 31 (by rfl) 3 Try.underlying31 infoI1 (some ⟨w.heap.size, n, none⟩) (some ⟨w.heap.size, 0, none⟩) (m - n) (m - n) n m (by rfl) (by rfl) w.heap.size n (rpI m n) 3 HR.out (mnI k) (by rw [mnI_len]; exact HK.out.symm) (fun _ => ⟨rfl, _, rfl, fun j v hv => by obtain ⟨h1, rfl⟩ := mnI_at hv; rw [add0]; exact VRow.cell (w := wr) HR.out (rpI_at (by omega))⟩) (by rw [mnI_len, rpI_len (by omega)]; omega) (mnI_one _) w.heap.size w (drW HB.out) (Nat.le_refl _) ?_
      intro w3 HG3 hb3
      have HB3 := Lib.hid hb3
      have HR3 : Hid (w3.heap[w.heap.size]? = some (.cells (rpI m (n + k)).toArray 3 (0, 0))) := Lib.hid (by rw [HG3.out, rpI_more (by omega)])
      have hgi : goInt ((mnI k).length : Int) = .int .i64 (k : Int) := (by rw [mnI_len]; rfl)
      rw [hgi]
      clear hb3 HG3 hgi
      refine hK1.out _ _ (fun _ => hS) ?_
      clear hK1 K1
      refine anyL_one (i := 8) (by kernel_rfl) rfl (fun K1 hK1 => ?_)
      go_simp
      refine hK1.out _ _ (fun _ => hS) ?_
      clear hK1 K1
      refine anyL_one (i := 9) (by kernel_rfl) rfl (fun K1 hK1 => ?_)
      go_simp
      refine hK1.out _ _ (fun _ => hS) ?_
      clear hK1 K1
      refine anyL_done (by kernel_rfl) ?_ _
      go_wp2
      go_roundw
      case rel => exact ⟨n + k, by omega, by omega, by go_num, HR3, HB3⟩
      case measure => simp [intOf]; omega
    · obtain rfl : n = m := by omega
      go_wp2
      go_ret
      exact ⟨rfl, by have := HR.out; rw [rpI_full] at this; exact this, HB.out⟩
end Go.Proofs.Ytbpagfddofbjbaa
