/-
  What the document's own Scan holds at the head of a round, and a token that is being built. Of whatever round.
-/
import Derived.Test.YtbafkkifdfmldaaDoorRefSkip
import Derived.Test.YtbafkkifdfmldaaDoorRefValue
import Derived.Test.YtbafkkifdfmldaaDoorRefChar
import Derived.Test.YtbafkkifdfmldaaDoorSame
namespace Go.Proofs.YtbafkkifdfmldaaDoor
open Go.RowKit Sp
set_option linter.unusedVariables false

/-- What holds at the head of a round: the place p, the tokens so far in v. -/
structure RAt (w : World) (s : ByteArray) (p : Nat) (acc : List Tok) (v : Value) (wr : World) : Prop where
  own : wr.ownsRow w.heap.size 32 4 v acc.length (cellsOf acc)
  below : Below w.heap.size w wr
  few : acc.length ≤ 8192
  rest : Sp.scanR s.data.toList 0 0 = (Sp.scanR (s.data.toList.drop p) p acc.length).map (acc ++ ·)
theorem RAt.err {w wr : World} {s : ByteArray} {p : Nat} {acc : List Tok} {v : Value} (h : RAt w s p acc v wr) (hs : s.size ≤ 32768) {x : Nat × Int} (hr : Sp.scanR (s.data.toList.drop p) p acc.length = .error x) : Sp.scan s.data.toList = .error x := by
  rw [scan_eq, if_neg (by simp; omega), h.rest, hr]; rfl
theorem RAt.ok {w wr : World} {s : ByteArray} {p : Nat} {acc ts : List Tok} {v : Value} (h : RAt w s p acc v wr) (hs : s.size ≤ 32768) (hr : Sp.scanR (s.data.toList.drop p) p acc.length = .ok ts) : Sp.scan s.data.toList = .ok (acc ++ ts) := by
  rw [scan_eq, if_neg (by simp; omega), h.rest, hr]; rfl
theorem RAt.start (w : World) (s : ByteArray) : RAt w s 0 [] (.slice none 0 0) w := by
  refine ⟨World.ownsRow_nil _ _ _ _, Below.refl _ _, by simp, ?_⟩
  simp only [List.drop_zero, List.length_nil, List.nil_append]
  cases Sp.scanR s.data.toList 0 0 <;> rfl
/-- A token in a block of its own, beside the tokens so far. -/
structure Built (w : World) (v : Value) (acc : List Tok) (b : Nat) (k : Int) (x : ByteArray) (n : Nat) (q : Nat) (wx : World) : Prop where
  blk : wx.heap[b]? = some (.cells #[.int .i64 k, .string x, .int .i64 n, .int .i64 q] 32 (0, 0))
  own : wx.ownsRow w.heap.size 32 4 v acc.length (cellsOf acc)
  below : Below w.heap.size w wx
  far : v.ownBlock ≠ some b
  base : w.heap.size ≤ b
theorem RAt.build {w wr : World} {s : ByteArray} {p : Nat} {acc : List Tok} {v : Value} (h : RAt w s p acc v wr) (q : Nat) :
    Built w v acc wr.heap.size 0 ⟨#[]⟩ 0 q (wr.alloc (.cells #[.int .i64 0, .string ⟨#[]⟩, .int .i64 0, .int .i64 q] 32)) :=
  ⟨heap_alloc_new wr _, h.own.alloc _, h.below.alloc h.below.size _, fun e => by have := h.own.lt _ e; omega, h.below.size⟩
theorem Built.cells {w wx : World} {v : Value} {acc : List Tok} {b q n : Nat} {k : Int} {x : ByteArray} (h : Built w v acc b k x n q wx) :
    wx.cell? ⟨b, 0, none⟩ = some (.int .i64 k) ∧ wx.cell? ⟨b, 1, none⟩ = some (.string x) ∧ wx.cell? ⟨b, 2, none⟩ = some (.int .i64 n) ∧ wx.cell? ⟨b, 3, none⟩ = some (.int .i64 q) :=
  ⟨by rw [cell_of_row wx b 0 _ _ _ h.blk]; rfl, by rw [cell_of_row wx b 1 _ _ _ h.blk]; rfl, by rw [cell_of_row wx b 2 _ _ _ h.blk]; rfl, by rw [cell_of_row wx b 3 _ _ _ h.blk]; rfl⟩
theorem Built.free {w wx : World} {v : Value} {acc : List Tok} {b q n : Nat} {k : Int} {x : ByteArray} (h : Built w v acc b k x n q wx) (j : Nat) : wx.frozen? ⟨b, j, none⟩ = false := by
  have := h.blk
  simp [World.frozen?, this]
theorem Built.lt {w wx : World} {v : Value} {acc : List Tok} {b q n : Nat} {k : Int} {x : ByteArray} (h : Built w v acc b k x n q wx) : b < wx.heap.size := (Array.getElem?_eq_some_iff.1 h.blk).1
theorem blk_set {w : World} {b i : Nat} {cs : Array Value} {u : Value} {t : TypeId} (h : w.heap[b]? = some (.cells cs t (0, 0))) : (w.setCell ⟨b, i, none⟩ u).heap[b]? = some (.cells (cs.setIfInBounds i u) t (0, 0)) := by
  simp only [World.setCell, Array.getElem?_modify, if_true, h, Option.map_some]
  rfl
theorem own_far {w : World} {base b i : Nat} {e : TypeId} {size n : Nat} {v u : Value} {xs : List Value} (h : w.ownsRow base e size v n xs) (hf : v.ownBlock ≠ some b) : (w.setCell ⟨b, i, none⟩ u).ownsRow base e size v n xs := by
  refine ⟨h.1, ?_⟩
  rcases h.2 with hn | ⟨g, cap, cur, hv, hg, hh, r⟩
  · exact .inl hn
  · refine .inr ⟨g, cap, cur, hv, hg, ?_, r⟩
    rw [Below.heap_setCell _ _ _ _ (by intro e; subst hv; exact hf (by simp [Value.ownBlock]; exact e))]
    exact hh
theorem Built.kind {w wx : World} {v : Value} {acc : List Tok} {b q n : Nat} {k : Int} {x : ByteArray} (h : Built w v acc b k x n q wx) (k' : Int) : Built w v acc b k' x n q (wx.setCell ⟨b, 0, none⟩ (.int .i64 k')) :=
  ⟨blk_set h.blk, own_far h.own h.far, h.below.setCell h.base _, h.far, h.base⟩
theorem Built.text {w wx : World} {v : Value} {acc : List Tok} {b q n : Nat} {k : Int} {x : ByteArray} (h : Built w v acc b k x n q wx) (x' : ByteArray) : Built w v acc b k x' n q (wx.setCell ⟨b, 1, none⟩ (.string x')) :=
  ⟨blk_set h.blk, own_far h.own h.far, h.below.setCell h.base _, h.far, h.base⟩
theorem Built.num {w wx : World} {v : Value} {acc : List Tok} {b q n : Nat} {k : Int} {x : ByteArray} (h : Built w v acc b k x n q wx) (n' : Nat) : Built w v acc b k x n' q (wx.setCell ⟨b, 2, none⟩ (.int .i64 n')) :=
  ⟨blk_set h.blk, own_far h.own h.far, h.below.setCell h.base _, h.far, h.base⟩
theorem Built.grow {w wx wy : World} {v : Value} {acc : List Tok} {b q n : Nat} {k : Int} {x : ByteArray} (h : Built w v acc b k x n q wx) (hb : Below wx.heap.size wx wy) : Built w v acc b k x n q wy :=
  ⟨(hb.block _ h.lt).trans h.blk, own_below h.own hb, h.below.trans (hb.mono h.below.size), h.far, h.base⟩
theorem RAt.next {w wr wy : World} {s : ByteArray} {p q len n : Nat} {k : Int} {acc : List Tok} {v v' : Value} {x : ByteArray} (h : RAt w s p acc v wr)
    (hr : Sp.scanR (s.data.toList.drop p) p acc.length = (Sp.scanR (s.data.toList.drop (q + len)) (q + len) (acc.length + 1)).map (⟨k, (s.data.toList.drop q).take len, n, q⟩ :: ·))
    (hx : x = bs ((s.data.toList.drop q).take len)) (hown : wy.ownsRow w.heap.size 32 4 v' (acc.length + 1) (cellsOf acc ++ [.int .i64 k, .string x, .int .i64 n, .int .i64 q]))
    (hb : Below w.heap.size w wy) (hn : acc.length + 1 ≤ 8192) : RAt w s (q + len) (acc ++ [⟨k, (s.data.toList.drop q).take len, n, q⟩]) v' wy := by
  refine ⟨own_snoc (t := ⟨k, (s.data.toList.drop q).take len, n, q⟩) hown hx (Nat.le_refl _), hb, by simpa using hn, ?_⟩
  rw [h.rest, hr, map_map]
  simp
/-- Letters and digits from one place up to another one. -/
def LtIs (s : ByteArray) (q tot j : Nat) : Prop := (lets (s.data.toList.drop q)).length = tot ∧ tot = (j - q) + (lets (s.data.toList.drop j)).length ∧ q ≤ j
theorem LtIs.next {s : ByteArray} {q tot j : Nat} (h : LtIs s q tot j) (hj : j < s.size) (hc : isLD s[j] = true) : LtIs s q tot (j + 1) := by
  have := lets_at s j hj
  rw [if_pos hc] at this
  exact ⟨h.1, by have := h.2.1; have := h.2.2; omega, by have := h.2.2; omega⟩
theorem LtIs.stop {s : ByteArray} {q tot j : Nat} (h : LtIs s q tot j) (hj : j < s.size) (hc : isLD s[j] = false) : j = q + tot := by
  have := lets_at s j hj
  rw [if_neg (by rw [hc]; simp)] at this
  have := h.2.1; have := h.2.2; omega
theorem LtIs.fin {s : ByteArray} {q tot : Nat} (h : LtIs s q tot s.size) : s.size = q + tot := by
  have h2 := h.2.1
  rw [List.drop_eq_nil_of_le (by simp)] at h2
  have := h.2.2
  simp [lets] at h2
  omega
/-! ### What the token is -/
theorem tokSt_let {c : UInt8} {t : List UInt8} (h : isLet c = true) : tokSt c t = .tok (if isWord (lets (c :: t)) then 2 else 1) (lets (c :: t)).length 0 := by unfold tokSt; rw [if_pos h]
theorem tokSt_dig {c : UInt8} {t : List UInt8} (h : isLet c = false) (hd : isDig c = true) : tokSt c t = match value (lets (c :: t)) with | none => .bad 3 | some v => .tok 3 (lets (c :: t)).length v := by
  unfold tokSt; rw [if_neg (by rw [h]; simp), if_pos hd]; rfl
theorem tokSt_quo {c : UInt8} {t : List UInt8} (h : isLet c = false) (hd : isDig c = false) (hq : c.toNat = 39) : tokSt c t = match Sp.quoted t with | none => .bad 2 | some p => .tok 3 p.1 p.2 := by
  unfold tokSt; rw [if_neg (by rw [h]; simp), if_neg (by rw [hd]; simp), if_pos (UInt8.toNat_inj.1 (by rw [hq]; rfl))]; rfl
theorem tokSt_sig {c : UInt8} {t : List UInt8} (h : isLet c = false) (hd : isDig c = false) (hq : c.toNat ≠ 39) : tokSt c t = match firstOf signsL (c :: t) with | none => .bad 2 | some p => .tok 4 p.length 0 := by
  unfold tokSt; rw [if_neg (by rw [h]; simp), if_neg (by rw [hd]; simp), if_neg (fun e => hq (by rw [e]; rfl))]; rfl
theorem r_is (s : ByteArray) (b : Bool) (w : World) (h : isWord s.data.toList = b) : Calls Tryd.prog 17 #[.string s] w fun e w' => e = .returned (.bool b) ∧ Below w.heap.size w w' := by
  subst h; exact is_ref s w
theorem r_value_some (s : ByteArray) (v : Nat) (w : World) (hs : s.size ≤ 32768) (h : value s.data.toList = some v) : Calls Tryd.prog 27 #[.string s] w fun e w' => e = .returned (.tuple #[.int .i64 v, .bool true]) ∧ w = w' :=
  (r_value s w hs).mono fun e w' ⟨he, hw⟩ => ⟨by rw [he, h]; rfl, hw⟩
theorem r_value_none (s : ByteArray) (w : World) (hs : s.size ≤ 32768) (h : value s.data.toList = none) : Calls Tryd.prog 27 #[.string s] w fun e w' => e = .returned (.tuple #[.int .i64 0, .bool false]) ∧ w = w' :=
  (r_value s w hs).mono fun e w' ⟨he, hw⟩ => ⟨by rw [he, h]; rfl, hw⟩
theorem r_char_some (s : ByteArray) (k len v : Nat) (w : World) (hs : s.size ≤ 32768) (hk : k < s.size) (h : Sp.quoted (s.data.toList.drop (k + 1)) = some (len, v)) : Calls Tryd.prog 28 #[.string s, .int .i64 k] w fun e w' => e = .returned (.tuple #[.int .i64 v, .int .i64 len]) ∧ w = w' :=
  (r_char s k _ w hs hk h).mono fun e w' ⟨he, hw⟩ => ⟨by rw [he]; rfl, hw⟩
theorem r_char_none (s : ByteArray) (k : Nat) (w : World) (hs : s.size ≤ 32768) (hk : k < s.size) (h : Sp.quoted (s.data.toList.drop (k + 1)) = none) : Calls Tryd.prog 28 #[.string s, .int .i64 k] w fun e w' => e = .returned (.tuple #[.int .i64 0, .int .i64 0]) ∧ w = w' :=
  (r_char s k _ w hs hk h).mono fun e w' ⟨he, hw⟩ => ⟨by rw [he]; rfl, hw⟩
theorem r_skip_n (s : ByteArray) (k0 m q : Nat) (b : Bool) (w : World) (hs : s.size ≤ 32768) (hk0 : k0 ≤ s.size) (h : gapR (s.data.toList.drop k0) = (m, b)) (hq : k0 + m = q) :
    Calls Tryd.prog 24 #[.string s, .int .i64 k0] w fun e w' => e = .returned (.tuple #[.int .i64 q, .bool b]) ∧ w = w' := by
  subst hq; exact r_skip s k0 m b w hs hk0 h
/-! ### The signs: the first one that stands there is the longest -/
theorem firstOf_take_succ (l : List UInt8) : ∀ (ps : List (List UInt8)) (i : Nat) (p : List UInt8), ps[i]? = some p → firstOf (ps.take (i + 1)) l = match firstOf (ps.take i) l with | some r => some r | none => if p.isPrefixOf l then some p else none
  | [], i, p, h => by simp at h
  | a :: ps, 0, p, h => by
    simp at h; subst h
    simp [firstOf]
  | a :: ps, i + 1, p, h => by
    simp at h
    have ih := firstOf_take_succ l ps i p h
    rw [List.take_succ_cons, List.take_succ_cons]
    unfold firstOf
    split
    · rfl
    · exact ih
theorem signs_down : ∀ i, i < 45 → ∀ j, j ≤ i → (signsL.getD i []).length ≤ (signsL.getD j []).length := by decide +kernel
theorem firstOf_in (l : List UInt8) : ∀ (ps : List (List UInt8)) (i : Nat) (r : List UInt8), firstOf (ps.take i) l = some r → ∃ j, j < i ∧ ps[j]? = some r
  | [], i, r, h => by simp [firstOf] at h
  | a :: ps, 0, r, h => by simp [firstOf] at h
  | a :: ps, i + 1, r, h => by
    rw [List.take_succ_cons] at h
    unfold firstOf at h
    split at h
    · exact ⟨0, by omega, by simpa using h⟩
    · obtain ⟨j, hj, hr⟩ := firstOf_in l ps i r h
      exact ⟨j + 1, by omega, by simpa using hr⟩
/-- The longest sign so far. -/
structure SignAt (w : World) (v : Value) (acc : List Tok) (b b2 : Nat) (l : List UInt8) (q : Nat) (i : Nat) (k : Int) (x : ByteArray) (wx : World) : Prop where
  bl : Built w v acc b k x 0 q wx
  is_ : match firstOf (signsL.take i) l with | none => k = 0 ∧ x = ⟨#[]⟩ | some r => k = 4 ∧ x = bs r
  row : wx.heap[b2]? = some (.cells signsV 9 (0, 0))
  ne : b2 ≠ b
theorem SignAt.draw {w wx : World} {v : Value} {acc : List Tok} {b b2 q i : Nat} {l : List UInt8} {k : Int} {x : ByteArray} (h : SignAt w v acc b b2 l q i k x wx) (n : Nat) : SignAt w v acc b b2 l q i k x (wx.drewN n) := by
  have hb := below_drewN wx.heap.size wx n
  exact ⟨h.bl.grow hb, h.is_, (hb.block _ (Array.getElem?_eq_some_iff.1 h.row).1).trans h.row, h.ne⟩
theorem sg_at (i : Nat) (hi : i < 45) : signsL[i]? = some (signsL.getD i []) := by
  have : i < signsL.length := hi
  rw [List.getD_eq_getElem?_getD, List.getElem?_eq_getElem this]; rfl
theorem SignAt.same {w wx : World} {v : Value} {acc : List Tok} {b b2 q i : Nat} {l r : List UInt8} {k : Int} {x : ByteArray} (h : SignAt w v acc b b2 l q i k x wx) (hi : i < 45) (hr : firstOf (signsL.take i) l = some r) : SignAt w v acc b b2 l q (i + 1) k x wx := by
  refine ⟨h.bl, ?_, h.row, h.ne⟩
  have h2 := h.is_
  rw [firstOf_take_succ l signsL i _ (sg_at i hi), hr]
  rw [hr] at h2
  exact h2
theorem SignAt.not {w wx : World} {v : Value} {acc : List Tok} {b b2 q i : Nat} {l : List UInt8} {k : Int} {x : ByteArray} (h : SignAt w v acc b b2 l q i k x wx) (hi : i < 45) (hp : (signsL.getD i []).isPrefixOf l = false) : SignAt w v acc b b2 l q (i + 1) k x wx := by
  refine ⟨h.bl, ?_, h.row, h.ne⟩
  have h2 := h.is_
  rw [firstOf_take_succ l signsL i _ (sg_at i hi), hp]
  cases hf : firstOf (signsL.take i) l with
  | none => rw [hf] at h2; exact h2
  | some r => rw [hf] at h2; exact h2
theorem SignAt.take {w wx : World} {v : Value} {acc : List Tok} {b b2 q i : Nat} {l : List UInt8} {k : Int} {x : ByteArray} (h : SignAt w v acc b b2 l q i k x wx) (hi : i < 45) (hn : firstOf (signsL.take i) l = none) (hp : (signsL.getD i []).isPrefixOf l = true) :
    SignAt w v acc b b2 l q (i + 1) 4 (sg i) ((wx.setCell ⟨b, 0, none⟩ (.int .i64 4)).setCell ⟨b, 1, none⟩ (.string (sg i))) := by
  refine ⟨(h.bl.kind 4).text (sg i), ?_, ?_, h.ne⟩
  · rw [firstOf_take_succ l signsL i _ (sg_at i hi), hn, hp]
    exact ⟨rfl, rfl⟩
  · rw [Below.heap_setCell _ _ _ _ (by exact h.ne), Below.heap_setCell _ _ _ _ (by exact h.ne)]
    exact h.row
theorem sg_pos (i : Nat) (hi : i < 45) : 0 < (sg i).size := by
  have h := sg_at i hi
  have := (signs_len _ (List.mem_of_getElem? h)).1
  show 0 < (signsL.getD i []).length
  omega
theorem SignAt.longer {w wx : World} {v : Value} {acc : List Tok} {b b2 q i : Nat} {l r : List UInt8} {k : Int} {x : ByteArray} (h : SignAt w v acc b b2 l q i k x wx) (hi : i < 45) (hr : firstOf (signsL.take i) l = some r) : (sg i).size ≤ x.size := by
  have h2 := h.is_
  rw [hr] at h2
  obtain ⟨j, hj, hjr⟩ := firstOf_in l signsL i r hr
  have hd := signs_down i hi j (by omega)
  have hjd : signsL.getD j [] = r := by rw [List.getD_eq_getElem?_getD, hjr]; rfl
  have h3 : x = bs r := h2.2
  rw [hjd] at hd
  rw [h3]
  exact hd
end Go.Proofs.YtbafkkifdfmldaaDoor
