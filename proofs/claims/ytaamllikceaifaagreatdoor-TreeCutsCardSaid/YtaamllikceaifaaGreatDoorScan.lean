/-
  The contract of lex.Scan.
  Contracts of lex.Scan as the laws use it, and a list of tokens as a slice.
-/
import Derived.Test.YtaamllikceaifaaGreatDoorNext
import Derived.Test.YtaamllikceaifaaGreatDoorBlank
import Derived.Test.YtaamllikceaifaaGreatDoorAdd
import Derived.Deep.LoopGhost
import Derived.Deep.QuietTactic
import Derived.BigQuiet
namespace Go.Proofs.YtaamllikceaifaaGreatDoor
open Go.RowKit Sp
set_option linter.unusedVariables false

def tokCells (t : Tok) : List Value := [.int .i64 t.k, .string (bs t.text), .int .i64 t.n, .int .i64 t.pos]
def cellsOf (ts : List Tok) : List Value := ts.flatMap tokCells
def ScanIs (base : Nat) (res : Res) (v : Value) (pos er : Int) (w' : World) : Prop :=
  match res with
  | .ok ts => w'.ownsRow base 65 4 v ts.length (cellsOf ts) ∧ pos = 0 ∧ er = 0
  | .error x => v = .slice none 0 0 ∧ pos = (x.1 : Int) ∧ er = x.2
def ScanPost (l : List UInt8) (w : World) (e : Ending) (w' : World) : Prop :=
  ∃ v pos er, e = .returned (.tuple #[v, .int .i64 pos, .int .i64 er]) ∧ ScanIs w.heap.size (Sp.scan l) v pos er w' ∧ Below w.heap.size w w'
theorem scan_long (s : ByteArray) (w : World) (hs : s.size ≤ maxLen) (hl : 32768 < s.size) :
    Calls Tryz.prog 12 #[.string s] w (ScanPost s.data.toList w) := by
  have hsc : Sp.scan s.data.toList = .error (0, 4) := by unfold Sp.scan; rw [if_pos (by simpa using hl)]
  have HS := Lib.hid hsc; clear hsc
  go_enter Tryz.func12, Tryz.ntmps12
  go_wp2
  go_ret3
  exact ⟨_, _, _, rfl, by rw [HS.out]; exact ⟨rfl, rfl, rfl⟩, (Below.refl _ _).alloc (Nat.le_refl _) _⟩
/-- What holds at the head of a round: the place p, the tokens so far. -/
structure ScAt (w : World) (s : ByteArray) (p : Nat) (acc : List Tok) (wr : World) : Prop where
  caps : ∃ v, Caps w.heap.size s v p wr ∧ wr.ownsRow (w.heap.size + 3) 65 4 v acc.length (cellsOf acc)
  size : w.heap.size + 3 ≤ wr.heap.size
  below : Below w.heap.size w wr
  few : acc.length ≤ 8192
  rest : Sp.scanR s.data.toList 0 0 = (Sp.scanR (s.data.toList.drop p) p acc.length).map (acc ++ ·)
theorem blank_n (r : ByteArray) (m : Nat) (b : Bool) (w : World) (henv : Env w) (hs : r.size ≤ 32768) (h : gapR r.data.toList = (m, b)) :
    Calls Tryz.prog 23 #[.string r] w fun e w' => e = .returned (.tuple #[.int .i64 m, .bool b]) ∧ w = w' :=
  (blank_walk r w henv hs).mono fun e w' ⟨he, hw⟩ => ⟨by rw [he, h], hw⟩
theorem next_tok (r : ByteArray) (k : Int) (len n : Nat) (w : World) (henv : Env w) (hs : r.size ≤ 32768) (h0 : 0 < r.size) (h : tokSt r[0] (r.data.toList.drop 1) = .tok k len n) :
    Calls Tryz.prog 24 #[.string r] w fun e w' => e = .returned (.tuple #[.agg #[.int .i64 k, .int .i64 len, .int .i64 n], .int .i64 0]) ∧ Below w.heap.size w w' :=
  (next_any r w henv hs h0).mono fun e w' ⟨he, hw⟩ => ⟨by rw [he, nextV_tok h], hw⟩
theorem next_bad (r : ByteArray) (x : Int) (w : World) (henv : Env w) (hs : r.size ≤ 32768) (h0 : 0 < r.size) (h : tokSt r[0] (r.data.toList.drop 1) = .bad x) :
    Calls Tryz.prog 24 #[.string r] w fun e w' => e = .returned (.tuple #[.agg #[.int .i64 0, .int .i64 0, .int .i64 0], .int .i64 x]) ∧ Below w.heap.size w w' :=
  (next_any r w henv hs h0).mono fun e w' ⟨he, hw⟩ => ⟨by rw [he, nextV_bad h], hw⟩
theorem ScAt.env {w wr : World} {s : ByteArray} {p : Nat} {acc : List Tok} (h : ScAt w s p acc wr) (he : Env w) : Env wr := he.below h.below he.sz
/-- The place moved on. -/
theorem caps_place {h : Nat} {s : ByteArray} {v : Value} {p q : Int} {w : World} (hc : Caps h s v p w) : Caps h s v q (w.setCell ⟨h + 2, 0, none⟩ (.int .i64 q)) :=
  ⟨by rw [Below.heap_setCell _ _ _ _ (by simp)]; exact hc.src, by rw [Below.heap_setCell _ _ _ _ (by simp)]; exact hc.toks, one_set hc.place⟩
theorem size_set (w : World) (a : Addr) (u : Value) : (w.setCell a u).heap.size = w.heap.size := by simp [World.setCell]
theorem res_err {res : Res} {p : Nat} {x : Int} (h : res = .error (p, x)) (base : Nat) (w' : World) : ScanIs base res (.slice none 0 0) p x w' := by rw [h]; exact ⟨rfl, rfl, rfl⟩
/-- A round that ends in an error. -/
theorem ScAt.err {w wr : World} {s : ByteArray} {p : Nat} {acc : List Tok} (h : ScAt w s p acc wr) (hs : s.size ≤ 32768) {x : Nat × Int} (hr : Sp.scanR (s.data.toList.drop p) p acc.length = .error x) : Sp.scan s.data.toList = .error x := by
  rw [scan_eq, if_neg (by simp; omega), h.rest, hr]; rfl
theorem ScAt.ok {w wr : World} {s : ByteArray} {p : Nat} {acc ts : List Tok} (h : ScAt w s p acc wr) (hs : s.size ≤ 32768) (hr : Sp.scanR (s.data.toList.drop p) p acc.length = .ok ts) : Sp.scan s.data.toList = .ok (acc ++ ts) := by
  rw [scan_eq, if_neg (by simp; omega), h.rest, hr]; rfl
theorem below_drewN (B : Nat) (w : World) (n : Nat) : Below B w (w.drewN n) := by
  induction n with
  | zero => exact Below.refl _ _
  | succ n ih => exact ih.trans (Below.refl _ _).drew
theorem own_form {w : World} {base : Nat} {e : TypeId} {size n : Nat} {v : Value} {xs : List Value} (h : w.ownsRow base e size v n xs) : ∃ a c, v = .slice a n c := by
  rcases h.2 with ⟨rfl, rfl⟩ | ⟨g, cap, cur, rfl, _⟩
  · exact ⟨_, _, rfl⟩
  · exact ⟨_, _, rfl⟩
theorem own_base {w : World} {base base' : Nat} {e : TypeId} {size n : Nat} {v : Value} {xs : List Value} (h : w.ownsRow base e size v n xs) (hb : base' ≤ base) : w.ownsRow base' e size v n xs := by
  refine ⟨h.1, ?_⟩
  rcases h.2 with hn | ⟨g, cap, cur, hv, hg, r⟩
  · exact .inl hn
  · exact .inr ⟨g, cap, cur, hv, by omega, r⟩
theorem own_below {w w' : World} {base : Nat} {e : TypeId} {size n : Nat} {v : Value} {xs : List Value} (h : w.ownsRow base e size v n xs) (hb : Below w.heap.size w w') : w'.ownsRow base e size v n xs := by
  refine ⟨h.1, ?_⟩
  rcases h.2 with hn | ⟨g, cap, cur, hv, hg, hh, r⟩
  · exact .inl hn
  · exact .inr ⟨g, cap, cur, hv, hg, (hb.block _ (Array.getElem?_eq_some_iff.1 hh).1).trans hh, r⟩
theorem caps_below {h : Nat} {s : ByteArray} {v : Value} {p : Int} {w w' : World} (hc : Caps h s v p w) (hb : Below w.heap.size w w') (hz : h + 3 ≤ w.heap.size) : Caps h s v p w' :=
  ⟨(hb.block _ (by omega)).trans hc.src, (hb.block _ (by omega)).trans hc.toks, (hb.block _ (by omega)).trans hc.place⟩
theorem caps_alloc {h : Nat} {s : ByteArray} {v : Value} {p : Int} {w : World} (hc : Caps h s v p w) (o : Obj) : Caps h s v p (w.alloc o) :=
  ⟨heap_alloc_eq hc.src o, heap_alloc_eq hc.toks o, heap_alloc_eq hc.place o⟩
/-- The world behind a call that makes memory, and one block more. -/
structure After (h : Nat) (s : ByteArray) (v : Value) (q : Nat) (k len n : Int) (cnt : Nat) (xs : List Value) (W1 W3 : World) (b : Nat) : Prop where
  caps : Caps h s v q W3
  own : W3.ownsRow (h + 3) 65 4 v cnt xs
  below : Below h W1 W3
  size : h + 3 ≤ W3.heap.size
  k0 : W3.cell? ⟨h, 0, none⟩ = some (.string s)
  k1 : W3.cell? ⟨h + 1, 0, none⟩ = some v
  k2 : W3.cell? ⟨h + 2, 0, none⟩ = some (.int .i64 q)
  k3 : W3.cell? ⟨b, 0, none⟩ = some (.int .i64 k)
  k4 : W3.cell? ⟨b, 1, none⟩ = some (.int .i64 len)
  k5 : W3.cell? ⟨b, 2, none⟩ = some (.int .i64 n)
theorem after_next {h : Nat} {s : ByteArray} {v : Value} {q : Nat} (k len n : Int) {cnt : Nat} {xs : List Value} {W1 W2 : World} (hc : Caps h s v q W1) (hown : W1.ownsRow (h + 3) 65 4 v cnt xs) (hz : h + 3 ≤ W1.heap.size) (hb : Below W1.heap.size W1 W2) :
    ∃ W3, W2.alloc (.cells #[.int .i64 k, .int .i64 len, .int .i64 n] 63) = W3 ∧ After h s v q k len n cnt xs W1 W3 W2.heap.size := by
  refine ⟨_, rfl, ?_⟩
  have hc3 := caps_alloc (caps_below hc hb hz) (.cells #[.int .i64 k, .int .i64 len, .int .i64 n] 63)
  have hz2 := hb.size
  have kb := heap_alloc_new W2 (.cells #[.int .i64 k, .int .i64 len, .int .i64 n] 63)
  exact ⟨hc3, (own_below hown hb).alloc _, (hb.mono (by omega)).alloc (by omega) _, by simp; omega,
    by rw [cell_of_row _ h 0 _ _ _ hc3.src]; rfl, by rw [cell_of_row _ (h + 1) 0 _ _ _ hc3.toks]; rfl, by rw [cell_of_row _ (h + 2) 0 _ _ _ hc3.place]; rfl,
    by rw [cell_of_row _ _ 0 _ _ _ kb]; rfl, by rw [cell_of_row _ _ 1 _ _ _ kb]; rfl, by rw [cell_of_row _ _ 2 _ _ _ kb]; rfl⟩
theorem extract_bs (s : ByteArray) (a b : Nat) : s.extract a b = bs ((s.data.toList.take b).drop a) := by
  apply ByteArray.ext
  apply Array.toList_inj.1
  rw [ext_list]; rfl
theorem cellsOf_snoc (ts : List Tok) (t : Tok) : cellsOf (ts ++ [t]) = cellsOf ts ++ tokCells t := by simp [cellsOf]
theorem own_snoc {w : World} {base base' : Nat} {v : Value} {acc : List Tok} {t : Tok} {x : ByteArray} (h : w.ownsRow base 65 4 v (acc.length + 1) (cellsOf acc ++ [.int .i64 t.k, .string x, .int .i64 t.n, .int .i64 t.pos])) (hx : x = bs t.text) (hb : base' ≤ base) :
    w.ownsRow base' 65 4 v (acc ++ [t]).length (cellsOf (acc ++ [t])) := by
  subst hx
  rw [cellsOf_snoc]
  simpa [tokCells] using own_base h hb
theorem res_ok {res : Res} {ts : List Tok} {v : Value} {pos : Int} {base : Nat} {w' : World} (h : res = .ok ts) (hp : pos = 0) (hown : w'.ownsRow base 65 4 v ts.length (cellsOf ts)) : ScanIs base res v pos 0 w' := by
  rw [h]; exact ⟨hown, hp, rfl⟩
theorem map_map (res : Res) (acc : List Tok) (t : Tok) : (res.map (t :: ·)).map (acc ++ ·) = res.map ((acc ++ [t]) ++ ·) := by
  cases res <;> simp [Except.map]
theorem ScAt.next {w wr W1 W3 W4 : World} {s : ByteArray} {p q len n : Nat} {k : Int} {acc : List Tok} (h : ScAt w s p acc wr)
    (hr : Sp.scanR (s.data.toList.drop p) p acc.length = (Sp.scanR (s.data.toList.drop (q + len)) (q + len) (acc.length + 1)).map (⟨k, (s.data.toList.drop q).take len, n, q⟩ :: ·))
    (hb1 : Below w.heap.size w W1) (hb3 : Below w.heap.size W1 W3) (had : Added w.heap.size s q (q + len) k n acc.length (cellsOf acc) W3 W4) (hz : w.heap.size + 3 ≤ W3.heap.size) (hn : acc.length + 1 ≤ 8192) :
    ScAt w s (q + len) (acc ++ [⟨k, (s.data.toList.drop q).take len, n, q⟩]) W4 := by
  obtain ⟨v', hc, hown⟩ := had.caps
  refine ⟨⟨v', hc, own_snoc (t := ⟨k, (s.data.toList.drop q).take len, n, q⟩) hown ?_ (Nat.le_refl _)⟩, Nat.le_trans hz had.below.size, (hb1.trans hb3).trans had.below, by simpa using hn, ?_⟩
  · rw [extract_bs]
    congr 1
    rw [List.drop_take]
    congr 1
    omega
  · rw [h.rest, hr, map_map]
    simp
theorem add_call (h h1 h2 : Nat) (s : ByteArray) (v : Value) (p len q : Nat) (k lenI n : Int) (cnt : Nat) (xs : List Value) (w : World) (e1 : h + 1 = h1) (e2 : h + 2 = h2) (e3 : (len : Int) = lenI) (hc : Caps h s v p w) (hb : h + 3 ≤ w.heap.size)
    (hown : w.ownsRow (h + 3) 65 4 v cnt xs) (hq : p + len = q) (hl : q ≤ s.size) (hs : s.size ≤ 32768) (hn : cnt ≤ 8192) :
    Calls Tryz.prog 22 #[.agg #[.int .i64 k, .int .i64 lenI, .int .i64 n], .pointer (some ⟨h1, 0, none⟩), .pointer (some ⟨h, 0, none⟩), .pointer (some ⟨h2, 0, none⟩)] w
      (AddPost h s p q k n cnt xs w) := by
  subst e1; subst e2; subst e3
  exact add_walk h s v p len q k n cnt xs w hc hb hown hq hl hs hn
set_option maxRecDepth 100000 in
set_option maxHeartbeats 3200000 in
theorem scan_short (s : ByteArray) (w : World) (henv : Env w) (hs : s.size ≤ 32768) :
    Calls Tryz.prog 12 #[.string s] w (ScanPost s.data.toList w) := by
  have HE := Lib.hid henv; clear henv
  have hd : decide ((32768 : Int) < (s.size : Int)) = false := by simp; omega
  go_enter Tryz.func12, Tryz.ntmps12
  go_wp2
  go_loopg [10] s.size (fun g s10 wr => ∃ (p : Nat) (acc : List Tok), g = s.size - p ∧ p ≤ s.size ∧ ScAt w s p acc wr)
  case atStart =>
    refine ⟨0, [], by simp, by omega, ⟨⟨.slice none 0 0, ⟨?_, ?_, ?_⟩, World.ownsRow_nil _ _ _ _⟩, ?_, ?_, by simp, ?_⟩⟩
    · exact heap_alloc_eq (heap_alloc_eq (heap_alloc_new w _) _) _
    · have := heap_alloc_new (w.alloc (.cells #[.string s] 9)) (.cells #[.slice none 0 0] 39)
      exact heap_alloc_eq (by simpa using this) _
    · have := heap_alloc_new ((w.alloc (.cells #[.string s] 9)).alloc (.cells #[.slice none 0 0] 39)) (.cells #[.int .i64 0] 3)
      simpa using this
    · simp
    · exact (((Below.refl _ _).alloc (Nat.le_refl _) _).alloc (by simp) _).alloc (by simp; omega) _
    · simp only [List.drop_zero, List.length_nil, List.nil_append]
      cases Sp.scanR s.data.toList 0 0 <;> rfl
  case round =>
    obtain ⟨p, acc, hg, hp, hat⟩ := hrel
    subst hg
    obtain ⟨v, hc, hown⟩ := hat.caps
    have hsz := hat.size
    have HAT := Lib.hid hat; clear hat
    have HEN := Lib.hid (HAT.out.env HE.out)
    have c0 : wr.cell? ⟨w.heap.size, 0, none⟩ = some (.string s) := by rw [cell_of_row wr _ 0 _ _ _ hc.src]; rfl
    have c2 : wr.cell? ⟨w.heap.size + 2, 0, none⟩ = some (.int .i64 p) := by rw [cell_of_row wr _ 0 _ _ _ hc.place]; rfl
    have f2 : wr.frozen? ⟨w.heap.size + 2, 0, none⟩ = false := by have := hc.place; simp [World.frozen?, this]
    -- the gap
    obtain ⟨r, hr⟩ : ∃ r, s.extract p s.size = r := ⟨_, rfl⟩
    have hrl : r.data.toList = s.data.toList.drop p := by rw [← hr, ext_from]
    have hrs : r.size ≤ 32768 := by rw [size_list, hrl]; simp; omega
    obtain ⟨m, b, hgap⟩ : ∃ m b, gapR (s.data.toList.drop p) = (m, b) := ⟨_, _, rfl⟩
    have HGP : Hid (gapR r.data.toList = (m, b)) := by rw [hrl]; exact hgap
    have hm : p + m ≤ s.size := by have := gapR_le (s.data.toList.drop p); rw [hgap] at this; simp at this; omega
    have HGA := Lib.hid hgap
    clear hgap hrl
    obtain ⟨q, hq⟩ : ∃ q, p + m = q := ⟨_, rfl⟩
    have hqi : (p : Int) + (m : Int) = (q : Int) := by omega
    have hq1 : q ≤ s.size := by omega
    have HQ := Lib.hid hq; clear hq
    have hmi : (0 : Int) ≤ (m : Int) := Int.natCast_nonneg _
    have hqq : (0 : Int) ≤ (q : Int) := Int.natCast_nonneg _
    -- the world behind the place's store
    have hc' : Caps w.heap.size s v (q : Int) (wr.setCell ⟨w.heap.size + 2, 0, none⟩ (.int .i64 q)) := caps_place hc
    obtain ⟨W1, hW1⟩ : ∃ W1, wr.setCell ⟨w.heap.size + 2, 0, none⟩ (.int .i64 q) = W1 := ⟨_, rfl⟩
    have hown1 : W1.ownsRow (w.heap.size + 3) 65 4 v acc.length (cellsOf acc) := by rw [← hW1]; exact ownsRow_setCell_below hown (by simp) _
    have hbel1 : Below w.heap.size w W1 := by rw [← hW1]; exact HAT.out.below.setCell (by simp) _
    have hsz1 : w.heap.size + 3 ≤ W1.heap.size := by rw [← hW1, size_set]; exact hsz
    rw [hW1] at hc'
    have HEN1 := Lib.hid (HE.out.below hbel1 HE.out.sz)
    have d0 : W1.cell? ⟨w.heap.size, 0, none⟩ = some (.string s) := by rw [cell_of_row W1 _ 0 _ _ _ hc'.src]; rfl
    have d1 : W1.cell? ⟨w.heap.size + 1, 0, none⟩ = some v := by rw [cell_of_row W1 _ 0 _ _ _ hc'.toks]; rfl
    have d2 : W1.cell? ⟨w.heap.size + 2, 0, none⟩ = some (.int .i64 q) := by rw [cell_of_row W1 _ 0 _ _ _ hc'.place]; rfl
    clear hc hown
    have HC1 := Lib.hid hc'; have HO1 := Lib.hid hown1; have HB1 := Lib.hid hbel1
    clear hc' hown1 hbel1
    cases b with
    | false =>
      go_wp2_with ((with_reducible refine (blank_n _ m false _ HEN.out (by omega) HGP.out).mono ?_); rintro e w' ⟨rfl, rfl⟩)
      go_quiet (fail)
      go_wp2
      go_ret3
      have hE := HAT.out.err hs (x := (q, 2)) (by rw [scan_open p _ HGA.out, HQ.out])
      exact ⟨_, _, _, rfl, res_err hE _ _, HB1.out.trans (below_drewN _ _ _)⟩
    | true =>
      obtain ⟨va, vc, rfl⟩ := own_form HO1.out
      have HDR : Hid (List.drop m (List.drop p s.data.toList) = s.data.toList.drop q) := Lib.hid (by rw [List.drop_drop, HQ.out])
      by_cases hfin : q = s.size
      · have hfb : ((q : Int) == (s.size : Int)) = true := by simp [hfin]
        have HF := Lib.hid hfin; clear hfin
        go_wp2_with (first | ((with_reducible refine (blank_n _ m true _ HEN.out (by omega) HGP.out).mono ?_); rintro e w' ⟨rfl, rfl⟩) | ((with_reducible refine (add_call w.heap.size _ _ s _ q 0 q 0 0 0 acc.length (cellsOf acc) _ rfl rfl rfl HC1.out hsz1 HO1.out (by omega) hq1 hs HAT.out.few).mono ?_); rintro e W2 ⟨rfl, had⟩; obtain ⟨v', hc2, hown2⟩ := had.caps; have HB2 := Lib.hid had.below; have g1 : W2.cell? ⟨w.heap.size + 1, 0, none⟩ = some v' := (by rw [cell_of_row W2 _ 0 _ _ _ hc2.toks]; rfl); have HO2 := Lib.hid hown2; clear had hc2 hown2))
        go_ret3
        have hO := HAT.out.ok hs (scan_fin p _ HGA.out (by rw [HDR.out, HF.out]; exact List.drop_eq_nil_of_le (by simp)))
        rw [HQ.out] at hO
        exact ⟨_, _, _, rfl, res_ok hO (by simp) (own_snoc HO2.out (by rw [extract_bs, List.drop_eq_nil_of_le (by simp; omega)]) (by omega)), HB1.out.trans HB2.out⟩
      · have hfb : ((q : Int) == (s.size : Int)) = false := by simp; omega
        obtain ⟨r2, hr2⟩ : ∃ r2, s.extract q s.size = r2 := ⟨_, rfl⟩
        have hrl2 : r2.data.toList = s.data.toList.drop q := by rw [← hr2, ext_from]
        have hrs2 : r2.size ≤ 32768 := by rw [size_list, hrl2]; simp; omega
        have h2s : r2.size = s.size - q := by rw [size_list, hrl2]; simp
        have h20 : 0 < r2.size := by omega
        have hhd := head_eq r2 h20
        have HD : Hid (List.drop m (List.drop p s.data.toList) = r2[0] :: r2.data.toList.drop 1) := Lib.hid (by rw [HDR.out, ← hrl2]; exact hhd)
        have HRL := Lib.hid hrl2
        clear hrl2 hhd hfin
        obtain ⟨n1, n2, n3⟩ := @tokSt_not r2[0] (r2.data.toList.drop 1)
        cases hst : tokSt r2[0] (r2.data.toList.drop 1) with
        | white n => exact absurd hst (n3 n)
        | line => exact absurd hst n2
        | fin => exact absurd hst n1
        | bad x =>
          clear n1 n2 n3
          have HT := Lib.hid hst
          rcases tokSt_bad hst with rfl | rfl
          · clear hst
            have hE := HAT.out.err hs (x := (q, 2)) (by rw [scan_bad p _ HGA.out HD.out HT.out, HQ.out])
            have HX := Lib.hid hE; clear hE
            go_wp2_with (first | ((with_reducible refine (blank_n _ m true _ HEN.out (by omega) HGP.out).mono ?_); rintro e w' ⟨rfl, rfl⟩) | ((with_reducible refine (next_bad _ 2 _ HEN1.out hrs2 h20 HT.out).mono ?_); rintro e W2 ⟨rfl, hb2⟩; obtain ⟨_, rfl, AF⟩ := after_next 0 0 0 HC1.out HO1.out hsz1 hb2; have HB3 := Lib.hid AF.below; have HC3 := Lib.hid AF.caps; have HO3 := Lib.hid AF.own; have hz3 := AF.size; have k0 := AF.k0; have k1 := AF.k1; have k2 := AF.k2; have k3 := AF.k3; have k4 := AF.k4; have k5 := AF.k5; clear AF hb2))
            go_quiet (fail)
            go_wp2
            go_ret3
            exact ⟨_, _, _, rfl, res_err HX.out _ _, (HB1.out.trans HB3.out).trans (below_drewN _ _ _)⟩
          · clear hst
            have hE := HAT.out.err hs (x := (q, 3)) (by rw [scan_bad p _ HGA.out HD.out HT.out, HQ.out])
            have HX := Lib.hid hE; clear hE
            go_wp2_with (first | ((with_reducible refine (blank_n _ m true _ HEN.out (by omega) HGP.out).mono ?_); rintro e w' ⟨rfl, rfl⟩) | ((with_reducible refine (next_bad _ 3 _ HEN1.out hrs2 h20 HT.out).mono ?_); rintro e W2 ⟨rfl, hb2⟩; obtain ⟨_, rfl, AF⟩ := after_next 0 0 0 HC1.out HO1.out hsz1 hb2; have HB3 := Lib.hid AF.below; have HC3 := Lib.hid AF.caps; have HO3 := Lib.hid AF.own; have hz3 := AF.size; have k0 := AF.k0; have k1 := AF.k1; have k2 := AF.k2; have k3 := AF.k3; have k4 := AF.k4; have k5 := AF.k5; clear AF hb2))
            go_quiet (fail)
            go_wp2
            go_ret3
            exact ⟨_, _, _, rfl, res_err HX.out _ _, (HB1.out.trans HB3.out).trans (below_drewN _ _ _)⟩
        | tok k len n =>
          clear n1 n2 n3
          have HT := Lib.hid hst
          have hlen := tokSt_len hst
          have hlen1 := hlen.1
          have hlen2 : q + len ≤ s.size := by
            have h1 := hlen.2
            rw [← head_eq r2 h20, ← size_list] at h1
            omega
          clear hst hlen
          by_cases hfull : acc.length = 8192
          · have hE := HAT.out.err hs (x := (q, 4)) (by rw [scan_tok p _ HGA.out HD.out HT.out, if_pos hfull, HQ.out])
            have HX := Lib.hid hE; clear hE
            have hfu : ((acc.length : Int) == 8192) = true := by simp [hfull]
            have HFU := Lib.hid hfull; clear hfull
            go_wp2_with (first | ((with_reducible refine (blank_n _ m true _ HEN.out (by omega) HGP.out).mono ?_); rintro e w' ⟨rfl, rfl⟩) | ((with_reducible refine (next_tok _ k len n _ HEN1.out hrs2 h20 HT.out).mono ?_); rintro e W2 ⟨rfl, hb2⟩; obtain ⟨W3, hW3, AF⟩ := after_next k len n HC1.out HO1.out hsz1 hb2; have HB3 := Lib.hid AF.below; have HC3 := Lib.hid AF.caps; have HO3 := Lib.hid AF.own; have hz3 := AF.size; have k0 := AF.k0; have k1 := AF.k1; have k2 := AF.k2; have k3 := AF.k3; have k4 := AF.k4; have k5 := AF.k5; clear AF hb2))
            go_quiet (fail)
            go_wp2
            go_ret3
            exact ⟨_, _, _, rfl, res_err HX.out _ _, (HB1.out.trans HB3.out).trans (below_drewN _ _ _)⟩
          · have hfu : ((acc.length : Int) == 8192) = false := by simp; omega
            have hR : Sp.scanR (s.data.toList.drop p) p acc.length = (Sp.scanR (s.data.toList.drop (q + len)) (q + len) (acc.length + 1)).map (⟨k, (s.data.toList.drop q).take len, n, q⟩ :: ·) := by
              rw [scan_tok p _ HGA.out HD.out HT.out, if_neg hfull, ← HD.out, HDR.out, List.drop_drop, HQ.out]
            have HX := Lib.hid hR; clear hR
            go_wp2_with (first | ((with_reducible refine (blank_n _ m true _ HEN.out (by omega) HGP.out).mono ?_); rintro e w' ⟨rfl, rfl⟩) | ((with_reducible refine (next_tok _ k len n _ HEN1.out hrs2 h20 HT.out).mono ?_); rintro e W2 ⟨rfl, hb2⟩; obtain ⟨W3, hW3, AF⟩ := after_next k len n HC1.out HO1.out hsz1 hb2; have HB3 := Lib.hid AF.below; have HC3 := Lib.hid AF.caps; have HO3 := Lib.hid AF.own; have hz3 := AF.size; have k0 := AF.k0; have k1 := AF.k1; have k2 := AF.k2; have k3 := AF.k3; have k4 := AF.k4; have k5 := AF.k5; clear AF hb2) | ((with_reducible refine (add_call w.heap.size _ _ s _ q len (q + len) k len n acc.length (cellsOf acc) _ rfl rfl rfl HC3.out (by omega) HO3.out rfl hlen2 hs HAT.out.few).mono ?_); rintro e W4 ⟨rfl, had⟩; have HAD := Lib.hid had; clear had))
            go_roundg (s.size - (q + len))
            case measure => omega
            case rel =>
              have hfew := HAT.out.few
              exact ⟨q + len, acc ++ [⟨k, (s.data.toList.drop q).take len, n, q⟩], rfl, hlen2, HAT.out.next HX.out HB1.out HB3.out HAD.out (by omega) (by omega)⟩
end Go.Proofs.YtaamllikceaifaaGreatDoor
namespace Go.Proofs.YtaamllikceaifaaGreatDoor
open Go.RowKit Sp
set_option linter.unusedVariables false

/-- A list of tokens as a slice of its own, in block g. -/
structure Toks (g cap base : Nat) (ts : List Tok) (w : World) : Prop where
  own : w.ownsRow base 65 4 (.slice (some ⟨g, 0, none⟩) ts.length cap) ts.length (cellsOf ts)
theorem Toks.ge {g cap base : Nat} {ts : List Tok} {w : World} (h : Toks g cap base ts w) : base ≤ g ∧ g < w.heap.size := h.own.lt g rfl
theorem Toks.below {g cap base B : Nat} {ts : List Tok} {w w' : World} (h : Toks g cap base ts w) (hb : Below B w w') (hB : w.heap.size ≤ B) : Toks g cap base ts w' := ⟨own_below h.own (hb.mono hB)⟩
theorem cellsOf_at : ∀ (ts : List Tok) (i j : Nat) (t : Tok), ts[i]? = some t → j < 4 → (cellsOf ts)[i * 4 + j]? = (tokCells t)[j]?
  | [], i, j, t, h, _ => by simp at h
  | a :: ts, 0, j, t, h, hj => by
    simp at h; subst h
    have hl : (tokCells a).length = 4 := rfl
    simp only [cellsOf, List.flatMap_cons, Nat.zero_mul, Nat.zero_add]
    rw [List.getElem?_append_left (by omega)]
  | a :: ts, i + 1, j, t, h, hj => by
    simp at h
    have hl : (tokCells a).length = 4 := rfl
    have ih := cellsOf_at ts i j t h hj
    simp only [cellsOf, List.flatMap_cons] at ih ⊢
    rw [List.getElem?_append_right (by omega), hl, show (i + 1) * 4 + j - 4 = i * 4 + j by omega]
    exact ih
/-- The four cells of a token. -/
theorem Toks.at {g cap base : Nat} {ts : List Tok} {w : World} (h : Toks g cap base ts w) {i : Nat} {t : Tok} (hi : ts[i]? = some t) :
    w.cell? ⟨g, i * 4, none⟩ = some (.int .i64 t.k) ∧ w.cell? ⟨g, i * 4 + 1, none⟩ = some (.string (bs t.text)) ∧ w.cell? ⟨g, i * 4 + 2, none⟩ = some (.int .i64 t.n) ∧ w.cell? ⟨g, i * 4 + 3, none⟩ = some (.int .i64 t.pos) := by
  have hc := h.own.cells (g := g) rfl
  have hadd : ∀ j, (⟨g, 0, none⟩ : Addr).add j = ⟨g, j, none⟩ := fun j => by unfold Addr.add; split <;> simp_all
  have c : ∀ j, j < 4 → ∀ u, (tokCells t)[j]? = some u → w.cell? ⟨g, i * 4 + j, none⟩ = some u := fun j hj u hu => by
    have := hc (i * 4 + j) u (by rw [cellsOf_at ts i j t hi hj]; exact hu)
    rwa [hadd] at this
  exact ⟨c 0 (by omega) _ rfl, c 1 (by omega) _ rfl, c 2 (by omega) _ rfl, c 3 (by omega) _ rfl⟩
theorem scan_any (s : ByteArray) (w : World) (henv : Env w) (hs : s.size ≤ maxLen) :
    Calls Tryz.prog 12 #[.string s] w (ScanPost s.data.toList w) := by
  by_cases h : s.size ≤ 32768
  · exact scan_short s w henv h
  · exact scan_long s w hs (by omega)
theorem scanF_ne : ∀ (f : Nat) (l : List UInt8) (p c : Nat) (ts : List Tok), scanF f l p c = .ok ts → ts ≠ []
  | 0, _, _, _, _, h => by simp [scanF] at h
  | f + 1, l, p, c, ts, h => by
    unfold scanF at h
    split at h
    · injection h with h; subst h; simp
    · injection h with h; subst h; simp
    · exact scanF_ne f _ _ _ _ h
    · injection h
    · split at h
      · injection h
      · rename_i k len n _ _
        cases hr : scanF f (l.drop len) (p + len) (c + 1) with
        | error e => rw [hr] at h; injection h
        | ok r => rw [hr] at h; injection h with h; subst h; simp
theorem scan_ne {l : List UInt8} {ts : List Tok} (h : Sp.scan l = .ok ts) : ts ≠ [] := by
  unfold Sp.scan at h
  split at h
  · injection h
  · exact scanF_ne _ _ _ _ _ h
def OkPost (ts : List Tok) (w : World) (e : Ending) (w' : World) : Prop := ∃ g cap, e = .returned (.tuple #[.slice (some ⟨g, 0, none⟩) ts.length cap, .int .i64 0, .int .i64 0]) ∧ Toks g cap w.heap.size ts w' ∧ Below w.heap.size w w'
theorem scan_ok (s : ByteArray) (ts : List Tok) (w : World) (henv : Env w) (hs : s.size ≤ maxLen) (h : Sp.scan s.data.toList = .ok ts) :
    Calls Tryz.prog 12 #[.string s] w (OkPost ts w) := by
  refine (scan_any s w henv hs).mono ?_
  rintro e w' ⟨v, pos, er, rfl, hi, hb⟩
  rw [h] at hi
  obtain ⟨hown, rfl, rfl⟩ := hi
  have hl : 0 < ts.length := List.length_pos_iff.2 (scan_ne h)
  obtain ⟨g, cap, rfl, _, _⟩ := hown.form hl
  exact ⟨g, cap, rfl, ⟨hown⟩, hb⟩
theorem scan_err (s : ByteArray) (p : Nat) (x : Int) (w : World) (henv : Env w) (hs : s.size ≤ maxLen) (h : Sp.scan s.data.toList = .error (p, x)) :
    Calls Tryz.prog 12 #[.string s] w fun e w' => e = .returned (.tuple #[.slice none 0 0, .int .i64 p, .int .i64 x]) ∧ Below w.heap.size w w' := by
  refine (scan_any s w henv hs).mono ?_
  rintro e w' ⟨v, pos, er, rfl, hi, hb⟩
  rw [h] at hi
  obtain ⟨rfl, rfl, rfl⟩ := hi
  exact ⟨rfl, hb⟩
end Go.Proofs.YtaamllikceaifaaGreatDoor
