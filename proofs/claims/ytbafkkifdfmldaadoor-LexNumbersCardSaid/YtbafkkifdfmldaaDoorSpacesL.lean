/-
  Contracts for LexSpaces: how many tokens; open; strings put together.
-/
import Derived.Test.YtbafkkifdfmldaaDoorSpacesP
import Derived.Test.YtbafkkifdfmldaaDoorSame
import Derived.Laws.Concat
namespace Go.Proofs.YtbafkkifdfmldaaDoor
open Go.RowKit Sp
set_option linter.unusedVariables false

theorem cat_run {x y z : ByteArray} (h : x ++ y = z) (hs : x.size + y.size ≤ 9223372036854775807) : ∀ W : World, (Op.stringOp .add x y).run Tryd.prog W = .ok (.string z) W := fun W => by
  rw [run_string_add_sum W x y hs, h]
theorem cat_list {x y z : ByteArray} (h : x ++ y = z) : z.data.toList = x.data.toList ++ y.data.toList := by subst h; simp
theorem cat_size {x y z : ByteArray} (h : x ++ y = z) : z.size = x.size + y.size := by subst h; simp
theorem lenR_ok {r : Res} {ts : List Tok} (h : r = .ok ts) : lenR r = ts.length := by rw [h]; rfl
theorem lenR_err {r : Res} {x : Nat × Int} (h : r = .error x) : lenR r = 0 := by rw [h]; rfl
/-- How many tokens; nothing else is asked. -/
def LenPost (n : Nat) (w : World) (e : Ending) (w' : World) : Prop := ∃ an cp pos er, e = .returned (.tuple #[.slice an n cp, .int .i64 pos, .int .i64 er]) ∧ Below w.heap.size w w'
theorem scan_l (s : ByteArray) (n : Nat) (w : World) (henv : Env w) (hs : s.size ≤ maxLen) (h : lenR (Sp.scan s.data.toList) = n) :
    Calls Tryd.prog 11 #[.string s] w (LenPost n w) := by
  cases hr : Sp.scan s.data.toList with
  | ok ts =>
    rw [lenR_ok hr] at h
    subst h
    refine (scan_ok s ts w henv hs hr).mono ?_
    rintro e w' ⟨g, cap, rfl, _, hb⟩
    exact ⟨_, _, _, _, rfl, hb⟩
  | error x =>
    rw [lenR_err hr] at h
    subst h
    obtain ⟨p, x⟩ := x
    refine (scan_err s p x w henv hs hr).mono ?_
    rintro e w' ⟨rfl, hb⟩
    exact ⟨none, 0, _, _, rfl, hb⟩
set_option maxHeartbeats 1000000 in
theorem open_is (a : ByteArray) (n m : Nat) (w : World) (henv : Env w) (hs : a.size ≤ 2000) (h1 : lenR (Sp.scan (a.data.toList ++ [10, 120])) = n) (h2 : lenR (Sp.scan (a.data.toList ++ [32, 120])) = m) :
    Calls Tryd.prog 18 #[.string a] w fun e w' => e = .returned (.bool ((n : Int) != (m : Int))) ∧ Below w.heap.size w w' := by
  obtain ⟨y1, hy1⟩ : ∃ y, a ++ ⟨#[10, 120]⟩ = y := ⟨_, rfl⟩
  obtain ⟨y2, hy2⟩ : ∃ y, a ++ ⟨#[32, 120]⟩ = y := ⟨_, rfl⟩
  have c1 := cat_run hy1 (by have : (⟨#[10, 120]⟩ : ByteArray).size = 2 := rfl; omega)
  have c2 := cat_run hy2 (by have : (⟨#[32, 120]⟩ : ByteArray).size = 2 := rfl; omega)
  have HS1 : Hid (y1.size ≤ maxLen) := Lib.hid (by rw [cat_size hy1]; have : (⟨#[10, 120]⟩ : ByteArray).size = 2 := rfl; unfold maxLen; omega)
  have HS2 : Hid (y2.size ≤ maxLen) := Lib.hid (by rw [cat_size hy2]; have : (⟨#[32, 120]⟩ : ByteArray).size = 2 := rfl; unfold maxLen; omega)
  have HL1 : Hid (lenR (Sp.scan y1.data.toList) = n) := Lib.hid (by rw [cat_list hy1]; exact h1)
  have HL2 : Hid (lenR (Sp.scan y2.data.toList) = m) := Lib.hid (by rw [cat_list hy2]; exact h2)
  have HE := Lib.hid henv
  clear hy1 hy2 h1 h2 henv
  go_enter Tryd.func18, Tryd.ntmps18
  go_wp2_with (first | ((with_reducible refine (scan_l y1 n _ HE.out HS1.out HL1.out).mono ?_); rintro e w1 ⟨an, cp, pos, er, rfl, hb⟩; have HB := Lib.hid hb; have HE1 : Hid (Env w1) := Lib.hid (HE.out.below hb HE.out.sz); clear hb) | ((with_reducible refine (scan_l y2 m _ HE1.out HS2.out HL2.out).mono ?_); rintro e w2 ⟨an2, cp2, pos2, er2, rfl, hb2⟩; have HB2 := Lib.hid (HB.out.trans (hb2.mono HB.out.size)); clear hb2))
  go_ret
  exact ⟨rfl, HB2.out⟩
/-- No star and no byte 10 up to a place. -/
def NoC (s : ByteArray) (k : Nat) : Prop := ∀ j (h : j < s.size), j < k → s[j].toNat ≠ 42 ∧ s[j].toNat ≠ 10
theorem NoC.next {s : ByteArray} {k : Nat} (h : NoC s k) (hk : k < s.size) (h1 : s[k].toNat ≠ 42) (h2 : s[k].toNat ≠ 10) : NoC s (k + 1) := fun j hj hjk => by
  rcases Nat.lt_or_ge j k with hlt | hge
  · exact h j hj hlt
  · obtain rfl : j = k := by omega
    exact ⟨h1, h2⟩
theorem NoC.all {s : ByteArray} (h : NoC s s.size) : (10 : UInt8) ∉ s.data.toList ∧ (42 : UInt8) ∉ s.data.toList := by
  constructor
  all_goals
    intro hm
    obtain ⟨j, hj, he⟩ := List.mem_iff_getElem.1 hm
    have hj2 : j < s.size := by simpa using hj
    have h2 := h j hj2 hj2
    have h3 : s[j] = s.data.toList[j] := rfl
    rw [h3, he] at h2
    simp at h2
/-- The four strings. -/
def btw (c2 c4 : ByteArray) (j : Nat) : ByteArray := match j with | 0 => ⟨#[10]⟩ | 1 => ⟨#[9, 32, 13, 10]⟩ | 2 => c2 | _ => c4
theorem btw_at (c2 c4 : ByteArray) (j : Nat) (hj : j < 4) : (#[.string ⟨#[10]⟩, .string ⟨#[9, 32, 13, 10]⟩, .string c2, .string c4] : Array Value)[j]? = some (.string (btw c2 c4 j)) := by
  match j, hj with
  | 0, _ => rfl
  | 1, _ => rfl
  | 2, _ => rfl
  | 3, _ => rfl
theorem btw_list (c2 c4 cm : ByteArray) (j : Nat) (hj : j < 4) (h2 : c2.data.toList = 47 :: 47 :: (cm.data.toList ++ [10])) (h4 : c4.data.toList = 47 :: 42 :: (cm.data.toList ++ [42, 47])) : (btw c2 c4 j).data.toList = between cm.data.toList j := by
  match j, hj with
  | 0, _ => rfl
  | 1, _ => rfl
  | 2, _ => exact h2
  | 3, _ => exact h4
theorem strip_res {r r' : Res} (h : stripR r = stripR r') : (∃ ts ts', r = .ok ts ∧ r' = .ok ts' ∧ ts.map strip = ts'.map strip) ∨ (∃ p p' x, r = .error (p, x) ∧ r' = .error (p', x)) := by
  cases r with
  | ok ts => cases r' with
    | ok ts' => exact .inl ⟨ts, ts', rfl, rfl, by simpa [stripR] using h⟩
    | error y => simp [stripR] at h
  | error x => cases r' with
    | ok ts' => simp [stripR] at h
    | error y => exact .inr ⟨x.1, y.1, x.2, rfl, by
        have : x.2 = y.2 := by simpa [stripR] using h
        rw [this]⟩
end Go.Proofs.YtbafkkifdfmldaaDoor
