/-
  Layer 11: contracts of the closures that tell what is known.
-/
import Derived.Test.YtpajndeongcjbaaQG11Mem
import Derived.Test.YtpajndeongcjbaaQLG
namespace Go.Proofs.Ytpajndeongcjbaa
set_option maxRecDepth 100000
open Go.RowKit Cd
set_option linter.unusedVariables false
set_option linter.unusedSimpArgs false

abbrev lsV (b : Nat) : Value := .func (.func 108) #[] #[.pointer (some ⟨b, 0, none⟩)]
abbrev fsV (b : Nat) : Value := .func (.func 107) #[] #[.pointer (some ⟨b, 0, none⟩)]
abbrev bhV (b1 b2 b3 : Nat) : Value := .func (.func 110) #[] #[.pointer (some ⟨b1, 0, none⟩), .pointer (some ⟨b2, 0, none⟩), .pointer (some ⟨b3, 0, none⟩)]
/-- A closure's list of values, in memory below B. -/
def LsAt (w : World) (B b : Nat) (v : List Val) : Prop := b < B ∧ B ≤ w.heap.size ∧ ∃ a c, w.heap[b]? = some (.cells #[.slice a v.length c] 67) ∧ ValsAt w B a v
theorem LsAt.below {w w' : World} {B b : Nat} {v : List Val} (h : LsAt w B b v) (hb : Below B w w') : LsAt w' B b v := by
  obtain ⟨h1, h0, a, c, h2, h3⟩ := h
  exact ⟨h1, Nat.le_trans h0 hb.size, a, c, (hb.block b h1).trans h2, h3.below hb⟩
theorem LsAt.mono {w : World} {B B' b : Nat} {v : List Val} (h : LsAt w B b v) (hB : B ≤ B') (hw : B' ≤ w.heap.size) : LsAt w B' b v := by
  obtain ⟨h1, h0, a, c, h2, h3⟩ := h
  exact ⟨by omega, hw, a, c, h2, h3.mono hB hw⟩
theorem listed_1 (b : Nat) (r R : Nat) (x : Val) (g off c : Nat) (w : World) (hr : r < R) (hb : w.cell? ⟨b, 0, none⟩ = some (.slice (some ⟨g, off, none⟩) R c)) (h0 : w.cell? ⟨g, off + r * 2, none⟩ = some (.int .i64 x.kind)) (h1 : w.cell? ⟨g, off + r * 2 + 1, none⟩ = some (.int .i64 x.n)) (hbs : b < w.heap.size) (hgs : g < w.heap.size) :
    Calls Try.prog 108 #[.int .i64 (r : Int), .pointer (some ⟨b, 0, none⟩)] w (RPost (vlV x) w) := by
  have r0 : (0 : Int) ≤ (r : Int) := Int.natCast_nonneg _
  have r1 : (r : Int) < (R : Int) := by omega
  go_enter Try.func108, Try.ntmps108
  go_wp2
  exact bodyPost_ret (v := vlV x) (by simp [results, Try.results108, go_sem]) rfl ⟨rfl, (Below.refl w.heap.size w).alloc (Nat.le_refl _) _⟩
theorem listed1_c {B b : Nat} {v : List Val} {r : Int} {x : Val} (w : World) (h : LsAt w B b v) (h0 : 0 ≤ r) (hx : v[r.toNat]? = some x) : Calls Try.prog 108 #[.int .i64 r, .pointer (some ⟨b, 0, none⟩)] w (RPost (vlV x) w) := by
  obtain ⟨h1, hB, a, c, h2, h3⟩ := h
  obtain ⟨k, rfl⟩ : ∃ k : Nat, r = (k : Int) := ⟨r.toNat, by omega⟩
  rw [Int.toNat_natCast] at hx
  obtain ⟨g, off, rfl, hg, _, c0, c1⟩ := h3.cells hx
  exact listed_1 b k v.length x g off c w (List.getElem?_eq_some_iff.1 hx).1 (by rw [cell_of_row w b 0 _ _ _ h2]; rfl) c0 c1 (by omega) (by omega)
theorem listed_c (a : Option Addr) (n c : Nat) (w : World) : Calls Try.prog 77 #[.slice a n c] w fun e w' => e = .returned (lsV w.heap.size) ∧ w' = w.alloc (.cells #[.slice a n c] 67) := by
  go_enter Try.func77, Try.ntmps77
  go_wp2
  go_ret
  exact ⟨rfl, rfl⟩
theorem first_c (p : Int) (w : World) : Calls Try.prog 76 #[.int .i64 p] w fun e w' => e = .returned (fsV w.heap.size) ∧ w' = w.alloc (.cells #[.int .i64 p] 3) := by
  go_enter Try.func76, Try.ntmps76
  go_wp2
  go_ret
  exact ⟨rfl, rfl⟩
theorem first1_c (b : Nat) (p r : Int) (w : World) (hb : w.cell? ⟨b, 0, none⟩ = some (.int .i64 p)) (hbs : b < w.heap.size) : Calls Try.prog 107 #[.int .i64 r, .pointer (some ⟨b, 0, none⟩)] w (RPost (vlV (if r < p then ⟨2, 0⟩ else ⟨1, 0⟩)) w) := by
  by_cases h : r < p
  · rw [if_pos h]
    go_enter Try.func107, Try.ntmps107
    go_wp2
    exact bodyPost_ret (v := vlV ⟨2, 0⟩) (by simp [results, Try.results107, go_sem]) rfl ⟨rfl, (Below.refl w.heap.size w).alloc (Nat.le_refl _) _⟩
  · rw [if_neg h]
    go_enter Try.func107, Try.ntmps107
    go_wp2
    exact bodyPost_ret (v := vlV ⟨1, 0⟩) (by simp [results, Try.results107, go_sem]) rfl ⟨rfl, (Below.refl w.heap.size w).alloc (Nat.le_refl _) _⟩
/-- What behind's closure tells of a register: what is set, or what the other one tells. -/
theorem behind_set (b1 b2 b3 : Nat) (r : Int) (x : Val) (w : World) (h1 : w.cell? ⟨b1, 0, none⟩ = some (.int .i64 r)) (h2 : w.heap[b2]? = some (vlO x)) (hb1 : b1 < w.heap.size) : Calls Try.prog 110 #[.int .i64 r, .pointer (some ⟨b1, 0, none⟩), .pointer (some ⟨b2, 0, none⟩), .pointer (some ⟨b3, 0, none⟩)] w (RPost (vlV x) w) := by
  obtain ⟨c0, c1⟩ := nv2 h2
  have hb2 := lt_heap h2
  go_enter Try.func110, Try.ntmps110
  go_wp2
  exact bodyPost_ret (v := vlV x) (by simp [results, Try.results110, go_sem]) rfl ⟨rfl, (Below.refl w.heap.size w).alloc (Nat.le_refl _) _⟩
theorem behind_not (b1 b2 b3 b : Nat) (s : Int) (r R : Nat) (x : Val) (g off c : Nat) (w : World) (hsr : (r : Int) ≠ s) (hr : r < R) (h1 : w.cell? ⟨b1, 0, none⟩ = some (.int .i64 s)) (h3 : w.cell? ⟨b3, 0, none⟩ = some (lsV b)) (hb : w.cell? ⟨b, 0, none⟩ = some (.slice (some ⟨g, off, none⟩) R c)) (h4 : w.cell? ⟨g, off + r * 2, none⟩ = some (.int .i64 x.kind)) (h5 : w.cell? ⟨g, off + r * 2 + 1, none⟩ = some (.int .i64 x.n)) (hb1 : b1 < w.heap.size) (hb3 : b3 < w.heap.size) (hbs : b < w.heap.size) (hgs : g < w.heap.size) :
    Calls Try.prog 110 #[.int .i64 (r : Int), .pointer (some ⟨b1, 0, none⟩), .pointer (some ⟨b2, 0, none⟩), .pointer (some ⟨b3, 0, none⟩)] w (RPost (vlV x) w) := by
  have t0 : (((r : Int)) == s) = false := by simpa using hsr
  have HL : Hid (∀ o : Obj, Calls Try.prog 108 #[.int .i64 (r : Int), .pointer (some ⟨b, 0, none⟩)] (w.alloc o) (RPost (vlV x) (w.alloc o))) := Lib.hid (fun o => listed_1 b r R x g off c (w.alloc o) hr ((World.cell?_alloc_lt _ _ _ (by simpa using hbs)).trans hb) ((World.cell?_alloc_lt _ _ _ (by simpa using hgs)).trans h4) ((World.cell?_alloc_lt _ _ _ (by simpa using hgs)).trans h5) (by simp <;> omega) (by simp <;> omega))
  have HB0 := Lib.hid ((Below.refl w.heap.size w).alloc (Nat.le_refl _) (vlO ⟨0, 0⟩))
  have HX0 := Lib.hid (heap_alloc_new w (vlO ⟨0, 0⟩))
  clear hsr h4 h5 hb
  go_enter Try.func110, Try.ntmps110
  go_wp2_with ((with_reducible refine (HL.out _).mono ?_); rintro e w1 ⟨rfl, hb1⟩; have HX1 := Lib.hid ((hb1.block w.heap.size (by simp)).trans HX0.out); have HB1 := Lib.hid (HB0.out.trans (hb1.mono (by simp))); clear hb1; obtain ⟨z0, z1⟩ := nv2 HX1.out; have fz : ∀ j, w1.frozen? ⟨w.heap.size, j, none⟩ = false := (fun j => by simp [World.frozen?, HX1.out]))
  obtain ⟨y0, y1⟩ := nv2 (set2 HX1.out (.int .i64 x.kind) (.int .i64 x.n))
  exact bodyPost_ret (v := vlV x) (by simp [results, Try.results110, go_sem, y0, y1]) rfl ⟨rfl, (HB1.out.setCell (Nat.le_refl _) _).setCell (Nat.le_refl _) _⟩

/-! ### What an instruction tells -/
/-- The box of an instruction, the box of the answer, and a closure below. -/
structure TSt (w0 w : World) (i : Ins) (b : Nat) (v : List Val) : Prop where
  hi : w.heap[w0.heap.size]? = some (inO i)
  hr : w.heap[w0.heap.size + 1]? = some (vlO ⟨0, 0⟩)
  ls : LsAt w w0.heap.size b v
  hb : Below w0.heap.size w0 w
theorem TSt.lt {w0 w : World} {i : Ins} {b : Nat} {v : List Val} (h : TSt w0 w i b v) : w0.heap.size + 2 ≤ w.heap.size := lt_heap h.hr
theorem TSt.below {w0 w w' : World} {i : Ins} {b : Nat} {v : List Val} (h : TSt w0 w i b v) (hb : Below w.heap.size w w') : TSt w0 w' i b v := by
  have := h.lt
  exact ⟨(hb.block _ (by omega)).trans h.hi, (hb.block _ (by omega)).trans h.hr, h.ls.below (hb.mono (by omega)), h.hb.trans (hb.mono (by omega))⟩
theorem TSt.drew {w0 w : World} {i : Ins} {b : Nat} {v : List Val} (h : TSt w0 w i b v) : TSt w0 w.drew i b v := ⟨h.hi, h.hr, ⟨h.ls.1, h.ls.2.1, h.ls.2.2⟩, drW h.hb⟩
theorem TSt.new (w : World) (i : Ins) (b : Nat) (v : List Val) (h : LsAt w w.heap.size b v) : TSt w ((w.alloc (inO i)).alloc (vlO ⟨0, 0⟩)) i b v := by
  have hb : Below w.heap.size w ((w.alloc (inO i)).alloc (vlO ⟨0, 0⟩)) := ((Below.refl w.heap.size w).alloc (Nat.le_refl _) _).alloc (by simp) _
  have h2 := heap_alloc_new (w.alloc (inO i)) (vlO ⟨0, 0⟩)
  rw [World.size_alloc] at h2
  exact ⟨(Below.heap_alloc _ _ _ (by simp)).trans (heap_alloc_new w _), h2, h.below hb, hb⟩
theorem TSt.set {w0 w : World} {i : Ins} {b : Nat} {v : List Val} (h : TSt w0 w i b v) (x : Val) : Below w0.heap.size w0 ((w.setCell ⟨w0.heap.size + 1, 0, none⟩ (.int .i64 x.kind)).setCell ⟨w0.heap.size + 1, 1, none⟩ (.int .i64 x.n)) ∧ ((w.setCell ⟨w0.heap.size + 1, 0, none⟩ (.int .i64 x.kind)).setCell ⟨w0.heap.size + 1, 1, none⟩ (.int .i64 x.n)).heap[w0.heap.size + 1]? = some (vlO x) :=
  ⟨(h.hb.setCell (by simp <;> omega) _).setCell (by simp <;> omega) _, set2 h.hr _ _⟩
theorem TSt.frozen {w0 w : World} {i : Ins} {b : Nat} {v : List Val} (h : TSt w0 w i b v) (j : Nat) : w.frozen? ⟨w0.heap.size + 1, j, none⟩ = false := by simp [World.frozen?, h.hr]
theorem fldK (x y : Value) (w : World) : (Instr.field 66 (.agg #[x, y]) 0).run Try.prog w = .ok x w := by kernel_rfl
theorem fldN (x y : Value) (w : World) : (Instr.field 66 (.agg #[x, y]) 1).run Try.prog w = .ok y w := by kernel_rfl
/-- What an operation makes of what is known, and whether it may make anything. -/
def Cd.opV (i : Ins) (v : List Val) : Val × Bool :=
  if (uses i).all (fun r => decide ((v.getD r.toNat ⟨0, 0⟩).kind = 1)) then
    (if doB i.op (v.getD i.b.toNat ⟨0, 0⟩).n = true then (⟨1, doV i.op (v.getD i.a.toNat ⟨0, 0⟩).n (v.getD i.b.toNat ⟨0, 0⟩).n⟩, true) else (⟨2, 0⟩, false))
  else (⟨2, 0⟩, true)
/-- The registers of an instruction lie within. -/
def RegIn (i : Ins) (v : List Val) : Prop := (∀ r ∈ uses i, 0 ≤ r ∧ r < (v.length : Int)) ∧ (i.kind = 2 ∨ i.kind = 3 → (0 ≤ i.a ∧ i.a < (v.length : Int)) ∧ 0 ≤ i.b ∧ i.b < (v.length : Int))
theorem getD_at {v : List Val} {r : Int} (h0 : 0 ≤ r) (h1 : r < (v.length : Int)) : v[r.toNat]? = some (v.getD r.toNat ⟨0, 0⟩) := by
  rw [List.getD_eq_getElem?_getD, List.getElem?_eq_getElem (by omega)]; rfl
theorem op_all {us : List Int} {v : List Val} {k : Nat} {r : Int} (h : us[k]? = some r) : (us.take (k + 1)).all (fun r => decide ((v.getD r.toNat ⟨0, 0⟩).kind = 1)) = ((us.take k).all (fun r => decide ((v.getD r.toNat ⟨0, 0⟩).kind = 1)) && decide ((v.getD r.toNat ⟨0, 0⟩).kind = 1)) := by
  rw [take_more h, List.all_append]; simp
def OpPost (p : Val × Bool) (w : World) (e : Ending) (w' : World) : Prop := e = .returned (.tuple #[vlV p.1, .bool p.2]) ∧ Below w.heap.size w w'
set_option maxHeartbeats 4000000 in
theorem operation_c (i : Ins) (b : Nat) (v : List Val) (w : World) (hL : LsAt w w.heap.size b v) (hk : i.kind = 2 ∨ i.kind = 3) (hR : RegIn i v) : Calls Try.prog 111 #[inV i, lsV b] w (OpPost (opV i v) w) := by
  have hmix : Try.prog.follows .mixedOrders = true := by kernel_rfl
  have HT0 := Lib.hid (TSt.new w i b v hL)
  have HRI := Lib.hid hR; have HK := Lib.hid hk
  obtain ⟨us, hus⟩ : ∃ us, uses i = us := ⟨_, rfl⟩
  have HUS := Lib.hid hus
  have HUC : Hid (∀ w, Calls Try.prog 97 #[inV i] w (ListPost us w)) := Lib.hid (fun w => hus ▸ cuses_any i w)
  have hul : us.length ≤ 8 := hus ▸ uses_len i
  obtain ⟨c0, c1, c2, c3, c4, c5, c6, c7, c8, c9, c10, c11, c12, c13, c14⟩ := nv15 HT0.out.hi
  clear hus hL hR hk
  go_enter Try.func111, Try.ntmps111
  go_wp2_with ((with_reducible refine (HUC.out _).mono ?_); rintro e w1 ⟨u1, rfl, ho1, hb1⟩; obtain ⟨ua, uc, rfl⟩ := row_slice ho1; have HT1 := Lib.hid (HT0.out.below hb1); have HO1 := Lib.hid ho1; clear ho1 hb1 c0 c1 c2 c3 c4 c5 c6 c7 c8 c9 c10 c11 c12 c13 c14)
  have HIA : Hid (IntsAt w1 ua us) := Lib.hid (IntsAt.of_own HO1.out)
  go_loopw [13] (fun s13 wr => ∃ k : Nat, k ≤ us.length ∧ s13 = .int .i64 (k : Int) ∧ Hid ((us.take k).all (fun r => decide ((v.getD r.toNat ⟨0, 0⟩).kind = 1)) = true) ∧ Hid (Below w1.heap.size w1 wr)) (fun s13 wr => us.length - (intOf s13).toNat)
  case atStart => exact ⟨0, by omega, rfl, Lib.hid rfl, Lib.hid (Below.refl _ _)⟩
  case round =>
    obtain ⟨k, hk, rfl, HA, HB⟩ := hrel
    have k0 : (0 : Int) ≤ (k : Int) := Int.natCast_nonneg _
    have HT := Lib.hid (HT1.out.below HB.out)
    by_cases hlt : k < us.length
    · have k1 : (k : Int) < (us.length : Int) := by omega
      obtain ⟨r, hr⟩ : ∃ r, us[k]? = some r := ⟨_, List.getElem?_eq_getElem hlt⟩
      obtain ⟨gb, goff, rfl, hgb, hgc⟩ := (HIA.out.below HB.out).at hr
      have hrin := HRI.out.1 r (by rw [HUS.out]; exact List.mem_of_getElem? hr)
      have hgx := getD_at hrin.1 hrin.2
      have HM := Lib.hid (op_all (v := v) hr)
      obtain ⟨x, hx⟩ : ∃ x, v.getD r.toNat ⟨0, 0⟩ = x := ⟨_, rfl⟩
      rw [hx] at HM hgx
      have HLC : Hid (∀ V, LsAt V w.heap.size b v → Calls Try.prog 108 #[.int .i64 r, .pointer (some ⟨b, 0, none⟩)] V (RPost (vlV x) V)) := Lib.hid (fun V hV => listed1_c V hV hrin.1 hgx)
      have HLS := Lib.hid HT.out.ls
      have HLT := Lib.hid hlt
      have HRI2 := Lib.hid hr
      clear hgx hx hlt hr
      have hf0 : ∀ W, (Instr.field 66 (vlV x) 0).run Try.prog W = .ok (.int .i64 x.kind) W := fun W => fldK _ _ W
      by_cases hx1 : x.kind = 1
      · have t0 : ((x.kind : Int) != 1) = false := by simpa using hx1
        have HM2 : Hid ((us.take (k + 1)).all (fun r => decide ((v.getD r.toNat ⟨0, 0⟩).kind = 1)) = true) := Lib.hid (by rw [HM.out, HA.out, hx1]; rfl)
        clear hx1
        go_wp2_with ((with_reducible refine (HLC.out _ HLS.out).mono ?_); rintro e w2 ⟨rfl, hb2⟩; have HB2 := Lib.hid (HB.out.trans (hb2.mono HB.out.size)); clear hb2)
        go_roundw
        case rel => exact ⟨k + 1, HLT.out, by go_num, HM2, HB2⟩
        case measure => have := HLT.out; simp [intOf]; omega
      · have t0 : ((x.kind : Int) != 1) = true := by simpa using hx1
        have HE : Hid (opV i v = (⟨2, 0⟩, true)) := Lib.hid (by
          unfold opV
          rw [if_neg]
          rw [HUS.out]
          intro h
          rw [List.all_eq_true] at h
          have h1 := h r (List.mem_of_getElem? HRI2.out)
          have h2 := HM.out
          rw [HA.out, Bool.true_and, decide_eq_false hx1] at h2
          have h3 : (us.take (k + 1)).all (fun r => decide ((v.getD r.toNat ⟨0, 0⟩).kind = 1)) = true := List.all_eq_true.2 (fun y hy => h y (List.mem_of_mem_take hy))
          rw [h2] at h3
          cases h3)
        clear hx1
        go_wp2_with ((with_reducible refine (HLC.out _ HLS.out).mono ?_); rintro e w2 ⟨rfl, hb2⟩; have HT2 := Lib.hid (HT.out.below hb2); clear hb2; obtain ⟨z0, z1⟩ := nv2 HT2.out.hr; have fz : ∀ j, w2.frozen? ⟨w.heap.size + 1, j, none⟩ = false := (fun j => HT2.out.frozen j))
        obtain ⟨y0, y1⟩ := nv2 (HT2.out.set ⟨2, 0⟩).2
        rw [HE.out]
        exact bodyPost_ret (v := .tuple #[vlV ⟨2, 0⟩, .bool true]) (by simp [results, Try.results111, go_sem, y0, y1] <;> rfl) rfl ⟨rfl, (HT2.out.set ⟨2, 0⟩).1⟩
    · obtain rfl : k = us.length := by omega
      have HA2 := Lib.hid HA.out
      rw [List.take_length] at HA2
      obtain ⟨xa, hxa⟩ : ∃ x, v.getD i.a.toNat ⟨0, 0⟩ = x := ⟨_, rfl⟩
      obtain ⟨xb, hxb⟩ : ∃ x, v.getD i.b.toNat ⟨0, 0⟩ = x := ⟨_, rfl⟩
      have hab := HRI.out.2 HK.out
      have hga := getD_at hab.1.1 hab.1.2
      have hgb := getD_at hab.2.1 hab.2.2
      rw [hxa] at hga
      rw [hxb] at hgb
      have HLA : Hid (∀ V, LsAt V w.heap.size b v → Calls Try.prog 108 #[.int .i64 i.a, .pointer (some ⟨b, 0, none⟩)] V (RPost (vlV xa) V)) := Lib.hid (fun V hV => listed1_c V hV hab.1.1 hga)
      have HLB : Hid (∀ V, LsAt V w.heap.size b v → Calls Try.prog 108 #[.int .i64 i.b, .pointer (some ⟨b, 0, none⟩)] V (RPost (vlV xb) V)) := Lib.hid (fun V hV => listed1_c V hV hab.2.1 hgb)
      have HE : Hid (opV i v = if doB i.op xb.n = true then (⟨1, doV i.op xa.n xb.n⟩, true) else (⟨2, 0⟩, false)) := Lib.hid (by unfold opV; rw [HUS.out, if_pos HA2.out, hxa, hxb])
      obtain ⟨dv, hdv⟩ : ∃ x, doV i.op xa.n xb.n = x := ⟨_, rfl⟩
      obtain ⟨db, hdb⟩ : ∃ x, doB i.op xb.n = x := ⟨_, rfl⟩
      rw [hdv, hdb] at HE
      have HDO : Hid (∀ V, Calls Try.prog 143 #[.int .i64 i.op, .int .i64 xa.n, .int .i64 xb.n] V (fun e w' => e = .returned (.tuple #[.int .i64 dv, .bool db]) ∧ V = w')) := Lib.hid (fun V => hdv ▸ hdb ▸ do_any i.op xa.n xb.n V)
      have hf1 : ∀ W, (Instr.field 66 (vlV xa) 1).run Try.prog W = .ok (.int .i64 xa.n) W := fun W => fldN _ _ W
      have hf2 : ∀ W, (Instr.field 66 (vlV xb) 1).run Try.prog W = .ok (.int .i64 xb.n) W := fun W => fldN _ _ W
      clear hdv hdb hga hgb hxa hxb hab
      go_upto_region 7 with fail
      have HTD := Lib.hid HT.out.drew
      obtain ⟨c0, c1, c2, c3, c4, c5, c6, c7, c8, c9, c10, c11, c12, c13, c14⟩ := nv15 HTD.out.hi
      go_cut [8, 9] from 24 to 39 (fun s8 s9 wc => s8 = .int .i64 dv ∧ s9 = .bool db ∧ Hid (TSt w wc i b v))
      case first =>
        go_region_with (first | ((with_reducible refine (HLA.out _ HTD.out.ls).mono ?_); rintro e w2 ⟨rfl, hb2⟩; have HT2 := Lib.hid (HTD.out.below hb2); clear hb2 c0 c1 c2 c3 c4 c5 c6 c7 c8 c9 c10 c11 c12 c13 c14; obtain ⟨c0, c1, c2, c3, c4, c5, c6, c7, c8, c9, c10, c11, c12, c13, c14⟩ := nv15 HT2.out.hi) | ((with_reducible refine (HLB.out _ HT2.out.ls).mono ?_); rintro e w3 ⟨rfl, hb3⟩; have HT3 := Lib.hid (HT2.out.below hb3); clear hb3 c0 c1 c2 c3 c4 c5 c6 c7 c8 c9 c10 c11 c12 c13 c14; obtain ⟨c0, c1, c2, c3, c4, c5, c6, c7, c8, c9, c10, c11, c12, c13, c14⟩ := nv15 HT3.out.hi) | ((with_reducible refine (HDO.out _).mono ?_); rintro e w4 ⟨rfl, rfl⟩))
        all_goals (go_wp2; go_meet; case rel => exact ⟨rfl, rfl, HT3⟩)
      case rest =>
        obtain ⟨rfl, rfl, HT3⟩ := hcut
        clear c0 c1 c2 c3 c4 c5 c6 c7 c8 c9 c10 c11 c12 c13 c14
        obtain ⟨z0, z1⟩ := nv2 HT3.out.hr
        have fz : ∀ j, wc.frozen? ⟨w.heap.size + 1, j, none⟩ = false := fun j => HT3.out.frozen j
        cases db with
        | true =>
          go_wp2
          obtain ⟨y0, y1⟩ := nv2 (HT3.out.set ⟨1, dv⟩).2
          rw [HE.out]
          exact bodyPost_ret (v := .tuple #[vlV ⟨1, dv⟩, .bool true]) (by simp [results, Try.results111, go_sem, y0, y1] <;> rfl) rfl ⟨rfl, (HT3.out.set ⟨1, dv⟩).1⟩
        | false =>
          go_wp2
          obtain ⟨y0, y1⟩ := nv2 (HT3.out.set ⟨2, 0⟩).2
          rw [HE.out]
          exact bodyPost_ret (v := .tuple #[vlV ⟨2, 0⟩, .bool false]) (by simp [results, Try.results111, go_sem, y0, y1] <;> rfl) rfl ⟨rfl, (HT3.out.set ⟨2, 0⟩).1⟩
end Go.Proofs.Ytpajndeongcjbaa
