/-
  doppelref07's Run: a round's piece: it tells a number.
-/
import Derived.Test.YtgnpbodhjmappaaPPF
set_option linter.unusedVariables false
set_option linter.unusedSimpArgs false
namespace Go.Proofs.Ytgnpbodhjmappaa
set_option maxRecDepth 100000
open Go.RowKit Cd
set_option maxHeartbeats 8000000 in
set_option maxRecDepth 1000000 in
theorem piece_1 (w0 : World) (U : UnR) (N ub qb mb fb ib n : Nat) (mem : List Int) (out inp : List UInt8) (vi vo vs : Value) (ini : List FrR) (f : FrR) (i : Ins) (w : World) (Us : Nat → Value) (p : Int) (Q : Exit → Act → World → Prop) (h : Mid w0 U N ub qb mb fb ib mem out inp vi vo vs ini f i w) (hk : i.kind = 1) (hgo : ∀ a w', MidA w0 U N ub qb mb fb ib n mem out inp ini f i p i.n a w' → Q .normal a w') :
    Code.wp Try.prog codeE Q (frM Us ub qb mb vi (.int .i64 ((n : Int) + 1)) vo vs (.pointer (some ⟨fb, 0, none⟩)) (.pointer (some ⟨ib, 0, none⟩)) (.int .i64 p) (.int .i64 0)) w := by
  obtain ⟨i0, i1, i2, i3, i4, i5, i6, i7, i8, i9, i10, i11, i12, i13, i14⟩ := nv15 h.ibox
  obtain ⟨f0, f1, f2, f3, f4⟩ := nv5 h.fbox
  rw [hk] at i0
  have HM := Lib.hid h; clear h
  have HGO := Lib.hid hgo; clear hgo
  have HK := Lib.hid hk; clear hk
  unfold frM
  conv => arg 2; whnf
  go_wp2
  exact HGO.out _ _ ⟨vi, vo, vs, HM.out, IsFr.of (by kernel_rfl)⟩
end Go.Proofs.Ytgnpbodhjmappaa
namespace Go.Proofs.Ytgnpbodhjmappaa
set_option maxRecDepth 100000
open Go.RowKit Cd
set_option maxHeartbeats 8000000 in
set_option maxRecDepth 1000000 in
theorem piece_2n (w0 : World) (U : UnR) (N ub qb mb fb ib n : Nat) (mem : List Int) (out inp : List UInt8) (vi vo vs : Value) (ini : List FrR) (f : FrR) (i : Ins) (w : World) (Us : Nat → Value) (p : Int) (Q : Exit → Act → World → Prop) (h : Mid w0 U N ub qb mb fb ib mem out inp vi vo vs ini f i w) (hk : i.kind = 2) (ha : 0 ≤ i.a ∧ i.a < f.fr.regs.length) (v : Int) (hv : doV i.op (reg f.fr i.a) 0 = v) (hdb : doB i.op 0 = false) (hgo : ∀ a w', RunZ w0 qb ⟨2, 2, out⟩ a w' → Q .ret a w') :
    Code.wp Try.prog codeE Q (frM Us ub qb mb vi (.int .i64 ((n : Int) + 1)) vo vs (.pointer (some ⟨fb, 0, none⟩)) (.pointer (some ⟨ib, 0, none⟩)) (.int .i64 p) (.int .i64 0)) w := by
  obtain ⟨oa, oc, rfl⟩ := row_slice h.mem.outh
  obtain ⟨i0, i1, i2, i3, i4, i5, i6, i7, i8, i9, i10, i11, i12, i13, i14⟩ := nv15 h.ibox
  obtain ⟨f0, f1, f2, f3, f4⟩ := nv5 h.fbox
  rw [hk] at i0
  have HM := Lib.hid h; clear h
  have HGO := Lib.hid hgo; clear hgo
  have HK := Lib.hid hk; clear hk
  have ra := HM.out.mem.reg (f := f) (by simp) ha
  have ra0 : (0 : Int) ≤ i.a := ha.1
  have ra1 : i.a < (f.fr.regs.length : Int) := ha.2
  clear ha
  have hdo : ∀ w, Calls Try.prog 69 #[.int .i64 i.op, .int .i64 (reg f.fr i.a), .int .i64 0] w (fun e w' => e = .returned (.tuple #[.int .i64 v, .bool false]) ∧ ∃ n, w' = w.drewN n) := fun w => by have := refDo_any i.op (reg f.fr i.a) 0 w; rw [hv, hdb] at this; exact this
  clear hv hdb
  obtain ⟨z0, z1, z2⟩ := frozen3 HM.out.mem.res
  obtain ⟨y0, y1, y2⟩ := nv3 HM.out.mem.res
  unfold frM
  conv => arg 2; whnf
  go_wp2
  go_quiet ((go_at_call 69; exact Calls.quiet_of (hdo _)))
  go_wp2
  exact HGO.out _ _ ⟨(HM.out.keep (drN (Below.refl _ _) _)).ended 2 2, ub, mb, vi, (.int .i64 ((n : Int) + 1)), (.slice oa out.length oc), vs, (.pointer (some ⟨fb, 0, none⟩)), (.pointer (some ⟨ib, 0, none⟩)), (.int .i64 p), (.int .i64 0), IsFr.of (by kernel_rfl)⟩
end Go.Proofs.Ytgnpbodhjmappaa
namespace Go.Proofs.Ytgnpbodhjmappaa
set_option maxRecDepth 100000
open Go.RowKit Cd
set_option maxHeartbeats 8000000 in
set_option maxRecDepth 1000000 in
theorem piece_2y (w0 : World) (U : UnR) (N ub qb mb fb ib n : Nat) (mem : List Int) (out inp : List UInt8) (vi vo vs : Value) (ini : List FrR) (f : FrR) (i : Ins) (w : World) (Us : Nat → Value) (p : Int) (Q : Exit → Act → World → Prop) (h : Mid w0 U N ub qb mb fb ib mem out inp vi vo vs ini f i w) (hk : i.kind = 2) (ha : 0 ≤ i.a ∧ i.a < f.fr.regs.length) (v : Int) (hv : doV i.op (reg f.fr i.a) 0 = v) (hdb : doB i.op 0 = true) (hgo : ∀ a w', MidA w0 U N ub qb mb fb ib n mem out inp ini f i p v a w' → Q .normal a w') :
    Code.wp Try.prog codeE Q (frM Us ub qb mb vi (.int .i64 ((n : Int) + 1)) vo vs (.pointer (some ⟨fb, 0, none⟩)) (.pointer (some ⟨ib, 0, none⟩)) (.int .i64 p) (.int .i64 0)) w := by
  obtain ⟨i0, i1, i2, i3, i4, i5, i6, i7, i8, i9, i10, i11, i12, i13, i14⟩ := nv15 h.ibox
  obtain ⟨f0, f1, f2, f3, f4⟩ := nv5 h.fbox
  rw [hk] at i0
  have HM := Lib.hid h; clear h
  have HGO := Lib.hid hgo; clear hgo
  have HK := Lib.hid hk; clear hk
  have ra := HM.out.mem.reg (f := f) (by simp) ha
  have ra0 : (0 : Int) ≤ i.a := ha.1
  have ra1 : i.a < (f.fr.regs.length : Int) := ha.2
  clear ha
  have hdo : ∀ w, Calls Try.prog 69 #[.int .i64 i.op, .int .i64 (reg f.fr i.a), .int .i64 0] w (fun e w' => e = .returned (.tuple #[.int .i64 v, .bool true]) ∧ ∃ n, w' = w.drewN n) := fun w => by have := refDo_any i.op (reg f.fr i.a) 0 w; rw [hv, hdb] at this; exact this
  clear hv hdb
  unfold frM
  conv => arg 2; whnf
  go_wp2
  go_quiet ((go_at_call 69; exact Calls.quiet_of (hdo _)))
  go_wp2
  exact HGO.out _ _ ⟨vi, vo, vs, HM.out.keep (drN (Below.refl _ _) _), IsFr.of (by kernel_rfl)⟩
end Go.Proofs.Ytgnpbodhjmappaa
namespace Go.Proofs.Ytgnpbodhjmappaa
set_option maxRecDepth 100000
open Go.RowKit Cd
set_option maxHeartbeats 8000000 in
set_option maxRecDepth 1000000 in
theorem piece_3n (w0 : World) (U : UnR) (N ub qb mb fb ib n : Nat) (mem : List Int) (out inp : List UInt8) (vi vo vs : Value) (ini : List FrR) (f : FrR) (i : Ins) (w : World) (Us : Nat → Value) (p : Int) (Q : Exit → Act → World → Prop) (h : Mid w0 U N ub qb mb fb ib mem out inp vi vo vs ini f i w) (hk : i.kind = 3) (ha : 0 ≤ i.a ∧ i.a < f.fr.regs.length) (hb : 0 ≤ i.b ∧ i.b < f.fr.regs.length) (v : Int) (hv : doV i.op (reg f.fr i.a) (reg f.fr i.b) = v) (hdb : doB i.op (reg f.fr i.b) = false) (hgo : ∀ a w', RunZ w0 qb ⟨2, 2, out⟩ a w' → Q .ret a w') :
    Code.wp Try.prog codeE Q (frM Us ub qb mb vi (.int .i64 ((n : Int) + 1)) vo vs (.pointer (some ⟨fb, 0, none⟩)) (.pointer (some ⟨ib, 0, none⟩)) (.int .i64 p) (.int .i64 0)) w := by
  obtain ⟨oa, oc, rfl⟩ := row_slice h.mem.outh
  obtain ⟨i0, i1, i2, i3, i4, i5, i6, i7, i8, i9, i10, i11, i12, i13, i14⟩ := nv15 h.ibox
  obtain ⟨f0, f1, f2, f3, f4⟩ := nv5 h.fbox
  rw [hk] at i0
  have HM := Lib.hid h; clear h
  have HGO := Lib.hid hgo; clear hgo
  have HK := Lib.hid hk; clear hk
  have ra := HM.out.mem.reg (f := f) (by simp) ha
  have ra0 : (0 : Int) ≤ i.a := ha.1
  have ra1 : i.a < (f.fr.regs.length : Int) := ha.2
  clear ha
  have rb := HM.out.mem.reg (f := f) (by simp) hb
  have rb0 : (0 : Int) ≤ i.b := hb.1
  have rb1 : i.b < (f.fr.regs.length : Int) := hb.2
  clear hb
  have hdo : ∀ w, Calls Try.prog 69 #[.int .i64 i.op, .int .i64 (reg f.fr i.a), .int .i64 (reg f.fr i.b)] w (fun e w' => e = .returned (.tuple #[.int .i64 v, .bool false]) ∧ ∃ n, w' = w.drewN n) := fun w => by have := refDo_any i.op (reg f.fr i.a) (reg f.fr i.b) w; rw [hv, hdb] at this; exact this
  clear hv hdb
  obtain ⟨z0, z1, z2⟩ := frozen3 HM.out.mem.res
  obtain ⟨y0, y1, y2⟩ := nv3 HM.out.mem.res
  unfold frM
  conv => arg 2; whnf
  go_wp2
  go_quiet ((go_at_call 69; exact Calls.quiet_of (hdo _)))
  go_wp2
  exact HGO.out _ _ ⟨(HM.out.keep (drN (Below.refl _ _) _)).ended 2 2, ub, mb, vi, (.int .i64 ((n : Int) + 1)), (.slice oa out.length oc), vs, (.pointer (some ⟨fb, 0, none⟩)), (.pointer (some ⟨ib, 0, none⟩)), (.int .i64 p), (.int .i64 0), IsFr.of (by kernel_rfl)⟩
end Go.Proofs.Ytgnpbodhjmappaa
namespace Go.Proofs.Ytgnpbodhjmappaa
set_option maxRecDepth 100000
open Go.RowKit Cd
set_option maxHeartbeats 8000000 in
set_option maxRecDepth 1000000 in
theorem piece_3y (w0 : World) (U : UnR) (N ub qb mb fb ib n : Nat) (mem : List Int) (out inp : List UInt8) (vi vo vs : Value) (ini : List FrR) (f : FrR) (i : Ins) (w : World) (Us : Nat → Value) (p : Int) (Q : Exit → Act → World → Prop) (h : Mid w0 U N ub qb mb fb ib mem out inp vi vo vs ini f i w) (hk : i.kind = 3) (ha : 0 ≤ i.a ∧ i.a < f.fr.regs.length) (hb : 0 ≤ i.b ∧ i.b < f.fr.regs.length) (v : Int) (hv : doV i.op (reg f.fr i.a) (reg f.fr i.b) = v) (hdb : doB i.op (reg f.fr i.b) = true) (hgo : ∀ a w', MidA w0 U N ub qb mb fb ib n mem out inp ini f i p v a w' → Q .normal a w') :
    Code.wp Try.prog codeE Q (frM Us ub qb mb vi (.int .i64 ((n : Int) + 1)) vo vs (.pointer (some ⟨fb, 0, none⟩)) (.pointer (some ⟨ib, 0, none⟩)) (.int .i64 p) (.int .i64 0)) w := by
  obtain ⟨i0, i1, i2, i3, i4, i5, i6, i7, i8, i9, i10, i11, i12, i13, i14⟩ := nv15 h.ibox
  obtain ⟨f0, f1, f2, f3, f4⟩ := nv5 h.fbox
  rw [hk] at i0
  have HM := Lib.hid h; clear h
  have HGO := Lib.hid hgo; clear hgo
  have HK := Lib.hid hk; clear hk
  have ra := HM.out.mem.reg (f := f) (by simp) ha
  have ra0 : (0 : Int) ≤ i.a := ha.1
  have ra1 : i.a < (f.fr.regs.length : Int) := ha.2
  clear ha
  have rb := HM.out.mem.reg (f := f) (by simp) hb
  have rb0 : (0 : Int) ≤ i.b := hb.1
  have rb1 : i.b < (f.fr.regs.length : Int) := hb.2
  clear hb
  have hdo : ∀ w, Calls Try.prog 69 #[.int .i64 i.op, .int .i64 (reg f.fr i.a), .int .i64 (reg f.fr i.b)] w (fun e w' => e = .returned (.tuple #[.int .i64 v, .bool true]) ∧ ∃ n, w' = w.drewN n) := fun w => by have := refDo_any i.op (reg f.fr i.a) (reg f.fr i.b) w; rw [hv, hdb] at this; exact this
  clear hv hdb
  unfold frM
  conv => arg 2; whnf
  go_wp2
  go_quiet ((go_at_call 69; exact Calls.quiet_of (hdo _)))
  go_wp2
  exact HGO.out _ _ ⟨vi, vo, vs, HM.out.keep (drN (Below.refl _ _) _), IsFr.of (by kernel_rfl)⟩
end Go.Proofs.Ytgnpbodhjmappaa
namespace Go.Proofs.Ytgnpbodhjmappaa
set_option maxRecDepth 100000
open Go.RowKit Cd
set_option maxHeartbeats 8000000 in
set_option maxRecDepth 1000000 in
theorem piece_4 (w0 : World) (U : UnR) (N ub qb mb fb ib n : Nat) (mem : List Int) (out inp : List UInt8) (vi vo vs : Value) (ini : List FrR) (f : FrR) (i : Ins) (w : World) (Us : Nat → Value) (p : Int) (Q : Exit → Act → World → Prop) (h : Mid w0 U N ub qb mb fb ib mem out inp vi vo vs ini f i w) (hk : i.kind = 4) (ha : 0 ≤ i.a ∧ i.a < f.fr.regs.length) (hgo : ∀ a w', MidA w0 U N ub qb mb fb ib n mem out inp ini f i p (reg f.fr i.a) a w' → Q .normal a w') :
    Code.wp Try.prog codeE Q (frM Us ub qb mb vi (.int .i64 ((n : Int) + 1)) vo vs (.pointer (some ⟨fb, 0, none⟩)) (.pointer (some ⟨ib, 0, none⟩)) (.int .i64 p) (.int .i64 0)) w := by
  obtain ⟨i0, i1, i2, i3, i4, i5, i6, i7, i8, i9, i10, i11, i12, i13, i14⟩ := nv15 h.ibox
  obtain ⟨f0, f1, f2, f3, f4⟩ := nv5 h.fbox
  rw [hk] at i0
  have HM := Lib.hid h; clear h
  have HGO := Lib.hid hgo; clear hgo
  have HK := Lib.hid hk; clear hk
  have ra := HM.out.mem.reg (f := f) (by simp) ha
  have ra0 : (0 : Int) ≤ i.a := ha.1
  have ra1 : i.a < (f.fr.regs.length : Int) := ha.2
  clear ha
  unfold frM
  conv => arg 2; whnf
  go_wp2
  exact HGO.out _ _ ⟨vi, vo, vs, HM.out, IsFr.of (by kernel_rfl)⟩
end Go.Proofs.Ytgnpbodhjmappaa
namespace Go.Proofs.Ytgnpbodhjmappaa
set_option maxRecDepth 100000
open Go.RowKit Cd
set_option maxHeartbeats 8000000 in
set_option maxRecDepth 1000000 in
theorem piece_5 (w0 : World) (U : UnR) (N ub qb mb fb ib n : Nat) (mem : List Int) (out inp : List UInt8) (vi vo vs : Value) (ini : List FrR) (f : FrR) (i : Ins) (w : World) (Us : Nat → Value) (p : Int) (Q : Exit → Act → World → Prop) (h : Mid w0 U N ub qb mb fb ib mem out inp vi vo vs ini f i w) (hk : i.kind = 5) (hb0 : 0 ≤ f.fr.base) (hb1 : f.fr.base ≤ 4096) (hn0 : 0 ≤ i.n) (hn1 : i.n ≤ 4096) (hgo : ∀ a w', MidA w0 U N ub qb mb fb ib n mem out inp ini f i p (f.fr.base + i.n) a w' → Q .normal a w') :
    Code.wp Try.prog codeE Q (frM Us ub qb mb vi (.int .i64 ((n : Int) + 1)) vo vs (.pointer (some ⟨fb, 0, none⟩)) (.pointer (some ⟨ib, 0, none⟩)) (.int .i64 p) (.int .i64 0)) w := by
  obtain ⟨i0, i1, i2, i3, i4, i5, i6, i7, i8, i9, i10, i11, i12, i13, i14⟩ := nv15 h.ibox
  obtain ⟨f0, f1, f2, f3, f4⟩ := nv5 h.fbox
  rw [hk] at i0
  have HM := Lib.hid h; clear h
  have HGO := Lib.hid hgo; clear hgo
  have HK := Lib.hid hk; clear hk
  unfold frM
  conv => arg 2; whnf
  go_wp2
  exact HGO.out _ _ ⟨vi, vo, vs, HM.out, IsFr.of (by kernel_rfl)⟩
end Go.Proofs.Ytgnpbodhjmappaa
namespace Go.Proofs.Ytgnpbodhjmappaa
set_option maxRecDepth 100000
open Go.RowKit Cd
set_option maxHeartbeats 8000000 in
set_option maxRecDepth 1000000 in
theorem piece_6 (w0 : World) (U : UnR) (N ub qb mb fb ib n : Nat) (mem : List Int) (out inp : List UInt8) (vi vo vs : Value) (ini : List FrR) (f : FrR) (i : Ins) (w : World) (Us : Nat → Value) (p : Int) (Q : Exit → Act → World → Prop) (h : Mid w0 U N ub qb mb fb ib mem out inp vi vo vs ini f i w) (hk : i.kind = 6) (ha : 0 ≤ i.a ∧ i.a < f.fr.regs.length) (q : Int) (hq : reg f.fr i.a % 4294967296 = q) (hq0 : 1 ≤ q) (hq1 : q < 4096) (hgo : ∀ a w', MidA w0 U N ub qb mb fb ib n mem out inp ini f i p (mem.getD q.toNat 0) a w' → Q .normal a w') :
    Code.wp Try.prog codeE Q (frM Us ub qb mb vi (.int .i64 ((n : Int) + 1)) vo vs (.pointer (some ⟨fb, 0, none⟩)) (.pointer (some ⟨ib, 0, none⟩)) (.int .i64 p) (.int .i64 0)) w := by
  obtain ⟨i0, i1, i2, i3, i4, i5, i6, i7, i8, i9, i10, i11, i12, i13, i14⟩ := nv15 h.ibox
  obtain ⟨f0, f1, f2, f3, f4⟩ := nv5 h.fbox
  rw [hk] at i0
  have HM := Lib.hid h; clear h
  have HGO := Lib.hid hgo; clear hgo
  have HK := Lib.hid hk; clear hk
  have ra := HM.out.mem.reg (f := f) (by simp) ha
  have ra0 : (0 : Int) ≤ i.a := ha.1
  have ra1 : i.a < (f.fr.regs.length : Int) := ha.2
  clear ha
  have hpl : ∀ w, Calls Try.prog 70 #[.int .i64 (reg f.fr i.a)] w (fun e w' => e = .returned (.int .i64 q) ∧ w = w') := fun w => hq ▸ refPlain_any _ w
  clear hq
  have mc : w.cell? ⟨mb, q.toNat, none⟩ = some (.int .i64 (mem.getD q.toNat 0)) := HM.out.mem.word (by omega) (by omega)
  have mf : w.frozen? ⟨mb, q.toNat, none⟩ = false := by simp [World.frozen?, HM.out.mem.memh]
  unfold frM
  conv => arg 2; whnf
  go_wp2_with ((with_reducible refine (hpl _).mono ?_); rintro e w9 ⟨rfl, rfl⟩)
  exact HGO.out _ _ ⟨vi, vo, vs, HM.out, IsFr.of (by kernel_rfl)⟩
end Go.Proofs.Ytgnpbodhjmappaa
namespace Go.Proofs.Ytgnpbodhjmappaa
set_option maxRecDepth 100000
open Go.RowKit Cd
set_option maxHeartbeats 8000000 in
set_option maxRecDepth 1000000 in
theorem piece_6b (w0 : World) (U : UnR) (N ub qb mb fb ib n : Nat) (mem : List Int) (out inp : List UInt8) (vi vo vs : Value) (ini : List FrR) (f : FrR) (i : Ins) (w : World) (Us : Nat → Value) (p : Int) (Q : Exit → Act → World → Prop) (h : Mid w0 U N ub qb mb fb ib mem out inp vi vo vs ini f i w) (hk : i.kind = 6) (ha : 0 ≤ i.a ∧ i.a < f.fr.regs.length) (q : Int) (hq : reg f.fr i.a % 4294967296 = q) (hbad : q < 1 ∨ 4096 ≤ q) (hgo : ∀ a w', RunZ w0 qb ⟨2, 1, out⟩ a w' → Q .ret a w') :
    Code.wp Try.prog codeE Q (frM Us ub qb mb vi (.int .i64 ((n : Int) + 1)) vo vs (.pointer (some ⟨fb, 0, none⟩)) (.pointer (some ⟨ib, 0, none⟩)) (.int .i64 p) (.int .i64 0)) w := by
  obtain ⟨oa, oc, rfl⟩ := row_slice h.mem.outh
  obtain ⟨i0, i1, i2, i3, i4, i5, i6, i7, i8, i9, i10, i11, i12, i13, i14⟩ := nv15 h.ibox
  obtain ⟨f0, f1, f2, f3, f4⟩ := nv5 h.fbox
  rw [hk] at i0
  have HM := Lib.hid h; clear h
  have HGO := Lib.hid hgo; clear hgo
  have HK := Lib.hid hk; clear hk
  have ra := HM.out.mem.reg (f := f) (by simp) ha
  have ra0 : (0 : Int) ≤ i.a := ha.1
  have ra1 : i.a < (f.fr.regs.length : Int) := ha.2
  clear ha
  have hpl : ∀ w, Calls Try.prog 70 #[.int .i64 (reg f.fr i.a)] w (fun e w' => e = .returned (.int .i64 q) ∧ w = w') := fun w => hq ▸ refPlain_any _ w
  clear hq
  obtain ⟨z0, z1, z2⟩ := frozen3 HM.out.mem.res
  obtain ⟨y0, y1, y2⟩ := nv3 HM.out.mem.res
  rcases hbad with hbad | hbad
  all_goals
    unfold frM
    conv => arg 2; whnf
    go_wp2_with ((with_reducible refine (hpl _).mono ?_); rintro e w9 ⟨rfl, rfl⟩)
    exact HGO.out _ _ ⟨HM.out.ended 2 1, ub, mb, vi, (.int .i64 ((n : Int) + 1)), (.slice oa out.length oc), vs, (.pointer (some ⟨fb, 0, none⟩)), (.pointer (some ⟨ib, 0, none⟩)), (.int .i64 p), (.int .i64 0), IsFr.of (by kernel_rfl)⟩
end Go.Proofs.Ytgnpbodhjmappaa
namespace Go.Proofs.Ytgnpbodhjmappaa
set_option maxRecDepth 100000
open Go.RowKit Cd
set_option maxHeartbeats 8000000 in
set_option maxRecDepth 1000000 in
theorem piece_7 (w0 : World) (U : UnR) (N ub qb mb fb ib n : Nat) (mem : List Int) (out inp : List UInt8) (vi vo vs : Value) (ini : List FrR) (f : FrR) (i : Ins) (w : World) (Us : Nat → Value) (p : Int) (Q : Exit → Act → World → Prop) (h : Mid w0 U N ub qb mb fb ib mem out inp vi vo vs ini f i w) (hk : i.kind = 7) (ha : 0 ≤ i.a ∧ i.a < f.fr.regs.length) (hb : 0 ≤ i.b ∧ i.b < f.fr.regs.length) (q : Int) (hq : reg f.fr i.a % 4294967296 = q) (hq0 : 1 ≤ q) (hq1 : q < 4096) (hgo : ∀ a w', MidA w0 U N ub qb mb fb ib n (mem.set q.toNat (reg f.fr i.b)) out inp ini f i p 0 a w' → Q .normal a w') :
    Code.wp Try.prog codeE Q (frM Us ub qb mb vi (.int .i64 ((n : Int) + 1)) vo vs (.pointer (some ⟨fb, 0, none⟩)) (.pointer (some ⟨ib, 0, none⟩)) (.int .i64 p) (.int .i64 0)) w := by
  obtain ⟨i0, i1, i2, i3, i4, i5, i6, i7, i8, i9, i10, i11, i12, i13, i14⟩ := nv15 h.ibox
  obtain ⟨f0, f1, f2, f3, f4⟩ := nv5 h.fbox
  rw [hk] at i0
  have HM := Lib.hid h; clear h
  have HGO := Lib.hid hgo; clear hgo
  have HK := Lib.hid hk; clear hk
  have ra := HM.out.mem.reg (f := f) (by simp) ha
  have ra0 : (0 : Int) ≤ i.a := ha.1
  have ra1 : i.a < (f.fr.regs.length : Int) := ha.2
  clear ha
  have rb := HM.out.mem.reg (f := f) (by simp) hb
  have rb0 : (0 : Int) ≤ i.b := hb.1
  have rb1 : i.b < (f.fr.regs.length : Int) := hb.2
  clear hb
  have hpl : ∀ w, Calls Try.prog 70 #[.int .i64 (reg f.fr i.a)] w (fun e w' => e = .returned (.int .i64 q) ∧ w = w') := fun w => hq ▸ refPlain_any _ w
  clear hq
  have mc : w.cell? ⟨mb, q.toNat, none⟩ = some (.int .i64 (mem.getD q.toNat 0)) := HM.out.mem.word (by omega) (by omega)
  have mf : w.frozen? ⟨mb, q.toNat, none⟩ = false := by simp [World.frozen?, HM.out.mem.memh]
  unfold frM
  conv => arg 2; whnf
  go_wp2_with ((with_reducible refine (hpl _).mono ?_); rintro e w9 ⟨rfl, rfl⟩)
  exact HGO.out _ _ ⟨vi, vo, vs, HM.out.setMem _ _, IsFr.of (by kernel_rfl)⟩
end Go.Proofs.Ytgnpbodhjmappaa
namespace Go.Proofs.Ytgnpbodhjmappaa
set_option maxRecDepth 100000
open Go.RowKit Cd
set_option maxHeartbeats 8000000 in
set_option maxRecDepth 1000000 in
theorem piece_7b (w0 : World) (U : UnR) (N ub qb mb fb ib n : Nat) (mem : List Int) (out inp : List UInt8) (vi vo vs : Value) (ini : List FrR) (f : FrR) (i : Ins) (w : World) (Us : Nat → Value) (p : Int) (Q : Exit → Act → World → Prop) (h : Mid w0 U N ub qb mb fb ib mem out inp vi vo vs ini f i w) (hk : i.kind = 7) (ha : 0 ≤ i.a ∧ i.a < f.fr.regs.length) (q : Int) (hq : reg f.fr i.a % 4294967296 = q) (hbad : q < 1 ∨ 4096 ≤ q) (hgo : ∀ a w', RunZ w0 qb ⟨2, 1, out⟩ a w' → Q .ret a w') :
    Code.wp Try.prog codeE Q (frM Us ub qb mb vi (.int .i64 ((n : Int) + 1)) vo vs (.pointer (some ⟨fb, 0, none⟩)) (.pointer (some ⟨ib, 0, none⟩)) (.int .i64 p) (.int .i64 0)) w := by
  obtain ⟨oa, oc, rfl⟩ := row_slice h.mem.outh
  obtain ⟨i0, i1, i2, i3, i4, i5, i6, i7, i8, i9, i10, i11, i12, i13, i14⟩ := nv15 h.ibox
  obtain ⟨f0, f1, f2, f3, f4⟩ := nv5 h.fbox
  rw [hk] at i0
  have HM := Lib.hid h; clear h
  have HGO := Lib.hid hgo; clear hgo
  have HK := Lib.hid hk; clear hk
  have ra := HM.out.mem.reg (f := f) (by simp) ha
  have ra0 : (0 : Int) ≤ i.a := ha.1
  have ra1 : i.a < (f.fr.regs.length : Int) := ha.2
  clear ha
  have hpl : ∀ w, Calls Try.prog 70 #[.int .i64 (reg f.fr i.a)] w (fun e w' => e = .returned (.int .i64 q) ∧ w = w') := fun w => hq ▸ refPlain_any _ w
  clear hq
  obtain ⟨z0, z1, z2⟩ := frozen3 HM.out.mem.res
  obtain ⟨y0, y1, y2⟩ := nv3 HM.out.mem.res
  rcases hbad with hbad | hbad
  all_goals
    unfold frM
    conv => arg 2; whnf
    go_wp2_with ((with_reducible refine (hpl _).mono ?_); rintro e w9 ⟨rfl, rfl⟩)
    exact HGO.out _ _ ⟨HM.out.ended 2 1, ub, mb, vi, (.int .i64 ((n : Int) + 1)), (.slice oa out.length oc), vs, (.pointer (some ⟨fb, 0, none⟩)), (.pointer (some ⟨ib, 0, none⟩)), (.int .i64 p), (.int .i64 0), IsFr.of (by kernel_rfl)⟩
end Go.Proofs.Ytgnpbodhjmappaa
