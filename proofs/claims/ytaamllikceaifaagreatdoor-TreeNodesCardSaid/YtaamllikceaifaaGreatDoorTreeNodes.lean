/-
  The walk of TreeNodes.
-/
import Derived.Test.YtaamllikceaifaaGreatDoorNodesP
import Derived.Test.YtaamllikceaifaaGreatDoorAwake
import Derived.IntWalk
namespace Go.Proofs.YtaamllikceaifaaGreatDoor
open Go.RowKit Sp Tr Go.Shelf
set_option linter.unusedVariables false

theorem drW {B : Nat} {a w : World} (h : Below B a w) : Below B a w.drew := ⟨h.os, h.tape, h.output, h.size, h.block⟩
theorem region_lastS {P : Program} {ops : Array Oper} {Q : Exit → Act → World → Prop} {id : Nat} {a : Act} {w : World} (S : World → Prop) (m : Nat) (hm : P.follows .mixedOrders = true) (hS : S w.drew)
    (h : S w.drew → anyL P .any ops Q S m ops.size (Array.replicate ops.size false) a w.drew) : (Code.region id ops true).wp P Q a w := region_last S m hm (h hS)
theorem Nice.fits {P : Int} {T : Tr.Tree} (h : Nice P T) (hl : T.nodes.length ≤ 8192) : Fits T := by
  intro x hx
  obtain ⟨i, hi⟩ := List.mem_iff_getElem?.1 hx
  have hlt := (List.getElem?_eq_some_iff.1 hi).1
  have := h.nodes i x hi
  have := this.a
  have := (h.nodes i x hi).b
  omega
theorem Nice.low {P : Int} {T : Tr.Tree} (h : Nice P T) {i : Nat} (hi : i < 4) {x : Ty} (hx : T.types[i]? = some x) : x = ⟨i, 0, 0, []⟩ := by
  have h1 : (T.types.take 4)[i]? = some x := by rw [List.getElem?_take_of_lt hi]; exact hx
  rw [h.first] at h1
  match i, hi with
  | 0, _ => exact (Option.some.inj h1).symm
  | 1, _ => exact (Option.some.inj h1).symm
  | 2, _ => exact (Option.some.inj h1).symm
  | 3, _ => exact (Option.some.inj h1).symm
theorem ix0 (a b c d : Value) (w : World) : (Instr.index 34 (.agg #[a, b, c, d]) (.int .i64 0)).run Tryz.prog w = .ok a w := by kernel_rfl
theorem ix1 (a b c d : Value) (w : World) : (Instr.index 34 (.agg #[a, b, c, d]) (.int .i64 1)).run Tryz.prog w = .ok b w := by kernel_rfl
theorem ix2 (a b c d : Value) (w : World) : (Instr.index 34 (.agg #[a, b, c, d]) (.int .i64 2)).run Tryz.prog w = .ok c w := by kernel_rfl
theorem ix3 (a b c d : Value) (w : World) : (Instr.index 34 (.agg #[a, b, c, d]) (.int .i64 3)).run Tryz.prog w = .ok d w := by kernel_rfl
abbrev tyO (x : Ty) : Obj := .cells #[.int .i64 x.kind, .int .i64 x.elem, .int .i64 x.n, .string (bt x.name)] 36
/-- What the last statement reads. -/
def SN (bt B : Nat) (an ay : Option Addr) (cn cy : Nat) (T : Tr.Tree) (w : World) : Prop :=
  w.cell? ⟨bt, 0, none⟩ = some (.slice an T.nodes.length cn) ∧ w.cell? ⟨bt, 1, none⟩ = some (.slice ay T.types.length cy) ∧ w.cell? ⟨bt, 2, none⟩ = some (.int .i64 T.top) ∧
  Hid (TB w bt B (.slice an T.nodes.length cn) (.slice ay T.types.length cy) T)
theorem SN.of {bt B : Nat} {an ay : Option Addr} {cn cy : Nat} {T : Tr.Tree} {w : World} (h : TB w bt B (.slice an T.nodes.length cn) (.slice ay T.types.length cy) T) : SN bt B an ay cn cy T w := by
  obtain ⟨r0, r1, r2, _⟩ := nv3 h.b
  exact ⟨r0, r1, r2, Lib.hid h⟩
theorem SN.below {bt B : Nat} {an ay : Option Addr} {cn cy : Nat} {T : Tr.Tree} {w w' : World} (h : SN bt B an ay cn cy T w) (hb : Below w.heap.size w w') : SN bt B an ay cn cy T w' := by
  obtain ⟨_, _, _, h1⟩ := h
  exact SN.of (h1.out.below hb)
theorem list_N {bt B : Nat} {an ay : Option Addr} {cn cy : Nat} {T : Tr.Tree} {w : World} (h : SN bt B an ay cn cy T w) (hF : Fits T) (ht : -9223372036854775808 ≤ T.top ∧ T.top ≤ 9223372036854775807) :
    Calls Tryz.prog 11 #[.agg #[.slice an T.nodes.length cn, .slice ay T.types.length cy, .int .i64 T.top], .int .i64 T.top] w fun e w' => ∃ (a : Option Addr) (k c : Nat), k ≤ T.nodes.length ∧ e = .returned (.slice a k c) ∧ SN bt B an ay cn cy T w' ∧ Below w.heap.size w w' := by
  obtain ⟨_, _, _, h1⟩ := id h
  have hl := h1.out.t.ln
  refine (list_t (F := 9000) h1.out.t hF T.top ht (by omega)).mono ?_
  rintro e w' ⟨v, rfl, ho, hb⟩
  obtain ⟨a, c, rfl⟩ := row_slice ho
  have := itemsF_len 9000 T T.top 0 (Nat.zero_le _)
  exact ⟨a, _, c, by omega, rfl, h.below hb, hb⟩
theorem awake_N {bt B : Nat} {an ay : Option Addr} {cn cy : Nat} {T : Tr.Tree} {w : World} (h : SN bt B an ay cn cy T w) (henv : EnvT w) :
    Calls Tryz.prog 8 #[] w fun e w' => e = .returned (.bool true) ∧ SN bt B an ay cn cy T w' ∧ Below w.heap.size w w' := by
  refine (awake_any w henv).mono ?_
  rintro e w' ⟨rfl, hb⟩
  exact ⟨rfl, h.below hb, hb⟩
set_option maxRecDepth 100000 in
set_option maxHeartbeats 8000000 in
theorem nodes_w {w : World} {s : ByteArray} {T : Tr.Tree} (hs : s.size ≤ 3000) (hN : Nice s.size T) (hR : ∀ w, EnvT w → Calls Tryz.prog 9 #[.string s] w (ParsePost T w)) (henv : EnvT w) :
    Calls Tryz.prog 4 #[.string s] w fun e w' => e = .returned (.bool true) ∧ Below w.heap.size w w' := by
  have hsz := henv.lex.sz
  have HE := Lib.hid henv; clear henv
  have HEB : Hid (∀ v, Below w.heap.size w v → EnvT v) := Lib.hid (fun v h => HE.out.below h hsz)
  have p1 : ¬ (s.size : Int) > 3000 := by omega
  have p2 : decide ((s.size : Int) > 3000) = false := by simp; omega
  have HR := Lib.hid hR; clear hR
  have HN := Lib.hid hN; clear hN
  go_enter Tryz.func4, Tryz.ntmps4
  go_wp2_with ((with_reducible refine (HR.out _ HE.out).mono ?_); rintro e v1 ⟨vn, vt, rfl, ht, hb⟩; obtain ⟨an, cn, rfl⟩ := row_slice ht.nodes; obtain ⟨ay, cy, rfl⟩ := row_slice ht.types; have HT : Hid (TB (v1.alloc (.cells #[.slice an T.nodes.length cn, .slice ay T.types.length cy, .int .i64 T.top] 26)) v1.heap.size w.heap.size (.slice an T.nodes.length cn) (.slice ay T.types.length cy) T) := Lib.hid ⟨ht.below ((Below.refl v1.heap.size v1).alloc (Nat.le_refl _) _), heap_alloc_new _ _⟩; have HC := Lib.hid (hb.alloc hb.size (.cells #[.slice an T.nodes.length cn, .slice ay T.types.length cy, .int .i64 T.top] 26)); have hln := ht.ln; have hlt := ht.lt; clear ht hb)
  go_loopw [28] (fun s28 wr => ∃ k : Nat, k ≤ T.nodes.length ∧ s28 = .int .i64 k ∧ Hid (Below w.heap.size w wr) ∧ Hid (TB wr v1.heap.size w.heap.size (.slice an T.nodes.length cn) (.slice ay T.types.length cy) T)) (fun i wr => T.nodes.length - (intOf i).toNat)
  case atStart => exact ⟨0, by omega, rfl, HC, HT⟩
  case round =>
    obtain ⟨k, hk, rfl, HB, HX⟩ := hrel
    obtain ⟨r0, r1, r2, _, _, _⟩ := nv3 HX.out.b
    have zx := lt_heap HX.out.b
    by_cases hlk : k < T.nodes.length
    · obtain ⟨x, hx⟩ : ∃ x, T.nodes[k]? = some x := ⟨_, List.getElem?_eq_getElem hlk⟩
      obtain ⟨g, rfl, zg⟩ := HX.out.t.nodeForm (by omega)
      obtain ⟨c0, c1, c2, c3, c4, c5, c6, c7, c8⟩ := HX.out.t.row hx
      have q0 : (0 : Int) ≤ (k : Int) := Int.natCast_nonneg _
      have q1 : (k : Int) < (T.nodes.length : Int) := by omega
      obtain ⟨hA, hB, hCc, hD, hty, hpos, hkind⟩ := HN.out.nodes k x hx
      have t1 : decide (x.a < (-1 : Int)) = false := by simp; omega
      have t2 : decide (x.b < (-1 : Int)) = false := by simp; omega
      have t3 : decide (x.c < (-1 : Int)) = false := by simp; omega
      have t4 : decide (x.d < (-1 : Int)) = false := by simp; omega
      have u1 : decide (x.a ≥ (k : Int)) = false := by simp; omega
      have u2 : decide (x.b ≥ (k : Int)) = false := by simp; omega
      have u3 : decide (x.c ≥ (k : Int)) = false := by simp; omega
      have u4 : decide (x.d ≥ (k : Int)) = false := by simp; omega
      have y1 : decide (x.ty < (0 : Int)) = false := by simp; omega
      have y2 : decide (x.ty ≥ (T.types.length : Int)) = false := by simp; omega
      have y3 : decide (x.pos < (0 : Int)) = false := by simp; omega
      have y4 : decide (x.pos > (s.size : Int)) = false := by simp; omega
      have y5 : decide (x.kind < (1 : Int)) = false := by simp; omega
      have y6 : decide (x.kind > (53 : Int)) = false := by simp; omega
      clear hx hA hB hCc hD hty hpos hkind
      obtain ⟨wo, rfl⟩ : ∃ wo : World, wo = wr := ⟨_, rfl⟩
      go_wp2
      go_loopw [42] (fun s42 wr => ∃ j : Int, 0 ≤ j ∧ j ≤ 4 ∧ s42 = .int .i64 j ∧ wr = wo.alloc (ndO x)) (fun i wr => 4 - (intOf i).toNat)
      case atStart => exact ⟨0, by omega, by omega, rfl, rfl⟩
      case round =>
        obtain ⟨j, hj0, hj, rfl, rfl⟩ := hrel
        obtain ⟨f0, f1, f2, f3, f4, f5, f6, f7, f8, _⟩ := nv9 (heap_alloc_new wo (ndO x))
        have i0 := ix0
        have i1 := ix1
        have i2 := ix2
        have i3 := ix3
        obtain rfl | rfl | rfl | rfl | rfl : j = 0 ∨ j = 1 ∨ j = 2 ∨ j = 3 ∨ j = 4 := by omega
        · go_wp2
          go_roundw
          case rel => exact ⟨1, by omega, by omega, by go_num, (by first | trivial | rfl)⟩
          case measure => simp [intOf]
        · go_wp2
          go_roundw
          case rel => exact ⟨2, by omega, by omega, by go_num, (by first | trivial | rfl)⟩
          case measure => simp [intOf]
        · go_wp2
          go_roundw
          case rel => exact ⟨3, by omega, by omega, by go_num, (by first | trivial | rfl)⟩
          case measure => simp [intOf]
        · go_wp2
          go_roundw
          case rel => exact ⟨4, by omega, by omega, by go_num, (by first | trivial | rfl)⟩
          case measure => simp [intOf]
        · have HX2 := Lib.hid (HX.out.alloc (ndO x))
          obtain ⟨m0, m1, m2, _, _, _⟩ := nv3 HX2.out.b
          have HB2 := Lib.hid (HB.out.alloc HB.out.size (ndO x))
          go_wp2
          go_roundw
          case rel => exact ⟨k + 1, by omega, by go_num, HB2, HX2⟩
          case measure => simp [intOf]; omega
    · obtain rfl : k = T.nodes.length := by omega
      go_wp2
      go_loopw [90] (fun s90 wr => ∃ k : Nat, k ≤ T.types.length ∧ s90 = .int .i64 k ∧ Hid (Below w.heap.size w wr) ∧ Hid (TB wr v1.heap.size w.heap.size (.slice an T.nodes.length cn) (.slice ay T.types.length cy) T)) (fun i wr => T.types.length - (intOf i).toNat)
      case atStart => exact ⟨0, by omega, rfl, HB, HX⟩
      case round =>
        clear HB HX r0 r1 r2 zx
        obtain ⟨k, hk, rfl, HB, HX⟩ := hrel
        obtain ⟨r0, r1, r2, _, _, _⟩ := nv3 HX.out.b
        have zx := lt_heap HX.out.b
        by_cases hlk : k < T.types.length
        · obtain ⟨x, hx⟩ : ∃ x, T.types[k]? = some x := ⟨_, List.getElem?_eq_getElem hlk⟩
          obtain ⟨g, rfl, zg⟩ := HX.out.t.typeForm (by omega)
          have q0 : (0 : Int) ≤ (k : Int) := Int.natCast_nonneg _
          have q1 : (k : Int) < (T.types.length : Int) := by omega
          have HX2 := Lib.hid (HX.out.alloc (tyO x))
          have HB2 := Lib.hid (HB.out.alloc HB.out.size (tyO x))
          by_cases h3 : 3 < k
          · obtain ⟨c0, c1, c2, c3⟩ := HX.out.t.ty hx
            have he := HN.out.types k x hx (by omega)
            have t1 : decide ((k : Int) > (3 : Int)) = true := by simp; omega
            have t2 : decide (x.elem ≥ (k : Int)) = false := by simp; omega
            have t3 : decide ((k : Int) ≤ (3 : Int)) = false := by simp; omega
            clear hx
            go_wp2
            go_roundw
            case rel => exact ⟨k + 1, by omega, by go_num, HB2, HX2⟩
            case measure => simp [intOf]; omega
          · obtain rfl := HN.out.low (by omega) hx
            obtain ⟨c0, c1, c2, c3⟩ := HX.out.t.ty hx
            have t1 : decide ((k : Int) > (3 : Int)) = false := by simp; omega
            have t3 : decide ((k : Int) ≤ (3 : Int)) = true := by simp; omega
            have nq := ty_neq ⟨k, 0, 0, []⟩
            clear hx
            go_wp2
            go_roundw
            case rel => exact ⟨k + 1, by omega, by go_num, HB2, HX2⟩
            case measure => simp [intOf]; omega
        · obtain rfl : k = T.types.length := by omega
          go_wp2
          have hmix : Tryz.prog.follows .mixedOrders = true := by kernel_rfl
          have hN := HN.out
          have hfit : Fits T := hN.fits hln
          have htop := hN.top
          have HFI := Lib.hid hfit
          have htt : -9223372036854775808 ≤ T.top ∧ T.top ≤ 9223372036854775807 := by omega
          have e1 : decide (T.top < (T.nodes.length : Int)) = true := by simp; omega
          refine region_lastS (SN v1.heap.size w.heap.size an ay cn cy T) 20 hmix ?held (fun hS => ?main)
          case held => exact SN.of (HX.out.below (drW (Below.refl _ _)))
          have BB := drW HB.out
          clear r0 r1 r2 hN hfit htop
          refine anyL_take (i := 0) (v := ?_) rfl rfl (by kernel_rfl) (by kernel_rfl) (by kernel_rfl) (by kernel_rfl) (fun _ _ _ h => h) (Or.inl ⟨by rfl, ?_⟩) hS ?_
          rotate_left
          · (intro w' hSw; obtain ⟨k0, k1, k2, _⟩ := hSw; go_simp; first | done | with_reducible rfl)
          simp only [Act.put, List.getElem_toArray, List.getElem_cons_zero, List.setIfInBounds_toArray, List.set_cons_succ, List.set_cons_zero]
          refine anyL_take (i := 1) (v := ?_) rfl rfl (by kernel_rfl) (by kernel_rfl) (by kernel_rfl) (by kernel_rfl) (fun _ _ _ h => h) (Or.inl ⟨by rfl, ?_⟩) hS ?_
          rotate_left
          · (intro w' hSw; obtain ⟨k0, k1, k2, _⟩ := hSw; go_simp; first | done | with_reducible rfl)
          simp only [Act.put, List.getElem_toArray, List.getElem_cons_succ, List.getElem_cons_zero, List.setIfInBounds_toArray, List.set_cons_succ, List.set_cons_zero]
          refine anyL_take (i := 2) (v := ?_) rfl rfl (by kernel_rfl) (by kernel_rfl) (by kernel_rfl) (by kernel_rfl) (fun _ _ _ h => h) (Or.inl ⟨by rfl, ?_⟩) hS ?_
          rotate_left
          · (intro w' hSw; obtain ⟨k0, k1, k2, _⟩ := hSw; go_simp; first | done | with_reducible rfl)
          simp only [Act.put, List.getElem_toArray, List.getElem_cons_succ, List.getElem_cons_zero, List.setIfInBounds_toArray, List.set_cons_succ, List.set_cons_zero]
          refine anyL_take (i := 3) (v := ?_) rfl rfl (by kernel_rfl) (by kernel_rfl) (by kernel_rfl) (by kernel_rfl) (fun _ _ _ h => h) (Or.inl ⟨by rfl, ?_⟩) hS ?_
          rotate_left
          · (intro w' hSw; obtain ⟨k0, k1, k2, _⟩ := hSw; go_simp; first | done | with_reducible rfl)
          simp only [Act.put, List.getElem_toArray, List.getElem_cons_succ, List.getElem_cons_zero, List.setIfInBounds_toArray, List.set_cons_succ, List.set_cons_zero]
          refine anyL_take (i := 4) (v := ?_) rfl rfl (by kernel_rfl) (by kernel_rfl) (by kernel_rfl) (by kernel_rfl) (fun _ _ _ h => h) (Or.inl ⟨by rfl, ?_⟩) hS ?_
          rotate_left
          · (intro w' hSw; obtain ⟨k0, k1, k2, _⟩ := hSw; go_simp; first | done | with_reducible rfl)
          simp only [Act.put, List.getElem_toArray, List.getElem_cons_succ, List.getElem_cons_zero, List.setIfInBounds_toArray, List.set_cons_succ, List.set_cons_zero]
          refine anyL_take (i := 5) (v := ?_) rfl rfl (by kernel_rfl) (by kernel_rfl) (by kernel_rfl) (by kernel_rfl) (fun _ _ _ h => h) (Or.inl ⟨by rfl, ?_⟩) hS ?_
          rotate_left
          · (intro w' hSw; obtain ⟨k0, k1, k2, _⟩ := hSw; go_simp; first | done | with_reducible rfl)
          simp only [Act.put, List.getElem_toArray, List.getElem_cons_succ, List.getElem_cons_zero, List.setIfInBounds_toArray, List.set_cons_succ, List.set_cons_zero]
          refine anyL_take (i := 6) (v := ?_) rfl rfl (by kernel_rfl) (by kernel_rfl) (by kernel_rfl) (by kernel_rfl) (fun _ _ _ h => h) (Or.inl ⟨by rfl, ?_⟩) hS ?_
          rotate_left
          · (intro w' hSw; obtain ⟨k0, k1, k2, _⟩ := hSw; go_simp; first | done | with_reducible rfl)
          simp only [Act.put, List.getElem_toArray, List.getElem_cons_succ, List.getElem_cons_zero, List.setIfInBounds_toArray, List.set_cons_succ, List.set_cons_zero]
          refine anyL_take (i := 7) (v := ?_) rfl rfl (by kernel_rfl) (by kernel_rfl) (by kernel_rfl) (by kernel_rfl) (fun _ _ _ h => h) (Or.inl ⟨by rfl, ?_⟩) hS ?_
          rotate_left
          · (intro w' hSw; obtain ⟨k0, k1, k2, _⟩ := hSw; go_simp; first | done | with_reducible rfl)
          simp only [Act.put, List.getElem_toArray, List.getElem_cons_succ, List.getElem_cons_zero, List.setIfInBounds_toArray, List.set_cons_succ, List.set_cons_zero]
          refine anyL_take (i := 8) (v := ?_) rfl rfl (by kernel_rfl) (by kernel_rfl) (by kernel_rfl) (by kernel_rfl) (fun _ _ _ h => h) (Or.inl ⟨by rfl, ?_⟩) hS ?_
          rotate_left
          · (intro w' hSw; obtain ⟨k0, k1, k2, _⟩ := hSw; go_simp; first | done | with_reducible rfl)
          simp only [Act.put, List.getElem_toArray, List.getElem_cons_succ, List.getElem_cons_zero, List.setIfInBounds_toArray, List.set_cons_succ, List.set_cons_zero]
          refine anyL_take (i := 9) (v := ?_) rfl rfl (by kernel_rfl) (by kernel_rfl) (by kernel_rfl) (by kernel_rfl) (fun _ _ _ h => h) (Or.inl ⟨by rfl, ?_⟩) hS ?_
          rotate_left
          · (intro w' hSw; obtain ⟨k0, k1, k2, _⟩ := hSw; go_simp; first | done | with_reducible rfl)
          simp only [Act.put, List.getElem_toArray, List.getElem_cons_succ, List.getElem_cons_zero, List.setIfInBounds_toArray, List.set_cons_succ, List.set_cons_zero]
          refine anyL_take (i := 12) (v := ?_) rfl rfl (by kernel_rfl) (by kernel_rfl) (by kernel_rfl) (by kernel_rfl) (fun _ _ _ h => h) (Or.inl ⟨by rfl, ?_⟩) hS ?_
          rotate_left
          · (intro w' hSw; obtain ⟨k0, k1, k2, _⟩ := hSw; go_simp; first | done | with_reducible rfl)
          simp only [Act.put, List.getElem_toArray, List.getElem_cons_succ, List.getElem_cons_zero, List.setIfInBounds_toArray, List.set_cons_succ, List.set_cons_zero]
          refine anyL_take (i := 13) (v := ?_) rfl rfl (by kernel_rfl) (by kernel_rfl) (by kernel_rfl) (by kernel_rfl) (fun _ _ _ h => h) (Or.inl ⟨by rfl, ?_⟩) hS ?_
          rotate_left
          · (intro w' hSw; obtain ⟨k0, k1, k2, _⟩ := hSw; go_simp; first | done | with_reducible rfl)
          simp only [Act.put, List.getElem_toArray, List.getElem_cons_succ, List.getElem_cons_zero, List.setIfInBounds_toArray, List.set_cons_succ, List.set_cons_zero]
          refine anyL_take (i := 14) (v := ?_) rfl rfl (by kernel_rfl) (by kernel_rfl) (by kernel_rfl) (by kernel_rfl) (fun _ _ _ h => h) (Or.inl ⟨by rfl, ?_⟩) hS ?_
          rotate_left
          · (intro w' hSw; obtain ⟨k0, k1, k2, _⟩ := hSw; go_simp; first | done | with_reducible rfl)
          simp only [Act.put, List.getElem_toArray, List.getElem_cons_succ, List.getElem_cons_zero, List.setIfInBounds_toArray, List.set_cons_succ, List.set_cons_zero]
          refine anyL_one (i := 10) (by kernel_rfl) rfl (fun K1 hK1 => ?_)
          go_simp
          refine (list_N hS HFI.out htt).mono ?_
          rintro e v7 ⟨a7, k7, c7, hk7, rfl, hS', HBX⟩
          have BB0 := BB; clear BB
          refine hK1.out _ _ (fun _ => hS') ?_
          clear hK1 K1 hS
          have hS := hS'; clear hS'
          have BB := BB0.trans (HBX.mono BB0.size); clear BB0 HBX
          have e2 : decide ((k7 : Int) ≤ (T.nodes.length : Int)) = true := by simp; omega
          refine anyL_take (i := 11) (v := ?_) rfl rfl (by kernel_rfl) (by kernel_rfl) (by kernel_rfl) (by kernel_rfl) (fun _ _ _ h => h) (Or.inl ⟨by rfl, ?_⟩) hS ?_
          rotate_left
          · (intro w' hSw; obtain ⟨k0, k1, k2, _⟩ := hSw; go_simp; first | done | with_reducible rfl)
          simp only [Act.put, List.getElem_toArray, List.getElem_cons_succ, List.getElem_cons_zero, List.setIfInBounds_toArray, List.set_cons_succ, List.set_cons_zero]
          refine anyL_take (i := 15) (v := ?_) rfl rfl (by kernel_rfl) (by kernel_rfl) (by kernel_rfl) (by kernel_rfl) (fun _ _ _ h => h) (Or.inl ⟨by rfl, ?_⟩) hS ?_
          rotate_left
          · (intro w' hSw; obtain ⟨k0, k1, k2, _⟩ := hSw; go_simp; first | done | with_reducible rfl)
          simp only [Act.put, List.getElem_toArray, List.getElem_cons_succ, List.getElem_cons_zero, List.setIfInBounds_toArray, List.set_cons_succ, List.set_cons_zero]
          refine anyL_take (i := 16) (v := ?_) rfl rfl (by kernel_rfl) (by kernel_rfl) (by kernel_rfl) (by kernel_rfl) (fun _ _ _ h => h) (Or.inl ⟨by rfl, ?_⟩) hS ?_
          rotate_left
          · (intro w' hSw; obtain ⟨k0, k1, k2, _⟩ := hSw; go_simp; first | done | with_reducible rfl)
          simp only [Act.put, List.getElem_toArray, List.getElem_cons_succ, List.getElem_cons_zero, List.setIfInBounds_toArray, List.set_cons_succ, List.set_cons_zero]
          refine anyL_take (i := 17) (v := ?_) rfl rfl (by kernel_rfl) (by kernel_rfl) (by kernel_rfl) (by kernel_rfl) (fun _ _ _ h => h) (Or.inl ⟨by rfl, ?_⟩) hS ?_
          rotate_left
          · (intro w' hSw; obtain ⟨k0, k1, k2, _⟩ := hSw; go_simp; first | done | with_reducible rfl)
          simp only [Act.put, List.getElem_toArray, List.getElem_cons_succ, List.getElem_cons_zero, List.setIfInBounds_toArray, List.set_cons_succ, List.set_cons_zero]
          refine anyL_one (i := 18) (by kernel_rfl) rfl (fun K1 hK1 => ?_)
          go_simp
          refine (awake_N hS (HEB.out _ BB)).mono ?_
          rintro e v32 ⟨rfl, hS', HBX⟩
          have BB0 := BB; clear BB
          refine hK1.out _ _ (fun _ => hS') ?_
          clear hK1 K1 hS
          have hS := hS'; clear hS'
          have BB := BB0.trans (HBX.mono BB0.size); clear BB0 HBX
          refine anyL_take (i := 19) (v := ?_) rfl rfl (by kernel_rfl) (by kernel_rfl) (by kernel_rfl) (by kernel_rfl) (fun _ _ _ h => h) (Or.inl ⟨by rfl, ?_⟩) hS ?_
          rotate_left
          · (intro w' hSw; obtain ⟨k0, k1, k2, _⟩ := hSw; go_simp; first | done | with_reducible rfl)
          simp only [Act.put, List.getElem_toArray, List.getElem_cons_succ, List.getElem_cons_zero, List.setIfInBounds_toArray, List.set_cons_succ, List.set_cons_zero]
          refine anyL_one (i := 20) (by kernel_rfl) rfl (fun K1 hK1 => ?_)
          go_simp
          refine hK1.out _ _ (fun h => absurd rfl h) ?_
          clear hK1 K1
          refine anyL_done (by kernel_rfl) ?_ _
          go_wp2
          go_ret
          exact ⟨rfl, BB⟩
theorem nodes_bad {w : World} {s : ByteArray} {p x : Int} (hs : s.size ≤ 3000) (hx : x ≠ 0) (hR : ∀ w, EnvT w → Calls Tryz.prog 9 #[.string s] w fun e w' => e = .returned (.tuple #[.agg #[.slice none 0 0, .slice none 0 0, .int .i64 0], .int .i64 p, .int .i64 x]) ∧ Below w.heap.size w w') (henv : EnvT w) :
    Calls Tryz.prog 4 #[.string s] w fun e w' => e = .returned (.bool true) ∧ Below w.heap.size w w' := by
  have hsz := henv.lex.sz
  have HE := Lib.hid henv; clear henv
  have HEB : Hid (∀ v, Below w.heap.size w v → EnvT v) := Lib.hid (fun v h => HE.out.below h hsz)
  have p1 : ¬ (s.size : Int) > 3000 := by omega
  have p2 : decide ((s.size : Int) > 3000) = false := by simp; omega
  have p3 : (x != 0) = true := by simp [hx]
  have HR := Lib.hid hR; clear hR
  go_enter Tryz.func4, Tryz.ntmps4
  go_wp2_with (first | ((with_reducible refine (HR.out _ HE.out).mono ?_); rintro e v1 ⟨rfl, hb⟩; have HC := Lib.hid (hb.alloc hb.size (.cells #[.slice none 0 0, .slice none 0 0, .int .i64 0] 26)); clear hb) | ((with_reducible refine (awake_any _ (HEB.out _ HC.out)).mono ?_); rintro e v2 ⟨rfl, hb⟩; have HD := Lib.hid (HC.out.trans (hb.mono HC.out.size)); clear hb))
  go_ret
  exact ⟨rfl, HD.out⟩
theorem nodes_long {w : World} {s : ByteArray} (hs : 3000 < s.size) (henv : EnvT w) :
    Calls Tryz.prog 4 #[.string s] w fun e w' => e = .returned (.bool true) ∧ Below w.heap.size w w' := by
  have HE := Lib.hid henv; clear henv
  have p1 : (s.size : Int) > 3000 := by omega
  have p2 : decide ((s.size : Int) > 3000) = true := by simp; omega
  go_enter Tryz.func4, Tryz.ntmps4
  go_wp2_with ((with_reducible refine (awake_any _ HE.out).mono ?_); rintro e v2 ⟨rfl, hb⟩; have HD := Lib.hid hb; clear hb)
  go_ret
  exact ⟨rfl, HD.out⟩
end Go.Proofs.YtaamllikceaifaaGreatDoor
namespace Go.Proofs.YtaamllikceaifaaGreatDoor.treeNodes
open Go.RowKit
theorem walk (a0 : ByteArray) (_w0 : a0.size ≤ maxLen) (w : World) (henv : EnvT w) :
    Calls Tryz.prog 4 #[.string a0] w fun e w' => e = .returned (.bool true) ∧ Below w.heap.size w w' := by
  by_cases hs : a0.size ≤ 3000
  · rcases read_N hs with ⟨T, hN, hR⟩ | ⟨p, x, hx, hR⟩
    · exact nodes_w hs hN hR henv
    · exact nodes_bad hs hx hR henv
  · exact nodes_long (by omega) henv
end Go.Proofs.YtaamllikceaifaaGreatDoor.treeNodes
