/-
  FlowJoins: joining hangs on no order, is of oneself oneself, and Never is nothing.
-/
import Derived.Test.YtoffcljjfdifaaaQLM
import Derived.Test.YtoffcljjfdifaaaQG11JoinL
import Derived.Deep.RegionHeld3
namespace Go.Proofs.Ytoffcljjfdifaaa
set_option maxRecDepth 100000
open Go.RowKit Cd
set_option linter.unusedVariables false
set_option linter.unusedSimpArgs false

theorem JSt.all {w0 w : World} {a b c : Val} (h : JSt w0 w a b c) : w.cell? ⟨w0.heap.size, 0, none⟩ = some (.int .i64 a.kind) ∧ w.cell? ⟨w0.heap.size, 1, none⟩ = some (.int .i64 a.n) ∧ w.cell? ⟨w0.heap.size + 1, 0, none⟩ = some (.int .i64 b.kind) ∧ w.cell? ⟨w0.heap.size + 1, 1, none⟩ = some (.int .i64 b.n) ∧ w.cell? ⟨w0.heap.size + 1 + 1, 0, none⟩ = some (.int .i64 c.kind) ∧ w.cell? ⟨w0.heap.size + 1 + 1, 1, none⟩ = some (.int .i64 c.n) := ⟨(nv2 h.h1).1, (nv2 h.h1).2, (nv2 h.h2).1, (nv2 h.h2).2, (nv2 h.h3).1, (nv2 h.h3).2⟩
theorem keepJ {W w3 : World} {X : Nat} {a b c x : Val} (hJ : JSt W w3 a b c) (hX : w3.heap[X]? = some (vlO x)) {w' : World} (h0 : Below w3.heap.size w3 w') : Below w3.heap.size w3 w' ∧ w'.cell? ⟨W.heap.size, 0, none⟩ = some (.int .i64 a.kind) ∧ w'.cell? ⟨W.heap.size, 1, none⟩ = some (.int .i64 a.n) ∧ w'.cell? ⟨W.heap.size + 1, 0, none⟩ = some (.int .i64 b.kind) ∧ w'.cell? ⟨W.heap.size + 1, 1, none⟩ = some (.int .i64 b.n) ∧ w'.cell? ⟨W.heap.size + 1 + 1, 0, none⟩ = some (.int .i64 c.kind) ∧ w'.cell? ⟨W.heap.size + 1 + 1, 1, none⟩ = some (.int .i64 c.n) ∧ w'.cell? ⟨X, 0, none⟩ = some (.int .i64 x.kind) ∧ w'.cell? ⟨X, 1, none⟩ = some (.int .i64 x.n) := by
  obtain ⟨h1, h2, h3, h4, h5, h6⟩ := (hJ.below h0).all
  obtain ⟨h7, h8⟩ := nv2 ((h0.block _ (lt_heap hX)).trans hX)
  exact ⟨h0, h1, h2, h3, h4, h5, h6, h7, h8⟩
theorem keepT {w3 wc w' : World} (hb : Below wc.heap.size wc w') (h0 : Below w3.heap.size w3 wc) : Below w3.heap.size w3 w' := h0.trans (hb.mono h0.size)
set_option maxHeartbeats 8000000 in
theorem joins_any (a b c : Val) (W : World) : Calls Try.prog 9 #[vlV a, vlV b, vlV c] W (RPost (.bool true) W) := by
  obtain ⟨w1, hW⟩ : ∃ w1, ((W.alloc (vlO a)).alloc (vlO b)).alloc (vlO c) = w1 := ⟨_, rfl⟩
  have HS : Hid (JSt W w1 a b c) := Lib.hid (by
    obtain ⟨hz1, hz2, hz3, hzb, hzs⟩ := three_vals W a b c
    rw [hW] at hz1 hz2 hz3 hzb hzs
    exact ⟨hz1, hz2, hz3, hzb⟩)
  go_enter Try.func9, Try.ntmps9
  obtain ⟨x0, x1, y0, y1, z0, z1⟩ := HS.out.all
  go_wp2
  clear x0 x1 y0 y1 z0 z1
  go_loopw [15] (fun s15 wr => ∃ k : Nat, k ≤ 3 ∧ s15 = .int .i64 (k : Int) ∧ Hid (∀ x ∈ [a, b, c].take k, OkP x) ∧ Hid (JSt W wr a b c) ∧ Hid (ValRow wr w1.heap.size [a, b, c])) (fun s15 wr => 3 - (intOf s15).toNat)
  case atStart => exact ⟨0, by omega, rfl, Lib.hid (by simp), Lib.hid (HS.out.below ((Below.refl _ _).alloc (Nat.le_refl _) _)), Lib.hid (heap_alloc_new _ _)⟩
  case round =>
    obtain ⟨k, hk, rfl, HO, HJ, HR⟩ := hrel
    have k0 : (0 : Int) ≤ (k : Int) := Int.natCast_nonneg _
    by_cases hlt : k < 3
    · have k1 : (k : Int) < 3 := by omega
      obtain ⟨x, hx⟩ : ∃ x, [a, b, c][k]? = some x := ⟨_, List.getElem?_eq_getElem hlt⟩
      obtain ⟨c0, c1⟩ := HR.out.cells hx
      have HN : Hid (OkP x → ∀ y ∈ [a, b, c].take (k + 1), OkP y) := Lib.hid (fun h y hy => by
        rw [List.take_add_one, hx] at hy
        rcases List.mem_append.1 hy with hy | hy
        · exact HO.out y hy
        · obtain rfl : y = x := by simpa using hy
          exact h)
      have HLT := Lib.hid hlt
      have HJ2 : ∀ v : Val, Hid (JSt W (wr.alloc (vlO v)) a b c) := fun v => Lib.hid (HJ.out.below ((Below.refl _ _).alloc (Nat.le_refl _) _))
      have HR2 : ∀ v : Val, Hid (ValRow (wr.alloc (vlO v)) w1.heap.size [a, b, c]) := fun v => Lib.hid (HR.out.keep (((Below.refl wr.heap.size wr).alloc (Nat.le_refl _) _).block _ HR.out.lt))
      have HOK := Lib.hid (@okP_of x)
      obtain ⟨kd, n⟩ := x
      clear hlt hx
      by_cases h0 : kd < 0
      · go_wp2_with ((with_reducible refine (awake11_any _).mono ?_); rintro e w5 ⟨rfl, hb5⟩; have HS5 := Lib.hid ((HJ2 ⟨kd, n⟩).out.below hb5); clear hb5)
        go_ret
        exact ⟨rfl, HS5.out.hb⟩
      · have h0' : ¬ kd < 0 := h0
        by_cases h2 : 2 < kd
        · go_wp2_with ((with_reducible refine (awake11_any _).mono ?_); rintro e w5 ⟨rfl, hb5⟩; have HS5 := Lib.hid ((HJ2 ⟨kd, n⟩).out.below hb5); clear hb5)
          go_ret
          exact ⟨rfl, HS5.out.hb⟩
        · by_cases h1 : kd = 1
          · have t1 : ((kd : Int) != 1) = false := by simpa using h1
            have HK : Hid (OkP ⟨kd, n⟩) := Lib.hid (HOK.out h0 h2 (fun q => absurd h1 q))
            clear HOK h1
            go_wp2
            go_roundw
            case rel => exact ⟨k + 1, HLT.out, by go_num, Lib.hid (HN.out HK.out), HJ2 ⟨kd, n⟩, HR2 ⟨kd, n⟩⟩
            case measure => have := HLT.out; simp [intOf]; omega
          · have t1 : ((kd : Int) != 1) = true := by simpa using h1
            by_cases hn : n = 0
            · have t2 : ((n : Int) != 0) = false := by simpa using hn
              have HK : Hid (OkP ⟨kd, n⟩) := Lib.hid (HOK.out h0 h2 (fun _ => hn))
              clear HOK h1 hn
              go_wp2
              go_roundw
              case rel => exact ⟨k + 1, HLT.out, by go_num, Lib.hid (HN.out HK.out), HJ2 ⟨kd, n⟩, HR2 ⟨kd, n⟩⟩
              case measure => have := HLT.out; simp [intOf]; omega
            · have t2 : ((n : Int) != 0) = true := by simpa using hn
              clear HOK h1 hn
              go_wp2_with ((with_reducible refine (awake11_any _).mono ?_); rintro e w5 ⟨rfl, hb5⟩; have HS5 := Lib.hid ((HJ2 ⟨kd, n⟩).out.below hb5); clear hb5)
              go_ret
              exact ⟨rfl, HS5.out.hb⟩
    · obtain rfl : k = 3 := by omega
      obtain ⟨ha, hb, hc⟩ : OkP a ∧ OkP b ∧ OkP c := ⟨HO.out a (by simp), HO.out b (by simp), HO.out c (by simp)⟩
      obtain ⟨x, hx⟩ : ∃ x, joinP a b = x := ⟨_, rfl⟩
      obtain ⟨y, hy⟩ : ∃ y, joinP x c = y := ⟨_, rfl⟩
      obtain ⟨z, hz⟩ : ∃ z, joinP b c = z := ⟨_, rfl⟩
      have J1 : Hid (∀ w, Calls Try.prog 40 #[vlV a, vlV b] w (RPost (vlV x) w)) := Lib.hid (fun w => by have := join_c a b w; rwa [hx] at this)
      have J2 : Hid (∀ w, Calls Try.prog 40 #[vlV b, vlV a] w (RPost (vlV x) w)) := Lib.hid (fun w => by have := join_c b a w; rwa [jp_comm ha hb, hx] at this)
      have J3 : Hid (∀ w, Calls Try.prog 40 #[vlV a, vlV a] w (RPost (vlV a) w)) := Lib.hid (fun w => by have := join_c a a w; rwa [jp_same ha] at this)
      have J4 : Hid (∀ w, Calls Try.prog 40 #[vlV x, vlV c] w (RPost (vlV y) w)) := Lib.hid (fun w => by have := join_c x c w; rwa [hy] at this)
      have J5 : Hid (∀ w, Calls Try.prog 40 #[vlV b, vlV c] w (RPost (vlV z) w)) := Lib.hid (fun w => by have := join_c b c w; rwa [hz] at this)
      have J6 : Hid (∀ w, Calls Try.prog 40 #[vlV a, vlV z] w (RPost (vlV y) w)) := Lib.hid (fun w => by have e : joinP a z = y := (by rw [← hz, jp_assoc ha hb hc, hx, hy]); have := join_c a z w; rwa [e] at this)
      have J7 : Hid (∀ w, Calls Try.prog 40 #[vlV a, vlV ⟨0, 0⟩] w (RPost (vlV a) w)) := Lib.hid (fun w => by have := join_c a ⟨0, 0⟩ w; rwa [jp_never ha] at this)
      have HAB : Hid (a = b ∨ a.kind = 0 ∨ b.kind = 0 ∨ x = ⟨2, 0⟩) := Lib.hid (by
        by_cases h : a = b
        · exact .inl h
        · by_cases h1 : a.kind = 0
          · exact .inr (.inl h1)
          · by_cases h2 : b.kind = 0
            · exact .inr (.inr (.inl h2))
            · exact .inr (.inr (.inr (hx.symm.trans (jp_any ha hb h h1 h2)))))
      clear hx hy hz ha hb hc HR HO HS hW
      obtain ⟨x0, x1, y0, y1, z0, z1⟩ := HJ.out.all
      go_upto_region 8 with ((with_reducible refine (J1.out _).mono ?_); rintro e w2 ⟨rfl, hb2⟩; have HJ3 := Lib.hid (HJ.out.below hb2); clear hb2 x0 x1 y0 y1 z0 z1)
      have HX3 : Hid ((w2.alloc (vlO x)).heap[w2.heap.size]? = some (vlO x)) := Lib.hid (heap_alloc_new _ _)
      have HJ4 : Hid (JSt W (w2.alloc (vlO x)) a b c) := Lib.hid (HJ3.out.below ((Below.refl _ _).alloc (Nat.le_refl _) _))
      clear HJ3
      generalize w2.alloc (vlO x) = w3 at *
      generalize w2.heap.size = X at *
      have HB0 : Hid (Below w3.heap.size w3 w3.drew) := Lib.hid ⟨rfl, rfl, rfl, Nat.le_refl _, fun _ _ => rfl⟩
      go_upto_region 8 with fail
      go_region_held3 (fun w' => Below w3.heap.size w3 w' ∧ w'.cell? ⟨W.heap.size, 0, none⟩ = some (.int .i64 a.kind) ∧ w'.cell? ⟨W.heap.size, 1, none⟩ = some (.int .i64 a.n) ∧ w'.cell? ⟨W.heap.size + 1, 0, none⟩ = some (.int .i64 b.kind) ∧ w'.cell? ⟨W.heap.size + 1, 1, none⟩ = some (.int .i64 b.n) ∧ w'.cell? ⟨W.heap.size + 1 + 1, 0, none⟩ = some (.int .i64 c.kind) ∧ w'.cell? ⟨W.heap.size + 1 + 1, 1, none⟩ = some (.int .i64 c.n) ∧ w'.cell? ⟨X, 0, none⟩ = some (.int .i64 x.kind) ∧ w'.cell? ⟨X, 1, none⟩ = some (.int .i64 x.n)) (first | exact keepJ HJ4.out HX3.out HB0.out | exact keepJ HJ4.out HX3.out (keepT (by assumption) (by first | assumption | exact And.left (by assumption)))) (first | ((with_reducible refine (J2.out _).mono ?_); rintro e w' ⟨rfl, hb⟩) | ((with_reducible refine (J3.out _).mono ?_); rintro e w' ⟨rfl, hb⟩) | ((with_reducible refine (J4.out _).mono ?_); rintro e w' ⟨rfl, hb⟩) | ((with_reducible refine (J5.out _).mono ?_); rintro e w' ⟨rfl, hb⟩) | ((with_reducible refine (J6.out _).mono ?_); rintro e w' ⟨rfl, hb⟩) | ((with_reducible refine (J7.out _).mono ?_); rintro e w' ⟨rfl, hb⟩))
      all_goals
        (rename_i hS9
         have HB9 := Lib.hid (HJ4.out.hb.trans (hS9.1.mono (show W.heap.size ≤ w3.heap.size from HJ4.out.hb.size)))
         obtain ⟨-, m1, m2, m3, m4, m5, m6, m7, m8⟩ := hS9
         by_cases hk : a.kind = b.kind
         · by_cases hn : a.n = b.n
           · (go_wp2_with ((with_reducible refine (awake11_any _).mono ?_); rintro e w8 ⟨rfl, hb8⟩); go_ret; exact ⟨rfl, HB9.out.trans (hb8.mono HB9.out.size)⟩)
           · rcases HAB.out with h | h | h | h
             · exact absurd (by rw [h]) hn
             · (go_wp2_with ((with_reducible refine (awake11_any _).mono ?_); rintro e w8 ⟨rfl, hb8⟩); go_ret; exact ⟨rfl, HB9.out.trans (hb8.mono HB9.out.size)⟩)
             · by_cases h1 : a.kind = 0
               · (go_wp2_with ((with_reducible refine (awake11_any _).mono ?_); rintro e w8 ⟨rfl, hb8⟩); go_ret; exact ⟨rfl, HB9.out.trans (hb8.mono HB9.out.size)⟩)
               · exact absurd (hk.trans h) h1
             · by_cases h1 : a.kind = 0
               · (go_wp2_with ((with_reducible refine (awake11_any _).mono ?_); rintro e w8 ⟨rfl, hb8⟩); go_ret; exact ⟨rfl, HB9.out.trans (hb8.mono HB9.out.size)⟩)
               · by_cases h2 : b.kind = 0
                 · exact absurd (hk.trans h2) h1
                 · obtain rfl := h
                   (go_wp2_with ((with_reducible refine (awake11_any _).mono ?_); rintro e w8 ⟨rfl, hb8⟩); go_ret; exact ⟨rfl, HB9.out.trans (hb8.mono HB9.out.size)⟩)
         · rcases HAB.out with h | h | h | h
           · exact absurd (by rw [h]) hk
           · (go_wp2_with ((with_reducible refine (awake11_any _).mono ?_); rintro e w8 ⟨rfl, hb8⟩); go_ret; exact ⟨rfl, HB9.out.trans (hb8.mono HB9.out.size)⟩)
           · by_cases h1 : a.kind = 0
             · exact absurd (h1.trans h.symm) hk
             · (go_wp2_with ((with_reducible refine (awake11_any _).mono ?_); rintro e w8 ⟨rfl, hb8⟩); go_ret; exact ⟨rfl, HB9.out.trans (hb8.mono HB9.out.size)⟩)
           · by_cases h1 : a.kind = 0
             · (go_wp2_with ((with_reducible refine (awake11_any _).mono ?_); rintro e w8 ⟨rfl, hb8⟩); go_ret; exact ⟨rfl, HB9.out.trans (hb8.mono HB9.out.size)⟩)
             · by_cases h2 : b.kind = 0
               · (go_wp2_with ((with_reducible refine (awake11_any _).mono ?_); rintro e w8 ⟨rfl, hb8⟩); go_ret; exact ⟨rfl, HB9.out.trans (hb8.mono HB9.out.size)⟩)
               · obtain rfl := h
                 (go_wp2_with ((with_reducible refine (awake11_any _).mono ?_); rintro e w8 ⟨rfl, hb8⟩); go_ret; exact ⟨rfl, HB9.out.trans (hb8.mono HB9.out.size)⟩))
end Go.Proofs.Ytoffcljjfdifaaa
