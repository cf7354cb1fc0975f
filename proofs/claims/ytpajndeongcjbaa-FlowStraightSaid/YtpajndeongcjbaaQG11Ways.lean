/-
  Layer 11: contracts of result, chosen, ways, behind.
-/
import Derived.Test.YtpajndeongcjbaaQG11Tell
import Derived.Test.YtpajndeongcjbaaQLH
import Derived.Test.YtpajndeongcjbaaQFacts
namespace Go.Proofs.Ytpajndeongcjbaa
set_option maxRecDepth 100000
open Go.RowKit Cd
set_option linter.unusedVariables false
set_option linter.unusedSimpArgs false

/-- Of a Unary the operation is on one number. -/
def OneOk (i : Ins) : Prop := i.kind = 2 → 20 ≤ i.op ∧ i.op ≤ 23
theorem opV_beh {i : Ins} {v : List Val} (hk : i.kind = 2 ∨ i.kind = 3) (h1 : OneOk i) : opV i v = ((behV i v).getD ⟨2, 0⟩, (behV i v).isSome) := by
  unfold opV behV
  rw [if_neg (show ¬ i.kind = 1 by omega), if_neg (show ¬ i.kind = 4 by omega), if_pos hk]
  simp only
  generalize hA : v.getD i.a.toNat ⟨0, 0⟩ = A
  generalize hB : v.getD i.b.toNat ⟨0, 0⟩ = B
  by_cases h3 : i.kind = 3
  · have hu : uses i = [i.a, i.b] := by unfold uses readsA readsB; simp [h3]
    rw [hu, if_pos h3]
    simp only [List.all_cons, List.all_nil, Bool.and_true, hA, hB]
    by_cases ha : A.kind = 1
    · by_cases hb : B.kind = 1
      · by_cases hd : doB i.op B.n = true
        · simp [ha, hb, hd]
        · simp [ha, hb, hd]
      · rw [if_neg (by simp [ha, hb]), if_pos (.inr hb)]; rfl
    · rw [if_neg (by simp [ha]), if_pos (.inl ha)]; rfl
  · have h2 : i.kind = 2 := by omega
    have hu : uses i = [i.a] := by unfold uses readsA readsB; simp [h2]
    have ho := h1 h2
    rw [hu, if_neg h3]
    simp only [List.all_cons, List.all_nil, Bool.and_true, hA]
    have hd : ∀ y, doB i.op y = true := fun y => by unfold doB; rw [decide_eq_true_eq]; omega
    have hv : doV i.op A.n B.n = doV i.op A.n 0 := by rw [doV_one _ _ _ ho, doV_one _ _ _ ho]
    by_cases ha : A.kind = 1
    · simp [ha, hd, hv]
    · rw [if_neg (by simp [ha]), if_pos (.inl ha)]; rfl
set_option maxHeartbeats 4000000 in
theorem result_c (i : Ins) (b : Nat) (v : List Val) (w : World) (hL : LsAt w w.heap.size b v) (hR : RegIn i v) (h20 : OneOk i) (x : Val) (hx : (behV i v).getD ⟨2, 0⟩ = x) : Calls Try.prog 109 #[inV i, lsV b] w (RPost (vlV x) w) := by
  have HT0 := Lib.hid (TSt.new w i b v hL)
  obtain ⟨c0, c1, c2, c3, c4, c5, c6, c7, c8, c9, c10, c11, c12, c13, c14⟩ := nv15 HT0.out.hi
  obtain ⟨z0, z1⟩ := nv2 HT0.out.hr
  have fz : ∀ j, ((w.alloc (inO i)).alloc (vlO ⟨0, 0⟩)).frozen? ⟨w.heap.size + 1, j, none⟩ = false := fun j => HT0.out.frozen j
  have HRI := Lib.hid hR
  have HX := Lib.hid hx
  have HBB : Hid (∀ o p : Obj, Below w.heap.size w ((w.alloc o).alloc p)) := Lib.hid (fun o p => ((Below.refl w.heap.size w).alloc (Nat.le_refl _) _).alloc (by simp) _)
  by_cases h1 : i.kind = 1
  · have e : x = ⟨1, i.n⟩ := by rw [← hx]; unfold behV; rw [if_pos h1]; rfl
    subst e
    have t1 : ((i.kind : Int) == 1) = true := by simpa using h1
    clear hL hR hx h1 h20
    go_enter Try.func109, Try.ntmps109
    go_wp2
    exact bodyPost_ret (v := vlV ⟨1, i.n⟩) (by simp [results, Try.results109, go_sem]) rfl ⟨rfl, HBB.out _ _⟩
  · have t1 : ((i.kind : Int) == 1) = false := by simpa using h1
    by_cases h4 : i.kind = 4
    · have t4 : ((i.kind : Int) == 4) = true := by simpa using h4
      have ha := hR.1 i.a (by unfold uses readsA; simp [h4])
      have e : v.getD i.a.toNat ⟨0, 0⟩ = x := by rw [← hx]; unfold behV; rw [if_neg h1, if_pos h4]; rfl
      have hga := getD_at ha.1 ha.2
      rw [e] at hga
      have HLA : Hid (∀ V, LsAt V w.heap.size b v → Calls Try.prog 108 #[.int .i64 i.a, .pointer (some ⟨b, 0, none⟩)] V (RPost (vlV x) V)) := Lib.hid (fun V hV => listed1_c V hV ha.1 hga)
      clear hL hR hx h1 h4 ha e hga h20 z0 z1 fz
      go_enter Try.func109, Try.ntmps109
      go_wp2_with ((with_reducible refine (HLA.out _ HT0.out.ls).mono ?_); rintro e w2 ⟨rfl, hb2⟩; have HT2 := Lib.hid (HT0.out.below hb2); clear hb2; obtain ⟨z0, z1⟩ := nv2 HT2.out.hr; have fz : ∀ j, w2.frozen? ⟨w.heap.size + 1, j, none⟩ = false := (fun j => HT2.out.frozen j))
      obtain ⟨y0, y1⟩ := nv2 (HT2.out.set x).2
      exact bodyPost_ret (v := vlV x) (by simp [results, Try.results109, go_sem, y0, y1]) rfl ⟨rfl, (HT2.out.set x).1⟩
    · have t4 : ((i.kind : Int) == 4) = false := by simpa using h4
      by_cases h23 : i.kind = 2 ∨ i.kind = 3
      · have ho := opV_beh (v := v) h23 h20
        rw [hx] at ho
        obtain ⟨q, hqq⟩ : ∃ q, (behV i v).isSome = q := ⟨_, rfl⟩
        rw [hqq] at ho
        have HK := Lib.hid h23
        have HOP : Hid (∀ V, LsAt V V.heap.size b v → Calls Try.prog 111 #[inV i, lsV b] V (OpPost (x, q) V)) := Lib.hid (fun V hV => ho ▸ operation_c i b v V hV HK.out HRI.out)
        have HW : Hid (∀ V, TSt w V i b v → LsAt V V.heap.size b v) := Lib.hid (fun V hV => hV.ls.mono (by have := hV.lt; omega) (Nat.le_refl _))
        have ht23 : (((i.kind : Int) == 2) = true) ∨ (((i.kind : Int) == 2) = false ∧ ((i.kind : Int) == 3) = true) := by
          rcases h23 with h | h
          · exact .inl (by simpa using h)
          · exact .inr ⟨by simp; omega, by simpa using h⟩
        clear hL hR hx h1 h4 hqq ho h23 h20 z0 z1 fz
        rcases ht23 with t2 | ⟨t2, t3⟩
        all_goals
          go_enter Try.func109, Try.ntmps109
          go_wp2_with ((with_reducible refine (HOP.out _ (HW.out _ HT0.out)).mono ?_); rintro e w2 ⟨rfl, hb2⟩; have HT2 := Lib.hid (HT0.out.below hb2); have HT3 := Lib.hid (HT2.out.below ((Below.refl _ w2).alloc (Nat.le_refl _) (vlO x))); clear hb2; obtain ⟨z0, z1⟩ := nv2 HT3.out.hr; have fz : ∀ j, (w2.alloc (vlO x)).frozen? ⟨w.heap.size + 1, j, none⟩ = false := (fun j => HT3.out.frozen j); obtain ⟨q0, q1⟩ := nv2 (heap_alloc_new w2 (vlO x)))
          obtain ⟨y0, y1⟩ := nv2 (HT3.out.set x).2
          exact bodyPost_ret (v := vlV x) (by simp [results, Try.results109, go_sem, y0, y1]) rfl ⟨rfl, (HT3.out.set x).1⟩
      · have e : x = ⟨2, 0⟩ := by rw [← hx]; unfold behV; rw [if_neg h1, if_neg h4, if_neg h23]; rfl
        subst e
        have t2 : ((i.kind : Int) == 2) = false := by simp; omega
        have t3 : ((i.kind : Int) == 3) = false := by simp; omega
        clear hL hR hx h1 h4 h23 h20
        go_enter Try.func109, Try.ntmps109
        go_wp2
        exact bodyPost_ret (v := vlV ⟨2, 0⟩) (by simp [results, Try.results109, go_sem]) rfl ⟨rfl, HBB.out _ _⟩
/-- Where a Branch goes on, if that is known. -/
def Cd.choV (i : Ins) (v : List Val) : Int × Bool := if (v.getD i.a.toNat ⟨0, 0⟩).kind = 1 then (if (v.getD i.a.toNat ⟨0, 0⟩).n ≠ 0 then i.dest else i.els, true) else (0, false)
def ChPost (p : Int × Bool) (w : World) (e : Ending) (w' : World) : Prop := e = .returned (.tuple #[.int .i64 p.1, .bool p.2]) ∧ Below w.heap.size w w'
set_option maxHeartbeats 4000000 in
theorem chosen_c (i : Ins) (b : Nat) (v : List Val) (w : World) (hL : LsAt w w.heap.size b v) (ha : 0 ≤ i.a ∧ i.a < (v.length : Int)) : Calls Try.prog 112 #[inV i, lsV b] w (ChPost (choV i v) w) := by
  have HX := Lib.hid (heap_alloc_new w (inO i))
  have HB0 := Lib.hid ((Below.refl w.heap.size w).alloc (Nat.le_refl _) (inO i))
  obtain ⟨c0, c1, c2, c3, c4, c5, c6, c7, c8, c9, c10, c11, c12, c13, c14⟩ := nv15 HX.out
  have hga := getD_at ha.1 ha.2
  obtain ⟨x, hx⟩ : ∃ x, v.getD i.a.toNat ⟨0, 0⟩ = x := ⟨_, rfl⟩
  have HE : Hid (choV i v = if x.kind = 1 then (if x.n ≠ 0 then i.dest else i.els, true) else (0, false)) := Lib.hid (by unfold choV; rw [hx])
  rw [hx] at hga
  have HLA : Hid (Calls Try.prog 108 #[.int .i64 i.a, .pointer (some ⟨b, 0, none⟩)] (w.alloc (inO i)) (RPost (vlV x) (w.alloc (inO i)))) := Lib.hid (listed1_c _ (hL.below HB0.out) ha.1 hga)
  have HI1 : Hid (∀ V, Below (w.alloc (inO i)).heap.size (w.alloc (inO i)) V → (V.alloc (vlO x)).heap[w.heap.size]? = some (inO i) ∧ Below w.heap.size w (V.alloc (vlO x))) := Lib.hid (fun V hV => by
    have h9 := hV.size
    rw [World.size_alloc] at h9
    exact ⟨(Below.heap_alloc _ _ _ (by omega)).trans ((hV.block _ (by simp)).trans HX.out), (HB0.out.trans (hV.mono (by simp))).alloc (by omega) _⟩)
  clear hx hL hga
  by_cases h1 : x.kind = 1
  · have t0 : ((x.kind : Int) != 1) = false := by simpa using h1
    by_cases h2 : x.n = 0
    · have t1 : ((x.n : Int) != 0) = false := by simpa using h2
      have HE2 : Hid (choV i v = (i.els, true)) := Lib.hid (by rw [HE.out, if_pos h1, if_neg (by simpa using h2)])
      clear h1 h2
      go_enter Try.func112, Try.ntmps112
      go_wp2_with ((with_reducible refine (HLA.out).mono ?_); rintro e w2 ⟨rfl, hb2⟩; obtain ⟨hi2, hbb2⟩ := HI1.out w2 hb2; have HBB := Lib.hid hbb2; obtain ⟨q0, q1⟩ := nv2 (heap_alloc_new w2 (vlO x)); clear hb2 hbb2 c0 c1 c2 c3 c4 c5 c6 c7 c8 c9 c10 c11 c12 c13 c14; obtain ⟨c0, c1, c2, c3, c4, c5, c6, c7, c8, c9, c10, c11, c12, c13, c14⟩ := nv15 hi2)
      go_ret2
      exact ⟨by rw [HE2.out]; rfl, HBB.out⟩
    · have t1 : ((x.n : Int) != 0) = true := by simpa using h2
      have HE2 : Hid (choV i v = (i.dest, true)) := Lib.hid (by rw [HE.out, if_pos h1, if_pos (by simpa using h2)])
      clear h1 h2
      go_enter Try.func112, Try.ntmps112
      go_wp2_with ((with_reducible refine (HLA.out).mono ?_); rintro e w2 ⟨rfl, hb2⟩; obtain ⟨hi2, hbb2⟩ := HI1.out w2 hb2; have HBB := Lib.hid hbb2; obtain ⟨q0, q1⟩ := nv2 (heap_alloc_new w2 (vlO x)); clear hb2 hbb2 c0 c1 c2 c3 c4 c5 c6 c7 c8 c9 c10 c11 c12 c13 c14; obtain ⟨c0, c1, c2, c3, c4, c5, c6, c7, c8, c9, c10, c11, c12, c13, c14⟩ := nv15 hi2)
      go_ret2
      exact ⟨by rw [HE2.out]; rfl, HBB.out⟩
  · have t0 : ((x.kind : Int) != 1) = true := by simpa using h1
    have HE2 : Hid (choV i v = (0, false)) := Lib.hid (by rw [HE.out, if_neg h1])
    clear h1
    go_enter Try.func112, Try.ntmps112
    go_wp2_with ((with_reducible refine (HLA.out).mono ?_); rintro e w2 ⟨rfl, hb2⟩; obtain ⟨hi2, hbb2⟩ := HI1.out w2 hb2; have HBB := Lib.hid hbb2; obtain ⟨q0, q1⟩ := nv2 (heap_alloc_new w2 (vlO x)); clear hb2 hbb2 c0 c1 c2 c3 c4 c5 c6 c7 c8 c9 c10 c11 c12 c13 c14; obtain ⟨c0, c1, c2, c3, c4, c5, c6, c7, c8, c9, c10, c11, c12, c13, c14⟩ := nv15 hi2)
    go_ret2
    exact ⟨by rw [HE2.out]; rfl, HBB.out⟩
end Go.Proofs.Ytpajndeongcjbaa
