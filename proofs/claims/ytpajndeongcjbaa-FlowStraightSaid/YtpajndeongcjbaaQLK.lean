/-
  Layer 11: contract of fold: an instruction of kind 2.
  Layer 11: contract of fold: an instruction of kind 3.
  Layer 11: contract of fold: an instruction of kind 4.
-/
import Derived.Test.YtpajndeongcjbaaQG11FoldH
namespace Go.Proofs.Ytpajndeongcjbaa
set_option maxRecDepth 100000
open Go.RowKit Cd
set_option linter.unusedVariables false
set_option linter.unusedSimpArgs false
set_option maxHeartbeats 8000000 in
theorem fold_k2 (i : Ins) (b : Nat) (v : List Val) (x : Val) (w : World) (HS0 : Hid (FSt w ((w.alloc (inO i)).alloc (inO zeroIns)) i zeroIns b v)) (HRE : Hid (∀ V, LsAt V V.heap.size b v → Calls Try.prog 109 #[inV i, lsV b] V (RPost (vlV x) V))) (HE : Hid (foldI i v = constI i.dst x.n ∧ foldIs i v = true)) (t1 : ((x.kind : Int) == 1) = true) (t2 : ((i.kind : Int) == 2) = true) :
    Calls Try.prog 81 #[inV i, lsV b] w (FlPost (foldI i v) (foldIs i v) w) := by
  obtain ⟨c0, c1, c2, c3, c4, c5, c6, c7, c8, c9, c10, c11, c12, c13, c14⟩ := nv15 HS0.out.hi
  go_enter Try.func81, Try.ntmps81
  go_upto_region 8 with (first | ((with_reducible refine (HRE.out _ HS0.out.lsz).mono ?_); rintro e w2 ⟨rfl, hb2⟩; have HS2 := Lib.hid (HS0.out.below hb2); clear hb2 c0 c1 c2 c3 c4 c5 c6 c7 c8 c9 c10 c11 c12 c13 c14; obtain ⟨c0, c1, c2, c3, c4, c5, c6, c7, c8, c9, c10, c11, c12, c13, c14⟩ := nv15 HS2.out.hi) | ((with_reducible refine (cplain_any _ _).mono ?_); rintro e w3 ⟨rfl, hb3⟩; have HB3 := Lib.hid hb3; clear hb3))
  obtain ⟨p, hp⟩ : ∃ p, w3.heap.size = p := ⟨_, rfl⟩
  obtain ⟨g, hg⟩ : ∃ g, w2.heap.size = g := ⟨_, rfl⟩
  have HBV : Hid (Below w2.heap.size w2 (w2.alloc (vlO x))) := Lib.hid ((Below.refl _ _).alloc (Nat.le_refl _) _)
  have HB5 : Hid (Below w3.heap.size w3 (w3.alloc (inO (plainI 1)))) := Lib.hid ((Below.refl _ _).alloc (Nat.le_refl _) _)
  have HS5 := Lib.hid (((HS2.out.below HBV.out).below HB3.out).below HB5.out)
  have hvx : (w3.alloc (inO (plainI 1))).heap[g]? = some (vlO x) := by
    have h1 := heap_alloc_new w2 (vlO x)
    rw [hg] at h1
    have h2 := lt_heap h1
    have h3 := (HB3.out.block g h2).trans h1
    exact (HB5.out.block g (lt_heap h3)).trans h3
  have hpx : (w3.alloc (inO (plainI 1))).heap[p]? = some (inO (plainI 1)) := by rw [← hp]; exact heap_alloc_new w3 _
  have HP := Lib.hid hpx
  have hne : g < p := by
    have h1 := HB3.out.size
    rw [World.size_alloc] at h1
    omega
  have hpw : w.heap.size + 2 ≤ g := by rw [← hg]; exact HS2.out.lt
  obtain ⟨W5, hW5⟩ : ∃ W, w3.alloc (inO (plainI 1)) = W := ⟨_, rfl⟩
  rw [hW5] at HS5 hvx hpx HP
  obtain ⟨x0, x1⟩ := nv2 hvx
  obtain ⟨d0, d1, d2, d3, d4, d5, d6, d7, d8, d9, d10, d11, d12, d13, d14⟩ := nv15 hpx
  have fp : ∀ q, W5.frozen? ⟨p, q, none⟩ = false := fun q => by simp [World.frozen?, hpx]
  clear c0 c1 c2 c3 c4 c5 c6 c7 c8 c9 c10 c11 c12 c13 c14
  obtain ⟨c0, c1, c2, c3, c4, c5, c6, c7, c8, c9, c10, c11, c12, c13, c14⟩ := nv15 HS5.out.hi
  have HPL := Lib.hid hpw
  have HNE := Lib.hid hne
  clear hvx hpx HBV HB5 HB3 HS2
  rw [hW5, hp, hg]
  clear hp hg hW5
  go_cut [] from 24 to 29 (fun wc => Hid (wc.heap[p]? = some (inO (constI i.dst x.n))) ∧ Hid (FSt w wc i zeroIns b v))
  case first =>
    have hw0 : ¬ w.heap.size = p := by omega
    go_region
    all_goals
      go_wp2
      go_meet
      case rel =>
        exact ⟨Lib.hid (const_set HP.out i.dst x.n), Lib.hid ((HS5.out.put (by omega) 2 _).put (by omega) 5 _).drew⟩
  case rest =>
    obtain ⟨HPC, HSC⟩ := hcut
    clear d0 d1 d2 d3 d4 d5 d6 d7 d8 d9 d10 d11 d12 d13 d14 fp c0 c1 c2 c3 c4 c5 c6 c7 c8 c9 c10 c11 c12 c13 c14 x0 x1
    obtain ⟨d0, d1, d2, d3, d4, d5, d6, d7, d8, d9, d10, d11, d12, d13, d14⟩ := nv15 HPC.out
    obtain ⟨z0, z1, z2, z3, z4, z5, z6, z7, z8, z9, z10, z11, z12, z13, z14⟩ := nv15 HSC.out.hj
    have fz : ∀ q, wc.frozen? ⟨w.heap.size + 1, q, none⟩ = false := fun q => HSC.out.frozen q
    go_wp2
    obtain ⟨y0, y1, y2, y3, y4, y5, y6, y7, y8, y9, y10, y11, y12, y13, y14⟩ := nv15 (setI_heap HSC.out.hj (constI i.dst x.n))
    rw [HE.out.1, HE.out.2]
    exact bodyPost_ret (v := .tuple #[inV (constI i.dst x.n), .bool true]) (by simp [results, Try.results81, go_sem, y0, y1, y2, y3, y4, y5, y6, y7, y8, y9, y10, y11, y12, y13, y14] <;> rfl) rfl ⟨rfl, setI_below HSC.out.hb (by omega) _⟩
set_option maxHeartbeats 8000000 in
theorem fold_n2 (i : Ins) (b : Nat) (v : List Val) (x : Val) (w : World) (HS0 : Hid (FSt w ((w.alloc (inO i)).alloc (inO zeroIns)) i zeroIns b v)) (HRE : Hid (∀ V, LsAt V V.heap.size b v → Calls Try.prog 109 #[inV i, lsV b] V (RPost (vlV x) V))) (HE : Hid (foldI i v = i ∧ foldIs i v = false)) (t1 : ((x.kind : Int) == 1) = false) (t2 : ((i.kind : Int) == 2) = true) :
    Calls Try.prog 81 #[inV i, lsV b] w (FlPost (foldI i v) (foldIs i v) w) := by
  obtain ⟨c0, c1, c2, c3, c4, c5, c6, c7, c8, c9, c10, c11, c12, c13, c14⟩ := nv15 HS0.out.hi
  go_enter Try.func81, Try.ntmps81
  go_wp2_with ((with_reducible refine (HRE.out _ HS0.out.lsz).mono ?_); rintro e w2 ⟨rfl, hb2⟩; have HS3 := Lib.hid ((HS0.out.below hb2).below ((Below.refl _ w2).alloc (Nat.le_refl _) (vlO x))); have hvx := nv2 (heap_alloc_new w2 (vlO x)); clear hb2 c0 c1 c2 c3 c4 c5 c6 c7 c8 c9 c10 c11 c12 c13 c14; obtain ⟨c0, c1, c2, c3, c4, c5, c6, c7, c8, c9, c10, c11, c12, c13, c14⟩ := nv15 HS3.out.hi; obtain ⟨u0, u1⟩ := hvx; obtain ⟨z0, z1, z2, z3, z4, z5, z6, z7, z8, z9, z10, z11, z12, z13, z14⟩ := nv15 HS3.out.hj; have fz : ∀ q, (w2.alloc (vlO x)).frozen? ⟨w.heap.size + 1, q, none⟩ = false := (fun q => HS3.out.frozen q))
  obtain ⟨y0, y1, y2, y3, y4, y5, y6, y7, y8, y9, y10, y11, y12, y13, y14⟩ := nv15 (setI_heap HS3.out.hj (i))
  rw [HE.out.1, HE.out.2]
  exact bodyPost_ret (v := .tuple #[inV (i), .bool false]) (by simp [results, Try.results81, go_sem, y0, y1, y2, y3, y4, y5, y6, y7, y8, y9, y10, y11, y12, y13, y14] <;> rfl) rfl ⟨rfl, setI_below HS3.out.hb (by omega) _⟩
end Go.Proofs.Ytpajndeongcjbaa
namespace Go.Proofs.Ytpajndeongcjbaa
set_option maxRecDepth 100000
open Go.RowKit Cd
set_option linter.unusedVariables false
set_option linter.unusedSimpArgs false
set_option maxHeartbeats 8000000 in
theorem fold_k3 (i : Ins) (b : Nat) (v : List Val) (x : Val) (w : World) (HS0 : Hid (FSt w ((w.alloc (inO i)).alloc (inO zeroIns)) i zeroIns b v)) (HRE : Hid (∀ V, LsAt V V.heap.size b v → Calls Try.prog 109 #[inV i, lsV b] V (RPost (vlV x) V))) (HE : Hid (foldI i v = constI i.dst x.n ∧ foldIs i v = true)) (t1 : ((x.kind : Int) == 1) = true) (t2 : ((i.kind : Int) == 2) = false) (t3 : ((i.kind : Int) == 3) = true) :
    Calls Try.prog 81 #[inV i, lsV b] w (FlPost (foldI i v) (foldIs i v) w) := by
  obtain ⟨c0, c1, c2, c3, c4, c5, c6, c7, c8, c9, c10, c11, c12, c13, c14⟩ := nv15 HS0.out.hi
  go_enter Try.func81, Try.ntmps81
  go_upto_region 8 with (first | ((with_reducible refine (HRE.out _ HS0.out.lsz).mono ?_); rintro e w2 ⟨rfl, hb2⟩; have HS2 := Lib.hid (HS0.out.below hb2); clear hb2 c0 c1 c2 c3 c4 c5 c6 c7 c8 c9 c10 c11 c12 c13 c14; obtain ⟨c0, c1, c2, c3, c4, c5, c6, c7, c8, c9, c10, c11, c12, c13, c14⟩ := nv15 HS2.out.hi) | ((with_reducible refine (cplain_any _ _).mono ?_); rintro e w3 ⟨rfl, hb3⟩; have HB3 := Lib.hid hb3; clear hb3))
  obtain ⟨p, hp⟩ : ∃ p, w3.heap.size = p := ⟨_, rfl⟩
  obtain ⟨g, hg⟩ : ∃ g, w2.heap.size = g := ⟨_, rfl⟩
  have HBV : Hid (Below w2.heap.size w2 (w2.alloc (vlO x))) := Lib.hid ((Below.refl _ _).alloc (Nat.le_refl _) _)
  have HB5 : Hid (Below w3.heap.size w3 (w3.alloc (inO (plainI 1)))) := Lib.hid ((Below.refl _ _).alloc (Nat.le_refl _) _)
  have HS5 := Lib.hid (((HS2.out.below HBV.out).below HB3.out).below HB5.out)
  have hvx : (w3.alloc (inO (plainI 1))).heap[g]? = some (vlO x) := by
    have h1 := heap_alloc_new w2 (vlO x)
    rw [hg] at h1
    have h2 := lt_heap h1
    have h3 := (HB3.out.block g h2).trans h1
    exact (HB5.out.block g (lt_heap h3)).trans h3
  have hpx : (w3.alloc (inO (plainI 1))).heap[p]? = some (inO (plainI 1)) := by rw [← hp]; exact heap_alloc_new w3 _
  have HP := Lib.hid hpx
  have hne : g < p := by
    have h1 := HB3.out.size
    rw [World.size_alloc] at h1
    omega
  have hpw : w.heap.size + 2 ≤ g := by rw [← hg]; exact HS2.out.lt
  obtain ⟨W5, hW5⟩ : ∃ W, w3.alloc (inO (plainI 1)) = W := ⟨_, rfl⟩
  rw [hW5] at HS5 hvx hpx HP
  obtain ⟨x0, x1⟩ := nv2 hvx
  obtain ⟨d0, d1, d2, d3, d4, d5, d6, d7, d8, d9, d10, d11, d12, d13, d14⟩ := nv15 hpx
  have fp : ∀ q, W5.frozen? ⟨p, q, none⟩ = false := fun q => by simp [World.frozen?, hpx]
  clear c0 c1 c2 c3 c4 c5 c6 c7 c8 c9 c10 c11 c12 c13 c14
  obtain ⟨c0, c1, c2, c3, c4, c5, c6, c7, c8, c9, c10, c11, c12, c13, c14⟩ := nv15 HS5.out.hi
  have HPL := Lib.hid hpw
  have HNE := Lib.hid hne
  clear hvx hpx HBV HB5 HB3 HS2
  rw [hW5, hp, hg]
  clear hp hg hW5
  go_cut [] from 24 to 29 (fun wc => Hid (wc.heap[p]? = some (inO (constI i.dst x.n))) ∧ Hid (FSt w wc i zeroIns b v))
  case first =>
    have hw0 : ¬ w.heap.size = p := by omega
    go_region
    all_goals
      go_wp2
      go_meet
      case rel =>
        exact ⟨Lib.hid (const_set HP.out i.dst x.n), Lib.hid ((HS5.out.put (by omega) 2 _).put (by omega) 5 _).drew⟩
  case rest =>
    obtain ⟨HPC, HSC⟩ := hcut
    clear d0 d1 d2 d3 d4 d5 d6 d7 d8 d9 d10 d11 d12 d13 d14 fp c0 c1 c2 c3 c4 c5 c6 c7 c8 c9 c10 c11 c12 c13 c14 x0 x1
    obtain ⟨d0, d1, d2, d3, d4, d5, d6, d7, d8, d9, d10, d11, d12, d13, d14⟩ := nv15 HPC.out
    obtain ⟨z0, z1, z2, z3, z4, z5, z6, z7, z8, z9, z10, z11, z12, z13, z14⟩ := nv15 HSC.out.hj
    have fz : ∀ q, wc.frozen? ⟨w.heap.size + 1, q, none⟩ = false := fun q => HSC.out.frozen q
    go_wp2
    obtain ⟨y0, y1, y2, y3, y4, y5, y6, y7, y8, y9, y10, y11, y12, y13, y14⟩ := nv15 (setI_heap HSC.out.hj (constI i.dst x.n))
    rw [HE.out.1, HE.out.2]
    exact bodyPost_ret (v := .tuple #[inV (constI i.dst x.n), .bool true]) (by simp [results, Try.results81, go_sem, y0, y1, y2, y3, y4, y5, y6, y7, y8, y9, y10, y11, y12, y13, y14] <;> rfl) rfl ⟨rfl, setI_below HSC.out.hb (by omega) _⟩
set_option maxHeartbeats 8000000 in
theorem fold_n3 (i : Ins) (b : Nat) (v : List Val) (x : Val) (w : World) (HS0 : Hid (FSt w ((w.alloc (inO i)).alloc (inO zeroIns)) i zeroIns b v)) (HRE : Hid (∀ V, LsAt V V.heap.size b v → Calls Try.prog 109 #[inV i, lsV b] V (RPost (vlV x) V))) (HE : Hid (foldI i v = i ∧ foldIs i v = false)) (t1 : ((x.kind : Int) == 1) = false) (t2 : ((i.kind : Int) == 2) = false) (t3 : ((i.kind : Int) == 3) = true) :
    Calls Try.prog 81 #[inV i, lsV b] w (FlPost (foldI i v) (foldIs i v) w) := by
  obtain ⟨c0, c1, c2, c3, c4, c5, c6, c7, c8, c9, c10, c11, c12, c13, c14⟩ := nv15 HS0.out.hi
  go_enter Try.func81, Try.ntmps81
  go_wp2_with ((with_reducible refine (HRE.out _ HS0.out.lsz).mono ?_); rintro e w2 ⟨rfl, hb2⟩; have HS3 := Lib.hid ((HS0.out.below hb2).below ((Below.refl _ w2).alloc (Nat.le_refl _) (vlO x))); have hvx := nv2 (heap_alloc_new w2 (vlO x)); clear hb2 c0 c1 c2 c3 c4 c5 c6 c7 c8 c9 c10 c11 c12 c13 c14; obtain ⟨c0, c1, c2, c3, c4, c5, c6, c7, c8, c9, c10, c11, c12, c13, c14⟩ := nv15 HS3.out.hi; obtain ⟨u0, u1⟩ := hvx; obtain ⟨z0, z1, z2, z3, z4, z5, z6, z7, z8, z9, z10, z11, z12, z13, z14⟩ := nv15 HS3.out.hj; have fz : ∀ q, (w2.alloc (vlO x)).frozen? ⟨w.heap.size + 1, q, none⟩ = false := (fun q => HS3.out.frozen q))
  obtain ⟨y0, y1, y2, y3, y4, y5, y6, y7, y8, y9, y10, y11, y12, y13, y14⟩ := nv15 (setI_heap HS3.out.hj (i))
  rw [HE.out.1, HE.out.2]
  exact bodyPost_ret (v := .tuple #[inV (i), .bool false]) (by simp [results, Try.results81, go_sem, y0, y1, y2, y3, y4, y5, y6, y7, y8, y9, y10, y11, y12, y13, y14] <;> rfl) rfl ⟨rfl, setI_below HS3.out.hb (by omega) _⟩
end Go.Proofs.Ytpajndeongcjbaa
namespace Go.Proofs.Ytpajndeongcjbaa
set_option maxRecDepth 100000
open Go.RowKit Cd
set_option linter.unusedVariables false
set_option linter.unusedSimpArgs false
set_option maxHeartbeats 8000000 in
theorem fold_k4 (i : Ins) (b : Nat) (v : List Val) (x : Val) (w : World) (HS0 : Hid (FSt w ((w.alloc (inO i)).alloc (inO zeroIns)) i zeroIns b v)) (HRE : Hid (∀ V, LsAt V V.heap.size b v → Calls Try.prog 109 #[inV i, lsV b] V (RPost (vlV x) V))) (HE : Hid (foldI i v = constI i.dst x.n ∧ foldIs i v = true)) (t1 : ((x.kind : Int) == 1) = true) (t2 : ((i.kind : Int) == 2) = false) (t3 : ((i.kind : Int) == 3) = false) (t4 : ((i.kind : Int) == 4) = true) :
    Calls Try.prog 81 #[inV i, lsV b] w (FlPost (foldI i v) (foldIs i v) w) := by
  obtain ⟨c0, c1, c2, c3, c4, c5, c6, c7, c8, c9, c10, c11, c12, c13, c14⟩ := nv15 HS0.out.hi
  go_enter Try.func81, Try.ntmps81
  go_upto_region 8 with (first | ((with_reducible refine (HRE.out _ HS0.out.lsz).mono ?_); rintro e w2 ⟨rfl, hb2⟩; have HS2 := Lib.hid (HS0.out.below hb2); clear hb2 c0 c1 c2 c3 c4 c5 c6 c7 c8 c9 c10 c11 c12 c13 c14; obtain ⟨c0, c1, c2, c3, c4, c5, c6, c7, c8, c9, c10, c11, c12, c13, c14⟩ := nv15 HS2.out.hi) | ((with_reducible refine (cplain_any _ _).mono ?_); rintro e w3 ⟨rfl, hb3⟩; have HB3 := Lib.hid hb3; clear hb3))
  obtain ⟨p, hp⟩ : ∃ p, w3.heap.size = p := ⟨_, rfl⟩
  obtain ⟨g, hg⟩ : ∃ g, w2.heap.size = g := ⟨_, rfl⟩
  have HBV : Hid (Below w2.heap.size w2 (w2.alloc (vlO x))) := Lib.hid ((Below.refl _ _).alloc (Nat.le_refl _) _)
  have HB5 : Hid (Below w3.heap.size w3 (w3.alloc (inO (plainI 1)))) := Lib.hid ((Below.refl _ _).alloc (Nat.le_refl _) _)
  have HS5 := Lib.hid (((HS2.out.below HBV.out).below HB3.out).below HB5.out)
  have hvx : (w3.alloc (inO (plainI 1))).heap[g]? = some (vlO x) := by
    have h1 := heap_alloc_new w2 (vlO x)
    rw [hg] at h1
    have h2 := lt_heap h1
    have h3 := (HB3.out.block g h2).trans h1
    exact (HB5.out.block g (lt_heap h3)).trans h3
  have hpx : (w3.alloc (inO (plainI 1))).heap[p]? = some (inO (plainI 1)) := by rw [← hp]; exact heap_alloc_new w3 _
  have HP := Lib.hid hpx
  have hne : g < p := by
    have h1 := HB3.out.size
    rw [World.size_alloc] at h1
    omega
  have hpw : w.heap.size + 2 ≤ g := by rw [← hg]; exact HS2.out.lt
  obtain ⟨W5, hW5⟩ : ∃ W, w3.alloc (inO (plainI 1)) = W := ⟨_, rfl⟩
  rw [hW5] at HS5 hvx hpx HP
  obtain ⟨x0, x1⟩ := nv2 hvx
  obtain ⟨d0, d1, d2, d3, d4, d5, d6, d7, d8, d9, d10, d11, d12, d13, d14⟩ := nv15 hpx
  have fp : ∀ q, W5.frozen? ⟨p, q, none⟩ = false := fun q => by simp [World.frozen?, hpx]
  clear c0 c1 c2 c3 c4 c5 c6 c7 c8 c9 c10 c11 c12 c13 c14
  obtain ⟨c0, c1, c2, c3, c4, c5, c6, c7, c8, c9, c10, c11, c12, c13, c14⟩ := nv15 HS5.out.hi
  have HPL := Lib.hid hpw
  have HNE := Lib.hid hne
  clear hvx hpx HBV HB5 HB3 HS2
  rw [hW5, hp, hg]
  clear hp hg hW5
  go_cut [] from 24 to 29 (fun wc => Hid (wc.heap[p]? = some (inO (constI i.dst x.n))) ∧ Hid (FSt w wc i zeroIns b v))
  case first =>
    have hw0 : ¬ w.heap.size = p := by omega
    go_region
    all_goals
      go_wp2
      go_meet
      case rel =>
        exact ⟨Lib.hid (const_set HP.out i.dst x.n), Lib.hid ((HS5.out.put (by omega) 2 _).put (by omega) 5 _).drew⟩
  case rest =>
    obtain ⟨HPC, HSC⟩ := hcut
    clear d0 d1 d2 d3 d4 d5 d6 d7 d8 d9 d10 d11 d12 d13 d14 fp c0 c1 c2 c3 c4 c5 c6 c7 c8 c9 c10 c11 c12 c13 c14 x0 x1
    obtain ⟨d0, d1, d2, d3, d4, d5, d6, d7, d8, d9, d10, d11, d12, d13, d14⟩ := nv15 HPC.out
    obtain ⟨z0, z1, z2, z3, z4, z5, z6, z7, z8, z9, z10, z11, z12, z13, z14⟩ := nv15 HSC.out.hj
    have fz : ∀ q, wc.frozen? ⟨w.heap.size + 1, q, none⟩ = false := fun q => HSC.out.frozen q
    go_wp2
    obtain ⟨y0, y1, y2, y3, y4, y5, y6, y7, y8, y9, y10, y11, y12, y13, y14⟩ := nv15 (setI_heap HSC.out.hj (constI i.dst x.n))
    rw [HE.out.1, HE.out.2]
    exact bodyPost_ret (v := .tuple #[inV (constI i.dst x.n), .bool true]) (by simp [results, Try.results81, go_sem, y0, y1, y2, y3, y4, y5, y6, y7, y8, y9, y10, y11, y12, y13, y14] <;> rfl) rfl ⟨rfl, setI_below HSC.out.hb (by omega) _⟩
set_option maxHeartbeats 8000000 in
theorem fold_n4 (i : Ins) (b : Nat) (v : List Val) (x : Val) (w : World) (HS0 : Hid (FSt w ((w.alloc (inO i)).alloc (inO zeroIns)) i zeroIns b v)) (HRE : Hid (∀ V, LsAt V V.heap.size b v → Calls Try.prog 109 #[inV i, lsV b] V (RPost (vlV x) V))) (HE : Hid (foldI i v = i ∧ foldIs i v = false)) (t1 : ((x.kind : Int) == 1) = false) (t2 : ((i.kind : Int) == 2) = false) (t3 : ((i.kind : Int) == 3) = false) (t4 : ((i.kind : Int) == 4) = true) :
    Calls Try.prog 81 #[inV i, lsV b] w (FlPost (foldI i v) (foldIs i v) w) := by
  obtain ⟨c0, c1, c2, c3, c4, c5, c6, c7, c8, c9, c10, c11, c12, c13, c14⟩ := nv15 HS0.out.hi
  go_enter Try.func81, Try.ntmps81
  go_wp2_with ((with_reducible refine (HRE.out _ HS0.out.lsz).mono ?_); rintro e w2 ⟨rfl, hb2⟩; have HS3 := Lib.hid ((HS0.out.below hb2).below ((Below.refl _ w2).alloc (Nat.le_refl _) (vlO x))); have hvx := nv2 (heap_alloc_new w2 (vlO x)); clear hb2 c0 c1 c2 c3 c4 c5 c6 c7 c8 c9 c10 c11 c12 c13 c14; obtain ⟨c0, c1, c2, c3, c4, c5, c6, c7, c8, c9, c10, c11, c12, c13, c14⟩ := nv15 HS3.out.hi; obtain ⟨u0, u1⟩ := hvx; obtain ⟨z0, z1, z2, z3, z4, z5, z6, z7, z8, z9, z10, z11, z12, z13, z14⟩ := nv15 HS3.out.hj; have fz : ∀ q, (w2.alloc (vlO x)).frozen? ⟨w.heap.size + 1, q, none⟩ = false := (fun q => HS3.out.frozen q))
  obtain ⟨y0, y1, y2, y3, y4, y5, y6, y7, y8, y9, y10, y11, y12, y13, y14⟩ := nv15 (setI_heap HS3.out.hj (i))
  rw [HE.out.1, HE.out.2]
  exact bodyPost_ret (v := .tuple #[inV (i), .bool false]) (by simp [results, Try.results81, go_sem, y0, y1, y2, y3, y4, y5, y6, y7, y8, y9, y10, y11, y12, y13, y14] <;> rfl) rfl ⟨rfl, setI_below HS3.out.hb (by omega) _⟩
end Go.Proofs.Ytpajndeongcjbaa
