/-
  Layer 11: contract of fold: a Branch.
  Layer 11: contract of fold: the other kinds.
  Layer 11: contract of fold: all.
-/
import Derived.Test.YtpajndeongcjbaaQG11FoldH
import Derived.Test.YtpajndeongcjbaaQLK
namespace Go.Proofs.Ytpajndeongcjbaa
set_option maxRecDepth 100000
open Go.RowKit Cd
set_option linter.unusedVariables false
set_option linter.unusedSimpArgs false
set_option maxHeartbeats 8000000 in
theorem fold_b0 (i : Ins) (b : Nat) (v : List Val) (d : Int) (w : World) (HS0 : Hid (FSt w ((w.alloc (inO i)).alloc (inO zeroIns)) i zeroIns b v)) (HCH : Hid (∀ V, LsAt V V.heap.size b v → Calls Try.prog 112 #[inV i, lsV b] V (ChPost (d, false) V))) (HE : Hid (foldI i v = i ∧ foldIs i v = false)) (t2 : ((i.kind : Int) == 2) = false) (t3 : ((i.kind : Int) == 3) = false) (t4 : ((i.kind : Int) == 4) = false) (t12 : ((i.kind : Int) == 12) = true) :
    Calls Try.prog 81 #[inV i, lsV b] w (FlPost (foldI i v) (foldIs i v) w) := by
  obtain ⟨c0, c1, c2, c3, c4, c5, c6, c7, c8, c9, c10, c11, c12, c13, c14⟩ := nv15 HS0.out.hi
  go_enter Try.func81, Try.ntmps81
  go_wp2_with ((with_reducible refine (HCH.out _ HS0.out.lsz).mono ?_); rintro e w2 ⟨rfl, hb2⟩; have HS3 := Lib.hid (HS0.out.below hb2); clear hb2 c0 c1 c2 c3 c4 c5 c6 c7 c8 c9 c10 c11 c12 c13 c14; obtain ⟨c0, c1, c2, c3, c4, c5, c6, c7, c8, c9, c10, c11, c12, c13, c14⟩ := nv15 HS3.out.hi; obtain ⟨z0, z1, z2, z3, z4, z5, z6, z7, z8, z9, z10, z11, z12, z13, z14⟩ := nv15 HS3.out.hj; have fz : ∀ q, w2.frozen? ⟨w.heap.size + 1, q, none⟩ = false := (fun q => HS3.out.frozen q))
  obtain ⟨y0, y1, y2, y3, y4, y5, y6, y7, y8, y9, y10, y11, y12, y13, y14⟩ := nv15 (setI_heap HS3.out.hj (i))
  rw [HE.out.1, HE.out.2]
  exact bodyPost_ret (v := .tuple #[inV (i), .bool false]) (by simp [results, Try.results81, go_sem, y0, y1, y2, y3, y4, y5, y6, y7, y8, y9, y10, y11, y12, y13, y14] <;> rfl) rfl ⟨rfl, setI_below HS3.out.hb (by omega) _⟩
set_option maxHeartbeats 8000000 in
theorem fold_b1 (i : Ins) (b : Nat) (v : List Val) (d : Int) (w : World) (HS0 : Hid (FSt w ((w.alloc (inO i)).alloc (inO zeroIns)) i zeroIns b v)) (HCH : Hid (∀ V, LsAt V V.heap.size b v → Calls Try.prog 112 #[inV i, lsV b] V (ChPost (d, true) V))) (HE : Hid (foldI i v = jumpI d ∧ foldIs i v = true)) (t2 : ((i.kind : Int) == 2) = false) (t3 : ((i.kind : Int) == 3) = false) (t4 : ((i.kind : Int) == 4) = false) (t12 : ((i.kind : Int) == 12) = true) :
    Calls Try.prog 81 #[inV i, lsV b] w (FlPost (foldI i v) (foldIs i v) w) := by
  obtain ⟨c0, c1, c2, c3, c4, c5, c6, c7, c8, c9, c10, c11, c12, c13, c14⟩ := nv15 HS0.out.hi
  go_enter Try.func81, Try.ntmps81
  go_upto_region 14 with (first | ((with_reducible refine (HCH.out _ HS0.out.lsz).mono ?_); rintro e w2 ⟨rfl, hb2⟩; have HS2 := Lib.hid (HS0.out.below hb2); clear hb2 c0 c1 c2 c3 c4 c5 c6 c7 c8 c9 c10 c11 c12 c13 c14; obtain ⟨c0, c1, c2, c3, c4, c5, c6, c7, c8, c9, c10, c11, c12, c13, c14⟩ := nv15 HS2.out.hi) | ((with_reducible refine (cplain_any _ _).mono ?_); rintro e w3 ⟨rfl, hb3⟩; have HB3 := Lib.hid hb3; clear hb3))
  obtain ⟨p, hp⟩ : ∃ p, w3.heap.size = p := ⟨_, rfl⟩
  have HB5 : Hid (Below w3.heap.size w3 (w3.alloc (inO (plainI 11)))) := Lib.hid ((Below.refl _ _).alloc (Nat.le_refl _) _)
  have HS5 := Lib.hid ((HS2.out.below HB3.out).below HB5.out)
  have hpx : (w3.alloc (inO (plainI 11))).heap[p]? = some (inO (plainI 11)) := by rw [← hp]; exact heap_alloc_new w3 _
  have hpw : w.heap.size + 2 ≤ p := by rw [← hp]; have := HS2.out.lt; have := HB3.out.size; omega
  obtain ⟨W5, hW5⟩ : ∃ W, w3.alloc (inO (plainI 11)) = W := ⟨_, rfl⟩
  rw [hW5] at HS5 hpx
  have HP := Lib.hid hpx
  obtain ⟨d0, d1, d2, d3, d4, d5, d6, d7, d8, d9, d10, d11, d12, d13, d14⟩ := nv15 hpx
  have fp : ∀ q, W5.frozen? ⟨p, q, none⟩ = false := fun q => by simp [World.frozen?, hpx]
  rw [hW5, hp]
  clear c0 c1 c2 c3 c4 c5 c6 c7 c8 c9 c10 c11 c12 c13 c14 hpx HB5 HB3 HS2 hp hW5
  go_cut [] from 41 to 42 (fun wc => Hid (wc.heap[p]? = some (inO (jumpI d))) ∧ Hid (FSt w wc i zeroIns b v))
  case first =>
    go_wp2
    go_meet
    case rel => exact ⟨Lib.hid (jump_set HP.out d), Lib.hid (HS5.out.put (by omega) 13 _)⟩
  case rest =>
    obtain ⟨HPC, HSC⟩ := hcut
    clear d0 d1 d2 d3 d4 d5 d6 d7 d8 d9 d10 d11 d12 d13 d14 fp
    obtain ⟨d0, d1, d2, d3, d4, d5, d6, d7, d8, d9, d10, d11, d12, d13, d14⟩ := nv15 HPC.out
    obtain ⟨z0, z1, z2, z3, z4, z5, z6, z7, z8, z9, z10, z11, z12, z13, z14⟩ := nv15 HSC.out.hj
    have fz : ∀ q, wc.frozen? ⟨w.heap.size + 1, q, none⟩ = false := (fun q => HSC.out.frozen q)
    go_wp2
    obtain ⟨y0, y1, y2, y3, y4, y5, y6, y7, y8, y9, y10, y11, y12, y13, y14⟩ := nv15 (setI_heap HSC.out.hj (jumpI d))
    rw [HE.out.1, HE.out.2]
    exact bodyPost_ret (v := .tuple #[inV (jumpI d), .bool true]) (by simp [results, Try.results81, go_sem, y0, y1, y2, y3, y4, y5, y6, y7, y8, y9, y10, y11, y12, y13, y14] <;> rfl) rfl ⟨rfl, setI_below HSC.out.hb (by omega) _⟩
end Go.Proofs.Ytpajndeongcjbaa
namespace Go.Proofs.Ytpajndeongcjbaa
set_option maxRecDepth 100000
open Go.RowKit Cd
set_option linter.unusedVariables false
set_option linter.unusedSimpArgs false
set_option maxHeartbeats 8000000 in
theorem fold_o (i : Ins) (b : Nat) (v : List Val) (w : World) (HS0 : Hid (FSt w ((w.alloc (inO i)).alloc (inO zeroIns)) i zeroIns b v)) (HE : Hid (foldI i v = i ∧ foldIs i v = false)) (t2 : ((i.kind : Int) == 2) = false) (t3 : ((i.kind : Int) == 3) = false) (t4 : ((i.kind : Int) == 4) = false) (t12 : ((i.kind : Int) == 12) = false) :
    Calls Try.prog 81 #[inV i, lsV b] w (FlPost (foldI i v) (foldIs i v) w) := by
  obtain ⟨c0, c1, c2, c3, c4, c5, c6, c7, c8, c9, c10, c11, c12, c13, c14⟩ := nv15 HS0.out.hi
  go_enter Try.func81, Try.ntmps81
  go_wp2
  obtain ⟨h1, h2, h3, _⟩ := two_new w (inO i) (inO i)
  obtain ⟨W, hW⟩ : ∃ W, (w.alloc (inO i)).alloc (inO i) = W := ⟨_, rfl⟩
  rw [hW]
  rw [hW] at h2 h3
  obtain ⟨y0, y1, y2, y3, y4, y5, y6, y7, y8, y9, y10, y11, y12, y13, y14⟩ := nv15 h2
  rw [HE.out.1, HE.out.2]
  clear hW h1 h2 c0 c1 c2 c3 c4 c5 c6 c7 c8 c9 c10 c11 c12 c13 c14 HS0
  exact bodyPost_ret (v := .tuple #[inV i, .bool false]) (by simp [results, Try.results81, go_sem, y0, y1, y2, y3, y4, y5, y6, y7, y8, y9, y10, y11, y12, y13, y14] <;> rfl) rfl ⟨rfl, h3⟩
end Go.Proofs.Ytpajndeongcjbaa
namespace Go.Proofs.Ytpajndeongcjbaa
set_option maxRecDepth 100000
open Go.RowKit Cd
set_option linter.unusedVariables false
set_option linter.unusedSimpArgs false
theorem fold_c (i : Ins) (b : Nat) (v : List Val) (w : World) (hL : LsAt w w.heap.size b v) (hR : RegIn i v) (h20 : OneOk i) (hf : fullV v) :
    Calls Try.prog 81 #[inV i, lsV b] w (FlPost (foldI i v) (foldIs i v) w) := by
  have HS0 := Lib.hid (FSt.new w i b v hL)
  by_cases h234 : i.kind = 2 ∨ i.kind = 3 ∨ i.kind = 4
  · obtain ⟨x, hx⟩ : ∃ x, (behV i v).getD ⟨2, 0⟩ = x := ⟨_, rfl⟩
    have HRE : Hid (∀ V, LsAt V V.heap.size b v → Calls Try.prog 109 #[inV i, lsV b] V (RPost (vlV x) V)) := Lib.hid (fun V hV => result_c i b v V hV hR h20 x hx)
    have hfo := fold_234 hf h234 hx
    by_cases hx1 : x.kind = 1
    · have t1 : ((x.kind : Int) == 1) = true := by simpa using hx1
      rcases h234 with h | h | h
      · exact fold_k2 i b v x w HS0 HRE (Lib.hid (hfo.1 hx1)) t1 (by simpa using h)
      · exact fold_k3 i b v x w HS0 HRE (Lib.hid (hfo.1 hx1)) t1 (by simp; omega) (by simpa using h)
      · exact fold_k4 i b v x w HS0 HRE (Lib.hid (hfo.1 hx1)) t1 (by simp; omega) (by simp; omega) (by simpa using h)
    · have t1 : ((x.kind : Int) == 1) = false := by simpa using hx1
      rcases h234 with h | h | h
      · exact fold_n2 i b v x w HS0 HRE (Lib.hid (hfo.2 hx1)) t1 (by simpa using h)
      · exact fold_n3 i b v x w HS0 HRE (Lib.hid (hfo.2 hx1)) t1 (by simp; omega) (by simpa using h)
      · exact fold_n4 i b v x w HS0 HRE (Lib.hid (hfo.2 hx1)) t1 (by simp; omega) (by simp; omega) (by simpa using h)
  · have t2 : ((i.kind : Int) == 2) = false := by simp; omega
    have t3 : ((i.kind : Int) == 3) = false := by simp; omega
    have t4 : ((i.kind : Int) == 4) = false := by simp; omega
    by_cases h12 : i.kind = 12
    · have ha := hR.1 i.a (by unfold uses readsA; simp [h12])
      obtain ⟨d, q, hch⟩ : ∃ d q, choV i v = (d, q) := ⟨_, _, rfl⟩
      have hfo := fold_12 hf h12 hch
      cases q with
      | true => exact fold_b1 i b v d w HS0 (Lib.hid (fun V hV => hch ▸ chosen_c i b v V hV ha)) (Lib.hid hfo) t2 t3 t4 (by simpa using h12)
      | false => exact fold_b0 i b v d w HS0 (Lib.hid (fun V hV => hch ▸ chosen_c i b v V hV ha)) (Lib.hid (by simpa using hfo)) t2 t3 t4 (by simpa using h12)
    · exact fold_o i b v w HS0 (Lib.hid (fold_other h234 h12)) t2 t3 t4 (by simpa using h12)
end Go.Proofs.Ytpajndeongcjbaa
