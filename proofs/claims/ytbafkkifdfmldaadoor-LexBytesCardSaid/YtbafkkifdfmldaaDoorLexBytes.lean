/-
  The walk of LexBytes.
-/
import Derived.Test.YtbafkkifdfmldaaDoorRefScan
import Derived.Test.YtbafkkifdfmldaaDoorSame
import Derived.Laws.BytesArg
namespace Go.Proofs.YtbafkkifdfmldaaDoor.lexBytes
open Go.RowKit Sp
set_option linter.unusedVariables false

def oneOk (c : UInt8) : Bool :=
  match Sp.scan [c] with
  | .error _ => true
  | .ok ts => ts.length == 1 || (ts.length == 2 && (ts[0]?.map (·.text)) == some [c])
theorem one_all : ∀ n, n < 256 → oneOk (UInt8.ofNat n) = true := by decide +kernel
theorem one_any (c : UInt8) : oneOk c = true := by
  have := one_all c.toNat c.toNat_lt
  rwa [UInt8.ofNat_toNat] at this
theorem one_ok {c : UInt8} {ts : List Tok} (h : Sp.scan [c] = .ok ts) : ts.length = 1 ∨ (ts.length = 2 ∧ ∃ t, ts[0]? = some t ∧ t.text = [c]) := by
  have := one_any c
  unfold oneOk at this
  rw [h] at this
  simp only [Bool.or_eq_true, Bool.and_eq_true, beq_iff_eq] at this
  rcases this with h1 | ⟨h1, h2⟩
  · exact .inl h1
  · refine .inr ⟨h1, ?_⟩
    cases ht : ts[0]? with
    | none => rw [ht] at h2; simp at h2
    | some t => rw [ht] at h2; exact ⟨t, rfl, by simpa using h2⟩
set_option maxHeartbeats 4000000 in
set_option maxRecDepth 100000 in
theorem walk (a0 : Int) (_w0 : (Lit.int .u8 a0).wf = true) (w : World) (henv : Env w) :
    Calls Tryd.prog 9 #[.int .u8 a0] w fun e w' => e = .returned (.bool true) ∧ Below w.heap.size w w' := by
  have HB0 : Hid (Below w.heap.size w (w.alloc (.cells #[.int .u8 a0] 5))) := Lib.hid ((Below.refl _ _).alloc (Nat.le_refl _) _)
  have HE : Hid (Env (w.alloc (.cells #[.int .u8 a0] 5))) := Lib.hid (henv.below HB0.out henv.sz)
  clear henv
  have hconv : (convert 38 9 (.slice (some ⟨w.heap.size, 0, none⟩) 1 1)).run Tryd.prog (w.alloc (.cells #[.int .u8 a0] 5)) = .ok (.string (strOfNums [a0])) (w.alloc (.cells #[.int .u8 a0] 5)) :=
    run_convert_bytes_arg _ 38 5 Tryd.underlying38 Tryd.underlying5 w.heap.size 0 1 1 [a0] rfl (fun i hi => by
      obtain rfl : i = 0 := by omega
      rw [cell_of_row _ _ _ _ _ _ (heap_alloc_new w _)]; rfl) 9 Tryd.underlying9
  obtain ⟨x, hx⟩ : ∃ x, strOfNums [a0] = x := ⟨_, rfl⟩
  rw [hx] at hconv
  have hxl : x.data.toList = [UInt8.ofNat a0.toNat] := by rw [← hx]; rfl
  have hxs : x.size = 1 := by rw [← hx]; rfl
  have HM : Hid (x.size ≤ maxLen) := Lib.hid (by rw [hxs]; decide)
  clear hx
  obtain ⟨W, hW⟩ : ∃ W, w.alloc (.cells #[.int .u8 a0] 5) = W := ⟨_, rfl⟩
  rw [hW] at hconv HB0 HE
  have hz0 := HB0.out.size
  cases hsc : Sp.scan x.data.toList with
  | error r =>
    obtain ⟨p, r⟩ := r
    have HSC := Lib.hid hsc
    have hr := scan_code hsc
    have hne : ((r : Int) != 0) = true := by simp; omega
    clear hsc hxl hr
    go_enter Tryd.func9, Tryd.ntmps9
    go_wp2_with (first | ((with_reducible refine (scan_err _ p r _ HE.out HM.out HSC.out).mono ?_); rintro e w1 ⟨rfl, hb⟩; have HB := Lib.hid (HB0.out.trans (hb.mono hz0)); have HE1 : Hid (Env w1) := Lib.hid (HE.out.below hb HE.out.sz); clear hb) | ((with_reducible refine (r_scan_err _ p r _ HM.out HSC.out).mono ?_); rintro e w2 ⟨rfl, hb2⟩; have HB2 := Lib.hid (HB.out.trans (hb2.mono HB.out.size)); have HE2 : Hid (Env w2) := Lib.hid (HE1.out.below hb2 HE1.out.sz); clear hb2) | ((with_reducible refine (same_nil _).mono ?_); rintro e w3 ⟨rfl, hb3⟩; have HB3 := Lib.hid (HB2.out.trans (hb3.mono HB2.out.size)); have HE3 : Hid (Env w3) := Lib.hid (HE2.out.below hb3 HE2.out.sz); clear hb3) | ((with_reducible refine (awake_any _ HE3.out).mono ?_); rintro e w4 ⟨rfl, hb4⟩))
    go_ret
    exact ⟨rfl, HB3.out.trans (hb4.mono HB3.out.size)⟩
  | ok ts =>
    have HSC := Lib.hid hsc
    have hts : ts.length ≤ 8193 := scan_few hsc
    have hone := one_ok (by rw [hxl] at hsc; exact hsc)
    clear hsc
    rcases hone with h1 | ⟨h2, t, ht0, htx⟩
    · have HTS := Lib.hid hts
      clear hxl hts
      go_enter Tryd.func9, Tryd.ntmps9
      go_wp2_with (first | ((with_reducible refine (scan_ok _ ts _ HE.out HM.out HSC.out).mono ?_); rintro e w1 ⟨g, cap, rfl, ht, hb⟩; have HT := Lib.hid ht; have HB := Lib.hid (HB0.out.trans (hb.mono hz0)); have HE1 : Hid (Env w1) := Lib.hid (HE.out.below hb HE.out.sz); clear ht hb) | ((with_reducible refine (r_scan_ok _ ts _ HM.out HSC.out).mono ?_); rintro e w2 ⟨g2, cap2, rfl, ht2, hb2⟩; have HT2 := Lib.hid ht2; have HT1 := Lib.hid (HT.out.below hb2 (Nat.le_refl _)); have HB2 := Lib.hid (HB.out.trans (hb2.mono HB.out.size)); have HE2 : Hid (Env w2) := Lib.hid (HE1.out.below hb2 HE1.out.sz); clear ht2 hb2) | ((with_reducible refine (same_true g cap _ g2 cap2 _ ts _ 1 1 HT1.out HT2.out HTS.out h1 h1).mono ?_); rintro e w3 ⟨rfl, hb3⟩; have HB3 := Lib.hid (HB2.out.trans (hb3.mono HB2.out.size)); have HE3 : Hid (Env w3) := Lib.hid (HE2.out.below hb3 HE2.out.sz); clear hb3) | ((with_reducible refine (awake_any _ HE3.out).mono ?_); rintro e w4 ⟨rfl, hb4⟩))
      go_ret
      exact ⟨rfl, HB3.out.trans (hb4.mono HB3.out.size)⟩
    · have HTS := Lib.hid hts
      have hxe : ((bs t.text).toList == x.toList) = true := by rw [ByteArray.toList_eq, ByteArray.toList_eq, htx, hxl]; simp [bs]
      have HT0 := Lib.hid ht0
      clear hxl hts htx ht0
      go_enter Tryd.func9, Tryd.ntmps9
      go_wp2_with (first | ((with_reducible refine (scan_ok _ ts _ HE.out HM.out HSC.out).mono ?_); rintro e w1 ⟨g, cap, rfl, ht, hb⟩; have HT := Lib.hid ht; have HB := Lib.hid (HB0.out.trans (hb.mono hz0)); have HE1 : Hid (Env w1) := Lib.hid (HE.out.below hb HE.out.sz); clear ht hb) | ((with_reducible refine (r_scan_ok _ ts _ HM.out HSC.out).mono ?_); rintro e w2 ⟨g2, cap2, rfl, ht2, hb2⟩; have HT2 := Lib.hid ht2; have HT1 := Lib.hid (HT.out.below hb2 (Nat.le_refl _)); have HB2 := Lib.hid (HB.out.trans (hb2.mono HB.out.size)); have HE2 : Hid (Env w2) := Lib.hid (HE1.out.below hb2 HE1.out.sz); clear ht2 hb2) | ((with_reducible refine (same_true g cap _ g2 cap2 _ ts _ 2 2 HT1.out HT2.out HTS.out h2 h2).mono ?_); rintro e w3 ⟨rfl, hb3⟩; obtain ⟨_, a1, _, _⟩ := (HT1.out.below hb3 (Nat.le_refl _)).at HT0.out; have HB3 := Lib.hid (HB2.out.trans (hb3.mono HB2.out.size)); have HE3 : Hid (Env w3) := Lib.hid (HE2.out.below hb3 HE2.out.sz); clear hb3) | ((with_reducible refine (awake_any _ HE3.out).mono ?_); rintro e w4 ⟨rfl, hb4⟩))
      go_ret
      exact ⟨rfl, HB3.out.trans (hb4.mono HB3.out.size)⟩
end Go.Proofs.YtbafkkifdfmldaaDoor.lexBytes
