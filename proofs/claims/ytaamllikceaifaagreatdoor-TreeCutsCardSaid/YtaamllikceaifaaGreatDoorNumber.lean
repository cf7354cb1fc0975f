/-
  The contract of lex's number.
-/
import Derived.Test.YtaamllikceaifaaGreatDoorNumberB
namespace Go.Proofs.YtaamllikceaifaaGreatDoor
open Go.RowKit Sp

theorem suffix_last (c : UInt8) (l : List UInt8) : [c].isSuffixOf l = (l.getLast? == some c) := by
  rw [Bool.eq_iff_iff, List.isSuffixOf_iff_suffix]
  constructor
  · rintro ⟨t, rfl⟩
    simp
  · intro h
    have h : l.getLast? = some c := by simpa using h
    rw [List.getLast?_eq_some_iff] at h
    obtain ⟨t, ht⟩ := h
    exact ⟨t, ht.symm⟩
theorem valFrom_le (b : Nat) : ∀ (l : List UInt8) (acc v : Nat), acc ≤ 4294967295 → valFrom b acc l = some v → v ≤ 4294967295
  | [], acc, v, h, hv => by simp [valFrom] at hv; omega
  | c :: t, acc, v, h, hv => by
    unfold valFrom at hv
    split at hv
    · split at hv
      · rename_i h2
        exact valFrom_le b t _ v h2 hv
      · simp at hv
    · simp at hv
theorem val_le {b : Nat} {l : List UInt8} {v : Nat} (h : val b l = some v) : v ≤ 4294967295 := by
  unfold val at h
  split at h
  · simp at h
  · exact valFrom_le b l 0 v (by omega) h
theorem size_list (s : ByteArray) : s.size = s.data.toList.length := by simp
theorem number_any (s : ByteArray) (w : World) (henv : Env w) (hs : s.size ≤ 32768) :
    Calls Tryz.prog 45 #[.string s] w (NumPost s.data.toList w) := by
  have hns : (lets s.data.toList).length ≤ s.size := by have := lets_le s.data.toList; simpa using this
  obtain ⟨d, hd⟩ : ∃ d, s.extract 0 (lets s.data.toList).length = d := ⟨_, rfl⟩
  have hdl : d.data.toList = lets s.data.toList := by rw [← hd, ext_to, take_lets]
  have hdsz : d.size = (lets s.data.toList).length := by rw [size_list, hdl]
  have hd2 : d.size ≤ 32768 := by omega
  -- the rest behind 0x
  obtain ⟨e, he⟩ : ∃ e, d.extract 2 d.size = e := ⟨_, rfl⟩
  have hel : e.data.toList = (lets s.data.toList).drop 2 := by rw [← he, ext_from, hdl]
  have hesz : e.size = (lets s.data.toList).length - 2 := by rw [size_list, hel]; simp
  have he2 : e.size ≤ 32768 := by omega
  -- the texts without their last byte
  obtain ⟨g, hg⟩ : ∃ g, e.extract 0 (e.size - 1) = g := ⟨_, rfl⟩
  have hgl : g.data.toList = e.data.toList.dropLast := by rw [← hg, ext_to, List.dropLast_eq_take, size_list]
  have hg2 : g.size ≤ 32768 := by rw [size_list, hgl, List.length_dropLast, ← size_list]; omega
  obtain ⟨g', hg'⟩ : ∃ g, d.extract 0 (d.size - 1) = g := ⟨_, rfl⟩
  have hgl' : g'.data.toList = d.data.toList.dropLast := by rw [← hg', ext_to, List.dropLast_eq_take, size_list]
  have hg2' : g'.size ≤ 32768 := by rw [size_list, hgl', List.length_dropLast, ← size_list]; omega
  have last1 : ∀ (x : ByteArray) (c : UInt8), [c].isSuffixOf x.data.toList = true → 1 ≤ x.size := fun x c h => by
    rw [suffix_last] at h
    cases hx : x.data.toList with
    | nil => rw [hx] at h; simp at h
    | cons a t => rw [size_list, hx]; simp
  have hex (hP : isHexP (lets s.data.toList) = true) : value (lets s.data.toList) = val 16 (unU e.data.toList) := by unfold value; rw [if_pos hP, hel]
  have dec (hP : isHexP (lets s.data.toList) = false) : value (lets s.data.toList) = val 10 (unU d.data.toList) := by unfold value; rw [hP, if_neg (by simp), hdl]
  have u1 : ∀ (x : ByteArray), [117].isSuffixOf x.data.toList = true → unU x.data.toList = x.data.toList.dropLast := fun x h => by
    unfold unU isU; rw [suffix_last] at h; rw [h]; simp
  have u2 : ∀ (x : ByteArray), [85].isSuffixOf x.data.toList = true → unU x.data.toList = x.data.toList.dropLast := fun x h => by
    unfold unU isU; rw [suffix_last] at h; rw [h]; simp
  have u3 : ∀ (x : ByteArray), [117].isSuffixOf x.data.toList = false → [85].isSuffixOf x.data.toList = false → unU x.data.toList = x.data.toList := fun x h h' => by
    unfold unU isU; rw [suffix_last] at h h'; rw [h, h']; simp
  have two : ∀ (c : UInt8), [48, c].isPrefixOf d.data.toList = true → 2 ≤ d.size := fun c h => by
    have := (List.isPrefixOf_iff_prefix.1 h).length_le
    rw [size_list]; simpa using this
  cases hA : [48, 120].isPrefixOf d.data.toList with
  | true =>
    have hV := hex (by unfold isHexP; rw [← hdl, hA]; rfl)
    have h2 := two _ hA
    cases hB : [117].isSuffixOf e.data.toList with
    | true =>
      rw [u1 e hB, ← hgl] at hV
      cases hr : val 16 g.data.toList with
      | some v => exact number_xuy s _ w henv hs rfl hns d e g hd hA h2 he he2 hB (last1 _ _ hB) hg hg2 v (val_le hr) hr (hV.trans hr)
      | none => exact number_xub s _ w henv hs rfl hns d e g hd hA h2 he he2 hB (last1 _ _ hB) hg hg2 hr (hV.trans hr)
    | false =>
      cases hB2 : [85].isSuffixOf e.data.toList with
      | true =>
        rw [u2 e hB2, ← hgl] at hV
        cases hr : val 16 g.data.toList with
        | some v => exact number_xUy s _ w henv hs rfl hns d e g hd hA h2 he he2 hB hB2 (last1 _ _ hB2) hg hg2 v (val_le hr) hr (hV.trans hr)
        | none => exact number_xUb s _ w henv hs rfl hns d e g hd hA h2 he he2 hB hB2 (last1 _ _ hB2) hg hg2 hr (hV.trans hr)
      | false =>
        rw [u3 e hB hB2] at hV
        cases hr : val 16 e.data.toList with
        | some v => exact number_xny s _ w henv hs rfl hns d e g hd hA h2 he he2 hB hB2 v (val_le hr) hr (hV.trans hr)
        | none => exact number_xnb s _ w henv hs rfl hns d e g hd hA h2 he he2 hB hB2 hr (hV.trans hr)
  | false =>
    cases hA2 : [48, 88].isPrefixOf d.data.toList with
    | true =>
      have hV := hex (by unfold isHexP; rw [← hdl, hA2]; simp)
      have h2 := two _ hA2
      cases hB : [117].isSuffixOf e.data.toList with
      | true =>
        rw [u1 e hB, ← hgl] at hV
        cases hr : val 16 g.data.toList with
        | some v => exact number_Xuy s _ w henv hs rfl hns d e g hd hA hA2 h2 he he2 hB (last1 _ _ hB) hg hg2 v (val_le hr) hr (hV.trans hr)
        | none => exact number_Xub s _ w henv hs rfl hns d e g hd hA hA2 h2 he he2 hB (last1 _ _ hB) hg hg2 hr (hV.trans hr)
      | false =>
        cases hB2 : [85].isSuffixOf e.data.toList with
        | true =>
          rw [u2 e hB2, ← hgl] at hV
          cases hr : val 16 g.data.toList with
          | some v => exact number_XUy s _ w henv hs rfl hns d e g hd hA hA2 h2 he he2 hB hB2 (last1 _ _ hB2) hg hg2 v (val_le hr) hr (hV.trans hr)
          | none => exact number_XUb s _ w henv hs rfl hns d e g hd hA hA2 h2 he he2 hB hB2 (last1 _ _ hB2) hg hg2 hr (hV.trans hr)
        | false =>
          rw [u3 e hB hB2] at hV
          cases hr : val 16 e.data.toList with
          | some v => exact number_Xny s _ w henv hs rfl hns d e g hd hA hA2 h2 he he2 hB hB2 v (val_le hr) hr (hV.trans hr)
          | none => exact number_Xnb s _ w henv hs rfl hns d e g hd hA hA2 h2 he he2 hB hB2 hr (hV.trans hr)
    | false =>
      have hV := dec (by unfold isHexP; rw [← hdl, hA, hA2]; rfl)
      cases hB : [117].isSuffixOf d.data.toList with
      | true =>
        rw [u1 d hB, ← hgl'] at hV
        cases hr : val 10 g'.data.toList with
        | some v => exact number_nuy s _ w henv hs rfl hns d e g' hd hA hA2 hd2 hB (last1 _ _ hB) hg' hg2' v (val_le hr) hr (hV.trans hr)
        | none => exact number_nub s _ w henv hs rfl hns d e g' hd hA hA2 hd2 hB (last1 _ _ hB) hg' hg2' hr (hV.trans hr)
      | false =>
        cases hB2 : [85].isSuffixOf d.data.toList with
        | true =>
          rw [u2 d hB2, ← hgl'] at hV
          cases hr : val 10 g'.data.toList with
          | some v => exact number_nUy s _ w henv hs rfl hns d e g' hd hA hA2 hd2 hB hB2 (last1 _ _ hB2) hg' hg2' v (val_le hr) hr (hV.trans hr)
          | none => exact number_nUb s _ w henv hs rfl hns d e g' hd hA hA2 hd2 hB hB2 (last1 _ _ hB2) hg' hg2' hr (hV.trans hr)
        | false =>
          rw [u3 d hB hB2] at hV
          cases hr : val 10 d.data.toList with
          | some v => exact number_nny s _ w henv hs rfl hns d e g hd hA hA2 hd2 hB hB2 v (val_le hr) hr (hV.trans hr)
          | none => exact number_nnb s _ w henv hs rfl hns d e g hd hA hA2 hd2 hB hB2 hr (hV.trans hr)
theorem number_yes (s : ByteArray) (v : Nat) (w : World) (henv : Env w) (hs : s.size ≤ 32768) (h : value (lets s.data.toList) = some v) :
    Calls Tryz.prog 45 #[.string s] w fun e w' => e = .returned (.tuple #[pieceV 3 (lets s.data.toList).length v, .int .i64 0]) ∧ Below w.heap.size w w' :=
  (number_any s w henv hs).mono fun e w' ⟨he, hw⟩ => ⟨by rw [he, numV_some h], hw⟩
theorem number_no (s : ByteArray) (w : World) (henv : Env w) (hs : s.size ≤ 32768) (h : value (lets s.data.toList) = none) :
    Calls Tryz.prog 45 #[.string s] w fun e w' => e = .returned (.tuple #[pieceV 0 0 0, .int .i64 3]) ∧ Below w.heap.size w w' :=
  (number_any s w henv hs).mono fun e w' ⟨he, hw⟩ => ⟨by rw [he, numV_none h], hw⟩
end Go.Proofs.YtaamllikceaifaaGreatDoor
