/-
  A step, whatever it is; the law's Few.
-/
import Derived.Test.YtemnlkgjgalipaaDoorDoesB
namespace Go.Proofs.YtemnlkgjgalipaaDoor
open Go.RowKit Go.Maps Tp
set_option linter.unusedVariables false

/-- A step as it comes in. -/
structure DoR where
  vb : Int
  el : Int
  n : Int
  nm : List UInt8
  l : List Fl
  fa : Option Addr
  fc : Nat
def doV (d : DoR) : List Value := [.int .i64 d.vb, .int .i64 d.el, .int .i64 d.n, .string (bs d.nm), .slice d.fa d.l.length d.fc]
structure DArg (w : World) (a : Option Addr) (ds : List DoR) : Prop where
  at_ : 0 < ds.length → ∃ b off, a = some ⟨b, off, none⟩ ∧ b < w.heap.size ∧ ∀ i d, ds[i]? = some d → ∀ j u, (doV d)[j]? = some u → w.cell? ⟨b, off + i * 5 + j, none⟩ = some u
  flds : ∀ d ∈ ds, FArg w d.fa d.l
theorem DArg.below {w w' : World} {a : Option Addr} {ds : List DoR} (h : DArg w a ds) (hb : Below w.heap.size w w') : DArg w' a ds := by
  refine ⟨fun hl => ?_, fun d hd => (h.flds d hd).below hb⟩
  obtain ⟨b, off, h1, h2, h3⟩ := h.at_ hl
  exact ⟨b, off, h1, by have := hb.size; omega, fun i d hi j u hu => (hb.cell (p := ⟨b, off + i * 5 + j, none⟩) h2).trans (h3 i d hi j u hu)⟩
def few1 (d : DoR) : Prop := d.nm.length ≤ 100 ∧ d.l.length ≤ 10 ∧ ∀ f ∈ d.l, f.1.length ≤ 100
instance (d : DoR) : Decidable (few1 d) := by unfold few1; infer_instance
def few (ds : List DoR) : Bool := decide ((∀ d ∈ ds, few1 d) ∧ ds.length ≤ 40)
theorem does_any {w : World} {B t : Nat} {v : Value} {T : Tab} {Y : List ((List UInt8 × List Fl) × Value)} {la da : Option Addr} {lc dc : Nat} (h : Both w B t v T Y la lc da dc) (d : DoR) (hY : Y.length ≤ 900) (hf : few1 d)
    (ha : FArg w d.fa d.l) (hap : 0 < d.l.length → ∀ b off, d.fa = some ⟨b, off, none⟩ → b ≠ t ∧ v.ownBlock ≠ some b) :
    Calls Tryd.prog 13 #[.pointer (some ⟨t, 0, none⟩), .agg #[.slice la T.length lc, .slice da Y.length dc], .agg #[.int .i64 d.vb, .int .i64 d.el, .int .i64 d.n, .string (bs d.nm), .slice d.fa d.l.length d.fc]] w (DoesPost B t v T Y w) := by
  obtain ⟨vb, el, n, nm, l, fa, fc⟩ := d
  obtain ⟨h1, h2, h3⟩ := hf
  simp only at h1 h2 h3 ha hap ⊢
  by_cases v0 : vb = 0
  · subst v0; exact does_pointer h el n nm _
  · by_cases v1 : vb = 1
    · subst v1; exact does_array h el n nm _ hY
    · by_cases v2 : vb = 2
      · subst v2; exact does_struct h el n nm _ h1
      · by_cases v3 : vb = 3
        · subst v3; exact does_define h el n nm l fa fc hY h1 h2 h3 ha hap
        · exact does_none h vb el n nm _ v0 v1 v2 v3
theorem few_bad {ds : List DoR} {d : DoR} (hd : d ∈ ds) (h : ¬ few1 d) : few ds = false := by
  unfold few
  exact decide_eq_false (fun e => h (e.1 d hd))
set_option maxHeartbeats 2000000 in
set_option maxRecDepth 100000 in
theorem few_any {w : World} {a : Option Addr} {cap : Nat} {ds : List DoR} (h : DArg w a ds) (hl : ds.length ≤ maxLen) (hb : ∀ d ∈ ds, d.nm.length ≤ maxLen ∧ d.l.length ≤ maxLen ∧ ∀ f ∈ d.l, f.1.length ≤ maxLen) :
    Calls Tryd.prog 9 #[.slice a ds.length cap] w fun e w' => e = .returned (.bool (few ds)) ∧ Below w.heap.size w w' := by
  unfold maxLen at hl hb
  have H := Lib.hid h
  have HBD := Lib.hid hb
  clear h hb
  go_enter Tryd.func9, Tryd.ntmps9
  go_wp2
  go_loopw [9] (fun s9 wr => ∃ k : Nat, k ≤ ds.length ∧ s9 = .int .i64 k ∧ Hid (∀ i d, i < k → ds[i]? = some d → few1 d) ∧ Hid (Below w.heap.size w wr)) (fun i wr => ds.length - (intOf i).toNat)
  case atStart => exact ⟨0, Nat.zero_le _, rfl, Lib.hid (fun i d h => by omega), Lib.hid (Below.refl _ _)⟩
  case round =>
    obtain ⟨k, hk, rfl, HF, HB⟩ := hrel
    by_cases hlt : k < ds.length
    · obtain ⟨d, hd⟩ : ∃ d, ds[k]? = some d := ⟨_, List.getElem?_eq_getElem hlt⟩
      have HD := Lib.hid hd
      have hmem := List.mem_of_getElem? hd
      have HM := Lib.hid hmem
      obtain ⟨b, off, rfl, hbl, hc⟩ := (H.out.below HB.out).at_ (by omega)
      have q0 : wr.cell? ⟨b, off + k * 5, none⟩ = some (.int .i64 d.vb) := hc k d hd 0 _ rfl
      have q1 : wr.cell? ⟨b, off + k * 5 + 1, none⟩ = some (.int .i64 d.el) := hc k d hd 1 _ rfl
      have q2 : wr.cell? ⟨b, off + k * 5 + 2, none⟩ = some (.int .i64 d.n) := hc k d hd 2 _ rfl
      have q3 : wr.cell? ⟨b, off + k * 5 + 3, none⟩ = some (.string (bs d.nm)) := hc k d hd 3 _ rfl
      have q4 : wr.cell? ⟨b, off + k * 5 + 4, none⟩ = some (.slice d.fa d.l.length d.fc) := hc k d hd 4 _ rfl
      obtain ⟨m1, m2, m3⟩ := HBD.out d hmem
      have HM3 := Lib.hid m3
      clear hd hmem hc m3
      by_cases h1 : 100 < d.nm.length
      · have HX := Lib.hid (few_bad HM.out (fun e => by have := e.1; omega))
        have b1 : decide ((100 : Int) < (d.nm.length : Int)) = true := by simp; omega
        go_wp2
        go_ret
        exact ⟨by rw [HX.out]; rfl, HB.out.trans ((Below.refl _ _).alloc HB.out.size _)⟩
      · have b1 : decide ((100 : Int) < (d.nm.length : Int)) = false := by simp; omega
        by_cases h2 : 10 < d.l.length
        · have HX := Lib.hid (few_bad HM.out (fun e => by have := e.2.1; omega))
          have b2 : decide ((10 : Int) < (d.l.length : Int)) = true := by simp; omega
          go_wp2
          go_ret
          exact ⟨by rw [HX.out]; rfl, HB.out.trans ((Below.refl _ _).alloc HB.out.size _)⟩
        · have b2 : decide ((10 : Int) < (d.l.length : Int)) = false := by simp; omega
          obtain ⟨wo, rfl⟩ : ∃ wo : World, wo = wr := ⟨_, rfl⟩
          go_wp2
          go_loopw [26] (fun s26 wr => ∃ m : Nat, m ≤ d.l.length ∧ s26 = .int .i64 m ∧ Hid (∀ i f, i < m → d.l[i]? = some f → f.1.length ≤ 100) ∧ Hid (Below wo.heap.size wo wr)) (fun i wr => d.l.length - (intOf i).toNat)
          case atStart => exact ⟨0, Nat.zero_le _, rfl, Lib.hid (fun i f h => by omega), Lib.hid ((Below.refl _ _).alloc (Nat.le_refl _) _)⟩
          case round =>
            obtain ⟨m, hm, rfl, HG, HBI⟩ := hrel
            have HBW := Lib.hid (HB.out.trans (HBI.out.mono HB.out.size))
            by_cases hm2 : m < d.l.length
            · obtain ⟨fn, ft, hf⟩ : ∃ fn ft, d.l[m]? = some (fn, ft) := ⟨_, _, List.getElem?_eq_getElem hm2⟩
              obtain ⟨gg, fo, hfa, hgl, hc0⟩ := ((H.out.flds d HM.out).below HBW.out) (by omega)
              rw [hfa]
              have r0 : wr.cell? ⟨gg, fo + m * 2, none⟩ = some (.string (bs fn)) := hc0 (m * 2 + 0) (.string (bs fn)) (by rw [flCells_at d.l m 0 _ hf (by omega)]; rfl)
              have r1 : wr.cell? ⟨gg, fo + m * 2 + 1, none⟩ = some (.int .i64 ft) := hc0 (m * 2 + 1) (.int .i64 ft) (by rw [flCells_at d.l m 1 _ hf (by omega)]; rfl)
              have m4 := HM3.out _ (List.mem_of_getElem? hf)
              simp only at m4
              have HFF := Lib.hid hf
              clear hf hc0
              by_cases h3 : 100 < fn.length
              · have HX := Lib.hid (few_bad HM.out (fun e => by have := e.2.2 _ (List.mem_of_getElem? HFF.out); simp only at this; omega))
                have b3 : decide ((100 : Int) < (fn.length : Int)) = true := by simp; omega
                go_wp2
                go_ret
                exact ⟨by rw [HX.out]; rfl, HBW.out.trans ((Below.refl _ _).alloc HBW.out.size _)⟩
              · have b3 : decide ((100 : Int) < (fn.length : Int)) = false := by simp; omega
                have HG2 : Hid (∀ i f, i < m + 1 → d.l[i]? = some f → f.1.length ≤ 100) := Lib.hid (fun i f hi h => by
                  rcases Nat.lt_succ_iff_lt_or_eq.1 hi with h' | rfl
                  · exact HG.out i f h' h
                  · rw [HFF.out] at h; injection h with h; subst h; show fn.length ≤ 100; omega)
                go_wp2
                go_roundw
                case rel => exact ⟨m + 1, by omega, by go_num, HG2, Lib.hid (HBI.out.alloc HBI.out.size _)⟩
                case measure => simp [intOf]; omega
            · have HF2 : Hid (∀ i d, i < k + 1 → ds[i]? = some d → few1 d) := Lib.hid (fun i d' hi h => by
                rcases Nat.lt_succ_iff_lt_or_eq.1 hi with h' | rfl
                · exact HF.out i d' h' h
                · rw [HD.out] at h; injection h with h; subst h
                  refine ⟨by omega, by omega, fun f hf => ?_⟩
                  obtain ⟨i2, hi2⟩ := List.mem_iff_getElem?.1 hf
                  exact HG.out i2 f (by have := (List.getElem?_eq_some_iff.1 hi2).1; omega) hi2)
              go_wp2
              go_roundw
              case rel => exact ⟨k + 1, by omega, by go_num, HF2, HBW⟩
              case measure => simp [intOf]; omega
    · have HX : Hid (few ds = decide ((ds.length : Int) ≤ 40)) := Lib.hid (by
        unfold few
        have : ∀ d ∈ ds, few1 d := fun d hd => by
          obtain ⟨i, hi⟩ := List.mem_iff_getElem?.1 hd
          exact HF.out i d (by have := (List.getElem?_eq_some_iff.1 hi).1; omega) hi
        rw [Bool.eq_iff_iff]
        simp only [decide_eq_true_eq]
        constructor
        · intro h; have := h.2; omega
        · intro h; exact ⟨this, by omega⟩)
      go_wp2
      go_ret
      exact ⟨by rw [HX.out]; rfl, HB.out⟩
end Go.Proofs.YtemnlkgjgalipaaDoor
