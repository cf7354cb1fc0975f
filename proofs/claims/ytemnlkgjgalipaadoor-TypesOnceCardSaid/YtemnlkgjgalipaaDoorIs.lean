/-
  What the reference tells of any number: fields.
-/
import Derived.Test.YtemnlkgjgalipaaDoorFew
namespace Go.Proofs.YtemnlkgjgalipaaDoor
open Go.RowKit Go.Maps Tp
set_option linter.unusedVariables false

theorem Both.sz {w : World} {B t : Nat} {v : Value} {T : Tab} {Y : List ((List UInt8 × List Fl) × Value)} {la da : Option Addr} {lc dc : Nat} (h : Both w B t v T Y la lc da dc) (hY : Y.length ≤ 900) : SzIn w T (Y.map (·.1)) la lc da Y.length dc :=
  ⟨⟨_, Y, h.ref, rfl, rfl⟩, h.rel.good.few, by omega⟩
theorem rfield_any {w : World} {T : Tab} {D : Dl} {la : Option Addr} {lc : Nat} {da : Option Addr} {dn dc : Nat} (h : SzIn w T D la lc da dn dc) (rel : TRel T D) (n : Int) (nm : List UInt8) :
    Calls Tryd.prog 29 #[.agg #[.slice la T.length lc, .slice da dn dc], .int .i64 n, .string (bs nm)] w (FieldPost (Tp.field T n nm) w) := by
  cases hn : ent T n with
  | none =>
    have : Tp.field T n nm = (0, 0, false) := by unfold Tp.field; rw [hn]; rfl
    rw [this]
    exact rf_out h n hn nm
  | some e =>
    obtain ⟨i, rfl, _, hi⟩ := ent_some hn
    have hf : Tp.field T i nm = match e.flds with | some l => pick l nm | none => (0, 0, false) := by unfold Tp.field; rw [hn]; rfl
    by_cases h6 : e.self.kind = 6
    · have hfl := rel.flds i e hi h6
      cases hd : dfind D e.self.name with
      | none =>
        rw [hd] at hfl
        rw [hf, hfl]
        exact rf_str h i e (fun _ => 1) [] hi h6 (by rw [hd]) (fun j hj => by cases hj) (by simp) nm (fun j f hj => by simp at hj)
      | some d =>
        rw [hd] at hfl
        obtain ⟨hlen, r, hly, hfs⟩ := hfl
        rw [hf, hfs]
        simp only
        rw [(layF_all hly).2 nm]
        refine rf_str h i e (ksOf T d.2) d.2 hi h6 (by rw [hd]) (fun j hj => ?_) hlen nm (fun j f hj => ?_)
        · obtain ⟨f, hf⟩ : ∃ f, d.2[j]? = some f := ⟨_, List.getElem?_eq_getElem hj⟩
          have hp := layF_pos hly f (List.mem_of_getElem? hf)
          rw [ksOf_at (l := d.2) hf]
          obtain ⟨i2, e2, _, h2', hs⟩ := sizeOf_pos hp
          have := rel.good.size i2 e2 h2'
          omega
        · rw [ksOf_at (l := d.2) hj]
          exact rel.rs f.2
    · have hfn : e.flds = none := by
        cases hx : e.flds with
        | none => rfl
        | some l => exact absurd (rel.good.flds i e l hi hx) h6
      rw [hf, hfn]
      exact rf_flat h i e hi h6 nm
theorem r_text_any {w : World} {T : Tab} {D : Dl} {la : Option Addr} {lc : Nat} {da : Option Addr} {dn dc : Nat} (h : SzIn w T D la lc da dn dc) (hG : Tp.Good T) (n : Int) :
    Calls Tryd.prog 31 #[.agg #[.slice la T.length lc, .slice da dn dc], .int .i64 n] w fun e w' => e = .returned (.string (bs (text T n))) ∧ Below w.heap.size w w' := by
  cases hn : ent T n with
  | none =>
    have h0 : text T n = [] := by
      unfold text
      split
      · rfl
      · unfold ent at hn
        rw [if_neg (by assumption)] at hn
        unfold textF
        rw [hn]
    rw [h0]
    have H := Lib.hid h; clear h h0
    have HN := Lib.hid hn; clear hn
    go_enter Tryd.func31, Tryd.ntmps31
    go_wp2_with fail
    refine ((H.out.below ((Below.refl _ _).alloc (Nat.le_refl _) _)).is n).mono ?_
    rw [HN.out]
    rintro x w1 ⟨rfl, hb⟩
    have HB : Hid (Below w.heap.size w w1) := Lib.hid (((Below.refl _ _).alloc (Nat.le_refl _) _).trans (hb.mono (by simp)))
    clear hb
    go_wp2
    go_ret
    exact ⟨rfl, HB.out⟩
  | some e =>
    obtain ⟨i, rfl, hi, _⟩ := ent_some hn
    rw [text_nat]
    exact r_text_in hG i hi w h
end Go.Proofs.YtemnlkgjgalipaaDoor
