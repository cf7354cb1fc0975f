/-
  Each call keeps what holds between a table and the structs that are defined: pure.
-/
import Derived.Test.YtemnlkgjgalipaaDoorRefRel
namespace Go.Proofs.YtemnlkgjgalipaaDoor
open Go.RowKit Go.Maps Tp
set_option linter.unusedVariables false

theorem dfind_some {D : Dl} {nm : List UInt8} {d : List UInt8 × List Fl} (h : dfind D nm = some d) : d ∈ D ∧ d.1 = nm := by
  unfold dfind at h
  exact ⟨List.mem_of_find?_eq_some h, by simpa using List.find?_some h⟩
theorem sizeOf_nat {T : Tab} {i : Nat} {e : En} (h : T[i]? = some e) : Tp.sizeOf T i = e.size := by
  unfold Tp.sizeOf; rw [ent_nat, h]; rfl
theorem sizeOf_pos {T : Tab} {n : Int} (h : 0 < Tp.sizeOf T n) : ∃ (i : Nat) (e : En), n = i ∧ T[i]? = some e ∧ Tp.sizeOf T n = e.size := by
  cases hn : ent T n with
  | none => unfold Tp.sizeOf at h; rw [hn] at h; exact absurd h (by decide)
  | some e =>
    obtain ⟨i, rfl, _, hi⟩ := ent_some hn
    exact ⟨i, e, rfl, hi, sizeOf_nat hi⟩
theorem getElem?_snocL {T : Tab} {a e : En} {i : Nat} (h : T[i]? = some e) : (T ++ [a])[i]? = some e := by
  rw [List.getElem?_append_left (List.getElem?_eq_some_iff.1 h).1]; exact h
theorem trel_new : TRel newT [] := by
  have hs : ∀ (i : Nat) (e : En), newT[i]? = some e → i < 4 := fun i e h => (List.getElem?_eq_some_iff.1 h).1
  refine ⟨good_new, ?_, ?_, fun d hd => (by cases hd), ?_, ?_⟩
  · intro i j a b ha hb hab
    have h1 := hs i a ha
    have h2 := hs j b hb
    match i, j, h1, h2 with
    | 0, 0, _, _ => rfl
    | 1, 1, _, _ => rfl
    | 2, 2, _, _ => rfl
    | 3, 3, _, _ => rfl
    | 0, 1, _, _ | 0, 2, _, _ | 0, 3, _, _ | 1, 0, _, _ | 1, 2, _, _ | 1, 3, _, _ | 2, 0, _, _ | 2, 1, _, _ | 2, 3, _, _ | 3, 0, _, _ | 3, 1, _, _ | 3, 2, _, _ =>
      simp [newT] at ha hb; subst ha; subst hb; simp at hab
  · intro i e h hk
    have h1 := hs i e h
    match i, h1 with
    | 0, _ | 1, _ | 2, _ | 3, _ => simp [newT] at h; subst h; simp at hk
  · intro i e h hk
    have h1 := hs i e h
    match i, h1 with
    | 0, _ | 1, _ | 2, _ | 3, _ => simp [newT] at h; subst h; simp at hk
  · intro i e h
    have h1 := hs i e h
    match i, h1 with
    | 0, _ => simp [newT] at h; subst h; exact .void 0 _ rfl rfl
    | 1, _ => simp [newT] at h; subst h; exact .one 1 _ rfl (by simp)
    | 2, _ => simp [newT] at h; subst h; exact .one 2 _ rfl (by simp)
    | 3, _ => simp [newT] at h; subst h; exact .one 3 _ rfl (by simp)
theorem trel_num {T : Tab} {D : Dl} {x : Ty} {size : Int} (h : TRel T D) (m : May T x size) (h6 : x.kind = 6 → x = ⟨6, 0, 0, x.name⟩)
    (hrs : (∀ (i : Nat) (e : En), T[i]? = some e → e.self ≠ x) → RS (T ++ [⟨x, size, none⟩]) D (T.length : Nat) size) : TRel (num T x size).2.2 D := by
  unfold num
  split
  · exact h
  · rename_i hf
    split
    · exact h
    · rename_i hl
      have hne := find_none hf
      have hkeep : ∀ d : List UInt8 × List Fl, ∀ r, layF T d.2 0 = some r → layF (T ++ [⟨x, size, none⟩]) d.2 0 = some r := fun d r hr => by
        rw [layF_keep (fun f hf => ?_), hr]
        obtain ⟨i, e, hi, he, hs⟩ := sizeOf_pos (layF_pos hr f hf)
        rw [hs, hi, sizeOf_nat (getElem?_snocL he)]
      show TRel (T ++ [⟨x, size, none⟩]) D
      refine ⟨good_snoc h.good hl m, ?_, ?_, ?_, ?_, ?_⟩
      · intro i j a b ha hb hab
        rcases getElem?_snoc ha with h1 | ⟨rfl, rfl⟩ <;> rcases getElem?_snoc hb with h2 | ⟨rfl, rfl⟩
        · exact h.nodup i j a b h1 h2 hab
        · exact absurd hab (hne i a h1)
        · exact absurd hab.symm (hne j b h2)
        · rfl
      · intro i e he hk
        rcases getElem?_snoc he with h1 | ⟨rfl, rfl⟩
        · exact h.six i e h1 hk
        · exact h6 hk
      · intro d hd
        obtain ⟨i, e, h1, h2⟩ := h.dent d hd
        exact ⟨i, e, getElem?_snocL h1, h2⟩
      · intro i e he hk
        rcases getElem?_snoc he with h1 | ⟨rfl, rfl⟩
        · have := h.flds i e h1 hk
          split at this
          · assumption
          · obtain ⟨h3, r, h4, h5⟩ := this
            exact ⟨h3, r, hkeep _ r h4, h5⟩
        · cases hd : dfind D x.name with
          | none => rfl
          | some d =>
            obtain ⟨h1, h2⟩ := dfind_some hd
            obtain ⟨i, e, h3, h4⟩ := h.dent d h1
            exact absurd (by rw [h4, h2, ← h6 hk]) (hne i e h3)
      · intro i e he
        rcases getElem?_snoc he with h1 | ⟨rfl, rfl⟩
        · refine rs_grow T.length (fun i e h => ⟨e, getElem?_snocL h, rfl⟩) (fun _ _ h => h) (fun _ _ _ _ _ h => h) (h.size i e h1) (by rw [ent_nat, h1]; exact fun e => by cases e) (.inl ?_)
          have := (List.getElem?_eq_some_iff.1 h1).1
          omega
        · exact hrs hne
theorem snoc_last (T : Tab) (a : En) : (T ++ [a])[T.length]? = some a := by simp
theorem trel_pointer {T : Tab} {D : Dl} {n : Int} (h : TRel T D) : TRel (pointer T n).2.2 D := by
  unfold pointer
  split
  · exact h
  · rename_i e he
    obtain ⟨i, rfl, hi, _⟩ := ent_some he
    exact trel_num h ⟨by decide, by simp, fun _ => ⟨by simp, by simpa using hi⟩, by simp, by simp⟩ (fun h => by simp at h) (fun _ => .one _ _ (snoc_last _ _) (by simp))
theorem trel_array {T : Tab} {D : Dl} {n c : Int} (h : TRel T D) : TRel (array T n c).2.2 D := by
  unfold array
  split
  · exact h
  · rename_i e he
    obtain ⟨i, rfl, hi, hk⟩ := ent_some he
    have hs := h.good.size i e hk
    split
    · exact h
    · split
      · exact h
      · rename_i h1 h2
        have p0 : 0 ≤ c * e.size := Int.mul_nonneg (by omega) (by omega)
        refine trel_num h ⟨⟨p0, by omega⟩, by simp, fun _ => ⟨by simp, by simpa using hi⟩, by simp; omega, by simp⟩ (fun h => by simp at h) (fun _ => ?_)
        rw [Int.mul_comm]
        refine .arr T.length ⟨⟨5, i, c, []⟩, e.size * c, none⟩ e.size (by rw [Int.mul_comm]; exact snoc_last _ _) rfl ?_ (by omega) hs.2 (by simp; omega) (by simp; omega)
        refine rs_grow T.length (fun i e h => ⟨e, getElem?_snocL h, rfl⟩) (fun _ _ h => h) (fun _ _ _ _ _ h => h) (h.size i e hk) (by rw [ent_nat, hk]; exact fun e => by cases e) (.inr (by omega))
theorem trel_strct {T : Tab} {D : Dl} {name : List UInt8} (h : TRel T D) (hn : name.length ≤ 100) : TRel (strct T name).2.2 D := by
  unfold strct
  split
  · exact h
  · refine trel_num h ⟨by decide, by simp, fun h => by simp at h, by simp, hn⟩ (fun _ => rfl) (fun hne => .undef _ _ (snoc_last _ _) rfl ?_)
    cases hd : dfind D name with
    | none => rfl
    | some d =>
      obtain ⟨h1, h2⟩ := dfind_some hd
      obtain ⟨i, e, h3, h4⟩ := h.dent d h1
      exact absurd (by rw [h4, h2]) (hne i e h3)
theorem dfind_snoc (D : Dl) (n : List UInt8) (l : List Fl) (nm : List UInt8) : dfind (D ++ [(n, l)]) nm = match dfind D nm with | some d => some d | none => if n = nm then some (n, l) else none := by
  unfold dfind
  rw [List.find?_append]
  cases List.find? (fun d => decide (d.1 = nm)) D with
  | some d => rfl
  | none =>
    by_cases h : n = nm
    · simp [h]
    · simp [h]
theorem setF_get {T : Tab} {k : Nat} {r : List Pl × Int} {i : Nat} {e : En} (h : T[i]? = some e) : (Tp.setF T k r)[i]? = some (if k = i then ⟨e.self, r.2, some r.1⟩ else e) := by
  unfold Tp.setF
  rw [List.getElem?_modify, h]
  rfl
theorem rs_undef {T : Tab} {D : Dl} {n s : Int} {k : Nat} {e : En} (h : RS T D n s) (hn : n = k) (hk : T[k]? = some e) (h6 : e.self.kind = 6) (hd : dfind D e.self.name = none) : s = 0 := by
  have same : ∀ (i : Nat) (e' : En), T[i]? = some e' → (i : Int) = (k : Int) → e' = e := fun i e' h' hi => by
    have : i = k := by omega
    rw [this, hk] at h'
    injection h' with h'
    exact h'.symm
  cases h with
  | out _ _ => rfl
  | void i e h _ => rfl
  | arr i e' c h h5 _ _ _ _ _ => rw [same i e' h hn] at h5; omega
  | undef i e h _ _ => rfl
  | str i e' ks d h _ hd' _ _ _ => rw [same i e' h hn, hd] at hd'; cases hd'
  | one i e' h h1 => rw [same i e' h hn] at h1; omega
/-- The struct k comes to be defined. -/
theorem trel_setF {T : Tab} {D : Dl} (h : TRel T D) {k : Nat} {e : En} {n : List UInt8} (hk : T[k]? = some e) (he : e.self = ⟨6, 0, 0, n⟩) (hd : dfind D n = none) {l : List Fl} {r : List Pl × Int} (hl : layF T l 0 = some r) (h4 : r.2 ≤ 4096) (hlen : l.length ≤ 1000) :
    TRel (Tp.setF T k r) (D ++ [(n, l)]) := by
  have hse : e.size = 0 := rs_undef (h.size k e hk) rfl hk (by rw [he]) (by rw [he]; exact hd)
  have hget := fun i e0 (h0 : T[i]? = some e0) => setF_get (k := k) (r := r) h0
  have hself : ∀ i a, (Tp.setF T k r)[i]? = some a → ∃ a0, T[i]? = some a0 ∧ a.self = a0.self ∧ (i ≠ k → a = a0) := fun i a ha => by
    rcases getElem?_setF ha with ⟨h1, h2⟩ | ⟨rfl, e0, h1, rfl⟩
    · exact ⟨a, h1, rfl, fun _ => rfl⟩
    · exact ⟨e0, h1, rfl, fun hne => absurd rfl hne⟩
  have hkeep : ∀ (l' : List Fl) (r' : List Pl × Int), layF T l' 0 = some r' → layF (Tp.setF T k r) l' 0 = some r' := fun l' r' hr' => by
    rw [layF_keep (fun f hf => ?_), hr']
    have hp := layF_pos hr' f hf
    obtain ⟨i, e0, hi, h0, hs⟩ := sizeOf_pos hp
    have hik : ¬ k = i := fun e1 => by
      subst e1
      rw [hk] at h0
      injection h0 with h0
      rw [hs, ← h0, hse] at hp
      omega
    rw [hs, hi, sizeOf_nat (hget i e0 h0), if_neg hik]
  have hD : ∀ nm d, dfind D nm = some d → dfind (D ++ [(n, l)]) nm = some d := fun nm d h => by rw [dfind_snoc, h]
  have hname : ∀ (i : Nat) (a : En), T[i]? = some a → a.self.kind = 6 → i ≠ k → n ≠ a.self.name := fun i a ha h6 hik hnm => hik (h.nodup i k a e ha hk (by rw [he, h.six i a ha h6, hnm]))
  refine ⟨good_setF h.good ⟨layF_le hl, h4⟩ (fun e1 h1 => by rw [hk] at h1; injection h1 with h1; rw [← h1, he]), ?_, ?_, ?_, ?_, ?_⟩
  · intro i j a b ha hb hab
    obtain ⟨a0, h1, h2, _⟩ := hself i a ha
    obtain ⟨b0, h3, h5, _⟩ := hself j b hb
    exact h.nodup i j a0 b0 h1 h3 (by rw [← h2, ← h5, hab])
  · intro i a ha h6
    obtain ⟨a0, h1, h2, _⟩ := hself i a ha
    rw [h2] at h6 ⊢
    exact h.six i a0 h1 h6
  · intro d hd'
    rcases List.mem_append.1 hd' with hd' | hd'
    · obtain ⟨i, a, h1, h2⟩ := h.dent d hd'
      refine ⟨i, _, hget i a h1, ?_⟩
      split <;> exact h2
    · rw [List.mem_singleton] at hd'
      subst hd'
      refine ⟨k, _, hget k e hk, ?_⟩
      rw [if_pos rfl]
      exact he
  · intro i a ha h6
    obtain ⟨a0, h1, h2, h3⟩ := hself i a ha
    by_cases hik : i = k
    · subst hik
      rw [hk] at h1
      injection h1 with h1
      subst h1
      have ha' := hget i e hk
      rw [if_pos rfl, ha] at ha'
      injection ha' with ha'
      subst ha'
      rw [he]
      rw [dfind_snoc, hd]
      simp only [if_true]
      exact ⟨hlen, r, hkeep l r hl, rfl⟩
    · have := h3 hik
      subst this
      have hf := h.flds i a h1 h6
      rw [dfind_snoc]
      cases hda : dfind D a.self.name with
      | none =>
        rw [hda] at hf
        simp only [if_neg (hname i a h1 h6 hik)]
        exact hf
      | some d =>
        rw [hda] at hf
        obtain ⟨h5, r', h7, h8⟩ := hf
        exact ⟨h5, r', hkeep _ _ h7, h8⟩
  · intro i a ha
    obtain ⟨a0, h1, h2, h3⟩ := hself i a ha
    have hgrow : ∀ (m s : Int), RS T D m s → ent T m ≠ none → (m ≠ (k : Int) ∨ s ≠ 0) → RS (Tp.setF T k r) (D ++ [(n, l)]) m s := fun m s hm =>
      rs_grow k (fun i e0 h0 => ⟨_, hget i e0 h0, by split <;> rfl⟩) hD (fun i e0 h0 h6 hik hn => by rw [dfind_snoc, hn]; simp only [if_neg (hname i e0 h0 h6 hik)]) hm
    by_cases hik : i = k
    · subst hik
      have ha' := hget i e hk
      rw [if_pos rfl, ha] at ha'
      injection ha' with ha'
      subst ha'
      show RS _ _ _ r.2
      rw [(layF_all hl).1]
      refine .str i _ (ksOf T l) (n, l) ha (by show e.self.kind = 6; rw [he]) (by show dfind _ e.self.name = _; rw [he, dfind_snoc, hd]; simp) (fun j f hj => ?_) (fun j hj => ?_) hlen
      · have hp := layF_pos hl f (List.mem_of_getElem? hj)
        rw [ksOf_at (l := l) hj]
        exact hgrow _ _ (h.rs f.2) (rs_in (h.rs f.2) (by omega)) (.inr (by omega))
      · obtain ⟨f, hf⟩ : ∃ f, l[j]? = some f := ⟨_, List.getElem?_eq_getElem hj⟩
        have hp := layF_pos hl f (List.mem_of_getElem? hf)
        rw [ksOf_at (l := l) hf]
        obtain ⟨i2, e2, _, h2', hs⟩ := sizeOf_pos hp
        have := h.good.size i2 e2 h2'
        omega
    · have := h3 hik
      subst this
      exact hgrow _ _ (h.size i a h1) (by rw [ent_nat, h1]; exact fun e => by cases e) (.inl (by omega))
theorem trel_isDef {T : Tab} {D : Dl} (h : TRel T D) {n : List UInt8} (hs : (strct T n).2.1 = 0) (hn : n.length ≤ 100) : isDef (strct T n).2.2 (strct T n).1 = (dfind D n).isSome := by
  obtain ⟨i, hi, e, h1, h2, _⟩ := strct_at hs
  have h' := trel_strct h hn
  have hf := h'.flds i e h1 (by rw [h2])
  rw [hi]
  unfold isDef
  rw [ent_nat, h1]
  rw [h2] at hf
  simp only at hf ⊢
  cases hd : dfind D n with
  | none => rw [hd] at hf; rw [hf]; rfl
  | some d =>
    rw [hd] at hf
    obtain ⟨_, r, _, h5⟩ := hf
    rw [h5]; rfl
theorem define_cases {T : Tab} {D : Dl} (h : TRel T D) {n : List UInt8} (hn : n.length ≤ 100) (l : List Fl) :
    (∃ x, x ≠ 0 ∧ define T n l = (x, (strct T n).2.2)) ∨ (∃ (k : Nat) (e : En) (r : List Pl × Int), define T n l = (0, Tp.setF (strct T n).2.2 k r) ∧ (strct T n).2.2[k]? = some e ∧ e.self = ⟨6, 0, 0, n⟩ ∧ dfind D n = none ∧ layF (strct T n).2.2 l 0 = some r ∧ r.2 ≤ 4096) := by
  have hat := @strct_at T n
  have hdef := fun hs => trel_isDef h (n := n) hs hn
  have hdf : define T n l = match strct T n with
    | (n, er, T1) => if er ≠ 0 then (er, T1) else if isDef T1 n = true ∨ named l = false then (7, T1) else
      match lay T1 l with
      | .error x => (x, T1)
      | .ok r => (0, Tp.setF T1 n.toNat r) := rfl
  obtain ⟨i, er, T1, hst⟩ : ∃ i er T1, strct T n = (i, er, T1) := ⟨_, _, _, rfl⟩
  rw [hst] at hat hdef hdf ⊢
  simp only at hat hdef hdf ⊢
  by_cases he : er = 0
  · rw [if_neg (by simpa using he)] at hdf
    obtain ⟨k, rfl, e, hk, hself, hlt⟩ := hat he
    by_cases hcond : isDef T1 k = true ∨ named l = false
    · rw [if_pos hcond] at hdf
      exact .inl ⟨7, by decide, hdf⟩
    · rw [if_neg hcond] at hdf
      have hd : dfind D n = none := by
        have := hdef he
        cases hdd : dfind D n with
        | none => rfl
        | some d => rw [hdd] at this; exact absurd (.inl (by rw [this]; rfl)) hcond
      cases hly : lay T1 l with
      | error x =>
        have hx : x ≠ 0 := by rcases lay_err hly with h | h <;> rw [h] <;> decide
        rw [hly] at hdf
        exact .inl ⟨x, hx, hdf⟩
      | ok r =>
        rw [hly] at hdf
        unfold lay at hly
        split at hly
        · cases hly
        · split at hly
          · cases hly
          · split at hly
            · cases hly
            · rename_i r' hr' h4
              injection hly with hly
              subst hly
              exact .inr ⟨k, e, _, by simpa using hdf, hk, hself, hd, hr', by omega⟩
  · rw [if_pos (by simpa using he)] at hdf
    exact .inl ⟨er, he, hdf⟩
theorem trel_define {T : Tab} {D : Dl} (h : TRel T D) {n : List UInt8} (hn : n.length ≤ 100) {l : List Fl} (hl : l.length ≤ 1000) : TRel (define T n l).2 (if (define T n l).1 = 0 then D ++ [(n, l)] else D) := by
  have h' := trel_strct h hn
  rcases define_cases h hn l with ⟨x, hx, hd⟩ | ⟨k, e, r, hd, hk, he, hdd, hly, h4⟩
  · rw [hd]
    simp only [hx, if_false]
    exact h'
  · rw [hd]
    simp only [if_true]
    exact trel_setF h' hk he hdd hly h4 hl
end Go.Proofs.YtemnlkgjgalipaaDoor
