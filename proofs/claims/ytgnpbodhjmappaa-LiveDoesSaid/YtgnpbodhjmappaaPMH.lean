/-
  A unit of whose functions some instructions are left out, whose registers nobody reads, does what it did, on lists.
-/
import Derived.Test.YtgnpbodhjmappaaPNL
import Derived.Test.YtgnpbodhjmappaaPNA
import Derived.Test.YtgnpbodhjmappaaPMB
import Derived.Test.YtgnpbodhjmappaaPLA
set_option linter.unusedVariables false
set_option linter.unusedSimpArgs false
namespace Go.Proofs.Ytgnpbodhjmappaa.Cd
def nidx (K : List Bool) (p : Int) : Int := (((K.take p.toNat).filter id).length : Nat)
def moveI (K : List Bool) (i : Ins) : Ins := { i with dest := if i.kind = 11 ∨ i.kind = 12 then nidx K i.dest else i.dest, els := if i.kind = 12 then nidx K i.els else i.els }
def leftC (K : List Bool) : List Bool → List Ins → List Ins
  | b :: bs, i :: is => if b then moveI K i :: leftC K bs is else leftC K bs is
  | _, _ => []
def keepF (K : List Bool) (g : Fnc) : Fnc := { g with code := leftC K K g.code }
theorem leftC_at (K0 : List Bool) : ∀ (K : List Bool) (c : List Ins) (p : Nat) (i : Ins), K[p]? = some true → c[p]? = some i → (leftC K0 K c)[((K.take p).filter id).length]? = some (moveI K0 i)
  | [], _, _, _, h, _ => by simp at h
  | _ :: _, [], _, _, _, h => by simp at h
  | b :: K, j :: c, 0, i, hK, hc => by
    simp only [List.getElem?_cons_zero, Option.some.injEq] at hK hc
    subst hK hc
    simp [leftC]
  | b :: K, j :: c, p + 1, i, hK, hc => by
    simp only [List.getElem?_cons_succ] at hK hc
    have ih := leftC_at K0 K c p i hK hc
    unfold leftC
    cases b
    · simpa using ih
    · simpa using ih
theorem leftC_len (K0 : List Bool) : ∀ (K : List Bool) (c : List Ins), K.length = c.length → (leftC K0 K c).length = (K.filter id).length
  | [], [], _ => rfl
  | [], _ :: _, h => by cases h
  | _ :: _, [], h => by cases h
  | b :: K, j :: c, h => by
    have ih := leftC_len K0 K c (by simpa using h)
    unfold leftC
    cases b <;> simp [ih]
theorem nidx_yes {K : List Bool} {p : Int} (h0 : 0 ≤ p) (h : K[p.toNat]? = some true) : nidx K (p + 1) = nidx K p + 1 := by
  unfold nidx
  rw [show (p + 1).toNat = p.toNat + 1 by omega, List.take_add_one, h]
  simp
theorem nidx_no {K : List Bool} {p : Int} (h0 : 0 ≤ p) (h : K[p.toNat]? = some false) : nidx K (p + 1) = nidx K p := by
  unfold nidx
  rw [show (p + 1).toNat = p.toNat + 1 by omega, List.take_add_one, h]
  simp
theorem nidx_zero (K : List Bool) : nidx K 0 = 0 := rfl

structure Leave (g : Fnc) (K : List Bool) (R : Int → Prop) (L : Int → Int → Prop) : Prop where
  right : RightF g
  len : K.length = g.code.length
  first : R 0
  reach : ∀ p q i, R p → g.code[p.toNat]? = some i → q ∈ next i p → R q
  use : ∀ p i, R p → g.code[p.toNat]? = some i → K[p.toNat]? = some true → ∀ r ∈ uses i, L p r
  live : ∀ p q i, R p → g.code[p.toNat]? = some i → q ∈ next i p → ∀ r, L q r → (sets i ≠ r → L p r)
  dead : ∀ p i, R p → g.code[p.toNat]? = some i → K[p.toNat]? = some false → (i.kind = 1 ∨ i.kind = 2 ∨ i.kind = 4 ∨ i.kind = 5 ∨ (i.kind = 3 ∧ ∀ b, doB i.op b = true)) ∧ (i.kind = 2 → ∀ b, doB i.op b = true) ∧ ¬ L (p + 1) i.dst
  inside : ∀ p r, L p r → 0 ≤ r
structure TopR (u : Uni) (Ks : List (List Bool)) (Rs : Nat → Int → Prop) (Ls : Nat → Int → Int → Prop) (f f' : Frm) : Prop where
  k : f'.k = f.k
  base : f'.base = f.base
  dst : f'.dst = f.dst
  here : ∃ g K, u.funcs[f.k]? = some g ∧ Ks[f.k]? = some K ∧ f'.pos = nidx K f.pos ∧ (f.regs.length : Int) = g.regs ∧ 0 ≤ f.pos ∧ f.pos < g.code.length
  reach : Rs f.k f.pos
  len : f'.regs.length = f.regs.length
  same : ∀ r, Ls f.k f.pos r → reg f r = reg f' r
def setD (d x : Int) (f : Frm) : Frm := if 0 ≤ d then { f with regs := f.regs.set d.toNat x } else f
def RestR (u : Uni) (Ks : List (List Bool)) (Rs : Nat → Int → Prop) (Ls : Nat → Int → Int → Prop) : Int → List Frm → List Frm → Prop
  | _, [], [] => True
  | d, f :: l, f' :: l' => (∀ x, TopR u Ks Rs Ls (setD d x f) (setD d x f')) ∧ f'.dst = f.dst ∧ RestR u Ks Rs Ls f.dst l l'
  | _, _, _ => False
structure AllR (u : Uni) (Ks : List (List Bool)) (Rs : Nat → Int → Prop) (Ls : Nat → Int → Int → Prop) : Prop where
  len : Ks.length = u.funcs.length
  leave : ∀ (k : Nat) (g : Fnc) (K : List Bool), u.funcs[k]? = some g → Ks[k]? = some K → Leave g K (Rs k) (Ls k)
  calls : ∀ (k : Nat) (g : Fnc) (i : Ins), u.funcs[k]? = some g → i ∈ g.code → i.kind = 8 → ∀ k' h, findN u.funcs i.text = some k' → u.funcs[k']? = some h → ((uses i).length : Int) = h.params
def keepU (Ks : List (List Bool)) (u : Uni) : Uni := { u with funcs := List.zipWith keepF Ks u.funcs }
structure StaR (u : Uni) (Ks : List (List Bool)) (Rs : Nat → Int → Prop) (Ls : Nat → Int → Int → Prop) (s s' : Sta) : Prop where
  mem : s'.mem = s.mem
  out : s'.out = s.out
  inp : s'.inp = s.inp
  stk : ∃ f rest f' rest', s.stack = f :: rest ∧ s'.stack = f' :: rest' ∧ TopR u Ks Rs Ls f f' ∧ RestR u Ks Rs Ls f.dst rest rest'
def BothR (u : Uni) (Ks : List (List Bool)) (Rs : Nat → Int → Prop) (Ls : Nat → Int → Int → Prop) : Rsu ⊕ Sta → Rsu ⊕ Sta → Prop
  | .inl r, .inl r' => r' = r
  | .inr s, .inr s' => StaR u Ks Rs Ls s s'
  | _, _ => False
variable {u : Uni} {Ks : List (List Bool)} {Rs : Nat → Int → Prop} {Ls : Nat → Int → Int → Prop}
theorem reg_set {k : Nat} {b p q : Int} {l : List Int} {d : Nat} {x r : Int} (h0 : 0 ≤ r) (hd : d < l.length) : reg ⟨k, b, p, q, l.set d x⟩ r = if r = d then x else l.getD r.toNat 0 := by
  unfold reg
  simp only [List.getD_eq_getElem?_getD, List.getElem?_set]
  by_cases h : r = (d : Int)
  · rw [if_pos h, if_pos (by omega), if_pos hd]; rfl
  · rw [if_neg h, if_neg (by omega)]
theorem TopR.went (hA : AllR u Ks Rs Ls) {f f' : Frm} (h : TopR u Ks Rs Ls f f') {g : Fnc} {K : List Bool} {i : Ins} (hg : u.funcs[f.k]? = some g) (hK : Ks[f.k]? = some K) (hi : g.code[f.pos.toNat]? = some i) {y p p' : Int} (hp : p ∈ next i f.pos) (hp' : p' = nidx K p) : TopR u Ks Rs Ls (went f i y p) (went f' (moveI K i) y p') := by
  have hL := hA.leave _ _ _ hg hK
  obtain ⟨g', K', hg', hK', hpos, hlen, h0, h1⟩ := h.here
  rw [hg] at hg'
  injection hg' with hg'
  subst hg'
  rw [hK] at hK'
  injection hK' with hK'
  subst hK'
  have hin := closed_of hL.right f.pos ⟨h0, h1⟩ p (by rw [nexts_at hi]; exact hp)
  have e1 : sets (moveI K i) = sets i := rfl
  have e2 : (moveI K i).dst = i.dst := rfl
  have hRi := hL.right.all i (List.mem_of_getElem? hi)
  have hr := hL.reach _ _ _ h.reach hi hp
  have hsame : ∀ r, Ls f.k p r → sets i ≠ r → reg f r = reg f' r := fun r hr hne => h.same r (hL.live _ _ _ h.reach hi hp r hr hne)
  unfold Cd.went
  rw [e1, e2]
  by_cases hs : 0 ≤ sets i
  · rw [if_pos hs, if_pos hs]
    have hsd : sets i = i.dst := by
      unfold sets at hs ⊢
      split
      · rfl
      · rename_i hn; rw [if_neg hn] at hs; omega
    have hlt : i.dst < g.regs := by
      have := hRi.dst
      unfold dstOk at this
      unfold sets at hs
      split at hs
      · rename_i hk
        split at this
        · simp only [Bool.and_eq_true, decide_eq_true_eq] at this; omega
        · split at this
          · unfold regOk at this; simp only [Bool.and_eq_true, decide_eq_true_eq] at this; omega
          · omega
      · omega
    refine ⟨h.k, h.base, h.dst, ⟨g, K, hg, hK, hp', by simp only [List.length_set]; exact hlen, hin.1, hin.2⟩, hr, by simp [h.len], fun r hr2 => ?_⟩
    have hr0 := hL.inside _ _ hr2
    rw [reg_set hr0 (by omega), reg_set hr0 (by rw [h.len]; omega)]
    by_cases he : r = i.dst.toNat
    · rw [if_pos he, if_pos he]
    · rw [if_neg he, if_neg he]; exact hsame r hr2 (by omega)
  · rw [if_neg hs, if_neg hs]
    exact ⟨h.k, h.base, h.dst, ⟨g, K, hg, hK, hp', hlen, hin.1, hin.2⟩, hr, h.len, fun r hr2 => hsame r hr2 (by have := hL.inside _ _ hr2; omega)⟩
theorem keep_funcs {k : Nat} {g : Fnc} {K : List Bool} (hg : u.funcs[k]? = some g) (hK : Ks[k]? = some K) : (keepU Ks u).funcs[k]? = some (keepF K g) := by
  unfold keepU
  simp only [List.getElem?_zipWith, hg, hK]
theorem keep_none {k : Nat} (hg : u.funcs[k]? = none) : (keepU Ks u).funcs[k]? = none := by
  unfold keepU
  simp only [List.getElem?_zipWith, hg]
  cases Ks[k]? <;> rfl
theorem findN_names' : ∀ (fs gs : List Fnc) (s : List UInt8), fs.map (·.name) = gs.map (·.name) → findN fs s = findN gs s
  | [], [], _, _ => rfl
  | [], _ :: _, _, h => by cases h
  | _ :: _, [], _, h => by cases h
  | f :: fs, g :: gs, s, h => by
    simp only [List.map_cons, List.cons.injEq] at h
    unfold findN
    rw [h.1, findN_names' fs gs s h.2]
theorem keep_names (h : Ks.length = u.funcs.length) : (keepU Ks u).funcs.map (·.name) = u.funcs.map (·.name) := by
  apply List.ext_getElem?
  intro k
  simp only [List.getElem?_map]
  cases hg : u.funcs[k]? with
  | none => rw [keep_none hg]
  | some g =>
    have hk := (List.getElem?_eq_some_iff.1 hg).1
    rw [keep_funcs hg (List.getElem?_eq_getElem (show k < Ks.length by omega))]
    rfl
theorem moveI_uses (K : List Bool) (i : Ins) : uses (moveI K i) = uses i := rfl
theorem map_reg {f f' : Frm} {l : List Int} (h : ∀ r ∈ l, reg f r = reg f' r) : l.map (reg f) = l.map (reg f') := List.map_congr_left h
theorem StaR.mk' {s s' : Sta} {m : List Int} {o : List UInt8} {n : List UInt8} {f f' : Frm} {rest rest' : List Frm} (ht : TopR u Ks Rs Ls f f') (hr : RestR u Ks Rs Ls f.dst rest rest') : StaR u Ks Rs Ls ⟨m, o, n, f :: rest⟩ ⟨m, o, n, f' :: rest'⟩ := ⟨rfl, rfl, rfl, f, rest, f', rest', rfl, rfl, ht, hr⟩
theorem stepI_keep (hA : AllR u Ks Rs Ls) {f f' : Frm} (h : TopR u Ks Rs Ls f f') {g : Fnc} {K : List Bool} {i : Ins} {rest rest' : List Frm} {s s' : Sta} (hg : u.funcs[f.k]? = some g) (hK : Ks[f.k]? = some K) (hi : g.code[f.pos.toNat]? = some i) (hy : K[f.pos.toNat]? = some true) (hm : s'.mem = s.mem) (ho : s'.out = s.out) (hin : s'.inp = s.inp) (hrest : RestR u Ks Rs Ls f.dst rest rest') :
    BothR u Ks Rs Ls (stepI u g i f rest s) (stepI (keepU Ks u) (keepF K g) (moveI K i) f' rest' s') := by
  have hL := hA.leave _ _ _ hg hK
  obtain ⟨g', K', hg', hK', hpos, hlen, h0, h1⟩ := h.here
  rw [hg] at hg'
  injection hg' with hg'
  subst hg'
  rw [hK] at hK'
  injection hK' with hK'
  subst hK'
  have hR := hL.right.all i (List.mem_of_getElem? hi)
  have hu : ∀ r ∈ uses i, reg f r = reg f' r := fun r hr => h.same r (hL.use _ _ h.reach hi hy r hr)
  have hlo := hR.low
  have hhi := hR.high
  have hp1 : f'.pos + 1 = nidx K (f.pos + 1) := by rw [nidx_yes h0 hy, hpos]
  have hn1 : i.kind ≠ 11 → i.kind ≠ 12 → i.kind ≠ 13 → f.pos + 1 ∈ next i f.pos := by intro a b c; unfold next; rw [if_neg a, if_neg b, if_neg c]; simp
  have one : ∀ (y : Int) (m : List Int) (o n : List UInt8), i.kind ≠ 11 → i.kind ≠ 12 → i.kind ≠ 13 → StaR u Ks Rs Ls ⟨m, o, n, went f i y (f.pos + 1) :: rest⟩ ⟨m, o, n, went f' (moveI K i) y (f'.pos + 1) :: rest'⟩ := by
    intro y m o n a b c
    exact StaR.mk' (s := s) (s' := s') (h.went hA hg hK hi (hn1 a b c) hp1) hrest
  have ea : readsA i.kind = true → reg f' i.a = reg f i.a := fun hr => (hu i.a (by unfold uses; simp [hr])).symm
  have eb : readsB i.kind = true → reg f' i.b = reg f i.b := fun hr => (hu i.b (by unfold uses; simp [hr])).symm
  have k1 : (moveI K i).kind = i.kind := rfl
  have k2 : (moveI K i).n = i.n := rfl
  have k3 : (moveI K i).op = i.op := rfl
  have k4 : (moveI K i).a = i.a := rfl
  have k5 : (moveI K i).b = i.b := rfl
  have k6 : (moveI K i).text = i.text := rfl
  have k7 : (moveI K i).dst = i.dst := rfl
  have k8 : addr f' (moveI K i) = reg f' i.a % 4294967296 := rfl
  have k9 : valB f' (moveI K i) = if i.kind = 3 then reg f' i.b else 0 := rfl
  unfold stepI
  rw [k1, k2, k3, k4, k5, k6, k7, k8, k9, moveI_uses, hm, ho, hin, h.base]
  by_cases g1 : i.kind = 1
  · rw [if_pos g1, if_pos g1]; exact one _ _ _ _ (by omega) (by omega) (by omega)
  rw [if_neg g1, if_neg g1]
  by_cases g2 : i.kind = 2 ∨ i.kind = 3
  · rw [if_pos g2, if_pos g2, ea (by rcases g2 with h | h <;> simp [h, readsA])]
    have e : (if i.kind = 3 then reg f' i.b else 0) = valB f i := by
      unfold valB
      by_cases g3 : i.kind = 3
      · rw [if_pos g3, if_pos g3, eb (by simp [g3, readsB])]
      · rw [if_neg g3, if_neg g3]
    rw [e]
    by_cases hb : doB i.op (valB f i) = true
    · rw [if_pos hb, if_pos hb]; exact one _ _ _ _ (by omega) (by omega) (by omega)
    · rw [if_neg hb, if_neg hb]; rfl
  rw [if_neg g2, if_neg g2]
  by_cases g4 : i.kind = 4
  · rw [if_pos g4, if_pos g4, ea (by simp [g4, readsA])]; exact one _ _ _ _ (by omega) (by omega) (by omega)
  rw [if_neg g4, if_neg g4]
  by_cases g5 : i.kind = 5
  · rw [if_pos g5, if_pos g5]; exact one _ _ _ _ (by omega) (by omega) (by omega)
  rw [if_neg g5, if_neg g5]
  by_cases g6 : i.kind = 6 ∨ i.kind = 7
  · rw [if_pos g6, if_pos g6, ea (by rcases g6 with h | h <;> simp [h, readsA])]
    have e : reg f i.a % 4294967296 = addr f i := rfl
    rw [e]
    by_cases ha : 1 ≤ addr f i ∧ addr f i < 4096
    · rw [if_pos ha, if_pos ha]
      by_cases hl : i.kind = 6
      · rw [if_pos hl, if_pos hl]; exact one _ _ _ _ (by omega) (by omega) (by omega)
      · rw [if_neg hl, if_neg hl, eb (by simp [readsB]; omega)]; exact one _ _ _ _ (by omega) (by omega) (by omega)
    · rw [if_neg ha, if_neg ha]; rfl
  rw [if_neg g6, if_neg g6]
  by_cases g8 : i.kind = 8
  · rw [if_pos g8, if_pos g8, findN_names' _ _ _ (keep_names hA.len)]
    cases hk : findN u.funcs i.text with
    | none => exact rfl
    | some k =>
      simp only
      cases hh : u.funcs[k]? with
      | none => rw [keep_none hh]; exact rfl
      | some h' =>
        have hk' := (List.getElem?_eq_some_iff.1 hh).1
        obtain ⟨K', hK'⟩ : ∃ K', Ks[k]? = some K' := ⟨_, List.getElem?_eq_getElem (show k < Ks.length by rw [hA.len]; exact hk')⟩
        have hL' := hA.leave _ _ _ hh hK'
        rw [keep_funcs hh hK']
        simp only
        have q1 : (keepF K g).frame = g.frame := rfl
        have q2 : (keepF K' h').frame = h'.frame := rfl
        have q3 : (keepF K' h').regs = h'.regs := rfl
        rw [q1, q2, q3]
        by_cases hb : f.base + g.frame + h'.frame > 4096
        · rw [if_pos hb, if_pos hb]; exact rfl
        · rw [if_neg hb, if_neg hb, map_reg hu]
          have hc := hA.calls _ _ _ hg (List.mem_of_getElem? hi) g8 _ _ hk hh
          have hp := hL'.right.params
          have hr := hL'.right.regs
          have hcd := hL'.right.code.1
          refine StaR.mk' (s := s) (s' := s') ⟨rfl, rfl, rfl, ⟨h', K', hh, hK', (nidx_zero _).symm, ?_, Int.le_refl _, by show (0 : Int) < (h'.code.length : Int); omega⟩, hL'.first, rfl, fun _ _ => rfl⟩ ⟨fun x => ?_, h.dst, hrest⟩
          · simp only [List.length_append, List.length_map, List.length_replicate]; omega
          · have hw := h.went hA hg hK hi (y := x) (hn1 (by omega) (by omega) (by omega)) hp1
            have hd : sets i = i.dst := by unfold sets; rw [if_pos (by omega)]
            have hd' : sets (moveI K i) = i.dst := hd
            unfold Cd.went at hw
            rw [hd, hd', h.base] at hw
            unfold setD
            by_cases hd0 : 0 ≤ i.dst
            · rw [if_pos hd0] at hw ⊢; rw [if_pos hd0] at hw ⊢; exact hw
            · rw [if_neg hd0] at hw ⊢; rw [if_neg hd0] at hw ⊢; exact hw
  rw [if_neg g8, if_neg g8]
  by_cases g9 : i.kind = 9
  · rw [if_pos g9, if_pos g9]
    cases s.inp <;> exact one _ _ _ _ (by omega) (by omega) (by omega)
  rw [if_neg g9, if_neg g9]
  by_cases g10 : i.kind = 10
  · rw [if_pos g10, if_pos g10, ea (by simp [g10, readsA])]; exact one _ _ _ _ (by omega) (by omega) (by omega)
  rw [if_neg g10, if_neg g10]
  by_cases g11 : i.kind = 11
  · rw [if_pos g11, if_pos g11]
    have e : (moveI K i).dest = nidx K i.dest := by unfold moveI; simp [g11]
    rw [e]
    exact StaR.mk' (s := s) (s' := s') (h.went hA hg hK hi (by unfold next; rw [if_pos g11]; simp) rfl) hrest
  rw [if_neg g11, if_neg g11]
  by_cases g12 : i.kind = 12
  · rw [if_pos g12, if_pos g12, ea (by simp [g12, readsA])]
    have e : (moveI K i).dest = nidx K i.dest := by unfold moveI; simp [g12]
    have e2 : (moveI K i).els = nidx K i.els := by unfold moveI; simp [g12]
    rw [e, e2]
    refine StaR.mk' (s := s) (s' := s') (h.went hA hg hK hi ?_ ?_) hrest
    · unfold next
      rw [if_neg g11, if_pos g12]
      split <;> simp
    · split <;> rfl
  rw [if_neg g12, if_neg g12, ea (by simp [readsA]; omega), h.dst]
  cases rest with
  | nil =>
    cases rest' with
    | nil => exact rfl
    | cons _ _ => exact hrest.elim
  | cons p ps =>
    cases rest' with
    | nil => exact hrest.elim
    | cons p' ps' =>
      obtain ⟨hw, hd, hps⟩ := hrest
      have := hw (reg f i.a)
      refine StaR.mk' (s := s) (s' := s') (show TopR u Ks Rs Ls (setD f.dst (reg f i.a) p) (setD f.dst (reg f i.a) p') from this) ?_
      have e : (setD f.dst (reg f i.a) p).dst = p.dst := by unfold setD; split <;> rfl
      show RestR u Ks Rs Ls (setD f.dst (reg f i.a) p).dst ps ps'
      rw [e]; exact hps
theorem stepI_left (hA : AllR u Ks Rs Ls) {f f' : Frm} (h : TopR u Ks Rs Ls f f') {g : Fnc} {K : List Bool} {i : Ins} {rest rest' : List Frm} {s s' : Sta} (hg : u.funcs[f.k]? = some g) (hK : Ks[f.k]? = some K) (hi : g.code[f.pos.toNat]? = some i) (hy : K[f.pos.toNat]? = some false) (hm : s'.mem = s.mem) (ho : s'.out = s.out) (hin : s'.inp = s.inp) (hrest : RestR u Ks Rs Ls f.dst rest rest')
    (hs' : s'.stack = f' :: rest') : ∃ t, stepI u g i f rest s = .inr t ∧ StaR u Ks Rs Ls t s' := by
  have hL := hA.leave _ _ _ hg hK
  obtain ⟨g', K', hg', hK', hpos, hlen, h0, h1⟩ := h.here
  rw [hg] at hg'
  injection hg' with hg'
  subst hg'
  rw [hK] at hK'
  injection hK' with hK'
  subst hK'
  obtain ⟨hk, hk2, hdead⟩ := hL.dead _ _ h.reach hi hy
  have hn : f.pos + 1 ∈ next i f.pos := by unfold next; rw [if_neg (by omega), if_neg (by omega), if_neg (by omega)]; simp
  have hin1 := closed_of hL.right f.pos ⟨h0, h1⟩ _ (by rw [nexts_at hi]; exact hn)
  have hsd : sets i = i.dst := by unfold sets; rw [if_pos (by omega)]
  have hRi := hL.right.all i (List.mem_of_getElem? hi)
  have hd0 : 0 ≤ i.dst ∧ i.dst < g.regs := by
    have := hRi.dst
    unfold dstOk at this
    rw [if_neg (by omega), if_pos (by omega)] at this
    unfold regOk at this
    simpa using this
  have one : ∀ y, ∀ m o n, m = s.mem → o = s.out → n = s.inp → StaR u Ks Rs Ls ⟨m, o, n, went f i y (f.pos + 1) :: rest⟩ s' := by
    rintro y m o n rfl rfl rfl
    refine ⟨hm, ho, hin, _, _, _, _, rfl, hs', ?_, hrest⟩
    unfold Cd.went
    rw [hsd, if_pos hd0.1]
    refine ⟨h.k, h.base, h.dst, ⟨g, K, hg, hK, ?_, by simp only [List.length_set]; exact hlen, hin1.1, hin1.2⟩, hL.reach _ _ _ h.reach hi hn, by simp [h.len], fun r hr => ?_⟩
    · rw [hpos]; exact (nidx_no h0 hy).symm
    · have hr0 := hL.inside _ _ hr
      have hne : r ≠ i.dst := fun e => hdead (e ▸ hr)
      rw [reg_set hr0 (by omega), if_neg (by omega)]
      exact h.same r (hL.live _ _ _ h.reach hi hn r hr (by rw [hsd]; exact fun e => hne e.symm))
  unfold stepI
  by_cases g1 : i.kind = 1
  · rw [if_pos g1]; exact ⟨_, rfl, one _ _ _ _ rfl rfl rfl⟩
  rw [if_neg g1]
  by_cases g2 : i.kind = 2 ∨ i.kind = 3
  · rw [if_pos g2]
    have hb : doB i.op (valB f i) = true := by
      rcases g2 with h | h
      · exact hk2 h _
      · rcases hk with h' | h' | h' | h' | h'
        · omega
        · omega
        · omega
        · omega
        · exact h'.2 _
    rw [if_pos hb]; exact ⟨_, rfl, one _ _ _ _ rfl rfl rfl⟩
  rw [if_neg g2]
  by_cases g4 : i.kind = 4
  · rw [if_pos g4]; exact ⟨_, rfl, one _ _ _ _ rfl rfl rfl⟩
  rw [if_neg g4, if_pos (by omega)]
  exact ⟨_, rfl, one _ _ _ _ rfl rfl rfl⟩
theorem runS_keep (hA : AllR u Ks Rs Ls) : ∀ (n : Nat) (s s' : Sta), StaR u Ks Rs Ls s s' → ((runS u n s).fin ≠ 4 → runS (keepU Ks u) n s' = runS u n s) ∧ (runS u n s).out <+: (runS (keepU Ks u) n s').out
  | 0, s, s', h => ⟨fun hn => absurd rfl hn, by show s.out <+: s'.out; rw [h.out]; exact List.prefix_refl _⟩
  | n + 1, s, s', h => by
    obtain ⟨f, rest, f', rest', hs, hs', ht, hr⟩ := h.stk
    obtain ⟨g, K, hg, hK, hpos, hlen, h0, h1⟩ := ht.here
    have hL := hA.leave _ _ _ hg hK
    obtain ⟨i, hi⟩ : ∃ i, g.code[f.pos.toNat]? = some i := ⟨_, List.getElem?_eq_getElem (by omega)⟩
    have e1 : step u s = stepI u g i f rest s := by unfold step; rw [hs]; simp only [hg, hi]
    obtain ⟨b, hb⟩ : ∃ b, K[f.pos.toNat]? = some b := ⟨_, List.getElem?_eq_getElem (show f.pos.toNat < K.length by rw [hL.len]; omega)⟩
    cases b with
    | true =>
      have hi' : (keepF K g).code[f'.pos.toNat]? = some (moveI K i) := by
        rw [hpos]
        exact leftC_at K K g.code f.pos.toNat i hb hi
      have e2 : step (keepU Ks u) s' = stepI (keepU Ks u) (keepF K g) (moveI K i) f' rest' s' := by
        unfold step
        rw [hs']
        simp only
        rw [ht.k, keep_funcs hg hK]
        simp only [hi']
      have hB := stepI_keep hA ht hg hK hi hb h.mem h.out h.inp hr
      rw [← e1, ← e2] at hB
      unfold runS
      cases ha : step u s with
      | inl r =>
        rw [ha] at hB
        cases hc : step (keepU Ks u) s' with
        | inl r' => rw [hc] at hB; simp only; rw [show r' = r from hB]; exact ⟨fun _ => rfl, List.prefix_refl _⟩
        | inr t' => rw [hc] at hB; exact hB.elim
      | inr t =>
        rw [ha] at hB
        cases hc : step (keepU Ks u) s' with
        | inl r' => rw [hc] at hB; exact hB.elim
        | inr t' => rw [hc] at hB; exact runS_keep hA n t t' hB
    | false =>
      obtain ⟨t, ha, hT⟩ := stepI_left hA ht hg hK hi hb h.mem h.out h.inp hr hs'
      have ih := runS_keep hA n t s' hT
      have e : runS u (n + 1) s = runS u n t := by
        show (match step u s with | .inl r => r | .inr s' => runS u n s') = _
        rw [e1, ha]
      rw [e]
      refine ⟨fun hn => ?_, ih.2.trans (runS_prefix _ n (n + 1) s' (by omega))⟩
      have := ih.1 hn
      rw [← this] at hn ⊢
      exact runS_more _ n (n + 1) s' (by omega) hn
def Less (u v : Uni) : Prop := ∀ (inp : List UInt8) (fuel : Int), ((runU u inp fuel).fin ≠ 4 → runU v inp fuel = runU u inp fuel) ∧ (runU u inp fuel).out <+: (runU v inp fuel).out
theorem Less.refl (u : Uni) : Less u u := fun _ _ => ⟨fun _ => rfl, List.prefix_refl _⟩
theorem Less.trans {u v w : Uni} (h : Less u v) (k : Less v w) : Less u w := fun inp fuel => by
  refine ⟨fun hn => ?_, (h inp fuel).2.trans (k inp fuel).2⟩
  have e := (h inp fuel).1 hn
  rw [(k inp fuel).1 (by rw [e]; exact hn), e]
theorem runU_keep (hA : AllR u Ks Rs Ls) (hr' : rightU (keepU Ks u) = true) (hr : rightU u = true) : Less u (keepU Ks u) := by
  intro inp fuel
  unfold runU
  rw [findN_names' _ _ _ (keep_names hA.len)]
  cases hm : findN u.funcs wMain with
  | none => exact ⟨fun h => absurd rfl h, List.prefix_refl _⟩
  | some m =>
    simp only
    cases hg : u.funcs[m]? with
    | none => rw [keep_none hg]; exact ⟨fun h => absurd rfl h, List.prefix_refl _⟩
    | some g =>
      have hk := (List.getElem?_eq_some_iff.1 hg).1
      obtain ⟨K, hK⟩ : ∃ K, Ks[m]? = some K := ⟨_, List.getElem?_eq_getElem (by rw [hA.len]; exact hk)⟩
      rw [keep_funcs hg hK]
      simp only [hr, hr']
      have hL := hA.leave _ _ _ hg hK
      have e1 : (keepF K g).params = g.params := rfl
      have e2 : (keepF K g).frame = g.frame := rfl
      have e3 : (keepF K g).regs = g.regs := rfl
      have e4 : (keepU Ks u).top = u.top := rfl
      have e5 : mem0 (keepU Ks u) = mem0 u := rfl
      rw [e1, e2, e3, e4, e5]
      by_cases hp : g.params > 0
      · rw [if_pos (.inr hp)]; exact ⟨fun h => absurd rfl h, List.nil_prefix⟩
      · have hq : ¬ (true = false ∨ g.params > 0) := by
          rintro (h | h)
          · cases h
          · exact hp h
        rw [if_neg hq, if_neg hq]
        by_cases hb : u.top + g.frame > 4096
        · rw [if_pos hb, if_pos hb]; exact ⟨fun _ => rfl, List.prefix_refl _⟩
        · rw [if_neg hb, if_neg hb]
          have hpr := hL.right.params
          have hrr := hL.right.regs
          have hcd := hL.right.code.1
          have ht : TopR u Ks Rs Ls ⟨m, u.top, 0, -1, List.replicate g.regs.toNat 0⟩ ⟨m, u.top, 0, -1, List.replicate g.regs.toNat 0⟩ := by
            refine ⟨rfl, rfl, rfl, ⟨g, K, hg, hK, (nidx_zero _).symm, ?_, Int.le_refl _, by show (0 : Int) < (g.code.length : Int); omega⟩, hL.first, rfl, fun _ _ => rfl⟩
            simp only [List.length_replicate]
            omega
          exact runS_keep hA _ _ _ ⟨rfl, rfl, rfl, _, [], _, [], rfl, rfl, ht, trivial⟩
end Go.Proofs.Ytgnpbodhjmappaa.Cd
namespace Go.Proofs.Ytgnpbodhjmappaa.Cd
structure Kept (g : Fnc) (K : List Bool) (R : Int → Prop) : Prop where
  kept : ∀ p : Nat, K[p]? = some true → R p
theorem filter_take_le (K : List Bool) : ∀ (a b : Nat), a ≤ b → ((K.take a).filter id).length ≤ ((K.take b).filter id).length := by
  intro a b h
  have : (K.take a) = (K.take b).take a := by rw [List.take_take, Nat.min_eq_left h]
  rw [this]
  exact ((List.take_sublist a (K.take b)).filter id).length_le
theorem ahead_kept {g : Fnc} {K : List Bool} {R : Int → Prop} {L : Int → Int → Prop} (h : Leave g K R L) : ∀ (n : Nat) (p : Int), R p → Inside g.code p → (g.code.length : Int) - p ≤ n → ∃ q : Nat, p ≤ q ∧ K[q]? = some true ∧ ∀ j : Nat, p ≤ j → j < q → K[j]? = some false
  | 0, p, _, hi, hn => by have := hi.2; omega
  | n + 1, p, hR, hi, hn => by
    have hlt : p.toNat < K.length := by rw [h.len]; have := hi.1; have := hi.2; omega
    cases hb : K[p.toNat] with
    | true => exact ⟨p.toNat, by have := hi.1; omega, by rw [List.getElem?_eq_getElem hlt, hb], fun j h1 h2 => by omega⟩
    | false =>
      have hb' : K[p.toNat]? = some false := by rw [List.getElem?_eq_getElem hlt, hb]
      obtain ⟨i, hc⟩ : ∃ i, g.code[p.toNat]? = some i := ⟨_, List.getElem?_eq_getElem (by rw [← h.len]; exact hlt)⟩
      obtain ⟨hk, _, _⟩ := h.dead _ _ hR hc hb'
      have hq : p + 1 ∈ next i p := by unfold next; rw [if_neg (by omega), if_neg (by omega), if_neg (by omega)]; simp
      have hin := closed_of h.right p hi _ (by rw [nexts_at hc]; exact hq)
      obtain ⟨q, h1, h2, h3⟩ := ahead_kept h n (p + 1) (h.reach _ _ _ hR hc hq) hin (by omega)
      refine ⟨q, by omega, h2, fun j h4 h5 => ?_⟩
      by_cases he : (j : Int) = p
      · rw [show j = p.toNat by omega]; exact hb'
      · exact h3 j (by omega) h5
theorem nidx_lt {K : List Bool} {p : Int} {q : Nat} (h0 : 0 ≤ p) (hp : p ≤ q) (hq : K[q]? = some true) : 0 ≤ nidx K p ∧ nidx K p < ((K.filter id).length : Nat) := by
  refine ⟨by unfold nidx; omega, ?_⟩
  unfold nidx
  have h1 := filter_take_le K p.toNat q (by omega)
  have h2 : ((K.take (q + 1)).filter id).length = ((K.take q).filter id).length + 1 := by
    rw [List.take_add_one, hq]; simp
  have h3 : ((K.take (q + 1)).filter id).length ≤ (K.filter id).length := ((List.take_sublist (q + 1) K).filter id).length_le
  omega
theorem leftC_mem (K0 : List Bool) : ∀ (K : List Bool) (c : List Ins) (j : Ins), j ∈ leftC K0 K c → ∃ (p : Nat) (i : Ins), K[p]? = some true ∧ c[p]? = some i ∧ j = moveI K0 i
  | [], _, _, h => by simp [leftC] at h
  | _ :: _, [], _, h => by simp [leftC] at h
  | b :: K, i :: c, j, h => by
    unfold leftC at h
    cases b with
    | true =>
      simp only [if_true] at h
      rcases List.mem_cons.1 h with h | h
      · exact ⟨0, i, rfl, rfl, h⟩
      · obtain ⟨p, x, h1, h2, h3⟩ := leftC_mem K0 K c j h
        exact ⟨p + 1, x, by simpa using h1, by simpa using h2, h3⟩
    | false =>
      simp only [Bool.false_eq_true, if_false] at h
      obtain ⟨p, x, h1, h2, h3⟩ := leftC_mem K0 K c j h
      exact ⟨p + 1, x, by simpa using h1, by simpa using h2, h3⟩
theorem leftC_last (K0 : List Bool) : ∀ (K : List Bool) (c : List Ins), leftC K0 K c ≠ [] → ∃ (p : Nat) (i : Ins), K[p]? = some true ∧ c[p]? = some i ∧ (leftC K0 K c).getLast? = some (moveI K0 i) ∧ ∀ q : Nat, p < q → q < c.length → K[q]? ≠ some true
  | [], _, h => by simp [leftC] at h
  | _ :: _, [], h => by simp [leftC] at h
  | b :: K, i :: c, h => by
    by_cases hn : leftC K0 K c = []
    · unfold leftC at h ⊢
      cases b with
      | false => simp [hn] at h
      | true =>
        refine ⟨0, i, rfl, rfl, by simp [hn], fun q h1 h2 h3 => ?_⟩
        cases q with
        | zero => omega
        | succ q =>
          simp only [List.getElem?_cons_succ] at h3
          have hq : q < c.length := by simpa using h2
          have := leftC_at K0 K c q c[q] h3 (List.getElem?_eq_getElem hq)
          rw [hn] at this
          simp at this
    · obtain ⟨p, x, h1, h2, h3, h4⟩ := leftC_last K0 K c hn
      refine ⟨p + 1, x, by simpa using h1, by simpa using h2, ?_, fun q h5 h6 => ?_⟩
      · unfold leftC
        cases b with
        | true =>
          simp only [if_true]
          cases hl : leftC K0 K c with
          | nil => exact absurd hl hn
          | cons y ys => rw [hl] at h3; rw [List.getLast?_cons_cons]; exact h3
        | false => simpa using h3
      · cases q with
        | zero => omega
        | succ q => simpa using h4 q (by omega) (by simpa using h6)
theorem moveI_plain (K : List Bool) {i : Ins} (h : i = plainOf i) : moveI K i = plainOf (moveI K i) := by
  have hd : i.dest = ifI (i.kind = 11 ∨ i.kind = 12) i.dest 0 := congrArg Ins.dest h
  have he : i.els = ifI (i.kind = 12) i.els (-1) := congrArg Ins.els h
  rw [← Ins.ext_iff']
  refine ⟨rfl, (by have e := congrArg Ins.op h; exact e), (by have e := congrArg Ins.dst h; exact e), (by have e := congrArg Ins.a h; exact e), (by have e := congrArg Ins.b h; exact e), (by have e := congrArg Ins.n h; exact e), (by have e := congrArg Ins.text h; exact e), (by have e := congrArg Ins.x0 h; exact e), (by have e := congrArg Ins.x1 h; exact e), (by have e := congrArg Ins.x2 h; exact e), (by have e := congrArg Ins.x3 h; exact e), (by have e := congrArg Ins.x4 h; exact e), (by have e := congrArg Ins.x5 h; exact e), ?_, ?_⟩
  · show (if i.kind = 11 ∨ i.kind = 12 then nidx K i.dest else i.dest) = ifI (i.kind = 11 ∨ i.kind = 12) (if i.kind = 11 ∨ i.kind = 12 then nidx K i.dest else i.dest) 0
    by_cases hk : i.kind = 11 ∨ i.kind = 12
    · unfold ifI; rw [if_pos hk, if_pos hk]
    · rw [if_neg hk]; exact hd
  · show (if i.kind = 12 then nidx K i.els else i.els) = ifI (i.kind = 12) (if i.kind = 12 then nidx K i.els else i.els) (-1)
    by_cases hk : i.kind = 12
    · unfold ifI; rw [if_pos hk, if_pos hk]
    · rw [if_neg hk]; exact he
theorem keepF_right {g : Fnc} {K : List Bool} {R : Int → Prop} {L : Int → Int → Prop} (h : Leave g K R L) (hk : Kept g K R) : RightF (keepF K g) := by
  have hR := h.right
  have hc0 := hR.code
  have hlen : (keepF K g).code.length = (K.filter id).length := leftC_len K K g.code h.len
  obtain ⟨q0, _, hq0, _⟩ := ahead_kept h g.code.length 0 h.first ⟨Int.le_refl _, by omega⟩ (by omega)
  have hpos : 0 < (keepF K g).code.length := by rw [hlen]; have := nidx_lt (Int.le_refl 0) (by omega) hq0; omega
  have hjump : ∀ (p : Nat) (i : Ins), K[p]? = some true → g.code[p]? = some i → ∀ d ∈ next i p, d ≠ p + 1 ∨ i.kind = 11 ∨ i.kind = 12 → 0 ≤ nidx K d ∧ nidx K d < ((keepF K g).code.length : Int) := by
    intro p i hp hi d hd _
    have hin : Inside g.code p := ⟨by omega, by have := (List.getElem?_eq_some_iff.1 hi).1; omega⟩
    have hi2 : g.code[(p : Int).toNat]? = some i := by simpa using hi
    have hd1 := closed_of hR p hin d (by rw [nexts_at hi2]; exact hd)
    obtain ⟨q, h1, h2, _⟩ := ahead_kept h g.code.length d (h.reach p d i (hk.kept p hp) hi2 hd) hd1 (by have := hd1.1; omega)
    rw [hlen]
    exact nidx_lt hd1.1 h1 h2
  refine ⟨hR.name, hR.params, hR.regs, hR.frame, ⟨hpos, ?_⟩, ?_, ?_⟩
  · rw [hlen]
    have : (K.filter id).length ≤ K.length := List.length_filter_le _ _
    have := h.len
    omega
  · intro j hj
    obtain ⟨p, i, hp, hi, rfl⟩ := leftC_mem K K g.code j hj
    have hi' := hR.all i (List.mem_of_getElem? hi)
    refine ⟨hi'.low, hi'.high, hi'.uses, hi'.dst, hi'.n, hi'.op, ?_, moveI_plain K hi'.plain⟩
    unfold toOk
    show (if i.kind = 11 then regOk _ (moveI K i).dest else if i.kind = 12 then (regOk _ (moveI K i).dest && regOk _ (moveI K i).els) else true) = true
    by_cases h11 : i.kind = 11
    · rw [if_pos h11]
      have e : (moveI K i).dest = nidx K i.dest := by unfold moveI; simp [h11]
      have := hjump p i hp hi i.dest (by unfold next; rw [if_pos h11]; simp) (.inr (.inl h11))
      rw [e]
      unfold regOk
      simp only [Bool.and_eq_true, decide_eq_true_eq]
      exact this
    · rw [if_neg h11]
      by_cases h12 : i.kind = 12
      · rw [if_pos h12]
        have e : (moveI K i).dest = nidx K i.dest := by unfold moveI; simp [h12]
        have e2 : (moveI K i).els = nidx K i.els := by unfold moveI; simp [h12]
        have a := hjump p i hp hi i.dest (by unfold next; rw [if_neg h11, if_pos h12]; simp) (.inr (.inr h12))
        have b := hjump p i hp hi i.els (by unfold next; rw [if_neg h11, if_pos h12]; simp) (.inr (.inr h12))
        rw [e, e2]
        unfold regOk
        simp only [Bool.and_eq_true, decide_eq_true_eq]
        exact ⟨a, b⟩
      · rw [if_neg h12]
  · have hne : leftC K K g.code ≠ [] := by intro e; have : (keepF K g).code = [] := e; rw [this] at hpos; simp at hpos
    obtain ⟨p, i, hp, hi, hl, hn⟩ := leftC_last K K g.code hne
    have e : lastKind (keepF K g).code = i.kind := by
      unfold lastKind
      rw [show (keepF K g).code.getLast? = some (moveI K i) from hl]
      rfl
    rw [e]
    by_cases hge : 11 ≤ i.kind
    · exact hge
    · exfalso
      have hpl : p < g.code.length := (List.getElem?_eq_some_iff.1 hi).1
      have hi2 : g.code[(p : Int).toNat]? = some i := by simpa using hi
      have hq : (p : Int) + 1 ∈ next i p := by unfold next; rw [if_neg (by omega), if_neg (by omega), if_neg (by omega)]; simp
      have hin := closed_of hR p ⟨by omega, by omega⟩ _ (by rw [nexts_at hi2]; exact hq)
      obtain ⟨q, h1, h2, _⟩ := ahead_kept h g.code.length ((p : Int) + 1) (h.reach p _ i (hk.kept p hp) hi2 hq) hin (by omega)
      have hql : q < K.length := (List.getElem?_eq_some_iff.1 h2).1
      exact hn q (by omega) (by rw [← h.len]; exact hql) h2
end Go.Proofs.Ytgnpbodhjmappaa.Cd
namespace Go.Proofs.Ytgnpbodhjmappaa.Cd
def goneOf (K : List Bool) (x : Int) : Prop := K[x.toNat]? ≠ some true
inductive GoneK (c : List Ins) : List Bool → Prop where
  | start {K : List Bool} : K.length = c.length → (∀ p : Nat, p < c.length → (K[p]? = some true ↔ Reach c (-1) 0 (p : Int))) → GoneK c K
  | out {K : List Bool} {p : Nat} {i : Ins} : GoneK c K → K[p]? = some true → c[p]? = some i → pureI i = true → ¬ BehN c (goneOf K) i.dst (p : Int) → GoneK c (K.set p false)
theorem GoneK.len {c : List Ins} {K : List Bool} (h : GoneK c K) : K.length = c.length := by
  induction h with
  | start h _ => exact h
  | out _ _ _ _ _ ih => rw [List.length_set]; exact ih
theorem goneOf_set {K : List Bool} {p : Nat} {x : Int} (h : goneOf K x) : goneOf (K.set p false) x := by
  unfold goneOf at h ⊢
  by_cases hp : p = x.toNat
  · subst hp
    rw [List.getElem?_set]
    simp only [if_true]
    split <;> simp
  · rw [List.getElem?_set_ne hp]; exact h
theorem GoneK.kept {c : List Ins} {K : List Bool} (h : GoneK c K) {p : Nat} (hp : K[p]? = some true) : Reach c (-1) 0 (p : Int) := by
  induction h with
  | @start K h1 h2 => exact (h2 p (by rw [← h1]; exact (List.getElem?_eq_some_iff.1 hp).1)).1 hp
  | @out K q i h1 h2 h3 h4 h5 ih =>
    by_cases hq : q = p
    · subst hq
      rw [List.getElem?_set] at hp
      simp only [if_true] at hp
      split at hp <;> simp at hp
    · rw [List.getElem?_set_ne hq] at hp; exact ih hp
theorem GoneK.went {c : List Ins} {K : List Bool} (h : GoneK c K) {p : Nat} {i : Ins} (hi : c[p]? = some i) (hp : K[p]? = some false) (hr : Reach c (-1) 0 (p : Int)) : pureI i = true ∧ ¬ BehN c (goneOf K) i.dst (p : Int) := by
  induction h with
  | @start K h1 h2 =>
    have := (h2 p (List.getElem?_eq_some_iff.1 hi).1).2 hr
    rw [hp] at this; cases this
  | @out K q j h1 h2 h3 h4 h5 ih =>
    by_cases hq : q = p
    · subst hq
      rw [hi] at h3; injection h3 with h3; subst h3
      exact ⟨h4, fun hb => h5 (hb.mono fun x hx => goneOf_set hx)⟩
    · rw [List.getElem?_set_ne hq] at hp
      obtain ⟨a, b⟩ := ih hp
      exact ⟨a, fun hb => b (hb.mono fun x hx => goneOf_set hx)⟩
theorem pureI_iff {i : Ins} : pureI i = true ↔ (i.kind = 1 ∨ i.kind = 2 ∨ i.kind = 4 ∨ i.kind = 5) ∨ (i.kind = 3 ∧ 1 ≤ i.op ∧ i.op ≤ 23 ∧ (i.op < 4 ∨ 7 < i.op)) := by
  unfold pureI
  simp only [Bool.or_eq_true, Bool.and_eq_true, decide_eq_true_eq, and_assoc]
theorem pure_on {i : Ins} (h : pureI i = true) (p : Int) : next i p = [p + 1] ∧ Cd.sets i = i.dst := by
  have h := pureI_iff.1 h
  refine ⟨by unfold next; rw [if_neg (by omega), if_neg (by omega), if_neg (by omega)], ?_⟩
  unfold Cd.sets
  rw [if_pos]
  omega
theorem pure_op {i : Ins} {regs frame len : Int} (hR : RightI i regs frame len) (h : pureI i = true) : (i.kind = 1 ∨ i.kind = 2 ∨ i.kind = 4 ∨ i.kind = 5 ∨ (i.kind = 3 ∧ ∀ b, doB i.op b = true)) ∧ (i.kind = 2 → ∀ b, doB i.op b = true) := by
  have h := pureI_iff.1 h
  have ho := hR.op
  refine ⟨?_, fun hk b => ?_⟩
  · rcases h with h | ⟨h1, h2, h3, h4⟩
    · omega
    · refine .inr (.inr (.inr (.inr ⟨h1, fun b => ?_⟩)))
      unfold doB
      exact decide_eq_true ⟨⟨h2, h3⟩, fun hh => by omega⟩
  · unfold opOk at ho
    rw [if_pos hk, Bool.and_eq_true, decide_eq_true_eq, decide_eq_true_eq] at ho
    unfold doB
    exact decide_eq_true ⟨⟨by omega, by omega⟩, fun hh => by omega⟩
theorem GoneK.leave {g : Fnc} {K : List Bool} (hR : RightF g) (h : GoneK g.code K) : Leave g K (Reach g.code (-1) 0) (fun p r => 0 ≤ r ∧ LiveN g.code (goneOf K) r p) ∧ Kept g K (Reach g.code (-1) 0) := by
  have hc := closed_of hR
  have h0 : Inside g.code 0 := ⟨Int.le_refl _, by have := hR.code.1; omega⟩
  refine ⟨⟨hR, h.len, .start (by omega), fun p q i hp hi hq => ?_, fun p i hp hi hk r hr => ?_, fun p q i hp hi hq r hl hs => ⟨hl.1, .on hi hs hq hl.2⟩, fun p i hp hi hk => ?_, fun p r hl => hl.1⟩, ⟨fun p hp => h.kept hp⟩⟩
  · have hn : q ∈ nexts g.code p := by rw [nexts_at hi]; exact hq
    have := hc p (hp.inside hc h0) q hn
    exact .more hp hn (by unfold Inside at this; omega)
  · exact ⟨((hR.all i (List.mem_of_getElem? hi)).uses r hr).1, .here hi (fun hg => hg hk) hr⟩
  · have hpi := hp.inside hc h0
    unfold Inside at hpi
    have e : ((p.toNat : Nat) : Int) = p := by omega
    obtain ⟨h1, h2⟩ := h.went hi hk (by rw [e]; exact hp)
    obtain ⟨a, b⟩ := pure_op (hR.all i (List.mem_of_getElem? hi)) h1
    refine ⟨a, b, fun hl => h2 ⟨p + 1, ?_, hl.2⟩⟩
    rw [e, nexts_at hi, (pure_on h1 p).1]; simp
def DoneK (c : List Ins) (K : List Bool) : Prop := ∀ (p : Nat) (i : Ins), K[p]? = some true → c[p]? = some i → pureI i = true → BehN c (goneOf K) i.dst (p : Int)
end Go.Proofs.Ytgnpbodhjmappaa.Cd
