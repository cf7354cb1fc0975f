/-
  The contract of lex's quoted.
-/
import Derived.Test.YtaamllikceaifaaGreatDoorUint
import Derived.Maps.Own
import Derived.Maps.OwnOps
import Derived.Maps.OwnSet
import Derived.Maps.Keyed
namespace Go.Proofs.YtaamllikceaifaaGreatDoor
open Go.RowKit Go.Maps Sp Go.ChangeMaps
set_option linter.unusedVariables false

theorem setBlock_made (w0 : World) (o o' : Obj) : setBlock (w0.alloc o) w0.heap.size o' = w0.alloc o' := by
  have e : ((w0.alloc o).heap.setIfInBounds w0.heap.size o') = (w0.alloc o').heap := by
    show (w0.heap.push o).setIfInBounds w0.heap.size o' = w0.heap.push o'
    apply Array.ext_getElem?
    intro i
    rw [Array.getElem?_setIfInBounds, Array.getElem?_push, Array.getElem?_push]
    by_cases h : i = w0.heap.size
    · subst h; simp
    · have h3 : ¬ w0.heap.size = i := fun e => h e.symm
      simp [h, h3]
  unfold setBlock
  rw [e]
  rfl
theorem wpList_insert_made {H : Type} {P : Program} (w0 : World) {ops : Array Oper} {rest : List Oper} {o : Oper} {a : Act} {Q : Exit → Act → World → Prop}
    (hg : o.guard = none) (m x v : Operand) (t : TypeId) (hop : o.op = Op.insert t m x v) (hd : o.dst = none)
    (k e : TypeId) (K : Keyed P k) (ht : P.underlying t = some (.map k e)) (R : Value → Option (DataW H × List MemPlace)) (n : Nat) (D : DataW H) (es : Array MapEntry) (c : Nat)
    (hm : a.eval m = .map (some w0.heap.size)) (hown : (w0.alloc (.map es c)).ownsMap P k R w0.heap.size n D) (hn : n < maxLen) (key val : Value) (kl : Lit) (hx : a.eval x = key) (hv : a.eval v = val) (hkey : keyOf P k key = some kl)
    (d : DataW H) (ps : List MemPlace) (hval : R val = some (d, ps))
    (hK : ∀ es' c', (w0.alloc (.map es' c')).ownsMap P k R w0.heap.size (n + 1) (D.put kl d) → wpList P ops Q rest a (w0.alloc (.map es' c'))) :
    wpList P ops Q (o :: rest) a (w0.alloc (.map es c)) := by
  refine wpList_plain hg fun K' hK' => ?_
  obtain ⟨w', hrun, r1, es0, c0, es', c', _, rfl⟩ := hown.store K ht hn hkey hval
  rw [setBlock_made] at hrun r1
  unfold Oper.wp
  simp [execOp, hop, hm, hx, hv, hrun, Result.andThen]
  refine hK' _ _ ?_
  rw [hd]
  exact hK es' c' r1
theorem law8 : Keyed Tryz.prog 5 := int_keyed Tryz.underlying5
theorem key8 {c : Int} (h : (Lit.int .u8 c).wf = true) : keyOf Tryz.prog 5 (.int .u8 c) = some (.int .u8 c) := keyOf_int_mk Tryz.underlying5 h
theorem el64 {c : Int} (h : (Lit.int .i64 c).wf = true) : plainElem (H := Unit) Tryz.prog 3 (.int .i64 c) = some (.lit (.int .i64 c), []) := plainElem_int Tryz.underlying3 h
theorem zero64 (w : World) : (zeroValue 3).run Tryz.prog w = .ok (.int .i64 0) w := by kernel_rfl
def escD : DataW Unit := (((((DataW.map []).put (.int .u8 110) (.lit (.int .i64 10))).put (.int .u8 116) (.lit (.int .i64 9))).put (.int .u8 48) (.lit (.int .i64 0))).put (.int .u8 92) (.lit (.int .i64 92))).put (.int .u8 39) (.lit (.int .i64 39))
def quotedV (o : Option (Nat × Nat)) : Value := match o with | some p => .tuple #[pieceV 3 p.1 p.2, .int .i64 0] | none => .tuple #[pieceV 0 0 0, .int .i64 2]
theorem made_map (w : World) : (w.alloc (.map #[] 0)).ownsMap Tryz.prog 5 (plainElem (H := Unit) Tryz.prog 3) w.heap.size 0 (.map []) := World.ownsMap_made _ _ _ _
theorem wpList_escapes {P : Program} (w0 : World) {ops : Array Oper} {rest : List Oper} {o1 o2 o3 o4 o5 : Oper} {a : Act} {Q : Exit → Act → World → Prop} (m : Operand) (t k e : TypeId) (K : Keyed P k) (ht : P.underlying t = some (.map k e)) (hk : P.underlying k = some (.int .u8)) (he : P.underlying e = some (.int .i64))
    (b : Nat) (hb : b = w0.heap.size) (hm : a.eval m = .map (some b))
    (g1 : o1.guard = none) (p1 : o1.op = Op.insert t m (.const (.int .u8 110)) (.const (.int .i64 10))) (d1 : o1.dst = none)
    (g2 : o2.guard = none) (p2 : o2.op = Op.insert t m (.const (.int .u8 116)) (.const (.int .i64 9))) (d2 : o2.dst = none)
    (g3 : o3.guard = none) (p3 : o3.op = Op.insert t m (.const (.int .u8 48)) (.const (.int .i64 0))) (d3 : o3.dst = none)
    (g4 : o4.guard = none) (p4 : o4.op = Op.insert t m (.const (.int .u8 92)) (.const (.int .i64 92))) (d4 : o4.dst = none)
    (g5 : o5.guard = none) (p5 : o5.op = Op.insert t m (.const (.int .u8 39)) (.const (.int .i64 39))) (d5 : o5.dst = none)
    (hK : ∀ es c, (w0.alloc (.map es c)).ownsMap P k (plainElem (H := Unit) P e) w0.heap.size 5 escD → wpList P ops Q rest a (w0.alloc (.map es c))) :
    wpList P ops Q (o1 :: o2 :: o3 :: o4 :: o5 :: rest) a (w0.alloc (.map #[] 0)) := by
  subst hb
  have ke : ∀ {c : Int}, (Lit.int .u8 c).wf = true → keyOf P k (.int .u8 c) = some (.int .u8 c) := fun h => keyOf_int_mk hk h
  have ee : ∀ {c : Int}, (Lit.int .i64 c).wf = true → plainElem (H := Unit) P e (.int .i64 c) = some (.lit (.int .i64 c), []) := fun h => plainElem_int he h
  refine wpList_insert_made w0 g1 m _ _ t p1 d1 k e K ht (plainElem (H := Unit) P e) 0 (.map []) #[] 0 hm (World.ownsMap_made _ _ _ _) (by decide) _ _ (.int .u8 110) rfl rfl (ke (by decide)) _ [] (ee (by decide)) fun es1 c1 h1 => ?_
  refine wpList_insert_made w0 g2 m _ _ t p2 d2 k e K ht (plainElem (H := Unit) P e) 1 _ es1 c1 hm h1 (by decide) _ _ (.int .u8 116) rfl rfl (ke (by decide)) _ [] (ee (by decide)) fun es2 c2 h2 => ?_
  refine wpList_insert_made w0 g3 m _ _ t p3 d3 k e K ht (plainElem (H := Unit) P e) 2 _ es2 c2 hm h2 (by decide) _ _ (.int .u8 48) rfl rfl (ke (by decide)) _ [] (ee (by decide)) fun es3 c3 h3 => ?_
  refine wpList_insert_made w0 g4 m _ _ t p4 d4 k e K ht (plainElem (H := Unit) P e) 3 _ es3 c3 hm h3 (by decide) _ _ (.int .u8 92) rfl rfl (ke (by decide)) _ [] (ee (by decide)) fun es4 c4 h4 => ?_
  exact wpList_insert_made w0 g5 m _ _ t p5 d5 k e K ht (plainElem (H := Unit) P e) 4 _ es4 c4 hm h4 (by decide) _ _ (.int .u8 39) rfl rfl (ke (by decide)) _ [] (ee (by decide)) hK
theorem at_ins {P : Program} {ops : Array Oper} {rest : List Oper} {o : Oper} {a : Act} {w : World} {Q : Exit → Act → World → Prop} {t : TypeId} {m v : Operand} (_h : o.op = Op.insert t m (.const (.int .u8 110)) v) (hk : wpList P ops Q (o :: rest) a w) : wpList P ops Q (o :: rest) a w := hk
theorem byteIndex_any (s : ByteArray) (c : UInt8) (v : Int) (w : World) (h : Lib.indexByte s.data.toList c = v) :
    Calls Tryz.prog 40 #[.string s, .int .u8 c.toNat] w fun e w' => e = .returned (.int .i64 v) ∧ w = w' :=
  (Tryz.strings_IndexByte s c.toNat w).mono fun e w' ⟨he, hw⟩ => ⟨by rw [he]; exact ret_int (by simpa using h), hw.symm⟩
theorem drop_cons (s : ByteArray) (k : Nat) (h : k < s.size) : s.data.toList.drop k = s[k] :: s.data.toList.drop (k + 1) := by
  rw [List.drop_eq_getElem_cons (by simpa using h)]; rfl
def isQ (c : UInt8) : Bool := c.toNat == 39 || c.toNat == 92 || c.toNat == 10
theorem index3 (c : UInt8) : Lib.indexByte [39, 92, 10] c = if c.toNat = 39 then 0 else if c.toNat = 92 then 1 else if c.toNat = 10 then 2 else -1 := by
  have e : ∀ d : UInt8, (d == c) = decide (c.toNat = d.toNat) := fun d => by
    by_cases h : d = c
    · subst h; simp
    · have h2 : ¬ c.toNat = d.toNat := fun e => h (UInt8.toNat_inj.1 e.symm)
      simp [h, h2]
  unfold Lib.indexByte Lib.indexByte Lib.indexByte Lib.indexByte
  rw [e, e, e]
  simp only [decide_eq_true_eq, show (39 : UInt8).toNat = 39 from rfl, show (92 : UInt8).toNat = 92 from rfl, show (10 : UInt8).toNat = 10 from rfl]
  by_cases h1 : c.toNat = 39
  · simp [h1]
  · by_cases h2 : c.toNat = 92
    · simp [h2]
    · by_cases h3 : c.toNat = 10 <;> simp [h1, h2, h3]
theorem quoted_some3 (s : ByteArray) (h2 : 2 < s.size) (a : s[2].toNat = 39) (b : isQ s[1] = false) : Sp.quoted (s.data.toList.drop 1) = some (3, s[1].toNat) := by
  rw [drop_cons s 1 (by omega), drop_cons s 2 h2]
  unfold isQ at b
  simp at b
  simp [Sp.quoted, a, b]
theorem quoted_some4 (s : ByteArray) (h3 : 3 < s.size) (a : s[3].toNat = 39) (b : s[1].toNat = 92) : Sp.quoted (s.data.toList.drop 1) = (escape s[2]).map fun v => (4, v) := by
  rw [drop_cons s 1 (by omega), drop_cons s 2 (by omega), drop_cons s 3 (by omega)]
  simp [Sp.quoted, a, b]
theorem quoted_short (s : ByteArray) (h : s.size ≤ 2) : Sp.quoted (s.data.toList.drop 1) = none := by
  have hl : (s.data.toList.drop 1).length ≤ 1 := by simp; omega
  revert hl
  cases s.data.toList.drop 1 with
  | nil => intro _; rfl
  | cons c t => cases t with
    | nil => intro _; rfl
    | cons d t => intro h; simp at h
theorem quoted_none (s : ByteArray) (h2 : 2 < s.size) (a : s[2].toNat ≠ 39 ∨ isQ s[1] = true) (b : s.size ≤ 3 ∨ ∃ h3 : 3 < s.size, s[3].toNat ≠ 39 ∨ s[1].toNat ≠ 92) : Sp.quoted (s.data.toList.drop 1) = none := by
  rw [drop_cons s 1 (by omega), drop_cons s 2 h2]
  have hn : ¬ (s[2].toNat = 39 ∧ s[1].toNat ≠ 39 ∧ s[1].toNat ≠ 92 ∧ s[1].toNat ≠ 10) := by
    rintro ⟨x, y⟩
    rcases a with a | a
    · exact a x
    · unfold isQ at a; simp at a; omega
  unfold Sp.quoted
  simp only
  rw [if_neg hn]
  rcases b with b | ⟨h3, b⟩
  · rw [List.drop_eq_nil_of_le (by simp; omega)]
  · rw [drop_cons s 3 h3]
    simp only
    rw [if_neg (by omega)]
def QPost (l : List UInt8) (w : World) (e : Ending) (w' : World) : Prop := e = .returned (quotedV (Sp.quoted l)) ∧ Below w.heap.size w w'
theorem quotedV_some {o : Option (Nat × Nat)} {p : Nat × Nat} (h : o = some p) : quotedV o = .tuple #[pieceV 3 p.1 p.2, .int .i64 0] := by rw [h]; rfl
theorem quotedV_none {o : Option (Nat × Nat)} (h : o = none) : quotedV o = .tuple #[pieceV 0 0 0, .int .i64 2] := by rw [h]; rfl
theorem i3_no {c : UInt8} (h : isQ c = false) : Lib.indexByte [39, 92, 10] c = -1 := by rw [index3]; unfold isQ at h; simp at h; simp [h]
def i3 (c : UInt8) : Nat := (Lib.indexByte [39, 92, 10] c).toNat
theorem i3_yes {c : UInt8} (h : isQ c = true) : Lib.indexByte [39, 92, 10] c = (i3 c : Int) := by
  unfold i3; rw [index3]; unfold isQ at h; simp at h
  (repeat' split) <;> simp_all
theorem wf8 (c : UInt8) : (Lit.int .u8 c.toNat).wf = true := by
  have := c.toNat_lt
  exact WalkArith.wf_u8 (by omega)
theorem ownsEsc {w : World} {A : Array Value} {t : TypeId} {es : Array MapEntry} {c : Nat} (h : ((w.alloc (.cells A t)).alloc (.map es c)).ownsMap Tryz.prog 5 (plainElem (H := Unit) Tryz.prog 3) (w.alloc (.cells A t)).heap.size 5 escD) :
    ((w.alloc (.cells A t)).alloc (.map es c)).ownsMap Tryz.prog 5 (plainElem (H := Unit) Tryz.prog 3) (w.heap.size + 1) 5 escD := by simpa using h
theorem escD_eq : escD = .map [(.int .u8 39, .lit (.int .i64 39)), (.int .u8 48, .lit (.int .i64 0)), (.int .u8 92, .lit (.int .i64 92)), (.int .u8 110, .lit (.int .i64 10)), (.int .u8 116, .lit (.int .i64 9))] := by kernel_rfl
theorem escD_at (c : UInt8) : has escD (.int .u8 c.toNat) = (escape c).isSome ∧ escD.atKey (.int .u8 c.toNat) (.lit (.int .i64 0)) = .lit (.int .i64 ((escape c).getD 0 : Nat)) := by
  rw [escD_eq]
  unfold escape
  by_cases h1 : c.toNat = 110
  · rw [h1]; constructor <;> kernel_rfl
  · by_cases h2 : c.toNat = 116
    · rw [h2]; constructor <;> kernel_rfl
    · by_cases h3 : c.toNat = 48
      · rw [h3]; constructor <;> kernel_rfl
      · by_cases h4 : c.toNat = 92
        · rw [h4]; constructor <;> kernel_rfl
        · by_cases h5 : c.toNat = 39
          · rw [h5]; constructor <;> kernel_rfl
          · have e : ∀ n : Nat, c.toNat ≠ n → Lit.sameKey (.int .u8 (n : Int)) (.int .u8 (c.toNat : Int)) = false := fun n hn => by
              simp [Lit.sameKey]; omega
            have e1 := e 110 h1; have e2 := e 116 h2; have e3 := e 48 h3; have e4 := e 92 h4; have e5 := e 39 h5
            simp only [Int.cast_ofNat_Int] at e1 e2 e3 e4 e5
            simp [has, DataW.atKey, List.find?, e1, e2, e3, e4, e5, h1, h2, h3, h4, h5]
def cvOf (c : UInt8) : Nat := (escape c).getD 0
theorem escCv {c : UInt8} {cv : Int} (h : escD.atKey (.int .u8 c.toNat) (.lit (.int .i64 0)) = .lit (.int .i64 cv)) : cv = (cvOf c : Int) := by
  rw [(escD_at c).2] at h
  simp at h
  exact h.symm
set_option maxHeartbeats 1000000 in
theorem quoted_A (s : ByteArray) (w : World) (hs : s.size ≤ maxLen) (h2 : 2 < s.size) (a : s[2].toNat = 39) (b : isQ s[1] = false) :
    Calls Tryz.prog 46 #[.string s] w (QPost (s.data.toList.drop 1) w) := by
  have hmm := @run_makeMap Tryz.prog
  have HQ := Lib.hid (quoted_some3 s h2 a b)
  have H1 := Lib.hid (i3_no b)
  have b2 : (((s[2].toNat : Nat) : Int) == 39) = true := beq_t a
  have hu1 := s[1].toNat_lt
  clear a b
  go_enter Tryz.func46, Tryz.ntmps46
  go_wp2_with (first | ((with_reducible refine at_ins rfl ?_); (refine wpList_escapes _ _ 117 5 3 law8 Tryz.underlying117 Tryz.underlying5 Tryz.underlying3 (w.heap.size + 1) ?hb ?hm rfl rfl rfl rfl rfl rfl rfl rfl rfl rfl rfl rfl rfl rfl rfl ?hk; (case hm => rfl); (case hb => simp); intro es c hown; clear hown)) | ((with_reducible refine (byteIndex_any _ _ (-1) _ H1.out).mono ?_); rintro e w' ⟨rfl, rfl⟩))
  exact bodyPost_ret (v := .tuple #[.agg #[.int .i64 3, .int .i64 3, .int .i64 s[1].toNat], .int .i64 0]) (by simp [results, Tryz.results46, go_sem]) rfl ⟨ret_eq (by rw [quotedV_some HQ.out]; rfl), ((Below.refl _ _).alloc (Nat.le_refl _) _).alloc (by simp) _⟩
set_option maxHeartbeats 1000000 in
theorem quoted_B2ty (s : ByteArray) (w : World) (hs : s.size ≤ maxLen) (h3 : 3 < s.size) (a : s[3].toNat = 39) (b : s[1].toNat = 92) (a2 : s[2].toNat = 39) (he : ∃ v, escape s[2] = some v) :
    Calls Tryz.prog 46 #[.string s] w (QPost (s.data.toList.drop 1) w) := by
  have hmm := @run_makeMap Tryz.prog
  obtain ⟨v, he⟩ := he
  have hq := quoted_some4 s h3 a b
  rw [he] at hq
  have HQ := Lib.hid hq
  have hv : cvOf s[2] = v := by unfold cvOf; rw [he]; rfl
  have HV := Lib.hid hv
  have hh : has escD (.int .u8 (s[2].toNat : Int)) = true := by rw [(escD_at _).1, he]; rfl
  clear hq hv he
  have hn1 : isQ s[1] = true := by unfold isQ; simp [b]
  have H1 := Lib.hid (i3_yes hn1)
  have hi3 : (0 : Int) ≤ (i3 s[1] : Int) := Int.natCast_nonneg _
  have b3 : (((s[3].toNat : Nat) : Int) == 39) = true := beq_t a
  have b1 : (((s[1].toNat : Nat) : Int) == 92) = true := beq_t b
  clear hn1 a b
  have b2 : (((s[2].toNat : Nat) : Int) == 39) = true := beq_t a2
  clear a2
  go_enter Tryz.func46, Tryz.ntmps46
  go_wp2_with (first | ((with_reducible refine at_ins rfl ?_); (refine wpList_escapes _ _ 117 5 3 law8 Tryz.underlying117 Tryz.underlying5 Tryz.underlying3 (w.heap.size + 1) ?hb ?hm rfl rfl rfl rfl rfl rfl rfl rfl rfl rfl rfl rfl rfl rfl rfl ?hk; (case hm => rfl); (case hb => simp); intro es c hown; have hown' := ownsEsc hown; clear hown)) | ((with_reducible refine (byteIndex_any _ _ (i3 s[1]) _ H1.out).mono ?_); rintro e w' ⟨rfl, rfl⟩) | (at_lookup; refine wpList_lookup_own_ok_int _ rfl _ _ 117 rfl 5 3 .i64 law8 Tryz.underlying117 Tryz.underlying3 (zero64 _) (w.heap.size + 1) 5 escD rfl (by assumption) _ _ rfl (key8 (wf8 _)) ?_; intro cv hat hwc; have hcv := escCv hat; clear hat hwc; subst hcv))
  exact bodyPost_ret (v := .tuple #[.agg #[.int .i64 3, .int .i64 4, .int .i64 (cvOf s[2])], .int .i64 0]) (by simp [results, Tryz.results46, go_sem]) rfl ⟨ret_eq (by rw [quotedV_some HQ.out, HV.out]; rfl), ((Below.refl _ _).alloc (Nat.le_refl _) _).alloc (by simp) _⟩
set_option maxHeartbeats 1000000 in
theorem quoted_B2tn (s : ByteArray) (w : World) (hs : s.size ≤ maxLen) (h3 : 3 < s.size) (a : s[3].toNat = 39) (b : s[1].toNat = 92) (a2 : s[2].toNat = 39) (he : escape s[2] = none) :
    Calls Tryz.prog 46 #[.string s] w (QPost (s.data.toList.drop 1) w) := by
  have hmm := @run_makeMap Tryz.prog
  have hq := quoted_some4 s h3 a b
  rw [he] at hq
  have HQ := Lib.hid hq
  have hh : has escD (.int .u8 (s[2].toNat : Int)) = false := by rw [(escD_at _).1, he]; rfl
  clear hq he
  have hn1 : isQ s[1] = true := by unfold isQ; simp [b]
  have H1 := Lib.hid (i3_yes hn1)
  have hi3 : (0 : Int) ≤ (i3 s[1] : Int) := Int.natCast_nonneg _
  have b3 : (((s[3].toNat : Nat) : Int) == 39) = true := beq_t a
  have b1 : (((s[1].toNat : Nat) : Int) == 92) = true := beq_t b
  clear hn1 a b
  have b2 : (((s[2].toNat : Nat) : Int) == 39) = true := beq_t a2
  clear a2
  go_enter Tryz.func46, Tryz.ntmps46
  go_wp2_with (first | ((with_reducible refine at_ins rfl ?_); (refine wpList_escapes _ _ 117 5 3 law8 Tryz.underlying117 Tryz.underlying5 Tryz.underlying3 (w.heap.size + 1) ?hb ?hm rfl rfl rfl rfl rfl rfl rfl rfl rfl rfl rfl rfl rfl rfl rfl ?hk; (case hm => rfl); (case hb => simp); intro es c hown; have hown' := ownsEsc hown; clear hown)) | ((with_reducible refine (byteIndex_any _ _ (i3 s[1]) _ H1.out).mono ?_); rintro e w' ⟨rfl, rfl⟩) | (at_lookup; refine wpList_lookup_own_ok_int _ rfl _ _ 117 rfl 5 3 .i64 law8 Tryz.underlying117 Tryz.underlying3 (zero64 _) (w.heap.size + 1) 5 escD rfl (by assumption) _ _ rfl (key8 (wf8 _)) ?_; intro cv hat hwc; have hcv := escCv hat; clear hat hwc; subst hcv))
  exact bodyPost_ret (v := .tuple #[.agg #[.int .i64 0, .int .i64 0, .int .i64 0], .int .i64 2]) (by simp [results, Tryz.results46, go_sem]) rfl ⟨ret_eq (by rw [quotedV_none HQ.out]; rfl), ((Below.refl _ _).alloc (Nat.le_refl _) _).alloc (by simp) _⟩
set_option maxHeartbeats 1000000 in
theorem quoted_B2fy (s : ByteArray) (w : World) (hs : s.size ≤ maxLen) (h3 : 3 < s.size) (a : s[3].toNat = 39) (b : s[1].toNat = 92) (a2 : s[2].toNat ≠ 39) (he : ∃ v, escape s[2] = some v) :
    Calls Tryz.prog 46 #[.string s] w (QPost (s.data.toList.drop 1) w) := by
  have hmm := @run_makeMap Tryz.prog
  obtain ⟨v, he⟩ := he
  have hq := quoted_some4 s h3 a b
  rw [he] at hq
  have HQ := Lib.hid hq
  have hv : cvOf s[2] = v := by unfold cvOf; rw [he]; rfl
  have HV := Lib.hid hv
  have hh : has escD (.int .u8 (s[2].toNat : Int)) = true := by rw [(escD_at _).1, he]; rfl
  clear hq hv he
  have hn1 : isQ s[1] = true := by unfold isQ; simp [b]
  have H1 := Lib.hid (i3_yes hn1)
  have hi3 : (0 : Int) ≤ (i3 s[1] : Int) := Int.natCast_nonneg _
  have b3 : (((s[3].toNat : Nat) : Int) == 39) = true := beq_t a
  have b1 : (((s[1].toNat : Nat) : Int) == 92) = true := beq_t b
  clear hn1 a b
  have b2 : (((s[2].toNat : Nat) : Int) == 39) = false := beq_f a2
  clear a2
  go_enter Tryz.func46, Tryz.ntmps46
  go_wp2_with (first | ((with_reducible refine at_ins rfl ?_); (refine wpList_escapes _ _ 117 5 3 law8 Tryz.underlying117 Tryz.underlying5 Tryz.underlying3 (w.heap.size + 1) ?hb ?hm rfl rfl rfl rfl rfl rfl rfl rfl rfl rfl rfl rfl rfl rfl rfl ?hk; (case hm => rfl); (case hb => simp); intro es c hown; have hown' := ownsEsc hown; clear hown)) | (at_lookup; refine wpList_lookup_own_ok_int _ rfl _ _ 117 rfl 5 3 .i64 law8 Tryz.underlying117 Tryz.underlying3 (zero64 _) (w.heap.size + 1) 5 escD rfl (by assumption) _ _ rfl (key8 (wf8 _)) ?_; intro cv hat hwc; have hcv := escCv hat; clear hat hwc; subst hcv))
  exact bodyPost_ret (v := .tuple #[.agg #[.int .i64 3, .int .i64 4, .int .i64 (cvOf s[2])], .int .i64 0]) (by simp [results, Tryz.results46, go_sem]) rfl ⟨ret_eq (by rw [quotedV_some HQ.out, HV.out]; rfl), ((Below.refl _ _).alloc (Nat.le_refl _) _).alloc (by simp) _⟩
set_option maxHeartbeats 1000000 in
theorem quoted_B2fn (s : ByteArray) (w : World) (hs : s.size ≤ maxLen) (h3 : 3 < s.size) (a : s[3].toNat = 39) (b : s[1].toNat = 92) (a2 : s[2].toNat ≠ 39) (he : escape s[2] = none) :
    Calls Tryz.prog 46 #[.string s] w (QPost (s.data.toList.drop 1) w) := by
  have hmm := @run_makeMap Tryz.prog
  have hq := quoted_some4 s h3 a b
  rw [he] at hq
  have HQ := Lib.hid hq
  have hh : has escD (.int .u8 (s[2].toNat : Int)) = false := by rw [(escD_at _).1, he]; rfl
  clear hq he
  have hn1 : isQ s[1] = true := by unfold isQ; simp [b]
  have H1 := Lib.hid (i3_yes hn1)
  have hi3 : (0 : Int) ≤ (i3 s[1] : Int) := Int.natCast_nonneg _
  have b3 : (((s[3].toNat : Nat) : Int) == 39) = true := beq_t a
  have b1 : (((s[1].toNat : Nat) : Int) == 92) = true := beq_t b
  clear hn1 a b
  have b2 : (((s[2].toNat : Nat) : Int) == 39) = false := beq_f a2
  clear a2
  go_enter Tryz.func46, Tryz.ntmps46
  go_wp2_with (first | ((with_reducible refine at_ins rfl ?_); (refine wpList_escapes _ _ 117 5 3 law8 Tryz.underlying117 Tryz.underlying5 Tryz.underlying3 (w.heap.size + 1) ?hb ?hm rfl rfl rfl rfl rfl rfl rfl rfl rfl rfl rfl rfl rfl rfl rfl ?hk; (case hm => rfl); (case hb => simp); intro es c hown; have hown' := ownsEsc hown; clear hown)) | (at_lookup; refine wpList_lookup_own_ok_int _ rfl _ _ 117 rfl 5 3 .i64 law8 Tryz.underlying117 Tryz.underlying3 (zero64 _) (w.heap.size + 1) 5 escD rfl (by assumption) _ _ rfl (key8 (wf8 _)) ?_; intro cv hat hwc; have hcv := escCv hat; clear hat hwc; subst hcv))
  exact bodyPost_ret (v := .tuple #[.agg #[.int .i64 0, .int .i64 0, .int .i64 0], .int .i64 2]) (by simp [results, Tryz.results46, go_sem]) rfl ⟨ret_eq (by rw [quotedV_none HQ.out]; rfl), ((Below.refl _ _).alloc (Nat.le_refl _) _).alloc (by simp) _⟩
set_option maxHeartbeats 1000000 in
theorem quoted_N0 (s : ByteArray) (w : World) (hs : s.size ≤ maxLen) (h : s.size ≤ 2) (hq : Sp.quoted (s.data.toList.drop 1) = none) :
    Calls Tryz.prog 46 #[.string s] w (QPost (s.data.toList.drop 1) w) := by
  have hmm := @run_makeMap Tryz.prog
  have HQ := Lib.hid hq; clear hq
  have hd2 : decide ((2 : Int) < (s.size : Int)) = false := by simp; omega
  have hd3 : decide ((3 : Int) < (s.size : Int)) = false := by simp; omega
  go_enter Tryz.func46, Tryz.ntmps46
  go_wp2_with (first | ((with_reducible refine at_ins rfl ?_); (refine wpList_escapes _ _ 117 5 3 law8 Tryz.underlying117 Tryz.underlying5 Tryz.underlying3 (w.heap.size + 1) ?hb ?hm rfl rfl rfl rfl rfl rfl rfl rfl rfl rfl rfl rfl rfl rfl rfl ?hk; (case hm => rfl); (case hb => simp); intro es c hown; clear hown)))
  exact bodyPost_ret (v := .tuple #[.agg #[.int .i64 0, .int .i64 0, .int .i64 0], .int .i64 2]) (by simp [results, Tryz.results46, go_sem]) rfl ⟨ret_eq (by rw [quotedV_none HQ.out]; rfl), ((Below.refl _ _).alloc (Nat.le_refl _) _).alloc (by simp) _⟩
set_option maxHeartbeats 1000000 in
theorem quoted_Nfs (s : ByteArray) (w : World) (hs : s.size ≤ maxLen) (h2 : 2 < s.size) (h3 : s.size ≤ 3) (a2 : s[2].toNat ≠ 39) (hq : Sp.quoted (s.data.toList.drop 1) = none) :
    Calls Tryz.prog 46 #[.string s] w (QPost (s.data.toList.drop 1) w) := by
  have hmm := @run_makeMap Tryz.prog
  have HQ := Lib.hid hq; clear hq
  have b2 : (((s[2].toNat : Nat) : Int) == 39) = false := beq_f a2
  clear a2
  have hd3 : decide ((3 : Int) < (s.size : Int)) = false := by simp; omega
  go_enter Tryz.func46, Tryz.ntmps46
  go_wp2_with (first | ((with_reducible refine at_ins rfl ?_); (refine wpList_escapes _ _ 117 5 3 law8 Tryz.underlying117 Tryz.underlying5 Tryz.underlying3 (w.heap.size + 1) ?hb ?hm rfl rfl rfl rfl rfl rfl rfl rfl rfl rfl rfl rfl rfl rfl rfl ?hk; (case hm => rfl); (case hb => simp); intro es c hown; clear hown)))
  exact bodyPost_ret (v := .tuple #[.agg #[.int .i64 0, .int .i64 0, .int .i64 0], .int .i64 2]) (by simp [results, Tryz.results46, go_sem]) rfl ⟨ret_eq (by rw [quotedV_none HQ.out]; rfl), ((Below.refl _ _).alloc (Nat.le_refl _) _).alloc (by simp) _⟩
set_option maxHeartbeats 1000000 in
theorem quoted_Nft (s : ByteArray) (w : World) (hs : s.size ≤ maxLen) (h3 : 3 < s.size) (c3 : s[3].toNat ≠ 39) (a2 : s[2].toNat ≠ 39) (hq : Sp.quoted (s.data.toList.drop 1) = none) :
    Calls Tryz.prog 46 #[.string s] w (QPost (s.data.toList.drop 1) w) := by
  have hmm := @run_makeMap Tryz.prog
  have HQ := Lib.hid hq; clear hq
  have b2 : (((s[2].toNat : Nat) : Int) == 39) = false := beq_f a2
  clear a2
  have b3 : (((s[3].toNat : Nat) : Int) == 39) = false := beq_f c3
  clear c3
  go_enter Tryz.func46, Tryz.ntmps46
  go_wp2_with (first | ((with_reducible refine at_ins rfl ?_); (refine wpList_escapes _ _ 117 5 3 law8 Tryz.underlying117 Tryz.underlying5 Tryz.underlying3 (w.heap.size + 1) ?hb ?hm rfl rfl rfl rfl rfl rfl rfl rfl rfl rfl rfl rfl rfl rfl rfl ?hk; (case hm => rfl); (case hb => simp); intro es c hown; clear hown)))
  exact bodyPost_ret (v := .tuple #[.agg #[.int .i64 0, .int .i64 0, .int .i64 0], .int .i64 2]) (by simp [results, Tryz.results46, go_sem]) rfl ⟨ret_eq (by rw [quotedV_none HQ.out]; rfl), ((Below.refl _ _).alloc (Nat.le_refl _) _).alloc (by simp) _⟩
set_option maxHeartbeats 1000000 in
theorem quoted_Nfo (s : ByteArray) (w : World) (hs : s.size ≤ maxLen) (h3 : 3 < s.size) (c3 : s[3].toNat = 39) (c1 : s[1].toNat ≠ 92) (a2 : s[2].toNat ≠ 39) (hq : Sp.quoted (s.data.toList.drop 1) = none) :
    Calls Tryz.prog 46 #[.string s] w (QPost (s.data.toList.drop 1) w) := by
  have hmm := @run_makeMap Tryz.prog
  have HQ := Lib.hid hq; clear hq
  have b2 : (((s[2].toNat : Nat) : Int) == 39) = false := beq_f a2
  clear a2
  have b3 : (((s[3].toNat : Nat) : Int) == 39) = true := beq_t c3
  have b1 : (((s[1].toNat : Nat) : Int) == 92) = false := beq_f c1
  clear c3 c1
  go_enter Tryz.func46, Tryz.ntmps46
  go_wp2_with (first | ((with_reducible refine at_ins rfl ?_); (refine wpList_escapes _ _ 117 5 3 law8 Tryz.underlying117 Tryz.underlying5 Tryz.underlying3 (w.heap.size + 1) ?hb ?hm rfl rfl rfl rfl rfl rfl rfl rfl rfl rfl rfl rfl rfl rfl rfl ?hk; (case hm => rfl); (case hb => simp); intro es c hown; clear hown)))
  exact bodyPost_ret (v := .tuple #[.agg #[.int .i64 0, .int .i64 0, .int .i64 0], .int .i64 2]) (by simp [results, Tryz.results46, go_sem]) rfl ⟨ret_eq (by rw [quotedV_none HQ.out]; rfl), ((Below.refl _ _).alloc (Nat.le_refl _) _).alloc (by simp) _⟩
set_option maxHeartbeats 1000000 in
theorem quoted_Nqs (s : ByteArray) (w : World) (hs : s.size ≤ maxLen) (h2 : 2 < s.size) (h3 : s.size ≤ 3) (a2 : s[2].toNat = 39) (a1 : isQ s[1] = true) (hq : Sp.quoted (s.data.toList.drop 1) = none) :
    Calls Tryz.prog 46 #[.string s] w (QPost (s.data.toList.drop 1) w) := by
  have hmm := @run_makeMap Tryz.prog
  have HQ := Lib.hid hq; clear hq
  have b2 : (((s[2].toNat : Nat) : Int) == 39) = true := beq_t a2
  have H1 := Lib.hid (i3_yes a1)
  have hi3 : (0 : Int) ≤ (i3 s[1] : Int) := Int.natCast_nonneg _
  clear a2 a1
  have hd3 : decide ((3 : Int) < (s.size : Int)) = false := by simp; omega
  go_enter Tryz.func46, Tryz.ntmps46
  go_wp2_with (first | ((with_reducible refine at_ins rfl ?_); (refine wpList_escapes _ _ 117 5 3 law8 Tryz.underlying117 Tryz.underlying5 Tryz.underlying3 (w.heap.size + 1) ?hb ?hm rfl rfl rfl rfl rfl rfl rfl rfl rfl rfl rfl rfl rfl rfl rfl ?hk; (case hm => rfl); (case hb => simp); intro es c hown; clear hown)) | ((with_reducible refine (byteIndex_any _ _ (i3 s[1]) _ H1.out).mono ?_); rintro e w' ⟨rfl, rfl⟩))
  exact bodyPost_ret (v := .tuple #[.agg #[.int .i64 0, .int .i64 0, .int .i64 0], .int .i64 2]) (by simp [results, Tryz.results46, go_sem]) rfl ⟨ret_eq (by rw [quotedV_none HQ.out]; rfl), ((Below.refl _ _).alloc (Nat.le_refl _) _).alloc (by simp) _⟩
set_option maxHeartbeats 1000000 in
theorem quoted_Nqt (s : ByteArray) (w : World) (hs : s.size ≤ maxLen) (h3 : 3 < s.size) (c3 : s[3].toNat ≠ 39) (a2 : s[2].toNat = 39) (a1 : isQ s[1] = true) (hq : Sp.quoted (s.data.toList.drop 1) = none) :
    Calls Tryz.prog 46 #[.string s] w (QPost (s.data.toList.drop 1) w) := by
  have hmm := @run_makeMap Tryz.prog
  have HQ := Lib.hid hq; clear hq
  have b2 : (((s[2].toNat : Nat) : Int) == 39) = true := beq_t a2
  have H1 := Lib.hid (i3_yes a1)
  have hi3 : (0 : Int) ≤ (i3 s[1] : Int) := Int.natCast_nonneg _
  clear a2 a1
  have b3 : (((s[3].toNat : Nat) : Int) == 39) = false := beq_f c3
  clear c3
  go_enter Tryz.func46, Tryz.ntmps46
  go_wp2_with (first | ((with_reducible refine at_ins rfl ?_); (refine wpList_escapes _ _ 117 5 3 law8 Tryz.underlying117 Tryz.underlying5 Tryz.underlying3 (w.heap.size + 1) ?hb ?hm rfl rfl rfl rfl rfl rfl rfl rfl rfl rfl rfl rfl rfl rfl rfl ?hk; (case hm => rfl); (case hb => simp); intro es c hown; clear hown)) | ((with_reducible refine (byteIndex_any _ _ (i3 s[1]) _ H1.out).mono ?_); rintro e w' ⟨rfl, rfl⟩))
  exact bodyPost_ret (v := .tuple #[.agg #[.int .i64 0, .int .i64 0, .int .i64 0], .int .i64 2]) (by simp [results, Tryz.results46, go_sem]) rfl ⟨ret_eq (by rw [quotedV_none HQ.out]; rfl), ((Below.refl _ _).alloc (Nat.le_refl _) _).alloc (by simp) _⟩
set_option maxHeartbeats 1000000 in
theorem quoted_Nqo (s : ByteArray) (w : World) (hs : s.size ≤ maxLen) (h3 : 3 < s.size) (c3 : s[3].toNat = 39) (c1 : s[1].toNat ≠ 92) (a2 : s[2].toNat = 39) (a1 : isQ s[1] = true) (hq : Sp.quoted (s.data.toList.drop 1) = none) :
    Calls Tryz.prog 46 #[.string s] w (QPost (s.data.toList.drop 1) w) := by
  have hmm := @run_makeMap Tryz.prog
  have HQ := Lib.hid hq; clear hq
  have b2 : (((s[2].toNat : Nat) : Int) == 39) = true := beq_t a2
  have H1 := Lib.hid (i3_yes a1)
  have hi3 : (0 : Int) ≤ (i3 s[1] : Int) := Int.natCast_nonneg _
  clear a2 a1
  have b3 : (((s[3].toNat : Nat) : Int) == 39) = true := beq_t c3
  have b1 : (((s[1].toNat : Nat) : Int) == 92) = false := beq_f c1
  clear c3 c1
  go_enter Tryz.func46, Tryz.ntmps46
  go_wp2_with (first | ((with_reducible refine at_ins rfl ?_); (refine wpList_escapes _ _ 117 5 3 law8 Tryz.underlying117 Tryz.underlying5 Tryz.underlying3 (w.heap.size + 1) ?hb ?hm rfl rfl rfl rfl rfl rfl rfl rfl rfl rfl rfl rfl rfl rfl rfl ?hk; (case hm => rfl); (case hb => simp); intro es c hown; clear hown)) | ((with_reducible refine (byteIndex_any _ _ (i3 s[1]) _ H1.out).mono ?_); rintro e w' ⟨rfl, rfl⟩))
  exact bodyPost_ret (v := .tuple #[.agg #[.int .i64 0, .int .i64 0, .int .i64 0], .int .i64 2]) (by simp [results, Tryz.results46, go_sem]) rfl ⟨ret_eq (by rw [quotedV_none HQ.out]; rfl), ((Below.refl _ _).alloc (Nat.le_refl _) _).alloc (by simp) _⟩
theorem quoted_any (s : ByteArray) (w : World) (hs : s.size ≤ maxLen) : Calls Tryz.prog 46 #[.string s] w (QPost (s.data.toList.drop 1) w) := by
  by_cases h2 : 2 < s.size
  · by_cases hA : s[2].toNat = 39 ∧ isQ s[1] = false
    · exact quoted_A s w hs h2 hA.1 hA.2
    · by_cases hB : ∃ h3 : 3 < s.size, s[3].toNat = 39 ∧ s[1].toNat = 92
      · obtain ⟨h3, a3, a1⟩ := hB
        cases he : escape s[2] with
        | none =>
          by_cases a2 : s[2].toNat = 39
          · exact quoted_B2tn s w hs h3 a3 a1 a2 he
          · exact quoted_B2fn s w hs h3 a3 a1 a2 he
        | some v =>
          by_cases a2 : s[2].toNat = 39
          · exact quoted_B2ty s w hs h3 a3 a1 a2 ⟨v, he⟩
          · exact quoted_B2fy s w hs h3 a3 a1 a2 ⟨v, he⟩
      · have hq : Sp.quoted (s.data.toList.drop 1) = none := by
          refine quoted_none s h2 ?_ ?_
          · by_cases a2 : s[2].toNat = 39
            · right; cases hq : isQ s[1] with
              | true => rfl
              | false => exact absurd ⟨a2, hq⟩ hA
            · exact .inl a2
          · by_cases h3 : 3 < s.size
            · right; refine ⟨h3, ?_⟩
              by_cases a3 : s[3].toNat = 39
              · right; intro a1; exact hB ⟨h3, a3, a1⟩
              · exact .inl a3
            · left; omega
        by_cases a2 : s[2].toNat = 39
        · have a1 : isQ s[1] = true := by
            cases hq : isQ s[1] with
            | true => rfl
            | false => exact absurd ⟨a2, hq⟩ hA
          by_cases h3 : 3 < s.size
          · by_cases a3 : s[3].toNat = 39
            · exact quoted_Nqo s w hs h3 a3 (fun a1 => hB ⟨h3, a3, a1⟩) a2 a1 hq
            · exact quoted_Nqt s w hs h3 a3 a2 a1 hq
          · exact quoted_Nqs s w hs h2 (by omega) a2 a1 hq
        · by_cases h3 : 3 < s.size
          · by_cases a3 : s[3].toNat = 39
            · exact quoted_Nfo s w hs h3 a3 (fun a1 => hB ⟨h3, a3, a1⟩) a2 hq
            · exact quoted_Nft s w hs h3 a3 a2 hq
          · exact quoted_Nfs s w hs h2 (by omega) a2 hq
  · exact quoted_N0 s w hs (by omega) (quoted_short s (by omega))
theorem quoted_yes (s : ByteArray) (p : Nat × Nat) (w : World) (hs : s.size ≤ maxLen) (h : Sp.quoted (s.data.toList.drop 1) = some p) :
    Calls Tryz.prog 46 #[.string s] w fun e w' => e = .returned (.tuple #[pieceV 3 p.1 p.2, .int .i64 0]) ∧ Below w.heap.size w w' :=
  (quoted_any s w hs).mono fun e w' ⟨he, hw⟩ => ⟨by rw [he, quotedV_some h], hw⟩
theorem quoted_no (s : ByteArray) (w : World) (hs : s.size ≤ maxLen) (h : Sp.quoted (s.data.toList.drop 1) = none) :
    Calls Tryz.prog 46 #[.string s] w fun e w' => e = .returned (.tuple #[pieceV 0 0 0, .int .i64 2]) ∧ Below w.heap.size w w' :=
  (quoted_any s w hs).mono fun e w' ⟨he, hw⟩ => ⟨by rw [he, quotedV_none h], hw⟩
end Go.Proofs.YtaamllikceaifaaGreatDoor
