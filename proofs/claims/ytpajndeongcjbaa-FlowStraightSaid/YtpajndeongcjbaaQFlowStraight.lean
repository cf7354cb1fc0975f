/-
  FlowStraight: in a row of Consts and operations without jumps all registers are known, and the row is folded to what the operations tell.
-/
import Derived.Test.YtpajndeongcjbaaQG11StrM
import Derived.Test.YtpajndeongcjbaaLast2
import Derived.Test.YtpajndeongcjbaaQLO
import Derived.Deep.RegionLaw
import Derived.Deep.RegionWith
import Derived.BigRegion
import Derived.Deep.CutRange
import Derived.Deep.DeepCutAuto
import Derived.BigQuiet
import Derived.Test.YtpajndeongcjbaaQG11Str
import Derived.Test.YtpajndeongcjbaaQLM
import Derived.Test.YtpajndeongcjbaaQG11Clone
import Derived.Test.YtpajndeongcjbaaQG11Open
namespace Go.Proofs.Ytpajndeongcjbaa
set_option maxRecDepth 100000
open Go.RowKit Cd
set_option linter.unusedVariables false
set_option linter.unusedSimpArgs false

set_option maxHeartbeats 8000000 in
theorem straight_few (sa : Option Addr) (l : List Qd) (sc : Nat) (W : World) (hl : 20 < l.length) : Calls Try.prog 9 #[.slice sa l.length sc] W (RPost (.bool true) W) := by
  have h20 : (20 : Int) < (l.length : Int) := by omega
  go_enter Try.func9, Try.ntmps9
  go_wp2_with ((with_reducible refine (awake11_any _).mono ?_); rintro e w2 ⟨rfl, hb2⟩; have HB2 := Lib.hid hb2; clear hb2)
  go_ret
  exact ⟨rfl, HB2.out⟩
theorem quad_cells {w : World} {B : Nat} {a : Option Addr} {l : List Qd} (h : RowAt w B a (l.flatMap qdCells)) {k : Nat} {q : Qd} (hk : l[k]? = some q) : ∃ b off, a = some ⟨b, off, none⟩ ∧ b < B ∧ B ≤ w.heap.size ∧ w.cell? ⟨b, off + k * 4, none⟩ = some (.int .u8 q.k) ∧ w.cell? ⟨b, off + k * 4 + 1, none⟩ = some (.int .u8 q.d) ∧ w.cell? ⟨b, off + k * 4 + 2, none⟩ = some (.int .u8 q.a) ∧ w.cell? ⟨b, off + k * 4 + 3, none⟩ = some (.int .u8 q.b) := by
  obtain ⟨b, off, ha, hb, hB, hc⟩ := RowAt.item qdCells_len h hk (by omega)
  exact ⟨b, off, ha, hb, hB, hc 0 _ rfl, hc 1 _ rfl, hc 2 _ rfl, hc 3 _ rfl⟩
def OpQ (op : Int) : Prop := 1 ≤ op ∧ op ≤ 19 ∧ (op < 4 ∨ 7 < op)
theorem OkQ.c {k : Nat} (h0 : (0 : Int) ≤ (k : Int)) (h1 : (k : Int) < 10) (h2 : -5 ≤ 3 * (k : Int) - 5) (h3 : 3 * (k : Int) - 5 ≤ 30) : OkQ (cQ (k : Int) (3 * (k : Int) - 5)) := by
  refine ⟨.inl rfl, ⟨h0, h1⟩, fun h => absurd h (by show ¬ (1 : Int) = 3; decide), fun h => absurd h (by show ¬ (1 : Int) = 3; decide), fun h => absurd h (by show ¬ (1 : Int) = 3; decide), fun _ => ?_, ?_⟩
  · show isW (3 * (k : Int) - 5) = true
    unfold isW
    simp
    omega
  · simp [plainOf, cQ, ifI]
theorem okQ_b {op : Int} {d a b : Nat} (h : OpQ op) (ha : a < 10) (hb : b < 10) (hd : d < 10) : OkQ (bQ op (d : Int) (a : Int) (b : Int)) := by
  unfold OpQ at h
  refine ⟨.inr rfl, ⟨Int.natCast_nonneg _, by show (d : Int) < 10; omega⟩, fun _ => ⟨Int.natCast_nonneg _, by show (a : Int) < 10; omega⟩, fun _ => ⟨Int.natCast_nonneg _, by show (b : Int) < 10; omega⟩, fun _ => ⟨⟨h.1, h.2.1⟩, fun y => ?_⟩, fun e => absurd e (by show ¬ (3 : Int) = 1; decide), ?_⟩
  · show doB op y = true
    unfold doB
    exact decide_eq_true ⟨⟨h.1, by omega⟩, fun hh => by omega⟩
  · simp [plainOf, bQ, ifI, readsA, readsB]
theorem QSt.drew {w0 w : World} {is : List Ins} {rs : List Int} {v : Value} (h : QSt w0 w is rs v) : QSt w0 w.drew is rs v := ⟨h.fb, h.rb, h.rl, h.own, drW h.hb⟩
theorem QSt.drewN {w0 w : World} {is : List Ins} {rs : List Int} {v : Value} (h : QSt w0 w is rs v) (n : Nat) : QSt w0 (w.drewN n) is rs v := ⟨h.fb, h.rb, h.rl, h.own, h.hb.trans ⟨rfl, rfl, rfl, Nat.le_refl _, fun _ _ => rfl⟩⟩
theorem q_fnk {W w' : World} {is : List Ins} {rs : List Int} {g cap : Nat} (hl : is.length ≤ 25) (h : QSt W w' (is ++ [plainI 13]) rs (.slice (some ⟨g, 0, none⟩) (is.length + 1) cap)) : FnK w' ⟨funQ is, some ⟨g, 0, none⟩, cap⟩ := by
  have hown := h.own
  have e : (is ++ [plainI 13]).length = is.length + 1 := by simp
  rw [e] at hown
  refine ⟨own_rowQ hown, ?_⟩
  show (is ++ [retQ]).length ≤ maxLen
  unfold maxLen
  simp
  omega
theorem q_val (is : List Ins) (a : Option Addr) (cap : Nat) : fnV ⟨funQ is, a, cap⟩ = .agg #[.string ⟨#[102]⟩, .int .i64 0, .int .i64 10, .int .i64 0, .slice a (is.length + 1) cap] := by
  have e : (funQ is).code.length = is.length + 1 := by show (is ++ [retQ]).length = _; simp
  simp only [fnV]
  rw [e]
  rfl
theorem q_ahead {W w' : World} {is : List Ins} {rs : List Int} {g cap : Nat} (hO : ∀ i ∈ is, OkQ i) (hl : is.length ≤ 25) (h : QSt W w' (is ++ [plainI 13]) rs (.slice (some ⟨g, 0, none⟩) (is.length + 1) cap)) :
    Calls Try.prog 41 #[.agg #[.string ⟨#[102]⟩, .int .i64 0, .int .i64 10, .int .i64 0, .slice (some ⟨g, 0, none⟩) (is.length + 1) cap]] w' (fun e w2 => ∃ ta tc, e = .returned (.slice ta (is.length + 1) tc) ∧ TabAt w2 w'.heap.size ta (rowsQ (List.replicate 10 0) is) ∧ Below w'.heap.size w' w2) := by
  have hR := funQ_right hO (by omega)
  obtain ⟨S, hS⟩ := sol_exists hR
  have hSq := solQ hO (by omega) hS
  have e : (funQ is).code.length = is.length + 1 := by show (is ++ [retQ]).length = _; simp
  have hh := ahead_s (r := ⟨funQ is, some ⟨g, 0, none⟩, cap⟩) (q_fnk hl h) hR (by show (funQ is).code.length * 11 ≤ _; rw [e]; omega) hS
  rw [q_val] at hh
  refine hh.mono ?_
  rintro e w2 ⟨ta, tc, rfl, htab, hb⟩
  exact ⟨ta, tc, by rw [hSq, rowsQ_len], hSq ▸ htab, hb⟩
theorem q_fold {W w' : World} {is : List Ins} {rs : List Int} {g cap n : Nat} (hO : ∀ i ∈ is, OkQ i) (hl : is.length ≤ 25) (hn : (is.filter (fun i => decide (i.kind = 3))).length = n) (h : QSt W w' (is ++ [plainI 13]) rs (.slice (some ⟨g, 0, none⟩) (is.length + 1) cap)) :
    Calls Try.prog 42 #[.agg #[.string ⟨#[102]⟩, .int .i64 0, .int .i64 10, .int .i64 0, .slice (some ⟨g, 0, none⟩) (is.length + 1) cap]] w' (fun e w2 => ∃ cg, e = .returned (.tuple #[.agg #[.string ⟨#[102]⟩, .int .i64 0, .int .i64 10, .int .i64 0, .slice (some ⟨cg, 0, none⟩) (is.length + 1) (is.length + 1)], .int .i64 (n : Int)]) ∧ Below w'.heap.size w' w2) := by
  have hR := funQ_right hO (by omega)
  obtain ⟨S, hS⟩ := sol_exists hR
  have hSq := solQ hO (by omega) hS
  have e : (funQ is).code.length = is.length + 1 := by show (is ++ [retQ]).length = _; simp
  have hh := fold_s (r := ⟨funQ is, some ⟨g, 0, none⟩, cap⟩) (q_fnk hl h) hR (by show (funQ is).code.length * 11 ≤ _; rw [e]; omega) hS
  rw [q_val] at hh
  refine hh.mono ?_
  rintro e2 w2 ⟨cg, rfl, hcg, _, hb⟩
  refine ⟨cg, ?_, hb⟩
  have e3 : (foldF S (funQ is)).code.length = is.length + 1 := by rw [foldF_len hS.pre.len]; exact e
  have e4 : foldN (funQ is).code S = n := by rw [hSq]; exact (foldN_Q is _ (by simp) hO).trans hn
  show Ending.returned (.tuple #[.agg #[.string (sb (funQ is).name), .int .i64 (funQ is).params, .int .i64 (funQ is).regs, .int .i64 (funQ is).frame, .slice (some ⟨cg, 0, none⟩) (foldF S (funQ is)).code.length (foldF S (funQ is)).code.length], .int .i64 (foldN (funQ is).code S : Int)]) = _
  rw [e3, e4]
  rfl
theorem endQ_snoc (rs : List Int) (is : List Ins) (i : Ins) : endQ rs (is ++ [i]) = stQ (endQ rs is) i := by unfold endQ; rw [List.foldl_append]; rfl
set_option maxHeartbeats 8000000 in
theorem straight_yes (sa : Option Addr) (l : List Qd) (sc : Nat) (W : World) (hl : l.length ≤ 20) (hR : RowAt W W.heap.size sa (l.flatMap qdCells)) (hO : ∀ q ∈ l, Qd.Ok q) : Calls Try.prog 9 #[.slice sa l.length sc] W (RPost (.bool true) W) := by
  have hmix : Try.prog.follows .mixedOrders = true := by kernel_rfl
  obtain ⟨i0, hi0, hz0, hz1, hz2⟩ := infoQ_parts infoIns
  have hl20 : (l.length : Int) ≤ 20 := by omega
  have HS0 := Lib.hid (QSt.first W)
  have HR := Lib.hid hR; have HO := Lib.hid hO
  clear hR hO
  go_enter Try.func9, Try.ntmps9
  go_wp2
  go_loopw [21] (fun s21 wr => ∃ (k : Nat) (is : List Ins) (rs : List Int) (v : Value), k ≤ 5 ∧ s21 = .int .i64 (k : Int) ∧ Hid (is.length = k) ∧ Hid (∀ i ∈ is, OkQ i ∧ i.kind = 1) ∧ Hid (endQ (List.replicate 10 0) is = rs) ∧ Hid (QSt W wr is rs v)) (fun s21 wr => 5 - (intOf s21).toNat)
  case atStart => exact ⟨0, [], _, _, by omega, rfl, Lib.hid rfl, Lib.hid (by simp), Lib.hid rfl, HS0⟩
  case round =>
    obtain ⟨k, is, rs, v, hk, rfl, HIK, HI, HE, HS⟩ := hrel
    have hsm : is.length ≤ 5 := by have := HIK.out; omega
    have k0 : (0 : Int) ≤ (k : Int) := Int.natCast_nonneg _
    by_cases hlt : k < 5
    · have k1 : (k : Int) < 5 := by omega
      have k2 : (k : Int) < 10 := by omega
      go_upto_region 9 with ((with_reducible refine (cplain_any 1 _).mono ?_); rintro e w3 ⟨rfl, hb3⟩; have HS3 := Lib.hid (HS.out.below hb3); clear hb3)
      obtain ⟨p, hp⟩ : ∃ p, w3.heap.size = p := ⟨_, rfl⟩
      have HB5 : Hid (Below w3.heap.size w3 (w3.alloc (inO (plainI 1)))) := Lib.hid ((Below.refl _ _).alloc (Nat.le_refl _) _)
      have HS5 := Lib.hid (HS3.out.below HB5.out)
      have hpx : (w3.alloc (inO (plainI 1))).heap[p]? = some (inO (plainI 1)) := by rw [← hp]; exact heap_alloc_new w3 _
      have hpw : W.heap.size + 2 ≤ p := by rw [← hp]; exact HS3.out.lt
      have HVP : Hid (v.ownBlock ≠ some p) := Lib.hid (fun e => by have := (HS3.out.own.lt p e).2; omega)
      obtain ⟨W5, hW5⟩ : ∃ W, w3.alloc (inO (plainI 1)) = W := ⟨_, rfl⟩
      rw [hW5] at HS5 hpx
      obtain ⟨d0, d1, d2, d3, d4, d5, d6, d7, d8, d9, d10, d11, d12, d13, d14⟩ := nv15 hpx
      have HP := Lib.hid hpx
      have fp : ∀ q, W5.frozen? ⟨p, q, none⟩ = false := fun q => by simp [World.frozen?, hpx]
      have fr : ∀ q, W5.frozen? ⟨W.heap.size + 1, q, none⟩ = false := fun q => HS5.out.frozen q
      obtain ⟨x, hx⟩ : ∃ x, rs[k]? = some x := ⟨_, List.getElem?_eq_getElem (by rw [HS5.out.rl]; omega)⟩
      have hxc := HS5.out.cell hx
      rw [hW5, hp]
      clear HB5 hpx HS HS3
      go_upto_region 11 with fail
      obtain ⟨W6, hW6⟩ : ∃ W6, ((W5.setCell ⟨p, 2, none⟩ (.int .i64 (k : Int))).setCell ⟨p, 5, none⟩ (.int .i64 (3 * (k : Int) - 5))).setCell ⟨W.heap.size + 1, k, none⟩ (.int .i64 (3 * (k : Int) - 5)) = W6 := ⟨_, rfl⟩
      have HS6 : Hid (QSt W W6 is (rs.set k (3 * (k : Int) - 5)) v) := Lib.hid (by rw [← hW6]; exact ((HS5.out.put hpw HVP.out _ _).put hpw HVP.out _ _).reg k _)
      have hp6 : W6.heap[p]? = some (inO (cQ (k : Int) (3 * (k : Int) - 5))) := by rw [← hW6]; exact (heap_othQ (by omega)).trans (cQ_set HP.out _ _)
      rw [hW6]
      clear hW6 d0 d1 d2 d3 d4 d5 d6 d7 d8 d9 d10 d11 d12 d13 d14 fp fr hx hxc HP HS5
      obtain ⟨va, vc, rfl⟩ := row_slice HS6.out.own
      obtain ⟨d0, d1, d2, d3, d4, d5, d6, d7, d8, d9, d10, d11, d12, d13, d14⟩ := nv15 hp6
      obtain ⟨x0, x1, x2, x3, x4⟩ := nv5 HS6.out.fb
      have hBW : W.heap.size < W6.heap.size := by have := HS6.out.lt; omega
      clear hp6
      go_wp2_with (at_builtin; go_loud (refine wpList_append_lies _ rfl (.tmp 36) (.tmp 38) 22 rfl (W.heap.size + 2) 35 i0 (inV zeroIns) 15 128 Try.underlying22 hi0 hz0 hz1 hz2 rfl (by decide) (.slice va is.length vc) is.length (is.flatMap inCells) rfl (HS6.out.own.alloc _) ⟨W6.heap.size, 0, none⟩ 1 1 (inCells (cQ (k : Int) (3 * (k : Int) - 5))) rfl rfl (World.news_of_block (cs := (inCells (cQ (k : Int) (3 * (k : Int) - 5))).toArray) (heap_alloc_new W6 _)) (by simp [inCells, Value.oneCell']) (by omega) (by unfold maxLen; omega) (by omega) (by have := HS6.out.lt; simp <;> omega) (W6.heap.size + 1) (by simp) ?_; intro g9 cap9 w9 hown hgrow hat hlt9; have HS8 := Lib.hid (HS6.out.below ((Below.refl W6.heap.size W6).alloc (Nat.le_refl _) (.cells (inCells (cQ (k : Int) (3 * (k : Int) - 5))).toArray 35))); have hf9 := HS8.out.fb3 hgrow; obtain ⟨t0, t1, t2, t3, t4⟩ := nv5 hf9; have hfr9 : w9.frozen? ⟨W.heap.size, 4, none⟩ = false := (by simp [World.frozen?, hf9]); have HS9 := Lib.hid (QSt.push HS8.out (cQ (k : Int) (3 * (k : Int) - 5)) rfl hown hgrow); clear hown hgrow hat hlt9 hf9 HS8))
      have HI9 : Hid (∀ i ∈ is ++ [cQ (k : Int) (3 * (k : Int) - 5)], OkQ i ∧ i.kind = 1) := Lib.hid (by
        intro i hi
        rcases List.mem_append.1 hi with hi | hi
        · exact HI.out i hi
        · rw [List.mem_singleton] at hi
          subst hi
          exact ⟨OkQ.c k0 k2 (by omega) (by omega), rfl⟩)
      go_roundw
      case rel => exact ⟨k + 1, is ++ [cQ (k : Int) (3 * (k : Int) - 5)], _, _, by omega, by go_num, Lib.hid (by have := HIK.out; simp; omega), HI9, Lib.hid (by rw [endQ_snoc, HE.out]; simp [stQ, valQ]), HS9⟩
      case measure => simp [intOf]; omega
    · obtain rfl : k = 5 := by omega
      have HO1 : Hid (∀ i ∈ is, OkQ i) := Lib.hid (fun i hi => (HI.out i hi).1)
      have HF1 : Hid ((is.filter (fun i => decide (i.kind = 3))).length = 0) := Lib.hid (by
        rw [List.length_eq_zero_iff, List.filter_eq_nil_iff]
        intro i hi
        have := (HI.out i hi).2
        simp [this])
      clear HI
      go_wp2
      go_loopw [44] (fun s44 wr => ∃ (j : Nat) (is : List Ins) (rs : List Int) (v : Value), j ≤ l.length ∧ s44 = .int .i64 (j : Int) ∧ Hid (is.length = 5 + j) ∧ Hid (∀ i ∈ is, OkQ i) ∧ Hid ((is.filter (fun i => decide (i.kind = 3))).length = j) ∧ Hid (endQ (List.replicate 10 0) is = rs) ∧ Hid (QSt W wr is rs v)) (fun s44 wr => l.length - (intOf s44).toNat)
      case atStart => exact ⟨0, is, rs, v, by omega, rfl, HIK, HO1, HF1, HE, HS⟩
      case round =>
        clear HO1 HF1 HE HS
        obtain ⟨j, is, rs, v, hj, rfl, HIJ, HI, HF, HE, HS⟩ := hrel
        have hsm : is.length ≤ 25 := by have := HIJ.out; omega
        have j0 : (0 : Int) ≤ (j : Int) := Int.natCast_nonneg _
        by_cases hjl : j < l.length
        · have j1 : (j : Int) < (l.length : Int) := by omega
          obtain ⟨q, hq⟩ : ∃ q, l[j]? = some q := ⟨_, List.getElem?_eq_getElem hjl⟩
          obtain ⟨hq1, hq2, hq3, hq4⟩ := HO.out q (List.mem_of_getElem? hq)
          obtain ⟨b, off, rfl, hb1, hb2, c0, c1, c2, c3⟩ := quad_cells (HR.out.below HS.out.hb) hq
          have hbw : b < wr.heap.size := by have := HS.out.hb.size; omega
          have HQ := Lib.hid hq
          clear hq hb1 hb2
          go_upto_region 17 with fail
          obtain ⟨X, hX⟩ : ∃ X, wr.heap.size = X := ⟨_, rfl⟩
          have hx4 : (wr.alloc (.cells #[.int .u8 q.k, .int .u8 q.d, .int .u8 q.a, .int .u8 q.b] 60)).heap[X]? = some (.cells #[.int .u8 q.k, .int .u8 q.d, .int .u8 q.a, .int .u8 q.b] 60) := by rw [← hX]; exact heap_alloc_new wr _
          have HS4 := Lib.hid (HS.out.below ((Below.refl wr.heap.size wr).alloc (Nat.le_refl _) (.cells #[.int .u8 q.k, .int .u8 q.d, .int .u8 q.a, .int .u8 q.b] 60)))
          have hXW : W.heap.size + 2 ≤ X := by rw [← hX]; exact HS.out.lt
          have HVX : Hid (v.ownBlock ≠ some X) := Lib.hid (fun e => by have := (HS.out.own.lt X e).2; omega)
          obtain ⟨W4, hW4⟩ : ∃ W4, wr.alloc (.cells #[.int .u8 q.k, .int .u8 q.d, .int .u8 q.a, .int .u8 q.b] 60) = W4 := ⟨_, rfl⟩
          rw [hW4] at hx4 HS4
          have HX4 := Lib.hid hx4
          have ho1 : 1 ≤ 1 + q.k % 19 ∧ 1 + q.k % 19 ≤ 19 := by omega
          obtain ⟨o0, ho0⟩ : ∃ o0, 1 + q.k % 19 = o0 := ⟨_, rfl⟩
          rw [ho0] at ho1
          rw [hW4, hX, ho0]
          obtain ⟨qk, qd, qa, qb⟩ := q
          simp only at hq1 hq2 hq3 hq4 HQ
          clear c0 c1 c2 c3 hbw HS hX hW4 ho0 hx4
          obtain ⟨ho1, ho2⟩ := ho1
          go_cut [58] from 53 to 57 (fun s58 wc => s58 = .bool (decide (4 ≤ o0 ∧ o0 ≤ 7)) ∧ wc = W4)
          case first =>
            by_cases h4 : 4 ≤ o0
            · by_cases h7 : o0 ≤ 7
              · go_wp2
                go_meet
                case rel => exact ⟨by simp <;> omega, rfl⟩
              · go_wp2
                go_meet
                case rel => exact ⟨by simp <;> omega, rfl⟩
            · go_wp2
              go_meet
              case rel => exact ⟨by simp <;> omega, rfl⟩
          case rest =>
            obtain ⟨rfl, hwc⟩ := hcut
            rw [hwc]
            clear hwc wc
            obtain ⟨c47, hc47⟩ : ∃ c, decide (4 ≤ o0 ∧ o0 ≤ 7) = c := ⟨_, rfl⟩
            rw [hc47]
            go_upto_if 58 with fail
            go_cut [9] from 59 to 60 (fun s9 wc => ∃ op : Int, s9 = .int .i64 op ∧ (1 ≤ op ∧ op ≤ 23) ∧ Hid (OpQ op) ∧ wc = W4)
            case first =>
              cases c47 with
              | true =>
                have h47 := of_decide_eq_true hc47
                go_wp2
                go_meet
                case rel => exact ⟨o0 + 4, rfl, by omega, Lib.hid (by unfold OpQ; omega), rfl⟩
              | false =>
                have h47 := of_decide_eq_false hc47
                go_wp2
                go_meet
                case rel => exact ⟨o0, rfl, by omega, Lib.hid (by unfold OpQ; omega), rfl⟩
            case rest =>
              clear hc47
              obtain ⟨op, rfl, hop, HOP, hwc⟩ := hcut
              rw [hwc]
              clear hwc wc
              go_upto_region 20 with ((with_reducible refine (cplain_any 3 _).mono ?_); rintro e w5 ⟨rfl, hb5⟩; have HS5 := Lib.hid (HS4.out.below hb5); have HX5 := Lib.hid ((hb5.block X (lt_heap HX4.out)).trans HX4.out); clear hb5)
              obtain ⟨p, hp⟩ : ∃ p, w5.heap.size = p := ⟨_, rfl⟩
              have HB6 : Hid (Below w5.heap.size w5 (w5.alloc (inO (plainI 3)))) := Lib.hid ((Below.refl _ _).alloc (Nat.le_refl _) _)
              have HS6 := Lib.hid (HS5.out.below HB6.out)
              have hxp : X < p := by rw [← hp]; exact lt_heap HX5.out
              have hx6 : (w5.alloc (inO (plainI 3))).heap[X]? = some (.cells #[.int .u8 qk, .int .u8 qd, .int .u8 qa, .int .u8 qb] 60) := (HB6.out.block X (lt_heap HX5.out)).trans HX5.out
              have hp6 : (w5.alloc (inO (plainI 3))).heap[p]? = some (inO (plainI 3)) := by rw [← hp]; exact heap_alloc_new w5 _
              have HVP : Hid (v.ownBlock ≠ some p) := Lib.hid (fun e => by have := (HS5.out.own.lt p e).2; omega)
              obtain ⟨W6, hW6⟩ : ∃ W, w5.alloc (inO (plainI 3)) = W := ⟨_, rfl⟩
              rw [hW6] at HS6 hx6 hp6
              rw [hW6, hp]
              obtain ⟨s0, s1, s2, s3⟩ := nvQ4 hx6
              obtain ⟨d0, d1, d2, d3, d4, d5, d6, d7, d8, d9, d10, d11, d12, d13, d14⟩ := nv15 hp6
              have fp : ∀ y, W6.frozen? ⟨p, y, none⟩ = false := fun y => by simp [World.frozen?, hp6]
              have HP6 := Lib.hid hp6
              have hX6 : X < W6.heap.size := lt_heap hx6
              have hpw : W.heap.size + 2 ≤ p := by omega
              clear HB6 HS5 HX5 HS4 HX4 hp hW6 hx6 hp6
              go_cut [] from 62 to 78 (fun wc => Hid (QSt W wc is rs v) ∧ Hid (wc.heap[p]? = some (inO (bQ op (qd % 10) (qa % 10) (qb % 10)))))
              case first =>
                go_region
                all_goals
                  go_wp2
                  go_meet
                  case rel => exact ⟨Lib.hid (((((HS6.out.put hpw HVP.out _ _).put hpw HVP.out _ _).put hpw HVP.out _ _).put hpw HVP.out _ _).drew), Lib.hid (bQ_set HP6.out _ _ _ _)⟩
              case rest =>
                obtain ⟨HS7, HP7⟩ := hcut
                obtain ⟨na, hna⟩ : ∃ na : Nat, qa % 10 = (na : Int) := ⟨(qa % 10).toNat, by omega⟩
                obtain ⟨nb, hnb⟩ : ∃ nb : Nat, qb % 10 = (nb : Int) := ⟨(qb % 10).toNat, by omega⟩
                obtain ⟨nd, hnd⟩ : ∃ nd : Nat, qd % 10 = (nd : Int) := ⟨(qd % 10).toNat, by omega⟩
                have la : na < 10 := by omega
                have lb : nb < 10 := by omega
                have ld : nd < 10 := by omega
                have HOK : Hid (OkQ (bQ op (nd : Int) (na : Int) (nb : Int))) := Lib.hid (okQ_b HOP.out la lb ld)
                rw [hna, hnb, hnd] at HP7
                clear s0 s1 s2 s3 d0 d1 d2 d3 d4 d5 d6 d7 d8 d9 d10 d11 d12 d13 d14 fp HS6 HP6 hX6 hxp hXW HVX hna hnb hnd hq1 hq2 hq3 hq4 HQ
                obtain ⟨ya, hya⟩ : ∃ x, rs[na]? = some x := ⟨_, List.getElem?_eq_getElem (by rw [HS7.out.rl]; omega)⟩
                obtain ⟨yb, hyb⟩ : ∃ x, rs[nb]? = some x := ⟨_, List.getElem?_eq_getElem (by rw [HS7.out.rl]; omega)⟩
                obtain ⟨yd, hyd⟩ : ∃ x, rs[nd]? = some x := ⟨_, List.getElem?_eq_getElem (by rw [HS7.out.rl]; omega)⟩
                have HCA : Hid (∀ W', VRow W' (W.heap.size + 1) 58 (ints rs) → W'.cell? ⟨W.heap.size + 1, na, none⟩ = some (.int .i64 ya)) := Lib.hid (fun W' h => VRow.cell h (by simp [ints, hya]))
                have HCB : Hid (∀ W', VRow W' (W.heap.size + 1) 58 (ints rs) → W'.cell? ⟨W.heap.size + 1, nb, none⟩ = some (.int .i64 yb)) := Lib.hid (fun W' h => VRow.cell h (by simp [ints, hyb]))
                have HCD : Hid (∀ W', VRow W' (W.heap.size + 1) 58 (ints rs) → W'.cell? ⟨W.heap.size + 1, nd, none⟩ = some (.int .i64 yd)) := Lib.hid (fun W' h => VRow.cell h (by simp [ints, hyd]))
                have HVAL : Hid (stQ rs (bQ op (nd : Int) (na : Int) (nb : Int)) = rs.set nd (doV op ya yb)) := Lib.hid (by
                  unfold stQ valQ
                  simp [List.getD_eq_getElem?_getD, hya, hyb])
                have a0 : (0 : Int) ≤ (na : Int) := Int.natCast_nonneg _
                have b0 : (0 : Int) ≤ (nb : Int) := Int.natCast_nonneg _
                have e0 : (0 : Int) ≤ (nd : Int) := Int.natCast_nonneg _
                have a1 : (na : Int) < 10 := by omega
                have b1 : (nb : Int) < 10 := by omega
                have e1 : (nd : Int) < 10 := by omega
                clear hya hyb hyd
                go_upto_region 21 with fail
                go_cut [] from 79 to 94 (fun wd => Hid (QSt W wd is (rs.set nd (doV op ya yb)) v) ∧ Hid (wd.heap[p]? = some (inO (bQ op (nd : Int) (na : Int) (nb : Int)))))
                case first =>
                  refine region_lastM (fun W' : World => W'.heap[p]? = some (inO (bQ op (nd : Int) (na : Int) (nb : Int))) ∧ VRow W' (W.heap.size + 1) 58 (ints rs)) 16 hmix ⟨HP7.out, HS7.out.rb⟩ (fun hS => ?main)
                  refine anyM_take (i := 0) (v := ?_) rfl rfl (by kernel_rfl) (by kernel_rfl) (by kernel_rfl) (by kernel_rfl) (by kernel_rfl) (fun _ _ _ h => h) (Or.inl ⟨by rfl, ?_⟩) hS ?_
                  rotate_left
                  · (intro w' hSw; obtain ⟨hSp, hSr⟩ := hSw; obtain ⟨d0, d1, d2, d3, d4, d5, d6, d7, d8, d9, d10, d11, d12, d13, d14⟩ := nv15 hSp; have ca := HCA.out w' hSr; have cb := HCB.out w' hSr; have hpl := lt_heap hSp; have hrl := lt_heap hSr; go_simp; first | done | with_reducible rfl)
                  simp only [Act.put, List.getElem_toArray, List.getElem_cons_succ, List.getElem_cons_zero, List.setIfInBounds_toArray, List.set_cons_succ, List.set_cons_zero]
                  refine anyM_take (i := 1) (v := ?_) rfl rfl (by kernel_rfl) (by kernel_rfl) (by kernel_rfl) (by kernel_rfl) (by kernel_rfl) (fun _ _ _ h => h) (Or.inl ⟨by rfl, ?_⟩) hS ?_
                  rotate_left
                  · (intro w' hSw; obtain ⟨hSp, hSr⟩ := hSw; obtain ⟨d0, d1, d2, d3, d4, d5, d6, d7, d8, d9, d10, d11, d12, d13, d14⟩ := nv15 hSp; have ca := HCA.out w' hSr; have cb := HCB.out w' hSr; have hpl := lt_heap hSp; have hrl := lt_heap hSr; go_simp; first | done | with_reducible rfl)
                  simp only [Act.put, List.getElem_toArray, List.getElem_cons_succ, List.getElem_cons_zero, List.setIfInBounds_toArray, List.set_cons_succ, List.set_cons_zero]
                  refine anyM_take (i := 2) (v := ?_) rfl rfl (by kernel_rfl) (by kernel_rfl) (by kernel_rfl) (by kernel_rfl) (by kernel_rfl) (fun _ _ _ h => h) (Or.inl ⟨by rfl, ?_⟩) hS ?_
                  rotate_left
                  · (intro w' hSw; obtain ⟨hSp, hSr⟩ := hSw; obtain ⟨d0, d1, d2, d3, d4, d5, d6, d7, d8, d9, d10, d11, d12, d13, d14⟩ := nv15 hSp; have ca := HCA.out w' hSr; have cb := HCB.out w' hSr; have hpl := lt_heap hSp; have hrl := lt_heap hSr; go_simp; first | done | with_reducible rfl)
                  simp only [Act.put, List.getElem_toArray, List.getElem_cons_succ, List.getElem_cons_zero, List.setIfInBounds_toArray, List.set_cons_succ, List.set_cons_zero]
                  refine anyM_take (i := 3) (v := ?_) rfl rfl (by kernel_rfl) (by kernel_rfl) (by kernel_rfl) (by kernel_rfl) (by kernel_rfl) (fun _ _ _ h => h) (Or.inl ⟨by rfl, ?_⟩) hS ?_
                  rotate_left
                  · (intro w' hSw; obtain ⟨hSp, hSr⟩ := hSw; obtain ⟨d0, d1, d2, d3, d4, d5, d6, d7, d8, d9, d10, d11, d12, d13, d14⟩ := nv15 hSp; have ca := HCA.out w' hSr; have cb := HCB.out w' hSr; have hpl := lt_heap hSp; have hrl := lt_heap hSr; go_simp; first | done | with_reducible rfl)
                  simp only [Act.put, List.getElem_toArray, List.getElem_cons_succ, List.getElem_cons_zero, List.setIfInBounds_toArray, List.set_cons_succ, List.set_cons_zero]
                  refine anyM_take (i := 4) (v := ?_) rfl rfl (by kernel_rfl) (by kernel_rfl) (by kernel_rfl) (by kernel_rfl) (by kernel_rfl) (fun _ _ _ h => h) (Or.inl ⟨by rfl, ?_⟩) hS ?_
                  rotate_left
                  · (intro w' hSw; obtain ⟨hSp, hSr⟩ := hSw; obtain ⟨d0, d1, d2, d3, d4, d5, d6, d7, d8, d9, d10, d11, d12, d13, d14⟩ := nv15 hSp; have ca := HCA.out w' hSr; have cb := HCB.out w' hSr; have hpl := lt_heap hSp; have hrl := lt_heap hSr; go_simp; first | done | with_reducible rfl)
                  simp only [Act.put, List.getElem_toArray, List.getElem_cons_succ, List.getElem_cons_zero, List.setIfInBounds_toArray, List.set_cons_succ, List.set_cons_zero]
                  refine anyM_take (i := 5) (v := ?_) rfl rfl (by kernel_rfl) (by kernel_rfl) (by kernel_rfl) (by kernel_rfl) (by kernel_rfl) (fun _ _ _ h => h) (Or.inl ⟨by rfl, ?_⟩) hS ?_
                  rotate_left
                  · (intro w' hSw; obtain ⟨hSp, hSr⟩ := hSw; obtain ⟨d0, d1, d2, d3, d4, d5, d6, d7, d8, d9, d10, d11, d12, d13, d14⟩ := nv15 hSp; have ca := HCA.out w' hSr; have cb := HCB.out w' hSr; have hpl := lt_heap hSp; have hrl := lt_heap hSr; go_simp; first | done | with_reducible rfl)
                  simp only [Act.put, List.getElem_toArray, List.getElem_cons_succ, List.getElem_cons_zero, List.setIfInBounds_toArray, List.set_cons_succ, List.set_cons_zero]
                  refine anyM_take (i := 6) (v := ?_) rfl rfl (by kernel_rfl) (by kernel_rfl) (by kernel_rfl) (by kernel_rfl) (by kernel_rfl) (fun _ _ _ h => h) (Or.inl ⟨by rfl, ?_⟩) hS ?_
                  rotate_left
                  · (intro w' hSw; obtain ⟨hSp, hSr⟩ := hSw; obtain ⟨d0, d1, d2, d3, d4, d5, d6, d7, d8, d9, d10, d11, d12, d13, d14⟩ := nv15 hSp; have ca := HCA.out w' hSr; have cb := HCB.out w' hSr; have hpl := lt_heap hSp; have hrl := lt_heap hSr; go_simp; first | done | with_reducible rfl)
                  simp only [Act.put, List.getElem_toArray, List.getElem_cons_succ, List.getElem_cons_zero, List.setIfInBounds_toArray, List.set_cons_succ, List.set_cons_zero]
                  refine anyM_take (i := 7) (v := ?_) rfl rfl (by kernel_rfl) (by kernel_rfl) (by kernel_rfl) (by kernel_rfl) (by kernel_rfl) (fun _ _ _ h => h) (Or.inl ⟨by rfl, ?_⟩) hS ?_
                  rotate_left
                  · (intro w' hSw; obtain ⟨hSp, hSr⟩ := hSw; obtain ⟨d0, d1, d2, d3, d4, d5, d6, d7, d8, d9, d10, d11, d12, d13, d14⟩ := nv15 hSp; have ca := HCA.out w' hSr; have cb := HCB.out w' hSr; have hpl := lt_heap hSp; have hrl := lt_heap hSr; go_simp; first | done | with_reducible rfl)
                  simp only [Act.put, List.getElem_toArray, List.getElem_cons_succ, List.getElem_cons_zero, List.setIfInBounds_toArray, List.set_cons_succ, List.set_cons_zero]
                  refine anyM_take (i := 8) (v := ?_) rfl rfl (by kernel_rfl) (by kernel_rfl) (by kernel_rfl) (by kernel_rfl) (by kernel_rfl) (fun _ _ _ h => h) (Or.inl ⟨by rfl, ?_⟩) hS ?_
                  rotate_left
                  · (intro w' hSw; obtain ⟨hSp, hSr⟩ := hSw; obtain ⟨d0, d1, d2, d3, d4, d5, d6, d7, d8, d9, d10, d11, d12, d13, d14⟩ := nv15 hSp; have ca := HCA.out w' hSr; have cb := HCB.out w' hSr; have hpl := lt_heap hSp; have hrl := lt_heap hSr; go_simp; first | done | with_reducible rfl)
                  simp only [Act.put, List.getElem_toArray, List.getElem_cons_succ, List.getElem_cons_zero, List.setIfInBounds_toArray, List.set_cons_succ, List.set_cons_zero]
                  refine anyM_take (i := 9) (v := ?_) rfl rfl (by kernel_rfl) (by kernel_rfl) (by kernel_rfl) (by kernel_rfl) (by kernel_rfl) (fun _ _ _ h => h) (Or.inl ⟨by rfl, ?_⟩) hS ?_
                  rotate_left
                  · (intro w' hSw; obtain ⟨hSp, hSr⟩ := hSw; obtain ⟨d0, d1, d2, d3, d4, d5, d6, d7, d8, d9, d10, d11, d12, d13, d14⟩ := nv15 hSp; have ca := HCA.out w' hSr; have cb := HCB.out w' hSr; have hpl := lt_heap hSp; have hrl := lt_heap hSr; go_simp; first | done | with_reducible rfl)
                  simp only [Act.put, List.getElem_toArray, List.getElem_cons_succ, List.getElem_cons_zero, List.setIfInBounds_toArray, List.set_cons_succ, List.set_cons_zero]
                  refine anyM_take (i := 10) (v := ?_) rfl rfl (by kernel_rfl) (by kernel_rfl) (by kernel_rfl) (by kernel_rfl) (by kernel_rfl) (fun _ _ _ h => h) (Or.inl ⟨by rfl, ?_⟩) hS ?_
                  rotate_left
                  · (intro w' hSw; obtain ⟨hSp, hSr⟩ := hSw; obtain ⟨d0, d1, d2, d3, d4, d5, d6, d7, d8, d9, d10, d11, d12, d13, d14⟩ := nv15 hSp; have ca := HCA.out w' hSr; have cb := HCB.out w' hSr; have hpl := lt_heap hSp; have hrl := lt_heap hSr; go_simp; first | done | with_reducible rfl)
                  simp only [Act.put, List.getElem_toArray, List.getElem_cons_succ, List.getElem_cons_zero, List.setIfInBounds_toArray, List.set_cons_succ, List.set_cons_zero]
                  refine anyM_one (i := 11) (by kernel_rfl) rfl (fun K1 hK1 => ?_)
                  go_simp
                  refine (refDo_any _ _ _ _).mono ?_
                  rintro e w6 ⟨rfl, n6, rfl⟩
                  refine hK1.out _ _ (fun _ _ => ⟨hS.1, hS.2⟩) ?_
                  clear hK1 K1
                  have hS' : (fun W' : World => W'.heap[p]? = some (inO (bQ op (nd : Int) (na : Int) (nb : Int))) ∧ VRow W' (W.heap.size + 1) 58 (ints rs)) (wc.drew.drewN n6) := ⟨hS.1, hS.2⟩
                  clear hS
                  have hS := hS'
                  clear hS'
                  refine anyM_take (i := 12) (v := ?_) rfl rfl (by kernel_rfl) (by kernel_rfl) (by kernel_rfl) (by kernel_rfl) (by kernel_rfl) (fun _ _ _ h => h) (Or.inl ⟨by rfl, ?_⟩) hS ?_
                  rotate_left
                  · (intro w' hSw; obtain ⟨hSp, hSr⟩ := hSw; obtain ⟨d0, d1, d2, d3, d4, d5, d6, d7, d8, d9, d10, d11, d12, d13, d14⟩ := nv15 hSp; have ca := HCA.out w' hSr; have cb := HCB.out w' hSr; have hpl := lt_heap hSp; have hrl := lt_heap hSr; go_simp; first | done | with_reducible rfl)
                  simp only [Act.put, List.getElem_toArray, List.getElem_cons_succ, List.getElem_cons_zero, List.setIfInBounds_toArray, List.set_cons_succ, List.set_cons_zero]
                  refine anyM_take (i := 13) (v := ?_) rfl rfl (by kernel_rfl) (by kernel_rfl) (by kernel_rfl) (by kernel_rfl) (by kernel_rfl) (fun _ _ _ h => h) (Or.inl ⟨by rfl, ?_⟩) hS ?_
                  rotate_left
                  · (intro w' hSw; obtain ⟨hSp, hSr⟩ := hSw; obtain ⟨d0, d1, d2, d3, d4, d5, d6, d7, d8, d9, d10, d11, d12, d13, d14⟩ := nv15 hSp; have ca := HCA.out w' hSr; have cb := HCB.out w' hSr; have hpl := lt_heap hSp; have hrl := lt_heap hSr; go_simp; first | done | with_reducible rfl)
                  simp only [Act.put, List.getElem_toArray, List.getElem_cons_succ, List.getElem_cons_zero, List.setIfInBounds_toArray, List.set_cons_succ, List.set_cons_zero]
                  refine anyM_take (i := 15) (v := ?_) rfl rfl (by kernel_rfl) (by kernel_rfl) (by kernel_rfl) (by kernel_rfl) (by kernel_rfl) (fun _ _ _ h => h) (Or.inl ⟨by rfl, ?_⟩) hS ?_
                  rotate_left
                  · (intro w' hSw; obtain ⟨hSp, hSr⟩ := hSw; obtain ⟨d0, d1, d2, d3, d4, d5, d6, d7, d8, d9, d10, d11, d12, d13, d14⟩ := nv15 hSp; have ca := HCA.out w' hSr; have cb := HCB.out w' hSr; have hpl := lt_heap hSp; have hrl := lt_heap hSr; go_simp; first | done | with_reducible rfl)
                  simp only [Act.put, List.getElem_toArray, List.getElem_cons_succ, List.getElem_cons_zero, List.setIfInBounds_toArray, List.set_cons_succ, List.set_cons_zero]
                  have cd := HCD.out wc HS7.out.rb
                  have fr : ∀ y, wc.frozen? ⟨W.heap.size + 1, y, none⟩ = false := fun y => HS7.out.frozen y
                  have hrl := lt_heap hS.2
                  refine anyM_two (i := 14) (j := 16) (by kernel_rfl) rfl rfl (fun K1 hK1 => ?_) (fun K1 hK1 => ?_)
                  · go_simp
                    refine hK1.out _ _ (fun _ _ => hS) ?_
                    clear hK1 K1
                    refine anyM_one (i := 16) (by kernel_rfl) rfl (fun K1 hK1 => ?_)
                    go_simp
                    refine hK1.out _ _ (fun h => absurd rfl h) ?_
                    clear hK1 K1
                    refine anyM_done (by kernel_rfl) ?_ _
                    go_wp2
                    go_meet
                    case rel => exact ⟨Lib.hid ((QSt.drewN HS7.out _).reg nd _), Lib.hid ((heap_othQ (by omega)).trans HP7.out)⟩
                  · go_simp
                    refine hK1.out _ _ (fun h => absurd rfl h) ?_
                    clear hK1 K1
                    refine anyM_one (i := 14) (by kernel_rfl) rfl (fun K1 hK1 => ?_)
                    go_simp
                    refine hK1.out _ _ (fun _ h => absurd h (by decide)) ?_
                    clear hK1 K1
                    refine anyM_done (by kernel_rfl) ?_ _
                    go_wp2
                    go_meet
                    case rel => exact ⟨Lib.hid ((QSt.drewN HS7.out _).reg nd _), Lib.hid ((heap_othQ (by omega)).trans HP7.out)⟩
                case rest =>
                  clear HCA HCB HCD HS7 HP7
                  obtain ⟨HS8, HP8⟩ := hcut
                  obtain ⟨va, vc, rfl⟩ := row_slice HS8.out.own
                  obtain ⟨d0, d1, d2, d3, d4, d5, d6, d7, d8, d9, d10, d11, d12, d13, d14⟩ := nv15 HP8.out
                  obtain ⟨x0, x1, x2, x3, x4⟩ := nv5 HS8.out.fb
                  have hBW : W.heap.size < wc.heap.size := by have := HS8.out.lt; omega
                  have hpl := lt_heap HP8.out
                  go_wp2_with (at_builtin; go_loud (refine wpList_append_lies _ rfl (.tmp 96) (.tmp 98) 22 rfl (W.heap.size + 2) 35 i0 (inV zeroIns) 15 128 Try.underlying22 hi0 hz0 hz1 hz2 rfl (by decide) (.slice va is.length vc) is.length (is.flatMap inCells) rfl (HS8.out.own.alloc _) ⟨wc.heap.size, 0, none⟩ 1 1 (inCells (bQ op (nd : Int) (na : Int) (nb : Int))) rfl rfl (World.news_of_block (cs := (inCells (bQ op (nd : Int) (na : Int) (nb : Int))).toArray) (heap_alloc_new wc _)) (by simp [inCells, Value.oneCell']) (by omega) (by unfold maxLen; omega) (by omega) (by have := HS8.out.lt; simp <;> omega) (wc.heap.size + 1) (by simp) ?_; intro g9 cap9 w9 hown hgrow hat hlt9; have HS9 := Lib.hid (HS8.out.below ((Below.refl wc.heap.size wc).alloc (Nat.le_refl _) (.cells (inCells (bQ op (nd : Int) (na : Int) (nb : Int))).toArray 35))); have hf9 := HS9.out.fb3 hgrow; obtain ⟨t0, t1, t2, t3, t4⟩ := nv5 hf9; have hfr9 : w9.frozen? ⟨W.heap.size, 4, none⟩ = false := (by simp [World.frozen?, hf9]); have HSA := Lib.hid (QSt.push HS9.out (bQ op (nd : Int) (na : Int) (nb : Int)) rfl hown hgrow); clear hown hgrow hat hlt9 hf9 HS9))
                  have HI9 : Hid (∀ i ∈ is ++ [bQ op (nd : Int) (na : Int) (nb : Int)], OkQ i) := Lib.hid (by
                    intro i hi
                    rcases List.mem_append.1 hi with hi | hi
                    · exact HI.out i hi
                    · rw [List.mem_singleton] at hi
                      subst hi
                      exact HOK.out)
                  have HIK9 : Hid ((is ++ [bQ op (nd : Int) (na : Int) (nb : Int)]).length = 5 + (j + 1)) := Lib.hid (by have := HIJ.out; simp; omega)
                  have HF9 : Hid (((is ++ [bQ op (nd : Int) (na : Int) (nb : Int)]).filter (fun i => decide (i.kind = 3))).length = j + 1) := Lib.hid (by rw [List.filter_append, List.length_append, HF.out]; rfl)
                  have HE9 : Hid (endQ (List.replicate 10 0) (is ++ [bQ op (nd : Int) (na : Int) (nb : Int)]) = rs.set nd (doV op ya yb)) := Lib.hid (by rw [endQ_snoc, HE.out]; exact HVAL.out)
                  go_roundw
                  case rel => exact ⟨_, _, _, _, ⟨j + 1, by omega, rfl, is ++ [bQ op (nd : Int) (na : Int) (nb : Int)], HIK9, HI9, HF9, _, HE9, _, HSA⟩, rfl, rfl, rfl, by go_num⟩
                  case measure => simp [intOf]; omega
        · obtain rfl : j = l.length := by omega
          obtain ⟨va, vc, rfl⟩ := row_slice HS.out.own
          have hBW : W.heap.size < wr.heap.size := by have := HS.out.lt; omega
          go_upto_region 24 with fail
          refine region_lastS (fun W' : World => W'.heap[W.heap.size]? = some (qfB (.slice va is.length vc))) 6 hmix HS.out.fb (fun hS => ?_)
          refine anyL_take (i := 0) (v := ?_) rfl rfl (by kernel_rfl) (by kernel_rfl) (by kernel_rfl) (by kernel_rfl) (fun _ _ _ h => h) (Or.inl ⟨by rfl, ?_⟩) hS ?_
          rotate_left
          · (intro w' hSw; obtain ⟨x0, x1, x2, x3, x4⟩ := nv5 hSw; have hl := lt_heap hSw; go_simp; first | done | with_reducible rfl)
          simp only [Act.put, List.getElem_toArray, List.getElem_cons_succ, List.getElem_cons_zero, List.setIfInBounds_toArray, List.set_cons_succ, List.set_cons_zero]
          refine anyL_take (i := 1) (v := ?_) rfl rfl (by kernel_rfl) (by kernel_rfl) (by kernel_rfl) (by kernel_rfl) (fun _ _ _ h => h) (Or.inl ⟨by rfl, ?_⟩) hS ?_
          rotate_left
          · (intro w' hSw; obtain ⟨x0, x1, x2, x3, x4⟩ := nv5 hSw; have hl := lt_heap hSw; go_simp; first | done | with_reducible rfl)
          simp only [Act.put, List.getElem_toArray, List.getElem_cons_succ, List.getElem_cons_zero, List.setIfInBounds_toArray, List.set_cons_succ, List.set_cons_zero]
          refine anyL_one (i := 2) (by kernel_rfl) rfl (fun K1 hK1 => ?_)
          go_simp
          refine (cplain_any 13 _).mono ?_
          rintro e w5 ⟨rfl, hb5⟩
          have HS5 := Lib.hid (HS.out.drew.below hb5)
          refine hK1.out _ _ (fun _ => HS5.out.fb) ?_
          clear hK1 K1 hS hb5
          refine anyL_one (i := 3) (by kernel_rfl) rfl (fun K1 hK1 => ?_)
          go_simp
          refine hK1.out _ _ (fun _ => (HS5.out.below ((Below.refl _ _).alloc (Nat.le_refl _) _)).fb) ?_
          clear hK1 K1
          refine anyL_one (i := 4) (by kernel_rfl) rfl (fun K1 hK1 => ?_)
          refine step_append_lies _ (by rfl) (.tmp 103) (.tmp 105) 22 (by rfl) (W.heap.size + 2) 35 i0 (inV zeroIns) 15 128 Try.underlying22 hi0 hz0 hz1 hz2 rfl (by decide) (.slice va is.length vc) is.length (is.flatMap inCells) (by rfl) (HS5.out.own.alloc _) ⟨w5.heap.size, 0, none⟩ 1 1 (inCells (plainI 13)) (by rfl) (by rfl) (World.news_of_block (cs := (inCells (plainI 13)).toArray) (heap_alloc_new w5 _)) (by simp [inCells, Value.oneCell']) (by omega) (by unfold maxLen; omega) (by omega) (by have := HS5.out.lt; simp <;> omega) (w5.heap.size + 1) (by simp) ?_
          intro g9 cap9 w9 hown hgrow hat hlt9
          have HS8 := Lib.hid (HS5.out.below ((Below.refl w5.heap.size w5).alloc (Nat.le_refl _) (.cells (inCells (plainI 13)).toArray 35)))
          have hf9 := HS8.out.fb3 hgrow
          have HS9 := Lib.hid (QSt.push HS8.out (plainI 13) rfl hown hgrow)
          refine hK1.out _ _ (fun _ => hf9) ?_
          clear hK1 K1 hown hgrow hat hlt9 HS8
          obtain ⟨t0, t1, t2, t3, t4⟩ := nv5 hf9
          have hfr9 : w9.frozen? ⟨W.heap.size, 4, none⟩ = false := by simp [World.frozen?, hf9]
          have hfl := lt_heap hf9
          refine anyL_one (i := 5) (by kernel_rfl) rfl (fun K1 hK1 => ?_)
          go_simp
          refine hK1.out _ _ (fun _ => hf9) ?_
          clear hK1 K1
          refine anyL_one (i := 6) (by kernel_rfl) rfl (fun K1 hK1 => ?_)
          go_simp
          refine hK1.out _ _ (fun h => absurd rfl h) ?_
          clear hK1 K1
          refine anyL_done (by kernel_rfl) ?_ _
          clear t0 t1 t2 t3 t4 hfr9 hfl hf9
          obtain ⟨W10, hW10⟩ : ∃ W10, w9.setCell ⟨W.heap.size, 4, none⟩ (.slice (some ⟨g9, 0, none⟩) (is.length + 1) cap9) = W10 := ⟨_, rfl⟩
          rw [hW10] at HS9 ⊢
          clear hW10
          obtain ⟨t0, t1, t2, t3, t4⟩ := nv5 HS9.out.fb
          have hfl := lt_heap HS9.out.fb
          go_wp2_with (first | ((with_reducible refine (q_ahead HI.out (by omega) HS9.out).mono ?_); rintro e w11 ⟨ta, tc, rfl, htab, hb11⟩; have HT11 := Lib.hid htab; have HS11 := Lib.hid (HS9.out.below hb11); clear htab hb11 t0 t1 t2 t3 t4 hfl; obtain ⟨t0, t1, t2, t3, t4⟩ := nv5 HS11.out.fb; have hfl := lt_heap HS11.out.fb) | ((with_reducible refine (q_fold HI.out (by omega) HF.out HS11.out).mono ?_); rintro e w12 ⟨cg, rfl, hb12⟩; have HT12 := Lib.hid (HT11.out.keep hb12.size (fun g _ hg => hb12.block g hg)); have HS12 := Lib.hid (HS11.out.below hb12); clear hb12 t0 t1 t2 t3 t4 hfl; obtain ⟨t0, t1, t2, t3, t4⟩ := nv5 HS12.out.fb; have hfl := lt_heap HS12.out.fb))
          have HBA := (Below.refl w12.heap.size w12).alloc (Nat.le_refl _) (.cells #[.string ⟨#[102]⟩, .int .i64 0, .int .i64 10, .int .i64 0, .slice (some ⟨cg, 0, none⟩) (is.length + 1) (is.length + 1)] 24)
          have HSF := Lib.hid (HS12.out.below HBA)
          have HTF := Lib.hid (HT12.out.keep HBA.size (fun g _ hg => HBA.block g hg))
          obtain ⟨wF, hwF⟩ : ∃ x, w12.alloc (.cells #[.string ⟨#[102]⟩, .int .i64 0, .int .i64 10, .int .i64 0, .slice (some ⟨cg, 0, none⟩) (is.length + 1) (is.length + 1)] 24) = x := ⟨_, rfl⟩
          rw [hwF] at HSF HTF ⊢
          clear HBA hwF t0 t1 t2 t3 t4 hfl HS12 HT12 HS11 HT11
          have hv : (rowsQ (List.replicate 10 0) is)[is.length]? = some (rs.map knV) := by rw [← HE.out]; exact rowsQ_last _ _
          obtain ⟨tb, toff, pa, pc, rfl, htb, htc, hpa⟩ := HTF.out.at hv
          rw [List.length_map, HSF.out.rl] at htc
          have HTC := Lib.hid htc; have HPA := Lib.hid hpa
          clear hv htc hpa
          go_loopw [136] (fun s136 wr => ∃ k : Nat, k ≤ 10 ∧ s136 = .int .i64 (k : Int) ∧ Hid (Below wF.heap.size wF wr)) (fun s136 wr => 10 - (intOf s136).toNat)
          case atStart => exact ⟨0, by omega, rfl, Lib.hid (Below.refl _ _)⟩
          case round =>
            obtain ⟨k, hk, rfl, HBK⟩ := hrel
            have k0 : (0 : Int) ≤ (k : Int) := Int.natCast_nonneg _
            have HSK := Lib.hid (HSF.out.below HBK.out)
            by_cases hlt : k < 10
            · have k1 : (k : Int) < 10 := by omega
              obtain ⟨x, hx⟩ : ∃ x, rs[k]? = some x := ⟨_, List.getElem?_eq_getElem (by rw [HSF.out.rl]; omega)⟩
              have hrc := HSK.out.cell hx
              have htc := (HBK.out.cell (p := ⟨tb, toff + is.length, none⟩) htb).trans HTC.out
              obtain ⟨vb, voff, rfl, hvb, hvB, hc0, hc1⟩ := ValsAt.cells (HPA.out.below HBK.out) (show (rs.map knV)[k]? = some (knV x) by rw [List.getElem?_map, hx]; rfl)
              simp only [knV] at hc0 hc1
              have hbl1 := HSK.out.lt
              have htbw : tb < wr.heap.size := by have := HBK.out.size; omega
              have hm1 : (0 : Int) ≤ (is.length : Int) := Int.natCast_nonneg _
              have hm2 : (is.length : Int) < ((is.length + 1 : Nat) : Int) := by omega
              clear hx
              go_upto_region 32 with fail
              go_quiet (fail)
              go_wp2
              go_roundw
              case rel => exact ⟨k + 1, by omega, by go_num, Lib.hid (drN HBK.out _)⟩
              case measure => simp [intOf]; omega
            · obtain rfl : k = 10 := by omega
              go_wp2_with (((with_reducible refine (awake11_any _).mono ?_); rintro e w15 ⟨rfl, hb15⟩; have HB15 := Lib.hid (HSK.out.hb.trans (hb15.mono HSK.out.hb.size)); clear hb15))
              go_ret
              exact ⟨rfl, HB15.out⟩
theorem straight_any (sa : Option Addr) (l : List Qd) (sc : Nat) (W : World) (hR : RowAt W W.heap.size sa (l.flatMap qdCells)) (hm : l.length ≤ maxLen) (hO : ∀ q ∈ l, Qd.Ok q) : Calls Try.prog 9 #[.slice sa l.length sc] W (RPost (.bool true) W) := by
  by_cases hl : l.length ≤ 20
  · exact straight_yes sa l sc W hl hR hO
  · exact straight_few sa l sc W (by omega)
end Go.Proofs.Ytpajndeongcjbaa
