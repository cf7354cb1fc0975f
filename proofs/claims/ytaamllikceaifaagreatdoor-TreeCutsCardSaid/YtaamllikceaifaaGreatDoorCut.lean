/-
  A source of which the last token is taken away is none: two readings beside one another; on lists, of no program.
  The same: what two readings have to do with one another, of which one has a token less.
  The same of the whole grammar: a source of which the last token is taken away is none.
-/
import Derived.Test.YtaamllikceaifaaGreatDoorFine
namespace Go.Proofs.YtaamllikceaifaaGreatDoor.Tr
open Sp
set_option linter.unusedVariables false

/-- No more than an error of syntax, or too little fuel. -/
def Dead {α : Type} (r : Res α) : Prop := r = .out ∨ ∃ s, r = .bad 5 s
def NotOk {α : Type} (r : Res α) : Prop := ∀ a s, r ≠ .ok a s
def Up {α : Type} (s : S) (r : Res α) : Prop := ∀ a s1, r = .ok a s1 → s.read ≤ s1.read
def Adv {α : Type} (s : S) (r : Res α) : Prop := ∀ a s1, r = .ok a s1 → s.read < s1.read
theorem Dead.bind {α β : Type} {r : Res α} {k : α → S → Res β} (h : Dead r) : Dead (r.bind k) := by
  rcases h with rfl | ⟨s, rfl⟩
  · exact .inl rfl
  · exact .inr ⟨s, rfl⟩
theorem Dead.not {α : Type} {r : Res α} (h : Dead r) : NotOk r := by
  intro a s e
  rcases h with rfl | ⟨s, rfl⟩ <;> cases e
theorem NotOk.left {α β : Type} {r : Res α} {k : α → S → Res β} (h : NotOk r) : NotOk (r.bind k) := by
  intro b s2 h2
  cases r with
  | ok a s1 => exact h a s1 rfl
  | bad e s1 => cases h2
  | out => cases h2
theorem NotOk.right {α β : Type} {r : Res α} {k : α → S → Res β} (h : ∀ a s1, r = .ok a s1 → NotOk (k a s1)) : NotOk (r.bind k) := by
  intro b s2 h2
  cases r with
  | ok a s1 => exact h a s1 rfl b s2 h2
  | bad e s1 => cases h2
  | out => cases h2
theorem NotOk.up {α β : Type} {N : Nat} {s : S} {r : Res α} {k : α → S → Res β} (hs : N < s.read) (hu : Up s r) (h : ∀ a s1, N < s1.read → NotOk (k a s1)) : NotOk (r.bind k) :=
  NotOk.right fun a s1 e => h a s1 (Nat.lt_of_lt_of_le hs (hu a s1 e))
theorem Up.bind {α β : Type} {s : S} {r : Res α} {k : α → S → Res β} (h : Up s r) (hk : ∀ a s1, Up s1 (k a s1)) : Up s (r.bind k) := by
  intro b s2 h2
  cases r with
  | ok a s1 => exact Nat.le_trans (h a s1 rfl) (hk a s1 b s2 h2)
  | bad e s1 => cases h2
  | out => cases h2
theorem Adv.bind {α β : Type} {s : S} {r : Res α} {k : α → S → Res β} (h : Adv s r) (hk : ∀ a s1, Up s1 (k a s1)) : Adv s (r.bind k) := by
  intro b s2 h2
  cases r with
  | ok a s1 => exact Nat.lt_of_lt_of_le (h a s1 rfl) (hk a s1 b s2 h2)
  | bad e s1 => cases h2
  | out => cases h2
theorem Adv.up {α : Type} {s : S} {r : Res α} (h : Adv s r) : Up s r := fun a s1 e => Nat.le_of_lt (h a s1 e)
theorem up_ok {α : Type} {s : S} (a : α) : Up s (.ok a s) := fun b s1 h => by cases h; exact Nat.le_refl _
theorem up_bad {α : Type} {s s' : S} {e : Int} : Up s (.bad e s' : Res α) := fun b s1 h => by cases h
theorem up_out {α : Type} {s : S} : Up s (.out : Res α) := fun b s1 h => by cases h

/-! ### Reading goes on -/
section
variable {E : PE} {s : S} {x : List UInt8} {k : Int} {f : Nat} {rec : NTm → S → Res Int}
theorem adv_take : Adv s (takeM E s) := by
  intro a s1 h
  unfold takeM at h
  split at h
  · cases h
  · split at h
    · cases h; simp
    · cases h
theorem up_take : Up s (takeM E s) := adv_take.up
theorem up_took : Up s (tookM E x s) := by
  unfold tookM
  split
  · exact up_take.bind fun _ _ => up_ok _
  · exact up_ok _
theorem adv_need : Adv s (needM E x s) := by
  unfold needM tookM
  split
  · intro a s2 h
    cases hr : takeM E s with
    | ok b s1 => rw [hr] at h; cases h; exact adv_take _ _ hr
    | bad e s1 => rw [hr] at h; cases h
    | out => rw [hr] at h; cases h
  · intro a s2 h; cases h
theorem up_need : Up s (needM E x s) := adv_need.up
theorem adv_kind : Adv s (kindM E k s) := by
  unfold kindM
  split
  · exact adv_take
  · intro a s2 h; cases h
theorem adv_name : Adv s (nameM E s) := adv_kind.bind fun _ _ => up_ok _
theorem up_name : Up s (nameM E s) := adv_name.up
theorem adv_number : Adv s (numberM E s) := adv_kind.bind fun _ _ => up_ok _
theorem up_number : Up s (numberM E s) := adv_number.up
theorem up_add {n : Nd} : Up s (addM n s) := by
  unfold addM
  split
  · intro a s1 h; cases h; exact Nat.le_refl _
  · exact up_bad
theorem up_numbered {t : Ty} : Up s (numberedM t s) := by
  unfold numberedM
  split
  · exact up_ok _
  · split
    · intro a s1 h; cases h; exact Nat.le_refl _
    · exact up_bad
theorem up_listR : ∀ (xs : List Int) (rest : Int) (s : S), Up s (listRM xs rest s)
  | [], rest, s => up_ok _
  | x :: xs, rest, s => by
    unfold listRM
    split
    · exact up_out
    · split
      · exact up_out
      · exact up_add.bind fun r s1 => up_listR xs r s1
theorem up_list {xs : List Int} : Up s (listM xs s) := up_listR _ _ _
theorem up_deep {m : S → Res Int} (hm : ∀ s, Up s (m s)) : Up s (deepM m s) := by
  unfold deepM
  split
  · have h := hm { s with depth := s.depth + 1 }
    cases hr : m { s with depth := s.depth + 1 } with
    | ok a s1 =>
      have := h a s1 hr
      dsimp only
      split
      · intro b s2 h; cases h; exact this
      · exact up_out
    | bad e s1 =>
      dsimp only
      split
      · exact up_bad
      · exact up_out
    | out => exact up_out
  · exact up_out
theorem up_signed : Up s (signedM E s) := by
  unfold signedM
  ((repeat (first | exact up_ok _ | exact up_bad | exact up_out | exact up_take | exact up_took | exact up_need | exact up_name | exact up_number | exact up_add | exact up_numbered | exact up_list | with_reducible refine Up.bind ?_ ?_ | split | intro _ _)))
theorem up_plain : Up s (plainM E s) := by
  unfold plainM
  ((repeat (first | exact up_ok _ | exact up_bad | exact up_out | exact up_take | exact up_took | exact up_need | exact up_name | exact up_number | exact up_add | exact up_numbered | exact up_list | with_reducible refine Up.bind ?_ ?_ | split | intro _ _)))
theorem up_stars : ∀ (f : Nat) (t : Int) (s : S), Up s (starsM f E t s)
  | 0, t, s => up_out
  | f + 1, t, s => by
    unfold starsM
    refine up_took.bind fun b s1 => ?_
    split
    · exact up_numbered.bind fun r s2 => up_stars f r s2
    · exact up_ok _
theorem up_typed : Up s (typedM f E s) := up_plain.bind fun _ _ => up_stars _ _ _
theorem up_counted {t : Int} : Up s (countedM E t s) := by
  unfold countedM
  ((repeat (first | exact up_ok _ | exact up_bad | exact up_out | exact up_take | exact up_took | exact up_need | exact up_name | exact up_number | exact up_add | exact up_numbered | exact up_list | with_reducible refine Up.bind ?_ ?_ | split | intro _ _)))
theorem up_sts {m : S → Res Int} (hm : ∀ s, Up s (m s)) : ∀ (k : Nat) (s : S), Up s (stsM k m E s)
  | 0, s => up_out
  | k + 1, s => by
    unfold stsM
    split
    · exact up_ok _
    · exact (up_deep hm).bind fun x s1 => (up_sts hm k s1).bind fun xs s2 => up_ok _
theorem up_wholes {m : S → Res Int} (hm : ∀ s, Up s (m s)) : ∀ (k : Nat) (s : S), Up s (wholesM k m E s)
  | 0, s => up_out
  | k + 1, s => by
    unfold wholesM
    split
    · exact (hm s).bind fun x s1 => (up_wholes hm k s1).bind fun xs s2 => up_ok _
    · exact up_ok _
theorem up_fields {m : S → Res Int} (hm : ∀ s, Up s (m s)) : ∀ (k : Nat) (s : S), Up s (fieldsM k m E s)
  | 0, s => up_out
  | k + 1, s => by
    unfold fieldsM
    refine (hm s).bind fun x s1 => ?_
    split
    · exact up_ok _
    · exact (up_fields hm k s1).bind fun xs s2 => up_ok _
theorem up_commas {m : S → Res Int} (hm : ∀ s, Up s (m s)) : ∀ (k : Nat) (more : Bool) (s : S), Up s (commasM k more m E s)
  | 0, more, s => up_out
  | k + 1, more, s => by
    unfold commasM
    split
    · exact (hm s).bind fun x s1 => up_took.bind fun b s2 => (up_commas hm k b s2).bind fun xs s3 => up_ok _
    · exact up_ok _
def RecUp (rec : NTm → S → Res Int) : Prop := ∀ nt s, Up s (rec nt s)
theorem RecUp.deep (h : RecUp rec) {nt : NTm} : Up s (deepM (rec nt) s) := up_deep (h nt)
theorem RecUp.st (h : RecUp rec) (s : S) : Up s (rec .st s) := h .st s
theorem up_ex (hR : RecUp rec) : Up s (exM rec E s) := by
  unfold exM
  refine (hR .ch s).bind ?_
  ((repeat (first | exact up_ok _ | exact up_bad | exact up_out | exact up_take | exact up_took | exact up_need | exact up_name | exact up_number | exact up_signed | exact up_add | exact up_numbered | exact up_list | exact up_typed | exact up_counted | exact RecUp.deep (by assumption) | exact up_sts (RecUp.st (by assumption)) _ _ | exact up_commas (fun _ => RecUp.deep (by assumption)) _ _ _ | with_reducible assumption | with_reducible refine Up.bind ?_ ?_ | split | intro _ _)))
theorem up_ch (hR : RecUp rec) : Up s (chM rec E s) := by
  unfold chM
  refine (hR (.bi 2) s).bind ?_
  ((repeat (first | exact up_ok _ | exact up_bad | exact up_out | exact up_take | exact up_took | exact up_need | exact up_name | exact up_number | exact up_signed | exact up_add | exact up_numbered | exact up_list | exact up_typed | exact up_counted | exact RecUp.deep (by assumption) | exact up_sts (RecUp.st (by assumption)) _ _ | exact up_commas (fun _ => RecUp.deep (by assumption)) _ _ _ | with_reducible assumption | with_reducible refine Up.bind ?_ ?_ | split | intro _ _)))
theorem up_biL (hR : RecUp rec) : ∀ (g : Nat) (least left : Int) (s : S), Up s (biML rec E g least left s)
  | 0, least, left, s => up_out
  | g + 1, least, left, s => by
    unfold biML
    split
    · exact up_ok _
    · exact up_take.bind fun t s1 => (hR _ _).bind fun r s2 => up_add.bind fun q s3 => up_biL hR g least q s3
theorem up_bi {least : Int} (hR : RecUp rec) : Up s (biM f rec E least s) := (hR .pr s).bind fun l s1 => up_biL hR f least l s1
theorem up_bracket (hR : RecUp rec) : Up s (bracketM rec E s) := by
  unfold bracketM
  ((repeat (first | exact up_ok _ | exact up_bad | exact up_out | exact up_take | exact up_took | exact up_need | exact up_name | exact up_number | exact up_signed | exact up_add | exact up_numbered | exact up_list | exact up_typed | exact up_counted | exact RecUp.deep (by assumption) | exact up_sts (RecUp.st (by assumption)) _ _ | exact up_commas (fun _ => RecUp.deep (by assumption)) _ _ _ | with_reducible assumption | with_reducible refine Up.bind ?_ ?_ | split | intro _ _)))
theorem up_prim (hR : RecUp rec) : Up s (primM f rec E s) := by
  unfold primM
  split
  · exact up_bracket hR
  split
  · ((repeat (first | exact up_ok _ | exact up_bad | exact up_out | exact up_take | exact up_took | exact up_need | exact up_name | exact up_number | exact up_signed | exact up_add | exact up_numbered | exact up_list | exact up_typed | exact up_counted | exact RecUp.deep (by assumption) | exact up_sts (RecUp.st (by assumption)) _ _ | exact up_commas (fun _ => RecUp.deep (by assumption)) _ _ _ | with_reducible assumption | with_reducible refine Up.bind ?_ ?_ | split | intro _ _)))
  refine up_took.bind fun b s1 => ?_
  split
  · ((repeat (first | exact up_ok _ | exact up_bad | exact up_out | exact up_take | exact up_took | exact up_need | exact up_name | exact up_number | exact up_signed | exact up_add | exact up_numbered | exact up_list | exact up_typed | exact up_counted | exact RecUp.deep (by assumption) | exact up_sts (RecUp.st (by assumption)) _ _ | exact up_commas (fun _ => RecUp.deep (by assumption)) _ _ _ | with_reducible assumption | with_reducible refine Up.bind ?_ ?_ | split | intro _ _)))
  refine up_took.bind fun b s2 => ?_
  split
  · exact (up_bracket hR).bind fun _ _ => up_add
  ((repeat (first | exact up_ok _ | exact up_bad | exact up_out | exact up_take | exact up_took | exact up_need | exact up_name | exact up_number | exact up_signed | exact up_add | exact up_numbered | exact up_list | exact up_typed | exact up_counted | exact RecUp.deep (by assumption) | exact up_sts (RecUp.st (by assumption)) _ _ | exact up_commas (fun _ => RecUp.deep (by assumption)) _ _ _ | with_reducible assumption | with_reducible refine Up.bind ?_ ?_ | split | intro _ _)))
theorem up_postL (hR : RecUp rec) : ∀ (g : Nat) (left : Int) (s : S), Up s (postML rec E g left s)
  | 0, left, s => up_out
  | g + 1, left, s => by
    unfold postML
    split
    · exact up_take.bind fun _ s1 => (hR.deep).bind fun r s2 => up_need.bind fun _ s3 => up_add.bind fun q s4 => up_postL hR g q s4
    split
    · exact up_take.bind fun _ s1 => up_name.bind fun x s2 => up_add.bind fun q s3 => up_postL hR g q s3
    split
    · exact up_take.bind fun _ s1 => up_name.bind fun x s2 => up_add.bind fun q s3 => up_postL hR g q s3
    split
    · exact up_take.bind fun t s1 => up_add.bind fun q s2 => up_postL hR g q s2
    · exact up_ok _
theorem up_post (hR : RecUp rec) : Up s (postM f rec E s) := (up_prim hR).bind fun l s1 => up_postL hR f l s1
theorem up_size : Up s (sizeM f E s) := by
  unfold sizeM
  ((repeat (first | exact up_ok _ | exact up_bad | exact up_out | exact up_take | exact up_took | exact up_need | exact up_name | exact up_number | exact up_signed | exact up_add | exact up_numbered | exact up_list | exact up_typed | exact up_counted | exact RecUp.deep (by assumption) | exact up_sts (RecUp.st (by assumption)) _ _ | exact up_commas (fun _ => RecUp.deep (by assumption)) _ _ _ | with_reducible assumption | with_reducible refine Up.bind ?_ ?_ | split | intro _ _)))
theorem up_pr (hR : RecUp rec) : Up s (prM f rec E s) := by
  unfold prM tailM
  split
  · exact up_size
  split
  · ((repeat (first | exact up_ok _ | exact up_bad | exact up_out | exact up_take | exact up_took | exact up_need | exact up_name | exact up_number | exact up_signed | exact up_add | exact up_numbered | exact up_list | exact up_typed | exact up_counted | exact RecUp.deep (by assumption) | exact up_sts (RecUp.st (by assumption)) _ _ | exact up_commas (fun _ => RecUp.deep (by assumption)) _ _ _ | with_reducible assumption | with_reducible refine Up.bind ?_ ?_ | split | intro _ _)))
  split
  · ((repeat (first | exact up_ok _ | exact up_bad | exact up_out | exact up_take | exact up_took | exact up_need | exact up_name | exact up_number | exact up_signed | exact up_add | exact up_numbered | exact up_list | exact up_typed | exact up_counted | exact RecUp.deep (by assumption) | exact up_sts (RecUp.st (by assumption)) _ _ | exact up_commas (fun _ => RecUp.deep (by assumption)) _ _ _ | with_reducible assumption | with_reducible refine Up.bind ?_ ?_ | split | intro _ _)))
  split
  · split
    · ((repeat (first | exact up_ok _ | exact up_bad | exact up_out | exact up_take | exact up_took | exact up_need | exact up_name | exact up_number | exact up_signed | exact up_add | exact up_numbered | exact up_list | exact up_typed | exact up_counted | exact RecUp.deep (by assumption) | exact up_sts (RecUp.st (by assumption)) _ _ | exact up_commas (fun _ => RecUp.deep (by assumption)) _ _ _ | with_reducible assumption | with_reducible refine Up.bind ?_ ?_ | split | intro _ _)))
    · exact up_post hR
  · exact up_post hR
theorem up_block (hR : RecUp rec) : Up s (blockM f rec E s) := by
  unfold blockM
  ((repeat (first | exact up_ok _ | exact up_bad | exact up_out | exact up_take | exact up_took | exact up_need | exact up_name | exact up_number | exact up_signed | exact up_add | exact up_numbered | exact up_list | exact up_typed | exact up_counted | exact RecUp.deep (by assumption) | exact up_sts (RecUp.st (by assumption)) _ _ | exact up_commas (fun _ => RecUp.deep (by assumption)) _ _ _ | with_reducible assumption | with_reducible refine Up.bind ?_ ?_ | split | intro _ _)))
theorem up_unless (hR : RecUp rec) : Up s (unlessM rec E x s) := by
  unfold unlessM
  ((repeat (first | exact up_ok _ | exact up_bad | exact up_out | exact up_take | exact up_took | exact up_need | exact up_name | exact up_number | exact up_signed | exact up_add | exact up_numbered | exact up_list | exact up_typed | exact up_counted | exact RecUp.deep (by assumption) | exact up_sts (RecUp.st (by assumption)) _ _ | exact up_commas (fun _ => RecUp.deep (by assumption)) _ _ _ | with_reducible assumption | with_reducible refine Up.bind ?_ ?_ | split | intro _ _)))
theorem up_marked (hR : RecUp rec) : Up s (markedM rec E s) := by
  unfold markedM
  ((repeat (first | exact up_ok _ | exact up_bad | exact up_out | exact up_take | exact up_took | exact up_need | exact up_name | exact up_number | exact up_signed | exact up_add | exact up_numbered | exact up_list | exact up_typed | exact up_counted | exact RecUp.deep (by assumption) | exact up_sts (RecUp.st (by assumption)) _ _ | exact up_commas (fun _ => RecUp.deep (by assumption)) _ _ _ | with_reducible assumption | with_reducible refine Up.bind ?_ ?_ | split | intro _ _)))
theorem up_simp (hR : RecUp rec) {n : Nd} : Up s (simpM f rec E n s) := by
  have hb : ∀ s, Up s (bracketM rec E s) := fun s => up_bracket hR
  unfold simpM
  repeat (first | exact up_ok _ | exact hb _ | exact up_took | exact up_need | exact up_name | exact up_typed | exact up_counted | exact hR.deep | with_reducible refine Up.bind ?_ ?_ | split | intro _ _)
theorem up_st (hR : RecUp rec) : Up s (stM f rec E s) := by
  have hb : ∀ s, Up s (bracketM rec E s) := fun s => up_bracket hR
  have hl : ∀ s, Up s (blockM f rec E s) := fun s => up_block hR
  have hu : ∀ x s, Up s (unlessM rec E x s) := fun x s => up_unless hR
  have hm : ∀ s, Up s (markedM rec E s) := fun s => up_marked hR
  have hq : ∀ n s, Up s (simpM f rec E n s) := fun n s => up_simp hR
  unfold stM
  repeat (first | exact up_ok _ | exact hb _ | exact hl _ | exact hu _ _ | exact hm _ | exact hq _ _ | exact up_took | exact up_need | exact up_name | exact up_signed | exact up_add | exact hR.deep | with_reducible refine Up.bind ?_ ?_ | split | intro _ _)
theorem go_up : ∀ f, RecUp (goM f E)
  | 0 => fun nt s => up_out
  | f + 1 => fun nt s => by
    have hR := go_up f
    cases nt with
    | ex => exact up_ex hR
    | ch => exact up_ch hR
    | bi l => exact up_bi hR
    | pr => exact up_pr hR
    | st => exact up_st hR
theorem up_field : Up s (fieldM f E s) := by
  unfold fieldM
  ((repeat (first | exact up_ok _ | exact up_bad | exact up_out | exact up_take | exact up_took | exact up_need | exact up_name | exact up_number | exact up_signed | exact up_add | exact up_numbered | exact up_list | exact up_typed | exact up_counted | exact RecUp.deep (by assumption) | exact up_sts (RecUp.st (by assumption)) _ _ | exact up_commas (fun _ => RecUp.deep (by assumption)) _ _ _ | with_reducible assumption | with_reducible refine Up.bind ?_ ?_ | split | intro _ _)))
theorem up_param : Up s (paramM f E s) := by
  unfold paramM
  ((repeat (first | exact up_ok _ | exact up_bad | exact up_out | exact up_take | exact up_took | exact up_need | exact up_name | exact up_number | exact up_signed | exact up_add | exact up_numbered | exact up_list | exact up_typed | exact up_counted | exact RecUp.deep (by assumption) | exact up_sts (RecUp.st (by assumption)) _ _ | exact up_commas (fun _ => RecUp.deep (by assumption)) _ _ _ | with_reducible assumption | with_reducible refine Up.bind ?_ ?_ | split | intro _ _)))
theorem up_structure : Up s (structureM f E s) := by
  unfold structureM
  refine up_need.bind fun _ s1 => up_name.bind fun x s2 => up_need.bind fun _ s3 => ((up_fields (fun s => up_field) _ _).bind fun _ _ => up_list).bind fun q s5 => ?_
  ((repeat (first | exact up_ok _ | exact up_bad | exact up_out | exact up_take | exact up_took | exact up_need | exact up_name | exact up_number | exact up_signed | exact up_add | exact up_numbered | exact up_list | exact up_typed | exact up_counted | exact RecUp.deep (by assumption) | exact up_sts (RecUp.st (by assumption)) _ _ | exact up_commas (fun _ => RecUp.deep (by assumption)) _ _ _ | with_reducible assumption | with_reducible refine Up.bind ?_ ?_ | split | intro _ _)))
theorem up_whole : Up s (wholeM f E s) := by
  unfold wholeM
  split
  · exact up_structure
  refine up_typed.bind fun t s1 => up_name.bind fun x s2 => up_took.bind fun b s3 => ?_
  split
  · exact ((up_commas (fun s => up_param) _ _ _).bind fun _ _ => up_list).bind fun q s5 => up_need.bind fun _ s6 => (up_block (go_up f)).bind fun z s7 => up_add
  · ((repeat (first | exact up_ok _ | exact up_bad | exact up_out | exact up_take | exact up_took | exact up_need | exact up_name | exact up_number | exact up_signed | exact up_add | exact up_numbered | exact up_list | exact up_typed | exact up_counted | exact RecUp.deep (by assumption) | exact up_sts (RecUp.st (by assumption)) _ _ | exact up_commas (fun _ => RecUp.deep (by assumption)) _ _ _ | with_reducible assumption | with_reducible refine Up.bind ?_ ?_ | split | intro _ _)))
end
end Go.Proofs.YtaamllikceaifaaGreatDoor.Tr
namespace Go.Proofs.YtaamllikceaifaaGreatDoor.Tr
open Sp
set_option linter.unusedVariables false

/-- One reading has a token less, the last one. -/
structure Cut (E E' : PE) (N : Nat) : Prop where
  toks : ∃ t, E.toks = E'.toks ++ [t]
  len : E'.toks.length = N
  fin : E.fin.k = 0
  fin' : E'.fin.k = 0
/-- The same came of both, ahead of the last token; or the one is behind it; or the other is at an error. -/
def Rel {α : Type} (N : Nat) (r r' : Res α) : Prop := ∀ a s1, r = .ok a s1 → (s1.read ≤ N ∧ r' = .ok a s1) ∨ N < s1.read ∨ Dead r'
/-- As above, but not behind it. -/
def Rel2 {α : Type} (N : Nat) (r r' : Res α) : Prop := ∀ a s1, r = .ok a s1 → (s1.read ≤ N ∧ r' = .ok a s1) ∨ Dead r'
section
variable {α β : Type} {N : Nat} {r r' : Res α} {k k' : α → S → Res β}
theorem Rel.bind (h : Rel N r r') (h1 : ∀ a s1, s1.read ≤ N → Rel N (k a s1) (k' a s1)) (h2 : ∀ a s1, Up s1 (k a s1)) : Rel N (r.bind k) (r'.bind k') := by
  intro b s2 hb
  cases r with
  | ok a s1 =>
    rcases h a s1 rfl with ⟨hl, rfl⟩ | hl | hd
    · exact h1 a s1 hl b s2 hb
    · exact .inr (.inl (Nat.lt_of_lt_of_le hl (h2 a s1 b s2 hb)))
    · exact .inr (.inr hd.bind)
  | bad e s1 => cases hb
  | out => cases hb
theorem Rel2.bind (h : Rel N r r') (h1 : ∀ a s1, s1.read ≤ N → Rel2 N (k a s1) (k' a s1)) (h2 : ∀ a s1, N < s1.read → NotOk (k a s1)) : Rel2 N (r.bind k) (r'.bind k') := by
  intro b s2 hb
  cases r with
  | ok a s1 =>
    rcases h a s1 rfl with ⟨hl, rfl⟩ | hl | hd
    · exact h1 a s1 hl b s2 hb
    · exact absurd hb (h2 a s1 hl b s2)
    · exact .inr hd.bind
  | bad e s1 => cases hb
  | out => cases hb
theorem Rel2.bind2 (h : Rel2 N r r') (h1 : ∀ a s1, s1.read ≤ N → Rel2 N (k a s1) (k' a s1)) : Rel2 N (r.bind k) (r'.bind k') := by
  intro b s2 hb
  cases r with
  | ok a s1 =>
    rcases h a s1 rfl with ⟨hl, rfl⟩ | hd
    · exact h1 a s1 hl b s2 hb
    · exact .inr hd.bind
  | bad e s1 => cases hb
  | out => cases hb
theorem Rel2.rel (h : Rel2 N r r') : Rel N r r' := fun a s1 e => (h a s1 e).elim .inl (fun h => .inr (.inr h))
theorem Rel.dead (h : Dead r') : Rel N r r' := fun _ _ _ => .inr (.inr h)
theorem Rel2.dead (h : Dead r') : Rel2 N r r' := fun _ _ _ => .inr h
theorem Rel.not (h : NotOk r) : Rel N r r' := fun a s1 e => absurd e (h a s1)
theorem Rel2.not (h : NotOk r) : Rel2 N r r' := fun a s1 e => absurd e (h a s1)
theorem Rel.same {s : S} {a : α} (h : s.read ≤ N) : Rel N (.ok a s) (.ok a s) := fun b s1 e => by cases e; exact .inl ⟨h, rfl⟩
theorem Rel2.same {s : S} {a : α} (h : s.read ≤ N) : Rel2 N (.ok a s) (.ok a s) := fun b s1 e => by cases e; exact .inl ⟨h, rfl⟩
theorem Rel.past {s : S} (hs : N ≤ s.read) (h : Adv s r) : Rel N r r' := fun a s1 e => .inr (.inl (Nat.lt_of_le_of_lt hs (h a s1 e)))
theorem Rel.self {s : S} (hs : s.read ≤ N) (h : ∀ a s1, r = .ok a s1 → s1.read = s.read) : Rel N r r := fun a s1 e => .inl ⟨by rw [h a s1 e]; exact hs, e⟩
theorem Rel2.self {s : S} (hs : s.read ≤ N) (h : ∀ a s1, r = .ok a s1 → s1.read = s.read) : Rel2 N r r := fun a s1 e => .inl ⟨by rw [h a s1 e]; exact hs, e⟩
end
section
variable {E E' : PE} {N : Nat} {s : S} {x : List UInt8} {k : Int} {f : Nat}
theorem Cut.lenE (C : Cut E E' N) : E.toks.length = N + 1 := by
  obtain ⟨t, h⟩ := C.toks
  rw [h, List.length_append, C.len]; rfl
theorem ahd_end {E : PE} {s : S} {k : Nat} (h : E.toks.length ≤ s.read + k) : ahd E s k = E.fin := by
  unfold ahd
  rw [List.getD_eq_getElem?_getD, List.getElem?_eq_none h]; rfl
theorem Cut.ahd (C : Cut E E' N) {k : Nat} (h : s.read + k < N) : Tr.ahd E s k = Tr.ahd E' s k := by
  obtain ⟨t, ht⟩ := C.toks
  unfold Tr.ahd
  rw [List.getD_eq_getElem?_getD, List.getD_eq_getElem?_getD, ht, List.getElem?_append_left (by rw [C.len]; exact h), List.getElem?_eq_getElem (by rw [C.len]; exact h)]
  rfl
theorem Cut.now (C : Cut E E' N) (h : s.read < N) : nowT E s = nowT E' s := C.ahd h
theorem Cut.now0 (C : Cut E E' N) (h : N ≤ s.read) : (nowT E' s).k = 0 := by
  unfold nowT; rw [ahd_end (by rw [C.len]; exact h)]; exact C.fin'
theorem Cut.now1 (C : Cut E E' N) (h : N < s.read) : (nowT E s).k = 0 := by
  unfold nowT; rw [ahd_end (by rw [C.lenE]; exact h)]; exact C.fin
theorem same0 {t : Tok} (h : t.k = 0) : sameT t x = false := by
  unfold sameT; rw [h]; simp
theorem is0 {E : PE} (h : (nowT E s).k = 0) : isT E s x = false := same0 h
theorem sgn0 {E : PE} (h : (nowT E s).k = 0) : sgn E s = [] := by
  unfold sgn; rw [h]; simp
theorem begins0 {t : Tok} (h : t.k = 0) : beginsT t = false := by
  unfold beginsT; rw [h]; simp
theorem took0 {E : PE} (h : (nowT E s).k = 0) : tookM E x s = .ok false s := by
  unfold tookM; rw [is0 h]; simp
theorem need0 {E : PE} (h : (nowT E s).k = 0) : Dead (needM E x s) := by
  unfold needM; rw [took0 h]; exact .inr ⟨s, rfl⟩
theorem kind0 {E : PE} (h : (nowT E s).k = 0) (hk : k ≠ 0) : Dead (kindM E k s) := by
  unfold kindM; rw [if_neg (by omega)]; exact .inr ⟨s, rfl⟩
theorem name0 {E : PE} (h : (nowT E s).k = 0) : Dead (nameM E s) := (kind0 h (by decide)).bind
theorem number0 {E : PE} (h : (nowT E s).k = 0) : Dead (numberM E s) := (kind0 h (by decide)).bind
theorem signed0 {E : PE} (h : (nowT E s).k = 0) : Dead (signedM E s) := by
  unfold signedM; rw [took0 h]; exact number0 h
theorem plain0 {E : PE} (h : (nowT E s).k = 0) : Dead (plainM E s) := by
  unfold plainM structM
  simp only [took0 h, Res.bind_ok, Bool.false_eq_true, if_false]
  exact (need0 h).bind
theorem typed0 {E : PE} (h : (nowT E s).k = 0) : Dead (typedM f E s) := (plain0 h).bind
theorem deep0 {m : S → Res Int} (h : ∀ d, Dead (m { s with depth := d })) : Dead (deepM m s) := by
  unfold deepM
  split
  · rcases h (s.depth + 1) with e | ⟨s1, e⟩
    · rw [e]; exact .inl rfl
    · rw [e]
      dsimp only
      split
      · exact .inr ⟨_, rfl⟩
      · exact .inl rfl
  · exact .inl rfl

/-! ### What can't be begun at the end -/
def RecDead (E : PE) (rec : NTm → S → Res Int) : Prop := ∀ nt s, (nowT E s).k = 0 → Dead (rec nt s)
variable {rec rec' : NTm → S → Res Int}
theorem RecDead.deep {E : PE} (hR : RecDead E rec) {nt : NTm} (h : (nowT E s).k = 0) : Dead (deepM (rec nt) s) := deep0 fun d => hR nt _ h
theorem bracket0 {E : PE} (h : (nowT E s).k = 0) : Dead (bracketM rec E s) := (need0 h).bind
theorem prim0 {E : PE} (h : (nowT E s).k = 0) : Dead (primM f rec E s) := by
  unfold primM
  rw [is0 h, h]
  simp only [took0 h, Res.bind_ok, Bool.false_eq_true, if_false]
  rw [if_neg (by decide)]
  exact (name0 h).bind
theorem pr0 {E : PE} (h : (nowT E s).k = 0) : Dead (prM f rec E s) := by
  unfold prM
  rw [is0 h, sgn0 h, if_neg (by decide), if_neg (by decide), if_neg (by decide), if_neg (by decide)]
  exact (prim0 h).bind
theorem block0 {E : PE} (h : (nowT E s).k = 0) : Dead (blockM f rec E s) := (need0 h).bind
theorem simp0 {E : PE} {n : Nd} (hR : RecDead E rec) (h : (nowT E s).k = 0) : Dead (simpM f rec E n s) := by
  unfold simpM
  simp only [is0 h, took0 h, begins0 h, Res.bind_ok, Bool.false_eq_true, if_false]
  exact (hR.deep h).bind
theorem st0 {E : PE} (hR : RecDead E rec) (h : (nowT E s).k = 0) : Dead (stM f rec E s) := by
  unfold stM
  simp only [is0 h, took0 h, Res.bind_ok, Bool.false_eq_true, if_false]
  rw [if_neg (by rw [h]; simp)]
  exact (simp0 hR h).bind
theorem go0 {E : PE} : ∀ f, RecDead E (goM f E)
  | 0 => fun nt s h => .inl rfl
  | f + 1 => fun nt s h => by
    have hR := go0 (E := E) f
    cases nt with
    | ex => exact (hR .ch s h).bind
    | ch => exact (hR (.bi 2) s h).bind
    | bi l => exact (hR .pr s h).bind
    | pr => exact pr0 h
    | st => exact st0 hR h
theorem field0 {E : PE} (h : (nowT E s).k = 0) : Dead (fieldM f E s) := (typed0 h).bind
theorem param0 {E : PE} (h : (nowT E s).k = 0) : Dead (paramM f E s) := (typed0 h).bind
theorem sts0 {E : PE} {m : S → Res Int} (hm : Dead (deepM m s)) (h : (nowT E s).k = 0) : ∀ k, Dead (stsM k m E s)
  | 0 => .inl rfl
  | k + 1 => by
    unfold stsM
    rw [is0 h]
    simp only [Bool.false_eq_true, if_false]
    exact hm.bind
theorem fields0 {E : PE} {m : S → Res Int} (hm : Dead (m s)) : ∀ k, Dead (fieldsM k m E s)
  | 0 => .inl rfl
  | k + 1 => hm.bind
theorem commas0 {E : PE} {m : S → Res Int} (hm : Dead (m s)) : ∀ k, Dead (commasM k true m E s)
  | 0 => .inl rfl
  | k + 1 => by
    unfold commasM
    exact hm.bind
/-! ### Tokens -/
theorem take_r (C : Cut E E' N) (h : s.read < N) : Rel N (takeM E s) (takeM E' s) := by
  unfold takeM
  rw [C.now h]
  split
  · exact fun a s1 e => by cases e
  · split
    · exact Rel.same (show s.read + 1 ≤ N from h)
    · exact fun a s1 e => by cases e
theorem took_r (C : Cut E E' N) (h : s.read ≤ N) : Rel N (tookM E x s) (tookM E' x s) := by
  rcases Nat.lt_or_eq_of_le h with h | h
  · unfold tookM isT
    rw [C.now h]
    split
    · exact (take_r C h).bind (fun _ s1 h1 => Rel.same h1) (fun _ _ => up_ok _)
    · exact Rel.same (Nat.le_of_lt h)
  · rw [took0 (C.now0 (by omega))]
    unfold tookM
    split
    · exact Rel.past (s := s) (by omega) (adv_take.bind fun _ _ => up_ok _)
    · exact Rel.same (by omega)
theorem need_r2 (C : Cut E E' N) (h : s.read ≤ N) : Rel2 N (needM E x s) (needM E' x s) := by
  rcases Nat.lt_or_eq_of_le h with h | h
  · have ht := take_r C h
    unfold needM tookM isT
    rw [C.now h]
    split
    · intro a s1 e
      cases hr : takeM E s with
      | ok b s2 =>
        rw [hr] at e
        cases e
        rcases ht _ _ hr with ⟨h1, h2⟩ | h1 | h1
        · rw [h2]; exact .inl ⟨h1, rfl⟩
        · exfalso
          unfold takeM at hr
          split at hr
          · cases hr
          · split at hr
            · cases hr; simp at h1; omega
            · cases hr
        · exact .inr h1.bind.bind
      | bad e2 s2 => rw [hr] at e; cases e
      | out => rw [hr] at e; cases e
    · intro a s1 e; cases e
  · exact Rel2.dead (need0 (C.now0 (by omega)))
theorem need_r (C : Cut E E' N) (h : s.read ≤ N) : Rel N (needM E x s) (needM E' x s) := (need_r2 C h).rel
theorem kind_r (C : Cut E E' N) (h : s.read ≤ N) (hk : k ≠ 0) : Rel N (kindM E k s) (kindM E' k s) := by
  rcases Nat.lt_or_eq_of_le h with h | h
  · unfold kindM
    rw [C.now h]
    split
    · exact take_r C h
    · exact Rel.dead (.inr ⟨s, rfl⟩)
  · exact Rel.dead (kind0 (C.now0 (by omega)) hk)
theorem name_r (C : Cut E E' N) (h : s.read ≤ N) : Rel N (nameM E s) (nameM E' s) := (kind_r C h (by decide)).bind (fun _ s1 h1 => Rel.same h1) (fun _ _ => up_ok _)
theorem number_r (C : Cut E E' N) (h : s.read ≤ N) : Rel N (numberM E s) (numberM E' s) := (kind_r C h (by decide)).bind (fun _ s1 h1 => Rel.same h1) (fun _ _ => up_ok _)
theorem signed_r (C : Cut E E' N) (h : s.read ≤ N) : Rel N (signedM E s) (signedM E' s) := by
  unfold signedM
  refine (took_r C h).bind (fun b s1 h1 => ?_) (fun b s1 => ?_)
  · split
    · exact (number_r C h1).bind (fun _ s2 h2 => Rel.same h2) (fun _ _ => up_ok _)
    · exact number_r C h1
  · split
    · exact up_number.bind fun _ _ => up_ok _
    · exact up_number
theorem add_read {n : Nd} : ∀ a s1, addM n s = .ok a s1 → s1.read = s.read := by
  intro a s1 h
  unfold addM at h
  split at h <;> cases h
  rfl
theorem add_r {n : Nd} (h : s.read ≤ N) : Rel N (addM n s) (addM n s) := Rel.self h add_read
theorem numbered_read {t : Ty} : ∀ a s1, numberedM t s = .ok a s1 → s1.read = s.read := by
  intro a s1 h
  unfold numberedM at h
  split at h
  · cases h; rfl
  · split at h <;> cases h
    rfl
theorem numbered_r {t : Ty} (h : s.read ≤ N) : Rel N (numberedM t s) (numberedM t s) := Rel.self h numbered_read
theorem listR_read : ∀ (xs : List Int) (rest : Int) (s : S) a s1, listRM xs rest s = .ok a s1 → s1.read = s.read
  | [], rest, s, a, s1, h => by cases h; rfl
  | x :: xs, rest, s, a, s1, h => by
    unfold listRM at h
    split at h
    · cases h
    · split at h
      · cases h
      · rename_i nd _
        cases hr : addM ⟨20, x, rest, -1, -1, [], 0, 0, nd.pos⟩ s with
        | ok b s2 =>
          rw [hr] at h
          rw [listR_read xs _ _ a s1 h, add_read _ _ hr]
        | bad e s2 => rw [hr] at h; cases h
        | out => rw [hr] at h; cases h
theorem list_r {xs : List Int} (h : s.read ≤ N) : Rel N (listM xs s) (listM xs s) := Rel.self h (fun a s1 e => listR_read _ _ _ a s1 e)
theorem deep_r {m m' : S → Res Int} (hs : s.read ≤ N) (h : ∀ s, s.read ≤ N → Rel N (m s) (m' s)) : Rel N (deepM m s) (deepM m' s) := by
  unfold deepM
  split
  · have h1 := h { s with depth := s.depth + 1 } hs
    intro a s1 e
    cases hr : m { s with depth := s.depth + 1 } with
    | ok b s2 =>
      rw [hr] at e
      dsimp only at e
      split at e
      · rename_i hd
        cases e
        rcases h1 _ _ hr with ⟨h2, h3⟩ | h2 | h2
        · rw [h3]; dsimp only; rw [if_pos hd]; exact .inl ⟨h2, rfl⟩
        · exact .inr (.inl h2)
        · refine .inr (.inr ?_)
          rcases h2 with h2 | ⟨s3, h2⟩
          · rw [h2]; exact .inl rfl
          · rw [h2]
            dsimp only
            split
            · exact .inr ⟨_, rfl⟩
            · exact .inl rfl
      · cases e
    | bad e2 s2 =>
      rw [hr] at e
      dsimp only at e
      split at e <;> cases e
    | out => rw [hr] at e; cases e
  · exact fun a s1 e => by cases e
/-- A test that both make: ahead of the last token they agree; at it the one has no token. -/
theorem Rel.ite {α : Type} {c c' : Prop} [Decidable c] [Decidable c'] {A A' B B' : Res α} (h : s.read ≤ N) (hs : s.read < N → (c ↔ c')) (hno : s.read = N → ¬ c')
    (hA : s.read < N → Rel N A A') (hP : s.read = N → Rel N A B') (hB : Rel N B B') : Rel N (if c then A else B) (if c' then A' else B') := by
  rcases Nat.lt_or_eq_of_le h with h | h
  · by_cases hc : c
    · rw [if_pos hc, if_pos ((hs h).1 hc)]; exact hA h
    · rw [if_neg hc, if_neg (fun k => hc ((hs h).2 k))]; exact hB
  · rw [if_neg (hno h)]
    by_cases hc : c
    · rw [if_pos hc]; exact hP h
    · rw [if_neg hc]; exact hB
theorem is_s (C : Cut E E' N) (h : s.read < N) : isT E s x = isT E' s x := by unfold isT; rw [C.now h]
theorem sgn_s (C : Cut E E' N) (h : s.read < N) : sgn E s = sgn E' s := by unfold sgn; rw [C.now h]
theorem here_s (C : Cut E E' N) (h : s.read < N) : here E s = here E' s := by unfold here; rw [C.now h]
/-! ### Types -/
theorem plain_r (C : Cut E E' N) (h : s.read ≤ N) : Rel N (plainM E s) (plainM E' s) := by
  unfold plainM structM
  refine (took_r C h).bind (fun b s1 h1 => ?_) (fun b s1 => by ((repeat (first | exact up_ok _ | exact up_bad | exact up_out | exact up_take | exact up_took | exact up_need | exact up_name | exact up_number | exact up_signed | exact up_add | exact up_numbered | exact up_list | exact up_typed | exact up_counted | exact RecUp.deep (by assumption) | exact up_sts (RecUp.st (by assumption)) _ _ | exact up_commas (fun _ => RecUp.deep (by assumption)) _ _ _ | with_reducible assumption | with_reducible refine Up.bind ?_ ?_ | split | intro _ _))))
  split
  · exact Rel.same h1
  refine (took_r C h1).bind (fun b s2 h2 => ?_) (fun b s1 => by ((repeat (first | exact up_ok _ | exact up_bad | exact up_out | exact up_take | exact up_took | exact up_need | exact up_name | exact up_number | exact up_signed | exact up_add | exact up_numbered | exact up_list | exact up_typed | exact up_counted | exact RecUp.deep (by assumption) | exact up_sts (RecUp.st (by assumption)) _ _ | exact up_commas (fun _ => RecUp.deep (by assumption)) _ _ _ | with_reducible assumption | with_reducible refine Up.bind ?_ ?_ | split | intro _ _))))
  split
  · exact Rel.same h2
  refine (took_r C h2).bind (fun b s3 h3 => ?_) (fun b s1 => by ((repeat (first | exact up_ok _ | exact up_bad | exact up_out | exact up_take | exact up_took | exact up_need | exact up_name | exact up_number | exact up_signed | exact up_add | exact up_numbered | exact up_list | exact up_typed | exact up_counted | exact RecUp.deep (by assumption) | exact up_sts (RecUp.st (by assumption)) _ _ | exact up_commas (fun _ => RecUp.deep (by assumption)) _ _ _ | with_reducible assumption | with_reducible refine Up.bind ?_ ?_ | split | intro _ _))))
  split
  · exact Rel.same h3
  refine (took_r C h3).bind (fun b s4 h4 => ?_) (fun b s1 => by ((repeat (first | exact up_ok _ | exact up_bad | exact up_out | exact up_take | exact up_took | exact up_need | exact up_name | exact up_number | exact up_signed | exact up_add | exact up_numbered | exact up_list | exact up_typed | exact up_counted | exact RecUp.deep (by assumption) | exact up_sts (RecUp.st (by assumption)) _ _ | exact up_commas (fun _ => RecUp.deep (by assumption)) _ _ _ | with_reducible assumption | with_reducible refine Up.bind ?_ ?_ | split | intro _ _))))
  split
  · exact Rel.same h4
  exact (need_r C h4).bind (fun _ s5 h5 => (name_r C h5).bind (fun _ s6 h6 => numbered_r h6) (fun _ _ => up_numbered)) (fun _ _ => by ((repeat (first | exact up_ok _ | exact up_bad | exact up_out | exact up_take | exact up_took | exact up_need | exact up_name | exact up_number | exact up_signed | exact up_add | exact up_numbered | exact up_list | exact up_typed | exact up_counted | exact RecUp.deep (by assumption) | exact up_sts (RecUp.st (by assumption)) _ _ | exact up_commas (fun _ => RecUp.deep (by assumption)) _ _ _ | with_reducible assumption | with_reducible refine Up.bind ?_ ?_ | split | intro _ _))))
theorem stars_r (C : Cut E E' N) : ∀ (f : Nat) (t : Int) (s : S), s.read ≤ N → Rel N (starsM f E t s) (starsM f E' t s)
  | 0, t, s, h => Rel.dead (.inl rfl)
  | f + 1, t, s, h => by
    unfold starsM
    refine (took_r C h).bind (fun b s1 h1 => ?_) (fun b s1 => ?_)
    · split
      · exact (numbered_r h1).bind (fun r s2 h2 => stars_r C f r s2 h2) (fun _ _ => up_stars _ _ _)
      · exact Rel.same h1
    · split
      · exact up_numbered.bind fun _ _ => up_stars _ _ _
      · exact up_ok _
theorem typed_r (C : Cut E E' N) (h : s.read ≤ N) : Rel N (typedM f E s) (typedM f E' s) := (plain_r C h).bind (fun r s1 h1 => stars_r C f r s1 h1) (fun _ _ => up_stars _ _ _)
theorem counted_r (C : Cut E E' N) {t : Int} (h : s.read ≤ N) : Rel N (countedM E t s) (countedM E' t s) := by
  unfold countedM
  refine (took_r C h).bind (fun b s1 h1 => ?_) (fun b s1 => by ((repeat (first | exact up_ok _ | exact up_bad | exact up_out | exact up_take | exact up_took | exact up_need | exact up_name | exact up_number | exact up_signed | exact up_add | exact up_numbered | exact up_list | exact up_typed | exact up_counted | exact RecUp.deep (by assumption) | exact up_sts (RecUp.st (by assumption)) _ _ | exact up_commas (fun _ => RecUp.deep (by assumption)) _ _ _ | with_reducible assumption | with_reducible refine Up.bind ?_ ?_ | split | intro _ _))))
  split
  · exact (number_r C h1).bind (fun _ s2 h2 => (need_r C h2).bind (fun _ s3 h3 => numbered_r h3) (fun _ _ => up_numbered)) (fun _ _ => by ((repeat (first | exact up_ok _ | exact up_bad | exact up_out | exact up_take | exact up_took | exact up_need | exact up_name | exact up_number | exact up_signed | exact up_add | exact up_numbered | exact up_list | exact up_typed | exact up_counted | exact RecUp.deep (by assumption) | exact up_sts (RecUp.st (by assumption)) _ _ | exact up_commas (fun _ => RecUp.deep (by assumption)) _ _ _ | with_reducible assumption | with_reducible refine Up.bind ?_ ?_ | split | intro _ _))))
  · exact Rel.same h1
end
end Go.Proofs.YtaamllikceaifaaGreatDoor.Tr
namespace Go.Proofs.YtaamllikceaifaaGreatDoor.Tr
open Sp
set_option linter.unusedVariables false

/-- What holds of what is read one level deeper. -/
structure RR (E E' : PE) (N : Nat) (rec rec' : NTm → S → Res Int) : Prop where
  rel : ∀ nt s, leastOk nt → s.read ≤ N → Rel N (rec nt s) (rec' nt s)
  up : RecUp rec
  dead : RecDead E rec
  dead' : RecDead E' rec'
theorem Rel.iff {α : Type} {N : Nat} {c c' : Prop} [Decidable c] [Decidable c'] {A A' B B' : Res α} (h : (c ↔ c') ∨ (¬ c' ∧ (c → NotOk A))) (hA : c → c' → Rel N A A') (hB : Rel N B B') : Rel N (if c then A else B) (if c' then A' else B') := by
  rcases h with h | ⟨h1, h2⟩
  · by_cases hc : c
    · rw [if_pos hc, if_pos (h.1 hc)]; exact hA hc (h.1 hc)
    · rw [if_neg hc, if_neg (fun k => hc (h.2 k))]; exact hB
  · rw [if_neg h1]
    by_cases hc : c
    · rw [if_pos hc]; exact Rel.not (h2 hc)
    · rw [if_neg hc]; exact hB
theorem Rel2.iff {α : Type} {N : Nat} {c c' : Prop} [Decidable c] [Decidable c'] {A A' B B' : Res α} (h : (c ↔ c') ∨ (¬ c' ∧ (c → NotOk A))) (hA : c → c' → Rel2 N A A') (hB : Rel2 N B B') : Rel2 N (if c then A else B) (if c' then A' else B') := by
  rcases h with h | ⟨h1, h2⟩
  · by_cases hc : c
    · rw [if_pos hc, if_pos (h.1 hc)]; exact hA hc (h.1 hc)
    · rw [if_neg hc, if_neg (fun k => hc (h.2 k))]; exact hB
  · rw [if_neg h1]
    by_cases hc : c
    · rw [if_pos hc]; exact Rel2.not (h2 hc)
    · rw [if_neg hc]; exact hB
section
variable {E E' : PE} {N : Nat} {s : S} {x : List UInt8} {k : Int} {f : Nat} {rec rec' : NTm → S → Res Int}
theorem adv_or {α : Type} {v : α} {K : S → Res α} (hk : ∀ s1, Adv s1 (K s1)) : Adv s ((tookM E x s).bind fun b s1 => if b then .ok v s1 else K s1) := by
  intro a s2 h
  unfold tookM at h
  split at h
  · cases hr : takeM E s with
    | ok t s1 => rw [hr] at h; cases h; exact adv_take _ _ hr
    | bad e s1 => rw [hr] at h; cases h
    | out => rw [hr] at h; cases h
  · exact hk s a s2 h
theorem adv_plain : Adv s (plainM E s) := by
  unfold plainM
  refine adv_or fun s1 => adv_or fun s2 => adv_or fun s3 => adv_or fun s4 => ?_
  exact adv_need.bind fun _ _ => up_name.bind fun _ _ => up_numbered
theorem adv_typed : Adv s (typedM f E s) := adv_plain.bind fun _ _ => up_stars _ _ _
theorem RR.deep (R : RR E E' N rec rec') {nt : NTm} (hl : leastOk nt) (h : s.read ≤ N) : Rel N (deepM (rec nt) s) (deepM (rec' nt) s) := deep_r h fun s h => R.rel nt s hl h
theorem RR.ex (R : RR E E' N rec rec') (h : s.read ≤ N) : Rel N (deepM (rec .ex) s) (deepM (rec' .ex) s) := R.deep (by simp only [leastOk]) h
theorem RR.st (R : RR E E' N rec rec') (h : s.read ≤ N) : Rel N (deepM (rec .st) s) (deepM (rec' .st) s) := R.deep (by simp only [leastOk]) h
/-! ### Lists -/
theorem sts_r {m m' : S → Res Int} (C : Cut E E' N) (hm : ∀ s, s.read ≤ N → Rel N (deepM m s) (deepM m' s)) (hu : ∀ s, Up s (m s)) (hd : ∀ s, (nowT E' s).k = 0 → Dead (deepM m' s)) :
    ∀ (k : Nat) (s : S), s.read ≤ N → Rel N (stsM k m E s) (stsM k m' E' s)
  | 0, s, h => Rel.dead (.inl rfl)
  | k + 1, s, h => by
    rcases Nat.lt_or_eq_of_le h with hl | hl
    · unfold stsM
      rw [is_s C hl]
      split
      · exact Rel.same h
      · exact (hm s h).bind (fun x s1 h1 => (sts_r C hm hu hd k s1 h1).bind (fun xs s2 h2 => Rel.same h2) (fun _ _ => up_ok _)) (fun _ _ => (up_sts hu _ _).bind fun _ _ => up_ok _)
    · have h0 : (nowT E' s).k = 0 := C.now0 (by omega)
      exact Rel.dead (sts0 (hd s h0) h0 _)
theorem fields_r {m m' : S → Res Int} (C : Cut E E' N) (hm : ∀ s, s.read ≤ N → Rel N (m s) (m' s)) (hu : ∀ s, Up s (m s)) (hd : ∀ s, (nowT E' s).k = 0 → Dead (m' s)) :
    ∀ (k : Nat) (s : S), s.read ≤ N → Rel N (fieldsM k m E s) (fieldsM k m' E' s)
  | 0, s, h => Rel.dead (.inl rfl)
  | k + 1, s, h => by
    unfold fieldsM
    refine (hm s h).bind (fun x s1 h1 => ?_) (fun x s1 => ?_)
    · refine Rel.ite h1 (fun hl => by rw [is_s C hl]) (fun e => by rw [is0 (C.now0 (by omega))]; decide) (fun hl => Rel.same h1) (fun e => Rel.dead ?_) ?_
      · exact (fields0 (hd _ (C.now0 (by omega))) _).bind
      · exact (fields_r C hm hu hd k s1 h1).bind (fun xs s2 h2 => Rel.same h2) (fun _ _ => up_ok _)
    · split
      · exact up_ok _
      · exact (up_fields hu _ _).bind fun _ _ => up_ok _
theorem commas_r {m m' : S → Res Int} (C : Cut E E' N) (hm : ∀ s, s.read ≤ N → Rel N (m s) (m' s)) (hu : ∀ s, Up s (m s)) :
    ∀ (k : Nat) (more : Bool) (s : S), s.read ≤ N → Rel N (commasM k more m E s) (commasM k more m' E' s)
  | 0, more, s, h => Rel.dead (.inl rfl)
  | k + 1, more, s, h => by
    unfold commasM
    split
    · exact (hm s h).bind (fun x s1 h1 => (took_r C h1).bind (fun b s2 h2 => (commas_r C hm hu k b s2 h2).bind (fun xs s3 h3 => Rel.same h3) (fun _ _ => up_ok _)) (fun _ _ => (up_commas hu _ _ _).bind fun _ _ => up_ok _))
        (fun _ _ => up_took.bind fun _ _ => (up_commas hu _ _ _).bind fun _ _ => up_ok _)
    · exact Rel.same h
/-- A list in brackets. -/
theorem args_r {m m' : S → Res Int} (C : Cut E E' N) (hm : ∀ s, s.read ≤ N → Rel N (m s) (m' s)) (hu : ∀ s, Up s (m s)) (hd : ∀ s, (nowT E' s).k = 0 → Dead (m' s)) (k : Nat) (h : s.read ≤ N) :
    Rel N ((commasM k (!isT E s [41]) m E s).bind listM) ((commasM k (!isT E' s [41]) m' E' s).bind listM) := by
  rcases Nat.lt_or_eq_of_le h with hl | hl
  · rw [is_s C hl]
    exact (commas_r C hm hu k _ s h).bind (fun _ s1 h1 => list_r h1) (fun _ _ => up_list)
  · have h0 : (nowT E' s).k = 0 := C.now0 (by omega)
    rw [is0 (E := E') h0]
    exact Rel.dead (commas0 (hd s h0) _).bind
theorem up_args {m : S → Res Int} (hu : ∀ s, Up s (m s)) {k : Nat} : Up s ((commasM k (!isT E s [41]) m E s).bind listM) := (up_commas hu _ _ _).bind fun _ _ => up_list
theorem wholes_r {m m' : S → Res Int} (C : Cut E E' N) (hm : ∀ s, s.read < N → Rel2 N (m s) (m' s)) (hl : ∀ s, s.read = N → NotOk (m s)) :
    ∀ (k : Nat) (s : S), s.read ≤ N → ∀ a s1, wholesM k m E s = .ok a s1 → Dead (wholesM k m' E' s)
  | 0, s, h, a, s1, e => .inl rfl
  | k + 1, s, h, a, s1, e => by
    unfold wholesM at e ⊢
    rw [if_pos (by rw [C.lenE]; omega)] at e
    cases hr : m s with
    | ok b s2 =>
      rw [hr] at e
      have hlt : s.read < N := by
        rcases Nat.lt_or_eq_of_le h with h1 | h1
        · exact h1
        · exact absurd hr (hl s h1 b s2)
      rw [if_pos (by rw [C.len]; exact hlt)]
      rcases hm s hlt b s2 hr with ⟨h2, h3⟩ | h3
      · rw [h3]
        rw [Res.bind_ok] at e ⊢
        cases hq : wholesM k m E s2 with
        | ok c s3 => exact (wholes_r C hm hl k s2 h2 c s3 hq).bind
        | bad e2 s3 => rw [hq] at e; cases e
        | out => rw [hq] at e; cases e
      · exact h3.bind
    | bad e2 s2 => rw [hr] at e; cases e
    | out => rw [hr] at e; cases e
/-! ### Expressions -/
theorem ex_r (C : Cut E E' N) (R : RR E E' N rec rec') (h : s.read ≤ N) : Rel N (exM rec E s) (exM rec' E' s) := by
  have hU := R.up
  unfold exM
  refine (R.rel .ch s trivial h).bind (fun l s1 h1 => ?_) (fun _ _ => by ((repeat (first | exact up_ok _ | exact up_bad | exact up_out | exact up_take | exact up_took | exact up_need | exact up_name | exact up_number | exact up_signed | exact up_add | exact up_numbered | exact up_list | exact up_typed | exact up_counted | exact RecUp.deep (by assumption) | exact up_sts (RecUp.st (by assumption)) _ _ | exact up_commas (fun _ => RecUp.deep (by assumption)) _ _ _ | with_reducible assumption | with_reducible refine Up.bind ?_ ?_ | split | intro _ _))))
  refine Rel.ite h1 (fun hl => by rw [sgn_s C hl]) (fun e => by rw [sgn0 (C.now0 (by omega))]; decide) (fun hl => ?_) (fun e => Rel.past (s := s1) (by omega) (adv_take.bind fun _ _ => by ((repeat (first | exact up_ok _ | exact up_bad | exact up_out | exact up_take | exact up_took | exact up_need | exact up_name | exact up_number | exact up_signed | exact up_add | exact up_numbered | exact up_list | exact up_typed | exact up_counted | exact RecUp.deep (by assumption) | exact up_sts (RecUp.st (by assumption)) _ _ | exact up_commas (fun _ => RecUp.deep (by assumption)) _ _ _ | with_reducible assumption | with_reducible refine Up.bind ?_ ?_ | split | intro _ _))))) (Rel.same h1)
  rw [here_s C hl]
  exact (take_r C hl).bind (fun t s2 h2 => (R.ex h2).bind (fun r s3 h3 => add_r h3) (fun _ _ => by ((repeat (first | exact up_ok _ | exact up_bad | exact up_out | exact up_take | exact up_took | exact up_need | exact up_name | exact up_number | exact up_signed | exact up_add | exact up_numbered | exact up_list | exact up_typed | exact up_counted | exact RecUp.deep (by assumption) | exact up_sts (RecUp.st (by assumption)) _ _ | exact up_commas (fun _ => RecUp.deep (by assumption)) _ _ _ | with_reducible assumption | with_reducible refine Up.bind ?_ ?_ | split | intro _ _))))) (fun _ _ => by ((repeat (first | exact up_ok _ | exact up_bad | exact up_out | exact up_take | exact up_took | exact up_need | exact up_name | exact up_number | exact up_signed | exact up_add | exact up_numbered | exact up_list | exact up_typed | exact up_counted | exact RecUp.deep (by assumption) | exact up_sts (RecUp.st (by assumption)) _ _ | exact up_commas (fun _ => RecUp.deep (by assumption)) _ _ _ | with_reducible assumption | with_reducible refine Up.bind ?_ ?_ | split | intro _ _))))
theorem ch_r (C : Cut E E' N) (R : RR E E' N rec rec') (h : s.read ≤ N) : Rel N (chM rec E s) (chM rec' E' s) := by
  have hU := R.up
  unfold chM
  refine (R.rel (.bi 2) s (by simp [leastOk]) h).bind (fun l s1 h1 => ?_) (fun _ _ => by ((repeat (first | exact up_ok _ | exact up_bad | exact up_out | exact up_take | exact up_took | exact up_need | exact up_name | exact up_number | exact up_signed | exact up_add | exact up_numbered | exact up_list | exact up_typed | exact up_counted | exact RecUp.deep (by assumption) | exact up_sts (RecUp.st (by assumption)) _ _ | exact up_commas (fun _ => RecUp.deep (by assumption)) _ _ _ | with_reducible assumption | with_reducible refine Up.bind ?_ ?_ | split | intro _ _))))
  refine Rel.ite h1 (fun hl => by rw [is_s C hl]) (fun e => by rw [is0 (C.now0 (by omega))]; decide) (fun hl => ?_) (fun e => Rel.past (s := s1) (by omega) (adv_take.bind fun _ _ => by ((repeat (first | exact up_ok _ | exact up_bad | exact up_out | exact up_take | exact up_took | exact up_need | exact up_name | exact up_number | exact up_signed | exact up_add | exact up_numbered | exact up_list | exact up_typed | exact up_counted | exact RecUp.deep (by assumption) | exact up_sts (RecUp.st (by assumption)) _ _ | exact up_commas (fun _ => RecUp.deep (by assumption)) _ _ _ | with_reducible assumption | with_reducible refine Up.bind ?_ ?_ | split | intro _ _))))) (Rel.same h1)
  rw [here_s C hl]
  exact (take_r C hl).bind (fun t s2 h2 => (R.ex h2).bind (fun r s3 h3 => (need_r C h3).bind (fun _ s4 h4 => (R.deep (nt := .ch) trivial h4).bind (fun q s5 h5 => add_r h5) (fun _ _ => by ((repeat (first | exact up_ok _ | exact up_bad | exact up_out | exact up_take | exact up_took | exact up_need | exact up_name | exact up_number | exact up_signed | exact up_add | exact up_numbered | exact up_list | exact up_typed | exact up_counted | exact RecUp.deep (by assumption) | exact up_sts (RecUp.st (by assumption)) _ _ | exact up_commas (fun _ => RecUp.deep (by assumption)) _ _ _ | with_reducible assumption | with_reducible refine Up.bind ?_ ?_ | split | intro _ _))))) (fun _ _ => by ((repeat (first | exact up_ok _ | exact up_bad | exact up_out | exact up_take | exact up_took | exact up_need | exact up_name | exact up_number | exact up_signed | exact up_add | exact up_numbered | exact up_list | exact up_typed | exact up_counted | exact RecUp.deep (by assumption) | exact up_sts (RecUp.st (by assumption)) _ _ | exact up_commas (fun _ => RecUp.deep (by assumption)) _ _ _ | with_reducible assumption | with_reducible refine Up.bind ?_ ?_ | split | intro _ _))))) (fun _ _ => by ((repeat (first | exact up_ok _ | exact up_bad | exact up_out | exact up_take | exact up_took | exact up_need | exact up_name | exact up_number | exact up_signed | exact up_add | exact up_numbered | exact up_list | exact up_typed | exact up_counted | exact RecUp.deep (by assumption) | exact up_sts (RecUp.st (by assumption)) _ _ | exact up_commas (fun _ => RecUp.deep (by assumption)) _ _ _ | with_reducible assumption | with_reducible refine Up.bind ?_ ?_ | split | intro _ _))))) (fun _ _ => by ((repeat (first | exact up_ok _ | exact up_bad | exact up_out | exact up_take | exact up_took | exact up_need | exact up_name | exact up_number | exact up_signed | exact up_add | exact up_numbered | exact up_list | exact up_typed | exact up_counted | exact RecUp.deep (by assumption) | exact up_sts (RecUp.st (by assumption)) _ _ | exact up_commas (fun _ => RecUp.deep (by assumption)) _ _ _ | with_reducible assumption | with_reducible refine Up.bind ?_ ?_ | split | intro _ _))))
theorem biL_r (C : Cut E E' N) (R : RR E E' N rec rec') : ∀ (g : Nat) (least left : Int) (s : S), 1 ≤ least → s.read ≤ N → Rel N (biML rec E g least left s) (biML rec' E' g least left s)
  | 0, least, left, s, hl, h => Rel.dead (.inl rfl)
  | g + 1, least, left, s, hl, h => by
    have hU := R.up
    unfold biML
    rcases Nat.lt_or_eq_of_le h with hlt | he
    · rw [sgn_s C hlt, here_s C hlt]
      have hsg := strength_ge (sgn E' s)
      split
      · exact Rel.same h
      · exact (take_r C hlt).bind (fun t s1 h1 => (R.rel (.bi _) s1 (by simp only [leastOk]; omega) h1).bind (fun r s2 h2 => (add_r h2).bind (fun q s3 h3 => biL_r C R g least q s3 hl h3) (fun _ _ => up_biL hU _ _ _ _)) (fun _ _ => up_add.bind fun _ _ => up_biL hU _ _ _ _))
          (fun _ _ => (hU _ _).bind fun _ _ => up_add.bind fun _ _ => up_biL hU _ _ _ _)
    · rw [sgn0 (E := E') (C.now0 (by omega)), strength_nil, if_pos (by omega : (0 : Int) < least)]
      split
      · exact Rel.same h
      · exact Rel.past (s := s) (by omega) (adv_take.bind fun _ _ => (hU _ _).bind fun _ _ => up_add.bind fun _ _ => up_biL hU _ _ _ _)
theorem bi_r (C : Cut E E' N) (R : RR E E' N rec rec') {least : Int} (hl : 1 ≤ least) (h : s.read ≤ N) : Rel N (biM f rec E least s) (biM f rec' E' least s) :=
  (R.rel .pr s trivial h).bind (fun l s1 h1 => biL_r C R f least l s1 hl h1) (fun _ _ => up_biL R.up _ _ _ _)
theorem bracket_r (C : Cut E E' N) (R : RR E E' N rec rec') (h : s.read ≤ N) : Rel N (bracketM rec E s) (bracketM rec' E' s) := by
  have hU := R.up
  unfold bracketM
  exact (need_r C h).bind (fun _ s1 h1 => (R.ex h1).bind (fun r s2 h2 => (need_r C h2).bind (fun _ s3 h3 => Rel.same h3) (fun _ _ => by ((repeat (first | exact up_ok _ | exact up_bad | exact up_out | exact up_take | exact up_took | exact up_need | exact up_name | exact up_number | exact up_signed | exact up_add | exact up_numbered | exact up_list | exact up_typed | exact up_counted | exact RecUp.deep (by assumption) | exact up_sts (RecUp.st (by assumption)) _ _ | exact up_commas (fun _ => RecUp.deep (by assumption)) _ _ _ | with_reducible assumption | with_reducible refine Up.bind ?_ ?_ | split | intro _ _))))) (fun _ _ => by ((repeat (first | exact up_ok _ | exact up_bad | exact up_out | exact up_take | exact up_took | exact up_need | exact up_name | exact up_number | exact up_signed | exact up_add | exact up_numbered | exact up_list | exact up_typed | exact up_counted | exact RecUp.deep (by assumption) | exact up_sts (RecUp.st (by assumption)) _ _ | exact up_commas (fun _ => RecUp.deep (by assumption)) _ _ _ | with_reducible assumption | with_reducible refine Up.bind ?_ ?_ | split | intro _ _))))) (fun _ _ => by ((repeat (first | exact up_ok _ | exact up_bad | exact up_out | exact up_take | exact up_took | exact up_need | exact up_name | exact up_number | exact up_signed | exact up_add | exact up_numbered | exact up_list | exact up_typed | exact up_counted | exact RecUp.deep (by assumption) | exact up_sts (RecUp.st (by assumption)) _ _ | exact up_commas (fun _ => RecUp.deep (by assumption)) _ _ _ | with_reducible assumption | with_reducible refine Up.bind ?_ ?_ | split | intro _ _))))
theorem prim_r (C : Cut E E' N) (R : RR E E' N rec rec') (h : s.read ≤ N) : Rel N (primM f rec E s) (primM f rec' E' s) := by
  have hU := R.up
  have hb : ∀ s, Up s (bracketM rec E s) := fun s => up_bracket hU
  rcases Nat.lt_or_eq_of_le h with hl | he
  · unfold primM
    rw [is_s C hl, C.now hl, here_s C hl]
    split
    · exact bracket_r C R h
    split
    · exact (number_r C h).bind (fun n s1 h1 => add_r h1) (fun _ _ => by ((repeat (first | exact up_ok _ | exact up_bad | exact up_out | exact up_take | exact up_took | exact up_need | exact up_name | exact up_number | exact up_signed | exact up_add | exact up_numbered | exact up_list | exact up_typed | exact up_counted | exact RecUp.deep (by assumption) | exact up_sts (RecUp.st (by assumption)) _ _ | exact up_commas (fun _ => RecUp.deep (by assumption)) _ _ _ | with_reducible assumption | with_reducible refine Up.bind ?_ ?_ | split | intro _ _))))
    refine (took_r C h).bind (fun b s1 h1 => ?_) (fun _ _ => by repeat (first | exact up_add | exact hb _ | exact up_took | exact up_need | exact up_name | exact up_args (fun _ => RecUp.deep (by assumption)) | with_reducible refine Up.bind ?_ ?_ | split | intro _ _))
    split
    · exact (need_r C h1).bind (fun _ s2 h2 => (need_r C h2).bind (fun _ s3 h3 => add_r h3) (fun _ _ => by ((repeat (first | exact up_ok _ | exact up_bad | exact up_out | exact up_take | exact up_took | exact up_need | exact up_name | exact up_number | exact up_signed | exact up_add | exact up_numbered | exact up_list | exact up_typed | exact up_counted | exact RecUp.deep (by assumption) | exact up_sts (RecUp.st (by assumption)) _ _ | exact up_commas (fun _ => RecUp.deep (by assumption)) _ _ _ | with_reducible assumption | with_reducible refine Up.bind ?_ ?_ | split | intro _ _))))) (fun _ _ => by ((repeat (first | exact up_ok _ | exact up_bad | exact up_out | exact up_take | exact up_took | exact up_need | exact up_name | exact up_number | exact up_signed | exact up_add | exact up_numbered | exact up_list | exact up_typed | exact up_counted | exact RecUp.deep (by assumption) | exact up_sts (RecUp.st (by assumption)) _ _ | exact up_commas (fun _ => RecUp.deep (by assumption)) _ _ _ | with_reducible assumption | with_reducible refine Up.bind ?_ ?_ | split | intro _ _))))
    refine (took_r C h1).bind (fun b s2 h2 => ?_) (fun _ _ => by repeat (first | exact up_add | exact hb _ | exact up_took | exact up_need | exact up_name | exact up_args (fun _ => RecUp.deep (by assumption)) | with_reducible refine Up.bind ?_ ?_ | split | intro _ _))
    split
    · exact (bracket_r C R h2).bind (fun _ s3 h3 => add_r h3) (fun _ _ => by ((repeat (first | exact up_ok _ | exact up_bad | exact up_out | exact up_take | exact up_took | exact up_need | exact up_name | exact up_number | exact up_signed | exact up_add | exact up_numbered | exact up_list | exact up_typed | exact up_counted | exact RecUp.deep (by assumption) | exact up_sts (RecUp.st (by assumption)) _ _ | exact up_commas (fun _ => RecUp.deep (by assumption)) _ _ _ | with_reducible assumption | with_reducible refine Up.bind ?_ ?_ | split | intro _ _))))
    refine (name_r C h2).bind (fun x s3 h3 => ?_) (fun _ _ => by repeat (first | exact up_add | exact hb _ | exact up_took | exact up_need | exact up_name | exact up_args (fun _ => RecUp.deep (by assumption)) | with_reducible refine Up.bind ?_ ?_ | split | intro _ _))
    refine (took_r C h3).bind (fun b s4 h4 => ?_) (fun _ _ => by repeat (first | exact up_add | exact hb _ | exact up_took | exact up_need | exact up_name | exact up_args (fun _ => RecUp.deep (by assumption)) | with_reducible refine Up.bind ?_ ?_ | split | intro _ _))
    split
    · exact (args_r C (fun s h => R.ex h) (fun s => hU.deep) (fun s h => R.dead'.deep h) f h4).bind (fun q s6 h6 => (need_r C h6).bind (fun _ s7 h7 => add_r h7) (fun _ _ => by ((repeat (first | exact up_ok _ | exact up_bad | exact up_out | exact up_take | exact up_took | exact up_need | exact up_name | exact up_number | exact up_signed | exact up_add | exact up_numbered | exact up_list | exact up_typed | exact up_counted | exact RecUp.deep (by assumption) | exact up_sts (RecUp.st (by assumption)) _ _ | exact up_commas (fun _ => RecUp.deep (by assumption)) _ _ _ | with_reducible assumption | with_reducible refine Up.bind ?_ ?_ | split | intro _ _))))) (fun _ _ => by ((repeat (first | exact up_ok _ | exact up_bad | exact up_out | exact up_take | exact up_took | exact up_need | exact up_name | exact up_number | exact up_signed | exact up_add | exact up_numbered | exact up_list | exact up_typed | exact up_counted | exact RecUp.deep (by assumption) | exact up_sts (RecUp.st (by assumption)) _ _ | exact up_commas (fun _ => RecUp.deep (by assumption)) _ _ _ | with_reducible assumption | with_reducible refine Up.bind ?_ ?_ | split | intro _ _))))
    · exact add_r h4
  · exact Rel.dead (prim0 (C.now0 (by omega)))
theorem postL_r (C : Cut E E' N) (R : RR E E' N rec rec') : ∀ (g : Nat) (left : Int) (s : S), s.read ≤ N → Rel N (postML rec E g left s) (postML rec' E' g left s)
  | 0, left, s, h => Rel.dead (.inl rfl)
  | g + 1, left, s, h => by
    have hU := R.up
    have hq : ∀ q s, Up s (postML rec E g q s) := fun q s => up_postL hU g q s
    unfold postML
    rcases Nat.lt_or_eq_of_le h with hl | he
    · rw [sgn_s C hl, here_s C hl]
      split
      · exact (take_r C hl).bind (fun _ s1 h1 => (R.ex h1).bind (fun r s2 h2 => (need_r C h2).bind (fun _ s3 h3 => (add_r h3).bind (fun q s4 h4 => postL_r C R g q s4 h4) (fun _ _ => hq _ _)) (fun _ _ => up_add.bind fun _ _ => hq _ _))
          (fun _ _ => up_need.bind fun _ _ => up_add.bind fun _ _ => hq _ _)) (fun _ _ => (hU.deep).bind fun _ _ => up_need.bind fun _ _ => up_add.bind fun _ _ => hq _ _)
      split
      · exact (take_r C hl).bind (fun _ s1 h1 => (name_r C h1).bind (fun x s2 h2 => (add_r h2).bind (fun q s3 h3 => postL_r C R g q s3 h3) (fun _ _ => hq _ _)) (fun _ _ => up_add.bind fun _ _ => hq _ _)) (fun _ _ => up_name.bind fun _ _ => up_add.bind fun _ _ => hq _ _)
      split
      · exact (take_r C hl).bind (fun _ s1 h1 => (name_r C h1).bind (fun x s2 h2 => (add_r h2).bind (fun q s3 h3 => postL_r C R g q s3 h3) (fun _ _ => hq _ _)) (fun _ _ => up_add.bind fun _ _ => hq _ _)) (fun _ _ => up_name.bind fun _ _ => up_add.bind fun _ _ => hq _ _)
      split
      · exact (take_r C hl).bind (fun _ s1 h1 => (add_r h1).bind (fun q s3 h3 => postL_r C R g q s3 h3) (fun _ _ => hq _ _)) (fun _ _ => up_add.bind fun _ _ => hq _ _)
      · exact Rel.same h
    · rw [sgn0 (E := E') (C.now0 (by omega))]
      rw [if_neg (by decide : ¬ ([] : List UInt8) = [91]), if_neg (by decide : ¬ ([] : List UInt8) = [46]), if_neg (by decide : ¬ ([] : List UInt8) = [45, 62]), if_neg (by decide : ¬ (([] : List UInt8) = [43, 43] ∨ ([] : List UInt8) = [45, 45]))]
      split
      · exact Rel.past (s := s) (by omega) (adv_take.bind fun _ _ => (hU.deep).bind fun _ _ => up_need.bind fun _ _ => up_add.bind fun _ _ => hq _ _)
      split
      · exact Rel.past (s := s) (by omega) (adv_take.bind fun _ _ => up_name.bind fun _ _ => up_add.bind fun _ _ => hq _ _)
      split
      · exact Rel.past (s := s) (by omega) (adv_take.bind fun _ _ => up_name.bind fun _ _ => up_add.bind fun _ _ => hq _ _)
      split
      · exact Rel.past (s := s) (by omega) (adv_take.bind fun _ _ => up_add.bind fun _ _ => hq _ _)
      · exact Rel.same h
theorem post_r (C : Cut E E' N) (R : RR E E' N rec rec') (h : s.read ≤ N) : Rel N (postM f rec E s) (postM f rec' E' s) :=
  (prim_r C R h).bind (fun l s1 h1 => postL_r C R f l s1 h1) (fun _ _ => up_postL R.up _ _ _)
theorem size_r (C : Cut E E' N) (h : s.read < N) : Rel N (sizeM f E s) (sizeM f E' s) := by
  unfold sizeM
  rw [here_s C h]
  exact (need_r C (Nat.le_of_lt h)).bind (fun _ s1 h1 => (need_r C h1).bind (fun _ s2 h2 => (typed_r C h2).bind (fun t s3 h3 => (counted_r C h3).bind (fun q s4 h4 => (need_r C h4).bind (fun _ s5 h5 => add_r h5) (fun _ _ => by ((repeat (first | exact up_ok _ | exact up_bad | exact up_out | exact up_take | exact up_took | exact up_need | exact up_name | exact up_number | exact up_signed | exact up_add | exact up_numbered | exact up_list | exact up_typed | exact up_counted | exact RecUp.deep (by assumption) | exact up_sts (RecUp.st (by assumption)) _ _ | exact up_commas (fun _ => RecUp.deep (by assumption)) _ _ _ | with_reducible assumption | with_reducible refine Up.bind ?_ ?_ | split | intro _ _))))) (fun _ _ => by ((repeat (first | exact up_ok _ | exact up_bad | exact up_out | exact up_take | exact up_took | exact up_need | exact up_name | exact up_number | exact up_signed | exact up_add | exact up_numbered | exact up_list | exact up_typed | exact up_counted | exact RecUp.deep (by assumption) | exact up_sts (RecUp.st (by assumption)) _ _ | exact up_commas (fun _ => RecUp.deep (by assumption)) _ _ _ | with_reducible assumption | with_reducible refine Up.bind ?_ ?_ | split | intro _ _))))) (fun _ _ => by ((repeat (first | exact up_ok _ | exact up_bad | exact up_out | exact up_take | exact up_took | exact up_need | exact up_name | exact up_number | exact up_signed | exact up_add | exact up_numbered | exact up_list | exact up_typed | exact up_counted | exact RecUp.deep (by assumption) | exact up_sts (RecUp.st (by assumption)) _ _ | exact up_commas (fun _ => RecUp.deep (by assumption)) _ _ _ | with_reducible assumption | with_reducible refine Up.bind ?_ ?_ | split | intro _ _))))) (fun _ _ => by ((repeat (first | exact up_ok _ | exact up_bad | exact up_out | exact up_take | exact up_took | exact up_need | exact up_name | exact up_number | exact up_signed | exact up_add | exact up_numbered | exact up_list | exact up_typed | exact up_counted | exact RecUp.deep (by assumption) | exact up_sts (RecUp.st (by assumption)) _ _ | exact up_commas (fun _ => RecUp.deep (by assumption)) _ _ _ | with_reducible assumption | with_reducible refine Up.bind ?_ ?_ | split | intro _ _))))) (fun _ _ => by ((repeat (first | exact up_ok _ | exact up_bad | exact up_out | exact up_take | exact up_took | exact up_need | exact up_name | exact up_number | exact up_signed | exact up_add | exact up_numbered | exact up_list | exact up_typed | exact up_counted | exact RecUp.deep (by assumption) | exact up_sts (RecUp.st (by assumption)) _ _ | exact up_commas (fun _ => RecUp.deep (by assumption)) _ _ _ | with_reducible assumption | with_reducible refine Up.bind ?_ ?_ | split | intro _ _))))
theorem tail_r (R : RR E E' N rec rec') {n : Nd} (h : s.read ≤ N) : Rel N (tailM rec n s) (tailM rec' n s) :=
  (R.deep (nt := .pr) trivial h).bind (fun r s1 h1 => add_r h1) (fun _ _ => up_add)
theorem up_tail (hU : RecUp rec) {n : Nd} : Up s (tailM rec n s) := (hU.deep).bind fun _ _ => up_add
theorem pr_r (C : Cut E E' N) (R : RR E E' N rec rec') (h : s.read ≤ N) : Rel N (prM f rec E s) (prM f rec' E' s) := by
  have hU := R.up
  rcases Nat.lt_or_eq_of_le h with hl | he
  · unfold prM
    rw [is_s C hl, sgn_s C hl, here_s C hl]
    split
    · exact size_r C hl
    split
    · exact (take_r C hl).bind (fun t s1 h1 => tail_r R h1) (fun _ _ => up_tail hU)
    split
    · exact (take_r C hl).bind (fun t s1 h1 => tail_r R h1) (fun _ _ => up_tail hU)
    split
    · refine Rel.iff ?_ (fun _ _ => ?_) (post_r C R h)
      · by_cases h2 : s.read + 1 < N
        · exact .inl (by rw [C.ahd h2])
        · refine .inr ⟨by rw [begins0 (by rw [ahd_end (by rw [C.len]; omega)]; exact C.fin')]; decide, fun _ => ?_⟩
          exact NotOk.right fun _ s1 e1 => NotOk.right fun _ s2 e2 => (need0 (C.now1 (by have := adv_take _ _ e1; have := adv_typed _ _ e2; omega))).not.left
      · exact (take_r C hl).bind (fun _ s1 h1 => (typed_r C h1).bind (fun t s2 h2 => (need_r C h2).bind (fun _ s3 h3 => tail_r R h3) (fun _ _ => up_tail hU)) (fun _ _ => up_need.bind fun _ _ => up_tail hU)) (fun _ _ => up_typed.bind fun _ _ => up_need.bind fun _ _ => up_tail hU)
    · exact post_r C R h
  · exact Rel.dead (pr0 (C.now0 (by omega)))
/-! ### Statements -/
theorem up_sl (hU : RecUp rec) {f : Nat} : Up s ((stsM f (rec .st) E s).bind listM) := (up_sts (hU .st) _ _).bind fun _ _ => up_list
theorem block_r (C : Cut E E' N) (R : RR E E' N rec rec') (h : s.read ≤ N) : Rel2 N (blockM f rec E s) (blockM f rec' E' s) := by
  have hU := R.up
  rcases Nat.lt_or_eq_of_le h with hl | he
  · unfold blockM
    rw [here_s C hl]
    refine Rel2.bind (need_r C h) (fun _ s1 h1 => ?_) (fun _ s1 h1 => ?_)
    · refine Rel2.bind ((sts_r C (fun s h => R.st h) (hU .st) (fun s h => R.dead'.deep h) f s1 h1).bind (fun _ s2 h2 => list_r h2) (fun _ _ => up_list)) (fun q s3 h3 => ?_) (fun q s3 h3 => (need0 (C.now1 h3)).not.left)
      exact Rel2.bind2 (need_r2 C h3) (fun _ s4 h4 => Rel2.self h4 add_read)
    · exact (sts0 (R.dead.deep (C.now1 h1)) (C.now1 h1) _).not.left.left
  · exact Rel2.dead (block0 (C.now0 (by omega)))
theorem unless_r (C : Cut E E' N) (R : RR E E' N rec rec') (h : s.read ≤ N) : Rel N (unlessM rec E x s) (unlessM rec' E' x s) := by
  have hU := R.up
  unfold unlessM
  refine (took_r C h).bind (fun b s1 h1 => ?_) (fun _ _ => by ((repeat (first | exact up_ok _ | exact up_bad | exact up_out | exact up_take | exact up_took | exact up_need | exact up_name | exact up_number | exact up_signed | exact up_add | exact up_numbered | exact up_list | exact up_typed | exact up_counted | exact RecUp.deep (by assumption) | exact up_sts (RecUp.st (by assumption)) _ _ | exact up_commas (fun _ => RecUp.deep (by assumption)) _ _ _ | with_reducible assumption | with_reducible refine Up.bind ?_ ?_ | split | intro _ _))))
  split
  · exact Rel.same h1
  · exact (R.ex h1).bind (fun r s2 h2 => (need_r C h2).bind (fun _ s3 h3 => Rel.same h3) (fun _ _ => by ((repeat (first | exact up_ok _ | exact up_bad | exact up_out | exact up_take | exact up_took | exact up_need | exact up_name | exact up_number | exact up_signed | exact up_add | exact up_numbered | exact up_list | exact up_typed | exact up_counted | exact RecUp.deep (by assumption) | exact up_sts (RecUp.st (by assumption)) _ _ | exact up_commas (fun _ => RecUp.deep (by assumption)) _ _ _ | with_reducible assumption | with_reducible refine Up.bind ?_ ?_ | split | intro _ _))))) (fun _ _ => by ((repeat (first | exact up_ok _ | exact up_bad | exact up_out | exact up_take | exact up_took | exact up_need | exact up_name | exact up_number | exact up_signed | exact up_add | exact up_numbered | exact up_list | exact up_typed | exact up_counted | exact RecUp.deep (by assumption) | exact up_sts (RecUp.st (by assumption)) _ _ | exact up_commas (fun _ => RecUp.deep (by assumption)) _ _ _ | with_reducible assumption | with_reducible refine Up.bind ?_ ?_ | split | intro _ _))))
theorem marked_r (C : Cut E E' N) (R : RR E E' N rec rec') (h : s.read ≤ N) : Rel N (markedM rec E s) (markedM rec' E' s) := by
  have hU := R.up
  exact (need_r C h).bind (fun _ s1 h1 => R.st h1) (fun _ _ => hU.deep)
theorem simp_r (C : Cut E E' N) (R : RR E E' N rec rec') {n : Nd} (h : s.read ≤ N) : Rel N (simpM f rec E n s) (simpM f rec' E' n s) := by
  have hU := R.up
  have hb : ∀ s, Up s (bracketM rec E s) := fun s => up_bracket hU
  rcases Nat.lt_or_eq_of_le h with hl | he
  · unfold simpM
    rw [is_s C hl]
    split
    · exact Rel.same h
    refine (took_r C h).bind (fun b s1 h1 => ?_) (fun _ _ => by ((repeat (first | exact up_ok _ | exact hb _ | exact up_took | exact up_need | exact up_name | exact up_typed | exact up_counted | exact hU.deep | with_reducible refine Up.bind ?_ ?_ | split | intro _ _))))
    split
    · exact (R.st h1).bind (fun r s2 h2 => (need_r C h2).bind (fun _ s3 h3 => (bracket_r C R h3).bind (fun q s4 h4 => Rel.same h4) (fun _ _ => by ((repeat (first | exact up_ok _ | exact hb _ | exact up_took | exact up_need | exact up_name | exact up_typed | exact up_counted | exact hU.deep | with_reducible refine Up.bind ?_ ?_ | split | intro _ _))))) (fun _ _ => by ((repeat (first | exact up_ok _ | exact hb _ | exact up_took | exact up_need | exact up_name | exact up_typed | exact up_counted | exact hU.deep | with_reducible refine Up.bind ?_ ?_ | split | intro _ _))))) (fun _ _ => by ((repeat (first | exact up_ok _ | exact hb _ | exact up_took | exact up_need | exact up_name | exact up_typed | exact up_counted | exact hU.deep | with_reducible refine Up.bind ?_ ?_ | split | intro _ _))))
    refine (took_r C h1).bind (fun b s2 h2 => ?_) (fun _ _ => by ((repeat (first | exact up_ok _ | exact hb _ | exact up_took | exact up_need | exact up_name | exact up_typed | exact up_counted | exact hU.deep | with_reducible refine Up.bind ?_ ?_ | split | intro _ _))))
    split
    · exact Rel.same h2
    refine (took_r C h2).bind (fun b s3 h3 => ?_) (fun _ _ => by ((repeat (first | exact up_ok _ | exact hb _ | exact up_took | exact up_need | exact up_name | exact up_typed | exact up_counted | exact hU.deep | with_reducible refine Up.bind ?_ ?_ | split | intro _ _))))
    split
    · exact Rel.same h3
    refine (took_r C h3).bind (fun b s4 h4 => ?_) (fun _ _ => by ((repeat (first | exact up_ok _ | exact hb _ | exact up_took | exact up_need | exact up_name | exact up_typed | exact up_counted | exact hU.deep | with_reducible refine Up.bind ?_ ?_ | split | intro _ _))))
    split
    · refine Rel.ite h4 (fun hl => by rw [is_s C hl]) (fun e => by rw [is0 (C.now0 (by omega))]; decide) (fun hl => Rel.same h4) (fun e => Rel.dead (R.dead'.deep (C.now0 (by omega))).bind) ?_
      exact (R.ex h4).bind (fun r s5 h5 => Rel.same h5) (fun _ _ => by ((repeat (first | exact up_ok _ | exact hb _ | exact up_took | exact up_need | exact up_name | exact up_typed | exact up_counted | exact hU.deep | with_reducible refine Up.bind ?_ ?_ | split | intro _ _))))
    refine (took_r C h4).bind (fun b s5 h5 => ?_) (fun _ _ => by ((repeat (first | exact up_ok _ | exact hb _ | exact up_took | exact up_need | exact up_name | exact up_typed | exact up_counted | exact hU.deep | with_reducible refine Up.bind ?_ ?_ | split | intro _ _))))
    split
    · exact (name_r C h5).bind (fun x s6 h6 => Rel.same h6) (fun _ _ => by ((repeat (first | exact up_ok _ | exact hb _ | exact up_took | exact up_need | exact up_name | exact up_typed | exact up_counted | exact hU.deep | with_reducible refine Up.bind ?_ ?_ | split | intro _ _))))
    refine Rel.ite h5 (fun hl => by rw [C.now hl]) (fun e => by rw [begins0 (C.now0 (by omega))]; decide) (fun hl => ?_) (fun e => Rel.dead (R.dead'.deep (C.now0 (by omega))).bind) ?_
    · refine (typed_r C h5).bind (fun t s6 h6 => (name_r C h6).bind (fun x s7 h7 => (counted_r C h7).bind (fun q s8 h8 => (took_r C h8).bind (fun b s9 h9 => ?_) (fun _ _ => by ((repeat (first | exact up_ok _ | exact hb _ | exact up_took | exact up_need | exact up_name | exact up_typed | exact up_counted | exact hU.deep | with_reducible refine Up.bind ?_ ?_ | split | intro _ _))))) (fun _ _ => by ((repeat (first | exact up_ok _ | exact hb _ | exact up_took | exact up_need | exact up_name | exact up_typed | exact up_counted | exact hU.deep | with_reducible refine Up.bind ?_ ?_ | split | intro _ _))))) (fun _ _ => by ((repeat (first | exact up_ok _ | exact hb _ | exact up_took | exact up_need | exact up_name | exact up_typed | exact up_counted | exact hU.deep | with_reducible refine Up.bind ?_ ?_ | split | intro _ _))))) (fun _ _ => by ((repeat (first | exact up_ok _ | exact hb _ | exact up_took | exact up_need | exact up_name | exact up_typed | exact up_counted | exact hU.deep | with_reducible refine Up.bind ?_ ?_ | split | intro _ _))))
      split
      · exact (R.ex h9).bind (fun r s10 h10 => Rel.same h10) (fun _ _ => by ((repeat (first | exact up_ok _ | exact hb _ | exact up_took | exact up_need | exact up_name | exact up_typed | exact up_counted | exact hU.deep | with_reducible refine Up.bind ?_ ?_ | split | intro _ _))))
      · exact Rel.same h9
    · exact (R.ex h5).bind (fun r s6 h6 => Rel.same h6) (fun _ _ => by ((repeat (first | exact up_ok _ | exact hb _ | exact up_took | exact up_need | exact up_name | exact up_typed | exact up_counted | exact hU.deep | with_reducible refine Up.bind ?_ ?_ | split | intro _ _))))
  · exact Rel.dead (simp0 R.dead' (C.now0 (by omega)))
set_option maxHeartbeats 4000000 in
theorem st_r (C : Cut E E' N) (R : RR E E' N rec rec') (h : s.read ≤ N) : Rel N (stM f rec E s) (stM f rec' E' s) := by
  have hU := R.up
  have hb : ∀ s, Up s (bracketM rec E s) := fun s => up_bracket hU
  have hl : ∀ s, Up s (blockM f rec E s) := fun s => up_block hU
  have hu : ∀ x s, Up s (unlessM rec E x s) := fun x s => up_unless hU
  have hm : ∀ s, Up s (markedM rec E s) := fun s => up_marked hU
  have hq : ∀ n s, Up s (simpM f rec E n s) := fun n s => up_simp hU
  rcases Nat.lt_or_eq_of_le h with hlt | he
  · unfold stM
    rw [is_s C hlt, here_s C hlt]
    split
    · exact (block_r C R h).rel
    refine (took_r C h).bind (fun b s1 h1 => ?_) (fun _ _ => by ((repeat (first | exact up_ok _ | exact hb _ | exact hl _ | exact hu _ _ | exact hm _ | exact hq _ _ | exact up_took | exact up_need | exact up_name | exact up_signed | exact up_add | exact hU.deep | with_reducible refine Up.bind ?_ ?_ | split | intro _ _))))
    split
    · refine (bracket_r C R h1).bind (fun r s2 h2 => (R.st h2).bind (fun q s3 h3 => (took_r C h3).bind (fun b s4 h4 => ?_) (fun _ _ => by ((repeat (first | exact up_ok _ | exact hb _ | exact hl _ | exact hu _ _ | exact hm _ | exact hq _ _ | exact up_took | exact up_need | exact up_name | exact up_signed | exact up_add | exact hU.deep | with_reducible refine Up.bind ?_ ?_ | split | intro _ _))))) (fun _ _ => by ((repeat (first | exact up_ok _ | exact hb _ | exact hl _ | exact hu _ _ | exact hm _ | exact hq _ _ | exact up_took | exact up_need | exact up_name | exact up_signed | exact up_add | exact hU.deep | with_reducible refine Up.bind ?_ ?_ | split | intro _ _))))) (fun _ _ => by ((repeat (first | exact up_ok _ | exact hb _ | exact hl _ | exact hu _ _ | exact hm _ | exact hq _ _ | exact up_took | exact up_need | exact up_name | exact up_signed | exact up_add | exact hU.deep | with_reducible refine Up.bind ?_ ?_ | split | intro _ _))))
      split
      · exact (R.st h4).bind (fun z s5 h5 => add_r h5) (fun _ _ => by ((repeat (first | exact up_ok _ | exact hb _ | exact hl _ | exact hu _ _ | exact hm _ | exact hq _ _ | exact up_took | exact up_need | exact up_name | exact up_signed | exact up_add | exact hU.deep | with_reducible refine Up.bind ?_ ?_ | split | intro _ _))))
      · exact add_r h4
    refine (took_r C h1).bind (fun b s2 h2 => ?_) (fun _ _ => by ((repeat (first | exact up_ok _ | exact hb _ | exact hl _ | exact hu _ _ | exact hm _ | exact hq _ _ | exact up_took | exact up_need | exact up_name | exact up_signed | exact up_add | exact hU.deep | with_reducible refine Up.bind ?_ ?_ | split | intro _ _))))
    split
    · exact (bracket_r C R h2).bind (fun r s3 h3 => (R.st h3).bind (fun q s4 h4 => add_r h4) (fun _ _ => by ((repeat (first | exact up_ok _ | exact hb _ | exact hl _ | exact hu _ _ | exact hm _ | exact hq _ _ | exact up_took | exact up_need | exact up_name | exact up_signed | exact up_add | exact hU.deep | with_reducible refine Up.bind ?_ ?_ | split | intro _ _))))) (fun _ _ => by ((repeat (first | exact up_ok _ | exact hb _ | exact hl _ | exact hu _ _ | exact hm _ | exact hq _ _ | exact up_took | exact up_need | exact up_name | exact up_signed | exact up_add | exact hU.deep | with_reducible refine Up.bind ?_ ?_ | split | intro _ _))))
    refine (took_r C h2).bind (fun b s3 h3 => ?_) (fun _ _ => by ((repeat (first | exact up_ok _ | exact hb _ | exact hl _ | exact hu _ _ | exact hm _ | exact hq _ _ | exact up_took | exact up_need | exact up_name | exact up_signed | exact up_add | exact hU.deep | with_reducible refine Up.bind ?_ ?_ | split | intro _ _))))
    split
    · exact (need_r C h3).bind (fun _ s4 h4 => (unless_r C R h4).bind (fun x s5 h5 => (unless_r C R h5).bind (fun y s6 h6 => (unless_r C R h6).bind (fun z s7 h7 => (R.st h7).bind (fun q s8 h8 => add_r h8) (fun _ _ => by ((repeat (first | exact up_ok _ | exact hb _ | exact hl _ | exact hu _ _ | exact hm _ | exact hq _ _ | exact up_took | exact up_need | exact up_name | exact up_signed | exact up_add | exact hU.deep | with_reducible refine Up.bind ?_ ?_ | split | intro _ _))))) (fun _ _ => by ((repeat (first | exact up_ok _ | exact hb _ | exact hl _ | exact hu _ _ | exact hm _ | exact hq _ _ | exact up_took | exact up_need | exact up_name | exact up_signed | exact up_add | exact hU.deep | with_reducible refine Up.bind ?_ ?_ | split | intro _ _))))) (fun _ _ => by ((repeat (first | exact up_ok _ | exact hb _ | exact hl _ | exact hu _ _ | exact hm _ | exact hq _ _ | exact up_took | exact up_need | exact up_name | exact up_signed | exact up_add | exact hU.deep | with_reducible refine Up.bind ?_ ?_ | split | intro _ _))))) (fun _ _ => by ((repeat (first | exact up_ok _ | exact hb _ | exact hl _ | exact hu _ _ | exact hm _ | exact hq _ _ | exact up_took | exact up_need | exact up_name | exact up_signed | exact up_add | exact hU.deep | with_reducible refine Up.bind ?_ ?_ | split | intro _ _))))) (fun _ _ => by ((repeat (first | exact up_ok _ | exact hb _ | exact hl _ | exact hu _ _ | exact hm _ | exact hq _ _ | exact up_took | exact up_need | exact up_name | exact up_signed | exact up_add | exact hU.deep | with_reducible refine Up.bind ?_ ?_ | split | intro _ _))))
    refine (took_r C h3).bind (fun b s4 h4 => ?_) (fun _ _ => by ((repeat (first | exact up_ok _ | exact hb _ | exact hl _ | exact hu _ _ | exact hm _ | exact hq _ _ | exact up_took | exact up_need | exact up_name | exact up_signed | exact up_add | exact hU.deep | with_reducible refine Up.bind ?_ ?_ | split | intro _ _))))
    split
    · exact (bracket_r C R h4).bind (fun r s5 h5 => ((block_r C R h5).rel).bind (fun q s6 h6 => add_r h6) (fun _ _ => by ((repeat (first | exact up_ok _ | exact hb _ | exact hl _ | exact hu _ _ | exact hm _ | exact hq _ _ | exact up_took | exact up_need | exact up_name | exact up_signed | exact up_add | exact hU.deep | with_reducible refine Up.bind ?_ ?_ | split | intro _ _))))) (fun _ _ => by ((repeat (first | exact up_ok _ | exact hb _ | exact hl _ | exact hu _ _ | exact hm _ | exact hq _ _ | exact up_took | exact up_need | exact up_name | exact up_signed | exact up_add | exact hU.deep | with_reducible refine Up.bind ?_ ?_ | split | intro _ _))))
    refine (took_r C h4).bind (fun b s5 h5 => ?_) (fun _ _ => by ((repeat (first | exact up_ok _ | exact hb _ | exact hl _ | exact hu _ _ | exact hm _ | exact hq _ _ | exact up_took | exact up_need | exact up_name | exact up_signed | exact up_add | exact hU.deep | with_reducible refine Up.bind ?_ ?_ | split | intro _ _))))
    split
    · exact (signed_r C h5).bind (fun n s6 h6 => (marked_r C R h6).bind (fun q s7 h7 => add_r h7) (fun _ _ => by ((repeat (first | exact up_ok _ | exact hb _ | exact hl _ | exact hu _ _ | exact hm _ | exact hq _ _ | exact up_took | exact up_need | exact up_name | exact up_signed | exact up_add | exact hU.deep | with_reducible refine Up.bind ?_ ?_ | split | intro _ _))))) (fun _ _ => by ((repeat (first | exact up_ok _ | exact hb _ | exact hl _ | exact hu _ _ | exact hm _ | exact hq _ _ | exact up_took | exact up_need | exact up_name | exact up_signed | exact up_add | exact hU.deep | with_reducible refine Up.bind ?_ ?_ | split | intro _ _))))
    refine (took_r C h5).bind (fun b s6 h6 => ?_) (fun _ _ => by ((repeat (first | exact up_ok _ | exact hb _ | exact hl _ | exact hu _ _ | exact hm _ | exact hq _ _ | exact up_took | exact up_need | exact up_name | exact up_signed | exact up_add | exact hU.deep | with_reducible refine Up.bind ?_ ?_ | split | intro _ _))))
    split
    · exact (marked_r C R h6).bind (fun q s7 h7 => add_r h7) (fun _ _ => by ((repeat (first | exact up_ok _ | exact hb _ | exact hl _ | exact hu _ _ | exact hm _ | exact hq _ _ | exact up_took | exact up_need | exact up_name | exact up_signed | exact up_add | exact hU.deep | with_reducible refine Up.bind ?_ ?_ | split | intro _ _))))
    refine Rel.iff ?_ (fun _ _ => ?_) ?_
    · by_cases h2 : s6.read + 1 < N
      · exact .inl (by rw [C.ahd h2, C.now (by omega)])
      · refine .inr ⟨fun hc => ?_, fun _ => ?_⟩
        · rw [same0 (by rw [ahd_end (by rw [C.len]; omega)]; exact C.fin')] at hc
          exact absurd hc.2 (by decide)
        · exact NotOk.right fun _ s7 e7 => NotOk.left (NotOk.right fun _ s8 e8 => (R.dead.deep (C.now1 (by have := adv_name _ _ e7; have := adv_need _ _ e8; omega))).not)
    · exact (name_r C h6).bind (fun x s7 h7 => (marked_r C R h7).bind (fun q s8 h8 => add_r h8) (fun _ _ => by ((repeat (first | exact up_ok _ | exact hb _ | exact hl _ | exact hu _ _ | exact hm _ | exact hq _ _ | exact up_took | exact up_need | exact up_name | exact up_signed | exact up_add | exact hU.deep | with_reducible refine Up.bind ?_ ?_ | split | intro _ _))))) (fun _ _ => by ((repeat (first | exact up_ok _ | exact hb _ | exact hl _ | exact hu _ _ | exact hm _ | exact hq _ _ | exact up_took | exact up_need | exact up_name | exact up_signed | exact up_add | exact hU.deep | with_reducible refine Up.bind ?_ ?_ | split | intro _ _))))
    · exact (simp_r C R h6).bind (fun n s7 h7 => (need_r C h7).bind (fun _ s8 h8 => add_r h8) (fun _ _ => by ((repeat (first | exact up_ok _ | exact hb _ | exact hl _ | exact hu _ _ | exact hm _ | exact hq _ _ | exact up_took | exact up_need | exact up_name | exact up_signed | exact up_add | exact hU.deep | with_reducible refine Up.bind ?_ ?_ | split | intro _ _))))) (fun _ _ => by ((repeat (first | exact up_ok _ | exact hb _ | exact hl _ | exact hu _ _ | exact hm _ | exact hq _ _ | exact up_took | exact up_need | exact up_name | exact up_signed | exact up_add | exact hU.deep | with_reducible refine Up.bind ?_ ?_ | split | intro _ _))))
  · exact Rel.dead (st0 R.dead' (C.now0 (by omega)))
theorem go_r (C : Cut E E' N) : ∀ f, RR E E' N (goM f E) (goM f E')
  | 0 => ⟨fun nt s hl h => Rel.dead (.inl rfl), go_up 0, go0 0, go0 0⟩
  | f + 1 => ⟨fun nt s hl h => by
      have R := go_r C f
      cases nt with
      | ex => exact ex_r C R h
      | ch => exact ch_r C R h
      | bi l => exact bi_r C R hl h
      | pr => exact pr_r C R h
      | st => exact st_r C R h, go_up _, go0 _, go0 _⟩
/-! ### Wholes -/
theorem field_r (C : Cut E E' N) (h : s.read ≤ N) : Rel N (fieldM f E s) (fieldM f E' s) := by
  rcases Nat.lt_or_eq_of_le h with hlt | he
  · unfold fieldM
    rw [here_s C hlt]
    exact (typed_r C h).bind (fun t s1 h1 => (name_r C h1).bind (fun x s2 h2 => (counted_r C h2).bind (fun q s3 h3 => (need_r C h3).bind (fun _ s4 h4 => add_r h4) (fun _ _ => by ((repeat (first | exact up_ok _ | exact up_bad | exact up_out | exact up_take | exact up_took | exact up_need | exact up_name | exact up_number | exact up_signed | exact up_add | exact up_numbered | exact up_list | exact up_typed | exact up_counted | exact RecUp.deep (by assumption) | exact up_sts (RecUp.st (by assumption)) _ _ | exact up_commas (fun _ => RecUp.deep (by assumption)) _ _ _ | with_reducible assumption | with_reducible refine Up.bind ?_ ?_ | split | intro _ _))))) (fun _ _ => by ((repeat (first | exact up_ok _ | exact up_bad | exact up_out | exact up_take | exact up_took | exact up_need | exact up_name | exact up_number | exact up_signed | exact up_add | exact up_numbered | exact up_list | exact up_typed | exact up_counted | exact RecUp.deep (by assumption) | exact up_sts (RecUp.st (by assumption)) _ _ | exact up_commas (fun _ => RecUp.deep (by assumption)) _ _ _ | with_reducible assumption | with_reducible refine Up.bind ?_ ?_ | split | intro _ _))))) (fun _ _ => by ((repeat (first | exact up_ok _ | exact up_bad | exact up_out | exact up_take | exact up_took | exact up_need | exact up_name | exact up_number | exact up_signed | exact up_add | exact up_numbered | exact up_list | exact up_typed | exact up_counted | exact RecUp.deep (by assumption) | exact up_sts (RecUp.st (by assumption)) _ _ | exact up_commas (fun _ => RecUp.deep (by assumption)) _ _ _ | with_reducible assumption | with_reducible refine Up.bind ?_ ?_ | split | intro _ _))))) (fun _ _ => by ((repeat (first | exact up_ok _ | exact up_bad | exact up_out | exact up_take | exact up_took | exact up_need | exact up_name | exact up_number | exact up_signed | exact up_add | exact up_numbered | exact up_list | exact up_typed | exact up_counted | exact RecUp.deep (by assumption) | exact up_sts (RecUp.st (by assumption)) _ _ | exact up_commas (fun _ => RecUp.deep (by assumption)) _ _ _ | with_reducible assumption | with_reducible refine Up.bind ?_ ?_ | split | intro _ _))))
  · exact Rel.dead (field0 (C.now0 (by omega)))
theorem param_r (C : Cut E E' N) (h : s.read ≤ N) : Rel N (paramM f E s) (paramM f E' s) := by
  rcases Nat.lt_or_eq_of_le h with hlt | he
  · unfold paramM
    rw [here_s C hlt]
    exact (typed_r C h).bind (fun t s1 h1 => (name_r C h1).bind (fun x s2 h2 => add_r h2) (fun _ _ => by ((repeat (first | exact up_ok _ | exact up_bad | exact up_out | exact up_take | exact up_took | exact up_need | exact up_name | exact up_number | exact up_signed | exact up_add | exact up_numbered | exact up_list | exact up_typed | exact up_counted | exact RecUp.deep (by assumption) | exact up_sts (RecUp.st (by assumption)) _ _ | exact up_commas (fun _ => RecUp.deep (by assumption)) _ _ _ | with_reducible assumption | with_reducible refine Up.bind ?_ ?_ | split | intro _ _))))) (fun _ _ => by ((repeat (first | exact up_ok _ | exact up_bad | exact up_out | exact up_take | exact up_took | exact up_need | exact up_name | exact up_number | exact up_signed | exact up_add | exact up_numbered | exact up_list | exact up_typed | exact up_counted | exact RecUp.deep (by assumption) | exact up_sts (RecUp.st (by assumption)) _ _ | exact up_commas (fun _ => RecUp.deep (by assumption)) _ _ _ | with_reducible assumption | with_reducible refine Up.bind ?_ ?_ | split | intro _ _))))
  · exact Rel.dead (param0 (C.now0 (by omega)))
theorem structure_r (C : Cut E E' N) (h : s.read < N) : Rel2 N (structureM f E s) (structureM f E' s) := by
  unfold structureM
  rw [here_s C h]
  refine Rel2.bind (need_r C (Nat.le_of_lt h)) (fun _ s1 h1 => ?_) (fun _ s1 h1 => (name0 (C.now1 h1)).not.left)
  refine Rel2.bind (name_r C h1) (fun x s2 h2 => ?_) (fun _ s2 h2 => (need0 (C.now1 h2)).not.left)
  refine Rel2.bind (need_r C h2) (fun _ s3 h3 => ?_) (fun _ s3 h3 => (fields0 (field0 (C.now1 h3)) _).not.left.left)
  refine Rel2.bind ((fields_r C (fun s h => field_r C h) (fun s => up_field) (fun s h => field0 h) f s3 h3).bind (fun _ s4 h4 => list_r h4) (fun _ _ => up_list)) (fun q s5 h5 => ?_) (fun _ s5 h5 => (need0 (C.now1 h5)).not.left)
  refine Rel2.bind (need_r C h5) (fun _ s6 h6 => ?_) (fun _ s6 h6 => (need0 (C.now1 h6)).not.left)
  exact Rel2.bind2 (need_r2 C h6) (fun _ s7 h7 => Rel2.self h7 add_read)
theorem structure_no (C : Cut E E' N) (h : N ≤ s.read + 2) : NotOk (structureM f E s) := by
  unfold structureM
  exact NotOk.right fun _ s1 e1 => NotOk.right fun _ s2 e2 => NotOk.right fun _ s3 e3 => (fields0 (field0 (C.now1 (by have := adv_need _ _ e1; have := adv_name _ _ e2; have := adv_need _ _ e3; omega))) _).not.left.left
theorem whole_r (C : Cut E E' N) (h : s.read < N) : Rel2 N (wholeM f E s) (wholeM f E' s) := by
  have hcount : ∀ (t : Int) (s : S), N < s.read → countedM E t s = .ok t s := fun t s hs => by
    unfold countedM; rw [took0 (C.now1 hs)]; rfl
  unfold wholeM
  rw [here_s C h]
  refine Rel2.iff ?_ (fun _ _ => structure_r C h) ?_
  · by_cases h2 : s.read + 2 < N
    · exact .inl (by rw [C.ahd h2, C.ahd (by omega), is_s C h])
    · refine .inr ⟨fun hc => ?_, fun _ => structure_no C (by omega)⟩
      rw [same0 (t := ahd E' s 2) (by rw [ahd_end (by rw [C.len]; omega)]; exact C.fin')] at hc
      exact absurd hc.2.2 (by decide)
  · refine Rel2.bind (typed_r C (Nat.le_of_lt h)) (fun t s1 h1 => ?_) (fun _ s1 h1 => (name0 (C.now1 h1)).not.left)
    refine Rel2.bind (name_r C h1) (fun x s2 h2 => ?_) (fun x s2 h2 => ?_)
    · refine Rel2.bind (took_r C h2) (fun b s3 h3 => ?_) (fun b s3 h3 => ?_)
      · split
        · refine Rel2.bind (args_r C (fun s h => param_r C h) (fun s => up_param) (fun s h => param0 h) f h3) (fun q s5 h5 => ?_) (fun q s5 h5 => (need0 (C.now1 h5)).not.left)
          refine Rel2.bind (need_r C h5) (fun _ s6 h6 => ?_) (fun _ s6 h6 => (block0 (C.now1 h6)).not.left)
          exact Rel2.bind2 (block_r C (go_r C f) h6) (fun z s7 h7 => Rel2.self h7 add_read)
        · refine Rel2.bind (counted_r C h3) (fun q s4 h4 => ?_) (fun q s4 h4 => ?_)
          · refine Rel2.bind (took_r C h4) (fun b s5 h5 => ?_) (fun b s5 h5 => ?_)
            · split
              · refine Rel2.bind (signed_r C h5) (fun n s6 h6 => ?_) (fun n s6 h6 => (need0 (C.now1 h6)).not.left)
                exact Rel2.bind2 (need_r2 C h6) (fun _ s7 h7 => Rel2.self h7 add_read)
              · exact Rel2.bind2 (need_r2 C h5) (fun _ s6 h6 => Rel2.self h6 add_read)
            · split
              · exact (signed0 (C.now1 h5)).not.left
              · exact (need0 (C.now1 h5)).not.left
          · rw [took0 (C.now1 h4)]
            exact (need0 (C.now1 h4)).not.left
      · split
        · rw [is0 (E := E) (C.now1 h3)]
          exact (commas0 (param0 (C.now1 h3)) _).not.left.left
        · rw [hcount _ _ h3, Res.bind_ok, took0 (C.now1 h3)]
          exact (need0 (C.now1 h3)).not.left
    · rw [took0 (C.now1 h2), Res.bind_ok, if_neg (by decide), hcount _ _ h2, Res.bind_ok, took0 (C.now1 h2)]
      exact (need0 (C.now1 h2)).not.left
theorem whole_last (C : Cut E E' N) (h : s.read = N) : NotOk (wholeM f E s) := by
  unfold wholeM
  split
  · exact structure_no C (by omega)
  · exact NotOk.right fun _ s1 e1 => (name0 (C.now1 (by have := adv_typed _ _ e1; omega))).not.left
theorem program_cut (C : Cut E E' N) {q : Int} (h : programM f E = .ok q s) : Dead (programM f E') := by
  unfold programM at h ⊢
  cases hr : wholesM f (wholeM f E) E start0 with
  | ok a s1 => exact (wholes_r C (fun s h => whole_r C h) (fun s h => whole_last C h) f start0 (Nat.zero_le _) a s1 hr).bind
  | bad e s1 => rw [hr] at h; cases h
  | out => rw [hr] at h; cases h
end
end Go.Proofs.YtaamllikceaifaaGreatDoor.Tr
