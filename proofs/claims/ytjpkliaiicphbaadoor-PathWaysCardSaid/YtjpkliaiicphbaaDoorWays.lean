/-
  The plain side of Dir, Base, In and To: on paths they are what the document's answers are.
-/
import Derived.Lib.LastIndexByte
import Derived.Test.YtjpkliaiicphbaaDoorTo
namespace Go.Proofs.YtjpkliaiicphbaaDoor
open Go.RowKit
set_option maxRecDepth 100000

/-- The last place of a slash in a string, by either word. -/
theorem last_same (s : ByteArray) : Lib.lastIndexByte s 47 = Lib.Pa.lastIndexByte (bs s) 47 := by
  have key : ∀ k, k ≤ s.size → Lib.lastIdx s 47 k = Lib.Pa.lastIdx (bs s) 47 k := by
    intro k
    induction k with
    | zero => intro _; rfl
    | succ k ih =>
      intro hk
      have hb : s.data[k]! = s[k] := by
        show s.data[k]! = s.data[k]
        rw [getElem!_pos s.data k hk]
      have hl : (bs s)[k]? = some s[k] := Lib.Pa.at_eq s k hk
      unfold Lib.lastIdx Lib.Pa.lastIdx
      rw [hb, hl, ih (by omega)]
      by_cases h : s[k] = 47
      · rw [if_pos (by rw [h]; rfl), if_pos (by rw [h])]
      · rw [if_neg (fun e => h (UInt8.toNat_inj.1 (by simpa using (by omega : s[k].toNat = 47)))), if_neg (fun e => h (Option.some.inj e))]
  unfold Lib.lastIndexByte Lib.Pa.lastIndexByte
  rw [key s.size (Nat.le_refl _), bs_len]

open Pt in
theorem pieces_text {P : List Bs} (hP : ∀ x ∈ P, Pt.Good x) (h : P ≠ []) : pieces (text P) = P ∧ text P = inter P ∧ text P ≠ [46] := by
  have e : text P = inter P := text_ne _ (fun e => h ((inter_nil hP).1 e))
  have e2 : pieces (inter P) = P := pieces_inter P (fun x hx => (hP x hx).2.2.2) h
  refine ⟨by rw [e]; exact e2, e, fun e3 => ?_⟩
  rw [e] at e3
  rw [e3] at e2
  exact (hP [46] (by rw [← e2]; simp [pieces])).2.1 rfl

theorem partsP_text {P : List (List UInt8)} (hP : ∀ x ∈ P, Pt.Good x) : partsP (Pt.text P) = P := by
  unfold partsP
  by_cases h : P = []
  · subst h; rfl
  · obtain ⟨h1, _, h3⟩ := pieces_text hP h
    rw [if_neg h3, h1]

/-- The last part cut off. -/
def dirL (s : List UInt8) : List UInt8 := if 0 ≤ Lib.Pa.lastIndexByte s 47 then s.take (Lib.Pa.lastIndexByte s 47).toNat else [46]
def baseL (s : List UInt8) : List UInt8 := s.drop (Lib.Pa.lastIndexByte s 47 + 1).toNat

open Pt in
theorem dirL_text {P : List Bs} (hP : ∀ x ∈ P, Pt.Good x) : dirL (text P) = text P.dropLast := by
  rcases List.eq_nil_or_concat P with rfl | ⟨L, x, rfl⟩
  · rfl
  · rw [List.concat_eq_append] at hP ⊢
    obtain ⟨_, h2, _⟩ := pieces_text hP (by simp)
    have hx : 47 ∉ x := (hP x (by simp)).2.2.2
    rw [List.dropLast_concat, h2]
    by_cases hL : L = []
    · subst hL
      have e0 : inter ([] ++ [x]) = x := rfl
      rw [e0]
      unfold dirL
      rw [last_none x hx]
      rfl
    · rw [inter_snoc L x hL]
      unfold dirL
      rw [last_at _ _ hx, if_pos (by omega), Int.toNat_natCast, List.take_left, text_ne]
      intro e
      exact hL ((inter_nil (fun y hy => hP y (by simp [hy]))).1 e)

open Pt in
theorem baseL_text {P : List Bs} (hP : ∀ x ∈ P, Pt.Good x) : baseL (text P) = if P = [] then [46] else P.getLast?.getD [] := by
  rcases List.eq_nil_or_concat P with rfl | ⟨L, x, rfl⟩
  · rfl
  · rw [List.concat_eq_append] at hP ⊢
    obtain ⟨_, h2, _⟩ := pieces_text hP (by simp)
    have hx : 47 ∉ x := (hP x (by simp)).2.2.2
    have hg : (L ++ [x]).getLast? = some x := by simp
    rw [if_neg (by simp), hg, h2]
    show baseL _ = x
    by_cases hL : L = []
    · subst hL
      have e0 : inter ([] ++ [x]) = x := rfl
      rw [e0]
      unfold baseL
      rw [last_none x hx]
      rfl
    · rw [inter_snoc L x hL]
      unfold baseL
      rw [last_at _ _ hx, show ((inter L).length + 1 : Int).toNat = (inter L).length + 1 by omega, List.drop_append]
      simp

/-- Whether a path is in another one, as the code asks it. -/
def inL (p d : List UInt8) : Bool := (d == [46]) || (d.isPrefixOf p && ((p.drop d.length).isEmpty || (p.drop d.length).head? == some 47))

open Pt in
theorem inter_append : ∀ (Q R : List Bs), Q ≠ [] → R ≠ [] → inter (Q ++ R) = inter Q ++ 47 :: inter R
  | [], _, h, _ => absurd rfl h
  | [a], b :: r, _, _ => by simp [inter]
  | [_], [], _, h => absurd rfl h
  | a :: b :: l, R, _, hR => by
    have := inter_append (b :: l) R (by simp) hR
    simp only [List.cons_append] at this ⊢
    rw [inter, this, inter]
    simp

open Pt in
theorem pieces_inter_app : ∀ (Q : List Bs) (r : Bs), (∀ x ∈ Q, 47 ∉ x) → Q ≠ [] → pieces (inter Q ++ 47 :: r) = Q ++ pieces r
  | [], _, _, h => absurd rfl h
  | [a], r, h, _ => by rw [inter, pieces_hit _ _ (h a (by simp))]; rfl
  | a :: b :: l, r, h, _ => by
    rw [inter, List.append_assoc, List.cons_append, pieces_hit _ _ (h a (by simp)), pieces_inter_app (b :: l) r (fun x hx => h x (List.mem_cons_of_mem _ hx)) (by simp)]
    rfl

open Pt in
theorem inL_text {P Q : List Bs} (hP : ∀ x ∈ P, Pt.Good x) (hQ : ∀ x ∈ Q, Pt.Good x) : inL (text P) (text Q) = Q.isPrefixOf P := by
  rw [Bool.eq_iff_iff, List.isPrefixOf_iff_prefix]
  by_cases q0 : Q = []
  · subst q0
    exact ⟨fun _ => List.nil_prefix, fun _ => rfl⟩
  · obtain ⟨hq1, hq2, hq3⟩ := pieces_text hQ q0
    have hq47 : ∀ x ∈ Q, 47 ∉ x := fun x hx => (hQ x hx).2.2.2
    have hd : (text Q == [46]) = false := by rw [beq_eq_false_iff_ne]; exact hq3
    unfold inL
    rw [hd, Bool.false_or, Bool.and_eq_true, List.isPrefixOf_iff_prefix]
    constructor
    · rintro ⟨⟨r, hr⟩, hh⟩
      rw [← hr, List.drop_left] at hh
      by_cases p0 : P = []
      · subst p0
        exfalso
        have hlen := congrArg List.length hr
        rw [List.length_append, show (text ([] : List Bs)).length = 1 from rfl] at hlen
        have hne : inter Q ≠ [] := fun e => q0 ((inter_nil hQ).1 e)
        have h1 : (text Q).length = 1 := by
          rw [hq2] at hlen ⊢
          have : 0 < (inter Q).length := List.length_pos_iff.2 hne
          omega
        have : r = [] := List.eq_nil_of_length_eq_zero (by omega)
        subst this
        rw [List.append_nil] at hr
        exact hq3 hr
      · obtain ⟨hp1, hp2, _⟩ := pieces_text hP p0
        cases r with
        | nil =>
          rw [List.append_nil] at hr
          rw [← hp1, ← hr, hq1]
          exact List.prefix_refl _
        | cons c r =>
          have hc : c = 47 := by simpa using hh
          subst hc
          have := pieces_inter_app Q r hq47 q0
          rw [← hq2, hr, hp1] at this
          exact ⟨pieces r, this.symm⟩
    · rintro ⟨R, rfl⟩
      have hR : ∀ x ∈ R, Pt.Good x := fun x hx => hP x (by simp [hx])
      obtain ⟨_, hp2, _⟩ := pieces_text hP (by simp [q0])
      by_cases r0 : R = []
      · subst r0
        rw [List.append_nil]
        exact ⟨List.prefix_refl _, by simp⟩
      · rw [hp2, hq2, inter_append Q R q0 r0]
        exact ⟨List.prefix_append _ _, by rw [List.drop_left]; simp⟩

/-- A part of a way. -/
def Step (x : List UInt8) : Prop := x ≠ [] ∧ x ≠ [46] ∧ 47 ∉ x
theorem Step.of_good {x : List UInt8} (h : Pt.Good x) : Step x := ⟨h.1, h.2.1, h.2.2.2⟩
theorem Step.up : Step [46, 46] := ⟨by simp, by simp, by simp⟩

open Pt in
theorem inter_nil' {l : List Bs} (h : ∀ x ∈ l, Step x) : inter l = [] ↔ l = [] := by
  constructor
  · intro e
    match l, h, e with
    | [], _, _ => rfl
    | [a], h, e => exact absurd e (h a (by simp)).1
    | a :: b :: r, h, e => simp [inter] at e
  · rintro rfl; rfl
open Pt in
theorem parts_text' {l : List Bs} (hg : ∀ x ∈ l, Step x) : parts (text l) = l := by
  unfold text
  by_cases h : l = []
  · subst h; rfl
  · rw [if_neg (fun e => h ((inter_nil' hg).1 e))]
    unfold parts
    rw [pieces_inter l (fun x hx => (hg x hx).2.2) h]
    exact List.filter_eq_self.2 fun x hx => by have := hg x hx; simp [says, this.1, this.2.1]

theorem common_take : ∀ (a b : List (List UInt8)), a.take (common a b) = b.take (common a b)
  | [], b => by simp [common]
  | a :: l, [] => by simp [common]
  | a :: l, b :: r => by
    unfold common
    split
    · rename_i h; subst h; simp [common_take l r]
    · rfl
theorem common_max : ∀ (a b : List (List UInt8)) (x y : List UInt8), a[common a b]? = some x → b[common a b]? = some y → x ≠ y
  | [], b, x, y, h, _ => by simp [common] at h
  | a :: l, [], x, y, _, h => by simp [common] at h
  | a :: l, b :: r, x, y, h1, h2 => by
    unfold common at h1 h2
    split at h1
    · rename_i e
      rw [if_pos e] at h2
      exact common_max l r x y (by simpa using h1) (by simpa using h2)
    · rename_i e
      rw [if_neg e] at h2
      simp at h1 h2
      subst h1 h2
      exact e

theorem step_way {P Q : List (List UInt8)} (hP : ∀ x ∈ P, Pt.Good x) : ∀ x ∈ wayParts P Q, Step x := by
  intro x hx
  unfold wayParts at hx
  rcases List.mem_append.1 hx with hx | hx
  · rw [List.eq_of_mem_replicate hx]; exact Step.up
  · exact Step.of_good (hP x (List.mem_of_mem_drop hx))

theorem way_text {P Q : List (List UInt8)} (hP : ∀ x ∈ P, Pt.Good x) (hQ : ∀ x ∈ Q, Pt.Good x) : way (Pt.text P) (Pt.text Q) = Pt.text (wayParts P Q) := by
  unfold way
  rw [partsP_text hP, partsP_text hQ]
  unfold Pt.text
  by_cases h : wayParts P Q = []
  · rw [h]; rfl
  · rw [if_neg h, if_neg (fun e => h ((inter_nil' (step_way hP)).1 e))]

open Pt in
theorem walk_append : ∀ (a b out : List Bs), walk out (a ++ b) = (walk out a).bind fun o => walk o b
  | [], b, out => by simp [walk]
  | x :: a, b, out => by
    rw [List.cons_append, walk_cons, walk_cons]
    cases Pt.step out x with
    | none => rfl
    | some o => exact walk_append a b o
open Pt in
theorem walk_up : ∀ (k : Nat) (Q : List Bs), k ≤ Q.length → walk Q (List.replicate k [46, 46]) = some (Q.take (Q.length - k))
  | 0, Q, _ => by simp [walk]
  | k + 1, Q, h => by
    rcases List.eq_nil_or_concat Q with rfl | ⟨L, x, rfl⟩
    · simp at h
    · rw [List.concat_eq_append] at h ⊢
      rw [List.length_append, List.length_singleton] at h
      rw [List.replicate_succ, walk_cons, step_up rfl, Option.bind_some, walk_up k L (by omega), List.length_append, List.length_singleton]
      rw [show L.length + 1 - (k + 1) = L.length - k by omega, List.take_append_of_le_length (by omega)]

open Pt in
/-- P1.3: the way leads there. -/
theorem join_way {P Q : List Bs} (hP : ∀ x ∈ P, Pt.Good x) (hQ : ∀ x ∈ Q, Pt.Good x) : join [text Q, text (wayParts P Q)] = some (text P) := by
  have hl := common_le P Q
  have h1 : walk [] (parts (text Q)) = some Q := by rw [parts_text hQ, walk_good Q [] hQ]; rfl
  have h2 : walk Q (parts (text (wayParts P Q))) = some P := by
    rw [parts_text' (step_way hP)]
    unfold wayParts
    rw [walk_append, walk_up _ _ (by omega), Option.bind_some, show Q.length - (Q.length - common P Q) = common P Q by omega, ← common_take P Q,
      walk_good _ _ (fun x hx => hP x (List.mem_of_mem_drop hx)), List.take_append_drop]
  unfold join
  rw [go_cons, h1, Option.bind_some, go_cons, h2]
  rfl

/-- Where the parts of a way lead up. -/
theorem way_up {P Q : List (List UInt8)} {k : Nat} {x : List UInt8} (hP : ∀ x ∈ P, Pt.Good x) (h : (wayParts P Q)[k]? = some x) : x = [46, 46] ↔ k < Q.length - common P Q := by
  unfold wayParts at h
  by_cases hk : k < Q.length - common P Q
  · rw [List.getElem?_append_left (by simpa using hk), List.getElem?_replicate, if_pos hk] at h
    exact ⟨fun _ => hk, fun _ => (Option.some.inj h).symm⟩
  · rw [List.getElem?_append_right (by simpa using hk)] at h
    refine ⟨fun e => ?_, fun e => absurd e hk⟩
    have := List.mem_of_getElem? h
    exact absurd e (hP x (List.mem_of_mem_drop this)).2.2.1
theorem way_len (P Q : List (List UInt8)) : (wayParts P Q).length = (Q.length - common P Q) + (P.length - common P Q) := by simp [wayParts]
end Go.Proofs.YtjpkliaiicphbaaDoor
