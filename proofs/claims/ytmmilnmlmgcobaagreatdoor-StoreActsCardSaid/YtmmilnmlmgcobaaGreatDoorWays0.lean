/-
  The plain side of Dir, Base and In: on paths they are what the document's answers are.
-/
import Derived.Lib.LastIndexByte
import Derived.Test.YtmmilnmlmgcobaaGreatDoorRefJoin
namespace Go.Proofs.YtmmilnmlmgcobaaGreatDoor
open Go.RowKit
set_option maxRecDepth 100000

/-- The last place of a slash in a string, by either word. -/
theorem last_same (s : ByteArray) : Lib.lastIndexByte s 47 = Lib.Pa.lastIndexByte (bs s) 47 := by
  have key : ∀ k, k ≤ s.size → Lib.lastIdx s 47 k = Lib.Pa.lastIdx (bs s) 47 k := by
    intro k
    induction k with
    | zero => intro _; rfl
    | succ k ih =>
      intro hk
      have hb : s.data[k]! = s[k] := by
        show s.data[k]! = s.data[k]
        rw [getElem!_pos s.data k hk]
      have hl : (bs s)[k]? = some s[k] := Lib.Pa.at_eq s k hk
      unfold Lib.lastIdx Lib.Pa.lastIdx
      rw [hb, hl, ih (by omega)]
      by_cases h : s[k] = 47
      · rw [if_pos (by rw [h]; rfl), if_pos (by rw [h])]
      · rw [if_neg (fun e => h (UInt8.toNat_inj.1 (by simpa using (by omega : s[k].toNat = 47)))), if_neg (fun e => h (Option.some.inj e))]
  unfold Lib.lastIndexByte Lib.Pa.lastIndexByte
  rw [key s.size (Nat.le_refl _), bs_len]

open Pt in
theorem pieces_text {P : List Bs} (hP : ∀ x ∈ P, Pt.Good x) (h : P ≠ []) : pieces (text P) = P ∧ text P = inter P ∧ text P ≠ [46] := by
  have e : text P = inter P := text_ne _ (fun e => h ((inter_nil hP).1 e))
  have e2 : pieces (inter P) = P := pieces_inter P (fun x hx => (hP x hx).2.2.2) h
  refine ⟨by rw [e]; exact e2, e, fun e3 => ?_⟩
  rw [e] at e3
  rw [e3] at e2
  exact (hP [46] (by rw [← e2]; simp [pieces])).2.1 rfl

/-- The last part cut off. -/
def dirL (s : List UInt8) : List UInt8 := if 0 ≤ Lib.Pa.lastIndexByte s 47 then s.take (Lib.Pa.lastIndexByte s 47).toNat else [46]
def baseL (s : List UInt8) : List UInt8 := s.drop (Lib.Pa.lastIndexByte s 47 + 1).toNat

open Pt in
theorem dirL_text {P : List Bs} (hP : ∀ x ∈ P, Pt.Good x) : dirL (text P) = text P.dropLast := by
  rcases List.eq_nil_or_concat P with rfl | ⟨L, x, rfl⟩
  · rfl
  · rw [List.concat_eq_append] at hP ⊢
    obtain ⟨_, h2, _⟩ := pieces_text hP (by simp)
    have hx : 47 ∉ x := (hP x (by simp)).2.2.2
    rw [List.dropLast_concat, h2]
    by_cases hL : L = []
    · subst hL
      have e0 : inter ([] ++ [x]) = x := rfl
      rw [e0]
      unfold dirL
      rw [last_none x hx]
      rfl
    · rw [inter_snoc L x hL]
      unfold dirL
      rw [last_at _ _ hx, if_pos (by omega), Int.toNat_natCast, List.take_left, text_ne]
      intro e
      exact hL ((inter_nil (fun y hy => hP y (by simp [hy]))).1 e)

open Pt in
theorem baseL_text {P : List Bs} (hP : ∀ x ∈ P, Pt.Good x) : baseL (text P) = if P = [] then [46] else P.getLast?.getD [] := by
  rcases List.eq_nil_or_concat P with rfl | ⟨L, x, rfl⟩
  · rfl
  · rw [List.concat_eq_append] at hP ⊢
    obtain ⟨_, h2, _⟩ := pieces_text hP (by simp)
    have hx : 47 ∉ x := (hP x (by simp)).2.2.2
    have hg : (L ++ [x]).getLast? = some x := by simp
    rw [if_neg (by simp), hg, h2]
    show baseL _ = x
    by_cases hL : L = []
    · subst hL
      have e0 : inter ([] ++ [x]) = x := rfl
      rw [e0]
      unfold baseL
      rw [last_none x hx]
      rfl
    · rw [inter_snoc L x hL]
      unfold baseL
      rw [last_at _ _ hx, show ((inter L).length + 1 : Int).toNat = (inter L).length + 1 by omega, List.drop_append]
      simp

/-- Whether a path is in another one, as the code asks it. -/
def inL (p d : List UInt8) : Bool := (d == [46]) || (d.isPrefixOf p && ((p.drop d.length).isEmpty || (p.drop d.length).head? == some 47))

open Pt in
theorem inter_append : ∀ (Q R : List Bs), Q ≠ [] → R ≠ [] → inter (Q ++ R) = inter Q ++ 47 :: inter R
  | [], _, h, _ => absurd rfl h
  | [a], b :: r, _, _ => by simp [inter]
  | [_], [], _, h => absurd rfl h
  | a :: b :: l, R, _, hR => by
    have := inter_append (b :: l) R (by simp) hR
    simp only [List.cons_append] at this ⊢
    rw [inter, this, inter]
    simp

open Pt in
theorem pieces_inter_app : ∀ (Q : List Bs) (r : Bs), (∀ x ∈ Q, 47 ∉ x) → Q ≠ [] → pieces (inter Q ++ 47 :: r) = Q ++ pieces r
  | [], _, _, h => absurd rfl h
  | [a], r, h, _ => by rw [inter, pieces_hit _ _ (h a (by simp))]; rfl
  | a :: b :: l, r, h, _ => by
    rw [inter, List.append_assoc, List.cons_append, pieces_hit _ _ (h a (by simp)), pieces_inter_app (b :: l) r (fun x hx => h x (List.mem_cons_of_mem _ hx)) (by simp)]
    rfl

open Pt in
theorem inL_text {P Q : List Bs} (hP : ∀ x ∈ P, Pt.Good x) (hQ : ∀ x ∈ Q, Pt.Good x) : inL (text P) (text Q) = Q.isPrefixOf P := by
  rw [Bool.eq_iff_iff, List.isPrefixOf_iff_prefix]
  by_cases q0 : Q = []
  · subst q0
    exact ⟨fun _ => List.nil_prefix, fun _ => rfl⟩
  · obtain ⟨hq1, hq2, hq3⟩ := pieces_text hQ q0
    have hq47 : ∀ x ∈ Q, 47 ∉ x := fun x hx => (hQ x hx).2.2.2
    have hd : (text Q == [46]) = false := by rw [beq_eq_false_iff_ne]; exact hq3
    unfold inL
    rw [hd, Bool.false_or, Bool.and_eq_true, List.isPrefixOf_iff_prefix]
    constructor
    · rintro ⟨⟨r, hr⟩, hh⟩
      rw [← hr, List.drop_left] at hh
      by_cases p0 : P = []
      · subst p0
        exfalso
        have hlen := congrArg List.length hr
        rw [List.length_append, show (text ([] : List Bs)).length = 1 from rfl] at hlen
        have hne : inter Q ≠ [] := fun e => q0 ((inter_nil hQ).1 e)
        have h1 : (text Q).length = 1 := by
          rw [hq2] at hlen ⊢
          have : 0 < (inter Q).length := List.length_pos_iff.2 hne
          omega
        have : r = [] := List.eq_nil_of_length_eq_zero (by omega)
        subst this
        rw [List.append_nil] at hr
        exact hq3 hr
      · obtain ⟨hp1, hp2, _⟩ := pieces_text hP p0
        cases r with
        | nil =>
          rw [List.append_nil] at hr
          rw [← hp1, ← hr, hq1]
          exact List.prefix_refl _
        | cons c r =>
          have hc : c = 47 := by simpa using hh
          subst hc
          have := pieces_inter_app Q r hq47 q0
          rw [← hq2, hr, hp1] at this
          exact ⟨pieces r, this.symm⟩
    · rintro ⟨R, rfl⟩
      have hR : ∀ x ∈ R, Pt.Good x := fun x hx => hP x (by simp [hx])
      obtain ⟨_, hp2, _⟩ := pieces_text hP (by simp [q0])
      by_cases r0 : R = []
      · subst r0
        rw [List.append_nil]
        exact ⟨List.prefix_refl _, by simp⟩
      · rw [hp2, hq2, inter_append Q R q0 r0]
        exact ⟨List.prefix_append _ _, by rw [List.drop_left]; simp⟩

theorem owns_heap {w w' : World} {base e size n : Nat} {v : Value} {xs : List Value} (hh : w'.heap = w.heap) (h : w.ownsRow base e size v n xs) : w'.ownsRow base e size v n xs := by
  unfold World.ownsRow at *
  rw [hh]; exact h

/-- A cell of a slice that holds strings. -/
theorem cell_str {w : World} {base g c : Nat} {ps : List ByteArray} (h : w.ownsRow base 9 1 (.slice (some ⟨g, 0, none⟩) ps.length c) ps.length (strC ps)) {j : Nat} (hj : j < ps.length) :
    w.cell? ⟨g, j, none⟩ = some (.string (ps[j]?.getD ByteArray.empty)) := by
  have := h.cells (g := g) rfl j (.string (ps[j]?.getD ByteArray.empty)) (by rw [strC, List.getElem?_map, List.getElem?_eq_getElem hj]; rfl)
  rw [Addr.add_lit, Nat.zero_add] at this
  exact this

theorem drop_map_cons {ss : List ByteArray} {k : Nat} (h : k < ss.length) : (ss.map bs).drop k = bs (ss[k]?.getD ByteArray.empty) :: (ss.map bs).drop (k + 1) := by
  rw [← List.map_drop, drop_cons h, List.map_cons, List.map_drop]

end Go.Proofs.YtmmilnmlmgcobaaGreatDoor
