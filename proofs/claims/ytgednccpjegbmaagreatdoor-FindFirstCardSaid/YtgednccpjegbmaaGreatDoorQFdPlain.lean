/-
  A makefile of patterns, each of which has one need and one line: its parts.
-/
import Derived.Test.YtgednccpjegbmaaGreatDoorQMPlain2
namespace Go.Proofs.YtgednccpjegbmaaGreatDoor.Fp
open Go.Proofs.YtgednccpjegbmaaGreatDoor
set_option maxRecDepth 100000
abbrev Bs := List UInt8

/-- %.o: %.<e> -/
def ruleS (e : Nat) : Bs := [37, 46, 111, 58, 32, 37, 46, UInt8.ofNat (97 + e)]
def needS (e : Nat) : Bs := [37, 46, UInt8.ofNat (97 + e)]
def targS : Bs := [37, 46, 111]
/-- echo <i> -/
def echoS (i : Nat) : Bs := [101, 99, 104, 111, 32, UInt8.ofNat (48 + i)]
def pieceS (e i : Nat) : Bs := ruleS e ++ 10 :: (9 :: echoS i ++ [10])
/-- The text, by the endings. -/
def textS : Nat → List Nat → Bs
  | _, [] => []
  | i, e :: r => pieceS e i ++ textS (i + 1) r
/-- A part. -/
def partOf (e i : Nat) (n : Nat) : Mp.P := ⟨1, n, [], [], [], false, false, targS, needS e, [], [⟨n + 1, echoS i, true⟩]⟩
def partsOf : Nat → List Nat → List Mp.P
  | _, [] => []
  | i, e :: r => partOf e i (2 * i + 1) :: partsOf (i + 1) r
theorem ten {P : Nat → Prop} (h0 : P 0) (h1 : P 1) (h2 : P 2) (h3 : P 3) (h4 : P 4) (h5 : P 5) (h6 : P 6) (h7 : P 7) (h8 : P 8) (h9 : P 9) : ∀ e, e < 10 → P e
  | 0, _ => h0 | 1, _ => h1 | 2, _ => h2 | 3, _ => h3 | 4, _ => h4 | 5, _ => h5 | 6, _ => h6 | 7, _ => h7 | 8, _ => h8 | 9, _ => h9
  | n + 10, h => absurd h (by omega)
theorem rule_no : ∀ e, e < 10 → (10 : UInt8) ∉ ruleS e := ten (by decide) (by decide) (by decide) (by decide) (by decide) (by decide) (by decide) (by decide) (by decide) (by decide)
theorem echo_no : ∀ i, i < 10 → (10 : UInt8) ∉ 9 :: echoS i := ten (by decide) (by decide) (by decide) (by decide) (by decide) (by decide) (by decide) (by decide) (by decide) (by decide)
theorem rule_text : ∀ e, e < 10 → Ip.textA false (Ip.addA [] (Ip.trim (ruleS e))) = ruleS e := ten rfl rfl rfl rfl rfl rfl rfl rfl rfl rfl
theorem echo_text : ∀ i, i < 10 → Ip.textA true (Ip.addA [] (Ip.trim (9 :: echoS i))) = echoS i := ten rfl rfl rfl rfl rfl rfl rfl rfl rfl rfl
theorem rule_more : ∀ e, e < 10 → (ruleS e).getLast? ≠ some 92 := ten (by decide) (by decide) (by decide) (by decide) (by decide) (by decide) (by decide) (by decide) (by decide) (by decide)
theorem echo_more : ∀ i, i < 10 → (9 :: echoS i).getLast? ≠ some 92 := ten (by decide) (by decide) (by decide) (by decide) (by decide) (by decide) (by decide) (by decide) (by decide) (by decide)
theorem rule_part (n : Nat) : ∀ e, e < 10 → Mp.partA n (ruleS e) = some ⟨1, n, [], [], [], false, false, targS, needS e, [], []⟩ := ten rfl rfl rfl rfl rfl rfl rfl rfl rfl rfl
def rowsOf : Nat → List Nat → List Bs
  | _, [] => [[]]
  | i, e :: r => ruleS e :: (9 :: echoS i) :: rowsOf (i + 1) r
def linesOf : Nat → List Nat → List Ip.L
  | _, [] => []
  | i, e :: r => ⟨2 * i + 1, ruleS e, false⟩ :: ⟨2 * i + 2, echoS i, true⟩ :: linesOf (i + 1) r
theorem rows_tab (i : Nat) (r : List Nat) : Ip.tab ((rowsOf i r).headD []) = false := by cases r <;> rfl
theorem rows_text : ∀ (r : List Nat) (i : Nat), (∀ e ∈ r, e < 10) → i + r.length ≤ 10 → Ip.rows (textS i r) = rowsOf i r
  | [], _, _, _ => rfl
  | e :: r, i, he, hi => by
    have h1 := rule_no e (he e (by simp))
    have h2 := echo_no i (by simp at hi; omega)
    have ih := rows_text r (i + 1) (fun e h => he e (by simp [h])) (by simp at hi; omega)
    show Ip.rows ((ruleS e ++ 10 :: (9 :: echoS i ++ [10])) ++ textS (i + 1) r) = _
    rw [show (ruleS e ++ 10 :: (9 :: echoS i ++ [10])) ++ textS (i + 1) r = ruleS e ++ 10 :: ((9 :: echoS i) ++ 10 :: textS (i + 1) r) by simp, Ip.rows_cut h1, Ip.rows_cut h2, ih]
    rfl
theorem goA_step (k e i : Nat) (he : e < 10) (hi : i < 10) (R : List Ip.Bs) (hR : Ip.tab (R.headD []) = false) :
    Ip.goA k k false [] (ruleS e :: (9 :: echoS i) :: R) = ⟨k, ruleS e, false⟩ :: ⟨k + 1, echoS i, true⟩ :: Ip.goA (k + 2) (k + 2) false [] R := by
  have m1 : Ip.more (ruleS e) ((9 :: echoS i) :: R) = false := by
    unfold Ip.more; rw [beq_eq_false_iff_ne.2 (rule_more e he)]; simp
  have m2 : Ip.more (9 :: echoS i) R = false := by
    unfold Ip.more; rw [beq_eq_false_iff_ne.2 (echo_more i hi)]; simp
  have t1 : Ip.emit k false (Ip.addA [] (Ip.trim (ruleS e))) = [⟨k, ruleS e, false⟩] := by
    unfold Ip.emit; rw [rule_text e he, if_neg (by simp [ruleS])]
  have t2 : Ip.emit (k + 1) true (Ip.addA [] (Ip.trim (9 :: echoS i))) = [⟨k + 1, echoS i, true⟩] := by
    unfold Ip.emit; rw [echo_text i hi, if_neg (by simp [echoS])]
  rw [Ip.goA_last m1, t1, show Ip.tab (((9 :: echoS i) :: R).headD []) = true from rfl, Ip.goA_last m2, t2, hR]
  rfl
theorem goA_all : ∀ (r : List Nat) (i : Nat), (∀ e ∈ r, e < 10) → i + r.length ≤ 10 → Ip.goA (2 * i + 1) (2 * i + 1) false [] (rowsOf i r) = linesOf i r
  | [], _, _, _ => rfl
  | e :: r, i, he, hi => by
    have ih := goA_all r (i + 1) (fun e h => he e (by simp [h])) (by simp at hi; omega)
    show Ip.goA _ _ false [] (ruleS e :: (9 :: echoS i) :: rowsOf (i + 1) r) = _
    rw [goA_step _ e i (he e (by simp)) (by simp at hi; omega) _ (rows_tab _ _), show 2 * i + 1 + 2 = 2 * (i + 1) + 1 by omega, ih]
    rfl
theorem parts_all : ∀ (r : List Nat) (i : Nat) (acc : List Mp.P), (∀ e ∈ r, e < 10) → i + r.length ≤ 10 → Mp.goA acc (linesOf i r) = .ok (acc ++ partsOf i r)
  | [], _, acc, _, _ => by show Except.ok acc = _; rw [partsOf, List.append_nil]
  | e :: r, i, acc, he, hi => by
    have ih := parts_all r (i + 1) (acc ++ [partOf e i (2 * i + 1)]) (fun e h => he e (by simp [h])) (by simp at hi; omega)
    have a1 : Mp.addA acc ⟨2 * i + 1, ruleS e, false⟩ = some (acc ++ [⟨1, 2 * i + 1, [], [], [], false, false, targS, needS e, [], []⟩]) := by
      unfold Mp.addA
      rw [if_neg (by exact Bool.false_ne_true), rule_part _ e (he e (by simp))]; rfl
    have a2 : Mp.addA (acc ++ [⟨1, 2 * i + 1, [], [], [], false, false, targS, needS e, [], []⟩]) ⟨2 * i + 2, echoS i, true⟩ = some (acc ++ [partOf e i (2 * i + 1)]) := by
      unfold Mp.addA
      rw [if_pos rfl, List.getLast?_concat]
      show (if (1 : Nat) = 1 then _ else _) = _
      rw [if_pos rfl, List.dropLast_concat]
      rfl
    show Mp.goA acc (⟨2 * i + 1, ruleS e, false⟩ :: ⟨2 * i + 2, echoS i, true⟩ :: linesOf (i + 1) r) = _
    rw [Mp.goA, a1]
    dsimp only
    rw [Mp.goA, a2]
    dsimp only
    rw [ih, partsOf, List.append_assoc]
    rfl
/-- The parts of the text. -/
theorem parts_text {r : List Nat} (he : ∀ e ∈ r, e < 10) (hi : r.length ≤ 10) : Mp.partsA (textS 0 r) = .ok (partsOf 0 r) := by
  unfold Mp.partsA Ip.linesA
  have h := goA_all r 0 he (by omega)
  rw [rows_text r 0 he (by omega), rows_tab]
  rw [show 2 * 0 + 1 = 1 from rfl] at h
  rw [h, parts_all r 0 [] he (by omega), List.nil_append]
/-- The chapter's example. -/
def liveS : Bs := ruleS 2 ++ 10 :: 9 :: [101, 99, 104, 111, 32, 36, 42]
end Go.Proofs.YtgednccpjegbmaaGreatDoor.Fp
