/-
  How long what is shown can be.
-/
import Derived.Test.YtjjlafbdhpojpaaDoorVPlain3
namespace Go.Proofs.YtjjlafbdhpojpaaDoor.Vp
set_option maxRecDepth 100000
open Mp (cut has operA opAt assignO assignA oddA namesA pairA recA ruleAt ruleA wordA specialA oneA partA P zero oOver oExport oUnexport marks)

def sumT (l : List Ip.L) : Nat := (l.map fun x => x.t.length).sum
theorem sumT_app (a b : List Ip.L) : sumT (a ++ b) = sumT a + sumT b := by simp [sumT]
theorem go_sum : ∀ (R : List Bs) (k n : Nat) (q : Bool) (acc : Bs), sumT (Ip.goA k n q acc R) ≤ acc.length + Ip.tot R
  | [], _, _, _, _ => by simp [Ip.goA, sumT]
  | r :: rest, k, n, q, acc => by
    show _ ≤ acc.length + (r.length + 1 + Ip.tot rest)
    cases h : Ip.more r rest with
    | true =>
      rw [Ip.goA_more h]
      have h1 := go_sum rest (k + 1) n q (Ip.addA acc (Ip.trim r.dropLast))
      have h2 := Ip.addA_len acc (Ip.trim r.dropLast)
      have h3 := Ip.trim_len r.dropLast
      have h4 : r.dropLast.length ≤ r.length := by simp
      omega
    | false =>
      rw [Ip.goA_last h, sumT_app]
      have h1 := go_sum rest (k + 1) (k + 1) (Ip.tab (rest.headD [])) []
      have h2 := Ip.textA_len q (Ip.addA acc (Ip.trim r))
      have h3 := Ip.addA_len acc (Ip.trim r)
      have h4 := Ip.trim_len r
      have h5 : sumT (Ip.emit n q (Ip.addA acc (Ip.trim r))) ≤ (Ip.textA q (Ip.addA acc (Ip.trim r))).length := by
        unfold Ip.emit; split
        · simp [sumT]
        · simp [sumT]
      have h6 : ([] : Bs).length = 0 := rfl
      omega
theorem lines_sum (s : Bs) : sumT (Ip.linesA s) ≤ s.length + 1 := by
  have := go_sum (Ip.rows s) 1 1 (Ip.tab ((Ip.rows s).headD [])) []
  rw [Ip.rows_tot] at this
  have h0 : ([] : Bs).length = 0 := rfl
  show sumT (Ip.goA 1 1 (Ip.tab ((Ip.rows s).headD [])) [] (Ip.rows s)) ≤ _
  omega
/-- A part's size. -/
def psz (p : P) : Nat := (rowA p).length + 1 + (p.recipe.map fun x => x.t.length + 2).sum
theorem rec_sum (l : List Ip.L) : (l.flatMap recT).length = (l.map fun x => x.t.length + 2).sum := by
  induction l with
  | nil => rfl
  | cons x l ih => rw [List.flatMap_cons, List.length_append, ih, List.map_cons, List.sum_cons]; simp [recT]
theorem part_len {p : P} (h : Good p) : (partT p).length = psz p := by
  unfold partT psz
  rw [hash_no (fun hc => (h.clean _ hc).2.1 rfl), List.length_append, List.length_cons, rec_sum]; omega
theorem text_len {l : List P} (h : ∀ p ∈ l, Good p) : (textA l).length = (l.map psz).sum := by
  unfold textA
  induction l with
  | nil => rfl
  | cons p l ih => rw [List.flatMap_cons, List.length_append, part_len (h p (by simp)), ih fun p hp => h p (List.mem_cons_of_mem _ hp), List.map_cons, List.sum_cons]
theorem tl_len (v : Bs) : (tl v).length ≤ v.length + 1 := by unfold tl; split <;> simp
theorem ord_len (v : Bs) : (ordT v).length ≤ v.length + 3 := by unfold ordT; split <;> simp
theorem asg_len {s : Bs} {p : P} (h : assignA s = some p) : p.name.length ≤ s.length ∧ p.op.length ≤ 2 ∧ p.value.length ≤ s.length ∧ p.recipe = [] ∧ p.kind = 0 := by
  unfold assignA assignO at h
  obtain ⟨h1, h2, h3⟩ := Mp.oper_len s
  split at h
  · cases h
  · split at h
    · cases h
    · split at h
      · cases h
      · obtain rfl := Option.some.inj h
        have h4 := Ip.trim_len (operA s).1
        have h5 := Ip.trim_len (operA s).2.2
        exact ⟨Nat.le_trans h4 h1, h2, Nat.le_trans h5 h3, rfl, rfl⟩
theorem names_len {s : Bs} {k : Nat} {p : P} (h : namesA k s = some p) : p.needs.length ≤ s.length ∧ p.recipe = [] ∧ p.kind = k := by
  unfold namesA at h
  split at h
  · cases h
  · obtain rfl := Option.some.inj h
    exact ⟨Ip.trim_len s, rfl, rfl⟩
theorem rule_len {s : Bs} {n : Nat} {p : P} (h : ruleA n s = some p) : p.targets.length ≤ s.length ∧ p.needs.length ≤ s.length ∧ p.order.length ≤ s.length ∧ (p.recipe.map fun x => x.t.length + 2).sum ≤ s.length + 2 ∧ p.kind = 1 := by
  unfold ruleA at h
  split at h
  · cases h
  · rename_i k hk
    split at h
    · cases h
    · split at h
      · cases h
      · unfold ruleAt at h
        split at h
        · cases h
        · obtain rfl := Option.some.inj h
          have h0 : (s.drop (k + 1)).length ≤ s.length := by rw [List.length_drop]; omega
          have h1 := Mp.pair_len [59] (s.drop (k + 1))
          have h2 := Mp.pair_len [124] (pairA [59] (s.drop (k + 1))).1
          refine ⟨Nat.le_trans (Ip.trim_len _) (by rw [List.length_take]; omega), Nat.le_trans (Ip.trim_len _) (by omega), Nat.le_trans (Ip.trim_len _) (by omega), ?_, rfl⟩
          have h3 := Ip.trim_len (pairA [59] (s.drop (k + 1))).2
          show ((recA n (Ip.trim (pairA [59] (s.drop (k + 1))).2)).map fun x => x.t.length + 2).sum ≤ _
          unfold recA; split
          · simp
          · simp; omega
theorem row_len0 {p : P} (h : p.kind = 0) : (rowA p).length ≤ p.name.length + p.op.length + p.value.length + 11 := by
  have h1 := tl_len p.value
  unfold rowA arow
  rw [if_pos h]
  split
  · simp [oOver]; omega
  · split
    · simp [oExport]; omega
    · simp; omega
theorem row_len1 {p : P} (h : p.kind = 1) : (rowA p).length ≤ p.targets.length + p.needs.length + p.order.length + 5 := by
  have h1 := tl_len p.needs
  have h2 := ord_len p.order
  unfold rowA brow
  rw [if_neg (by omega), if_pos h]
  simp; omega
theorem row_len2 {p : P} (h : 2 ≤ p.kind) : (rowA p).length ≤ p.needs.length + 9 := by
  have h1 := tl_len p.needs
  unfold rowA
  rw [if_neg (by omega), if_neg (by omega)]
  split
  · simp [oExport]; omega
  · simp [oUnexport]; omega
theorem psz_line (p : P) (n : Nat) : psz { p with line := n } = psz p := rfl
theorem part_psz {n : Nat} {s : Bs} {p : P} (h : partA n s = some p) : psz p ≤ 4 * s.length + 25 := by
  unfold partA at h
  rw [Option.map_eq_some_iff] at h
  obtain ⟨q, h, rfl⟩ := h
  rw [psz_line]
  have hw : (wordA s).2.length ≤ s.length := (Mp.pair_len [32, 9] s).2
  have asg : ∀ {t : Bs} {p q : P}, assignA t = some p → t.length ≤ s.length → q.kind = p.kind → q.name = p.name → q.op = p.op → q.value = p.value → q.recipe = p.recipe → psz q ≤ 4 * s.length + 25 := fun h ht e1 e2 e3 e4 e5 => by
    obtain ⟨a1, a2, a3, a4, a5⟩ := asg_len h
    have := row_len0 (e1.trans a5)
    unfold psz
    rw [e5, a4]
    rw [e2, e3, e4] at this
    simp; omega
  have nam : ∀ {t : Bs} {k : Nat} {p : P}, namesA k t = some p → 2 ≤ k → t.length ≤ s.length → psz p ≤ 4 * s.length + 25 := fun h hk ht => by
    obtain ⟨a1, a2, a3⟩ := names_len h
    have := row_len2 (by rw [a3]; exact hk)
    unfold psz
    rw [a2]
    simp; omega
  unfold oneA at h
  split at h
  · rename_i p1 h1
    obtain rfl := Option.some.inj h
    exact asg h1 (Nat.le_refl _) rfl rfl rfl rfl rfl
  · unfold specialA at h
    split at h
    · rw [Option.map_eq_some_iff] at h
      obtain ⟨q, h, rfl⟩ := h
      exact asg h hw rfl rfl rfl rfl rfl
    · split at h
      · split at h
        · rename_i q h2
          obtain rfl := Option.some.inj h
          exact asg h2 hw rfl rfl rfl rfl rfl
        · exact nam h (by decide) hw
      · split at h
        · exact nam h (by decide) hw
        · obtain ⟨a1, a2, a3, a4, a5⟩ := rule_len h
          have := row_len1 a5
          unfold psz
          omega
theorem add_psz {l m : List P} {x : Ip.L} (h : Mp.addA l x = some m) : (m.map psz).sum ≤ (l.map psz).sum + 4 * x.t.length + 25 := by
  unfold Mp.addA at h
  split at h
  · split at h
    · rename_i p hp
      split at h
      · obtain rfl := Option.some.inj h
        obtain ⟨ys, rfl⟩ := List.getLast?_eq_some_iff.1 hp
        rw [List.dropLast_concat, List.map_append, List.map_append, List.sum_append, List.sum_append]
        have : psz { p with recipe := p.recipe ++ [x] } = psz p + (x.t.length + 2) := by
          show (rowA p).length + 1 + ((p.recipe ++ [x]).map fun x => x.t.length + 2).sum = _
          unfold psz
          simp; omega
        simp [this]; omega
      · cases h
    · cases h
  · rw [Option.map_eq_some_iff] at h
    obtain ⟨p, h, rfl⟩ := h
    rw [List.map_append, List.sum_append]
    have := part_psz h
    simp; omega
theorem go_psz : ∀ {R : List Ip.L} {l m : List P}, Mp.goA l R = .ok m → (m.map psz).sum ≤ (l.map psz).sum + 4 * sumT R + 25 * R.length
  | [], l, m, h => by
    have : l = m := by simpa [Mp.goA] using h
    subst this; omega
  | x :: R, l, m, h => by
    unfold Mp.goA at h
    split at h
    · cases h
    · rename_i l2 h2
      have h3 := go_psz h
      have h4 := add_psz h2
      have : sumT (x :: R) = x.t.length + sumT R := by simp [sumT]
      rw [this, List.length_cons]; omega
/-- How long what is shown can be. -/
theorem shown_len {s : Bs} {l : List P} (h : 92 ∉ s) (hp : Mp.partsA s = .ok l) : (textA l).length ≤ 29 * (s.length + 1) := by
  rw [text_len (good_parts h hp)]
  have h1 := go_psz (l := []) hp
  have h2 := lines_sum s
  have h3 := Ip.linesA_le s
  have h4 := List.count_le_length (a := (10 : UInt8)) (l := s)
  simp at h1
  omega
end Go.Proofs.YtjjlafbdhpojpaaDoor.Vp
