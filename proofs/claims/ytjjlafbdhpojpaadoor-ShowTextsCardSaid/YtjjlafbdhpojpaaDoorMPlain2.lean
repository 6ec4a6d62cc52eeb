/-
  What a makefile is that has one line: a name, a mark, a value; with override or export before it.
-/
import Derived.Test.YtjjlafbdhpojpaaDoorMPlain
namespace Go.Proofs.YtjjlafbdhpojpaaDoor.Mp
set_option maxRecDepth 100000

def tailT (v : Bs) : Bs := if v = [] then [] else 32 :: v
theorem mark_ways {o : Bs} (h : o ∈ marks) : o = [61] ∨ o = [58, 61] ∨ o = [63, 61] ∨ o = [43, 61] := by simpa [marks] using h
theorem last_of {l : Bs} {p : UInt8 → Prop} (h : ∀ c ∈ l, p c) : ∀ c, l.getLast? = some c → p c := fun c hc => h c (List.mem_of_getLast? hc)
theorem head_of {l : Bs} {p : UInt8 → Prop} (h : ∀ c ∈ l, p c) : ∀ c, l.head? = some c → p c := fun c hc => h c (List.mem_of_mem_head? hc)

/-- The line's text, without blanks at the ends. -/
theorem trim_line {q o v : Bs} (ho : o ∈ marks) (hv : ∀ c ∈ v, Val c) (hq0 : q ≠ []) (hq : ∀ c, q.head? = some c → ([32, 9, 10] : Bs).contains c = false) :
    trim (q ++ 32 :: o ++ 32 :: v) = q ++ 32 :: o ++ tailT v := by
  have hh : ∀ r : Bs, (q ++ r).head? = q.head? := fun r => by cases q with | nil => exact absurd rfl hq0 | cons x q => rfl
  have h61 : ∀ c, (q ++ 32 :: o).getLast? = some c → c = 61 := fun c hc => by
    rcases mark_ways ho with rfl | rfl | rfl | rfl <;> simp at hc <;> exact hc.symm
  by_cases hv0 : v = []
  · subst hv0
    rw [trim_sp]
    show _ = (q ++ 32 :: o) ++ []
    rw [List.append_nil]
    refine trim_id (fun c hc => hq c (by rw [← hh (32 :: o)]; exact hc)) (fun c hc => ?_)
    rw [h61 c hc]; rfl
  · have ht : tailT v = 32 :: v := if_neg hv0
    rw [ht]
    refine trim_id (fun c hc => hq c ?_) (fun c hc => ?_)
    · rw [List.append_assoc, hh] at hc; exact hc
    · rw [List.getLast?_append, List.getLast?_cons] at hc
      cases hl : v.getLast? with
      | none => exact absurd (List.getLast?_eq_none_iff.1 hl) hv0
      | some d =>
        rw [hl] at hc
        obtain rfl : d = c := by simpa using hc
        exact blank_val (hv _ (List.mem_of_getLast? hl))
theorem oper_line {q o v : Bs} (ho : o ∈ marks) (hq : ∀ c ∈ q, ([61, 58] : Bs).contains c = false ∧ c ≠ 40 ∧ c ≠ 123) :
    operA (q ++ 32 :: o ++ v) = (q ++ [32], o, v) := by
  have hq2 : ∀ c ∈ q ++ [32], ([61, 58] : Bs).contains c = false ∧ c ≠ 40 ∧ c ≠ 123 := fun c hc => by
    rcases List.mem_append.1 hc with hc | hc
    · exact hq c hc
    · rw [List.mem_singleton.1 hc]; decide
  have hm : ∀ d : UInt8, ([61, 58] : Bs).contains d = false ∧ d ≠ 40 ∧ d ≠ 123 → ∀ c ∈ q ++ [32, d], ([61, 58] : Bs).contains c = false ∧ c ≠ 40 ∧ c ≠ 123 := fun d hd c hc => by
    rcases List.mem_append.1 hc with hc | hc
    · exact hq c hc
    · rcases List.mem_cons.1 hc with rfl | hc
      · decide
      · rw [List.mem_singleton.1 hc]; exact hd
  have put : ∀ (b r : Bs) (c : UInt8), cut [61, 58] (b ++ c :: r) = some b.length → operA (b ++ c :: r) = opAt b c r := fun b r c h => by
    unfold operA
    rw [h]
    show opAt ((b ++ c :: r).take b.length) ((b ++ c :: r).getD b.length 0) ((b ++ c :: r).drop (b.length + 1)) = _
    simp
  rcases mark_ways ho with rfl | rfl | rfl | rfl
  · rw [show q ++ 32 :: [61] ++ v = (q ++ [32]) ++ 61 :: v by simp, put _ _ _ (cut_at hq2 rfl)]
    unfold opAt
    simp
  · rw [show q ++ 32 :: [58, 61] ++ v = (q ++ [32]) ++ 58 :: 61 :: v by simp, put _ _ _ (cut_at hq2 rfl)]
    unfold opAt
    simp
  · rw [show q ++ 32 :: [63, 61] ++ v = (q ++ [32, 63]) ++ 61 :: v by simp, put _ _ _ (cut_at (hm 63 (by decide)) rfl)]
    unfold opAt
    simp [List.dropLast_append_of_ne_nil]
  · rw [show q ++ 32 :: [43, 61] ++ v = (q ++ [32, 43]) ++ 61 :: v by simp, put _ _ _ (cut_at (hm 43 (by decide)) rfl)]
    unfold opAt
    simp [List.dropLast_append_of_ne_nil]
theorem letter_plain {c : UInt8} (h : Letter c) : ([61, 58] : Bs).contains c = false ∧ c ≠ 40 ∧ c ≠ 123 := by
  refine ⟨?_, h.ne (letter_no (by decide)), h.ne (letter_no (by decide))⟩
  simp only [List.contains_cons, List.contains_nil, Bool.or_false, Bool.or_eq_false_iff, beq_eq_false_iff_ne]
  exact ⟨h.ne (letter_no (by decide)), h.ne (letter_no (by decide))⟩
theorem odd_letter {c : UInt8} (h : Letter c) : ([32, 9, 10, 58, 35, 61] : Bs).contains c = false := by
  simp only [List.contains_cons, List.contains_nil, Bool.or_false, Bool.or_eq_false_iff, beq_eq_false_iff_ne]
  exact ⟨h.ne (letter_no (by decide)), h.ne (letter_no (by decide)), h.ne (letter_no (by decide)), h.ne (letter_no (by decide)), h.ne (letter_no (by decide)), h.ne (letter_no (by decide))⟩
/-- The part. -/
def partT (n o v : Bs) : P := { zero with name := n, op := o, value := v }
theorem mark_ne {o : Bs} (ho : o ∈ marks) : o ≠ [] := by rcases mark_ways ho with rfl | rfl | rfl | rfl <;> simp
theorem assign_line {n o v : Bs} (ho : o ∈ marks) (hn0 : n ≠ []) (hn : ∀ c ∈ n, Letter c) (hv : ∀ c ∈ v, Val c) : assignA (n ++ 32 :: o ++ tailT v) = some (partT n o v) := by
  unfold assignA
  rw [oper_line ho (fun c hc => letter_plain (hn c hc))]
  have ht : trim (n ++ [32]) = n := by
    rw [trim_sp]
    exact trim_id (head_of fun c hc => blank_letter (hn c hc)) (last_of fun c hc => blank_letter (hn c hc))
  have hodd : oddA n = false := by
    unfold oddA
    rw [List.any_eq_false]
    intro c hc
    rw [odd_letter (hn c hc)]; exact Bool.false_ne_true
  have htv : trim (tailT v) = v := by
    unfold tailT
    split
    · rename_i h; rw [h]; rfl
    · exact trim_lsp (last_of fun c hc => blank_val (hv c hc)) (head_of fun c hc => blank_val (hv c hc))
  unfold assignO
  show (if o = [] then none else if trim (n ++ [32]) = [] then none else if oddA (trim (n ++ [32])) = true then none else some { zero with name := trim (n ++ [32]), op := o, value := trim (tailT v) }) = _
  rw [if_neg (mark_ne ho), ht, if_neg hn0, if_neg (by rw [hodd]; exact Bool.false_ne_true), htv]
  rfl
/-- With a word before it that isn't of the name, a line is no assignment. -/
theorem assign_not {p n o v : Bs} {b : UInt8} (hb : b = 32 ∨ b = 9) (ho : o ∈ marks) (hp0 : p ≠ []) (hp : ∀ c ∈ p, Letter c) (hn0 : n ≠ []) (hn : ∀ c ∈ n, Letter c) : assignA (p ++ b :: n ++ 32 :: o ++ v) = none := by
  unfold assignA
  rw [oper_line ho (fun c hc => by
    rcases List.mem_append.1 hc with hc | hc
    · exact letter_plain (hp c hc)
    · rcases List.mem_cons.1 hc with rfl | hc
      · rcases hb with rfl | rfl <;> decide
      · exact letter_plain (hn c hc))]
  have ht : trim (p ++ b :: n ++ [32]) = p ++ b :: n := by
    rw [trim_sp]
    refine trim_id (fun c hc => ?_) (fun c hc => ?_)
    · cases p with
      | nil => exact absurd rfl hp0
      | cons x p =>
        obtain rfl : x = c := by simpa using hc
        exact blank_letter (hp _ (by simp))
    · rw [List.getLast?_append, List.getLast?_cons] at hc
      cases hl : n.getLast? with
      | none => exact absurd (List.getLast?_eq_none_iff.1 hl) hn0
      | some d =>
        rw [hl] at hc
        obtain rfl : d = c := by simpa using hc
        exact blank_letter (hn _ (List.mem_of_getLast? hl))
  have hodd : oddA (p ++ b :: n) = true := by
    unfold oddA
    rw [List.any_eq_true]
    exact ⟨b, by simp, by rcases hb with rfl | rfl <;> decide⟩
  unfold assignO
  show (if o = [] then none else if trim (p ++ b :: n ++ [32]) = [] then none else if oddA (trim (p ++ b :: n ++ [32])) = true then none else some { zero with name := trim (p ++ b :: n ++ [32]), op := o, value := trim v }) = none
  rw [if_neg (mark_ne ho), ht, if_neg (by simp), if_pos hodd]
theorem word_line {p r : Bs} {b : UInt8} (hb : b = 32 ∨ b = 9) (hp : ∀ c ∈ p, Letter c) : wordA (p ++ b :: r) = (p, r) := by
  have hc : cut [32, 9] (p ++ b :: r) = some p.length := cut_at (fun c hc => by
    have h := hp c hc
    refine ⟨?_, h.ne (letter_no (by decide)), h.ne (letter_no (by decide))⟩
    simp only [List.contains_cons, List.contains_nil, Bool.or_false, Bool.or_eq_false_iff, beq_eq_false_iff_ne]
    exact ⟨h.ne (letter_no (by decide)), h.ne (letter_no (by decide))⟩) (by rcases hb with rfl | rfl <;> rfl)
  unfold wordA pairA
  rw [hc]
  show ((p ++ b :: r).take p.length, (p ++ b :: r).drop (p.length + 1)) = _
  simp

/-- A makefile of one line that is no recipe's. -/
theorem one_yes {n : Nat} {s : Bs} {p : P} (h : assignA s = some p) : oneA n s = some p := by unfold oneA; rw [h]
theorem one_no {n : Nat} {s : Bs} (h : assignA s = none) : oneA n s = specialA n s := by unfold oneA; rw [h]
theorem parts_one {s : Bs} {p : P} (hl : Ip.linesA s = [⟨1, trim s, false⟩]) (hp : oneA 1 (trim s) = some p) : partsA s = .ok [{ p with line := 1 }] := by
  unfold partsA
  rw [hl]
  have ha : addA [] ⟨1, trim s, false⟩ = some [{ p with line := 1 }] := by
    unfold addA
    rw [if_neg (by exact Bool.false_ne_true)]
    show (partA 1 (trim s)).map _ = _
    unfold partA
    rw [hp]; rfl
  unfold goA
  rw [ha]
  rfl
theorem mem_line {q o v : Bs} {d : UInt8} (ho : o ∈ marks) (hq : d ∉ q) (hv : d ∉ v) (h1 : d ≠ 32) (h2 : d ≠ 61) (h3 : d ≠ 58) (h4 : d ≠ 63) (h5 : d ≠ 43) : d ∉ q ++ 32 :: o ++ 32 :: v := by
  rcases mark_ways ho with rfl | rfl | rfl | rfl <;> simp [hq, hv, h1, h2, h3, h4, h5]
section
variable {n o v : Bs} (ho : o ∈ marks) (hn0 : n ≠ []) (hn : ∀ c ∈ n, Letter c) (hv : ∀ c ∈ v, Val c)
include ho hn0 hn hv
omit hn0 hn in
theorem line_ok (q : Bs) (hq0 : q ≠ []) (hq : ∀ c ∈ q, Letter c ∨ c = 32 ∨ c = 9) (hh : ∀ c, q.head? = some c → Letter c) :
    Ip.linesA (q ++ 32 :: o ++ 32 :: v) = [⟨1, trim (q ++ 32 :: o ++ 32 :: v), false⟩] ∧ trim (q ++ 32 :: o ++ 32 :: v) = q ++ 32 :: o ++ tailT v := by
  have ht := trim_line ho hv hq0 (fun c hc => blank_letter (hh c hc))
  have hqn : ∀ d : UInt8, ¬ Letter d → d ≠ 32 → d ≠ 9 → d ∉ q := fun d h1 h2 h3 h => by
    rcases hq d h with h | h | h
    · exact h1 h
    · exact h2 h
    · exact h3 h
  have hvn : ∀ d : UInt8, ¬ Val d → d ∉ v := fun d h1 h => h1 (hv d h)
  refine ⟨linesA_one ?_ ?_ ?_ ?_, ht⟩
  · exact mem_line ho (hqn _ (letter_no (by decide)) (by decide) (by decide)) (hvn _ (val_no (by decide) (by decide))) (by decide) (by decide) (by decide) (by decide) (by decide)
  · exact mem_line ho (hqn _ (letter_no (by decide)) (by decide) (by decide)) (hvn _ (val_no (by decide) (by decide))) (by decide) (by decide) (by decide) (by decide) (by decide)
  · intro h
    cases q with
    | nil => exact absurd rfl hq0
    | cons x q =>
      obtain rfl : x = 9 := by simpa using h
      exact letter_no (by decide) (hh 9 rfl)
  · rw [ht]
    cases q with
    | nil => exact absurd rfl hq0
    | cons x q => simp
theorem law_plain : partsA (n ++ 32 :: o ++ 32 :: v) = .ok [{ partT n o v with line := 1 }] := by
  obtain ⟨h1, h2⟩ := line_ok ho hv n hn0 (fun c hc => .inl (hn c hc)) (head_of hn)
  refine parts_one h1 ?_
  rw [h2, one_yes (assign_line ho hn0 hn hv)]
theorem law_over : partsA (oOver ++ 32 :: n ++ 32 :: o ++ 32 :: v) = .ok [{ partT n o v with over := true, line := 1 }] := by
  have hL : ∀ c ∈ oOver, Letter c := by
    intro c hc
    simp [oOver] at hc
    rcases hc with rfl | rfl | rfl | rfl | rfl | rfl | rfl <;> exact .inl (by decide)
  obtain ⟨h1, h2⟩ := line_ok ho hv (oOver ++ 32 :: n) (by simp) (fun c hc => by
    rcases List.mem_append.1 hc with hc | hc
    · exact .inl (hL c hc)
    · rcases List.mem_cons.1 hc with rfl | hc
      · exact .inr (.inl rfl)
      · exact .inl (hn c hc)) (fun c hc => by
        obtain rfl : 111 = c := by simpa [oOver] using hc
        exact .inl (by decide))
  refine parts_one (p := { partT n o v with over := true }) h1 ?_
  rw [h2, one_no (assign_not (.inl rfl) ho (by decide) hL hn0 hn)]
  unfold specialA
  rw [show oOver ++ 32 :: n ++ 32 :: o ++ tailT v = oOver ++ 32 :: (n ++ 32 :: o ++ tailT v) by simp, word_line (.inl rfl) hL]
  show (if oOver = oOver then _ else _) = _
  rw [if_pos rfl]
  show (assignA (n ++ 32 :: o ++ tailT v)).map _ = _
  rw [assign_line ho hn0 hn hv]
  rfl
theorem law_out : partsA (oExport ++ 9 :: n ++ 32 :: o ++ 32 :: v) = .ok [{ partT n o v with out := true, line := 1 }] := by
  have hL : ∀ c ∈ oExport, Letter c := by
    intro c hc
    simp [oExport] at hc
    rcases hc with rfl | rfl | rfl | rfl | rfl | rfl <;> exact .inl (by decide)
  obtain ⟨h1, h2⟩ := line_ok ho hv (oExport ++ 9 :: n) (by simp) (fun c hc => by
    rcases List.mem_append.1 hc with hc | hc
    · exact .inl (hL c hc)
    · rcases List.mem_cons.1 hc with rfl | hc
      · exact .inr (.inr rfl)
      · exact .inl (hn c hc)) (fun c hc => by
        obtain rfl : 101 = c := by simpa [oExport] using hc
        exact .inl (by decide))
  refine parts_one (p := { partT n o v with out := true }) h1 ?_
  rw [h2, one_no (assign_not (.inr rfl) ho (by decide) hL hn0 hn)]
  unfold specialA
  rw [show oExport ++ 9 :: n ++ 32 :: o ++ tailT v = oExport ++ 9 :: (n ++ 32 :: o ++ tailT v) by simp, word_line (.inr rfl) hL]
  show (if oExport = oOver then _ else if oExport = oExport then _ else _) = _
  rw [if_neg (by decide), if_pos rfl]
  show (match assignA (n ++ 32 :: o ++ tailT v) with | some p => some { p with out := true } | none => _) = _
  rw [assign_line ho hn0 hn hv]
end
end Go.Proofs.YtjjlafbdhpojpaaDoor.Mp
