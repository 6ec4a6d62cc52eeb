/-
  Lines of a makefile, in plain words: rows, a line out of its rows, a text without its remark; and what LinesGrow says of them.
-/
import Derived.Lib.SlTrimSet
import Derived.Lib.Walk
import Derived.Test.YtjjlafbdhpojpaaDoorProg
namespace Go.Proofs.YtjjlafbdhpojpaaDoor.Ip
set_option maxRecDepth 100000
abbrev Bs := List UInt8

/-- A text's rows: what stands between the bytes 10. -/
def rows : Bs → List Bs
  | [] => [[]]
  | c :: r => if c = 10 then [] :: rows r else
    match rows r with
    | [] => [[c]]
    | x :: l => (c :: x) :: l
theorem rows_ne (s : Bs) : rows s ≠ [] := by
  cases s with
  | nil => simp [rows]
  | cons c r =>
    unfold rows
    split
    · simp
    · split <;> simp
theorem rows_nl (r : Bs) : rows (10 :: r) = [] :: rows r := by rw [rows.eq_def]; exact if_pos rfl
theorem rows_ch {c : UInt8} {r x : Bs} {l : List Bs} (h : ¬ c = 10) (hr : rows r = x :: l) : rows (c :: r) = (c :: x) :: l := by rw [rows.eq_def]; show (if c = 10 then _ else _) = _; rw [if_neg h, hr]
theorem rows_one : ∀ {a : Bs}, 10 ∉ a → rows a = [a]
  | [], _ => rfl
  | c :: r, h => by
    have hc : ¬ c = 10 := fun e => h (by simp [e])
    exact rows_ch hc (rows_one (fun h' => h (List.mem_cons_of_mem _ h')))
theorem rows_cut : ∀ {a b : Bs}, 10 ∉ a → rows (a ++ 10 :: b) = a :: rows b
  | [], b, _ => rows_nl b
  | c :: r, b, h => by
    have hc : ¬ c = 10 := fun e => h (by simp [e])
    rw [List.cons_append]
    exact rows_ch hc (rows_cut (fun h' => h (List.mem_cons_of_mem _ h')))
theorem rows_both : ∀ (a b : Bs), rows (a ++ 10 :: b) = rows a ++ rows b
  | [], b => rows_nl b
  | c :: r, b => by
    rw [List.cons_append]
    by_cases hc : c = 10
    · rw [hc, rows_nl, rows_nl, rows_both r b]; rfl
    · cases hr : rows r with
      | nil => exact absurd hr (rows_ne r)
      | cons x l => rw [rows_ch hc hr]; exact rows_ch hc (by rw [rows_both r b, hr]; rfl)
theorem rows_len : ∀ s : Bs, (rows s).length = s.count 10 + 1
  | [] => rfl
  | c :: r => by
    have ih := rows_len r
    by_cases hc : c = 10
    · rw [hc, rows_nl, List.count_cons_self, List.length_cons, ih]
    · rw [List.count_cons_of_ne (fun e => hc e)]
      cases hr : rows r with
      | nil => exact absurd hr (rows_ne r)
      | cons x l => rw [rows_ch hc hr]; rw [hr] at ih; simpa using ih
theorem rows_no : ∀ {s : Bs} {x : Bs}, x ∈ rows s → 10 ∉ x
  | [], x, h => by
    simp [rows] at h; simp [h]
  | c :: r, x, h => by
    have ih : ∀ y ∈ rows r, 10 ∉ y := fun y hy => rows_no hy
    by_cases hc : c = 10
    · rw [hc, rows_nl] at h
      rcases List.mem_cons.1 h with rfl | h
      · simp
      · exact ih x h
    · cases hr : rows r with
      | nil => exact absurd hr (rows_ne r)
      | cons y l =>
        rw [rows_ch hc hr] at h; rw [hr] at ih
        simp only [List.mem_cons] at h
        rcases h with rfl | h
        · intro h'
          rcases List.mem_cons.1 h' with e | h'
          · exact hc e.symm
          · exact ih y (by simp) h'
        · exact ih x (by simp [h])
theorem rows_short : ∀ {s : Bs} {x : Bs}, x ∈ rows s → x.length ≤ s.length
  | [], x, h => by simp [rows] at h; simp [h]
  | c :: r, x, h => by
    have ih : ∀ y ∈ rows r, y.length ≤ r.length := fun y hy => rows_short hy
    by_cases hc : c = 10
    · rw [hc, rows_nl] at h
      rcases List.mem_cons.1 h with rfl | h
      · simp
      · have := ih x h; simp; omega
    · cases hr : rows r with
      | nil => exact absurd hr (rows_ne r)
      | cons y l =>
        rw [rows_ch hc hr] at h; rw [hr] at ih
        simp only [List.mem_cons] at h
        rcases h with rfl | h
        · have := ih y (by simp); simp; omega
        · have := ih x (by simp [h]); simp; omega
theorem rows_single {r x : Bs} (h : rows r = [x]) : r = x := by
  by_cases h10 : (10 : UInt8) ∈ r
  · have := rows_len r
    rw [h] at this
    have hp := List.count_pos_iff.2 h10
    simp at this; omega
  · rw [rows_one h10] at h; exact (List.cons.inj h).1
/-- The last row ends as the text does. -/
theorem rows_end : ∀ (s x : Bs) (e : UInt8), (rows s).getLast? = some x → x.getLast? = some e → s.getLast? = some e
  | [], x, e => by simp only [rows, List.getLast?_singleton, Option.some.injEq]; rintro rfl h; exact h
  | c :: r, x, e => by
    have hne := rows_ne r
    have ih := rows_end r x e
    by_cases hc : c = 10
    · rw [hc, rows_nl]
      intro h h1
      rw [List.getLast?_cons] at h
      cases hl : (rows r).getLast? with
      | none => exact absurd (List.getLast?_eq_none_iff.1 hl) hne
      | some y =>
        rw [hl] at h
        rw [List.getLast?_cons, ih (hl.trans h) h1]; rfl
    · cases hr : rows r with
      | nil => exact absurd hr hne
      | cons y l =>
        rw [rows_ch hc hr]
        intro h h1
        cases l with
        | nil =>
          rw [rows_single hr]
          rw [← h1, ← Option.some.inj (h.symm.trans List.getLast?_singleton)]
        | cons z l =>
          rw [hr] at ih
          rw [List.getLast?_cons, ih (by rw [← h]; rw [List.getLast?_cons_cons, List.getLast?_cons_cons]) h1]; rfl

/-- A line of a makefile. -/
structure L where
  n : Nat
  t : Bs
  q : Bool

def trim (s : Bs) : Bs := Lib.trimS s [32, 9, 10]
/-- A line's text with one more row. -/
def addA (acc t : Bs) : Bs := if t = [] then acc else if acc = [] then t else acc ++ 32 :: t
/-- A text without its remark: what is read already, and the rest. -/
def bareA : Bs → Bs → Bs
  | acc, [] => acc
  | acc, c :: r => if c = 35 then (if acc.getLast? = some 92 then bareA (acc.dropLast ++ [35]) r else acc) else bareA (acc ++ [c]) r
def more (r : Bs) (rest : List Bs) : Bool := !rest.isEmpty && r.getLast? == some 92
def tab (r : Bs) : Bool := r.head? == some 9
def textA (q : Bool) (t : Bs) : Bs := if q then t else trim (bareA [] t)
def emit (n : Nat) (q : Bool) (t : Bs) : List L := if textA q t = [] then [] else [⟨n, textA q t, q⟩]
/-- Lines out of rows: the row's number, the line's, whether it is a recipe's, its text so far. -/
def goA (k n : Nat) (q : Bool) (acc : Bs) : List Bs → List L
  | [] => []
  | r :: rest => if more r rest then goA (k + 1) n q (addA acc (trim r.dropLast)) rest
    else emit n q (addA acc (trim r)) ++ goA (k + 1) (k + 1) (tab (rest.headD [])) [] rest
def linesA (s : Bs) : List L := goA 1 1 (tab ((rows s).headD [])) [] (rows s)

theorem goA_more {k n : Nat} {q : Bool} {acc r : Bs} {rest : List Bs} (h : more r rest = true) : goA k n q acc (r :: rest) = goA (k + 1) n q (addA acc (trim r.dropLast)) rest := if_pos h
theorem goA_last {k n : Nat} {q : Bool} {acc r : Bs} {rest : List Bs} (h : more r rest = false) : goA k n q acc (r :: rest) = emit n q (addA acc (trim r)) ++ goA (k + 1) (k + 1) (tab (rest.headD [])) [] rest := if_neg (by rw [h]; exact Bool.false_ne_true)
theorem bareA_all : ∀ {b acc : Bs}, 35 ∉ b → bareA acc b = acc ++ b
  | [], acc, _ => by simp [bareA]
  | c :: r, acc, h => by
    have hc : ¬ c = 35 := fun e => h (by simp [e])
    unfold bareA
    rw [if_neg hc, bareA_all (fun h' => h (List.mem_cons_of_mem _ h'))]
    simp
theorem bareA_step : ∀ {b acc rest : Bs}, 35 ∉ b → bareA acc (b ++ rest) = bareA (acc ++ b) rest
  | [], acc, rest, _ => by simp
  | c :: r, acc, rest, h => by
    have hc : ¬ c = 35 := fun e => h (by simp [e])
    rw [List.cons_append]
    conv => lhs; unfold bareA
    rw [if_neg hc, bareA_step (fun h' => h (List.mem_cons_of_mem _ h'))]
    simp
/-- A # without a backslash before it ends the text. -/
theorem bareA_end {b acc rest : Bs} (h : 35 ∉ b) (ha : acc.getLast? ≠ some 92) (hb : b.getLast? ≠ some 92) : bareA acc (b ++ 35 :: rest) = acc ++ b := by
  rw [bareA_step h]
  unfold bareA
  rw [if_pos rfl, if_neg]
  rw [List.getLast?_append]
  cases hb' : b.getLast? with
  | none => simpa using ha
  | some d => rw [hb'] at hb; simpa using hb
theorem bareA_kept {b acc rest : Bs} (h : 35 ∉ b) (hb : b.getLast? = some 92) : bareA acc (b ++ 35 :: rest) = bareA (acc ++ b.dropLast ++ [35]) rest := by
  rw [bareA_step h]
  conv => lhs; unfold bareA
  have hne : b ≠ [] := fun e => by rw [e] at hb; cases hb
  rw [if_pos rfl, if_pos (by rw [List.getLast?_append, hb]; rfl), List.dropLast_append_of_ne_nil hne]

/- Of two texts. -/
def shift (d : Nat) (x : L) : L := ⟨x.n + d, x.t, x.q⟩
theorem emit_shift (d n : Nat) (q : Bool) (t : Bs) : emit (n + d) q t = (emit n q t).map (shift d) := by
  unfold emit
  split <;> rfl
theorem goA_shift (d : Nat) : ∀ (R : List Bs) (k n : Nat) (q : Bool) (acc : Bs), goA (k + d) (n + d) q acc R = (goA k n q acc R).map (shift d)
  | [], _, _, _, _ => rfl
  | r :: rest, k, n, q, acc => by
    cases h : more r rest with
    | true => rw [goA_more h, goA_more h, Nat.add_right_comm, goA_shift d rest]
    | false => rw [goA_last h, goA_last h, List.map_append, emit_shift, Nat.add_right_comm, goA_shift d rest]
theorem goA_both (R2 : List Bs) : ∀ (R1 : List Bs) (_ : R1 ≠ []) (k n : Nat) (q : Bool) (acc : Bs), (∀ x, R1.getLast? = some x → x.getLast? ≠ some 92) →
    goA k n q acc (R1 ++ R2) = goA k n q acc R1 ++ goA (k + R1.length) (k + R1.length) (tab (R2.headD [])) [] R2
  | [r], _, k, n, q, acc, h => by
    have h1 : more r R2 = false := by
      unfold more
      have : (r.getLast? == some 92) = false := by rw [beq_eq_false_iff_ne]; exact h r rfl
      rw [this, Bool.and_false]
    rw [List.singleton_append, goA_last h1, goA_last (by rfl)]
    simp [goA]
  | r :: r2 :: rest, _, k, n, q, acc, h => by
    have ih := fun k n q acc => goA_both R2 (r2 :: rest) (by simp) k n q acc (fun x hx => h x (by rw [List.getLast?_cons_cons]; exact hx))
    have hm : more r ((r2 :: rest) ++ R2) = more r (r2 :: rest) := rfl
    rw [List.cons_append]
    cases h1 : more r (r2 :: rest) with
    | true => rw [goA_more (hm.trans h1), goA_more h1, ih, List.length_cons (a := r)]; congr 2 <;> omega
    | false =>
      rw [goA_last (hm.trans h1), goA_last h1, ih, List.length_cons (a := r), List.append_assoc]
      congr 3 <;> omega
theorem linesA_both {a b : Bs} (h : a.getLast? ≠ some 92) : linesA (a ++ 10 :: b) = linesA a ++ (linesA b).map (shift (rows a).length) := by
  unfold linesA
  rw [rows_both]
  have hne := rows_ne a
  rw [show (rows a ++ rows b).headD [] = (rows a).headD [] by cases hr : rows a with | nil => exact absurd hr hne | cons x l => rfl]
  rw [goA_both _ _ hne _ _ _ _ (fun x hx e => h (rows_end a x 92 hx e)), ← goA_shift]

/- What a line is. -/
theorem emit_le (n : Nat) (q : Bool) (t : Bs) : (emit n q t).length ≤ 1 := by unfold emit; split <;> simp
theorem goA_le : ∀ (R : List Bs) (k n : Nat) (q : Bool) (acc : Bs), (goA k n q acc R).length ≤ R.length
  | [], _, _, _, _ => by simp [goA]
  | r :: rest, k, n, q, acc => by
    cases h : more r rest with
    | true => rw [goA_more h]; have := goA_le rest (k + 1) n q (addA acc (trim r.dropLast)); simp; omega
    | false =>
      rw [goA_last h, List.length_append]
      have h1 := goA_le rest (k + 1) (k + 1) (tab (rest.headD [])) []
      have h2 := emit_le n q (addA acc (trim r))
      rw [List.length_cons]; omega
theorem mem_emit {n : Nat} {q : Bool} {t : Bs} {x : L} (h : x ∈ emit n q t) : x = ⟨n, textA q t, q⟩ ∧ textA q t ≠ [] := by
  unfold emit at h
  split at h
  · cases h
  · exact ⟨by simpa using h, by assumption⟩
theorem goA_ge : ∀ (R : List Bs) (k n : Nat) (q : Bool) (acc : Bs), n ≤ k → ∀ x ∈ goA k n q acc R, n ≤ x.n
  | [], _, _, _, _, _ => by simp [goA]
  | r :: rest, k, n, q, acc, hk => by
    cases h : more r rest with
    | true => rw [goA_more h]; exact goA_ge rest (k + 1) n q _ (by omega)
    | false =>
      rw [goA_last h]
      intro x hx
      rcases List.mem_append.1 hx with hx | hx
      · rw [(mem_emit hx).1]; exact Nat.le_refl _
      · have := goA_ge rest (k + 1) (k + 1) _ _ (Nat.le_refl _) x hx; omega
theorem goA_up : ∀ (R : List Bs) (k n : Nat) (q : Bool) (acc : Bs), n ≤ k → (goA k n q acc R).Pairwise (fun x y => x.n < y.n)
  | [], _, _, _, _, _ => by simp [goA]
  | r :: rest, k, n, q, acc, hk => by
    cases h : more r rest with
    | true => rw [goA_more h]; exact goA_up rest (k + 1) n q _ (by omega)
    | false =>
      rw [goA_last h, List.pairwise_append]
      refine ⟨?_, goA_up rest (k + 1) (k + 1) _ _ (Nat.le_refl _), ?_⟩
      · unfold emit; split <;> simp
      · intro x hx y hy
        have h1 := goA_ge rest (k + 1) (k + 1) _ _ (Nat.le_refl _) y hy
        rw [(mem_emit hx).1]; show n < y.n; omega

/-- A text that may stand in a line. -/
def Fine (t : Bs) : Prop := 10 ∉ t ∧ (∀ c, t.head? = some c → c ≠ 32 ∧ c ≠ 9) ∧ (∀ c, t.getLast? = some c → c ≠ 32 ∧ c ≠ 9)
theorem Fine.nil : Fine [] := ⟨by simp, by simp, by simp⟩
theorem dw_sub {p : UInt8 → Bool} {l : Bs} {c : UInt8} (h : c ∈ l.dropWhile p) : c ∈ l := (List.dropWhile_sublist p).subset h
theorem dw_head {p : UInt8 → Bool} : ∀ {l : Bs} {c : UInt8}, (l.dropWhile p).head? = some c → p c = false
  | [], _, h => by simp at h
  | a :: l, c, h => by
    rw [List.dropWhile_cons] at h
    split at h
    · exact dw_head h
    · obtain rfl : a = c := by simpa using h
      simpa using ‹¬ p a = true›
theorem dw_last {p : UInt8 → Bool} : ∀ {l : Bs} {c : UInt8}, (l.dropWhile p).getLast? = some c → l.getLast? = some c
  | [], _, h => h
  | a :: l, c, h => by
    rw [List.dropWhile_cons] at h
    split at h
    · rw [List.getLast?_cons, dw_last h]; rfl
    · exact h
theorem dw_same {p : UInt8 → Bool} : ∀ {l : Bs}, (∀ c, l.head? = some c → p c = false) → l.dropWhile p = l
  | [], _ => rfl
  | a :: l, h => by rw [List.dropWhile_cons, if_neg (by rw [h a rfl]; exact Bool.false_ne_true)]
theorem trim_sub {s cs : Bs} {c : UInt8} (h : c ∈ Lib.trimS s cs) : c ∈ s := by
  have h1 := dw_sub h
  have h2 := List.mem_reverse.1 h1
  exact List.mem_reverse.1 (dw_sub h2)
theorem trim_head {s cs : Bs} {c : UInt8} (h : (Lib.trimS s cs).head? = some c) : cs.contains c = false := dw_head h
theorem trim_last {s cs : Bs} {c : UInt8} (h : (Lib.trimS s cs).getLast? = some c) : cs.contains c = false := by
  have h1 := dw_last h
  rw [Lib.trimRightS, List.getLast?_reverse] at h1
  exact dw_head h1
theorem trim_fine {s : Bs} (h : 10 ∉ s) : Fine (trim s) := by
  refine ⟨fun h' => h (trim_sub h'), fun c hc => ?_, fun c hc => ?_⟩
  · have := trim_head hc; simp at this; exact ⟨this.1, this.2.1⟩
  · have := trim_last hc; simp at this; exact ⟨this.1, this.2.1⟩
theorem trim_same {t : Bs} (h : Fine t) : Lib.trimS t [32, 9] = t := by
  have hR : Lib.trimRightS t [32, 9] = t := by
    unfold Lib.trimRightS
    rw [dw_same, List.reverse_reverse]
    intro c hc
    rw [List.head?_reverse] at hc
    have := h.2.2 c hc
    simp [this]
  unfold Lib.trimS
  rw [hR]
  exact dw_same fun c hc => by have := h.2.1 c hc; simp [this]
theorem addA_fine {a t : Bs} (ha : Fine a) (ht : Fine t) : Fine (addA a t) := by
  unfold addA
  split
  · exact ha
  · split
    · exact ht
    · rename_i h1 h2
      refine ⟨?_, ?_, ?_⟩
      · simp only [List.mem_append, List.mem_cons, not_or]
        exact ⟨ha.1, by decide, ht.1⟩
      · intro c hc
        cases a with
        | nil => exact absurd rfl h2
        | cons x l => exact ha.2.1 c (by simpa using hc)
      · intro c hc
        rw [List.getLast?_append, List.getLast?_cons] at hc
        cases hl : t.getLast? with
        | none => exact absurd (List.getLast?_eq_none_iff.1 hl) h1
        | some d => rw [hl] at hc; exact ht.2.2 c (by rw [hl]; simpa using hc)
theorem bareA_sub : ∀ {t acc : Bs} {c : UInt8}, c ∈ bareA acc t → c ∈ acc ∨ c ∈ t ∨ c = 35
  | [], acc, c, h => .inl h
  | x :: r, acc, c, h => by
    unfold bareA at h
    split at h
    · split at h
      · rcases bareA_sub h with h | h | h
        · rcases List.mem_append.1 h with h | h
          · exact .inl (List.dropLast_subset _ h)
          · exact .inr (.inr (by simpa using h))
        · exact .inr (.inl (List.mem_cons_of_mem _ h))
        · exact .inr (.inr h)
      · exact .inl h
    · rcases bareA_sub h with h | h | h
      · rcases List.mem_append.1 h with h | h
        · exact .inl h
        · exact .inr (.inl (by simp at h; simp [h]))
      · exact .inr (.inl (List.mem_cons_of_mem _ h))
      · exact .inr (.inr h)
theorem textA_fine (q : Bool) {t : Bs} (h : Fine t) : Fine (textA q t) := by
  unfold textA
  split
  · exact h
  · refine trim_fine fun h' => ?_
    rcases bareA_sub h' with h' | h' | h'
    · cases h'
    · exact h.1 h'
    · revert h'; decide
theorem goA_fine : ∀ (R : List Bs) (k n : Nat) (q : Bool) (acc : Bs), (∀ r ∈ R, 10 ∉ r) → Fine acc → ∀ x ∈ goA k n q acc R, Fine x.t ∧ x.t ≠ []
  | [], _, _, _, _, _, _ => by simp [goA]
  | r :: rest, k, n, q, acc, hR, ha => by
    have hr := hR r (by simp)
    have hrest := fun y hy => hR y (List.mem_cons_of_mem _ hy)
    cases h : more r rest with
    | true =>
      rw [goA_more h]
      exact goA_fine rest (k + 1) n q _ hrest (addA_fine ha (trim_fine fun h' => hr (List.dropLast_subset _ h')))
    | false =>
      rw [goA_last h]
      intro x hx
      rcases List.mem_append.1 hx with hx | hx
      · obtain ⟨rfl, h0⟩ := mem_emit hx
        exact ⟨textA_fine q (addA_fine ha (trim_fine hr)), h0⟩
      · exact goA_fine rest (k + 1) (k + 1) _ _ hrest Fine.nil x hx
theorem linesA_fine {s : Bs} {x : L} (h : x ∈ linesA s) : Fine x.t ∧ x.t ≠ [] := goA_fine _ _ _ _ _ (fun _ hr => rows_no hr) Fine.nil x h
theorem linesA_le (s : Bs) : (linesA s).length ≤ s.count 10 + 1 := by rw [← rows_len]; exact goA_le _ _ _ _ _
theorem linesA_up (s : Bs) : (linesA s).Pairwise (fun x y => x.n < y.n) := goA_up _ _ _ _ _ (Nat.le_refl _)
theorem linesA_ge {s : Bs} {x : L} (h : x ∈ linesA s) : 1 ≤ x.n := goA_ge _ _ _ _ _ (Nat.le_refl _) x h

theorem goA_lt : ∀ (R : List Bs) (k n : Nat) (q : Bool) (acc : Bs), n ≤ k → ∀ x ∈ goA k n q acc R, x.n < k + R.length
  | [], _, _, _, _, _ => by simp [goA]
  | r :: rest, k, n, q, acc, hk => by
    cases h : more r rest with
    | true =>
      rw [goA_more h]
      intro x hx
      have := goA_lt rest (k + 1) n q _ (by omega) x hx
      rw [List.length_cons]; omega
    | false =>
      rw [goA_last h]
      intro x hx
      rw [List.length_cons]
      rcases List.mem_append.1 hx with hx | hx
      · rw [(mem_emit hx).1]; show n < _; omega
      · have := goA_lt rest (k + 1) (k + 1) _ _ (Nat.le_refl _) x hx; omega
theorem linesA_lt {s : Bs} {x : L} (h : x ∈ linesA s) : x.n < s.length + 3 := by
  have := goA_lt _ _ _ _ _ (Nat.le_refl _) x h
  rw [rows_len] at this
  have := List.count_le_length (a := (10 : UInt8)) (l := s)
  omega

/- Sizes. -/
theorem trim_len (s : Bs) : (trim s).length ≤ s.length := by
  unfold trim Lib.trimS Lib.trimLeftS Lib.trimRightS
  refine Nat.le_trans (List.dropWhile_sublist _).length_le ?_
  rw [List.length_reverse]
  refine Nat.le_trans (List.dropWhile_sublist _).length_le ?_
  rw [List.length_reverse]; exact Nat.le_refl _
theorem addA_len (a t : Bs) : (addA a t).length ≤ a.length + t.length + 1 := by
  unfold addA
  split
  · omega
  · split
    · omega
    · simp; omega
theorem bareA_len : ∀ (t acc : Bs), (bareA acc t).length ≤ acc.length + t.length
  | [], acc => by simp [bareA]
  | x :: r, acc => by
    unfold bareA
    split
    · split
      · rename_i h
        have h0 : acc ≠ [] := fun e => by rw [e] at h; cases h
        have := bareA_len r (acc.dropLast ++ [35])
        have := List.length_pos_iff.2 h0
        simp at *; omega
      · simp
    · have := bareA_len r (acc ++ [x])
      simp at *; omega
theorem textA_len (q : Bool) (t : Bs) : (textA q t).length ≤ t.length := by
  unfold textA
  split
  · exact Nat.le_refl _
  · have := bareA_len t []
    have := trim_len (bareA [] t)
    simp at *; omega
/-- All bytes of some rows, and one more a row. -/
def tot : List Bs → Nat
  | [] => 0
  | r :: l => r.length + 1 + tot l
theorem rows_tot : ∀ s : Bs, tot (rows s) = s.length + 1
  | [] => rfl
  | c :: r => by
    have ih := rows_tot r
    by_cases hc : c = 10
    · rw [hc, rows_nl]; simp [tot, ih]; omega
    · cases hr : rows r with
      | nil => exact absurd hr (rows_ne r)
      | cons x l => rw [rows_ch hc hr]; rw [hr] at ih; simp [tot] at *; omega
theorem goA_len : ∀ (R : List Bs) (k n : Nat) (q : Bool) (acc : Bs), ∀ x ∈ goA k n q acc R, x.t.length ≤ acc.length + tot R
  | [], _, _, _, _ => by simp [goA]
  | r :: rest, k, n, q, acc => by
    intro x hx
    show x.t.length ≤ acc.length + (r.length + 1 + tot rest)
    cases h : more r rest with
    | true =>
      rw [goA_more h] at hx
      have h1 := goA_len rest _ _ _ _ x hx
      have h2 := addA_len acc (trim r.dropLast)
      have h3 := trim_len r.dropLast
      have h4 : r.dropLast.length ≤ r.length := by simp
      omega
    | false =>
      rw [goA_last h] at hx
      rcases List.mem_append.1 hx with hx | hx
      · have h1 := (mem_emit hx).1
        have h2 := textA_len q (addA acc (trim r))
        have h3 := addA_len acc (trim r)
        have h4 := trim_len r
        rw [h1]
        show (textA q (addA acc (trim r))).length ≤ _
        omega
      · have h1 := goA_len rest _ _ _ _ x hx
        have h2 : ([] : Bs).length = 0 := rfl
        omega
theorem linesA_len {s : Bs} {x : L} (h : x ∈ linesA s) : x.t.length ≤ s.length + 1 := by
  have := goA_len _ _ _ _ _ x h
  rw [rows_tot] at this
  simpa using this
theorem tot_drop : ∀ (n : Nat) (l : List Bs), tot (l.drop n) ≤ tot l
  | 0, _ => Nat.le_refl _
  | _ + 1, [] => Nat.le_refl _
  | n + 1, r :: l => by have := tot_drop n l; simp [tot]; omega
end Go.Proofs.YtjjlafbdhpojpaaDoor.Ip
