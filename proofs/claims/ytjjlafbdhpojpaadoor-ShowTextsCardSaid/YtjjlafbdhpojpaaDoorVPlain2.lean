/-
  A part's row is read as that part again: assignments, names, rules.
-/
import Derived.Test.YtjjlafbdhpojpaaDoorVPlain
namespace Go.Proofs.YtjjlafbdhpojpaaDoor.Vp
set_option maxRecDepth 100000
open Mp (cut has operA opAt assignO assignA oddA namesA pairA recA ruleAt ruleA wordA specialA oneA partA P zero oOver oExport oUnexport marks)

theorem solid_eq : Solid [61, 58] := fun c h => by rcases bl_ways h with rfl | rfl | rfl <;> rfl
theorem solid_of {s : Bs} (h : (s.all fun c => !(([32, 9, 10] : Bs).contains c)) = true) : Solid s := fun c hc => by
  rcases bl_ways hc with rfl | rfl | rfl <;>
  · cases hh : s.contains _ with
    | false => rfl
    | true =>
      have := List.all_eq_true.1 h _ (List.contains_iff_mem.1 hh)
      revert this; decide

/- Marks. -/
theorem mark_ways {o : Bs} (h : o ∈ marks) : o = [61] ∨ o = [58, 61] ∨ o = [63, 61] ∨ o = [43, 61] := by simpa [marks] using h
theorem mark_last {o : Bs} (h : o ∈ marks) : Lt o ∧ o ≠ [] := by
  rcases mark_ways h with rfl | rfl | rfl | rfl <;> refine ⟨fun c hc => ?_, by simp⟩ <;>
  · obtain rfl : 61 = c := by simpa using hc
    rfl
theorem next_plain {op : Bs} {c : UInt8} (h : c ≠ 40 ∧ c ≠ 123 ∧ c ≠ 41 ∧ c ≠ 125) : Wp.next op c = op :=
  Wp.next_other h.1 h.2.1 (fun d _ e => by
    unfold Wp.close at e
    split at e
    · exact h.2.2.1 e
    · exact h.2.2.2 e)
theorem opAt_mark {b r : Bs} {c : UInt8} (h : (opAt b c r).2.1 ≠ []) : (opAt b c r).2.1 ∈ marks := by
  unfold opAt at *
  split
  · simp [marks]
  · split
    · rename_i h1 h2
      rw [if_neg h1, if_pos h2] at h
      exact absurd rfl h
    · split
      · simp [marks]
      · split <;> simp [marks]
theorem st_drop {b : Bs} {c : UInt8} (h : b.getLast? = some c) (hc : c ≠ 40 ∧ c ≠ 123 ∧ c ≠ 41 ∧ c ≠ 125) (op : Bs) : st op b.dropLast = st op b := by
  have h1 : b = b.dropLast ++ [c] := by
    obtain ⟨ys, rfl⟩ := List.getLast?_eq_some_iff.1 h
    rw [List.dropLast_concat]
  conv => rhs; rw [h1, st_app]
  exact (next_plain hc).symm
theorem opAt_st {b r : Bs} {c : UInt8} (h : st [] b = []) : st [] (opAt b c r).1 = [] := by
  unfold opAt
  split
  · exact h
  · split
    · rfl
    · split
      · rename_i h2; rw [st_drop h2 (by decide)]; exact h
      · split
        · rename_i h2; rw [st_drop h2 (by decide)]; exact h
        · exact h

/-- An assignment. -/
structure Asg (p : P) : Prop where
  kind : p = { zero with name := p.name, op := p.op, value := p.value }
  name0 : p.name ≠ []
  name : oddA p.name = false
  brackets : st [] p.name = []
  op : p.op ∈ marks
  value : trim p.value = p.value
theorem odd_no {n : Bs} (h : oddA n = false) {c : UInt8} (hc : c ∈ n) : c ≠ 32 ∧ c ≠ 9 ∧ c ≠ 10 ∧ c ≠ 58 ∧ c ≠ 35 ∧ c ≠ 61 := by
  unfold oddA at h
  rw [List.any_eq_false] at h
  have := h c hc
  simpa using this
theorem Asg.of {s : Bs} {p : P} (h : assignA s = some p) : Asg p := by
  unfold assignA assignO at h
  split at h
  · cases h
  · rename_i h1
    split at h
    · cases h
    · rename_i h2
      split at h
      · cases h
      · rename_i h3
        obtain rfl := Option.some.inj h
        refine ⟨rfl, h2, by simpa using h3, ?_, ?_, trim_trim _⟩
        · show st [] (trim (operA s).1) = []
          rw [st_trim]
          unfold operA at *
          split
          · rfl
          · rename_i k hk
            obtain ⟨a, c, r, rfl, hl, _, hs, _⟩ := cut_split hk
            refine opAt_st ?_
            rw [← hl, List.take_left]; exact hs
        · show (operA s).2.1 ∈ marks
          unfold operA at *
          split
          · rename_i hk; rw [hk] at h1; exact absurd rfl h1
          · rename_i k hk; rw [hk] at h1; exact opAt_mark h1
theorem Asg.nob {p : P} (h : Asg p) (op : Bs) : NoB [61, 58] op p.name := NoB.free fun c hc => by
  have := odd_no h.name hc
  simp [this]
theorem put {b r : Bs} {c : UInt8} (h : cut [61, 58] (b ++ c :: r) = some b.length) : operA (b ++ c :: r) = opAt b c r := by
  unfold operA
  rw [h]
  show opAt ((b ++ c :: r).take b.length) ((b ++ c :: r).getD b.length 0) ((b ++ c :: r).drop (b.length + 1)) = _
  simp
/-- The mark behind a text that has none. -/
theorem oper_row {q o v : Bs} (ho : o ∈ marks) (hq : NoB [61, 58] [] q) (hs : st [] q = []) : operA (q ++ 32 :: (o ++ v)) = (q ++ [32], o, v) := by
  have hq2 : NoB [61, 58] [] (q ++ [32]) := hq.app (NoB.blank solid_eq (fun c hc => by simp at hc; subst hc; rfl))
  have hs2 : st [] (q ++ [32]) = [] := by rw [st_app, hs]; rfl
  have hm : ∀ d : UInt8, d = 63 ∨ d = 43 → NoB [61, 58] [] (q ++ [32, d]) ∧ st [] (q ++ [32, d]) = [] := fun d hd => by
    refine ⟨hq.app (NoB.free fun c hc => ?_), ?_⟩
    · rcases hd with rfl | rfl <;> simp at hc <;> rcases hc with rfl | rfl <;> rfl
    · rw [st_app, hs]; rcases hd with rfl | rfl <;> rfl
  rcases mark_ways ho with rfl | rfl | rfl | rfl
  · rw [show q ++ 32 :: ([61] ++ v) = (q ++ [32]) ++ 61 :: v by simp, put (cut_hit hq2 hs2 rfl)]
    unfold opAt
    simp
  · rw [show q ++ 32 :: ([58, 61] ++ v) = (q ++ [32]) ++ 58 :: 61 :: v by simp, put (cut_hit hq2 hs2 rfl)]
    unfold opAt
    simp
  · rw [show q ++ 32 :: ([63, 61] ++ v) = (q ++ [32, 63]) ++ 61 :: v by simp, put (cut_hit (hm 63 (.inl rfl)).1 (hm 63 (.inl rfl)).2 rfl)]
    unfold opAt
    simp [List.dropLast_append_of_ne_nil]
  · rw [show q ++ 32 :: ([43, 61] ++ v) = (q ++ [32, 43]) ++ 61 :: v by simp, put (cut_hit (hm 43 (.inr rfl)).1 (hm 43 (.inr rfl)).2 rfl)]
    unfold opAt
    simp [List.dropLast_append_of_ne_nil]
theorem trim_sp' {s : Bs} (h : trim s = s) : trim (s ++ [32]) = s := Mp.trim_sp.trans h
theorem Asg.trim {p : P} (h : Asg p) : trim p.name = p.name := trim_of
  (fun c hc => by have := odd_no h.name (List.mem_of_mem_head? hc); simp [this])
  (fun c hc => by have := odd_no h.name (List.mem_of_getLast? hc); simp [this])
theorem Asg.row {p : P} (h : Asg p) : assignA (arow p) = some p := by
  unfold assignA arow
  rw [show p.name ++ 32 :: p.op ++ tl p.value = p.name ++ 32 :: (p.op ++ tl p.value) by simp, oper_row h.op (h.nob _) h.brackets]
  unfold assignO
  have h1 : p.op ≠ [] := (mark_last h.op).2
  show (if p.op = [] then none else if Vp.trim (p.name ++ [32]) = [] then none else if oddA (Vp.trim (p.name ++ [32])) = true then none else some { zero with name := Vp.trim (p.name ++ [32]), op := p.op, value := Vp.trim (tl p.value) }) = _
  rw [trim_sp' h.trim, trim_tl h.value, if_neg h1, if_neg h.name0, if_neg (by rw [h.name]; exact Bool.false_ne_true)]
  exact congrArg some h.kind.symm
/-- A word before it: then it is none. -/
theorem assign_word {p : P} (h : Asg p) {w : Bs} (hw : NoB [61, 58] [] w) (hs : st [] w = []) (h0 : w ≠ []) (hd : Hd w) : assignA (w ++ 32 :: arow p) = none := by
  unfold assignA arow
  have hq : NoB [61, 58] [] (w ++ 32 :: p.name) := hw.app (NoB.cons rfl (h.nob _))
  have hqs : st [] (w ++ 32 :: p.name) = [] := by
    rw [st_app, hs]
    show st (Wp.next [] 32) p.name = []
    rw [next_blank (by decide)]; exact h.brackets
  rw [show w ++ 32 :: (p.name ++ 32 :: p.op ++ tl p.value) = (w ++ 32 :: p.name) ++ 32 :: (p.op ++ tl p.value) by simp, oper_row h.op hq hqs]
  have hlt : Lt (32 :: p.name) := Lt.cons (lt_of h.trim) h.name0
  have hwl : Vp.trim ((w ++ 32 :: p.name) ++ [32]) = w ++ 32 :: p.name := by
    refine trim_sp' (trim_of (hd.app h0) ?_)
    intro c hc
    refine hlt c ?_
    rw [List.getLast?_append] at hc
    cases hl : (32 :: p.name).getLast? with
    | none => simp at hl
    | some d => rw [hl] at hc; simpa using hc
  unfold assignO
  show (if p.op = [] then none else if Vp.trim ((w ++ 32 :: p.name) ++ [32]) = [] then none else if oddA (Vp.trim ((w ++ 32 :: p.name) ++ [32])) = true then none else some _) = none
  rw [hwl, if_neg (mark_last h.op).2, if_neg (by simp), if_pos]
  unfold oddA
  rw [List.any_eq_true]
  exact ⟨32, by simp, rfl⟩
/-- A word of letters. -/
def Wd (w : Bs) : Prop := w = oOver ∨ w = oExport ∨ w = oUnexport
theorem Wd.all {w : Bs} (h : Wd w) : (∀ c ∈ w, ([61, 58, 32, 9, 10, 40, 41, 123, 125, 35, 92] : Bs).contains c = false) ∧ w ≠ [] := by
  rcases h with rfl | rfl | rfl <;> refine ⟨?_, by simp [oOver, oExport, oUnexport]⟩ <;> decide
theorem Wd.ne {w : Bs} (h : Wd w) {c : UInt8} (hc : c ∈ w) : c ≠ 61 ∧ c ≠ 58 ∧ c ≠ 32 ∧ c ≠ 9 ∧ c ≠ 10 ∧ c ≠ 40 ∧ c ≠ 41 ∧ c ≠ 123 ∧ c ≠ 125 ∧ c ≠ 35 ∧ c ≠ 92 := by
  have := h.all.1 c hc; simpa using this
theorem st_letters {op : Bs} : ∀ {w : Bs}, (∀ c ∈ w, c ≠ 40 ∧ c ≠ 123 ∧ c ≠ 41 ∧ c ≠ 125) → st op w = op
  | [], _ => rfl
  | c :: w, h => by
    show st (Wp.next op c) w = op
    rw [next_plain (h c (by simp)), st_letters fun c hc => h c (by simp [hc])]
theorem Wd.st {w op : Bs} (h : Wd w) : st op w = op := st_letters fun c hc => by have := h.ne hc; exact ⟨this.2.2.2.2.2.1, this.2.2.2.2.2.2.2.1, this.2.2.2.2.2.2.1, this.2.2.2.2.2.2.2.2.1⟩
theorem Wd.nob {w op : Bs} (h : Wd w) : NoB [61, 58] op w := NoB.free fun c hc => by have := h.ne hc; simp [this]
theorem Wd.nob2 {w op : Bs} (h : Wd w) : NoB [32, 9] op w := NoB.free fun c hc => by have := h.ne hc; simp [this]
theorem Wd.hd {w : Bs} (h : Wd w) : Hd w := fun c hc => by have := h.ne (List.mem_of_mem_head? hc); simp [this]
theorem Wd.lt {w : Bs} (h : Wd w) : Lt w := fun c hc => by have := h.ne (List.mem_of_getLast? hc); simp [this]
theorem Wd.word {w r : Bs} (h : Wd w) : wordA (w ++ 32 :: r) = (w, r) := pair_hit h.nob2 h.st rfl
theorem Wd.word0 {w : Bs} (h : Wd w) : wordA w = (w, []) := pair_none h.nob2
theorem wd1 : Wd oOver := .inl rfl
theorem wd2 : Wd oExport := .inr (.inl rfl)
theorem wd3 : Wd oUnexport := .inr (.inr rfl)

/- What a part's row is read as. -/
theorem one_plain {p : P} (h : Asg p) (n : Nat) : oneA n (arow p) = some p := by
  unfold oneA; rw [h.row]
theorem one_over {p : P} (h : Asg p) (n : Nat) : oneA n (oOver ++ 32 :: arow p) = some { p with over := true } := by
  unfold oneA specialA
  rw [assign_word h wd1.nob wd1.st wd1.all.2 wd1.hd, wd1.word]
  show (if oOver = oOver then (assignA (arow p)).map (fun p : P => { p with over := true }) else _) = _
  rw [if_pos rfl, h.row]; rfl
theorem one_out {p : P} (h : Asg p) (n : Nat) : oneA n (oExport ++ 32 :: arow p) = some { p with out := true } := by
  unfold oneA specialA
  rw [assign_word h wd2.nob wd2.st wd2.all.2 wd2.hd, wd2.word]
  show (if oExport = oOver then _ else if oExport = oExport then (match assignA (arow p) with | some p => some { p with out := true } | none => namesA 2 (arow p)) else _) = _
  rw [if_neg (by decide), if_pos rfl, h.row]
theorem assign_none {s : Bs} (h : NoB [61, 58] [] s) : assignA s = none := by
  unfold assignA operA
  rw [cut_none h]; rfl
/-- Names. -/
structure Nms (p : P) (k : Nat) : Prop where
  kind : p = { zero with kind := k, needs := p.needs }
  nob : NoB [61, 58] [] p.needs
  trim : trim p.needs = p.needs
theorem Nms.of {s : Bs} {k : Nat} {p : P} (h : namesA k s = some p) : Nms p k := by
  unfold namesA at h
  split at h
  · cases h
  · rename_i h1
    obtain rfl := Option.some.inj h
    have h2 : NoB [58, 61] [] s := has_no.1 (by simpa using h1)
    exact ⟨rfl, (h2.trim).sub (fun c hc => by simp at hc ⊢; exact hc.symm), trim_trim _⟩
theorem Nms.names {p : P} {k : Nat} (h : Nms p k) : namesA k p.needs = some p := by
  unfold namesA
  rw [if_neg, show Mp.trim p.needs = p.needs from h.trim]
  · exact congrArg some h.kind.symm
  · rw [has_no.2 (h.nob.sub (fun c hc => by simp at hc ⊢; exact hc.symm))]; exact Bool.false_ne_true
theorem word_tl {w v : Bs} (h : Wd w) : wordA (w ++ tl v) = (w, v) := by
  unfold tl; split
  · rename_i h0; rw [List.append_nil, h0]; exact h.word0
  · exact h.word
theorem names_none {p : P} {k : Nat} (h : Nms p k) {w : Bs} (hw : Wd w) : assignA (w ++ tl p.needs) = none :=
  assign_none (hw.nob.app (by rw [hw.st]; exact h.nob.tl solid_eq))
theorem one_export {p : P} (h : Nms p 2) (n : Nat) : oneA n (oExport ++ tl p.needs) = some p := by
  unfold oneA specialA
  rw [names_none h wd2, word_tl wd2]
  show (if oExport = oOver then _ else if oExport = oExport then (match assignA p.needs with | some p => some { p with out := true } | none => namesA 2 p.needs) else _) = _
  rw [if_neg (by decide), if_pos rfl, assign_none h.nob]
  exact h.names
theorem one_unexport {p : P} (h : Nms p 3) (n : Nat) : oneA n (oUnexport ++ tl p.needs) = some p := by
  unfold oneA specialA
  rw [names_none h wd3, word_tl wd3]
  show (if oUnexport = oOver then _ else if oUnexport = oExport then _ else if oUnexport = oUnexport then namesA 3 p.needs else _) = _
  rw [if_neg (by decide), if_neg (by decide), if_pos rfl]
  exact h.names

/- Rules. -/
/-- What follows a rule's colon. -/
structure Rgt (p : P) : Prop where
  n1 : NoB [59] [] (brow p)
  n2 : NoB [61] [] (brow p)
  needs : trim p.needs = p.needs
  order : trim p.order = p.order
  pair : pairA [124] (brow p) = (if p.order = [] then (tl p.needs, []) else (tl p.needs ++ [32], 32 :: p.order))
theorem st_sp {op : Bs} : Wp.next op 32 = op := next_blank (by decide)
theorem solid59 : Solid [59] := fun c h => by rcases bl_ways h with rfl | rfl | rfl <;> rfl
theorem solid61 : Solid [61] := fun c h => by rcases bl_ways h with rfl | rfl | rfl <;> rfl
theorem solid124 : Solid [124] := fun c h => by rcases bl_ways h with rfl | rfl | rfl <;> rfl
theorem Rgt.of {p : P} {all : Bs} (h1 : NoB [59] [] all) (h2 : NoB [61] [] all) (hn : p.needs = trim (pairA [124] all).1) (ho : p.order = trim (pairA [124] all).2) : Rgt p := by
  have tn : trim p.needs = p.needs := by rw [hn]; exact trim_trim _
  have to' : trim p.order = p.order := by rw [ho]; exact trim_trim _
  rcases pair_ways [124] all with ⟨h3, h4⟩ | ⟨a, c, r, rfl, h3, h4, h5, h6⟩
  · rw [h4] at hn ho
    have ho' : p.order = [] := ho
    have hb : brow p = tl p.needs := by unfold brow ordT; rw [if_pos ho', List.append_nil]
    have hn' : p.needs = trim all := hn
    refine ⟨?_, ?_, tn, to', ?_⟩
    · rw [hb, hn']; exact h1.trim.tl solid59
    · rw [hb, hn']; exact h2.trim.tl solid61
    · rw [hb, if_pos ho']; refine pair_none ?_; rw [hn']; exact h3.trim.tl solid124
  · obtain rfl : c = 124 := by simpa using h5
    rw [h6] at hn ho
    have hn' : p.needs = trim a := hn
    have ho' : p.order = trim r := ho
    have s1 : st [] (tl p.needs) = [] := by rw [st_tl, hn', st_trim]; exact h4
    have e1 : ∀ {stops : Bs}, Solid stops → stops.contains 124 = false → NoB stops [] (a ++ 124 :: r) → NoB stops [] (brow p) := by
      intro stops hso hc hh
      have ha : NoB stops [] (tl p.needs) := by rw [hn']; exact hh.left.trim.tl hso
      have hr := hh.right
      rw [h4] at hr
      have hr2 : NoB stops [] r := by
        unfold NoB at hr ⊢
        rw [Wp.cutA_miss (fun e => by rw [hc] at e; cases e.2)] at hr
        exact cutA_shift hr
      refine ha.app ?_
      rw [s1]
      unfold ordT; split
      · exact NoB.nil _ _
      · refine NoB.cons (hso 32 (by decide)) ?_
        rw [st_sp]
        refine NoB.cons hc ?_
        rw [show Wp.next [] 124 = [] from rfl]
        refine NoB.cons (hso 32 (by decide)) ?_
        rw [st_sp, ho']; exact hr2.trim
    refine ⟨e1 solid59 rfl h1, e1 solid61 rfl h2, tn, to', ?_⟩
    unfold brow ordT
    split
    · rw [List.append_nil]; refine pair_none ?_; rw [hn']; exact h3.trim.tl solid124
    · rw [show tl p.needs ++ 32 :: 124 :: 32 :: p.order = (tl p.needs ++ [32]) ++ 124 :: (32 :: p.order) by simp]
      refine pair_hit ?_ ?_ rfl
      · refine NoB.app (by rw [hn']; exact h3.trim.tl solid124) ?_
        exact NoB.cons rfl (NoB.nil _ _)
      · rw [st_app, s1]; rfl
/-- A rule. -/
structure Rul (p : P) : Prop where
  kind : p = { zero with kind := 1, targets := p.targets, needs := p.needs, order := p.order, recipe := p.recipe }
  right : Rgt p
  t0 : p.targets ≠ []
  targets : trim p.targets = p.targets
  nob : NoB [58] [] p.targets
  brackets : st [] p.targets = []
theorem brow_head {p : P} {c : UInt8} (h : (brow p).head? = some c) : c = 32 := by
  unfold brow tl ordT at h
  split at h
  · split at h
    · cases h
    · exact (by simpa using h.symm)
  · exact (by simpa using h.symm)
theorem Rul.rule {p : P} (h : Rul p) (n : Nat) : ruleA n (p.targets ++ 58 :: brow p) = some { p with recipe := [] } := by
  unfold ruleA
  rw [cut_hit h.nob h.brackets rfl]
  show (if Vp.trim ((p.targets ++ 58 :: brow p).take p.targets.length) = [] then none else if ((p.targets ++ 58 :: brow p).drop (p.targets.length + 1)).head? = some 58 then none else ruleAt n (Vp.trim ((p.targets ++ 58 :: brow p).take p.targets.length)) ((p.targets ++ 58 :: brow p).drop (p.targets.length + 1))) = _
  have e1 : (p.targets ++ 58 :: brow p).take p.targets.length = p.targets := List.take_left
  have e2 : (p.targets ++ 58 :: brow p).drop (p.targets.length + 1) = brow p := by
    rw [← List.drop_drop, List.drop_left]; rfl
  rw [e1, e2, h.targets, if_neg h.t0, if_neg (fun e => absurd (brow_head e) (by decide))]
  unfold ruleAt
  rw [pair_none h.right.n1]
  show (if has [61] (brow p) = true then none else some { zero with kind := 1, targets := p.targets, needs := Vp.trim (pairA [124] (brow p)).1, order := Vp.trim (pairA [124] (brow p)).2, recipe := recA n (Vp.trim []) }) = _
  have e3 : Vp.trim (pairA [124] (brow p)).1 = p.needs ∧ Vp.trim (pairA [124] (brow p)).2 = p.order := by
    rw [h.right.pair]
    by_cases h0 : p.order = []
    · rw [if_pos h0, h0]; exact ⟨trim_tl h.right.needs, rfl⟩
    · rw [if_neg h0]; exact ⟨(Mp.trim_sp).trans (trim_tl h.right.needs), trim_lsp' h.right.order⟩
  rw [e3.1, e3.2, if_neg (by rw [has_no.2 h.right.n2]; exact Bool.false_ne_true)]
  have hk := h.kind
  show some ({ zero with kind := 1, targets := p.targets, needs := p.needs, order := p.order, recipe := [] } : P) = _
  conv => rhs; rw [hk]
theorem opAt_61 (b r : Bs) : opAt b 61 r = if b.getLast? = some 63 then (b.dropLast, [63, 61], r) else if b.getLast? = some 43 then (b.dropLast, [43, 61], r) else (b, [61], r) := by
  unfold opAt
  rw [if_neg (fun e => absurd e.1 (by decide)), if_neg (fun e => e rfl)]
theorem opAt_eq (b r r2 : Bs) : (opAt b 61 r).1 = (opAt b 61 r2).1 ∧ (opAt b 61 r).2.1 ≠ [] ∧ (opAt b 61 r2).2.1 ≠ [] := by
  rw [opAt_61, opAt_61]
  by_cases h1 : b.getLast? = some 63
  · rw [if_pos h1, if_pos h1]; exact ⟨rfl, by simp, by simp⟩
  · rw [if_neg h1, if_neg h1]
    by_cases h2 : b.getLast? = some 43
    · rw [if_pos h2, if_pos h2]; exact ⟨rfl, by simp, by simp⟩
    · rw [if_neg h2, if_neg h2]; exact ⟨rfl, by simp, by simp⟩
theorem assignO_none {o : Bs × Bs × Bs} (h : o.2.1 ≠ []) : assignO o = none ↔ (trim o.1 = [] ∨ oddA (trim o.1) = true) := by
  unfold assignO
  rw [if_neg h]
  by_cases h1 : Mp.trim o.1 = []
  · rw [if_pos h1]; exact ⟨fun _ => .inl h1, fun _ => rfl⟩
  · rw [if_neg h1]
    by_cases h2 : oddA (Mp.trim o.1) = true
    · rw [if_pos h2]; exact ⟨fun _ => .inr h2, fun _ => rfl⟩
    · rw [if_neg h2]
      exact ⟨fun e => (nomatch e), fun e => e.elim (fun e => absurd e h1) (fun e => absurd e h2)⟩
theorem Rul.assign {p : P} (h : Rul p) {x : Bs} (hT : assignA (p.targets ++ x) = none) : assignA (p.targets ++ 58 :: brow p) = none := by
  cases hc : cut [61, 58] p.targets with
  | none =>
    have hn : NoB [61, 58] [] p.targets := hc
    unfold assignA
    rw [put (cut_hit hn h.brackets rfl)]
    unfold opAt
    rw [if_neg (fun e => absurd (brow_head e.2) (by decide)), if_pos (by decide)]
    rfl
  | some j =>
    obtain ⟨a, c, r, ha, hl, h1, h2, h3⟩ := cut_split hc
    have hc61 : c = 61 := by
      have : c = 61 ∨ c = 58 := by simpa using h3
      rcases this with h | rfl
      · exact h
      · exfalso
        have hb := h.nob
        rw [ha] at hb
        have := hb.right
        rw [h2] at this
        exact this.miss ⟨rfl, rfl⟩
    subst hc61
    have hp : ∀ y, assignA (p.targets ++ y) = assignO (opAt a 61 (r ++ y)) := fun y => by
      rw [ha, List.append_assoc, List.cons_append]
      unfold assignA
      rw [put (cut_hit h1 h2 rfl)]
    rw [hp] at hT ⊢
    obtain ⟨e1, e2, e3⟩ := opAt_eq a (r ++ x) (r ++ 58 :: brow p)
    rw [assignO_none e2] at hT
    rw [assignO_none e3, ← e1]; exact hT
theorem Rul.word {p : P} (_ : Rul p) {x w : Bs} (hw : Wd w) (hT : (wordA (p.targets ++ x)).1 ≠ w) : (wordA (p.targets ++ 58 :: brow p)).1 ≠ w := by
  intro he
  refine hT ?_
  have h58 : (58 : UInt8) ∉ w := fun hc => (hw.ne hc).2.1 rfl
  unfold wordA at *
  rcases pair_ways [32, 9] (p.targets ++ 58 :: brow p) with ⟨_, h4⟩ | ⟨a, c, r, h1, h2, h3, h5, h6⟩
  · rw [h4] at he
    have he : p.targets ++ 58 :: brow p = w := he
    exact absurd (by rw [← he]; simp) h58
  · rw [h6] at he
    obtain rfl : a = w := he
    rcases List.append_eq_append_iff.1 h1 with ⟨a', h7, h8⟩ | ⟨c', h7, h8⟩
    · cases a' with
      | nil =>
        have : c = 58 := (List.cons.inj h8).1.symm
        subst this; cases h5
      | cons d a' =>
        have : d = 58 := (List.cons.inj h8).1.symm
        subst this
        exact absurd (by rw [h7]; simp) h58
    · cases c' with
      | nil =>
        have : c = 58 := (List.cons.inj h8).1
        subst this; cases h5
      | cons d c' =>
        have : c = d := (List.cons.inj h8).1
        subst this
        rw [h7, List.append_assoc, List.cons_append, pair_hit hw.nob2 hw.st h5]
theorem Rul.one {p : P} (h : Rul p) {x : Bs} (h1 : assignA (p.targets ++ x) = none) (h2 : ∀ w, Wd w → (wordA (p.targets ++ x)).1 ≠ w) (n : Nat) : oneA n (p.targets ++ 58 :: brow p) = some { p with recipe := [] } := by
  unfold oneA specialA
  rw [h.assign h1]
  show (if (wordA (p.targets ++ 58 :: brow p)).1 = oOver then _ else if (wordA (p.targets ++ 58 :: brow p)).1 = oExport then _ else if (wordA (p.targets ++ 58 :: brow p)).1 = oUnexport then _ else ruleA n (p.targets ++ 58 :: brow p)) = _
  rw [if_neg (h.word wd1 (h2 _ wd1)), if_neg (h.word wd2 (h2 _ wd2)), if_neg (h.word wd3 (h2 _ wd3))]
  exact h.rule n
theorem Rul.of {n : Nat} {s : Bs} {p : P} (hs : Hd s) (h : ruleA n s = some p) : Rul p ∧ (∃ x, s = p.targets ++ x) ∧ ∃ b, p.recipe = recA n (trim b) ∧ ∀ c ∈ b, c ∈ s := by
  unfold ruleA at h
  split at h
  · cases h
  · rename_i k hk
    obtain ⟨a, c, r, rfl, hl, h1, h2, h3⟩ := cut_split hk
    obtain rfl : c = 58 := by simpa using h3
    subst hl
    have e1 : (a ++ 58 :: r).take a.length = a := List.take_left
    have e2 : (a ++ 58 :: r).drop (a.length + 1) = r := by rw [← List.drop_drop, List.drop_left]; rfl
    rw [e1, e2] at h
    split at h
    · cases h
    · rename_i ht
      split at h
      · cases h
      · unfold ruleAt at h
        split at h
        · cases h
        · rename_i hq
          obtain rfl := Option.some.inj h
          have hn1 : NoB [59] [] (pairA [59] r).1 := by
            rcases pair_ways [59] r with ⟨h4, h5⟩ | ⟨a', c', r', _, h4, _, _, h5⟩ <;> rw [h5] <;> exact h4
          have hn2 : NoB [61] [] (pairA [59] r).1 := has_no.1 (by simpa using hq)
          have ha0 : a ≠ [] := fun e => ht (by rw [e]; rfl)
          obtain ⟨b1, b2, hb, hb1, hb2⟩ := trim_parts a
          have hb1' : b1 = [] := by
            cases b1 with
            | nil => rfl
            | cons d b1 =>
              exfalso
              have hd := hs d (by rw [hb]; rfl)
              rw [hb1 d (by simp)] at hd; cases hd
          rw [hb1', List.nil_append] at hb
          refine ⟨⟨rfl, Rgt.of hn1 hn2 rfl rfl, ht, trim_trim _, h1.trim, (st_trim _ _).trans h2⟩, ⟨b2 ++ 58 :: r, ?_⟩, (pairA [59] r).2, rfl, ?_⟩
          · show a ++ 58 :: r = trim a ++ (b2 ++ 58 :: r)
            rw [← List.append_assoc, ← hb]
          · intro c hc
            have := Mp.pair_sub.2 hc
            simp [this]
end Go.Proofs.YtjjlafbdhpojpaaDoor.Vp
