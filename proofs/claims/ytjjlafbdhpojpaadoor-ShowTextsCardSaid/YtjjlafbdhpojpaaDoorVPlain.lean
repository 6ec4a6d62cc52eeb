/-
  Parts as a makefile, in plain words; and that a makefile without a backslash is read again as the same parts.
-/
import Derived.Test.YtjjlafbdhpojpaaDoorMPlain
namespace Go.Proofs.YtjjlafbdhpojpaaDoor.Vp
set_option maxRecDepth 100000
abbrev Bs := List UInt8
abbrev trim := Ip.trim
open Mp (cut has operA opAt assignO assignA oddA namesA pairA recA ruleAt ruleA wordA specialA oneA partA P zero oOver oExport oUnexport marks)

/-- Each # with a backslash ahead. -/
def hashA (s : Bs) : Bs := s.flatMap fun c => if c = 35 then [92, 35] else [c]
/-- Each $ twice. -/
def dollarA (s : Bs) : Bs := s.flatMap fun c => if c = 36 then [36, 36] else [c]
/-- What may be left out, with a blank ahead. -/
def tl (v : Bs) : Bs := if v = [] then [] else 32 :: v
def ordT (v : Bs) : Bs := if v = [] then [] else 32 :: 124 :: 32 :: v
def arow (p : P) : Bs := p.name ++ 32 :: p.op ++ tl p.value
def brow (p : P) : Bs := tl p.needs ++ ordT p.order
/-- A part's row. -/
def rowA (p : P) : Bs :=
  if p.kind = 0 then (if p.over = true then oOver ++ 32 :: arow p else if p.out = true then oExport ++ 32 :: arow p else arow p)
  else if p.kind = 1 then p.targets ++ 58 :: brow p
  else if p.kind = 2 then oExport ++ tl p.needs
  else oUnexport ++ tl p.needs
def recT (x : Ip.L) : Bs := 9 :: x.t ++ [10]
def partT (p : P) : Bs := hashA (rowA p) ++ 10 :: p.recipe.flatMap recT
/-- Parts as a text. -/
def textA (l : List P) : Bs := l.flatMap partT

/-- A part without the numbers of its lines. -/
def bareL (x : Ip.L) : Ip.L := ⟨0, x.t, x.q⟩
def bareP (p : P) : P := { p with line := 0, recipe := p.recipe.map bareL }

/- Brackets that are open behind some bytes. -/
def st (op a : Bs) : Bs := a.foldl Wp.next op
theorem st_app (op a b : Bs) : st op (a ++ b) = st (st op a) b := List.foldl_append
theorem cutA_some {stops b : Bs} : ∀ {a op : Bs} {k i : Nat}, Wp.cutA stops op a k = some i → Wp.cutA stops op (a ++ b) k = some i
  | [], op, k, i, h => by rw [Wp.cutA_nil] at h; cases h
  | c :: a, op, k, i, h => by
    by_cases hh : op = [] ∧ stops.contains c = true
    · obtain ⟨rfl, hc⟩ := hh
      rw [Wp.cutA_hit hc] at h
      rw [List.cons_append, Wp.cutA_hit hc]; exact h
    · rw [Wp.cutA_miss hh] at h
      rw [List.cons_append, Wp.cutA_miss hh]; exact cutA_some h
theorem cutA_none {stops b : Bs} : ∀ {a op : Bs} {k : Nat}, Wp.cutA stops op a k = none → Wp.cutA stops op (a ++ b) k = Wp.cutA stops (st op a) b (k + a.length)
  | [], op, k, _ => rfl
  | c :: a, op, k, h => by
    by_cases hh : op = [] ∧ stops.contains c = true
    · obtain ⟨rfl, hc⟩ := hh
      rw [Wp.cutA_hit hc] at h; cases h
    · rw [Wp.cutA_miss hh] at h
      rw [List.cons_append, Wp.cutA_miss hh, cutA_none h, List.length_cons]
      show Wp.cutA stops (st (Wp.next op c) a) b _ = Wp.cutA stops (st op (c :: a)) b _
      congr 1; omega
/-- What precedes the byte that is found. -/
theorem cutA_pre {stops : Bs} : ∀ {t op : Bs} {k i : Nat}, Wp.cutA stops op t k = some i → Wp.cutA stops op (t.take (i - k)) k = none ∧ st op (t.take (i - k)) = []
  | [], op, k, i, h => by rw [Wp.cutA_nil] at h; cases h
  | c :: r, op, k, i, h => by
    by_cases hh : op = [] ∧ stops.contains c = true
    · obtain ⟨rfl, hc⟩ := hh
      rw [Wp.cutA_hit hc] at h
      obtain rfl := Option.some.inj h
      rw [Nat.sub_self, List.take_zero]
      exact ⟨Wp.cutA_nil _ _ _, rfl⟩
    · rw [Wp.cutA_miss hh] at h
      obtain ⟨h1, h2⟩ := cutA_pre h
      have h3 := Wp.cutA_lt h
      rw [show i - k = (i - (k + 1)) + 1 by omega, List.take_succ_cons]
      exact ⟨by rw [Wp.cutA_miss hh]; exact h1, h2⟩
theorem cutA_shift {stops : Bs} : ∀ {t op : Bs} {k j : Nat}, Wp.cutA stops op t k = none → Wp.cutA stops op t j = none
  | [], op, k, j, _ => Wp.cutA_nil _ _ _
  | c :: r, op, k, j, h => by
    by_cases hh : op = [] ∧ stops.contains c = true
    · obtain ⟨rfl, hc⟩ := hh
      rw [Wp.cutA_hit hc] at h; cases h
    · rw [Wp.cutA_miss hh] at h
      rw [Wp.cutA_miss hh]; exact cutA_shift h
/-- None of those bytes outside brackets. -/
def NoB (stops op t : Bs) : Prop := Wp.cutA stops op t 0 = none
theorem NoB.at {stops op t : Bs} (h : NoB stops op t) (k : Nat) : Wp.cutA stops op t k = none := cutA_shift h
theorem NoB.nil (stops op : Bs) : NoB stops op [] := Wp.cutA_nil _ _ _
theorem NoB.app {stops op a b : Bs} (h : NoB stops op a) (h2 : NoB stops (st op a) b) : NoB stops op (a ++ b) := by
  unfold NoB; rw [cutA_none h]; exact h2.at _
theorem NoB.left {stops op a b : Bs} (h : NoB stops op (a ++ b)) : NoB stops op a := by
  unfold NoB at *
  cases h1 : Wp.cutA stops op a 0 with
  | none => rfl
  | some i => rw [cutA_some h1] at h; cases h
theorem NoB.right {stops op a b : Bs} (h : NoB stops op (a ++ b)) : NoB stops (st op a) b := by
  have h1 := h.left
  unfold NoB at h
  rw [cutA_none h1] at h
  exact cutA_shift h
theorem NoB.cons {stops op r : Bs} {c : UInt8} (h : stops.contains c = false) (h2 : NoB stops (Wp.next op c) r) : NoB stops op (c :: r) := by
  unfold NoB
  rw [Wp.cutA_miss (fun e => by rw [h] at e; cases e.2)]
  exact h2.at _
theorem NoB.free {stops : Bs} : ∀ {t op : Bs}, (∀ c ∈ t, stops.contains c = false) → NoB stops op t
  | [], op, _ => NoB.nil _ _
  | c :: r, op, h => NoB.cons (h c (by simp)) (NoB.free fun c hc => h c (by simp [hc]))
theorem NoB.sub {stops s2 : Bs} (hs : ∀ c, s2.contains c = true → stops.contains c = true) : ∀ {t op : Bs}, NoB stops op t → NoB s2 op t
  | [], op, _ => NoB.nil _ _
  | c :: r, op, h => by
    by_cases hh : op = [] ∧ stops.contains c = true
    · obtain ⟨rfl, hc⟩ := hh
      unfold NoB at h
      rw [Wp.cutA_hit hc] at h; cases h
    · unfold NoB at h ⊢
      rw [Wp.cutA_miss hh] at h
      rw [Wp.cutA_miss (fun e => hh ⟨e.1, hs c e.2⟩)]
      have h2 : NoB stops (Wp.next op c) r := cutA_shift h
      exact (NoB.sub hs h2).at _
theorem NoB.miss {stops op r : Bs} {c : UInt8} (h : NoB stops op (c :: r)) : ¬ (op = [] ∧ stops.contains c = true) := by
  intro hh
  obtain ⟨rfl, hc⟩ := hh
  unfold NoB at h
  rw [Wp.cutA_hit hc] at h; cases h
theorem NoB.both {s1 s2 s3 : Bs} (hs : ∀ c, s3.contains c = true → s1.contains c = true ∨ s2.contains c = true) : ∀ {t op : Bs}, NoB s1 op t → NoB s2 op t → NoB s3 op t
  | [], op, _, _ => NoB.nil _ _
  | c :: r, op, h1, h2 => by
    have n1 := h1.miss
    have n2 := h2.miss
    have hm : ¬ (op = [] ∧ s3.contains c = true) := fun e => (hs c e.2).elim (fun h => n1 ⟨e.1, h⟩) (fun h => n2 ⟨e.1, h⟩)
    unfold NoB at h1 h2 ⊢
    rw [Wp.cutA_miss n1] at h1
    rw [Wp.cutA_miss n2] at h2
    rw [Wp.cutA_miss hm]
    have g1 : NoB s1 (Wp.next op c) r := cutA_shift h1
    have g2 : NoB s2 (Wp.next op c) r := cutA_shift h2
    exact (NoB.both hs g1 g2).at _
theorem cut_none {stops t : Bs} (h : NoB stops [] t) : cut stops t = none := h
theorem has_no {stops t : Bs} : has stops t = false ↔ NoB stops [] t := by
  unfold has NoB
  show (Wp.cutA stops [] t 0).isSome = false ↔ _
  cases Wp.cutA stops [] t 0 <;> simp
/-- The byte that is found, behind what has none. -/
theorem cut_hit {stops a r : Bs} {c : UInt8} (h : NoB stops [] a) (hs : st [] a = []) (hc : stops.contains c = true) : cut stops (a ++ c :: r) = some a.length := by
  show Wp.cutA stops [] (a ++ c :: r) 0 = _
  rw [cutA_none h, hs, Wp.cutA_hit hc, Nat.zero_add]
theorem cut_split {stops t : Bs} {k : Nat} (h : cut stops t = some k) : ∃ a c r, t = a ++ c :: r ∧ a.length = k ∧ NoB stops [] a ∧ st [] a = [] ∧ stops.contains c = true := by
  have h1 := cutA_pre (k := 0) h
  rw [Nat.sub_zero] at h1
  have h2 := Mp.cut_lt h
  have h3 := Mp.cut_hits h
  refine ⟨t.take k, t[k], t.drop (k + 1), ?_, by rw [List.length_take]; omega, h1.1, h1.2, ?_⟩
  · rw [← List.drop_eq_getElem_cons h2, List.take_append_drop]
  · rw [List.getD_eq_getElem?_getD, List.getElem?_eq_getElem h2] at h3
    simpa using h3
theorem pair_none {stops t : Bs} (h : NoB stops [] t) : pairA stops t = (t, []) := by
  unfold pairA; rw [cut_none h]
theorem pair_hit {stops a r : Bs} {c : UInt8} (h : NoB stops [] a) (hs : st [] a = []) (hc : stops.contains c = true) : pairA stops (a ++ c :: r) = (a, r) := by
  unfold pairA
  rw [cut_hit h hs hc]
  simp
theorem pair_ways (stops t : Bs) : (NoB stops [] t ∧ pairA stops t = (t, [])) ∨ ∃ a c r, t = a ++ c :: r ∧ NoB stops [] a ∧ st [] a = [] ∧ stops.contains c = true ∧ pairA stops t = (a, r) := by
  cases h : cut stops t with
  | none => exact .inl ⟨h, pair_none h⟩
  | some k =>
    obtain ⟨a, c, r, rfl, _, h1, h2, h3⟩ := cut_split h
    exact .inr ⟨a, c, r, rfl, h1, h2, h3, pair_hit h1 h2 h3⟩

/- Blanks. -/
def Bl (s : Bs) : Prop := ∀ c ∈ s, ([32, 9, 10] : Bs).contains c = true
theorem Bl.nil : Bl [] := fun _ h => by cases h
theorem bl_ways {c : UInt8} (h : ([32, 9, 10] : Bs).contains c = true) : c = 32 ∨ c = 9 ∨ c = 10 := by simpa using h
theorem next_blank {op : Bs} {c : UInt8} (h : ([32, 9, 10] : Bs).contains c = true) : Wp.next op c = op := by
  rcases bl_ways h with rfl | rfl | rfl <;> exact Wp.next_other (by decide) (by decide) (fun d _ e => by
    unfold Wp.close at e; split at e <;> revert e <;> decide)
theorem st_blank {op : Bs} : ∀ {s : Bs}, Bl s → st op s = op
  | [], _ => rfl
  | c :: s, h => by
    show st (Wp.next op c) s = op
    rw [next_blank (h c (by simp)), st_blank fun c hc => h c (by simp [hc])]
/-- Stops that are no blanks. -/
def Solid (stops : Bs) : Prop := ∀ c, ([32, 9, 10] : Bs).contains c = true → stops.contains c = false
theorem trim_parts (s : Bs) : ∃ a b, s = a ++ trim s ++ b ∧ Bl a ∧ Bl b := by
  have hl : ∀ t : Bs, ∃ a, t = a ++ t.dropWhile (fun c => ([32, 9, 10] : Bs).contains c) ∧ Bl a := by
    intro t
    induction t with
    | nil => exact ⟨[], rfl, Bl.nil⟩
    | cons c t ih =>
      rw [List.dropWhile_cons]
      split
      · rename_i hc
        obtain ⟨a, h1, h2⟩ := ih
        refine ⟨c :: a, by rw [List.cons_append, ← h1], fun d hd => ?_⟩
        rcases List.mem_cons.1 hd with rfl | hd
        · exact hc
        · exact h2 d hd
      · exact ⟨[], rfl, Bl.nil⟩
  obtain ⟨b, h1, h2⟩ := hl s.reverse
  obtain ⟨a, h3, h4⟩ := hl (Lib.trimRightS s [32, 9, 10])
  refine ⟨a, b.reverse, ?_, h4, fun c hc => h2 c (List.mem_reverse.1 hc)⟩
  have h5 : s = Lib.trimRightS s [32, 9, 10] ++ b.reverse := by
    have := congrArg List.reverse h1
    rw [List.reverse_reverse, List.reverse_append] at this
    exact this
  conv => lhs; rw [h5, h3]
  rfl
theorem NoB.blank {stops op s : Bs} (hs : Solid stops) (h : Bl s) : NoB stops op s := NoB.free fun c hc => hs c (h c hc)
theorem NoB.trim {stops op s : Bs} (h : NoB stops op s) : NoB stops op (trim s) := by
  obtain ⟨a, b, h1, h2, _⟩ := trim_parts s
  rw [h1] at h
  have := h.left.right
  rw [st_blank h2] at this
  exact this
theorem st_trim (op s : Bs) : st op (trim s) = st op s := by
  obtain ⟨a, b, h1, h2, h3⟩ := trim_parts s
  conv => rhs; rw [h1]
  rw [st_app, st_app, st_blank h3, st_blank h2]
/-- No blanks at the ends. -/
def Hd (s : Bs) : Prop := ∀ c, s.head? = some c → ([32, 9, 10] : Bs).contains c = false
def Lt (s : Bs) : Prop := ∀ c, s.getLast? = some c → ([32, 9, 10] : Bs).contains c = false
theorem hd_trim (s : Bs) : Hd (trim s) := fun _ hc => Ip.trim_head hc
theorem lt_trim (s : Bs) : Lt (trim s) := fun _ hc => Ip.trim_last hc
theorem trim_of {s : Bs} (h1 : Hd s) (h2 : Lt s) : trim s = s := Mp.trim_id h1 h2
theorem trim_trim (s : Bs) : trim (trim s) = trim s := trim_of (hd_trim s) (lt_trim s)
theorem hd_of {s : Bs} (h : trim s = s) : Hd s := h ▸ hd_trim s
theorem lt_of {s : Bs} (h : trim s = s) : Lt s := h ▸ lt_trim s
theorem Hd.app {a b : Bs} (h : Hd a) (h0 : a ≠ []) : Hd (a ++ b) := by
  cases a with
  | nil => exact absurd rfl h0
  | cons c a => exact h
theorem Lt.app {a b : Bs} (ha : Lt a) (hb : Lt b) : Lt (a ++ b) := by
  intro c hc
  rw [List.getLast?_append] at hc
  cases h : b.getLast? with
  | none => rw [h] at hc; exact ha c (by simpa using hc)
  | some d => rw [h] at hc; exact hb c (by rw [h]; simpa using hc)
theorem Lt.cons {c : UInt8} {b : Bs} (hb : Lt b) (h0 : b ≠ []) : Lt (c :: b) := by
  cases b with
  | nil => exact absurd rfl h0
  | cons d b => intro x hx; rw [List.getLast?_cons_cons] at hx; exact hb x hx
theorem tl_lt {v : Bs} (h : Lt v) : Lt (tl v) := by
  unfold tl; split
  · exact fun c hc => by cases hc
  · exact h.cons (by assumption)
theorem ord_lt {v : Bs} (h : Lt v) : Lt (ordT v) := by
  unfold ordT; split
  · exact fun c hc => by cases hc
  · exact ((h.cons (by assumption)).cons (by simp)).cons (by simp)
theorem trim_lsp' {v : Bs} (h : trim v = v) : trim (32 :: v) = v := Mp.trim_lsp (lt_of h) (hd_of h)
theorem trim_tl {v : Bs} (h : trim v = v) : trim (tl v) = v := by
  unfold tl; split
  · rename_i h0; rw [h0]; rfl
  · exact trim_lsp' h
theorem NoB.tl {stops v : Bs} (h : NoB stops [] v) (hs : Solid stops) : NoB stops [] (tl v) := by
  unfold Vp.tl; split
  · exact NoB.nil _ _
  · exact NoB.cons (hs 32 (by decide)) (by rw [next_blank (by decide)]; exact h)
theorem st_tl (v : Bs) : st [] (tl v) = st [] v := by
  unfold tl; split
  · rename_i h; rw [h]
  · show st (Wp.next [] 32) v = _
    rw [next_blank (by decide)]
end Go.Proofs.YtjjlafbdhpojpaaDoor.Vp
