/-
  Parts of a makefile without a backslash, shown, are read again as the same parts.
-/
import Derived.Test.YtjjlafbdhpojpaaDoorVPlain2
namespace Go.Proofs.YtjjlafbdhpojpaaDoor.Vp
set_option maxRecDepth 100000
open Mp (cut has operA opAt assignO assignA oddA namesA pairA recA ruleAt ruleA wordA specialA oneA partA P zero oOver oExport oUnexport marks)

/-- Bytes that a row may have. -/
def Cl (s : Bs) : Prop := ∀ c ∈ s, c ≠ 10 ∧ c ≠ 35 ∧ c ≠ 92
/-- A recipe's line. -/
structure RecL (x : Ip.L) : Prop where
  q : x.q = true
  t0 : x.t ≠ []
  t : trim x.t = x.t
  no : 10 ∉ x.t ∧ 92 ∉ x.t
/-- A part that is read again. -/
structure Good (p : P) : Prop where
  row : ∀ n, oneA n (rowA p) = some { p with line := 0, recipe := [] }
  trim : trim (rowA p) = rowA p
  row0 : rowA p ≠ []
  clean : Cl (rowA p)
  kind : p.kind ≤ 3
  rule : p.recipe ≠ [] → p.kind = 1
  recipe : ∀ x ∈ p.recipe, RecL x

theorem Cl.app {a b : Bs} (h : Cl a) (h2 : Cl b) : Cl (a ++ b) := fun c hc => (List.mem_append.1 hc).elim (h c) (h2 c)
theorem Cl.cons {c : UInt8} {b : Bs} (h : c ≠ 10 ∧ c ≠ 35 ∧ c ≠ 92) (h2 : Cl b) : Cl (c :: b) := fun d hd => by
  rcases List.mem_cons.1 hd with rfl | hd
  · exact h
  · exact h2 d hd
theorem Cl.nil : Cl [] := fun _ h => by cases h
theorem Cl.sub {a b : Bs} (h : Cl b) (hs : ∀ c ∈ a, c ∈ b) : Cl a := fun c hc => h c (hs c hc)
theorem Cl.tl {v : Bs} (h : Cl v) : Cl (tl v) := by
  unfold Vp.tl; split
  · exact Cl.nil
  · exact Cl.cons (by decide) h
theorem Cl.ord {v : Bs} (h : Cl v) : Cl (ordT v) := by
  unfold ordT; split
  · exact Cl.nil
  · exact Cl.cons (by decide) (Cl.cons (by decide) (Cl.cons (by decide) h))
theorem Wd.cl {w : Bs} (h : Wd w) : Cl w := fun c hc => by have := h.ne hc; exact ⟨this.2.2.2.2.1, this.2.2.2.2.2.2.2.2.2.1, this.2.2.2.2.2.2.2.2.2.2⟩
theorem mark_cl {o : Bs} (h : o ∈ marks) : Cl o := by
  rcases mark_ways h with rfl | rfl | rfl | rfl <;> intro c hc <;> simp at hc <;> (try rcases hc with rfl | rfl) <;> (try subst hc) <;> decide
/-- The bytes of what is read are those of the text. -/
theorem asg_sub {s : Bs} {p : P} (h : assignA s = some p) {c : UInt8} (hc : c ∈ p.name ∨ c ∈ p.value) : c ∈ s := by
  unfold assignA assignO at h
  split at h
  · cases h
  · split at h
    · cases h
    · split at h
      · cases h
      · obtain rfl := Option.some.inj h
        rcases hc with hc | hc
        · exact Mp.oper_sub (Ip.trim_sub hc)
        · have hc : c ∈ (operA s).2.2 := Ip.trim_sub hc
          unfold operA at hc
          split at hc
          · cases hc
          · unfold opAt at hc
            split at hc
            · exact List.mem_of_mem_drop (List.mem_of_mem_tail hc)
            · split at hc
              · cases hc
              · split at hc
                · exact List.mem_of_mem_drop hc
                · split at hc <;> exact List.mem_of_mem_drop hc
theorem arow_cl {s : Bs} {p : P} (h : assignA s = some p) (hs : Cl s) : Cl (arow p) := by
  have ha := Asg.of h
  unfold arow
  exact Cl.app (Cl.app (hs.sub fun c hc => asg_sub h (.inl hc)) (Cl.cons (by decide) (mark_cl ha.op))) (Cl.tl (hs.sub fun c hc => asg_sub h (.inr hc)))
theorem arow_trim {p : P} (h : Asg p) : trim (arow p) = arow p := by
  unfold arow
  refine trim_of ?_ ?_
  · rw [List.append_assoc]; exact (hd_of h.trim).app h.name0
  · exact ((lt_of h.trim).app ((mark_last h.op).1.cons (mark_last h.op).2)).app (tl_lt (lt_of h.value))
theorem arow_lt {p : P} (h : Asg p) : Lt (arow p) := lt_of (arow_trim h)
theorem arow_ne (p : P) : arow p ≠ [] := by unfold arow; simp
theorem word_trim {w v : Bs} (hw : Wd w) (hv : Lt v) : trim (w ++ 32 :: v) = w ++ 32 :: v ∨ v = [] := by
  by_cases h0 : v = []
  · exact .inr h0
  · exact .inl (trim_of (hw.hd.app hw.all.2) (hw.lt.app (hv.cons h0)))
theorem good_asg {s : Bs} {p : P} (h : assignA s = some p) (hs : Cl s) : Good p := by
  have ha := Asg.of h
  have hk : p.kind = 0 ∧ p.over = false ∧ p.out = false ∧ p.recipe = [] ∧ p.line = 0 := by rw [ha.kind]; exact ⟨rfl, rfl, rfl, rfl, rfl⟩
  have hr : rowA p = arow p := by unfold rowA; rw [if_pos hk.1, hk.2.1, hk.2.2.1, if_neg Bool.false_ne_true, if_neg Bool.false_ne_true]
  refine ⟨fun n => ?_, ?_, ?_, ?_, by rw [hk.1]; decide, fun h => absurd hk.2.2.2.1 h, fun x hx => by rw [hk.2.2.2.1] at hx; cases hx⟩
  · rw [hr, one_plain ha]; refine congrArg some ?_; rw [ha.kind]; rfl
  · rw [hr]; exact arow_trim ha
  · rw [hr]; exact arow_ne p
  · rw [hr]; exact arow_cl h hs
theorem good_over {s : Bs} {q : P} (h : assignA s = some q) (hs : Cl s) : Good { q with over := true } := by
  have ha := Asg.of h
  have hk : q.kind = 0 ∧ q.recipe = [] ∧ q.line = 0 := by rw [ha.kind]; exact ⟨rfl, rfl, rfl⟩
  have hr : rowA { q with over := true } = oOver ++ 32 :: arow q := by
    unfold rowA
    show (if q.kind = 0 then (if true = true then oOver ++ 32 :: arow q else _) else _) = _
    rw [if_pos hk.1, if_pos rfl]
  refine ⟨fun n => ?_, ?_, ?_, ?_, by show q.kind ≤ 3; rw [hk.1]; decide, fun h => absurd hk.2.1 h, fun x hx => by have hx : x ∈ q.recipe := hx; rw [hk.2.1] at hx; cases hx⟩
  · rw [hr, one_over ha]; refine congrArg some ?_; rw [ha.kind]; rfl
  · rw [hr]; exact (word_trim wd1 (arow_lt ha)).resolve_right (arow_ne q)
  · rw [hr]; simp [oOver]
  · rw [hr]; exact wd1.cl.app (Cl.cons (by decide) (arow_cl h hs))
theorem good_out {s : Bs} {q : P} (h : assignA s = some q) (hs : Cl s) : Good { q with out := true } := by
  have ha := Asg.of h
  have hk : q.kind = 0 ∧ q.recipe = [] ∧ q.line = 0 ∧ q.over = false := by rw [ha.kind]; exact ⟨rfl, rfl, rfl, rfl⟩
  have hr : rowA { q with out := true } = oExport ++ 32 :: arow q := by
    unfold rowA
    show (if q.kind = 0 then (if q.over = true then _ else if true = true then oExport ++ 32 :: arow q else _) else _) = _
    rw [if_pos hk.1, hk.2.2.2, if_neg Bool.false_ne_true, if_pos rfl]
  refine ⟨fun n => ?_, ?_, ?_, ?_, by show q.kind ≤ 3; rw [hk.1]; decide, fun h => absurd hk.2.1 h, fun x hx => by have hx : x ∈ q.recipe := hx; rw [hk.2.1] at hx; cases hx⟩
  · rw [hr, one_out ha]; refine congrArg some ?_; rw [ha.kind]; rfl
  · rw [hr]; exact (word_trim wd2 (arow_lt ha)).resolve_right (arow_ne q)
  · rw [hr]; simp [oExport]
  · rw [hr]; exact wd2.cl.app (Cl.cons (by decide) (arow_cl h hs))
theorem names_sub {s : Bs} {k : Nat} {p : P} (h : namesA k s = some p) {c : UInt8} (hc : c ∈ p.needs) : c ∈ s := by
  unfold namesA at h
  split at h
  · cases h
  · obtain rfl := Option.some.inj h
    exact Ip.trim_sub hc
theorem tl_trim {w v : Bs} (hw : Wd w) (hv : trim v = v) : trim (w ++ tl v) = w ++ tl v :=
  trim_of (hw.hd.app hw.all.2) (hw.lt.app (tl_lt (lt_of hv)))
theorem good_names {s : Bs} {k : Nat} {p : P} (hk : k = 2 ∨ k = 3) (h : namesA k s = some p) (hs : Cl s) : Good p := by
  have ha := Nms.of h
  have hp : p.kind = k ∧ p.recipe = [] ∧ p.line = 0 := by rw [ha.kind]; exact ⟨rfl, rfl, rfl⟩
  have hc : Cl p.needs := hs.sub fun c hc => names_sub h hc
  rcases hk with rfl | rfl
  · have hr : rowA p = oExport ++ tl p.needs := by
      unfold rowA
      rw [hp.1, if_neg (by decide), if_neg (by decide), if_pos rfl]
    refine ⟨fun n => ?_, ?_, ?_, ?_, by rw [hp.1]; decide, fun h => absurd hp.2.1 h, fun x hx => by rw [hp.2.1] at hx; cases hx⟩
    · rw [hr, one_export ha]; refine congrArg some ?_; rw [ha.kind]; rfl
    · rw [hr]; exact tl_trim wd2 ha.trim
    · rw [hr]; simp [oExport]
    · rw [hr]; exact wd2.cl.app hc.tl
  · have hr : rowA p = oUnexport ++ tl p.needs := by
      unfold rowA
      rw [hp.1, if_neg (by decide), if_neg (by decide), if_neg (by decide)]
    refine ⟨fun n => ?_, ?_, ?_, ?_, by rw [hp.1]; decide, fun h => absurd hp.2.1 h, fun x hx => by rw [hp.2.1] at hx; cases hx⟩
    · rw [hr, one_unexport ha]; refine congrArg some ?_; rw [ha.kind]; rfl
    · rw [hr]; exact tl_trim wd3 ha.trim
    · rw [hr]; simp [oUnexport]
    · rw [hr]; exact wd3.cl.app hc.tl
theorem rule_sub {n : Nat} {s : Bs} {p : P} (h : ruleA n s = some p) {c : UInt8} (hc : c ∈ p.targets ∨ c ∈ p.needs ∨ c ∈ p.order) : c ∈ s := by
  unfold ruleA at h
  split at h
  · cases h
  · split at h
    · cases h
    · split at h
      · cases h
      · unfold ruleAt at h
        split at h
        · cases h
        · obtain rfl := Option.some.inj h
          rcases hc with hc | hc | hc
          · exact List.mem_of_mem_take (Ip.trim_sub hc)
          · exact List.mem_of_mem_drop (Mp.pair_sub.1 (Mp.pair_sub.1 (Ip.trim_sub hc)))
          · exact List.mem_of_mem_drop (Mp.pair_sub.1 (Mp.pair_sub.2 (Ip.trim_sub hc)))
theorem good_rule {n : Nat} {s : Bs} {p : P} (h1 : assignA s = none) (h2 : ∀ w, Wd w → (wordA s).1 ≠ w) (h : ruleA n s = some p) (hd : Hd s) (hs : Cl s) : Good p := by
  obtain ⟨ha, ⟨x, hx⟩, b, hb, hbs⟩ := Rul.of hd h
  have hk : p.kind = 1 ∧ p.line = 0 := by rw [ha.kind]; exact ⟨rfl, rfl⟩
  have hr : rowA p = p.targets ++ 58 :: brow p := by
    unfold rowA
    rw [hk.1, if_neg (by decide), if_pos rfl]
  have hc : ∀ {v : Bs}, (∀ c ∈ v, c ∈ p.targets ∨ c ∈ p.needs ∨ c ∈ p.order) → Cl v := fun hv => hs.sub fun c hc => rule_sub h (hv c hc)
  refine ⟨fun n => ?_, ?_, ?_, ?_, by rw [hk.1]; decide, fun _ => hk.1, fun y hy => ?_⟩
  · rw [hr]
    have := ha.one (x := x) (by rw [← hx]; exact h1) (by rw [← hx]; exact h2) n
    rw [this]; refine congrArg some ?_; rw [ha.kind]; rfl
  · rw [hr]
    refine trim_of ((hd_of ha.targets).app ha.t0) ((lt_of ha.targets).app ?_)
    unfold brow
    have hb2 : Lt (tl p.needs ++ ordT p.order) := (tl_lt (lt_of ha.right.needs)).app (ord_lt (lt_of ha.right.order))
    by_cases h0 : tl p.needs ++ ordT p.order = []
    · rw [h0]; intro c hc; obtain rfl : 58 = c := by simpa using hc
      rfl
    · exact hb2.cons h0
  · rw [hr]; simp
  · rw [hr]
    exact (hc fun c h => .inl h).app (Cl.cons (by decide) ((hc fun c h => .inr (.inl h)).tl.app (hc fun c h => .inr (.inr h)).ord))
  · rw [hb] at hy
    unfold recA at hy
    split at hy
    · cases hy
    · rename_i h0
      obtain rfl := List.mem_singleton.1 hy
      have hcl : ∀ c ∈ trim b, c ≠ 10 ∧ c ≠ 35 ∧ c ≠ 92 := fun c hc => hs c (hbs c (Ip.trim_sub hc))
      exact ⟨rfl, h0, trim_trim b, fun h => (hcl _ h).1 rfl, fun h => (hcl _ h).2.2 rfl⟩
theorem Good.line {p : P} (h : Good p) (n : Nat) : Good { p with line := n } := ⟨h.row, h.trim, h.row0, h.clean, h.kind, h.rule, h.recipe⟩
theorem good_part {n : Nat} {s : Bs} {p : P} (h : partA n s = some p) (hd : Hd s) (hs : Cl s) : Good p := by
  unfold partA at h
  rw [Option.map_eq_some_iff] at h
  obtain ⟨q, h, rfl⟩ := h
  refine Good.line ?_ n
  unfold oneA at h
  split at h
  · rename_i p1 h1
    obtain rfl := Option.some.inj h
    exact good_asg h1 hs
  · rename_i h1
    have hr : Cl (wordA s).2 := hs.sub fun c hc => Mp.pair_sub.2 hc
    unfold specialA at h
    split at h
    · rw [Option.map_eq_some_iff] at h
      obtain ⟨q, h, rfl⟩ := h
      exact good_over h hr
    · rename_i n1
      split at h
      · split at h
        · rename_i q h2
          obtain rfl := Option.some.inj h
          exact good_out h2 hr
        · exact good_names (.inl rfl) h hr
      · rename_i n2
        split at h
        · exact good_names (.inr rfl) h hr
        · rename_i n3
          refine good_rule h1 (fun w hw => ?_) h hd hs
          rcases hw with rfl | rfl | rfl
          · exact n1
          · exact n2
          · exact n3

/- The lines of a text without a backslash. -/
theorem rows_sub : ∀ {s : Bs} {x : Bs} {c : UInt8}, x ∈ Ip.rows s → c ∈ x → c ∈ s
  | [], x, c, h, hc => by
    have : x = [] := by simpa [Ip.rows] using h
    subst this; exact hc
  | d :: r, x, c, h, hc => by
    by_cases hd : d = 10
    · rw [hd, Ip.rows_nl] at h
      rcases List.mem_cons.1 h with rfl | h
      · cases hc
      · exact List.mem_cons_of_mem _ (rows_sub h hc)
    · cases hr : Ip.rows r with
      | nil => exact absurd hr (Ip.rows_ne r)
      | cons y l =>
        rw [Ip.rows_ch hd hr] at h
        rcases List.mem_cons.1 h with rfl | h
        · rcases List.mem_cons.1 hc with rfl | hc
          · simp
          · exact List.mem_cons_of_mem _ (rows_sub (x := y) (by rw [hr]; simp) hc)
        · exact List.mem_cons_of_mem _ (rows_sub (x := x) (by rw [hr]; simp [h]) hc)
theorem add_sub {a t : Bs} {c : UInt8} (h : c ∈ Ip.addA a t) : c ∈ a ∨ c ∈ t ∨ c = 32 := by
  unfold Ip.addA at h
  split at h
  · exact .inl h
  · split at h
    · exact .inr (.inl h)
    · rcases List.mem_append.1 h with h | h
      · exact .inl h
      · rcases List.mem_cons.1 h with h | h
        · exact .inr (.inr h)
        · exact .inr (.inl h)
theorem bare_no : ∀ {t acc : Bs}, 92 ∉ acc → 92 ∉ t → 35 ∉ acc → 35 ∉ Ip.bareA acc t
  | [], acc, _, _, h => h
  | x :: r, acc, h1, h2, h3 => by
    unfold Ip.bareA
    have hl : acc.getLast? ≠ some 92 := fun e => h1 (List.mem_of_getLast? e)
    rw [if_neg hl]
    split
    · exact h3
    · rename_i hx
      refine bare_no (fun h => ?_) (fun h => h2 (List.mem_cons_of_mem _ h)) (fun h => ?_)
      · rcases List.mem_append.1 h with h | h
        · exact h1 h
        · exact h2 (by simp at h; simp [h])
      · rcases List.mem_append.1 h with h | h
        · exact h3 h
        · exact hx (by simpa using (List.mem_singleton.1 h).symm)
/-- What a line is, of such a text. -/
structure Ln (x : Ip.L) : Prop where
  t0 : x.t ≠ []
  t : trim x.t = x.t
  no : 10 ∉ x.t ∧ 92 ∉ x.t
  q : x.q = false → 35 ∉ x.t
theorem trim_add {a t : Bs} (ha : trim a = a) (ht : trim t = t) : trim (Ip.addA a t) = Ip.addA a t := by
  unfold Ip.addA
  split
  · exact ha
  · split
    · exact ht
    · rename_i h1 h2
      exact trim_of ((hd_of ha).app h2) ((lt_of ha).app ((lt_of ht).cons h1))
theorem go_ln : ∀ (R : List Bs) (k n : Nat) (q : Bool) (acc : Bs), (∀ r ∈ R, 10 ∉ r ∧ 92 ∉ r) → trim acc = acc → 10 ∉ acc ∧ 92 ∉ acc → ∀ x ∈ Ip.goA k n q acc R, Ln x
  | [], _, _, _, _, _, _, _ => by simp [Ip.goA]
  | r :: rest, k, n, q, acc, hR, ha, hn => by
    have hr := hR r (by simp)
    have hrest := fun y hy => hR y (List.mem_cons_of_mem _ hy)
    have hno : ∀ {t : Bs}, (∀ c ∈ t, c ∈ r) → 10 ∉ Ip.addA acc (trim t) ∧ 92 ∉ Ip.addA acc (trim t) := fun ht => by
      refine ⟨fun h => ?_, fun h => ?_⟩ <;> rcases add_sub h with h | h | h
      · exact hn.1 h
      · exact hr.1 (ht _ (Ip.trim_sub h))
      · revert h; decide
      · exact hn.2 h
      · exact hr.2 (ht _ (Ip.trim_sub h))
      · revert h; decide
    cases h : Ip.more r rest with
    | true =>
      rw [Ip.goA_more h]
      exact go_ln rest _ _ _ _ hrest (trim_add ha (trim_trim _)) (hno fun c hc => List.dropLast_subset _ hc)
    | false =>
      rw [Ip.goA_last h]
      intro x hx
      rcases List.mem_append.1 hx with hx | hx
      · obtain ⟨rfl, h0⟩ := Ip.mem_emit hx
        have h2 := hno (t := r) fun c hc => hc
        have ht := trim_add ha (trim_trim r)
        cases q with
        | true => exact ⟨h0, ht, h2, fun e => by cases e⟩
        | false =>
          have h3 : ∀ c ∈ trim (Ip.bareA [] (Ip.addA acc (trim r))), c ∈ Ip.addA acc (trim r) ∨ c = 35 := fun c hc => by
            rcases Ip.bareA_sub (Ip.trim_sub hc) with h | h | h
            · cases h
            · exact .inl h
            · exact .inr h
          refine ⟨h0, trim_trim _, ⟨fun h => ?_, fun h => ?_⟩, fun _ h => ?_⟩
          · rcases h3 _ h with h | h
            · exact h2.1 h
            · revert h; decide
          · rcases h3 _ h with h | h
            · exact h2.2 h
            · revert h; decide
          · exact bare_no (acc := []) (by simp) h2.2 (by simp) (Ip.trim_sub h)
      · exact go_ln rest _ _ _ _ hrest rfl (by simp) x hx
theorem lines_ln {s : Bs} (h : 92 ∉ s) {x : Ip.L} (hx : x ∈ Ip.linesA s) : Ln x :=
  go_ln _ _ _ _ _ (fun _ hr => ⟨Ip.rows_no hr, fun hc => h (rows_sub hr hc)⟩) rfl (by simp) x hx
theorem Ln.cl {x : Ip.L} (h : Ln x) (hq : x.q = false) : Cl x.t := fun _ hc => ⟨fun e => h.no.1 (e ▸ hc), fun e => h.q hq (e ▸ hc), fun e => h.no.2 (e ▸ hc)⟩

/- All parts are good. -/
theorem good_rec {p : P} (h : Good p) (hk : p.kind = 1) {x : Ip.L} (hx : RecL x) : Good { p with recipe := p.recipe ++ [x] } :=
  ⟨h.row, h.trim, h.row0, h.clean, h.kind, fun _ => hk, fun y hy => by
    rcases List.mem_append.1 hy with hy | hy
    · exact h.recipe y hy
    · obtain rfl := List.mem_singleton.1 hy; exact hx⟩
theorem good_add {l m : List P} {x : Ip.L} (hl : ∀ p ∈ l, Good p) (hx : Ln x) (h : Mp.addA l x = some m) : ∀ p ∈ m, Good p := by
  unfold Mp.addA at h
  split at h
  · rename_i hq
    split at h
    · rename_i p hp
      split at h
      · rename_i hk
        obtain rfl := Option.some.inj h
        intro q hqm
        rcases List.mem_append.1 hqm with hqm | hqm
        · exact hl q (List.dropLast_subset _ hqm)
        · obtain rfl := List.mem_singleton.1 hqm
          exact good_rec (hl p (List.mem_of_getLast? hp)) hk ⟨hq, hx.t0, hx.t, hx.no⟩
      · cases h
    · cases h
  · rename_i hq
    rw [Option.map_eq_some_iff] at h
    obtain ⟨p, h, rfl⟩ := h
    intro q hqm
    rcases List.mem_append.1 hqm with hqm | hqm
    · exact hl q hqm
    · obtain rfl := List.mem_singleton.1 hqm
      exact good_part h (hd_of hx.t) (hx.cl (by simpa using hq))
theorem good_go : ∀ {R : List Ip.L} {l m : List P}, (∀ x ∈ R, Ln x) → (∀ p ∈ l, Good p) → Mp.goA l R = .ok m → ∀ p ∈ m, Good p
  | [], l, m, _, hl, h => by
    have : l = m := by simpa [Mp.goA] using h
    subst this; exact hl
  | x :: R, l, m, hR, hl, h => by
    unfold Mp.goA at h
    split at h
    · cases h
    · rename_i l2 h2
      exact good_go (fun y hy => hR y (List.mem_cons_of_mem _ hy)) (good_add hl (hR x (by simp)) h2) h
theorem good_parts {s : Bs} {l : List P} (h : 92 ∉ s) (hp : Mp.partsA s = .ok l) : ∀ p ∈ l, Good p := good_go (fun _ hx => lines_ln h hx) (by simp) hp

/- What is shown. -/
theorem hash_no {s : Bs} (h : 35 ∉ s) : hashA s = s := by
  induction s with
  | nil => rfl
  | cons c s ih =>
    have hc : ¬ c = 35 := fun e => h (by simp [e])
    unfold hashA at *
    rw [List.flatMap_cons, if_neg hc, ih (fun h' => h (List.mem_cons_of_mem _ h'))]; rfl
def rl (k : Nat) : List Ip.L → List Ip.L
  | [] => []
  | x :: r => ⟨k, x.t, true⟩ :: rl (k + 1) r
def lns (k : Nat) : List P → List Ip.L
  | [] => []
  | p :: l => ⟨k, rowA p, false⟩ :: (rl (k + 1) p.recipe ++ lns (k + 1 + p.recipe.length) l)
def nps (k : Nat) : List P → List P
  | [] => []
  | p :: l => { p with line := k, recipe := rl (k + 1) p.recipe } :: nps (k + 1 + p.recipe.length) l
/-- The rows that are shown. -/
def rrows (p : P) : List Bs := rowA p :: p.recipe.map fun x => 9 :: x.t
theorem rec_rows : ∀ l : List Ip.L, l.flatMap recT = (l.map fun x => 9 :: x.t).flatMap (· ++ [10])
  | [] => rfl
  | x :: l => by rw [List.flatMap_cons, rec_rows l]; rfl
theorem text_rows {l : List P} (h : ∀ p ∈ l, Good p) : textA l = (l.flatMap rrows).flatMap (· ++ [10]) := by
  induction l with
  | nil => rfl
  | cons p l ih =>
    unfold textA at *
    rw [List.flatMap_cons, ih (fun p hp => h p (List.mem_cons_of_mem _ hp)), List.flatMap_cons, List.flatMap_append]
    congr 1
    unfold partT rrows
    rw [hash_no (fun hc => ((h p (by simp)).clean _ hc).2.1 rfl), rec_rows, List.flatMap_cons]
    simp
theorem rows_of : ∀ {R : List Bs}, (∀ r ∈ R, 10 ∉ r) → Ip.rows (R.flatMap (· ++ [10])) = R ++ [[]]
  | [], _ => rfl
  | r :: R, h => by
    rw [List.flatMap_cons, List.append_assoc, List.singleton_append, Ip.rows_cut (h r (by simp)), rows_of fun r hr => h r (List.mem_cons_of_mem _ hr)]; rfl
theorem go_row {k : Nat} {q : Bool} {r : Bs} {R : List Bs} (h : 92 ∉ r) : Ip.goA k k q [] (r :: R) = Ip.emit k q (trim r) ++ Ip.goA (k + 1) (k + 1) (Ip.tab (R.headD [])) [] R := by
  rw [Ip.goA_last]
  · congr 2
    unfold Ip.addA
    split
    · rename_i h0; exact h0.symm
    · exact if_pos rfl
  · unfold Ip.more
    have : (r.getLast? == some 92) = false := by
      rw [beq_eq_false_iff_ne]; exact fun e => h (List.mem_of_getLast? e)
    rw [this, Bool.and_false]
theorem trim_tab {t : Bs} (h : trim t = t) (h0 : t ≠ []) : trim (9 :: t) = t := by
  have e1 : Lib.trimRightS (9 :: t) [32, 9, 10] = 9 :: t := by
    unfold Lib.trimRightS
    rw [Ip.dw_same, List.reverse_reverse]
    intro c hc
    rw [List.head?_reverse] at hc
    exact ((lt_of h).cons h0) c hc
  show Lib.trimLeftS (Lib.trimRightS (9 :: t) [32, 9, 10]) [32, 9, 10] = t
  rw [e1]
  show (9 :: t).dropWhile _ = _
  rw [List.dropWhile_cons, if_pos (by rfl)]
  exact Ip.dw_same (hd_of h)
theorem go_recs {tail : List Bs} : ∀ {l : List Ip.L} {k : Nat} {q : Bool}, (∀ x ∈ l, RecL x) → q = Ip.tab (((l.map fun x => 9 :: x.t) ++ tail).headD []) →
    Ip.goA k k q [] ((l.map fun x => 9 :: x.t) ++ tail) = rl k l ++ Ip.goA (k + l.length) (k + l.length) (Ip.tab (tail.headD [])) [] tail
  | [], k, q, _, hq => by subst hq; rfl
  | x :: l, k, q, h, hq => by
    have hx := h x (by simp)
    have hq1 : q = true := by rw [hq]; rfl
    subst hq1
    rw [List.map_cons, List.cons_append, go_row (r := 9 :: x.t) (by
      intro hc
      rcases List.mem_cons.1 hc with hc | hc
      · revert hc; decide
      · exact hx.no.2 hc), trim_tab hx.t hx.t0, go_recs (fun y hy => h y (List.mem_cons_of_mem _ hy)) rfl]
    have he : Ip.emit k true x.t = [⟨k, x.t, true⟩] := by
      unfold Ip.emit
      show (if x.t = [] then [] else [(⟨k, x.t, true⟩ : Ip.L)]) = _
      rw [if_neg hx.t0]
    rw [he, List.length_cons, show k + (l.length + 1) = k + 1 + l.length by omega]
    rfl
theorem bare_id {t : Bs} (h : 35 ∉ t) (ht : trim t = t) : Ip.textA false t = t := by
  show trim (Ip.bareA [] t) = t
  rw [Ip.bareA_all h]; exact ht
theorem tab_row {p : P} (h : Good p) : Ip.tab (rowA p) = false := by
  unfold Ip.tab
  rw [beq_eq_false_iff_ne]
  intro e
  have := hd_of h.trim 9 e
  revert this; decide
theorem go_parts : ∀ {l : List P} {k : Nat} {q : Bool}, (∀ p ∈ l, Good p) → q = Ip.tab (((l.flatMap rrows) ++ [[]]).headD []) → Ip.goA k k q [] ((l.flatMap rrows) ++ [[]]) = lns k l
  | [], k, q, _, hq => by
    subst hq
    show Ip.goA k k _ [] [[]] = []
    rw [go_row (by simp)]
    rfl
  | p :: l, k, q, h, hq => by
    have hp := h p (by simp)
    have hq1 : q = false := by rw [hq]; exact tab_row hp
    subst hq1
    rw [List.flatMap_cons, List.append_assoc, show rrows p = rowA p :: p.recipe.map fun x => 9 :: x.t from rfl, List.cons_append, go_row (fun hc => (hp.clean _ hc).2.2 rfl), hp.trim,
      go_recs hp.recipe rfl, go_parts (fun p hp => h p (List.mem_cons_of_mem _ hp)) rfl]
    have he : Ip.emit k false (rowA p) = [⟨k, rowA p, false⟩] := by
      unfold Ip.emit
      rw [bare_id (fun hc => (hp.clean _ hc).2.1 rfl) hp.trim, if_neg hp.row0]
    rw [he]
    rfl
theorem row_no {l : List P} (h : ∀ p ∈ l, Good p) : ∀ r ∈ l.flatMap rrows, 10 ∉ r := by
  intro r hr
  obtain ⟨p, hp, hr⟩ := List.mem_flatMap.1 hr
  rcases List.mem_cons.1 hr with rfl | hr
  · exact fun hc => ((h p hp).clean _ hc).1 rfl
  · obtain ⟨x, hx, rfl⟩ := List.mem_map.1 hr
    intro hc
    rcases List.mem_cons.1 hc with hc | hc
    · revert hc; decide
    · exact ((h p hp).recipe x hx).no.1 hc
/-- The lines of what is shown. -/
theorem shown_lines {l : List P} (h : ∀ p ∈ l, Good p) : Ip.linesA (textA l) = lns 1 l := by
  unfold Ip.linesA
  rw [text_rows h, rows_of (row_no h)]
  exact go_parts h rfl
theorem rl_all : ∀ {l : List Ip.L} {k : Nat}, ∀ x ∈ rl k l, x.q = true
  | [], _, _, h => by cases h
  | y :: l, k, x, h => by
    rcases List.mem_cons.1 h with rfl | h
    · rfl
    · exact rl_all x h
theorem go_recipe {tail : List Ip.L} : ∀ {R : List Ip.L} {acc : List P} {p : P}, p.kind = 1 → (∀ x ∈ R, x.q = true) → Mp.goA (acc ++ [p]) (R ++ tail) = Mp.goA (acc ++ [{ p with recipe := p.recipe ++ R }]) tail
  | [], acc, p, _, _ => by rw [List.nil_append, List.append_nil]
  | x :: R, acc, p, hk, hR => by
    rw [List.cons_append]
    conv => lhs; unfold Mp.goA
    have ha : Mp.addA (acc ++ [p]) x = some (acc ++ [{ p with recipe := p.recipe ++ [x] }]) := by
      unfold Mp.addA
      rw [if_pos (hR x (by simp)), List.getLast?_concat]
      show (if p.kind = 1 then some ((acc ++ [p]).dropLast ++ [{ p with recipe := p.recipe ++ [x] }]) else none) = _
      rw [if_pos hk, List.dropLast_concat]
    rw [ha]
    show Mp.goA (acc ++ [{ p with recipe := p.recipe ++ [x] }]) (R ++ tail) = _
    rw [go_recipe (p := { p with recipe := p.recipe ++ [x] }) hk (fun y hy => hR y (List.mem_cons_of_mem _ hy))]
    show Mp.goA (acc ++ [{ p with recipe := (p.recipe ++ [x]) ++ R }]) tail = _
    rw [List.append_assoc]; rfl
theorem shown_go : ∀ {l : List P} {k : Nat} {acc : List P}, (∀ p ∈ l, Good p) → Mp.goA acc (lns k l) = .ok (acc ++ nps k l)
  | [], k, acc, _ => by show Mp.goA acc [] = _; rw [show nps k [] = [] from rfl, List.append_nil]; rfl
  | p :: l, k, acc, h => by
    have hp := h p (by simp)
    show Mp.goA acc (⟨k, rowA p, false⟩ :: (rl (k + 1) p.recipe ++ lns (k + 1 + p.recipe.length) l)) = _
    conv => lhs; unfold Mp.goA
    have ha : Mp.addA acc ⟨k, rowA p, false⟩ = some (acc ++ [{ p with line := k, recipe := [] }]) := by
      unfold Mp.addA
      rw [if_neg Bool.false_ne_true]
      show (partA k (rowA p)).map _ = _
      unfold partA
      rw [hp.row k]; rfl
    rw [ha]
    show Mp.goA (acc ++ [{ p with line := k, recipe := [] }]) (rl (k + 1) p.recipe ++ lns (k + 1 + p.recipe.length) l) = _
    have hfin : ∀ q : P, q = { p with line := k, recipe := rl (k + 1) p.recipe } → Mp.goA (acc ++ [q]) (lns (k + 1 + p.recipe.length) l) = .ok (acc ++ nps k (p :: l)) := fun q hq => by
      rw [shown_go (fun p hp => h p (List.mem_cons_of_mem _ hp)), hq, List.append_assoc]; rfl
    by_cases hr : p.recipe = []
    · rw [hr]
      show Mp.goA (acc ++ [{ p with line := k, recipe := [] }]) (lns (k + 1 + 0) l) = _
      have := hfin { p with line := k, recipe := [] } (by rw [hr]; rfl)
      rw [hr] at this; exact this
    · rw [go_recipe (p := { p with line := k, recipe := [] }) (hp.rule hr) (fun x hx => rl_all x hx)]
      exact hfin _ rfl
theorem bare_rl : ∀ {l : List Ip.L} {k : Nat}, (∀ x ∈ l, RecL x) → (rl k l).map bareL = l.map bareL
  | [], _, _ => rfl
  | x :: l, k, h => by
    have hx := (h x (by simp)).q
    show (⟨0, x.t, true⟩ : Ip.L) :: (rl (k + 1) l).map bareL = ⟨0, x.t, x.q⟩ :: l.map bareL
    rw [bare_rl fun y hy => h y (List.mem_cons_of_mem _ hy), hx]
theorem bare_nps : ∀ {l : List P} {k : Nat}, (∀ p ∈ l, Good p) → (nps k l).map bareP = l.map bareP
  | [], _, _ => rfl
  | p :: l, k, h => by
    show bareP { p with line := k, recipe := rl (k + 1) p.recipe } :: (nps (k + 1 + p.recipe.length) l).map bareP = bareP p :: l.map bareP
    rw [bare_nps fun y hy => h y (List.mem_cons_of_mem _ hy)]
    refine congrArg (· :: l.map bareP) ?_
    show ({ p with line := 0, recipe := (rl (k + 1) p.recipe).map bareL } : P) = { p with line := 0, recipe := p.recipe.map bareL }
    rw [bare_rl (h p (by simp)).recipe]
/-- A makefile without a backslash, shown, is read again as the same parts. -/
theorem again {s : Bs} {l : List P} (h : 92 ∉ s) (hp : Mp.partsA s = .ok l) : Mp.partsA (textA l) = .ok (nps 1 l) ∧ (nps 1 l).map bareP = l.map bareP := by
  have hg := good_parts h hp
  refine ⟨?_, bare_nps hg⟩
  unfold Mp.partsA
  rw [shown_lines hg, shown_go hg, List.nil_append]
/-- What is shown knows no numbers. -/
theorem row_bare (p : P) : rowA (bareP p) = rowA p := rfl
theorem rec_bare (l : List Ip.L) : (l.map bareL).flatMap recT = l.flatMap recT := by
  induction l with
  | nil => rfl
  | cons x l ih => rw [List.map_cons, List.flatMap_cons, List.flatMap_cons, ih]; rfl
theorem part_bare (p : P) : partT (bareP p) = partT p := by
  show hashA (rowA p) ++ 10 :: (p.recipe.map bareL).flatMap recT = _
  rw [rec_bare]; rfl
theorem text_bare (l : List P) : textA (l.map bareP) = textA l := by
  unfold textA
  induction l with
  | nil => rfl
  | cons p l ih => rw [List.map_cons, List.flatMap_cons, List.flatMap_cons, ih, part_bare]
theorem text_again {s : Bs} {l : List P} (h : 92 ∉ s) (hp : Mp.partsA s = .ok l) : textA (nps 1 l) = textA l := by
  rw [← text_bare, (again h hp).2, text_bare]
end Go.Proofs.YtjjlafbdhpojpaaDoor.Vp
