/-
  The plain side of package path: what its functions make of lists of bytes, and that this is what the document's answer makes. No program, no world.
-/
import Derived.Lib.SplitLaws
import Derived.Lib.PathFns
namespace Go.Proofs.YtmmilnmlmgcobaaGreatDoor.Pt
abbrev Bs := List UInt8

/-- The pieces between slashes. -/
def pieces : Bs → List Bs
  | [] => [[]]
  | c :: r => if c = 47 then [] :: pieces r else
    match pieces r with
    | [] => [[c]]
    | x :: xs => (c :: x) :: xs

theorem pieces_ne (s : Bs) : pieces s ≠ [] := by
  cases s with
  | nil => simp [pieces]
  | cons c r =>
    unfold pieces
    split
    · simp
    · split <;> simp

/-- A piece ahead of a slash. -/
theorem pieces_hit : ∀ (a b : Bs), 47 ∉ a → pieces (a ++ 47 :: b) = a :: pieces b
  | [], b, _ => by simp [pieces]
  | c :: a, b, h => by
    have hc : ¬ c = 47 := fun e => h (by simp [e])
    have ha : 47 ∉ a := fun e => h (by simp [e])
    show pieces (c :: (a ++ 47 :: b)) = _
    rw [pieces, if_neg hc, pieces_hit a b ha]

theorem pieces_none : ∀ (a : Bs), 47 ∉ a → pieces a = [a]
  | [], _ => rfl
  | c :: a, h => by
    have hc : ¬ c = 47 := fun e => h (by simp [e])
    have ha : 47 ∉ a := fun e => h (by simp [e])
    rw [pieces, if_neg hc, pieces_none a ha]

theorem pieces_no : ∀ (s : Bs), ∀ x ∈ pieces s, 47 ∉ x
  | [], x, hx => by simp [pieces] at hx; simp [hx]
  | c :: r, x, hx => by
    have ih := pieces_no r
    unfold pieces at hx
    split at hx
    · rcases List.mem_cons.1 hx with rfl | h
      · simp
      · exact ih x h
    · rename_i hc
      split at hx
      · simp at hx; subst hx; simpa using fun e : (47 : UInt8) = c => hc e.symm
      · rename_i y ys he
        rcases List.mem_cons.1 hx with rfl | h
        · have := ih y (by rw [he]; simp)
          simp only [List.mem_cons, not_or]
          exact ⟨fun e => hc e.symm, this⟩
        · exact ih x (by rw [he]; simp [h])

/-- What says nothing is left out. -/
def says (p : Bs) : Bool := !(p == []) && !(p == [46])
def parts (s : Bs) : List Bs := (pieces s).filter says

/-- A part of a path. -/
def Good (p : Bs) : Prop := p ≠ [] ∧ p ≠ [46] ∧ p ≠ [46, 46] ∧ 47 ∉ p

/-- Where a part leads. -/
def step (out : List Bs) (p : Bs) : Option (List Bs) := if p = [46, 46] then (if out = [] then none else some out.dropLast) else some (out ++ [p])
def walk : List Bs → List Bs → Option (List Bs)
  | out, [] => some out
  | out, p :: ps => match step out p with
    | none => none
    | some o => walk o ps
def go : List Bs → List Bs → Option (List Bs)
  | out, [] => some out
  | out, s :: r => match walk out (parts s) with
    | none => none
    | some o => go o r

/-- Parts with a slash between. -/
def inter : List Bs → Bs
  | [] => []
  | [x] => x
  | x :: y :: r => x ++ 47 :: inter (y :: r)
def text (l : List Bs) : Bs := if inter l = [] then [46] else inter l
/-- The document's Join. -/
def join (l : List Bs) : Option Bs := (go [] l).map text

/-- How follow goes, on bytes. -/
def stepB (p part : Bs) : Option Bs :=
  if part = [] ∨ part = [46] then some p
  else if part = [46, 46] then (if p = [] then none else some (p.take (max (Lib.Pa.lastIndexByte p 47) 0).toNat))
  else some ((if p = [] then p else p ++ [47]) ++ part)
def walkB : Bs → List Bs → Option Bs
  | p, [] => some p
  | p, x :: xs => match stepB p x with
    | none => none
    | some q => walkB q xs
def goB : Bs → List Bs → Option Bs
  | p, [] => some p
  | p, s :: r => match walkB p (pieces s) with
    | none => none
    | some q => goB q r

theorem inter_snoc : ∀ (l : List Bs) (x : Bs), l ≠ [] → inter (l ++ [x]) = inter l ++ 47 :: x
  | [], _, h => absurd rfl h
  | [a], x, _ => by simp [inter]
  | a :: b :: r, x, _ => by
    have := inter_snoc (b :: r) x (by simp)
    simp only [List.cons_append] at this ⊢
    rw [inter, this, inter]
    simp

theorem inter_nil {l : List Bs} (h : ∀ x ∈ l, Good x) : inter l = [] ↔ l = [] := by
  constructor
  · intro e
    match l, h, e with
    | [], _, _ => rfl
    | [a], h, e => exact absurd e (h a (by simp)).1
    | a :: b :: r, h, e => simp [inter] at e
  · rintro rfl; rfl

theorem last_none (x : Bs) (h : 47 ∉ x) : Lib.Pa.lastIndexByte x 47 = -1 := by
  rcases Lib.Pa.lastIndexByte_spec x 47 with ⟨e, _⟩ | ⟨i, _, hi, _⟩
  · exact e
  · exact absurd (List.mem_of_getElem? hi) h

theorem last_at (a x : Bs) (h : 47 ∉ x) : Lib.Pa.lastIndexByte (a ++ 47 :: x) 47 = a.length := by
  have h0 : (a ++ 47 :: x)[a.length]? = some 47 := by simp
  have h1 : ∀ j, a.length < j → (a ++ 47 :: x)[j]? ≠ some 47 := by
    intro j hj e
    rw [List.getElem?_append_right (by omega)] at e
    obtain ⟨k, rfl⟩ : ∃ k, j = a.length + 1 + k := ⟨j - a.length - 1, by omega⟩
    rw [show a.length + 1 + k - a.length = k + 1 by omega, List.getElem?_cons_succ] at e
    exact h (List.mem_of_getElem? e)
  rcases Lib.Pa.lastIndexByte_spec (a ++ 47 :: x) 47 with ⟨_, hn⟩ | ⟨i, e, hi, hn⟩
  · exact absurd h0 (hn _)
  · rw [e]
    by_cases hlt : i < a.length
    · exact absurd h0 (hn _ hlt)
    · by_cases hgt : a.length < i
      · exact absurd hi (h1 _ hgt)
      · have : i = a.length := by omega
        rw [this]

theorem good_of_piece {x : Bs} (h : 47 ∉ x) (hs : says x = true) (h2 : ¬ x = [46, 46]) : Good x := by
  refine ⟨?_, ?_, h2, h⟩
  · rintro rfl; simp [says] at hs
  · rintro rfl; simp [says] at hs

theorem step_good {out o : List Bs} {x : Bs} (hg : ∀ y ∈ out, Good y) (h : 47 ∉ x) (hs : says x = true) (e : step out x = some o) : ∀ y ∈ o, Good y := by
  unfold step at e
  split at e
  · split at e
    · cases e
    · cases e
      exact fun y hy => hg y (List.dropLast_subset _ hy)
  · rename_i h2
    cases e
    intro y hy
    rcases List.mem_append.1 hy with hy | hy
    · exact hg y hy
    · simp at hy; subst hy; exact good_of_piece h hs h2

/-- One part, on bytes and on parts. -/
theorem step_eq {out : List Bs} {x : Bs} (hg : ∀ y ∈ out, Good y) (_h : 47 ∉ x) (hs : says x = true) : stepB (inter out) x = (step out x).map inter := by
  have h1 : ¬ (x = [] ∨ x = [46]) := by
    rintro (rfl | rfl) <;> simp [says] at hs
  unfold stepB step
  rw [if_neg h1]
  by_cases h2 : x = [46, 46]
  · rw [if_pos h2, if_pos h2]
    by_cases ho : out = []
    · subst ho; rfl
    · rw [if_neg (fun e => ho ((inter_nil hg).1 e)), if_neg ho]
      rcases List.eq_nil_or_concat out with e | ⟨l, y, rfl⟩
      · exact absurd e ho
      · rw [List.concat_eq_append] at hg ⊢
        have hy : 47 ∉ y := (hg y (by simp)).2.2.2
        rw [List.dropLast_concat]
        simp only [Option.map_some, Option.some.injEq]
        by_cases hl : l = []
        · subst hl
          have e0 : inter ([] ++ [y]) = y := rfl
          rw [e0, last_none y hy]
          rfl
        · rw [inter_snoc l y hl, last_at _ _ hy]
          rw [show (max ((inter l).length : Int) 0).toNat = (inter l).length by omega, List.take_left]
  · rw [if_neg h2, if_neg h2]
    simp only [Option.map_some, Option.some.injEq]
    by_cases ho : out = []
    · subst ho; simp [inter]
    · rw [if_neg (fun e => ho ((inter_nil hg).1 e)), inter_snoc out x ho]
      simp

theorem walk_eq : ∀ (xs : List Bs) (out : List Bs), (∀ y ∈ out, Good y) → (∀ x ∈ xs, 47 ∉ x) →
    walkB (inter out) xs = (walk out (xs.filter says)).map inter ∧ ∀ o, walk out (xs.filter says) = some o → ∀ y ∈ o, Good y
  | [], out, hg, _ => ⟨rfl, fun o e => by simp [walk] at e; subst e; exact hg⟩
  | x :: xs, out, hg, hx => by
    have hxs : ∀ y ∈ xs, 47 ∉ y := fun y hy => hx y (by simp [hy])
    by_cases hs : says x = true
    · rw [List.filter_cons_of_pos hs]
      have e := step_eq hg (hx x (by simp)) hs
      unfold walkB walk
      rw [e]
      cases hst : step out x with
      | none => exact ⟨rfl, fun o e => by cases e⟩
      | some o =>
        have := walk_eq xs o (step_good hg (hx x (by simp)) hs hst) hxs
        exact this
    · rw [List.filter_cons_of_neg hs]
      have e1 : stepB (inter out) x = some (inter out) := by
        unfold stepB
        rw [if_pos]
        by_cases h0 : x = []
        · exact .inl h0
        · right
          by_cases h1 : x = [46]
          · exact h1
          · exact absurd (by simp [says, h0, h1]) hs
      unfold walkB
      rw [e1]
      exact walk_eq xs out hg hxs

theorem go_eq : ∀ (l : List Bs) (out : List Bs), (∀ y ∈ out, Good y) → goB (inter out) l = (go out l).map inter ∧ ∀ o, go out l = some o → ∀ y ∈ o, Good y
  | [], out, hg => ⟨rfl, fun o e => by simp [go] at e; subst e; exact hg⟩
  | s :: r, out, hg => by
    obtain ⟨e1, e2⟩ := walk_eq (pieces s) out hg (pieces_no s)
    unfold goB go
    rw [e1]
    show _ ∧ _
    unfold parts
    cases hw : walk out ((pieces s).filter says) with
    | none => exact ⟨rfl, fun o e => by cases e⟩
    | some o => exact go_eq r o (e2 o hw)

/-- What path.Join makes is what the document's Join makes. -/
theorem join_eq (l : List Bs) : join l = (goB [] l).map (fun p => if p = [] then [46] else p) := by
  obtain ⟨e1, _⟩ := go_eq l [] (by simp)
  unfold join
  have e2 : goB [] l = (go [] l).map inter := e1
  rw [e2]
  cases go [] l with
  | none => rfl
  | some o => rfl

/-- The pieces of a path are its parts. -/
theorem pieces_inter : ∀ (l : List Bs), (∀ x ∈ l, 47 ∉ x) → l ≠ [] → pieces (inter l) = l
  | [], _, h => absurd rfl h
  | [a], h, _ => pieces_none a (h a (by simp))
  | a :: b :: r, h, _ => by
    rw [inter, pieces_hit _ _ (h a (by simp)), pieces_inter (b :: r) (fun x hx => h x (List.mem_cons_of_mem _ hx)) (by simp)]

theorem parts_text {l : List Bs} (hg : ∀ x ∈ l, Good x) : parts (text l) = l := by
  unfold text
  by_cases h : l = []
  · subst h; rfl
  · rw [if_neg (fun e => h ((inter_nil hg).1 e))]
    unfold parts
    rw [pieces_inter l (fun x hx => (hg x hx).2.2.2) h]
    exact List.filter_eq_self.2 fun x hx => by have := hg x hx; simp [says, this.1, this.2.1]

theorem walk_good : ∀ (l out : List Bs), (∀ x ∈ l, Good x) → walk out l = some (out ++ l)
  | [], out, _ => by simp [walk]
  | x :: l, out, h => by
    have hx := (h x (by simp)).2.2.1
    unfold walk step
    rw [if_neg hx]
    show walk (out ++ [x]) l = _
    rw [walk_good l (out ++ [x]) (fun y hy => h y (by simp [hy]))]
    simp

/-- A path leads to itself. -/
theorem join_text {l : List Bs} (hg : ∀ x ∈ l, Good x) : join [text l] = some (text l) := by
  unfold join go
  rw [parts_text hg, walk_good l [] hg]
  rfl

theorem join_some {l : List Bs} {p : Bs} (h : join l = some p) : ∃ o, go [] l = some o ∧ (∀ x ∈ o, Good x) ∧ p = text o := by
  unfold join at h
  cases hg : go [] l with
  | none => rw [hg] at h; cases h
  | some o => rw [hg] at h; cases h; exact ⟨o, rfl, (go_eq l [] (by simp)).2 o hg, rfl⟩

/-- What Join returns is a path. -/
theorem join_clean {l : List Bs} {p : Bs} (h : join l = some p) : join [p] = some p := by
  obtain ⟨o, _, hg, rfl⟩ := join_some h
  exact join_text hg
end Go.Proofs.YtmmilnmlmgcobaaGreatDoor.Pt
