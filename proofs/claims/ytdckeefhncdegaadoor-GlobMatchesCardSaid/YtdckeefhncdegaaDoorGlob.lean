/-
  The plain side of package glob: what a pattern's places are, what matches them, and that the going forward with one star to go back to answers the same. No program, no world.
-/
namespace Go.Proofs.YtdckeefhncdegaaDoor.Gl
abbrev Bs := List UInt8

inductive Pl where
  | star
  | any
  | br (t : Bs)
  | lit (c : UInt8)

def isStar : Pl → Bool
  | .star => true
  | _ => false

/-- Where a bracket's end is, in its inside: behind a ! and one byte. -/
def bang (u : Bs) : Nat := if u.head? = some 33 then 1 else 0
def endOf (u : Bs) : Option Nat := ((u.drop (bang u + 1)).findIdx? (· == 93)).map (· + (bang u + 1))

/-- How many bytes of a pattern the first place takes. -/
def pc : Bs → Nat
  | [] => 0
  | c :: u => if c = 91 then (match endOf u with | some k => k + 2 | none => 1) else if c = 92 then (if u = [] then 1 else 2) else 1

/-- The first place of a pattern. -/
def place : Bs → Pl
  | [] => .star
  | c :: u => if c = 42 then .star else if c = 63 then .any else if c = 91 then (match endOf u with | some k => .br (u.take k) | none => .lit 91)
    else if c = 92 then .lit (u.head?.getD 92) else .lit c

def placesF : Nat → Bs → List Pl
  | 0, _ => []
  | n + 1, t => if t = [] then [] else place t :: placesF n (t.drop (pc t))
def places (t : Bs) : List Pl := placesF t.length t

/-- Is a byte among those of a list? -/
def listed : Bs → UInt8 → Bool
  | [], _ => false
  | [a], c => a == c
  | [a, b], c => a == c || b == c
  | a :: b :: d :: r, c => if b = 45 then decide (a ≤ c) && decide (c ≤ d) || listed r c else a == c || listed (b :: d :: r) c
def within (t : Bs) (c : UInt8) : Bool := if t.head? = some 33 then !listed t.tail c else listed t c
def stands : Pl → UInt8 → Bool
  | .star, _ => true
  | .any, _ => true
  | .br t, c => within t c
  | .lit d, c => d == c

/-- Some end of a text. -/
def anyEnd (f : Bs → Bool) : Bs → Bool
  | [] => f []
  | c :: s => f (c :: s) || anyEnd f s
def first (f : Bs → Bool) (x : Pl) : Bs → Bool
  | [] => false
  | c :: s => stands x c && f s
/-- Is all of a text of these places? -/
def mt : List Pl → Bs → Bool
  | [] => fun s => s.isEmpty
  | x :: l => fun s => if isStar x then anyEnd (mt l) s else first (mt l) x s
def matchB (p s : Bs) : Bool := mt (places p) s

theorem pc_cons (c : UInt8) (u : Bs) : pc (c :: u) = if c = 91 then (match endOf u with | some k => k + 2 | none => 1) else if c = 92 then (if u = [] then 1 else 2) else 1 := rfl
theorem place_cons (c : UInt8) (u : Bs) : place (c :: u) = if c = 42 then .star else if c = 63 then .any else if c = 91 then (match endOf u with | some k => .br (u.take k) | none => .lit 91)
    else if c = 92 then .lit (u.head?.getD 92) else .lit c := rfl

theorem pc_pos {t : Bs} (h : t ≠ []) : 1 ≤ pc t := by
  cases t with
  | nil => exact absurd rfl h
  | cons c u =>
    rw [pc_cons]
    split
    · cases endOf u with
      | none => exact Nat.le_refl _
      | some k => exact Nat.le_add_left 1 (k + 1)
    · split
      · split <;> omega
      · omega

theorem endOf_lt {u : Bs} {k : Nat} (h : endOf u = some k) : k < u.length := by
  unfold endOf at h
  cases hf : (u.drop (bang u + 1)).findIdx? (· == 93) with
  | none => rw [hf] at h; cases h
  | some j =>
    rw [hf] at h
    simp only [Option.map_some, Option.some.injEq] at h
    have := (List.findIdx?_eq_some_iff_getElem.1 hf).1
    rw [List.length_drop] at this
    omega

theorem pc_le (t : Bs) : pc t ≤ t.length := by
  cases t with
  | nil => simp [pc]
  | cons c u =>
    rw [pc_cons]
    split
    · split
      · rename_i h; have := endOf_lt h; simp; omega
      · simp
    · split
      · split
        · simp
        · rename_i h; cases u with
          | nil => exact absurd rfl h
          | cons => simp
      · simp

theorem placesF_more : ∀ (n m : Nat) (t : Bs), t.length ≤ n → t.length ≤ m → placesF n t = placesF m t
  | 0, 0, _, _, _ => rfl
  | 0, m + 1, t, h, _ => by
    have : t = [] := List.length_eq_zero_iff.1 (by omega)
    subst this; simp [placesF]
  | n + 1, 0, t, _, h => by
    have : t = [] := List.length_eq_zero_iff.1 (by omega)
    subst this; simp [placesF]
  | n + 1, m + 1, t, h1, h2 => by
    unfold placesF
    split
    · rfl
    · rename_i h
      have hp := pc_pos h
      have hl : 0 < t.length := List.length_pos_iff.2 h
      rw [placesF_more n m (t.drop (pc t)) (by rw [List.length_drop]; omega) (by rw [List.length_drop]; omega)]

theorem places_nil : places [] = [] := rfl
theorem places_cons {t : Bs} (h : t ≠ []) : places t = place t :: places (t.drop (pc t)) := by
  have hl : 0 < t.length := List.length_pos_iff.2 h
  have hp := pc_pos h
  unfold places
  obtain ⟨n, hn⟩ : ∃ n, t.length = n + 1 := ⟨t.length - 1, by omega⟩
  rw [hn, placesF, if_neg h]
  congr 1
  exact placesF_more _ _ _ (by rw [List.length_drop]; omega) (Nat.le_refl _)

theorem places_ne {t : Bs} (h : t ≠ []) : places t ≠ [] := by rw [places_cons h]; simp

theorem place_star {t : Bs} (h : t ≠ []) : isStar (place t) = true ↔ t.head? = some 42 := by
  cases t with
  | nil => exact absurd rfl h
  | cons c u =>
    rw [place_cons]
    by_cases h1 : c = 42
    · simp [h1, isStar]
    · rw [if_neg h1]
      have : (c :: u).head? ≠ some 42 := by simpa using h1
      simp only [this, iff_false]
      split
      · simp [isStar]
      · split
        · split <;> simp [isStar]
        · split <;> simp [isStar]

theorem pc_star {t : Bs} (h : t.head? = some 42) : pc t = 1 := by
  cases t with
  | nil => cases h
  | cons c u =>
    simp only [List.head?_cons, Option.some.injEq] at h
    subst h
    simp [pc]

/-- Only stars are left: nothing matches. -/
theorem mt_nil (l : List Pl) : mt l [] = l.all isStar := by
  induction l with
  | nil => rfl
  | cons x l ih =>
    unfold mt
    cases hx : isStar x with
    | true => simp [anyEnd, ih, hx]
    | false => simp [first, hx]

theorem all_stars : ∀ (n : Nat) (t : Bs), t.length ≤ n → (places t).all isStar = t.all (· == 42)
  | 0, t, h => by
    have : t = [] := List.length_eq_zero_iff.1 (by omega)
    subst this; rfl
  | n + 1, t, h => by
    by_cases ht : t = []
    · subst ht; rfl
    · rw [places_cons ht, List.all_cons]
      by_cases hs : t.head? = some 42
      · rw [(place_star ht).2 hs, pc_star hs]
        cases t with
        | nil => exact absurd rfl ht
        | cons c u =>
          simp only [List.head?_cons, Option.some.injEq] at hs
          subst hs
          rw [List.drop_one, List.tail_cons, all_stars n u (by simp at h; omega)]
          simp
      · have : isStar (place t) = false := by
          cases hb : isStar (place t) with
          | false => rfl
          | true => exact absurd ((place_star ht).1 hb) hs
        rw [this]
        cases t with
        | nil => exact absurd rfl ht
        | cons c u =>
          have hc : (c == 42) = false := by simpa using hs
          simp [hc]

theorem anyEnd_iff (f : Bs → Bool) : ∀ (s : Bs), anyEnd f s = true ↔ ∃ k, k ≤ s.length ∧ f (s.drop k) = true
  | [] => by
    constructor
    · intro h; exact ⟨0, Nat.le_refl _, h⟩
    · rintro ⟨k, hk, h⟩
      simpa [anyEnd] using h
  | c :: s => by
    unfold anyEnd
    rw [Bool.or_eq_true, anyEnd_iff f s]
    constructor
    · rintro (h | ⟨k, hk, h⟩)
      · exact ⟨0, Nat.zero_le _, h⟩
      · exact ⟨k + 1, by simp; omega, by simpa using h⟩
    · rintro ⟨k, hk, h⟩
      cases k with
      | zero => exact .inl h
      | succ k => exact .inr ⟨k, by simp at hk; omega, by simpa using h⟩

theorem mt_cons_star {x : Pl} {l : List Pl} {s : Bs} (h : isStar x = true) : mt (x :: l) s = true ↔ ∃ k, k ≤ s.length ∧ mt l (s.drop k) = true := by
  show (if isStar x then anyEnd (mt l) s else first (mt l) x s) = true ↔ _
  rw [if_pos h, anyEnd_iff]

theorem mt_cons_no {x : Pl} {l : List Pl} {s : Bs} (h : isStar x = false) : mt (x :: l) s = first (mt l) x s := by
  show (if isStar x then anyEnd (mt l) s else first (mt l) x s) = _
  rw [h]; rfl

/-- Places that are no star take one byte each. -/
theorem mt_free : ∀ (q l : List Pl) (s : Bs), q.all (fun x => !isStar x) = true → mt (q ++ l) s = true → q.length ≤ s.length ∧ mt l (s.drop q.length) = true
  | [], l, s, _, h => ⟨Nat.zero_le _, by simpa using h⟩
  | x :: q, l, s, hq, h => by
    simp only [List.all_cons, Bool.and_eq_true, Bool.not_eq_true'] at hq
    rw [List.cons_append, mt_cons_no hq.1] at h
    cases s with
    | nil => cases h
    | cons c s =>
      simp only [first, Bool.and_eq_true] at h
      have ⟨h1, h2⟩ := mt_free q l s hq.2 h.2
      exact ⟨by simp; omega, by simpa using h2⟩

/-- What is known at the head of a round: i of the pattern and a of the text are read; st is behind the last star (0: none yet), fr is what this star has left off. -/
structure Inv (p s : Bs) (i a st fr : Nat) : Prop where
  hi : i ≤ p.length
  ha : a ≤ s.length
  hst : st ≤ i
  hfr : fr ≤ a
  mid : 0 < st → ∃ q, q.all (fun x => !isStar x) = true ∧ places (p.drop st) = q ++ places (p.drop i) ∧ a = fr + q.length
  ans : matchB p s = true ↔ (mt (places (p.drop i)) (s.drop a) = true ∨ (0 < st ∧ ∃ f, fr < f ∧ f ≤ s.length ∧ mt (places (p.drop st)) (s.drop f) = true))

theorem inv_start (p s : Bs) : Inv p s 0 0 0 0 :=
  ⟨Nat.zero_le _, Nat.zero_le _, Nat.le_refl _, Nat.le_refl _, fun h => absurd h (by omega), by simp [matchB]⟩

theorem drop_ne {p : Bs} {i : Nat} (h : i < p.length) : p.drop i ≠ [] := by
  intro e
  have := congrArg List.length e
  rw [List.length_drop] at this
  simp at this; omega

theorem inv_star {p s : Bs} {i a st fr : Nat} (h : Inv p s i a st fr) (hlt : i < p.length) (hs : p[i]? = some 42) : Inv p s (i + 1) a (i + 1) a := by
  have hne := drop_ne hlt
  have hh : (p.drop i).head? = some 42 := by rw [List.head?_drop]; exact hs
  have hx := (place_star hne).2 hh
  have hp : places (p.drop i) = place (p.drop i) :: places (p.drop (i + 1)) := by
    rw [places_cons hne, pc_star hh, List.drop_drop]
  refine ⟨hlt, h.ha, Nat.le_refl _, Nat.le_refl _, fun _ => ⟨[], rfl, rfl, rfl⟩, ?_⟩
  rw [h.ans, hp, mt_cons_star hx]
  constructor
  · rintro (⟨k, hk, hm⟩ | ⟨h0, f, hf, hfl, hm⟩)
    · rw [List.drop_drop] at hm
      rw [List.length_drop] at hk
      have := h.ha
      rcases Nat.eq_zero_or_pos k with rfl | hk0
      · exact .inl hm
      · exact .inr ⟨by omega, a + k, by omega, by omega, hm⟩
    · obtain ⟨q, hq, he, hae⟩ := h.mid h0
      rw [he, hp] at hm
      obtain ⟨hl, hm⟩ := mt_free q _ _ hq hm
      rw [List.length_drop] at hl
      rw [mt_cons_star hx] at hm
      obtain ⟨k, hk, hm⟩ := hm
      rw [List.drop_drop, List.drop_drop] at hm
      rw [List.length_drop, List.length_drop] at hk
      exact .inr ⟨by omega, f + q.length + k, by omega, by omega, by rw [show f + q.length + k = f + (q.length + k) by omega]; simpa [Nat.add_assoc] using hm⟩
  · rintro (hm | ⟨_, f, hf, hfl, hm⟩)
    · exact .inl ⟨0, Nat.zero_le _, by simpa using hm⟩
    · refine .inl ⟨f - a, ?_, ?_⟩
      · rw [List.length_drop]; omega
      · rw [List.drop_drop, show a + (f - a) = f by omega]; exact hm

theorem drop_cons {s : Bs} {a : Nat} {c : UInt8} (h : s[a]? = some c) : s.drop a = c :: s.drop (a + 1) := by
  obtain ⟨hlt, he⟩ := List.getElem?_eq_some_iff.1 h
  rw [List.drop_eq_getElem_cons hlt, he]

theorem mt_step {p s : Bs} {i a : Nat} {c : UInt8} (hlt : i < p.length) (hs : p[i]? ≠ some 42) (hc : s[a]? = some c) :
    mt (places (p.drop i)) (s.drop a) = (stands (place (p.drop i)) c && mt (places (p.drop (i + pc (p.drop i)))) (s.drop (a + 1))) := by
  have hne := drop_ne hlt
  have hx : isStar (place (p.drop i)) = false := by
    cases hb : isStar (place (p.drop i)) with
    | false => rfl
    | true =>
      have := (place_star hne).1 hb
      rw [List.head?_drop] at this
      exact absurd this hs
  rw [places_cons hne, mt_cons_no hx, drop_cons hc, List.drop_drop]
  rfl

theorem inv_fit {p s : Bs} {i a st fr : Nat} {c : UInt8} (h : Inv p s i a st fr) (hlt : i < p.length) (hs : p[i]? ≠ some 42) (hc : s[a]? = some c)
    (hf : stands (place (p.drop i)) c = true) : Inv p s (i + pc (p.drop i)) (a + 1) st fr := by
  have hne := drop_ne hlt
  have hal := (List.getElem?_eq_some_iff.1 hc).1
  have hx : isStar (place (p.drop i)) = false := by
    cases hb : isStar (place (p.drop i)) with
    | false => rfl
    | true =>
      have := (place_star hne).1 hb
      rw [List.head?_drop] at this
      exact absurd this hs
  have hpl := pc_le (p.drop i)
  rw [List.length_drop] at hpl
  have := h.hst
  have := h.hfr
  refine ⟨by omega, by omega, by omega, by omega, fun h0 => ?_, ?_⟩
  · obtain ⟨q, hq, he, hae⟩ := h.mid h0
    refine ⟨q ++ [place (p.drop i)], by simp [hx]; simpa using hq, ?_, by simp; omega⟩
    rw [he, places_cons hne, List.drop_drop]; simp
  · rw [h.ans, mt_step hlt hs hc, hf, Bool.true_and]

theorem inv_back {p s : Bs} {i a st fr : Nat} {c : UInt8} (h : Inv p s i a st fr) (h0 : 0 < st) (hc : s[a]? = some c)
    (hf : i < p.length → p[i]? ≠ some 42 ∧ stands (place (p.drop i)) c = false) : Inv p s st (fr + 1) st (fr + 1) := by
  have hal := (List.getElem?_eq_some_iff.1 hc).1
  have hi := h.hi
  have hst := h.hst
  have hfr := h.hfr
  have hno : mt (places (p.drop i)) (s.drop a) = false := by
    by_cases hlt : i < p.length
    · rw [mt_step hlt (hf hlt).1 hc, (hf hlt).2]; rfl
    · rw [List.drop_of_length_le (by omega), places_nil, drop_cons hc]; rfl
  refine ⟨by omega, by omega, Nat.le_refl _, Nat.le_refl _, fun _ => ⟨[], rfl, rfl, rfl⟩, ?_⟩
  rw [h.ans, hno]
  constructor
  · rintro (e | ⟨_, f, h1, h2, h3⟩)
    · cases e
    · by_cases he : f = fr + 1
      · subst he; exact .inl h3
      · exact .inr ⟨h0, f, by omega, h2, h3⟩
  · rintro (e | ⟨_, f, h1, h2, h3⟩)
    · exact .inr ⟨h0, fr + 1, by omega, by omega, e⟩
    · exact .inr ⟨h0, f, by omega, h2, h3⟩

theorem inv_no {p s : Bs} {i a fr : Nat} {c : UInt8} (h : Inv p s i a 0 fr) (hc : s[a]? = some c)
    (hf : i < p.length → p[i]? ≠ some 42 ∧ stands (place (p.drop i)) c = false) : matchB p s = false := by
  have hi := h.hi
  have hno : mt (places (p.drop i)) (s.drop a) = false := by
    by_cases hlt : i < p.length
    · rw [mt_step hlt (hf hlt).1 hc, (hf hlt).2]; rfl
    · rw [List.drop_of_length_le (by omega), places_nil, drop_cons hc]; rfl
  cases hm : matchB p s with
  | false => rfl
  | true =>
    rcases h.ans.1 hm with e | ⟨h0, _⟩
    · rw [hno] at e; cases e
    · omega

theorem inv_end {p s : Bs} {i a st fr : Nat} (h : Inv p s i a st fr) (he : a = s.length) : matchB p s = (p.drop i).all (· == 42) := by
  have hfr := h.hfr
  have key : matchB p s = true ↔ mt (places (p.drop i)) (s.drop a) = true := by
    rw [h.ans]
    constructor
    · rintro (e | ⟨h0, f, h1, h2, h3⟩)
      · exact e
      · obtain ⟨q, hq, hp, ha⟩ := h.mid h0
        rw [hp] at h3
        have := (mt_free q _ _ hq h3).1
        rw [List.length_drop] at this
        omega
    · exact .inl
  rw [he, List.drop_of_length_le (Nat.le_refl _), mt_nil, all_stars _ _ (Nat.le_refl _)] at key
  rw [Bool.eq_iff_iff, key]

/-- Every round lowers this. -/
def left (P n st fr a : Nat) : Nat := (P - st) * ((n + 1) * (n + 1)) + (n - fr) * (n + 1) + (n - a)
theorem left_star {P n st fr a i : Nat} (h1 : st ≤ i) (h2 : i < P) (h4 : a ≤ n) : left P n (i + 1) a a < left P n st fr a := by
  unfold left
  have e : P - st = (P - (i + 1)) + (i + 1 - st) := by omega
  have h5 : 1 * ((n + 1) * (n + 1)) ≤ (i + 1 - st) * ((n + 1) * (n + 1)) := Nat.mul_le_mul_right _ (by omega)
  have h6 : (n - a) * (n + 1) ≤ n * (n + 1) := Nat.mul_le_mul_right _ (by omega)
  have h7 : (n + 1) * (n + 1) = n * (n + 1) + (n + 1) := by rw [Nat.add_mul]; omega
  generalize (n + 1) * (n + 1) = N at *
  rw [e, Nat.add_mul]
  omega
theorem left_fit {P n st fr a : Nat} (h : a < n) : left P n st fr (a + 1) < left P n st fr a := by unfold left; omega
theorem left_back {P n st fr a : Nat} (h1 : fr ≤ a) (h : a < n) : left P n st (fr + 1) (fr + 1) < left P n st fr a := by
  unfold left
  have e : n - fr = (n - (fr + 1)) + 1 := by omega
  have h6 : (n - fr) * (n + 1) = (n - (fr + 1)) * (n + 1) + (n + 1) := by rw [e, Nat.add_mul]; omega
  omega

/-- The reference's way: which beginnings of the text are of which beginnings of the pattern. -/
def nxt (x : Pl) (s : Bs) (ok : Nat → Bool) : Nat → Bool
  | 0 => isStar x && ok 0
  | k + 1 => if isStar x then ok (k + 1) || nxt x s ok k else ok k && stands x (s[k]?.getD 0)
def rows (s : Bs) (l : List Pl) (ok : Nat → Bool) : Nat → Bool := l.foldl (fun ok x => nxt x s ok) ok

theorem nxt_star {x : Pl} {s : Bs} {ok : Nat → Bool} (h : isStar x = true) : ∀ k, nxt x s ok k = true ↔ ∃ j, j ≤ k ∧ ok j = true
  | 0 => by
    simp only [nxt, h, Bool.true_and]
    constructor
    · intro e; exact ⟨0, Nat.le_refl _, e⟩
    · rintro ⟨j, hj, e⟩
      obtain rfl : j = 0 := by omega
      exact e
  | k + 1 => by
    simp only [nxt, h, if_true, Bool.or_eq_true, nxt_star h k]
    constructor
    · rintro (e | ⟨j, hj, e⟩)
      · exact ⟨k + 1, Nat.le_refl _, e⟩
      · exact ⟨j, by omega, e⟩
    · rintro ⟨j, hj, e⟩
      by_cases hk : j = k + 1
      · subst hk; exact .inl e
      · exact .inr ⟨j, by omega, e⟩

theorem rows_iff (s : Bs) : ∀ (l : List Pl) (ok : Nat → Bool), rows s l ok s.length = true ↔ ∃ k, k ≤ s.length ∧ ok k = true ∧ mt l (s.drop k) = true
  | [], ok => by
    show ok s.length = true ↔ _
    constructor
    · intro h; exact ⟨s.length, Nat.le_refl _, h, by simp [mt]⟩
    · rintro ⟨k, hk, h, e⟩
      have : s.length ≤ k := by simpa [mt] using e
      obtain rfl : k = s.length := by omega
      exact h
  | x :: l, ok => by
    show rows s l (nxt x s ok) s.length = true ↔ _
    rw [rows_iff s l]
    cases hx : isStar x with
    | true =>
      constructor
      · rintro ⟨k, hk, h1, h2⟩
        obtain ⟨j, hj, h3⟩ := (nxt_star hx k).1 h1
        refine ⟨j, by omega, h3, (mt_cons_star hx).2 ⟨k - j, ?_, ?_⟩⟩
        · rw [List.length_drop]; omega
        · rw [List.drop_drop, show j + (k - j) = k by omega]; exact h2
      · rintro ⟨j, hj, h1, h2⟩
        obtain ⟨k, hk, h3⟩ := (mt_cons_star hx).1 h2
        rw [List.length_drop] at hk
        rw [List.drop_drop] at h3
        exact ⟨j + k, by omega, (nxt_star hx _).2 ⟨j, by omega, h1⟩, h3⟩
    | false =>
      constructor
      · rintro ⟨k, hk, h1, h2⟩
        cases k with
        | zero => simp [nxt, hx] at h1
        | succ k =>
          simp only [nxt, hx, Bool.false_eq_true, if_false, Bool.and_eq_true] at h1
          refine ⟨k, by omega, h1.1, ?_⟩
          have hc : s[k]? = some (s[k]?.getD 0) := by
            rw [List.getElem?_eq_getElem (by omega)]; rfl
          rw [mt_cons_no hx, drop_cons hc, first, h1.2, h2]; rfl
      · rintro ⟨k, hk, h1, h2⟩
        rw [mt_cons_no hx] at h2
        by_cases hlt : k < s.length
        · have hc : s[k]? = some (s[k]?.getD 0) := by
            rw [List.getElem?_eq_getElem hlt]; rfl
          rw [drop_cons hc, first, Bool.and_eq_true] at h2
          exact ⟨k + 1, by omega, by simp [nxt, hx, h1, h2.1], h2.2⟩
        · rw [List.drop_of_length_le (by omega)] at h2; cases h2

theorem rows_match (p s : Bs) : rows s (places p) (fun k => k == 0) s.length = matchB p s := by
  rw [Bool.eq_iff_iff, rows_iff]
  constructor
  · rintro ⟨k, _, h1, h2⟩
    have : k = 0 := by simpa using h1
    subst this; exact h2
  · intro h; exact ⟨0, Nat.zero_le _, rfl, h⟩

/-- A byte that may stand for another one. -/
def magicByte (c : UInt8) : Bool := c == 42 || c == 63 || c == 91 || c == 92
def magic (p : Bs) : Bool := p.any magicByte

theorem plain_places : ∀ (p : Bs), magic p = false → places p = p.map .lit
  | [], _ => rfl
  | c :: p, h => by
    simp only [magic, List.any_cons, Bool.or_eq_false_iff] at h
    have hc := h.1
    simp only [magicByte, Bool.or_eq_false_iff, beq_eq_false_iff_ne] at hc
    obtain ⟨⟨⟨h1, h2⟩, h3⟩, h4⟩ := hc
    rw [places_cons (by simp), List.map_cons]
    have e1 : place (c :: p) = .lit c := by simp [place, h1, h2, h3, h4]
    have e2 : pc (c :: p) = 1 := by simp [pc, h3, h4]
    rw [e1, e2]
    congr 1
    exact plain_places p h.2

theorem plain_mt : ∀ (p s : Bs), mt (p.map .lit) s = (p == s)
  | [], s => by cases s <;> rfl
  | c :: p, s => by
    rw [List.map_cons, mt_cons_no rfl]
    cases s with
    | nil => rfl
    | cons d s =>
      show (stands (.lit c) d && mt (p.map .lit) s) = _
      rw [plain_mt p s]; rfl

theorem plain_match {p s : Bs} (h : magic p = false) : matchB p s = (p == s) := by
  unfold matchB; rw [plain_places p h, plain_mt]

/-- How the program tells whether a byte fits what begins a pattern. -/
def inner (x : Bs) : Bs := (x.drop 1).dropLast
def fitsB (x : Bs) (c : UInt8) : Bool :=
  if x = [63] then true else if x.length ≤ 2 then x.getLast? == some c
  else within (inner x) c

theorem endOf_ge {u : Bs} {k : Nat} (h : endOf u = some k) : bang u + 1 ≤ k := by
  unfold endOf at h
  cases hf : (u.drop (bang u + 1)).findIdx? (· == 93) with
  | none => rw [hf] at h; cases h
  | some j =>
    rw [hf] at h
    simp only [Option.map_some, Option.some.injEq] at h
    omega

theorem fits_is {t : Bs} (c : UInt8) (h : t ≠ []) (hs : t.head? ≠ some 42) : fitsB (t.take (pc t)) c = stands (place t) c := by
  cases t with
  | nil => exact absurd rfl h
  | cons d u =>
    have hd : ¬ d = 42 := by simpa using hs
    by_cases h1 : d = 63
    · subst h1; rfl
    · by_cases h2 : d = 91
      · subst h2
        cases he : endOf u with
        | none =>
          have e1 : pc (91 :: u) = 1 := by simp [pc, he]
          have e2 : place (91 :: u) = .lit 91 := by simp [place, he]
          rw [e1, e2]
          simp [fitsB, stands]
        | some k =>
          have hk := endOf_lt he
          have hg := endOf_ge he
          have e1 : pc (91 :: u) = k + 2 := by simp [pc, he]
          have e2 : place (91 :: u) = .br (u.take k) := by simp [place, he]
          rw [e1, e2, List.take_succ_cons]
          have e3 : inner (91 :: u.take (k + 1)) = u.take k := by
            unfold inner
            rw [List.drop_one, List.tail_cons, List.dropLast_eq_take, List.length_take, List.take_take]
            congr 1; omega
          have e4 : ¬ (91 :: u.take (k + 1)) = [63] := by simp
          have e5 : ¬ (91 :: u.take (k + 1)).length ≤ 2 := by simp; omega
          rw [fitsB, if_neg e4, if_neg e5, e3]
          rfl
      · by_cases h3 : d = 92
        · subst h3
          cases u with
          | nil => rfl
          | cons e v =>
            have e1 : pc (92 :: e :: v) = 2 := by simp [pc]
            have e2 : place (92 :: e :: v) = .lit e := by simp [place]
            rw [e1, e2]
            simp [fitsB, stands]
        · have e1 : pc (d :: u) = 1 := by simp [pc, h2, h3]
          have e2 : place (d :: u) = .lit d := by simp [place, hd, h1, h2, h3]
          rw [e1, e2]
          simp [fitsB, stands, h1]

end Go.Proofs.YtdckeefhncdegaaDoor.Gl
