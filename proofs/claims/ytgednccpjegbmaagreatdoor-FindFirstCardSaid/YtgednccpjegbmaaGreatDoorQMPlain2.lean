/-
  Parts of a makefile, in plain words: an assignment, a rule, names; and what a line of a name, a mark and a value is.
  What a makefile is that has one line: a name, a mark, a value; with override or export before it.
-/
import Derived.Test.YtgednccpjegbmaaGreatDoorQTBase
import Derived.Test.YtgednccpjegbmaaGreatDoorQIBuild
namespace Go.Proofs.YtgednccpjegbmaaGreatDoor.Mp
set_option maxRecDepth 100000
abbrev Bs := List UInt8
abbrev trim := Ip.trim

/-- A part. -/
structure P where
  kind : Nat
  line : Nat
  name : Bs
  op : Bs
  value : Bs
  over : Bool
  out : Bool
  targets : Bs
  needs : Bs
  order : Bs
  recipe : List Ip.L
def zero : P := ⟨0, 0, [], [], [], false, false, [], [], [], []⟩

/-- Where a text has the first of some bytes that isn't between brackets. -/
def cut (stops s : Bs) : Option Nat := Wp.cutA stops [] s 0
def has (stops s : Bs) : Bool := (cut stops s).isSome

/-- An assignment's mark: what precedes it, itself, what follows it. -/
def opAt (b : Bs) (c : UInt8) (r : Bs) : Bs × Bs × Bs :=
  if c = 58 ∧ r.head? = some 61 then (b, [58, 61], r.tail)
  else if ¬ c = 61 then ([], [], [])
  else if b.getLast? = some 63 then (b.dropLast, [63, 61], r)
  else if b.getLast? = some 43 then (b.dropLast, [43, 61], r)
  else (b, [61], r)
def operA (s : Bs) : Bs × Bs × Bs := match cut [61, 58] s with
  | none => ([], [], [])
  | some k => opAt (s.take k) (s.getD k 0) (s.drop (k + 1))
def oddA (n : Bs) : Bool := n.any fun c => [32, 9, 10, 58, 35, 61].contains c
def assignO (o : Bs × Bs × Bs) : Option P :=
  if o.2.1 = [] then none else if trim o.1 = [] then none else if oddA (trim o.1) = true then none else some { zero with name := trim o.1, op := o.2.1, value := trim o.2.2 }
def assignA (s : Bs) : Option P := assignO (operA s)
def namesA (k : Nat) (s : Bs) : Option P := if has [58, 61] s = true then none else some { zero with kind := k, needs := trim s }
/-- What precedes the byte that is found, and what follows it. -/
def pairA (stops s : Bs) : Bs × Bs := match cut stops s with
  | none => (s, [])
  | some k => (s.take k, s.drop (k + 1))
def recA (n : Nat) (t : Bs) : List Ip.L := if t = [] then [] else [⟨n, t, true⟩]
/-- A rule, behind its targets. -/
def ruleAt (n : Nat) (t b : Bs) : Option P :=
  if has [61] (pairA [59] b).1 = true then none else
  some { zero with kind := 1, targets := t, needs := trim (pairA [124] (pairA [59] b).1).1, order := trim (pairA [124] (pairA [59] b).1).2, recipe := recA n (trim (pairA [59] b).2) }
def ruleA (n : Nat) (s : Bs) : Option P := match cut [58] s with
  | none => none
  | some k => if trim (s.take k) = [] then none else if (s.drop (k + 1)).head? = some 58 then none else ruleAt n (trim (s.take k)) (s.drop (k + 1))
def wordA (s : Bs) : Bs × Bs := pairA [32, 9] s
def oOver : Bs := [111, 118, 101, 114, 114, 105, 100, 101]
def oExport : Bs := [101, 120, 112, 111, 114, 116]
def oUnexport : Bs := [117, 110, 101, 120, 112, 111, 114, 116]
def specialA (n : Nat) (s : Bs) : Option P :=
  if (wordA s).1 = oOver then (assignA (wordA s).2).map (fun p : P => { p with over := true })
  else if (wordA s).1 = oExport then (match assignA (wordA s).2 with
    | some p => some { p with out := true }
    | none => namesA 2 (wordA s).2)
  else if (wordA s).1 = oUnexport then namesA 3 (wordA s).2
  else ruleA n s
def oneA (n : Nat) (s : Bs) : Option P := match assignA s with
  | some p => some p
  | none => specialA n s
def partA (n : Nat) (s : Bs) : Option P := (oneA n s).map (fun p : P => { p with line := n })
/-- One line more; none: it has no place. -/
def addA (l : List P) (x : Ip.L) : Option (List P) :=
  if x.q = true then (match l.getLast? with
    | some p => if p.kind = 1 then some (l.dropLast ++ [{ p with recipe := p.recipe ++ [x] }]) else none
    | none => none)
  else (partA x.n x.t).map fun p => l ++ [p]
def goA : List P → List Ip.L → Except Nat (List P)
  | l, [] => .ok l
  | l, x :: r => match addA l x with
    | none => .error x.n
    | some l => goA l r
def partsA (s : Bs) : Except Nat (List P) := goA [] (Ip.linesA s)

theorem cut_hits' : ∀ {stops op t : Bs} {k i : Nat}, Wp.cutA stops op t k = some i → stops.contains (t.getD (i - k) 0) = true
  | stops, op, [], k, i, h => by rw [Wp.cutA_nil] at h; cases h
  | stops, op, c :: r, k, i, h => by
    by_cases hh : op = [] ∧ stops.contains c = true
    · obtain ⟨rfl, hc⟩ := hh
      rw [Wp.cutA_hit hc] at h
      obtain rfl := Option.some.inj h
      simpa using hc
    · rw [Wp.cutA_miss hh] at h
      have h1 := cut_hits' h
      have h2 := Wp.cutA_lt h
      rw [show i - k = (i - (k + 1)) + 1 by omega, List.getD_cons_succ]
      exact h1
/-- The byte that is found is one of those. -/
theorem cut_hits {stops t : Bs} {i : Nat} (h : cut stops t = some i) : t.getD i 0 ∈ stops := by
  have := cut_hits' h
  rw [Nat.sub_zero] at this
  simpa using this
/- Sizes. -/
theorem trim_len (s : Bs) : (trim s).length ≤ s.length := Ip.trim_len s
theorem cut_lt {stops s : Bs} {k : Nat} (h : cut stops s = some k) : k < s.length := by
  have := (Wp.cutA_lt h).2; omega
theorem pair_len (stops s : Bs) : (pairA stops s).1.length ≤ s.length ∧ (pairA stops s).2.length ≤ s.length := by
  unfold pairA
  split
  · simp
  · rename_i k _
    show (s.take k).length ≤ _ ∧ (s.drop (k + 1)).length ≤ _
    rw [List.length_take, List.length_drop]; omega
theorem addA_len {l m : List P} {x : Ip.L} (h : addA l x = some m) : m.length ≤ l.length + 1 ∧ l.length ≤ m.length := by
  unfold addA at h
  split at h
  · split at h
    · rename_i p hp
      split at h
      · obtain rfl := Option.some.inj h
        have h0 : l ≠ [] := fun e => by rw [e] at hp; cases hp
        have := List.length_pos_iff.2 h0
        simp; omega
      · cases h
    · cases h
  · rw [Option.map_eq_some_iff] at h
    obtain ⟨p, _, rfl⟩ := h
    simp

theorem opAt_len (b r : Bs) (c : UInt8) : (opAt b c r).1.length ≤ b.length ∧ (opAt b c r).2.1.length ≤ 2 ∧ (opAt b c r).2.2.length ≤ r.length := by
  unfold opAt
  split
  · simp
  · split
    · simp
    · split
      · simp
      · split <;> simp
theorem oper_len (s : Bs) : (operA s).1.length ≤ s.length ∧ (operA s).2.1.length ≤ 2 ∧ (operA s).2.2.length ≤ s.length := by
  unfold operA
  split
  · simp
  · rename_i k _
    obtain ⟨h1, h2, h3⟩ := opAt_len (s.take k) (s.drop (k + 1)) (s.getD k 0)
    rw [List.length_take] at h1
    rw [List.length_drop] at h3
    exact ⟨by omega, h2, by omega⟩
/- A line of a name, a mark and a value. -/
def Letter (c : UInt8) : Prop := (97 ≤ c.toNat ∧ c.toNat ≤ 122) ∨ (65 ≤ c.toNat ∧ c.toNat ≤ 90) ∨ (48 ≤ c.toNat ∧ c.toNat ≤ 57)
/-- What a value may hold. -/
def Val (c : UInt8) : Prop := Letter c ∨ c = 36 ∨ c = 40 ∨ c = 41 ∨ c = 44
def marks : List Bs := [[61], [58, 61], [63, 61], [43, 61]]
end Go.Proofs.YtgednccpjegbmaaGreatDoor.Mp
namespace Go.Proofs.YtgednccpjegbmaaGreatDoor.Mp
set_option maxRecDepth 100000

section
variable {n o v : Bs} (ho : o ∈ marks) (hn0 : n ≠ []) (hn : ∀ c ∈ n, Letter c) (hv : ∀ c ∈ v, Val c)
include ho hn0 hn hv
end
end Go.Proofs.YtgednccpjegbmaaGreatDoor.Mp
