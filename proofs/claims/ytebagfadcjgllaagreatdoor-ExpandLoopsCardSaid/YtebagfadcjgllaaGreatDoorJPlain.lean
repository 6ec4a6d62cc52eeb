/-
  Variables, in plain words: the document's answer for layer 11. No program here.
-/
import Derived.Lib.Walk
import Derived.Test.YtebagfadcjgllaaGreatDoorProg
namespace Go.Proofs.YtebagfadcjgllaaGreatDoor.Jp
abbrev Bs := List UInt8

/-- A variable: its name, its text, whether that was expanded, where it is from. -/
structure V where
  n : Bs
  x : Bs
  s : Bool
  f : Int
def zero : V := ⟨[], [], false, 0⟩
/-- A table. -/
structure T where
  l : List V
  yes : List Bs
  no : List Bs
  all : Bool
def new : T := ⟨[], [], [], false⟩
def getA : List V → Bs → Option V
  | [], _ => none
  | v :: r, k => if v.n = k then some v else getA r k
/-- Laid in its place: all is behind it that is laid already. -/
def insA (v : V) : Bool → List V → List V
  | done, [] => if done = true then [] else [v]
  | done, x :: r => (if done = false ∧ Op.bytesLess x.n v.n = false then [v] else []) ++ (if x.n = v.n then [] else [x]) ++ insA v (done || !Op.bytesLess x.n v.n) r
def putA (t : T) (v : V) : T := { t with l := insA v false t.l }
/-- Set: unless one counts more. -/
def setA (t : T) (v : V) : T := match getA t.l v.n with
  | some o => if v.f < o.f then t else putA t v
  | none => putA t v
def rightA (v : V) : Bool := !v.n.isEmpty && (decide (0 ≤ v.f) && decide (v.f ≤ 4))
/-- More: a text behind a variable's. -/
def moreA (t : T) (v : V) : T := match getA t.l v.n with
  | some o => setA t { v with x := o.x ++ 32 :: v.x, s := o.s }
  | none => setA t v
def withoutA (k : Bs) : List Bs → List Bs
  | [] => []
  | x :: r => if x = k then withoutA k r else x :: withoutA k r
def hasA (l : List Bs) (k : Bs) : Bool := l.any fun x => x == k
def stepA (yes : Bool) (t : T) (k : Bs) : T :=
  if yes = true then { t with yes := withoutA k t.yes ++ [k], no := withoutA k t.no } else { t with yes := withoutA k t.yes, no := withoutA k t.no ++ [k] }
/-- Export: what is said of names. -/
def exportA (t : T) (yes : Bool) (l : List Bs) : T := l.foldl (stepA yes) (if l = [] then { t with all := yes } else t)
def isOut (t : T) (v : V) : Bool := hasA t.yes v.n || (!hasA t.no v.n && (v.f == 1 || v.f == 3 || (v.f == 2 && t.all)))
def exportsA (t : T) : List V := t.l.filter (isOut t)

theorem getA_mem : ∀ {l : List V} {k : Bs} {v : V}, getA l k = some v → v ∈ l ∧ v.n = k
  | [], _, _, h => by cases h
  | x :: r, k, v, h => by
    unfold getA at h
    split at h
    · obtain rfl := Option.some.inj h
      exact ⟨by simp, by assumption⟩
    · have := getA_mem h
      exact ⟨by simp [this.1], this.2⟩
theorem insA_len (v : V) : ∀ (l : List V) (d : Bool), (insA v d l).length ≤ l.length + 1
  | [], d => by unfold insA; split <;> simp
  | x :: r, d => by
    have ih := insA_len v r
    unfold insA
    by_cases h1 : d = false ∧ Op.bytesLess x.n v.n = false
    · rw [if_pos h1]
      have h2 := insA_done v r
      have hd : (d || !Op.bytesLess x.n v.n) = true := by rw [h1.2]; simp
      rw [hd]
      split <;> simp <;> omega
    · rw [if_neg h1]
      have := ih (d || !Op.bytesLess x.n v.n)
      split <;> simp <;> omega
where insA_done (v : V) : ∀ (l : List V), (insA v true l).length ≤ l.length
  | [] => by simp [insA]
  | x :: r => by
    have := insA_done v r
    unfold insA
    rw [if_neg (by simp)]
    split <;> simp <;> omega
theorem withoutA_len (k : Bs) : ∀ l : List Bs, (withoutA k l).length ≤ l.length
  | [] => Nat.le_refl _
  | x :: r => by
    have := withoutA_len k r
    unfold withoutA
    split <;> simp <;> omega
theorem withoutA_snoc (k x : Bs) : ∀ l : List Bs, withoutA k (l ++ [x]) = withoutA k l ++ (if x = k then [] else [x])
  | [] => by simp [withoutA]
  | y :: r => by
    have := withoutA_snoc k x r
    show (if y = k then withoutA k (r ++ [x]) else y :: withoutA k (r ++ [x])) = (if y = k then withoutA k r else y :: withoutA k r) ++ _
    rw [this]
    split <;> simp
end Go.Proofs.YtebagfadcjgllaaGreatDoor.Jp
