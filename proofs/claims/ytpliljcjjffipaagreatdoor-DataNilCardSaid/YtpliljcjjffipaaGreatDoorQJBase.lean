/-
  Variables, in plain words: the document's answer for layer 11. No program here.
  Variables in memory: a row of them, names, a table in its box.
-/
import Derived.Lib.Walk
import Derived.Test.YtpliljcjjffipaaGreatDoorProg
import Derived.Maps.AppendAt
import Derived.Laws.ResultCell
import Derived.Test.YtpliljcjjffipaaGreatDoorQWReads
import Derived.Test.YtpliljcjjffipaaGreatDoorQTBase
namespace Go.Proofs.YtpliljcjjffipaaGreatDoor.Jp
abbrev Bs := List UInt8

/-- A variable: its name, its text, whether that was expanded, where it is from. -/
structure V where
  n : Bs
  x : Bs
  s : Bool
  f : Int
def zero : V := ⟨[], [], false, 0⟩
/-- A table. -/
structure T where
  l : List V
  yes : List Bs
  no : List Bs
  all : Bool
def new : T := ⟨[], [], [], false⟩
def getA : List V → Bs → Option V
  | [], _ => none
  | v :: r, k => if v.n = k then some v else getA r k
/-- Laid in its place: all is behind it that is laid already. -/
def insA (v : V) : Bool → List V → List V
  | done, [] => if done = true then [] else [v]
  | done, x :: r => (if done = false ∧ Op.bytesLess x.n v.n = false then [v] else []) ++ (if x.n = v.n then [] else [x]) ++ insA v (done || !Op.bytesLess x.n v.n) r
def putA (t : T) (v : V) : T := { t with l := insA v false t.l }
/-- Set: unless one counts more. -/
def setA (t : T) (v : V) : T := match getA t.l v.n with
  | some o => if v.f < o.f then t else putA t v
  | none => putA t v
def rightA (v : V) : Bool := !v.n.isEmpty && (decide (0 ≤ v.f) && decide (v.f ≤ 4))
/-- More: a text behind a variable's. -/
def moreA (t : T) (v : V) : T := match getA t.l v.n with
  | some o => setA t { v with x := o.x ++ 32 :: v.x, s := o.s }
  | none => setA t v
def withoutA (k : Bs) : List Bs → List Bs
  | [] => []
  | x :: r => if x = k then withoutA k r else x :: withoutA k r
def hasA (l : List Bs) (k : Bs) : Bool := l.any fun x => x == k
def stepA (yes : Bool) (t : T) (k : Bs) : T :=
  if yes = true then { t with yes := withoutA k t.yes ++ [k], no := withoutA k t.no } else { t with yes := withoutA k t.yes, no := withoutA k t.no ++ [k] }
/-- Export: what is said of names. -/
def exportA (t : T) (yes : Bool) (l : List Bs) : T := l.foldl (stepA yes) (if l = [] then { t with all := yes } else t)
def isOut (t : T) (v : V) : Bool := hasA t.yes v.n || (!hasA t.no v.n && (v.f == 1 || v.f == 3 || (v.f == 2 && t.all)))
def exportsA (t : T) : List V := t.l.filter (isOut t)

end Go.Proofs.YtpliljcjjffipaaGreatDoor.Jp
namespace Go.Proofs.YtpliljcjjffipaaGreatDoor.Jw
open Go.RowKit Go.Proofs.YtpliljcjjffipaaGreatDoor Go.Proofs.YtpliljcjjffipaaGreatDoor.Ww Go.Proofs.YtpliljcjjffipaaGreatDoor.Tw
set_option maxRecDepth 100000

abbrev VT : TypeId := 72
abbrev TT : TypeId := 36
abbrev ST : TypeId := 9
theorem info_parts {P : Program} {t : TypeId} {z : Value} {s b : Nat} (h : (P.info? t).map (fun i => (i.zero, i.size, i.bytes)) = some (some z, s, b)) : ∃ i, P.info? t = some i ∧ i.zero = some z ∧ i.size = s ∧ i.bytes = b := by
  rw [Option.map_eq_some_iff] at h
  obtain ⟨i, hi, e⟩ := h
  simp only [Prod.mk.injEq] at e
  exact ⟨i, hi, e.1, e.2.1, e.2.2⟩
/-- A variable's cells. -/
def vC (v : Jp.V) : List Value := [.string (str v.n), .string (str v.x), .bool v.s, .int .i64 v.f]
def vA (v : Jp.V) : Array Value := #[.string (str v.n), .string (str v.x), .bool v.s, .int .i64 v.f]
def vsC (l : List Jp.V) : List Value := l.flatMap vC
/-- Names. -/
def nC (l : List Bs) : List Value := l.map fun x => Value.string (str x)
theorem nC_get {l : List Bs} {i : Nat} (h : i < l.length) : (nC l)[i]? = some (.string (str l[i])) := by simp [nC, h]
theorem name_cell {w : World} {B : Nat} {a : Option Addr} {c : Nat} {l : List Bs} (h : w.ownsRow B ST 1 (.slice a l.length c) l.length (nC l)) {i : Nat} (hi : i < l.length) :
    ∃ g, a = some ⟨g, 0, none⟩ ∧ l.length ≤ c ∧ g < w.heap.size ∧ B ≤ g ∧ w.cell? ⟨g, i, none⟩ = some (.string (str l[i])) := by
  obtain ⟨hl, hr⟩ := id h
  rcases hr with ⟨hn, h0⟩ | ⟨g, cap, cur, hv, hb, hg, hn, hc, hs, ht⟩
  · omega
  · cases hv
    have := h.cells (g := g) rfl i _ (nC_get hi)
    rw [Addr.add_lit, Nat.zero_add] at this
    exact ⟨g, rfl, hn, (Array.getElem?_eq_some_iff.1 hg).1, hb, this⟩
theorem cell_at {w : World} {n i : Nat} {cs : Array Value} {T : TypeId} {v : Value} (h : w.heap[n]? = some (.cells cs T (0, 0))) (hv : cs[i]? = some v) : w.cell? ⟨n, i, none⟩ = some v := by simp [World.cell?, h, hv]
theorem frozen_at {w : World} {n : Nat} {cs : Array Value} {T : TypeId} (h : w.heap[n]? = some (.cells cs T (0, 0))) (i : Nat) : w.frozen? ⟨n, i, none⟩ = false := by simp [World.frozen?, h]
theorem heap_set {w : World} {b i : Nat} {cs : Array Value} {T : TypeId} (h : w.heap[b]? = some (.cells cs T (0, 0))) (v : Value) : (w.setCell ⟨b, i, none⟩ v).heap[b]? = some (.cells (cs.setIfInBounds i v) T (0, 0)) := by
  have hb : b < w.heap.size := (Array.getElem?_eq_some_iff.1 h).1
  have hb' : w.heap[b] = .cells cs T (0, 0) := by have := Array.getElem?_eq_getElem hb; rw [h] at this; exact (Option.some.inj this).symm
  simp [World.setCell, Array.getElem?_modify, h]
theorem owns_below {wr w3 : World} {base : Nat} {e : TypeId} {z : Nat} {v : Value} {n : Nat} {xs : List Value} (h : wr.ownsRow base e z v n xs) (B : Below wr.heap.size wr w3) : w3.ownsRow base e z v n xs := by
  obtain ⟨hl, hr⟩ := h
  refine ⟨hl, ?_⟩
  rcases hr with hr | ⟨g, cap, cur, hv, hb, hg, hrest⟩
  · exact .inl hr
  · exact .inr ⟨g, cap, cur, hv, hb, (B.block g (Array.getElem?_eq_some_iff.1 hg).1).trans hg, hrest⟩
theorem own_mono {w : World} {B B' : Nat} {e : TypeId} {z : Nat} {v : Value} {n : Nat} {xs : List Value} (h : w.ownsRow B e z v n xs) (hB : B' ≤ B) : w.ownsRow B' e z v n xs := by
  refine ⟨h.1, ?_⟩
  rcases h.2 with h | ⟨g, cap, cur, h1, h2, h3⟩
  · exact .inl h
  · exact .inr ⟨g, cap, cur, h1, Nat.le_trans hB h2, h3⟩
theorem heap_last (w : World) (o : Obj) : (w.alloc o).heap[w.heap.size]? = some o := Array.getElem?_push_size
theorem cells_new (w : World) (cs : Array Value) (T : TypeId) {n : Nat} (hn : w.heap.size = n) : ∀ (j : Nat) (u : Value), cs.toList[j]? = some u → (w.alloc (.cells cs T)).cell? ((⟨n, 0, none⟩ : Addr).add j) = some u := by
  subst hn
  intro j u hj
  have hlt : j < cs.size := by have := (List.getElem?_eq_some_iff.1 hj).1; simpa using this
  rw [Addr.add_lit, World.cell?_alloc_at _ _ _ _ (by simp)]
  simp at hj ⊢; exact hj
/-- The answer's box, and a value. -/
theorem results_two {P : Program} {fn : Func} {p q : Tmp} {ty : TypeId} (h : fn.results = #[.cell p ty, .tmp q]) (tmps : Array Value) (w : World) (g : Nat) (t : TypeId) (cs : Array Value) (fr : Nat × Nat) (d : TypeDesc) (r : Value)
    (hp : tmps.getD p undef = .pointer (some ⟨g, 0, none⟩)) (hq : tmps.getD q undef = r) (hg : w.heap[g]? = some (.cells cs t fr))
    (hu : P.underlying ty = some d) (hd : (match d with | .struct _ | .array _ _ => true | _ => false) = true) (hi : (P.info? ty).map (·.size) = some cs.size) :
    (results fn tmps).run P w = .ok (.tuple #[.agg cs, r]) w := by
  have hp' : tmps[p]?.getD undef = .pointer (some ⟨g, 0, none⟩) := by simpa using hp
  have hq' : tmps[q]?.getD undef = r := by simpa using hq
  simp [results, h, hp', hq', asAddr, run_loadVar_row w g t ty cs fr d hg hu hd hi, Result.andThen]
end Go.Proofs.YtpliljcjjffipaaGreatDoor.Jw
