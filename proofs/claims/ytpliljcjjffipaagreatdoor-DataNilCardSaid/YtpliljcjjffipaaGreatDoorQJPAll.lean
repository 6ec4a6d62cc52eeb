/-
  kept.grow: a text put behind another one's, in a builder.
  (*Table).More.
  (*Table).More whole; (*Table).Maybe.
  (*Table).All: the variables, by rising names.
-/
import Derived.Test.YtpliljcjjffipaaGreatDoorQJBuild
import Derived.Test.YtpliljcjjffipaaGreatDoorQJPSet
import Derived.Test.YtpliljcjjffipaaGreatDoorQJSet
import Derived.Deep.RegionHeld3
import Derived.Shelf.SlIter.Nil
import Derived.Sort.OwnSorted
import Derived.Test.YtpliljcjjffipaaGreatDoorShelf
namespace Go.Proofs.YtpliljcjjffipaaGreatDoor.Jw
open Go.RowKit Go.Proofs.YtpliljcjjffipaaGreatDoor Go.Proofs.YtpliljcjjffipaaGreatDoor.Ww Go.Proofs.YtpliljcjjffipaaGreatDoor.Tw Go.Proofs.YtpliljcjjffipaaGreatDoor.Kw
set_option maxRecDepth 100000

def zeroK : Array Value := #[.string ⟨#[]⟩, .string ⟨#[]⟩, .bool false, .int .i64 0, .pointer none]
/-- The boxes of grow. -/
structure GB (w : World) (k v : Array Value) (W : World) : Prop where
  k : W.heap[w.heap.size]? = some (.cells k PK (0, 0))
  v : W.heap[w.heap.size + 1]? = some (.cells v PV (0, 0))
  r : W.heap[w.heap.size + 2]? = some (.cells zeroK PK (0, 0))
theorem GB.new (w : World) (k v : Array Value) : GB w k v (((w.alloc (.cells k PK)).alloc (.cells v PV)).alloc (.cells zeroK PK)) := by
  have h1 := heap_last w (.cells k PK)
  have h2 := heap_last (w.alloc (.cells k PK)) (.cells v PV)
  have h3 := heap_last ((w.alloc (.cells k PK)).alloc (.cells v PV)) (.cells zeroK PK)
  rw [World.size_alloc] at h2
  rw [World.size_alloc, World.size_alloc] at h3
  have B1 := (Below.refl (w.alloc (.cells k PK)).heap.size (w.alloc (.cells k PK))).alloc (Nat.le_refl _) (.cells v PV)
  have B2 := (Below.refl ((w.alloc (.cells k PK)).alloc (.cells v PV)).heap.size ((w.alloc (.cells k PK)).alloc (.cells v PV))).alloc (Nat.le_refl _) (.cells zeroK PK)
  exact ⟨(B2.block _ (by simp; omega)).trans ((B1.block _ (by simp)).trans h1), (B2.block _ (by simp)).trans h2, h3⟩
theorem GB.lt {w W : World} {k v : Array Value} (h : GB w k v W) : w.heap.size + 2 < W.heap.size := (Array.getElem?_eq_some_iff.1 h.r).1
theorem GB.kept {w W W' : World} {k v : Array Value} {Y : List Nat} (h : GB w k v W) (hk : Kept Y W W') (hY : ∀ i ∈ Y, i < w.heap.size ∨ w.heap.size + 2 < i) : GB w k v W' := by
  have hl := h.lt
  exact ⟨(hk.block _ (by omega) fun e => by have := hY _ e; omega).trans h.k, (hk.block _ (by omega) fun e => by have := hY _ e; omega).trans h.v, (hk.block _ (by omega) fun e => by have := hY _ e; omega).trans h.r⟩
/-- How far grow has come: the builder's text is l. -/
structure GSt (w : World) (X : List Nat) (b : Nat) (l : Bs) (k v : Array Value) (W : World) : Prop where
  box : GB w k v W
  kept : Kept X w W
  lt : ∀ i ∈ X, i < w.heap.size
  bld : ∃ O pv bv, BldAt W b O l pv bv ∧ ∀ i ∈ O, i ∈ X ∨ w.heap.size + 2 < i
theorem GSt.ofB {w W W' : World} {X : List Nat} {b : Nat} {l l' : Bs} {k v : Array Value} {O : List Nat} (h : GSt w X b l k v W) (hO : ∀ i ∈ O, i ∈ X ∨ w.heap.size + 2 < i) (hb : BPost W b O l' W') : GSt w X b l' k v W' := by
  obtain ⟨O', pv, bv, h1, h2, h3⟩ := hb
  have hl := h.box.lt
  refine ⟨h.box.kept h2 fun i hi => ?_, h.kept.trans_new h2 fun i hi => ?_, h.lt, O', pv, bv, h1, fun i hi => ?_⟩
  · rcases hO i hi with h5 | h5
    · exact .inl (h.lt i h5)
    · exact .inr h5
  · rcases hO i hi with h5 | h5
    · exact .inl h5
    · exact .inr (by omega)
  · rcases h3 i hi with h5 | h5
    · exact hO i h5
    · exact .inr (by omega)
theorem GSt.st {w W : World} {X : List Nat} {b : Nat} {l : Bs} {k v : Array Value} (h : GSt w X b l k v W) (h0 : l ≠ []) :
    Calls Tryz.prog 140 #[.pointer (some ⟨b, 0, none⟩)] W fun e W' => e = .returned (.string (str l)) ∧ GSt w X b l k v W' := by
  obtain ⟨O, pv, bv, hb, hO⟩ := h.bld
  refine (String_any W hb h0).mono ?_
  rintro e W' ⟨he, hp, hk⟩
  exact ⟨he, h.ofB hO ⟨O, pv, bv, hp, hk, fun i hi => .inl hi⟩⟩
theorem GSt.put_v {w W : World} {X : List Nat} {b : Nat} {l : Bs} {k v : Array Value} (h : GSt w X b l k v W) (i : Nat) (u : Value) : GSt w X b l k (v.setIfInBounds i u) (W.setCell ⟨w.heap.size + 1, i, none⟩ u) := by
  obtain ⟨O, pv, bv, hb, hO⟩ := h.bld
  refine ⟨⟨heap_ne h.box.k (by omega) u, heap_set h.box.v u, heap_ne h.box.r (by omega) u⟩, h.kept.setCell (p := ⟨w.heap.size + 1, i, none⟩) (.inr (by show w.heap.size ≤ w.heap.size + 1; omega)) u, h.lt, O, pv, bv, ?_, hO⟩
  refine hb.block fun j hj => Below.heap_setCell _ _ _ _ ?_
  intro e
  rcases hO j hj with h5 | h5
  · have := h.lt j h5; rw [e] at this; simp at this; omega
  · rw [e] at h5; simp at h5
theorem GSt.cells {w W : World} {X : List Nat} {b : Nat} {l : Bs} {k0 k1 k2 k3 k4 v0 v1 v2 v3 : Value} (h : GSt w X b l #[k0, k1, k2, k3, k4] #[v0, v1, v2, v3] W) :
    W.cell? ⟨w.heap.size, 1, none⟩ = some k1 ∧ W.cell? ⟨w.heap.size, 4, none⟩ = some k4 ∧ W.cell? ⟨w.heap.size + 1, 0, none⟩ = some v0 ∧ W.cell? ⟨w.heap.size + 1, 1, none⟩ = some v1 ∧ W.cell? ⟨w.heap.size + 1, 2, none⟩ = some v2 ∧ W.cell? ⟨w.heap.size + 1, 3, none⟩ = some v3 ∧ W.frozen? ⟨w.heap.size + 1, 1, none⟩ = false ∧ w.heap.size < W.heap.size ∧ w.heap.size + 1 < W.heap.size := by
  have hl := h.box.lt
  exact ⟨cell_at h.box.k rfl, cell_at h.box.k rfl, cell_at h.box.v rfl, cell_at h.box.v rfl, cell_at h.box.v rfl, cell_at h.box.v rfl, frozen_at h.box.v 1, by omega, by omega⟩

/-- What grow returns. -/
def GrPost (w : World) (X : List Nat) (b : Nat) (v : Jp.V) (x : Bs) (e : Ending) (w' : World) : Prop :=
  e = .returned (.agg #[.string (str v.n), .string (str (x ++ 32 :: v.x)), .bool v.s, .int .i64 v.f, .pointer (some ⟨b, 0, none⟩)]) ∧ Kept X w w' ∧ ∃ O pv bv, BldAt w' b O (x ++ 32 :: v.x) pv bv ∧ ∀ i ∈ O, i ∈ X ∨ w.heap.size ≤ i
theorem GSt.done {w W : World} {X : List Nat} {b : Nat} {v : Jp.V} {x : Bs} {k vv cs : Array Value} (h : GSt w X b (x ++ 32 :: v.x) k vv W) :
    GrPost w X b v x (.returned (.agg #[.string (str v.n), .string (str (x ++ 32 :: v.x)), .bool v.s, .int .i64 v.f, .pointer (some ⟨b, 0, none⟩)])) (W.setRow (w.heap.size + 2) cs) := by
  obtain ⟨O, pv, bv, hb, hO⟩ := h.bld
  refine ⟨rfl, ⟨h.kept.os, h.kept.tape, h.kept.output, by simpa using h.kept.size, fun i hi hx => (setRow_other _ _ _ _ (by omega)).trans (h.kept.block i hi hx)⟩, O, pv, bv, hb.block fun i hi => setRow_other _ _ _ _ ?_, fun i hi => ?_⟩
  · rcases hO i hi with h5 | h5
    · have := h.lt i h5; omega
    · omega
  · rcases hO i hi with h5 | h5
    · exact .inl h5
    · exact .inr (by omega)

theorem GSt.made {w : World} {n x : Bs} {s : Bool} {f : Int} {v : Jp.V} : GSt w [] (w.heap.size + 3) [] #[.string (str n), .string (str x), .bool s, .int .i64 f, .pointer (some ⟨w.heap.size + 3, 0, none⟩)] (vA v)
    ((((w.alloc (.cells #[.string (str n), .string (str x), .bool s, .int .i64 f, .pointer (some ⟨w.heap.size + 3, 0, none⟩)] PK)).alloc (.cells (vA v) PV)).alloc (.cells zeroK PK)).alloc (.cells #[.pointer none, .slice none 0 0] BT)) := by
  have hB : Below w.heap.size w (((w.alloc (.cells #[.string (str n), .string (str x), .bool s, .int .i64 f, .pointer (some ⟨w.heap.size + 3, 0, none⟩)] PK)).alloc (.cells (vA v) PV)).alloc (.cells zeroK PK)) := (((Below.refl _ _).alloc (Nat.le_refl _) _).alloc (by simp) _).alloc (by simp; omega) _
  have hbl := BldAt.new (((w.alloc (.cells #[.string (str n), .string (str x), .bool s, .int .i64 f, .pointer (some ⟨w.heap.size + 3, 0, none⟩)] PK)).alloc (.cells (vA v) PV)).alloc (.cells zeroK PK))
  simp only [World.size_alloc] at hbl
  refine ⟨(GB.new _ _ _).kept ((Kept.refl [] _).alloc _) (fun i h => (by cases h)), (Kept.of_below hB).alloc _, fun i h => (by cases h), [w.heap.size + 3], _, _, hbl, fun i hi => .inr ?_⟩
  have := List.mem_singleton.1 hi
  omega
end Go.Proofs.YtpliljcjjffipaaGreatDoor.Jw
namespace Go.Proofs.YtpliljcjjffipaaGreatDoor.Jw
open Go.RowKit Go.Proofs.YtpliljcjjffipaaGreatDoor Go.Proofs.YtpliljcjjffipaaGreatDoor.Ww Go.Proofs.YtpliljcjjffipaaGreatDoor.Tw Go.Proofs.YtpliljcjjffipaaGreatDoor.Kw
set_option maxRecDepth 100000

end Go.Proofs.YtpliljcjjffipaaGreatDoor.Jw
namespace Go.Proofs.YtpliljcjjffipaaGreatDoor.Jw
open Go.RowKit Go.Proofs.YtpliljcjjffipaaGreatDoor Go.Proofs.YtpliljcjjffipaaGreatDoor.Ww Go.Proofs.YtpliljcjjffipaaGreatDoor.Tw Go.Proofs.YtpliljcjjffipaaGreatDoor.Kw
set_option maxRecDepth 100000

/-- What Maybe makes. -/
def maybeL (T : Jp.T) (v : Jp.V) : List Jp.V := match Jp.getA T.l v.n with
  | some _ => T.l
  | none => if Jp.rightA v = true then (Jp.setA T v).l else T.l
def maybeN (T : Jp.T) (v : Jp.V) : Int := match Jp.getA T.l v.n with
  | some _ => 0
  | none => if Jp.rightA v = true then 0 else 1
end Go.Proofs.YtpliljcjjffipaaGreatDoor.Jw
namespace Go.Proofs.YtpliljcjjffipaaGreatDoor.Jw
open Go.RowKit Go.Proofs.YtpliljcjjffipaaGreatDoor Go.Proofs.YtpliljcjjffipaaGreatDoor.Ww Go.Proofs.YtpliljcjjffipaaGreatDoor.Tw Go.Proofs.YtpliljcjjffipaaGreatDoor.Kw Go.Maps Go.Shelf Go.Sort
set_option maxRecDepth 100000

theorem strKeys_mapOf {α : Type} (K : Kind α) (L : List (Bs × α)) : strKeys (Kp.mapOf K.enc L) = L.map (·.1) := by
  show ((L.map (Kp.ent K.enc)).map fun q => strOf q.1) = _
  rw [List.map_map]; rfl
theorem sorted_keys {α : Type} (K : Kind α) {L : List (Bs × α)} (hs : Kp.Sorted L) {ss : List (List UInt8)} (h : ss.Perm (strKeys (Kp.mapOf K.enc L))) : ss.mergeSort (fun x y => decide (x ≤ y)) = L.map (·.1) := by
  rw [strKeys_mapOf] at h
  have h2 : ss.mergeSort (fun x y => decide (x ≤ y)) = (L.map (·.1)).mergeSort (fun x y => decide (x ≤ y)) := mergeSort_of_perm h
  rw [h2]
  exact List.mergeSort_of_pairwise (List.pairwise_map.2 (hs.imp fun {a b} hab => by simpa using List.le_of_lt hab))
abbrev MK : TypeId := 132



theorem sorts (m : Nat) : AnyZ.SortsIn Tryz.prog Tryz.laysSorted_ren Fence.wide m :=
  ⟨fun blk off cap ss W hH hblk hsz => callsIn_wide.2 (Tryz.slices_Sort_string blk off cap ss W hH hblk hsz),
   fun p cap W => callsIn_wide.2 (Tryz.slices_Sort_string_none p cap W)⟩
/-- The keys as a row. -/
def keysC (E : List (Bs × KE)) : List Value := nC (E.map (·.1))
































/-- What All returns. -/
def APost (w : World) (L : List Jp.V) (e : Ending) (w' : World) : Prop := ∃ v, e = .returned v ∧ w'.ownsRow w.heap.size PV 4 v L.length (vsC L) ∧ Below w.heap.size w w'





def ARel (W : World) (E : List (Bs × KE)) (vo vi : Value) (wr : World) : Prop :=
  ∃ (i : Nat) (a : Option Addr) (c : Nat), vi = .int .i64 i ∧ i ≤ E.length ∧ vo = .slice a i c ∧ wr.ownsRow W.heap.size PV 4 (.slice a i c) i (vsC ((E.take i).map fun e => e.2.v)) ∧ Below W.heap.size W wr
























































































end Go.Proofs.YtpliljcjjffipaaGreatDoor.Jw
