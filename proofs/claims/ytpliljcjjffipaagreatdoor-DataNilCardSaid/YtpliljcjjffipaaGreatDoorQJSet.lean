/-
  flatironref11.Set.
-/
import Derived.Test.YtpliljcjjffipaaGreatDoorQJPGet
namespace Go.Proofs.YtpliljcjjffipaaGreatDoor.Jw
open Go.RowKit Go.Proofs.YtpliljcjjffipaaGreatDoor Go.Proofs.YtpliljcjjffipaaGreatDoor.Ww Go.Proofs.YtpliljcjjffipaaGreatDoor.Tw
set_option maxRecDepth 100000

def zeroT : Array Value := #[.slice none 0 0, .slice none 0 0, .slice none 0 0, .bool false]
def tA (vl vy vn : Value) (all : Bool) : Array Value := #[vl, vy, vn, .bool all]
/-- The three boxes that Set begins with. -/
structure Three (w : World) (t v : Array Value) (W : World) : Prop where
  t : W.heap[w.heap.size]? = some (.cells t TT (0, 0))
  v : W.heap[w.heap.size + 1]? = some (.cells v VT (0, 0))
  o : W.heap[w.heap.size + 2]? = some (.cells zeroT TT (0, 0))
  below : Below w.heap.size w W
theorem Three.new (w : World) (t v : Array Value) : Three w t v (((w.alloc (.cells t TT)).alloc (.cells v VT)).alloc (.cells zeroT TT)) := by
  have h1 := heap_last w (.cells t TT)
  have h2 := heap_last (w.alloc (.cells t TT)) (.cells v VT)
  have h3 := heap_last ((w.alloc (.cells t TT)).alloc (.cells v VT)) (.cells zeroT TT)
  rw [World.size_alloc] at h2
  rw [World.size_alloc, World.size_alloc] at h3
  have B1 := (Below.refl (w.alloc (.cells t TT)).heap.size (w.alloc (.cells t TT))).alloc (Nat.le_refl _) (.cells v VT)
  have B2 := (Below.refl ((w.alloc (.cells t TT)).alloc (.cells v VT)).heap.size ((w.alloc (.cells t TT)).alloc (.cells v VT))).alloc (Nat.le_refl _) (.cells zeroT TT)
  refine ⟨(B2.block _ (by simp; omega)).trans ((B1.block _ (by simp)).trans h1), (B2.block _ (by simp)).trans h2, h3, (((Below.refl _ _).alloc (Nat.le_refl _) _).alloc (by simp) _).alloc (by simp; omega) _⟩
theorem Three.on {w W W' : World} {t v : Array Value} (h : Three w t v W) (hB : Below W.heap.size W W') : Three w t v W' :=
  ⟨(hB.block _ (Array.getElem?_eq_some_iff.1 h.t).1).trans h.t, (hB.block _ (Array.getElem?_eq_some_iff.1 h.v).1).trans h.v, (hB.block _ (Array.getElem?_eq_some_iff.1 h.o).1).trans h.o, h.below.trans (hB.mono h.below.size)⟩
def SRel (W : World) (l : List Jp.V) (v : Jp.V) (vo vd vi : Value) (wr : World) : Prop :=
  ∃ (i : Nat) (d : Bool) (q : List Jp.V), vi = .int .i64 i ∧ vd = .bool d ∧ i ≤ l.length ∧ q.length ≤ 2 * i ∧ wr.ownsRow W.heap.size VT 4 vo q.length (vsC q) ∧ Below W.heap.size W wr ∧ Jp.insA v false l = q ++ Jp.insA v d (l.drop i)
/-- What Set returns. -/
def SetPost (w : World) (lo : Nat) (vy vn : Value) (all : Bool) (l : List Jp.V) (e : Ending) (w' : World) : Prop :=
  ∃ vl, e = .returned (.agg #[vl, vy, vn, .bool all]) ∧ w'.ownsRow lo VT 4 vl l.length (vsC l) ∧ Below w.heap.size w w'
theorem own_set {w : World} {lo g : Nat} {v : Value} {n : Nat} {xs : List Value} {cs old : Array Value} (h : w.ownsRow lo VT 4 v n xs) (hg : w.heap[g]? = some (.cells old TT (0, 0))) : (w.setRow g cs).ownsRow lo VT 4 v n xs := by
  obtain ⟨hl, hr⟩ := h
  refine ⟨hl, ?_⟩
  rcases hr with hr | ⟨k, cap, cur, hv, hb, hk, hrest⟩
  · exact .inl hr
  · refine .inr ⟨k, cap, cur, hv, hb, ?_, hrest⟩
    rw [setRow_other _ _ _ _ (fun e => by subst e; rw [hg] at hk; cases hk)]
    exact hk

theorem own_setc {w : World} {lo g i : Nat} {v u : Value} {n : Nat} {xs : List Value} {old : Array Value} (h : w.ownsRow lo VT 4 v n xs) (hg : w.heap[g]? = some (.cells old TT (0, 0))) : (w.setCell ⟨g, i, none⟩ u).ownsRow lo VT 4 v n xs := by
  obtain ⟨hl, hr⟩ := h
  refine ⟨hl, ?_⟩
  rcases hr with hr | ⟨k, cap, cur, hv, hb, hk, hrest⟩
  · exact .inl hr
  · refine .inr ⟨k, cap, cur, hv, hb, ?_, hrest⟩
    rw [Below.heap_setCell _ _ _ _ (fun e => by subst e; rw [hg] at hk; cases hk)]
    exact hk
/-- Behind the last store. -/
structure Fin (w : World) (u b c d : Value) (X : World) : Prop where
  t : X.heap[w.heap.size]? = some (.cells #[u, b, c, d] TT (0, 0))
  o : X.heap[w.heap.size + 2]? = some (.cells zeroT TT (0, 0))
  below : Below w.heap.size w X
theorem Three.fin {w W : World} {a b c d : Value} {v : Array Value} (h : Three w #[a, b, c, d] v W) (u : Value) : Fin w u b c d (W.setCell ⟨w.heap.size, 0, none⟩ u) :=
  ⟨heap_set h.t u, (Below.heap_setCell _ _ _ _ (by simp)).trans h.o, h.below.setCell (p := ⟨w.heap.size, 0, none⟩) (Nat.le_refl _) u⟩
theorem Fin.own {w W : World} {a b c d : Value} {v : Array Value} (h : Three w #[a, b, c, d] v W) {B lo : Nat} {vl : Value} {n : Nat} {xs : List Value} (hl : lo ≤ B) (ho : W.ownsRow B VT 4 vl n xs) (u : Value) (cs : Array Value) :
    ((W.setCell ⟨w.heap.size, 0, none⟩ u).setRow (w.heap.size + 2) cs).ownsRow lo VT 4 vl n xs :=
  own_set (own_setc (own_mono ho hl) h.t) (h.fin u).o

end Go.Proofs.YtpliljcjjffipaaGreatDoor.Jw
