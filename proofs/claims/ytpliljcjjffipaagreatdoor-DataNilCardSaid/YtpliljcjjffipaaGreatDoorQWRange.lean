/-
  A loop over an iterator that keeps its place in a variable of its own: the law for the caller. Conditions: what the iterator does between two rounds ('Mine') the caller's invariant abides; what a round keeps ('Kp') the iterator names.
-/
import Derived.RangeFuncFrom
import Derived.RangeFuncNested
import Derived.Shelf.Abstract
import Derived.Test.YtpliljcjjffipaaGreatDoorQWReads
namespace Go.Proofs.YtpliljcjjffipaaGreatDoor.Ww
open Go.RowKit Go

/-- What an iterator says of itself, for whatever body: all of it came, or the body stopped it. -/
def Iters {α : Type} (n : Nat) (P : Program) (gf : Nat) (lb : Array Value) (encs : α → Array Value) (Mine Kp : World → World → Prop) (S Sp : List α → Prop) (w : World) : Prop :=
  ∀ (l : Nat) (J Jx : List α → World → Prop) (W : World), Below w.heap.size w W → (∀ s X Y, J s X → Mine X Y → J s Y) →
    (∀ pre x X, J pre X → Sp (pre ++ [x]) → YieldAt Fence.wide (n - 1) P l (encs x) X fun e Y => (e = .returned (.bool true) ∧ J (pre ++ [x]) Y ∧ Kp X Y) ∨ (e = .returned (.bool false) ∧ Jx (pre ++ [x]) Y)) →
    J [] W → CallsIn Fence.wide n P gf (#[.func (.yield l) #[] #[]] ++ lb) W fun e Y => (∃ v, e = .returned v) ∧ ((∃ xs, S xs ∧ J xs Y) ∨ ∃ pre, Sp pre ∧ Jx pre Y)

/-- How a round's body ends. -/
def bodyEnds {α : Type} (Kp : World → World → Prop) (I : List α → World → Prop) (Ix : Code → List α → World → Prop) (xs : List α) (W : World) : Exit → Act → World → Prop
  | .normal, _, Y => KeepsOthers W Y ∧ Kp W Y ∧ I xs Y
  | .ret, _, Y => KeepsOthers W Y ∧ Ix .ret xs Y
  | .exit id, _, Y => KeepsOthers W Y ∧ Ix (.exit id) xs Y
  | _, _, _ => False

theorem range_law {α : Type} {n : Nat} {P : Program} {g : Operand} {ps : Array Tmp} {assign body : Code} {Q : Exit → Act → World → Prop} {a : Act} {w : World}
    (h1 : 1 ≤ n) {gf : Nat} {lb : Array Value} (hg : a.eval g = .func (.func gf) #[] lb) (eg : ∀ args w, (callFunc gf args).run P w = .ok (.enter gf args) w)
    {encs : α → Array Value} {Mine Kp : World → World → Prop} {S Sp : List α → Prop} (hseq : Iters (n - 1) P gf lb encs Mine Kp S Sp w)
    (hMine : ∀ X Y (k : Nat) (o : Obj), Mine X Y → X.heap[k]? = some o → o.isCells = false → Y.heap[k]? = some o)
    (hKt : ∀ A B C : World, Kp A B → Kp B C → Kp A C) (hKb : ∀ (W : World) (l : Nat) (o o' : Obj), w.heap.size ≤ l → W.heap[l]? = some o → o.isCells = false → Kp W (W.putObj l o')) (hps : ∀ x, (encs x).size = ps.size)
    (I : List α → World → Prop) (Ix : Code → List α → World → Prop) (hI : OwnFrom w.heap.size I) (hIx : ∀ c, OwnFrom w.heap.size (Ix c)) (hIm : ∀ s X Y, I s X → Mine X Y → I s Y) (h0 : I [] w) (a₁ : α → Act)
    (hassign : ∀ (l : Nat) (x : α) (W : World) (K : Act → World → Prop), K (a₁ x) W →
      assign.wpIn (Fence.wide.inRound l) (n - 1 - 1) P (Exit.then K (fun _ _ _ => False)) { tmps := (ps.zip (encs x)).foldl (fun t (p, v) => t.setIfInBounds p v) a.tmps, defers := [] } W)
    (hbody : ∀ (l : Nat) (pre : List α) (x : α) (W : World), I pre W → Sp (pre ++ [x]) → body.wpIn (Fence.wide.inRound l) (n - 1 - 1) P (bodyEnds Kp I Ix (pre ++ [x]) W) (a₁ x) W)
    (hdone : ∀ (D : Nat) (xs : List α) (W : World), w.heap.size ≤ D → S xs → I xs W → W.heap[D]? = some (.deferred (some [])) → Q .normal { a with defers := { target := .collected D, args := #[] } :: a.defers } W)
    (hstop : ∀ (D : Nat) (c : Code) (pre : List α) (W : World), w.heap.size ≤ D → Sp pre → Ix c pre W → W.heap[D]? = some (.deferred (some [])) → c.wpIn Fence.wide n P Q { a with defers := { target := .collected D, args := #[] } :: a.defers } W) :
    (Code.rangeFunc g ps assign body).wpIn Fence.wide n P Q a w := by
  apply wpIn_rangeFunc
  intro fn hfn
  -- the loop's record, by its state and the jump that waits
  let R : LoopState → Option Code → Obj := fun st pe => .loop { state := st, pending := pe, fn := fn, tmps := a.tmps, params := ps, assign := assign, body := body, defers := w.heap.size }
  let D := w.heap.size
  let L := w.heap.size + 1
  let W1 := (w.alloc (.deferred (some []))).alloc (R .ready none)
  have sz : W1.heap.size = w.heap.size + 2 := by simp [W1]
  have atL : W1.heap[L]? = some (R .ready none) := by
    have := World.alloc_heap_new (w.alloc (.deferred (some []))) (R .ready none)
    rw [World.size_alloc] at this; exact this
  have atD : W1.heap[D]? = some (.deferred (some [])) := (Below.heap_alloc _ _ _ (by simp [D])).trans (World.alloc_heap_new w _)
  have start : I [] W1 := hI.alloc _ (hI.alloc _ h0)
  have low : Below w.heap.size w W1 := ((Below.refl _ w).alloc (Nat.le_refl _) _).alloc (by simp) _
  -- the invariant that the iterator carries: the caller's, and the two blocks
  let J : List α → World → Prop := fun pre W => I pre W ∧ W.heap[L]? = some (R .ready none) ∧ W.heap[D]? = some (.deferred (some []))
  let Jx : List α → World → Prop := fun pre W => ∃ c, Ix c pre W ∧ W.heap[L]? = some (R .done (some c)) ∧ W.heap[D]? = some (.deferred (some []))
  refine ⟨L, [{ target := .collected D, args := #[] }], W1, { target := .fn (.func gf) lb, args := #[.func (.yield L) #[] #[]] }, W1, gf, #[.func (.yield L) #[] #[]] ++ lb, W1,
    run_enterLoop_outer _ _ _ _ _, ?_, fun _ _ => trivial, ?_, fun _ => h1, ?_⟩
  · simp only [resolve, hg]
    simp [go_sem]
  · simp [invoke, go_sem, eg]
  refine (hseq L J Jx W1 low ?_ ?_ ⟨start, atL, atD⟩).mono ?_
  · rintro s X Y ⟨i, il, id⟩ m
    exact ⟨hIm s X Y i m, hMine X Y L _ m il rfl, hMine X Y D _ m id rfl⟩
  · -- a round
    rintro pre x X ⟨i, il, id⟩ hsp
    have hy := run_yield (P := P) (args := encs x) il (hps x)
    refine ⟨_, _, _, _, hy, roundIn_of_wpIn hfn (hassign L x X _ ⟨_, run_beginRound il rfl, ?_⟩)⟩
    have ltL : L < X.heap.size := (Array.getElem?_eq_some_iff.1 il).1
    generalize hX2 : X.putObj L (.loop { ({ state := .ready, pending := none, fn := fn, tmps := a.tmps, params := ps, assign := assign, body := body, defers := w.heap.size } : Loop) with state := .busy }) = X2
    have bL : X2.heap[L]? = some (R .busy none) := by rw [← hX2]; exact World.putObj_heap_same ltL
    have bD : X2.heap[D]? = some (.deferred (some [])) := by rw [← hX2]; exact (World.putObj_heap_other (by simp only [D, L]; omega)).trans id
    have bK : Kp X X2 := by rw [← hX2]; exact hKb _ _ _ _ (by simp only [L]; omega) il rfl
    have bI : I pre X2 := by rw [← hX2]; exact hI.putObj _ i (by simp only [L]; omega) il rfl
    refine wpIn_mono (hbody L pre x X2 bI hsp) ?_
    rintro e a3 X3 hp
    cases e with
    | normal =>
      obtain ⟨ko, kk, i3⟩ := hp
      have l3 := ko.same L _ bL rfl
      have d3 := ko.same D _ bD rfl
      refine ⟨_, _, run_endRound none l3, .inl ⟨rfl, ⟨hI.putObj _ i3 (by simp only [L]; omega) l3 rfl, World.putObj_heap_same (Array.getElem?_eq_some_iff.1 l3).1, (World.putObj_heap_other (by simp only [D, L]; omega)).trans d3⟩, ?_⟩⟩
      exact hKt _ _ _ (hKt _ _ _ bK kk) (hKb _ _ _ _ (by simp only [L]; omega) l3 rfl)
    | ret =>
      obtain ⟨ko, i3⟩ := hp
      have l3 := ko.same L _ bL rfl
      have d3 := ko.same D _ bD rfl
      exact ⟨_, _, run_endRound (some .ret) l3, .inr ⟨rfl, .ret, (hIx _).putObj _ i3 (by simp only [L]; omega) l3 rfl, World.putObj_heap_same (Array.getElem?_eq_some_iff.1 l3).1, (World.putObj_heap_other (by simp only [D, L]; omega)).trans d3⟩⟩
    | exit id =>
      obtain ⟨ko, i3⟩ := hp
      have l3 := ko.same L _ bL rfl
      have d3 := ko.same D _ bD rfl
      exact ⟨_, _, run_endRound (some (.exit id)) l3, .inr ⟨rfl, .exit id, (hIx _).putObj _ i3 (by simp only [L]; omega) l3 rfl, World.putObj_heap_same (Array.getElem?_eq_some_iff.1 l3).1, (World.putObj_heap_other (by simp only [D, L]; omega)).trans d3⟩⟩
    | goto t => exact hp.elim
    | panic ch => exact hp.elim
    | outgrown => exact hp.elim
  · -- the iterator has returned
    rintro e X2 ⟨⟨v, rfl⟩, (⟨xs, hS, i, il, id⟩ | ⟨pre, hSp, c, i, il, id⟩)⟩
    · exact ⟨none, _, run_endLoop il (by simp), hdone D xs _ (Nat.le_refl _) hS (hI.putObj _ i (by simp only [L]; omega) il rfl) ((World.putObj_heap_other (by simp only [D, L]; omega)).trans id)⟩
    · exact ⟨some c, _, run_endLoop il (by simp), hstop D c pre _ (Nat.le_refl _) hSp ((hIx _).putObj _ i (by simp only [L]; omega) il rfl) ((World.putObj_heap_other (by simp only [D, L]; omega)).trans id)⟩
end Go.Proofs.YtpliljcjjffipaaGreatDoor.Ww
