/-
  A loop over an iterator that keeps its place in a variable of its own: the law for the caller. Conditions: what the iterator does between two rounds ('Mine') the caller's invariant abides; what a round keeps ('Kp') the iterator names.
  The plain side of package path: what its functions make of lists of bytes, and that this is what the document's answer makes. No program, no world.
  What small callees of package path do: the last place of a byte in a slice.
  strings.SplitSeq at a slash: what the iterator hands over, piece by piece.
  path.follow: for every slice that the caller owns and every string.
  path.Join and path.Clean: for every list of strings that fits into memory.
-/
import Derived.RangeFuncFrom
import Derived.Shelf.Abstract
import Derived.Lib.SplitLaws
import Derived.Lib.PathFns
import Derived.WalkKit
import Derived.LoopTactic
import Derived.WalkSpells
import Derived.WalkLawsBesides
import Derived.Lib.Hide
import Derived.Lib.Walk
import Derived.Lib.Bytealg
import Derived.Outline
import Derived.Test.YtgednccpjegbmaaGreatDoorProg
import Derived.RangeFuncNested
import Derived.RangeFuncBound
import Derived.RangeFuncCalls
import Derived.RangeFuncLeaves
import Derived.RangeFuncBox
import Derived.Shelf.RegionOpen
import Derived.OwnWalkIn
import Derived.TacticsInMore
import Derived.LoopNIn
import Derived.LoopIn
import Derived.Lib.Split
import Derived.Lib.AppendStr
import Derived.WalkSmall
import Derived.Deep.DeepCutAuto
import Derived.Deep.RegionWith
import Derived.Maps.AppendAt
import Derived.Deep.DeepMust
import Derived.Laws.IdiomStrings
namespace Go.Proofs.YtgednccpjegbmaaGreatDoor
open Go.RowKit Go

/-- What an iterator says of itself, for whatever body: all of it came, or the body stopped it. -/
def Iters {α : Type} (n : Nat) (P : Program) (gf : Nat) (lb : Array Value) (encs : α → Array Value) (Mine Kp : World → World → Prop) (S Sp : List α → Prop) (w : World) : Prop :=
  ∀ (l : Nat) (J Jx : List α → World → Prop) (W : World), Below w.heap.size w W → (∀ s X Y, J s X → Mine X Y → J s Y) →
    (∀ pre x X, J pre X → Sp (pre ++ [x]) → YieldAt Fence.wide (n - 1) P l (encs x) X fun e Y => (e = .returned (.bool true) ∧ J (pre ++ [x]) Y ∧ Kp X Y) ∨ (e = .returned (.bool false) ∧ Jx (pre ++ [x]) Y)) →
    J [] W → CallsIn Fence.wide n P gf (#[.func (.yield l) #[] #[]] ++ lb) W fun e Y => (∃ v, e = .returned v) ∧ ((∃ xs, S xs ∧ J xs Y) ∨ ∃ pre, Sp pre ∧ Jx pre Y)

/-- How a round's body ends. -/
def bodyEnds {α : Type} (Kp : World → World → Prop) (I : List α → World → Prop) (Ix : List α → World → Prop) (xs : List α) (W : World) : Exit → Act → World → Prop
  | .normal, _, Y => KeepsOthers W Y ∧ Kp W Y ∧ I xs Y
  | .ret, _, Y => KeepsOthers W Y ∧ Ix xs Y
  | _, _, _ => False

theorem range_law {α : Type} {n : Nat} {P : Program} {g : Operand} {ps : Array Tmp} {assign body : Code} {Q : Exit → Act → World → Prop} {a : Act} {w : World}
    (h1 : 1 ≤ n) {gf : Nat} {lb : Array Value} (hg : a.eval g = .func (.func gf) #[] lb) (eg : ∀ args w, (callFunc gf args).run P w = .ok (.enter gf args) w)
    {encs : α → Array Value} {Mine Kp : World → World → Prop} {S Sp : List α → Prop} (hseq : Iters (n - 1) P gf lb encs Mine Kp S Sp w)
    (hMine : ∀ X Y (k : Nat) (o : Obj), Mine X Y → X.heap[k]? = some o → o.isCells = false → Y.heap[k]? = some o)
    (hKt : ∀ A B C : World, Kp A B → Kp B C → Kp A C) (hKb : ∀ (W : World) (l : Nat) (o o' : Obj), w.heap.size ≤ l → W.heap[l]? = some o → o.isCells = false → Kp W (W.putObj l o')) (hps : ∀ x, (encs x).size = ps.size)
    (I Ix : List α → World → Prop) (hI : OwnFrom w.heap.size I) (hIx : OwnFrom w.heap.size Ix) (hIm : ∀ s X Y, I s X → Mine X Y → I s Y) (h0 : I [] w) (a₁ : α → Act)
    (hassign : ∀ (l : Nat) (x : α) (W : World) (K : Act → World → Prop), K (a₁ x) W →
      assign.wpIn (Fence.wide.inRound l) (n - 1 - 1) P (Exit.then K (fun _ _ _ => False)) { tmps := (ps.zip (encs x)).foldl (fun t (p, v) => t.setIfInBounds p v) a.tmps, defers := [] } W)
    (hbody : ∀ (l : Nat) (pre : List α) (x : α) (W : World), I pre W → Sp (pre ++ [x]) → body.wpIn (Fence.wide.inRound l) (n - 1 - 1) P (bodyEnds Kp I Ix (pre ++ [x]) W) (a₁ x) W)
    (hdone : ∀ (D : Nat) (xs : List α) (W : World), w.heap.size ≤ D → S xs → I xs W → W.heap[D]? = some (.deferred (some [])) → Q .normal { a with defers := { target := .collected D, args := #[] } :: a.defers } W)
    (hstop : ∀ (D : Nat) (pre : List α) (W : World), w.heap.size ≤ D → Sp pre → Ix pre W → W.heap[D]? = some (.deferred (some [])) → Code.ret.wpIn Fence.wide n P Q { a with defers := { target := .collected D, args := #[] } :: a.defers } W) :
    (Code.rangeFunc g ps assign body).wpIn Fence.wide n P Q a w := by
  apply wpIn_rangeFunc
  intro fn hfn
  -- the loop's record, by its state and the jump that waits
  let R : LoopState → Option Code → Obj := fun st pe => .loop { state := st, pending := pe, fn := fn, tmps := a.tmps, params := ps, assign := assign, body := body, defers := w.heap.size }
  let D := w.heap.size
  let L := w.heap.size + 1
  let W1 := (w.alloc (.deferred (some []))).alloc (R .ready none)
  have sz : W1.heap.size = w.heap.size + 2 := by simp [W1]
  have atL : W1.heap[L]? = some (R .ready none) := by
    have := World.alloc_heap_new (w.alloc (.deferred (some []))) (R .ready none)
    rw [World.size_alloc] at this; exact this
  have atD : W1.heap[D]? = some (.deferred (some [])) := (Below.heap_alloc _ _ _ (by simp [D])).trans (World.alloc_heap_new w _)
  have start : I [] W1 := hI.alloc _ (hI.alloc _ h0)
  have low : Below w.heap.size w W1 := ((Below.refl _ w).alloc (Nat.le_refl _) _).alloc (by simp) _
  -- the invariant that the iterator carries: the caller's, and the two blocks
  let J : List α → World → Prop := fun pre W => I pre W ∧ W.heap[L]? = some (R .ready none) ∧ W.heap[D]? = some (.deferred (some []))
  let Jx : List α → World → Prop := fun pre W => Ix pre W ∧ W.heap[L]? = some (R .done (some .ret)) ∧ W.heap[D]? = some (.deferred (some []))
  refine ⟨L, [{ target := .collected D, args := #[] }], W1, { target := .fn (.func gf) lb, args := #[.func (.yield L) #[] #[]] }, W1, gf, #[.func (.yield L) #[] #[]] ++ lb, W1,
    run_enterLoop_outer _ _ _ _ _, ?_, fun _ _ => trivial, ?_, fun _ => h1, ?_⟩
  · simp only [resolve, hg]
    simp [go_sem]
  · simp [invoke, go_sem, eg]
  refine (hseq L J Jx W1 low ?_ ?_ ⟨start, atL, atD⟩).mono ?_
  · rintro s X Y ⟨i, il, id⟩ m
    exact ⟨hIm s X Y i m, hMine X Y L _ m il rfl, hMine X Y D _ m id rfl⟩
  · -- a round
    rintro pre x X ⟨i, il, id⟩ hsp
    have hy := run_yield (P := P) (args := encs x) il (hps x)
    refine ⟨_, _, _, _, hy, roundIn_of_wpIn hfn (hassign L x X _ ⟨_, run_beginRound il rfl, ?_⟩)⟩
    have ltL : L < X.heap.size := (Array.getElem?_eq_some_iff.1 il).1
    generalize hX2 : X.putObj L (.loop { ({ state := .ready, pending := none, fn := fn, tmps := a.tmps, params := ps, assign := assign, body := body, defers := w.heap.size } : Loop) with state := .busy }) = X2
    have bL : X2.heap[L]? = some (R .busy none) := by rw [← hX2]; exact World.putObj_heap_same ltL
    have bD : X2.heap[D]? = some (.deferred (some [])) := by rw [← hX2]; exact (World.putObj_heap_other (by simp only [D, L]; omega)).trans id
    have bK : Kp X X2 := by rw [← hX2]; exact hKb _ _ _ _ (by simp only [L]; omega) il rfl
    have bI : I pre X2 := by rw [← hX2]; exact hI.putObj _ i (by simp only [L]; omega) il rfl
    refine wpIn_mono (hbody L pre x X2 bI hsp) ?_
    rintro e a3 X3 hp
    cases e with
    | normal =>
      obtain ⟨ko, kk, i3⟩ := hp
      have l3 := ko.same L _ bL rfl
      have d3 := ko.same D _ bD rfl
      refine ⟨_, _, run_endRound none l3, .inl ⟨rfl, ⟨hI.putObj _ i3 (by simp only [L]; omega) l3 rfl, World.putObj_heap_same (Array.getElem?_eq_some_iff.1 l3).1, (World.putObj_heap_other (by simp only [D, L]; omega)).trans d3⟩, ?_⟩⟩
      exact hKt _ _ _ (hKt _ _ _ bK kk) (hKb _ _ _ _ (by simp only [L]; omega) l3 rfl)
    | ret =>
      obtain ⟨ko, i3⟩ := hp
      have l3 := ko.same L _ bL rfl
      have d3 := ko.same D _ bD rfl
      exact ⟨_, _, run_endRound (some .ret) l3, .inr ⟨rfl, hIx.putObj _ i3 (by simp only [L]; omega) l3 rfl, World.putObj_heap_same (Array.getElem?_eq_some_iff.1 l3).1, (World.putObj_heap_other (by simp only [D, L]; omega)).trans d3⟩⟩
    | exit id => exact hp.elim
    | goto t => exact hp.elim
    | panic ch => exact hp.elim
    | outgrown => exact hp.elim
  · -- the iterator has returned
    rintro e X2 ⟨⟨v, rfl⟩, (⟨xs, hS, i, il, id⟩ | ⟨pre, hSp, i, il, id⟩)⟩
    · exact ⟨none, _, run_endLoop il (by simp), hdone D xs _ (Nat.le_refl _) hS (hI.putObj _ i (by simp only [L]; omega) il rfl) ((World.putObj_heap_other (by simp only [D, L]; omega)).trans id)⟩
    · exact ⟨some .ret, _, run_endLoop il (by simp), hstop D pre _ (Nat.le_refl _) hSp (hIx.putObj _ i (by simp only [L]; omega) il rfl) ((World.putObj_heap_other (by simp only [D, L]; omega)).trans id)⟩
end Go.Proofs.YtgednccpjegbmaaGreatDoor
namespace Go.Proofs.YtgednccpjegbmaaGreatDoor.Pt
abbrev Bs := List UInt8

/-- The pieces between slashes. -/
def pieces : Bs → List Bs
  | [] => [[]]
  | c :: r => if c = 47 then [] :: pieces r else
    match pieces r with
    | [] => [[c]]
    | x :: xs => (c :: x) :: xs

theorem pieces_ne (s : Bs) : pieces s ≠ [] := by
  cases s with
  | nil => simp [pieces]
  | cons c r =>
    unfold pieces
    split
    · simp
    · split <;> simp

/-- A piece ahead of a slash. -/
theorem pieces_hit : ∀ (a b : Bs), 47 ∉ a → pieces (a ++ 47 :: b) = a :: pieces b
  | [], b, _ => by simp [pieces]
  | c :: a, b, h => by
    have hc : ¬ c = 47 := fun e => h (by simp [e])
    have ha : 47 ∉ a := fun e => h (by simp [e])
    show pieces (c :: (a ++ 47 :: b)) = _
    rw [pieces, if_neg hc, pieces_hit a b ha]

theorem pieces_none : ∀ (a : Bs), 47 ∉ a → pieces a = [a]
  | [], _ => rfl
  | c :: a, h => by
    have hc : ¬ c = 47 := fun e => h (by simp [e])
    have ha : 47 ∉ a := fun e => h (by simp [e])
    rw [pieces, if_neg hc, pieces_none a ha]

theorem pieces_no : ∀ (s : Bs), ∀ x ∈ pieces s, 47 ∉ x
  | [], x, hx => by simp [pieces] at hx; simp [hx]
  | c :: r, x, hx => by
    have ih := pieces_no r
    unfold pieces at hx
    split at hx
    · rcases List.mem_cons.1 hx with rfl | h
      · simp
      · exact ih x h
    · rename_i hc
      split at hx
      · simp at hx; subst hx; simpa using fun e : (47 : UInt8) = c => hc e.symm
      · rename_i y ys he
        rcases List.mem_cons.1 hx with rfl | h
        · have := ih y (by rw [he]; simp)
          simp only [List.mem_cons, not_or]
          exact ⟨fun e => hc e.symm, this⟩
        · exact ih x (by rw [he]; simp [h])

/-- What says nothing is left out. -/
def says (p : Bs) : Bool := !(p == []) && !(p == [46])
def parts (s : Bs) : List Bs := (pieces s).filter says

/-- A part of a path. -/
def Good (p : Bs) : Prop := p ≠ [] ∧ p ≠ [46] ∧ p ≠ [46, 46] ∧ 47 ∉ p

/-- Where a part leads. -/
def step (out : List Bs) (p : Bs) : Option (List Bs) := if p = [46, 46] then (if out = [] then none else some out.dropLast) else some (out ++ [p])
def walk : List Bs → List Bs → Option (List Bs)
  | out, [] => some out
  | out, p :: ps => match step out p with
    | none => none
    | some o => walk o ps
def go : List Bs → List Bs → Option (List Bs)
  | out, [] => some out
  | out, s :: r => match walk out (parts s) with
    | none => none
    | some o => go o r

/-- Parts with a slash between. -/
def inter : List Bs → Bs
  | [] => []
  | [x] => x
  | x :: y :: r => x ++ 47 :: inter (y :: r)
def text (l : List Bs) : Bs := if inter l = [] then [46] else inter l
/-- The document's Join. -/
def join (l : List Bs) : Option Bs := (go [] l).map text

/-- How follow goes, on bytes. -/
def stepB (p part : Bs) : Option Bs :=
  if part = [] ∨ part = [46] then some p
  else if part = [46, 46] then (if p = [] then none else some (p.take (max (Lib.Pa.lastIndexByte p 47) 0).toNat))
  else some ((if p = [] then p else p ++ [47]) ++ part)
def walkB : Bs → List Bs → Option Bs
  | p, [] => some p
  | p, x :: xs => match stepB p x with
    | none => none
    | some q => walkB q xs
def goB : Bs → List Bs → Option Bs
  | p, [] => some p
  | p, s :: r => match walkB p (pieces s) with
    | none => none
    | some q => goB q r

theorem inter_snoc : ∀ (l : List Bs) (x : Bs), l ≠ [] → inter (l ++ [x]) = inter l ++ 47 :: x
  | [], _, h => absurd rfl h
  | [a], x, _ => by simp [inter]
  | a :: b :: r, x, _ => by
    have := inter_snoc (b :: r) x (by simp)
    simp only [List.cons_append] at this ⊢
    rw [inter, this, inter]
    simp

theorem inter_nil {l : List Bs} (h : ∀ x ∈ l, Good x) : inter l = [] ↔ l = [] := by
  constructor
  · intro e
    match l, h, e with
    | [], _, _ => rfl
    | [a], h, e => exact absurd e (h a (by simp)).1
    | a :: b :: r, h, e => simp [inter] at e
  · rintro rfl; rfl

theorem last_none (x : Bs) (h : 47 ∉ x) : Lib.Pa.lastIndexByte x 47 = -1 := by
  rcases Lib.Pa.lastIndexByte_spec x 47 with ⟨e, _⟩ | ⟨i, _, hi, _⟩
  · exact e
  · exact absurd (List.mem_of_getElem? hi) h

theorem last_at (a x : Bs) (h : 47 ∉ x) : Lib.Pa.lastIndexByte (a ++ 47 :: x) 47 = a.length := by
  have h0 : (a ++ 47 :: x)[a.length]? = some 47 := by simp
  have h1 : ∀ j, a.length < j → (a ++ 47 :: x)[j]? ≠ some 47 := by
    intro j hj e
    rw [List.getElem?_append_right (by omega)] at e
    obtain ⟨k, rfl⟩ : ∃ k, j = a.length + 1 + k := ⟨j - a.length - 1, by omega⟩
    rw [show a.length + 1 + k - a.length = k + 1 by omega, List.getElem?_cons_succ] at e
    exact h (List.mem_of_getElem? e)
  rcases Lib.Pa.lastIndexByte_spec (a ++ 47 :: x) 47 with ⟨_, hn⟩ | ⟨i, e, hi, hn⟩
  · exact absurd h0 (hn _)
  · rw [e]
    by_cases hlt : i < a.length
    · exact absurd h0 (hn _ hlt)
    · by_cases hgt : a.length < i
      · exact absurd hi (h1 _ hgt)
      · have : i = a.length := by omega
        rw [this]

theorem good_of_piece {x : Bs} (h : 47 ∉ x) (hs : says x = true) (h2 : ¬ x = [46, 46]) : Good x := by
  refine ⟨?_, ?_, h2, h⟩
  · rintro rfl; simp [says] at hs
  · rintro rfl; simp [says] at hs

theorem step_good {out o : List Bs} {x : Bs} (hg : ∀ y ∈ out, Good y) (h : 47 ∉ x) (hs : says x = true) (e : step out x = some o) : ∀ y ∈ o, Good y := by
  unfold step at e
  split at e
  · split at e
    · cases e
    · cases e
      exact fun y hy => hg y (List.dropLast_subset _ hy)
  · rename_i h2
    cases e
    intro y hy
    rcases List.mem_append.1 hy with hy | hy
    · exact hg y hy
    · simp at hy; subst hy; exact good_of_piece h hs h2

/-- One part, on bytes and on parts. -/
theorem step_eq {out : List Bs} {x : Bs} (hg : ∀ y ∈ out, Good y) (_h : 47 ∉ x) (hs : says x = true) : stepB (inter out) x = (step out x).map inter := by
  have h1 : ¬ (x = [] ∨ x = [46]) := by
    rintro (rfl | rfl) <;> simp [says] at hs
  unfold stepB step
  rw [if_neg h1]
  by_cases h2 : x = [46, 46]
  · rw [if_pos h2, if_pos h2]
    by_cases ho : out = []
    · subst ho; rfl
    · rw [if_neg (fun e => ho ((inter_nil hg).1 e)), if_neg ho]
      rcases List.eq_nil_or_concat out with e | ⟨l, y, rfl⟩
      · exact absurd e ho
      · rw [List.concat_eq_append] at hg ⊢
        have hy : 47 ∉ y := (hg y (by simp)).2.2.2
        rw [List.dropLast_concat]
        simp only [Option.map_some, Option.some.injEq]
        by_cases hl : l = []
        · subst hl
          have e0 : inter ([] ++ [y]) = y := rfl
          rw [e0, last_none y hy]
          rfl
        · rw [inter_snoc l y hl, last_at _ _ hy]
          rw [show (max ((inter l).length : Int) 0).toNat = (inter l).length by omega, List.take_left]
  · rw [if_neg h2, if_neg h2]
    simp only [Option.map_some, Option.some.injEq]
    by_cases ho : out = []
    · subst ho; simp [inter]
    · rw [if_neg (fun e => ho ((inter_nil hg).1 e)), inter_snoc out x ho]
      simp

theorem walk_eq : ∀ (xs : List Bs) (out : List Bs), (∀ y ∈ out, Good y) → (∀ x ∈ xs, 47 ∉ x) →
    walkB (inter out) xs = (walk out (xs.filter says)).map inter ∧ ∀ o, walk out (xs.filter says) = some o → ∀ y ∈ o, Good y
  | [], out, hg, _ => ⟨rfl, fun o e => by simp [walk] at e; subst e; exact hg⟩
  | x :: xs, out, hg, hx => by
    have hxs : ∀ y ∈ xs, 47 ∉ y := fun y hy => hx y (by simp [hy])
    by_cases hs : says x = true
    · rw [List.filter_cons_of_pos hs]
      have e := step_eq hg (hx x (by simp)) hs
      unfold walkB walk
      rw [e]
      cases hst : step out x with
      | none => exact ⟨rfl, fun o e => by cases e⟩
      | some o =>
        have := walk_eq xs o (step_good hg (hx x (by simp)) hs hst) hxs
        exact this
    · rw [List.filter_cons_of_neg hs]
      have e1 : stepB (inter out) x = some (inter out) := by
        unfold stepB
        rw [if_pos]
        by_cases h0 : x = []
        · exact .inl h0
        · right
          by_cases h1 : x = [46]
          · exact h1
          · exact absurd (by simp [says, h0, h1]) hs
      unfold walkB
      rw [e1]
      exact walk_eq xs out hg hxs

theorem go_eq : ∀ (l : List Bs) (out : List Bs), (∀ y ∈ out, Good y) → goB (inter out) l = (go out l).map inter ∧ ∀ o, go out l = some o → ∀ y ∈ o, Good y
  | [], out, hg => ⟨rfl, fun o e => by simp [go] at e; subst e; exact hg⟩
  | s :: r, out, hg => by
    obtain ⟨e1, e2⟩ := walk_eq (pieces s) out hg (pieces_no s)
    unfold goB go
    rw [e1]
    show _ ∧ _
    unfold parts
    cases hw : walk out ((pieces s).filter says) with
    | none => exact ⟨rfl, fun o e => by cases e⟩
    | some o => exact go_eq r o (e2 o hw)

/-- What path.Join makes is what the document's Join makes. -/
theorem join_eq (l : List Bs) : join l = (goB [] l).map (fun p => if p = [] then [46] else p) := by
  obtain ⟨e1, _⟩ := go_eq l [] (by simp)
  unfold join
  have e2 : goB [] l = (go [] l).map inter := e1
  rw [e2]
  cases go [] l with
  | none => rfl
  | some o => rfl

end Go.Proofs.YtgednccpjegbmaaGreatDoor.Pt
namespace Go.Proofs.YtgednccpjegbmaaGreatDoor
open Go.RowKit
set_option maxRecDepth 100000

/-- Slice v holds the bytes l. -/
def Held (w : World) (g : Nat) (l : List UInt8) : Prop := ∀ j, j < l.length → w.cell? ⟨g, j, none⟩ = some (.int .u8 (l[j]?.getD 0).toNat)

theorem get_of {l : List UInt8} {j : Nat} (h : j < l.length) : l[j]? = some (l[j]?.getD 0) := by
  rw [List.getElem?_eq_getElem h]; rfl

set_option maxHeartbeats 1000000 in
theorem lastG_any (w : World) (g cap : Nat) (l : List UInt8) (hm : l.length ≤ 9223372036854775807) (hc : Held w g l) :
    Calls Tryz.prog 120 #[.slice (some ⟨g, 0, none⟩) l.length cap, .int .u8 47] w fun e w' => e = .returned (.int .i64 (Lib.Pa.lastIndexByte l 47)) ∧ w = w' := by
  go_enter Tryz.func120, Tryz.ntmps120
  go_wp2
  go_loop [5] (fun i => ∃ k : Nat, k ≤ l.length ∧ i = .int .i64 ((k : Int) - 1) ∧ Lib.Pa.lastIdx l 47 k = Lib.Pa.lastIndexByte l 47) (fun i => (intOf i + 1).toNat)
  case atStart => exact ⟨l.length, Nat.le_refl _, rfl, rfl⟩
  case round =>
    obtain ⟨k, hk, rfl, hl⟩ := hrel
    have HL := Lib.hid hl
    clear hl
    cases k with
    | zero =>
      go_wp2
      go_ret
      exact ⟨by rw [← HL.out]; rfl, rfl⟩
    | succ k =>
      have hcell := hc k (by omega)
      have hg := get_of (show k < l.length by omega)
      by_cases e : l[k]?.getD 0 = 47
      · rw [e] at hcell hg
        have HG := Lib.hid hg
        clear hg e
        go_wp2
        go_ret
        exact ⟨by rw [← HL.out, Lib.Pa.lastIdx, if_pos HG.out]; rfl, rfl⟩
      · have e2 : (((l[k]?.getD 0).toNat : Int) == 47) = false := by
          rw [beq_eq_false_iff_ne]
          intro h
          exact e (UInt8.toNat_inj.1 (by simpa using (by omega : (l[k]?.getD 0).toNat = 47)))
        have HG := Lib.hid hg
        have HE := Lib.hid e
        clear hg e
        go_wp2
        go_round
        case rel => exact ⟨k, by omega, by go_num, by rw [← HL.out, Lib.Pa.lastIdx, if_neg (by rw [HG.out]; simpa using HE.out)]⟩
        case measure => simp [intOf]

set_option maxHeartbeats 400000 in
theorem last_any (w : World) (g cap : Nat) (l : List UInt8) (hm : l.length ≤ 9223372036854775807) (hc : Held w g l) :
    Calls Tryz.prog 75 #[.slice (some ⟨g, 0, none⟩) l.length cap, .int .u8 47] w fun e w' => e = .returned (.int .i64 (Lib.Pa.lastIndexByte l 47)) ∧ w = w' := by
  have HC := Lib.hid hc
  clear hc
  go_enter Tryz.func75, Tryz.ntmps75
  go_wp2_with (go_at_call 120; refine (lastG_any _ g cap l hm HC.out).mono ?_; rintro e w' ⟨rfl, rfl⟩)
  go_ret
  exact ⟨rfl, rfl⟩

set_option maxHeartbeats 400000 in
/-- The place of the first slash. -/
theorem indexL_any (w : World) (s : ByteArray) :
    Calls Tryz.prog 214 #[.string s, .int .u8 47] w fun e w' => e = .returned (.int .i64 (Lib.indexByte s.data.toList 47)) ∧ w = w' := by
  go_enter Tryz.func214, Tryz.ntmps214
  go_wp2
  rw [run_callFunc_extern Tryz.func266 (by kernel_rfl) (by kernel_rfl) (by kernel_rfl) (e := Extern.BytealgIndexByte.indexByte) (by kernel_rfl), Lib.run_indexByteString]
  simp only [Result.andThen]
  rw [Oper.upon_value]
  go_wp2
  go_ret
  exact ⟨rfl, rfl⟩

set_option maxHeartbeats 400000 in
theorem indexS_any (w : World) (s : ByteArray) :
    Calls Tryz.prog 167 #[.string s, .string ⟨#[47]⟩] w fun e w' => e = .returned (.int .i64 (Lib.indexByte s.data.toList 47)) ∧ w = w' := by
  by_cases h : ([47] == s.toList) = true
  · have e : Lib.indexByte s.data.toList 47 = 0 := by
      have : s.toList = [47] := (eq_of_beq h).symm
      rw [← Lib.toList_data, this]
      rfl
    have HE := Lib.hid e
    clear e
    go_enter Tryz.func167, Tryz.ntmps167
    go_wp2_with (go_at_call 214; refine (indexL_any _ s).mono ?_; rintro e w' ⟨rfl, rfl⟩)
    go_ret
    exact ⟨by rw [HE.out]; rfl, rfl⟩
  · have h1 : ([47] == s.toList) = false := by simpa using h
    clear h
    go_enter Tryz.func167, Tryz.ntmps167
    go_wp2_with (go_at_call 214; refine (indexL_any _ s).mono ?_; rintro e w' ⟨rfl, rfl⟩)
    go_ret
    exact ⟨rfl, rfl⟩

set_option maxHeartbeats 400000 in
theorem index_any (w : World) (s : ByteArray) :
    Calls Tryz.prog 113 #[.string s, .string ⟨#[47]⟩] w fun e w' => e = .returned (.int .i64 (Lib.indexByte s.data.toList 47)) ∧ w = w' := by
  go_enter Tryz.func113, Tryz.ntmps113
  go_wp2_with (go_at_call 167; refine (indexS_any _ s).mono ?_; rintro e w' ⟨rfl, rfl⟩)
  go_ret
  exact ⟨rfl, rfl⟩
end Go.Proofs.YtgednccpjegbmaaGreatDoor
namespace Go.Proofs.YtgednccpjegbmaaGreatDoor
open Go.RowKit Go.Shelf
attribute [local go_sem] Oper.semAt_some
set_option maxRecDepth 100000

/-- A string's bytes. -/
def bs (s : ByteArray) : List UInt8 := s.data.toList
theorem bs_len (s : ByteArray) : (bs s).length = s.size := (Lib.size_eq s).symm

theorem pieces_index_none {s : ByteArray} (h : Lib.indexByte (bs s) 47 = -1) : Pt.pieces (bs s) = [bs s] := by
  refine Pt.pieces_none _ fun hm => ?_
  obtain ⟨k, hk⟩ := List.getElem?_of_mem hm
  exact Lib.indexByte_none h k hk

theorem pieces_index_some {s : ByteArray} {i : Nat} (h : Lib.indexByte (bs s) 47 = i) : i < s.size ∧ Pt.pieces (bs s) = bs (s.extract 0 i) :: Pt.pieces (bs (s.extract (i + 1) s.size)) := by
  obtain ⟨h1, h2⟩ := Lib.indexByte_some h
  have hi : i < (bs s).length := by
    rcases Nat.lt_or_ge i (bs s).length with h | h
    · exact h
    · rw [List.getElem?_eq_none h] at h1; cases h1
  have e : bs s = (bs s).take i ++ 47 :: (bs s).drop (i + 1) := by
    conv => lhs; rw [← List.take_append_drop i (bs s)]
    rw [List.drop_eq_getElem_cons hi]
    rw [List.getElem?_eq_getElem hi] at h1
    injection h1 with h1
    rw [h1]
  have hn : 47 ∉ (bs s).take i := by
    intro hm
    obtain ⟨k, hk⟩ := List.getElem?_of_mem hm
    have hki : k < i := by
      rcases Nat.lt_or_ge k i with h | h
      · exact h
      · rw [List.getElem?_eq_none (by simp; omega)] at hk; cases hk
    rw [List.getElem?_take_of_lt hki] at hk
    exact h2 k hki hk
  refine ⟨by rw [← bs_len]; exact hi, ?_⟩
  rw [show bs (s.extract 0 i) = (bs s).take i from Lib.extract_from_zero s i, show bs (s.extract (i + 1) s.size) = (bs s).drop (i + 1) from Lib.extract_to_end s (i + 1)]
  conv => lhs; rw [e]
  exact Pt.pieces_hit _ _ hn

open Classical in
/-- How much is still to be cut, read off the world. -/
noncomputable def left (B : Nat) (W : World) : Nat := if h : ∃ s : ByteArray, Boxed W B 9 (.string s) then (Classical.choose h).size else 0
theorem left_eq {B : Nat} {W : World} {s : ByteArray} (h : Boxed W B 9 (.string s)) : left B W = s.size := by
  have hex : ∃ s : ByteArray, Boxed W B 9 (.string s) := ⟨s, h⟩
  unfold left
  rw [dif_pos hex]
  have h2 := Classical.choose_spec hex
  have := Option.some.inj ((show W.heap[B]? = _ from h).symm.trans h2)
  have e : s = Classical.choose hex := by simpa using this
  rw [← e]

theorem index_none (w : World) (s : ByteArray) (h : Lib.indexByte (bs s) 47 = -1) :
    Calls Tryz.prog 113 #[.string s, .string ⟨#[47]⟩] w fun e w' => e = .returned (.int .i64 (-1)) ∧ w = w' := by
  have := index_any w s
  rwa [show Lib.indexByte s.data.toList 47 = -1 from h] at this
theorem index_some (w : World) (s : ByteArray) (i : Nat) (h : Lib.indexByte (bs s) 47 = i) :
    Calls Tryz.prog 113 #[.string s, .string ⟨#[47]⟩] w fun e w' => e = .returned (.int .i64 i) ∧ w = w' := by
  have := index_any w s
  rwa [show Lib.indexByte s.data.toList 47 = i from h] at this

/-- What the iterator writes: its own variable. -/
def Mine (B : Nat) (X Y : World) : Prop := ∃ t : ByteArray, Y = X.setCell ⟨B, 0, none⟩ (.string t)
/-- What a round must keep: the iterator's three variables. -/
def Keeps3 (B : Nat) (X Y : World) : Prop := ∀ k, B ≤ k → k < B + 3 → Y.heap[k]? = X.heap[k]?

set_option maxHeartbeats 2000000 in
theorem seq1_in (n : Nat) (hn1 : 1 ≤ n) (l B : Nat) (s0 : ByteArray) (hs0 : s0.size ≤ 9223372036854775806) (J Jx : List ByteArray → World → Prop)
    (hJ : ∀ s X Y, J s X → Mine B X Y → J s Y)
    (hY : ∀ pre x X, J pre X → (pre ++ [x]).map bs <+: Pt.pieces (bs s0) → YieldAt Fence.wide (n - 1) Tryz.prog l #[.string x] X fun e Y =>
      (e = .returned (.bool true) ∧ J (pre ++ [x]) Y ∧ Keeps3 B X Y) ∨ (e = .returned (.bool false) ∧ Jx (pre ++ [x]) Y))
    (W : World) (h1 : Boxed W B 9 (.string s0)) (h2 : Boxed W (B + 1) 9 (.string ⟨#[47]⟩)) (h3 : Boxed W (B + 1 + 1) 3 (.int .i64 0)) (h0 : J [] W) :
    CallsIn Fence.wide n Tryz.prog 178 #[.func (.yield l) #[] #[], .pointer (some ⟨B + 1, 0, none⟩), .pointer (some ⟨B, 0, none⟩), .pointer (some ⟨B + 1 + 1, 0, none⟩)] W fun e Y => (∃ v, e = .returned v) ∧
      ((∃ ys, ys.map bs = Pt.pieces (bs s0) ∧ J ys Y) ∨ (∃ pre, pre.map bs <+: Pt.pieces (bs s0) ∧ Jx pre Y)) := by
  refine callsIn_of_wp Tryz.func178 rfl trivial ?_ rfl
  simp only [Tryz.ntmps178, List.size_toArray, List.length_cons, List.length_nil, Nat.reduceAdd, Nat.reduceSub, Array.replicate_succ, Array.replicate_zero, List.push_toArray, List.append_toArray, List.nil_append, List.cons_append]
  have c2 := h2.cell
  gi_wp2
  clear c2
  gi_loopw [7] (fun _ wr => ∃ (pre : List ByteArray) (s : ByteArray), s.size ≤ 9223372036854775806 ∧ Pt.pieces (bs s0) = pre.map bs ++ Pt.pieces (bs s) ∧ Boxed wr B 9 (.string s) ∧ Boxed wr (B + 1) 9 (.string ⟨#[47]⟩) ∧ Boxed wr (B + 1 + 1) 3 (.int .i64 0) ∧ J pre wr)
    (fun _ wr => left B wr)
  case atStart => exact ⟨[], s0, hs0, rfl, h1, h2, h3, h0⟩
  case round =>
    obtain ⟨pre, s, hs, hp, b1, b2, b3, hj⟩ := hrel
    have HP := Lib.hid hp
    clear hp
    have c1 := b1.cell
    have c2 := b2.cell
    have c3 := b3.cell
    have hge := Lib.indexByte_ge (bs s) 47
    by_cases hn : Lib.indexByte (bs s) 47 = -1
    · have HX := Lib.hid (pieces_index_none hn)
      have HN := Lib.hid hn
      clear hn hge
      obtain ⟨fn, tmps, assign, body, hy, hR⟩ := hY pre s wr hj (by rw [HP.out, HX.out]; simp)
      gi_wp2_with (refine ⟨trivial, ?_⟩; gi_at_call 113; refine (callsIn_wide.2 (index_none _ s HN.out)).mono ?_; rintro e w' ⟨rfl, rfl⟩)
      refine hR.mono ?_
      rintro e Y (⟨rfl, hj2, hk⟩ | ⟨rfl, hx⟩)
      · gi_wp2
        go_end0
        exact ⟨⟨_, rfl⟩, .inl ⟨pre ++ [s], by rw [HP.out, HX.out]; simp, hj2⟩⟩
      · gi_wp2
        go_end0
        exact ⟨⟨_, rfl⟩, .inr ⟨pre ++ [s], by rw [HP.out, HX.out]; simp, hx⟩⟩
    · obtain ⟨i, hi⟩ : ∃ i : Nat, Lib.indexByte (bs s) 47 = i := ⟨(Lib.indexByte (bs s) 47).toNat, by omega⟩
      have hp2 := pieces_index_some hi
      have hlt := hp2.1
      have HX := Lib.hid hp2.2
      have HN := Lib.hid hi
      clear hn hge hi hp2
      obtain ⟨fn, tmps, assign, body, hy, hR⟩ := hY pre (s.extract 0 i) wr hj (by rw [HP.out, HX.out]; simp)
      gi_wp2_with (refine ⟨trivial, ?_⟩; gi_at_call 113; refine (callsIn_wide.2 (index_some _ s i HN.out)).mono ?_; rintro e w' ⟨rfl, rfl⟩)
      refine hR.mono ?_
      rintro e Y (⟨rfl, hj2, hk⟩ | ⟨rfl, hx⟩)
      · have d1 : Boxed Y B 9 (.string s) := (hk B (by omega) (by omega)).trans b1
        have d2 : Boxed Y (B + 1) 9 (.string ⟨#[47]⟩) := (hk (B + 1) (by omega) (by omega)).trans b2
        have d3 : Boxed Y (B + 1 + 1) 3 (.int .i64 0) := (hk (B + 1 + 1) (by omega) (by omega)).trans b3
        have e1 := d1.cell
        have e2 := d2.cell
        have e3 := d1.frozen
        clear c1 c2 c3 hy
        gi_wp2
        go_roundw
        case rel => exact ⟨pre ++ [s.extract 0 i], s.extract (i + 1) s.size, by simp [ByteArray.size_extract]; omega, by rw [HP.out, HX.out]; simp, d1.set _, d2.kept (grownBy_setCell' _ _ _) (by simp), d3.kept (grownBy_setCell' _ _ _) (by simp; omega), hJ _ _ _ hj2 ⟨_, rfl⟩⟩
        case measure => rw [left_eq (d1.set _), left_eq b1]; simp [ByteArray.size_extract]; omega
      · gi_wp2
        refine bodyPost_ret (results_none rfl _ _ _) rfl ?_
        exact ⟨⟨_, rfl⟩, .inr ⟨pre ++ [s.extract 0 i], by rw [HP.out, HX.out]; simp, hx⟩⟩

set_option maxHeartbeats 1000000 in
/-- The call of SplitSeq: three variables, and the closure over them. -/
theorem splitSeq_any (w : World) (s : ByteArray) :
    Calls Tryz.prog 119 #[.string s, .string ⟨#[47]⟩, .int .i64 0] w fun e w' =>
      e = .returned (.func (.func 178) #[] #[.pointer (some ⟨w.heap.size + 1, 0, none⟩), .pointer (some ⟨w.heap.size, 0, none⟩), .pointer (some ⟨w.heap.size + 1 + 1, 0, none⟩)]) ∧
      ((w.alloc (.cells #[.string s] 9)).alloc (.cells #[.string ⟨#[47]⟩] 9)).alloc (.cells #[.int .i64 0] 3) = w' := by
  go_enter Tryz.func119, Tryz.ntmps119
  go_wp2
  go_ret
  exact ⟨rfl, rfl⟩

set_option maxHeartbeats 1000000 in
theorem SplitSeq_any (w : World) (s : ByteArray) :
    Calls Tryz.prog 74 #[.string s, .string ⟨#[47]⟩] w fun e w' =>
      e = .returned (.func (.func 178) #[] #[.pointer (some ⟨w.heap.size + 1, 0, none⟩), .pointer (some ⟨w.heap.size, 0, none⟩), .pointer (some ⟨w.heap.size + 1 + 1, 0, none⟩)]) ∧
      ((w.alloc (.cells #[.string s] 9)).alloc (.cells #[.string ⟨#[47]⟩] 9)).alloc (.cells #[.int .i64 0] 3) = w' := by
  go_enter Tryz.func74, Tryz.ntmps74
  go_wp2_with (go_at_call 119; refine (splitSeq_any _ s).mono ?_; rintro e w' ⟨rfl, rfl⟩)
  go_ret
  exact ⟨rfl, rfl⟩

/-- What the closure says of itself. -/
theorem seq_iters (n : Nat) (hn1 : 1 ≤ n) (B : Nat) (s0 : ByteArray) (hs0 : s0.size ≤ 9223372036854775806) (w : World)
    (h1 : Boxed w B 9 (.string s0)) (h2 : Boxed w (B + 1) 9 (.string ⟨#[47]⟩)) (h3 : Boxed w (B + 1 + 1) 3 (.int .i64 0)) :
    Iters n Tryz.prog 178 #[.pointer (some ⟨B + 1, 0, none⟩), .pointer (some ⟨B, 0, none⟩), .pointer (some ⟨B + 1 + 1, 0, none⟩)] (fun x : ByteArray => #[.string x]) (Mine B) (Keeps3 B)
      (fun ys => ys.map bs = Pt.pieces (bs s0)) (fun pre => pre.map bs <+: Pt.pieces (bs s0)) w := fun l J Jx W hW hJ hY h0 =>
  seq1_in n hn1 l B s0 hs0 J Jx hJ hY W ((hW.block _ h1.lt).trans h1) ((hW.block _ h2.lt).trans h2) ((hW.block _ h3.lt).trans h3) h0

theorem mine_keeps (B : Nat) (X Y : World) (k : Nat) (o : Obj) (h : Mine B X Y) (hk : X.heap[k]? = some o) (ho : o.isCells = false) : Y.heap[k]? = some o := by
  obtain ⟨v, rfl⟩ := h
  exact (KeepsOthers.setCell X ⟨B, 0, none⟩ (.string v)).same k o hk ho
theorem keeps3_trans (B : Nat) (X Y Z : World) (h : Keeps3 B X Y) (k : Keeps3 B Y Z) : Keeps3 B X Z := fun i a b => (k i a b).trans (h i a b)
theorem keeps3_put {B : Nat} {w : World} (hB : B + 3 ≤ w.heap.size) (W : World) (l : Nat) (o o' : Obj) (hl : w.heap.size ≤ l) (_ : W.heap[l]? = some o) (_ : o.isCells = false) : Keeps3 B W (W.putObj l o') :=
  fun i _ _ => World.putObj_heap_other (by omega)
end Go.Proofs.YtgednccpjegbmaaGreatDoor
namespace Go.Proofs.YtgednccpjegbmaaGreatDoor
open Go.RowKit Go.Shelf
attribute [local go_sem] Oper.semAt_some
set_option maxRecDepth 100000

/-- Bytes as cells. -/
def u8s (p : List UInt8) : List Value := p.map fun b => Value.int .u8 b.toNat
theorem u8s_len (p : List UInt8) : (u8s p).length = p.length := by simp [u8s]
theorem u8s_append (p q : List UInt8) : u8s (p ++ q) = u8s p ++ u8s q := by simp [u8s]

/-- What follow hands back. -/
def FollowPost (base : Nat) (w : World) (r : Option (List UInt8)) (e : Ending) (w' : World) : Prop :=
  Below base w w' ∧ match r with
    | some q => ∃ v, e = .returned (.tuple #[v, .bool true]) ∧ w'.ownsRow base 5 1 v q.length (u8s q)
    | none => e = .returned (.tuple #[.slice none 0 0, .bool false])

def cost (l : List (List UInt8)) : Nat := (l.map fun x => x.length + 1).sum

/-- The variables that a round leaves alone. -/
def Oth (Bp : Nat) (t3 : ByteArray) (W : World) : Prop :=
  Boxed W (Bp + 1) 22 (.slice none 0 0) ∧ Boxed W (Bp + 1 + 1) 4 (.bool false) ∧ Boxed W (Bp + 1 + 1 + 1) 9 (.string t3) ∧
  Boxed W (Bp + 1 + 1 + 1 + 1) 9 (.string ⟨#[47]⟩) ∧ Boxed W (Bp + 1 + 1 + 1 + 1 + 1) 3 (.int .i64 0)

/-- What holds between two rounds. -/
def FI (base Bp : Nat) (w : World) (p0 : List UInt8) (pre : List ByteArray) (W : World) : Prop :=
  (∃ v q, Boxed W Bp 22 v ∧ W.ownsRow base 5 1 v q.length (u8s q) ∧ Pt.walkB p0 (pre.map bs) = some q ∧ q.length ≤ p0.length + cost (pre.map bs)) ∧
  (∃ t3, Oth Bp t3 W) ∧ Below base w W
def FX (base Bp : Nat) (w : World) (p0 : List UInt8) (pre : List ByteArray) (W : World) : Prop :=
  Pt.walkB p0 (pre.map bs) = none ∧ Boxed W (Bp + 1) 22 (.slice none 0 0) ∧ Boxed W (Bp + 1 + 1) 4 (.bool false) ∧ Below base w W

theorem owns_slice {w : World} {base : Nat} {e : TypeId} {size : Nat} {v : Value} {n : Nat} {xs : List Value} (h : w.ownsRow base e size v n xs) : ∃ a c, v = .slice a n c := by
  rcases h.2 with ⟨rfl, rfl⟩ | ⟨g, cap, cur, rfl, _⟩
  · exact ⟨_, _, rfl⟩
  · exact ⟨_, _, rfl⟩

theorem walkB_snoc : ∀ (l : List (List UInt8)) (p x : List UInt8), Pt.walkB p (l ++ [x]) = (Pt.walkB p l).bind (fun q => Pt.stepB q x)
  | [], p, x => by
    simp only [List.nil_append, Pt.walkB, Option.bind_some]
    cases Pt.stepB p x <;> rfl
  | y :: l, p, x => by
    simp only [List.cons_append, Pt.walkB]
    cases Pt.stepB p y with
    | none => rfl
    | some q => exact walkB_snoc l q x

theorem walkB_none_prefix {l m : List (List UInt8)} {p : List UInt8} (h : l <+: m) (hn : Pt.walkB p l = none) : Pt.walkB p m = none := by
  obtain ⟨t, rfl⟩ := h
  revert hn
  induction l generalizing p with
  | nil => intro hn; cases hn
  | cons y l ih =>
    intro hn
    simp only [List.cons_append, Pt.walkB] at hn ⊢
    cases he : Pt.stepB p y with
    | none => rfl
    | some q => rw [he] at hn; exact ih hn

theorem cost_snoc (l : List (List UInt8)) (x : List UInt8) : cost (l ++ [x]) = cost l + (x.length + 1) := by simp [cost]
theorem cost_prefix {l m : List (List UInt8)} (h : l <+: m) : cost l ≤ cost m := by
  obtain ⟨t, rfl⟩ := h
  simp [cost]
theorem cost_pieces : ∀ (l : List UInt8), cost (Pt.pieces l) = l.length + 1
  | [] => rfl
  | c :: r => by
    have := cost_pieces r
    unfold Pt.pieces
    split
    · show cost ([] :: Pt.pieces r) = _
      simp only [cost, List.map_cons, List.sum_cons] at this ⊢
      simp at this ⊢; omega
    · split
      · rename_i e; exact absurd e (Pt.pieces_ne r)
      · rename_i y ys e
        rw [e] at this
        simp only [cost, List.map_cons, List.sum_cons, List.length_cons] at this ⊢
        omega

theorem Oth.kept {Bp : Nat} {t3 : ByteArray} {X Y : World} {row : Option Nat} (h : Oth Bp t3 X) (hg : X.grownBy Y row) (ne : ∀ {b : Nat} {ty : TypeId} {u : Value}, Boxed X b ty u → ty ≠ 5 → Bp < b → some b ≠ row) : Oth Bp t3 Y := by
  obtain ⟨b1, b2, b3, b4, b5⟩ := h
  exact ⟨b1.kept hg (ne b1 (by decide) (by omega)), b2.kept hg (ne b2 (by decide) (by omega)), b3.kept hg (ne b3 (by decide) (by omega)), b4.kept hg (ne b4 (by decide) (by omega)), b5.kept hg (ne b5 (by decide) (by omega))⟩
theorem Oth.alloc {Bp : Nat} {t3 : ByteArray} {X : World} (h : Oth Bp t3 X) (o : Obj) : Oth Bp t3 (X.alloc o) := h.kept (World.grownBy_alloc X o none) (fun _ _ _ => by simp)
theorem Oth.set {Bp : Nat} {t3 : ByteArray} {X : World} (h : Oth Bp t3 X) (v : Value) : Oth Bp t3 (X.setCell ⟨Bp, 0, none⟩ v) := h.kept (grownBy_setCell' X Bp v) (fun _ _ hb => by simp; omega)
theorem Oth.row {Bp : Nat} {t3 : ByteArray} {X Y : World} {base size k : Nat} {v : Value} {xs : List Value} (h : Oth Bp t3 X) (hr : X.ownsRow base 5 size v k xs) (hg : X.grownBy Y v.ownBlock) : Oth Bp t3 Y := h.kept hg (fun hb hty _ => hb.not_row hty hr)
theorem Oth.keeps3 {Bp : Nat} {t3 : ByteArray} {X Y : World} (h : Oth Bp t3 X) (k : Oth Bp t3 Y) : Keeps3 (Bp + 1 + 1 + 1) X Y := by
  obtain ⟨_, _, a3, a4, a5⟩ := h
  obtain ⟨_, _, b3, b4, b5⟩ := k
  intro i h1 h2
  have : i = Bp + 1 + 1 + 1 ∨ i = Bp + 1 + 1 + 1 + 1 ∨ i = Bp + 1 + 1 + 1 + 1 + 1 := by omega
  rcases this with rfl | rfl | rfl
  · exact (show Y.heap[_]? = _ from b3).trans (show X.heap[_]? = _ from a3).symm
  · exact (show Y.heap[_]? = _ from b4).trans (show X.heap[_]? = _ from a4).symm
  · exact (show Y.heap[_]? = _ from b5).trans (show X.heap[_]? = _ from a5).symm

theorem FI_own (base Bp B : Nat) (w : World) (p0 : List UInt8) (h1 : base ≤ w.heap.size) (h2 : base ≤ B) : OwnFrom B (FI base Bp w p0) := by
  rintro s X Y row ⟨⟨v, q, hv, hr, hw, hl⟩, ⟨t, ho⟩, hB⟩ hg hrow
  obtain ⟨v', a, b, rfl⟩ := holdsRow_own base Bp 22 5 1 (fun _ : Unit => q.length) (fun _ => u8s q) (fun _ v' => v' = v) () X Y row ⟨v, hv, hr, rfl⟩ hg (fun r e => (hrow r e).2)
  refine ⟨⟨_, q, a, b, hw, hl⟩, ⟨t, ho.kept hg fun hb _ _ e => ?_⟩, ownFrom_below (β := Unit) h1 h2 () X Y row hB hg hrow⟩
  obtain ⟨_, o, ho, hc⟩ := hrow _ e.symm
  rw [show X.heap[_]? = _ from hb] at ho; cases ho; cases hc

theorem FX_own (base Bp B : Nat) (w : World) (p0 : List UInt8) (h1 : base ≤ w.heap.size) (h2 : base ≤ B) : OwnFrom B (FX base Bp w p0) := by
  rintro s X Y row ⟨hw, b1, b2, hB⟩ hg hrow
  have ne : ∀ {b : Nat} {ty : TypeId} {u : Value}, Boxed X b ty u → some b ≠ row := fun hb e => by
    obtain ⟨_, o, ho, hc⟩ := hrow _ e.symm
    rw [show X.heap[_]? = _ from hb] at ho; cases ho; cases hc
  exact ⟨hw, b1.kept hg (ne b1), b2.kept hg (ne b2), ownFrom_below (β := Unit) h1 h2 () X Y row hB hg hrow⟩

theorem FI_mine (base Bp : Nat) (w : World) (p0 : List UInt8) (h : base ≤ Bp) (s : List ByteArray) (X Y : World) (hi : FI base Bp w p0 s X) (hm : Mine (Bp + 1 + 1 + 1) X Y) : FI base Bp w p0 s Y := by
  obtain ⟨⟨v, q, hv, hr, hw, hl⟩, ⟨t, b1, b2, b3, b4, b5⟩, hB⟩ := hi
  obtain ⟨t', rfl⟩ := hm
  have hg := grownBy_setCell' X (Bp + 1 + 1 + 1) (.string t')
  exact ⟨⟨v, q, hv.kept hg (by simp <;> omega), hr.kept hg (.inr (b3.not_row (by decide) hr).symm), hw, hl⟩, ⟨t', b1.kept hg (by simp <;> omega), b2.kept hg (by simp <;> omega), b3.set _, b4.kept hg (by simp <;> omega), b5.kept hg (by simp <;> omega)⟩,
    hB.setCell (p := ⟨Bp + 1 + 1 + 1, 0, none⟩) (by show base ≤ Bp + 1 + 1 + 1; omega) _⟩

theorem owns_some {w : World} {base : Nat} {e : TypeId} {size : Nat} {v : Value} {n : Nat} {xs : List Value} (h : w.ownsRow base e size v n xs) (hn : 0 < n) : ∃ g c, v = .slice (some ⟨g, 0, none⟩) n c ∧ n ≤ c ∧ c ≤ maxLen := by
  rcases h.2 with ⟨_, h0⟩ | ⟨g, cap, cur, rfl, _, _, h1, h2, _⟩
  · omega
  · exact ⟨g, cap, rfl, h1, h2⟩

theorem owns_take {w : World} {base g c n k : Nat} {q : List UInt8} (h : w.ownsRow base 5 1 (.slice (some ⟨g, 0, none⟩) n c) n (u8s q)) (hk : k ≤ n) : w.ownsRow base 5 1 (.slice (some ⟨g, 0, none⟩) k c) (q.take k).length (u8s (q.take k)) := by
  have hq : q.length = n := by have := h.1; rw [u8s_len] at this; omega
  have e : (q.take k).length = k := by rw [List.length_take]; omega
  rw [e]
  refine ⟨by rw [u8s_len, e, Nat.mul_one], .inr ?_⟩
  rcases h.2 with ⟨h0, _⟩ | ⟨g', c', cur, hv, h1, h2, h3, h4, h5, h6⟩
  · cases h0
  · cases hv
    refine ⟨g, c, cur, rfl, h1, h2, by omega, h4, h5, ?_⟩
    have := congrArg (List.take (k * 1)) h6
    rw [List.take_take, Nat.min_eq_left (by omega)] at this
    rw [this, u8s, u8s, List.map_take, Nat.mul_one]

theorem held_of {w : World} {base g c n : Nat} {q : List UInt8} (h : w.ownsRow base 5 1 (.slice (some ⟨g, 0, none⟩) n c) n (u8s q)) : Held w g q := by
  intro j hj
  have := h.cells (g := g) rfl j (.int .u8 (q[j]?.getD 0).toNat) (by rw [u8s, List.getElem?_map, get_of hj]; rfl)
  rw [Addr.add_lit, Nat.zero_add] at this
  exact this

theorem held_drew {w : World} {g : Nat} {q : List UInt8} (h : Held w g q) : Held w.drew g q := fun j hj => h j hj

theorem stepB_skip {q x : List UInt8} (h : x = [] ∨ x = [46]) : Pt.stepB q x = some q := by unfold Pt.stepB; rw [if_pos h]
theorem stepB_out {x : List UInt8} (h : x = [46, 46]) : Pt.stepB [] x = none := by subst h; rfl
theorem stepB_up {q x : List UInt8} (h : x = [46, 46]) (hq : q ≠ []) : Pt.stepB q x = some (q.take (max (Lib.Pa.lastIndexByte q 47) 0).toNat) := by
  subst h; unfold Pt.stepB; rw [if_neg (by decide), if_pos rfl, if_neg hq]
theorem stepB_add {q x : List UInt8} (h0 : x ≠ []) (h1 : x ≠ [46]) (h2 : x ≠ [46, 46]) : Pt.stepB q x = some ((if q = [] then q else q ++ [47]) ++ x) := by
  unfold Pt.stepB; rw [if_neg (by simp [h0, h1]), if_neg h2]

theorem FI_next {base Bp : Nat} {w : World} {p : List UInt8} {pre : List ByteArray} {x : ByteArray} {q q' : List UInt8} {v' : Value} {Y : World}
    (hw : Hid (Pt.walkB p (pre.map bs) = some q)) (hl : q.length ≤ p.length + cost (pre.map bs)) (hst : Pt.stepB q (bs x) = some q') (hle : q'.length ≤ q.length + (x.size + 1))
    (hv : Boxed Y Bp 22 v') (hr : Y.ownsRow base 5 1 v' q'.length (u8s q')) {t3 : ByteArray} (ho : Oth Bp t3 Y) (hB : Below base w Y) : FI base Bp w p (pre ++ [x]) Y :=
  ⟨⟨v', q', hv, hr, by rw [List.map_append, List.map_singleton, walkB_snoc, hw.out]; exact hst, by rw [List.map_append, List.map_singleton, cost_snoc, bs_len]; omega⟩, ⟨t3, ho⟩, hB⟩

theorem infoU8 : (Tryz.prog.info? 5).map (fun i => (i.zero, i.size, i.bytes)) = some (some (.int .u8 0), 1, 1) := by kernel_rfl
theorem row_cells {W : World} {base e size k : Nat} {v : Value} {xs : List Value} (hr : W.ownsRow base e size v k xs) : ∀ (j : Nat) (o : Obj), v.ownBlock = some j → W.heap[j]? = some o → o.isCells = true := by
  intro j o ej hj
  rcases hr.2 with ⟨rfl, _⟩ | ⟨g, cap, cur, rfl, _, hgb, _⟩
  · simp [Value.ownBlock] at ej
  · obtain rfl : g = j := by simpa [Value.ownBlock] using ej
    rw [hgb] at hj; cases hj; rfl

/-- Behind 'p = append(p, s...)': the box, the row, and what lay. -/
theorem appended_string {W w1 : World} {n₀ B : Nat} {v v' : Value} {k m : Nat} {xs ys : List Value}
    (hv : Boxed W B 22 v) (hrow : W.ownsRow n₀ 5 1 v k xs) (hn₀ : n₀ ≤ W.heap.size) (hB : n₀ ≤ B) (hown' : w1.ownsRow n₀ 5 1 v' m ys) (hgrow : W.grownBy w1 v.ownBlock) :
    Boxed w1 B 22 v ∧ Boxed (w1.setCell ⟨B, 0, none⟩ v') B 22 v' ∧ (w1.setCell ⟨B, 0, none⟩ v').ownsRow n₀ 5 1 v' m ys ∧ KeepsOthers W (w1.setCell ⟨B, 0, none⟩ v') ∧ Below n₀ W (w1.setCell ⟨B, 0, none⟩ v') := by
  have hv1 : Boxed w1 B 22 v := hv.kept hgrow (hv.not_row (by decide) hrow)
  exact ⟨hv1, hv1.set v', hown'.kept (grownBy_setCell' w1 B v') (.inr (hv1.not_row (by decide) hown').symm), (KeepsOthers.of_grownBy hgrow (row_cells hrow)).trans (KeepsOthers.setCell _ _ _),
    ((Below.refl n₀ W).grown hgrow hn₀ fun j ej => (hrow.lt j ej).1).setCell (p := ⟨B, 0, none⟩) hB v'⟩

theorem wpListIn_append_string {F : Fence} {n : Nat} {P : Program} (w : World) {ops : Array Oper} {rest : List Oper} {o : Oper} {a : Act} {Q : Exit → Act → World → Prop} (hgd : o.guard = none) (sl x : Operand) (t u : TypeId)
    (ho : o.op = .call { callee := .builtin .append, args := #[sl, x], argTypes := #[t, u] })
    (base : Nat) (e : TypeId) (i : TypeInfo) (ht : P.underlying t = some (.slice e)) (hu : P.underlying u = some .string) (hi : P.info? e = some i) (hz : i.zero = some (.int .u8 0))
    (hsize : i.size = 1) (hby : i.bytes = 1)
    (v : Value) (k : Nat) (xs : List Value) (hs : a.eval sl = v) (hown : w.ownsRow base e 1 v k xs) (s : ByteArray) (hx : a.eval x = .string s)
    (h63 : k + s.size ≤ maxLen) (hbytes : k + s.size ≤ 140737488355328) (hbase : base ≤ w.heap.size)
    (h : ∀ v' w', w'.ownsRow base e 1 v' (k + s.size) (xs ++ Lib.strCells s) → w.grownBy w' v.ownBlock → wpListIn F n P ops Q rest (a.put o.dst v') w') : wpListIn F n P ops Q (o :: rest) a w := by
  apply wpListIn_plain hgd
  intro K hK
  obtain ⟨v', w', run, own, grew, _⟩ := Lib.run_append_own_string (P := P) w base t u o.type e i ht hu hi hz hsize hby v k xs hown s h63 hbytes hbase
  unfold Oper.wpIn
  constructor
  · simp [Oper.about, ho, resolve, Target.leads, Sem.run_pure]
  · rw [Oper.semAt_plain F _ _ (fun c hc => by rw [ho] at hc; cases hc)]
    simp [execOp, ho, resolve, invoke, builtin, hs, hx, run, Result.andThen]
    exact hK _ _ (h v' w' own grew)

theorem keeps3_refl (B : Nat) (W : World) : Keeps3 B W W := fun _ _ _ => rfl
theorem boxed_put {W : World} {b D : Nat} {t : TypeId} {v : Value} {x : Option (List Deferred)} (h : Boxed W b t v) (hD : W.heap[D]? = some (.deferred x)) (o' : Obj) : Boxed (W.putObj D o') b t v :=
  h.kept (grownBy_putObj' W D o') (fun e => by cases e; rw [show W.heap[_]? = _ from h] at hD; cases hD)

theorem bs_empty {x : ByteArray} (h : x.toList.isEmpty = true) : bs x = [] := by
  rw [Lib.toList_data] at h; simpa [bs] using h
theorem bs_ne {x : ByteArray} (h : x.toList.isEmpty = false) : bs x ≠ [] := by
  rw [Lib.toList_data] at h; intro e; rw [show x.data.toList = [] from e] at h; cases h
theorem bs_is {x : ByteArray} {l : List UInt8} (h : (x.toList == l) = true) : bs x = l := by
  rw [Lib.toList_data] at h; exact eq_of_beq h
theorem bs_not {x : ByteArray} {l : List UInt8} (h : (x.toList == l) = false) : bs x ≠ l := by
  rw [Lib.toList_data] at h; intro e; rw [show x.data.toList = l from e, beq_self_eq_true] at h; cases h

theorem last_is (w : World) (g cap n : Nat) (l : List UInt8) (hn : l.length = n) (hm : n ≤ 9223372036854775807) (hc : Held w g l) (i : Int) (h : Lib.Pa.lastIndexByte l 47 = i) :
    Calls Tryz.prog 75 #[.slice (some ⟨g, 0, none⟩) n cap, .int .u8 47] w fun e w' => e = .returned (.int .i64 i) ∧ w = w' := by
  subst hn
  have := last_any w g cap l hm hc
  rwa [h] at this

set_option maxHeartbeats 2000000 in
theorem follow_any (w : World) (base : Nat) (v : Value) (p : List UInt8) (s : ByteArray) (hown : w.ownsRow base 5 1 v p.length (u8s p)) (hb : base ≤ w.heap.size) (hs : p.length + s.size + 1 ≤ 140737488355328) :
    Calls Tryz.prog 40 #[v, .string s] w (FollowPost base w (Pt.walkB p (Pt.pieces (bs s)))) := by
  obtain ⟨a, c, rfl⟩ := owns_slice hown
  refine (callsIn_wide (n := 9)).1 ?_
  refine callsIn_of_wp_marks Tryz.func40 rfl trivial ?_ rfl
  simp only [Tryz.ntmps40, List.size_toArray, List.length_cons, List.length_nil, Nat.reduceAdd, Nat.reduceSub, Array.replicate_succ, Array.replicate_zero, List.push_toArray, List.append_toArray, List.nil_append, List.cons_append]
  gi_wp2_with (refine ⟨trivial, ?_⟩; gi_at_call 74; refine (callsIn_wide.2 (SplitSeq_any _ s)).mono ?_; rintro e w' ⟨rfl, rfl⟩)
  have k0 := Boxed.new w 22 (.slice a p.length c)
  have k1 := Boxed.new (w.alloc (.cells #[.slice a p.length c] 22)) 22 (.slice none 0 0)
  have k2 := Boxed.new ((w.alloc (.cells #[.slice a p.length c] 22)).alloc (.cells #[.slice none 0 0] 22)) 4 (.bool false)
  have k3 := Boxed.new (((w.alloc (.cells #[.slice a p.length c] 22)).alloc (.cells #[.slice none 0 0] 22)).alloc (.cells #[.bool false] 4)) 9 (.string s)
  have k4 := Boxed.new ((((w.alloc (.cells #[.slice a p.length c] 22)).alloc (.cells #[.slice none 0 0] 22)).alloc (.cells #[.bool false] 4)).alloc (.cells #[.string s] 9)) 9 (.string ⟨#[47]⟩)
  have k5 := Boxed.new (((((w.alloc (.cells #[.slice a p.length c] 22)).alloc (.cells #[.slice none 0 0] 22)).alloc (.cells #[.bool false] 4)).alloc (.cells #[.string s] 9)).alloc (.cells #[.string ⟨#[47]⟩] 9)) 3 (.int .i64 0)
  simp only [World.size_alloc] at k1 k2 k3 k4 k5
  have hB0 : Below base w ((((((w.alloc (.cells #[.slice a p.length c] 22)).alloc (.cells #[.slice none 0 0] 22)).alloc (.cells #[.bool false] 4)).alloc (.cells #[.string s] 9)).alloc (.cells #[.string ⟨#[47]⟩] 9)).alloc (.cells #[.int .i64 0] 3)) :=
    ((((((Below.refl base w).alloc hb _).alloc (by simp; omega) _).alloc (by simp; omega) _).alloc (by simp; omega) _).alloc (by simp; omega) _).alloc (by simp; omega) _
  refine range_law (by omega) (gf := 178) (lb := #[.pointer (some ⟨w.heap.size + 1 + 1 + 1 + 1, 0, none⟩), .pointer (some ⟨w.heap.size + 1 + 1 + 1, 0, none⟩), .pointer (some ⟨w.heap.size + 1 + 1 + 1 + 1 + 1, 0, none⟩)]) rfl
    (enters_of Tryz.func178 (by kernel_rfl) rfl)
    (seq_iters _ (by omega) (w.heap.size + 1 + 1 + 1) s (by omega) _ (((k3.alloc _).alloc _)) (k4.alloc _) k5) (mine_keeps _) (keeps3_trans _) (keeps3_put (by simp)) (fun _ => rfl)
    (FI base w.heap.size w p) (FX base w.heap.size w p) (FI_own _ _ _ _ _ hb (by simp; omega)) (FX_own _ _ _ _ _ hb (by simp; omega)) (FI_mine _ _ _ _ hb)
    ⟨⟨_, p, ((((k0.alloc _).alloc _).alloc _).alloc _).alloc _, (((((hown.alloc _).alloc _).alloc _).alloc _).alloc _).alloc _, rfl, by simp [cost]⟩, ⟨s, (((k1.alloc _).alloc _).alloc _).alloc _, ((k2.alloc _).alloc _).alloc _, (k3.alloc _).alloc _, k4.alloc _, k5⟩, hB0⟩
    (fun x => { tmps := #[.slice a p.length c, .string s, .pointer (some ⟨w.heap.size, 0, none⟩), undef, .pointer (some ⟨w.heap.size + 1, 0, none⟩), .pointer (some ⟨w.heap.size + 1 + 1, 0, none⟩), .string x, .string s,
      .func (.func 178) #[] #[.pointer (some ⟨w.heap.size + 1 + 1 + 1 + 1, 0, none⟩), .pointer (some ⟨w.heap.size + 1 + 1 + 1, 0, none⟩), .pointer (some ⟨w.heap.size + 1 + 1 + 1 + 1 + 1, 0, none⟩)], .string x,
      undef, undef, undef, undef, undef, undef, undef, undef, undef, undef, undef, undef, undef, undef, undef, undef, undef, undef, undef, undef, undef, undef, undef, undef], defers := [] }) ?assign ?body ?done ?stop
  case assign =>
    intro l x W K hK
    gi_wp2
    exact hK
  case body =>
    clear k0 k1 k2 k3 k4 k5 hB0 hown
    rintro l pre x W ⟨⟨v, q, hv, hr, hw, hl⟩, ⟨t3, ho⟩, hB⟩ hsp
    obtain ⟨av, cv, rfl⟩ := owns_slice hr
    have HW := Lib.hid hw
    clear hw
    have cv0 := hv.cell
    have fv0 := hv.frozen
    by_cases h0 : x.toList.isEmpty = true
    · gi_wp2
      exact ⟨KeepsOthers.refl _, keeps3_refl _ _, FI_next HW hl (stepB_skip (.inl (bs_empty h0))) (by omega) hv hr ho hB⟩
    · have h0' : x.toList.isEmpty = false := by simpa using h0
      clear h0
      by_cases h1 : (x.toList == [46]) = true
      · gi_wp2
        exact ⟨KeepsOthers.refl _, keeps3_refl _ _, FI_next HW hl (stepB_skip (.inr (bs_is h1))) (by omega) hv hr ho hB⟩
      · have h1' : (x.toList == [46]) = false := by simpa using h1
        clear h1
        by_cases h2 : (x.toList == [46, 46]) = true
        · by_cases hq : ((q.length : Int) == 0) = true
          · obtain ⟨b1, b2, _⟩ := ho
            have f1 := b1.frozen
            have f2 := b2.frozen
            have c1 := b1.cell
            have c2 := b2.cell
            have hq0 : q = [] := List.eq_nil_of_length_eq_zero (by have := eq_of_beq hq; omega)
            have HN : Hid (Pt.walkB p ((pre ++ [x]).map bs) = none) := Lib.hid (by rw [List.map_append, List.map_singleton, walkB_snoc, HW.out, Option.bind_some, hq0]; exact stepB_out (bs_is h2))
            clear hq0
            gi_wp2
            exact ⟨(KeepsOthers.setCell _ _ _).trans (KeepsOthers.setCell _ _ _), HN.out, (b1.set _).kept (grownBy_setCell' _ _ _) (by simp), (b2.kept (grownBy_setCell' _ _ _) (by simp)).set _,
              (hB.setCell (p := ⟨w.heap.size + 1, 0, none⟩) (by show base ≤ w.heap.size + 1; omega) _).setCell (p := ⟨w.heap.size + 1 + 1, 0, none⟩) (by show base ≤ w.heap.size + 1 + 1; omega) _⟩
          · have hq' : ((q.length : Int) == 0) = false := by simpa using hq
            have hq0 : 0 < q.length := by have := beq_eq_false_iff_ne.1 hq'; omega
            clear hq
            obtain ⟨g, c2, e2, hnc, hcm⟩ := owns_some hr hq0
            cases e2
            have hh := Lib.hid (held_of hr)
            have hst := Lib.hid (stepB_up (bs_is h2) (fun e => by rw [e] at hq0; exact absurd hq0 (Nat.lt_irrefl 0) : q ≠ []))
            have hmx : Tryz.prog.follows .mixedOrders = true := by kernel_rfl
            have hbd := Lib.Pa.lastIndexByte_bounds q 47
            unfold maxLen at hcm
            obtain ⟨i, hi⟩ : ∃ i, Lib.Pa.lastIndexByte q 47 = i := ⟨_, rfl⟩
            have HI := Lib.hid hi
            obtain ⟨hbd1, hbd2⟩ := hbd
            rw [hi] at hbd1 hbd2
            clear hi
            gi_wp2
            gi_region_with_o (refine ⟨trivial, ?_⟩; gi_at_call 75; go_must (refine (CallsIn.inRound l (callsIn_wide.2 (last_is _ g cv _ q rfl (by omega) (held_drew hh.out) i HI.out))).mono ?_); rintro e w' ⟨rfl, rfl⟩)
            all_goals gi_wp2
            all_goals
              have hst' : Pt.stepB q (bs x) = some (q.take (max i 0).toNat) := by rw [← HI.out]; exact hst.out
              have hr2 := owns_take (k := (max i 0).toNat) hr (by omega)
              have ho2 := ho.set (.slice (some ⟨g, 0, none⟩) (max i 0).toNat cv)
              have e2 : (q.take (max i 0).toNat).length = (max i 0).toNat := by rw [List.length_take]; omega
              exact ⟨(KeepsOthers.setCell _ _ _).trans (KeepsOthers.drew _), ho.keeps3 ho2, FI_next HW hl hst' (by omega) (hv.set _) ((hr2.kept (grownBy_setCell' _ _ _) (.inr (hv.not_row (by decide) hr).symm)).drew) ho2 (hB.setCell (p := ⟨w.heap.size, 0, none⟩) hb _).drew⟩
        · have h2' : (x.toList == [46, 46]) = false := by simpa using h2
          clear h2
          have hst := stepB_add (q := q) (bs_ne h0') (bs_not h1') (bs_not h2')
          have hsz := cost_prefix hsp
          rw [List.map_append, List.map_singleton, cost_snoc, cost_pieces, bs_len, bs_len] at hsz
          obtain ⟨i0, hi, hz0, hz1, hz2⟩ := info_parts infoU8
          by_cases hq : 0 < q.length
          · rw [if_neg (fun e => by rw [e] at hq; exact absurd hq (Nat.lt_irrefl 0))] at hst
            have HST := Lib.hid hst
            clear hst
            gi_wp2_with (first
              | (gi_at_builtin; refine wpListIn_append_own _ rfl _ _ 22 rfl base 5 i0 (.int .u8 0) 1 1 Tryz.underlying22 hi hz0 hz1 hz2 rfl (by decide) _ _ _ rfl (hr.alloc _) ⟨W.heap.size, 0, none⟩ 1 1 [.int .u8 47] rfl rfl (cell_one_new _ _ _) (by simp [Value.oneCell']) (by unfold maxLen; omega) (by omega) (by have := hB.size; simp; omega) ?_; intro v' w1 hown' hgrow _; obtain ⟨g', cap', rfl⟩ := ownsRow_succ hown'; obtain ⟨hv1, hv2, hr2, hk2, hb2⟩ := hv.appended (by decide) hr (by have := hB.size; omega) hb hown' hgrow; have hc1 := hv1.cell; have hf1 := hv1.frozen; have hc2 := hv2.cell; have hf2 := hv2.frozen)
              | (gi_at_builtin; refine wpListIn_append_string _ rfl _ _ 22 9 rfl base 5 i0 Tryz.underlying22 Tryz.underlying9 hi hz0 hz1 hz2 _ _ _ rfl hr2 x rfl (by unfold maxLen; omega) (by omega) (by have := hb2.size; have := hB.size; omega) ?_; intro v'' w2 hown2 hgrow2; obtain ⟨av2, cv2, rfl⟩ := owns_slice hown2; obtain ⟨hx1, hx2, hxr, hxk, hxb⟩ := appended_string hv2 hr2 (by have := hb2.size; have := hB.size; omega) hb hown2 hgrow2; have hc3 := hx1.cell; have hf3 := hx1.frozen))
            have e1 : (q ++ [47] ++ bs x).length = q.length + 1 + x.size := by rw [List.length_append, List.length_append, bs_len]; rfl
            have o4 := (((ho.alloc _).row (hr.alloc _) hgrow).set (.slice (some ⟨g', 0, none⟩) (q.length + 1) cap')).row hr2 hgrow2
            have o5 := o4.set (.slice av2 (q.length + 1 + x.size) cv2)
            exact ⟨hk2.trans hxk, ho.keeps3 o5, FI_next HW hl HST.out (by omega) hx2 (by rw [e1]; rw [u8s_append, u8s_append]; exact hxr) o5 ((hB.trans hb2).trans hxb)⟩
          · rw [if_pos (List.eq_nil_of_length_eq_zero (by omega))] at hst
            have HST := Lib.hid hst
            clear hst
            gi_wp2_with (gi_at_builtin; refine wpListIn_append_string _ rfl _ _ 22 9 rfl base 5 i0 Tryz.underlying22 Tryz.underlying9 hi hz0 hz1 hz2 _ _ _ rfl hr x rfl (by unfold maxLen; omega) (by omega) (by have := hB.size; omega) ?_; intro v'' w2 hown2 hgrow2; obtain ⟨av2, cv2, rfl⟩ := owns_slice hown2; obtain ⟨hx1, hx2, hxr, hxk, hxb⟩ := appended_string hv hr (by have := hB.size; omega) hb hown2 hgrow2; have hc3 := hx1.cell; have hf3 := hx1.frozen)
            have e1 : (q ++ bs x).length = q.length + x.size := by rw [List.length_append, bs_len]
            have o4 := ho.row hr hgrow2
            have o5 := o4.set (.slice av2 (q.length + x.size) cv2)
            exact ⟨hxk, ho.keeps3 o5, FI_next HW hl HST.out (by omega) hx2 (by rw [e1, u8s_append]; exact hxr) o5 (hB.trans hxb)⟩
  case done =>
    clear k0 k1 k2 k3 k4 k5 hB0 hown
    rintro D ys W hD hys ⟨⟨v, q, hv, hr, hw, hl⟩, ⟨t3, b1, b2, _⟩, hB⟩ hK
    obtain ⟨av, cv, rfl⟩ := owns_slice hr
    have HY := Lib.hid hys
    have HW := Lib.hid hw
    clear hys hw
    have c0 := hv.cell
    have c1 := b1.cell
    have c2 := b2.cell
    have f1 := b1.frozen
    have f2 := b2.frozen
    gi_wp2
    have hK' := ((KeepsOthers.setCell W ⟨w.heap.size + 1, 0, none⟩ (.slice av q.length cv)).trans (KeepsOthers.setCell _ ⟨w.heap.size + 1 + 1, 0, none⟩ (.bool true))).same D _ hK rfl
    have e1 := boxed_put ((b1.set (.slice av q.length cv)).kept (grownBy_setCell' _ (w.heap.size + 1 + 1) (.bool true)) (by simp)) hK' (.deferred none)
    have e2 := boxed_put ((b2.kept (grownBy_setCell' _ (w.heap.size + 1) (.slice av q.length cv)) (by simp)).set (.bool true)) hK' (.deferred none)
    have hc1 := e1.cell
    have hc2 := e2.cell
    refine ⟨by simp, .inl ⟨_, _, rfl, run_takeDeferred hK', ?_⟩⟩
    refine ⟨.tuple #[.slice av q.length cv, .bool true], ?_, ?_⟩
    · simp [results, Tryz.f40, go_sem, hc1, hc2]
    · have e : Pt.walkB p (Pt.pieces (bs s)) = some q := by rw [← HY.out]; exact HW.out
      rw [e]
      refine ⟨((hB.setCell (p := ⟨w.heap.size + 1, 0, none⟩) (by show base ≤ w.heap.size + 1; omega) _).setCell (p := ⟨w.heap.size + 1 + 1, 0, none⟩) (by show base ≤ w.heap.size + 1 + 1; omega) _).trans (belowK_b (w := w) hb _ D _ _ (by simp at hD; omega) hK' rfl rfl), _, rfl, ?_⟩
      exact ownsRow_putObj ((hr.kept (grownBy_setCell' _ _ _) (.inr (b1.not_row (by decide) hr).symm)).kept (grownBy_setCell' _ _ _) (.inr ((b2.kept (grownBy_setCell' _ (w.heap.size + 1) (.slice av q.length cv)) (by simp)).not_row (by decide) (hr.kept (grownBy_setCell' _ _ _) (.inr (b1.not_row (by decide) hr).symm))).symm)) _ hK' rfl
  case stop =>
    clear k0 k1 k2 k3 k4 k5 hB0 hown
    rintro D pre W hD hpre ⟨hw, b1, b2, hB⟩ hK
    have c1 := b1.cell
    have c2 := b2.cell
    have HN := Lib.hid (walkB_none_prefix hpre hw)
    clear hpre hw
    gi_wp2
    have e1 := boxed_put b1 hK (.deferred none)
    have e2 := boxed_put b2 hK (.deferred none)
    have hc1 := e1.cell
    have hc2 := e2.cell
    refine ⟨by simp, .inl ⟨_, _, rfl, run_takeDeferred hK, ?_⟩⟩
    refine ⟨.tuple #[.slice none 0 0, .bool false], ?_, ?_⟩
    · simp [results, Tryz.f40, go_sem, hc1, hc2]
    · rw [HN.out]
      exact ⟨hB.trans (belowK_b (w := w) hb _ D _ _ (by simp at hD; omega) hK rfl rfl), rfl⟩
end Go.Proofs.YtgednccpjegbmaaGreatDoor
namespace Go.Proofs.YtgednccpjegbmaaGreatDoor
open Go.RowKit
set_option maxRecDepth 100000

/-- The value holds these strings. -/
def Strs (w : World) (v : Value) (ss : List ByteArray) : Prop :=
  (ss = [] ∧ ∃ a c, v = .slice a 0 c) ∨ ∃ b o c, v = .slice (some ⟨b, o, none⟩) ss.length c ∧ b < w.heap.size ∧ ∀ j, j < ss.length → w.cell? ⟨b, o + j, none⟩ = some (.string (ss[j]?.getD ByteArray.empty))

def tot (ss : List ByteArray) : Nat := (ss.map fun s => s.size + 1).sum

theorem stepB_len {p x q : List UInt8} (h : Pt.stepB p x = some q) : q.length ≤ p.length + (x.length + 1) := by
  unfold Pt.stepB at h
  split at h
  · cases h; omega
  · split at h
    · split at h
      · cases h
      · cases h; rw [List.length_take]; omega
    · cases h
      split
      · rw [List.length_append]; omega
      · rw [List.length_append, List.length_append, List.length_singleton]; omega
theorem walkB_len : ∀ (l : List (List UInt8)) (p q : List UInt8), Pt.walkB p l = some q → q.length ≤ p.length + cost l
  | [], p, q, h => by cases h; simp
  | x :: l, p, q, h => by
    unfold Pt.walkB at h
    cases hs : Pt.stepB p x with
    | none => rw [hs] at h; cases h
    | some r =>
      rw [hs] at h
      have h1 := stepB_len hs
      have h2 := walkB_len l r q h
      have h3 : cost (x :: l) = (x.length + 1) + cost l := by simp [cost]
      omega

theorem follow_yes (w : World) (base : Nat) (v : Value) (p q : List UInt8) (s : ByteArray) (hown : w.ownsRow base 5 1 v p.length (u8s p)) (hb : base ≤ w.heap.size) (hs : p.length + s.size + 1 ≤ 140737488355328)
    (hw : Hid (Pt.walkB p (Pt.pieces (bs s)) = some q)) :
    Calls Tryz.prog 40 #[v, .string s] w fun e w' => ∃ a c, e = .returned (.tuple #[.slice a q.length c, .bool true]) ∧ w'.ownsRow base 5 1 (.slice a q.length c) q.length (u8s q) ∧ Below base w w' := by
  refine (follow_any w base v p s hown hb hs).mono ?_
  rw [hw.out]
  rintro e w' ⟨hB, v', rfl, hr⟩
  obtain ⟨a, c, rfl⟩ := owns_slice hr
  exact ⟨a, c, rfl, hr, hB⟩
theorem follow_no (w : World) (base : Nat) (v : Value) (p : List UInt8) (s : ByteArray) (hown : w.ownsRow base 5 1 v p.length (u8s p)) (hb : base ≤ w.heap.size) (hs : p.length + s.size + 1 ≤ 140737488355328)
    (hw : Hid (Pt.walkB p (Pt.pieces (bs s)) = none)) :
    Calls Tryz.prog 40 #[v, .string s] w fun e w' => e = .returned (.tuple #[.slice none 0 0, .bool false]) ∧ Below base w w' := by
  refine (follow_any w base v p s hown hb hs).mono ?_
  rw [hw.out]
  rintro e w' ⟨hB, rfl⟩
  exact ⟨rfl, hB⟩

/-- A string of bytes. -/
def str (l : List UInt8) : ByteArray := ⟨l.toArray⟩
theorem bs_str (l : List UInt8) : bs (str l) = l := rfl
theorem str_bs (s : ByteArray) : str (bs s) = s := rfl

def JoinPost (w : World) (r : Option (List UInt8)) (e : Ending) (w' : World) : Prop :=
  Below w.heap.size w w' ∧ match r with
    | some q => e = .returned (.tuple #[.string (str q), .int .i64 0])
    | none => e = .returned (.tuple #[.string (str []), .int .i64 2])

theorem drop_cons {ss : List ByteArray} {k : Nat} (h : k < ss.length) : ss.drop k = (ss[k]?.getD ByteArray.empty) :: ss.drop (k + 1) := by
  rw [List.drop_eq_getElem_cons h, List.getElem?_eq_getElem h]; rfl

set_option maxHeartbeats 2000000 in
theorem JoinB_any (w : World) (b o c : Nat) (ss : List ByteArray) (hlt : b < w.heap.size) (hc : ∀ j, j < ss.length → w.cell? ⟨b, o + j, none⟩ = some (.string (ss[j]?.getD ByteArray.empty))) (hn : ss.length ≤ 1000000) (hs : tot ss ≤ 140737488355327) :
    Calls Tryz.prog 19 #[.slice (some ⟨b, o, none⟩) ss.length c] w (JoinPost w ((Pt.goB [] (ss.map bs)).map fun p => if p = [] then [46] else p)) := by
  have HC := Lib.hid hc
  clear hc
  go_enter Tryz.func19, Tryz.ntmps19
  go_wp2
  go_loopw [4, 10] (fun v i wr => ∃ (k : Nat) (q : List UInt8) (a : Option Addr) (cp : Nat), k ≤ ss.length ∧ i = .int .i64 k ∧ v = .slice a q.length cp ∧ wr.ownsRow w.heap.size 5 1 (.slice a q.length cp) q.length (u8s q) ∧
      Pt.goB q ((ss.drop k).map bs) = Pt.goB [] (ss.map bs) ∧ q.length + tot (ss.drop k) ≤ tot ss ∧ Below w.heap.size w wr)
    (fun _ i _ => ss.length - (intOf i).toNat)
  case atStart => exact ⟨0, [], none, 0, Nat.zero_le _, rfl, rfl, World.ownsRow_nil _ _ _ _, rfl, by simp, Below.refl _ _⟩
  case round =>
    obtain ⟨k, q, a, cp, hk, rfl, rfl, hr, hg, hq, hB⟩ := hrel
    have HG := Lib.hid hg
    clear hg
    by_cases hlk : k < ss.length
    · have hcell := (hB.cell (p := ⟨b, o + k, none⟩) hlt).trans (HC.out k hlk)
      rw [drop_cons hlk] at hq
      have hG2 := HG.out
      rw [drop_cons hlk] at hG2
      generalize ss[k]?.getD ByteArray.empty = x at *
      have hq2 : q.length + (x.size + 1) + tot (ss.drop (k + 1)) ≤ tot ss := by simp [tot] at hq ⊢; omega
      clear hq
      rw [List.map_cons, Pt.goB] at hG2
      cases hw : Pt.walkB q (Pt.pieces (bs x)) with
      | none =>
        rw [hw] at hG2
        have HW := Lib.hid hw
        have HE := Lib.hid hG2
        clear hw hG2
        go_wp2_with (go_at_call 40; refine (follow_no _ w.heap.size _ q x hr hB.size (by omega) HW).mono ?_; rintro e w' ⟨rfl, hB2⟩)
        go_ret2
        refine ⟨hB.trans hB2, ?_⟩
        rw [← HE.out]
        rfl
      | some r =>
        rw [hw] at hG2
        have hlen := walkB_len _ _ _ hw
        rw [cost_pieces, bs_len] at hlen
        have HW := Lib.hid hw
        have HE := Lib.hid hG2
        clear hw hG2
        go_wp2_with (go_at_call 40; refine (follow_yes _ w.heap.size _ q r x hr hB.size (by omega) HW).mono ?_; rintro e w' ⟨a2, c2, rfl, hr2, hB2⟩)
        go_roundw
        case rel => exact ⟨k + 1, r, a2, c2, by omega, by go_num, rfl, hr2, HE.out, by omega, hB.trans hB2⟩
        case measure => simp [intOf]; omega
    · have hke : k = ss.length := by omega
      have hG2 := HG.out
      rw [hke, List.drop_length] at hG2
      have HE : Hid (Pt.goB [] (ss.map bs) = some q) := Lib.hid hG2.symm
      clear hG2
      have hql : q.length ≤ 140737488355328 := by omega
      clear hq hke
      have hge : ¬ (k : Int) < ss.length := by omega
      by_cases h0 : q.length = 0
      · have h0' : ((q.length : Int) == 0) = true := by rw [h0]; rfl
        have hqe := Lib.hid (List.eq_nil_of_length_eq_zero h0)
        clear h0
        go_wp2
        go_ret2
        refine ⟨hB, ?_⟩
        rw [HE.out, hqe.out]
        rfl
      · have h0' : ((q.length : Int) == 0) = false := by rw [beq_eq_false_iff_ne]; omega
        obtain ⟨g, c2, e2, _, _⟩ := owns_some hr (by omega)
        cases e2
        have hh := held_of hr
        have hconv := run_convert_bytes_back (P := Tryz.prog) wr 22 9 5 ⟨g, 0, none⟩ cp q Tryz.underlying22 Tryz.underlying5 Tryz.underlying9
          (fun j hj => by
            have := hh j hj
            rw [List.getElem?_eq_getElem hj] at this
            rw [Addr.add_lit, Nat.zero_add]
            exact this)
        have hqe := Lib.hid (fun e => h0 (by rw [e]; rfl) : q ≠ [])
        clear h0 hh
        go_wp2
        go_ret2
        refine ⟨hB, ?_⟩
        rw [HE.out]
        simp only [Option.map_some]
        rw [if_neg hqe.out]
        rfl

set_option maxHeartbeats 1000000 in
theorem Join0_any (w : World) (a : Option Addr) (c : Nat) :
    Calls Tryz.prog 19 #[.slice a 0 c] w (JoinPost w (some [46])) := by
  go_enter Tryz.func19, Tryz.ntmps19
  go_wp2
  go_loopw [4, 10] (fun v i wr => v = .slice none 0 0 ∧ i = .int .i64 0 ∧ wr = w) (fun _ _ _ => 0)
  case atStart => exact ⟨rfl, rfl, rfl⟩
  case round =>
    obtain ⟨rfl, rfl, rfl⟩ := hrel
    go_wp2
    go_ret2
    exact ⟨Below.refl _ _, rfl⟩

/-- path.Join: where the strings lead. -/
theorem Join_any (w : World) (v : Value) (ss : List ByteArray) (hv : Strs w v ss) (hn : ss.length ≤ 1000000) (hs : tot ss ≤ 140737488355327) :
    Calls Tryz.prog 19 #[v] w (JoinPost w (Pt.join (ss.map bs))) := by
  rw [Pt.join_eq]
  rcases hv with ⟨rfl, a, c, rfl⟩ | ⟨b, o, c, rfl, hb, hc⟩
  · exact Join0_any w a c
  · exact JoinB_any w b o c ss hb hc hn hs

theorem Join_yes (w : World) (v : Value) (ss : List ByteArray) (q : List UInt8) (hv : Strs w v ss) (hn : ss.length ≤ 1000000) (hs : tot ss ≤ 140737488355327) (h : Hid (Pt.join (ss.map bs) = some q)) :
    Calls Tryz.prog 19 #[v] w fun e w' => e = .returned (.tuple #[.string (str q), .int .i64 0]) ∧ Below w.heap.size w w' := by
  refine (Join_any w v ss hv hn hs).mono ?_
  rw [h.out]
  rintro e w' ⟨hB, rfl⟩
  exact ⟨rfl, hB⟩
theorem Join_no (w : World) (v : Value) (ss : List ByteArray) (hv : Strs w v ss) (hn : ss.length ≤ 1000000) (hs : tot ss ≤ 140737488355327) (h : Hid (Pt.join (ss.map bs) = none)) :
    Calls Tryz.prog 19 #[v] w fun e w' => e = .returned (.tuple #[.string (str []), .int .i64 2]) ∧ Below w.heap.size w w' := by
  refine (Join_any w v ss hv hn hs).mono ?_
  rw [h.out]
  rintro e w' ⟨hB, rfl⟩
  exact ⟨rfl, hB⟩

/-- A list of one string, as a call lays it. -/
theorem strs_one (w : World) (s : ByteArray) (c : Nat) : Strs (w.alloc (.cells #[.string s] 9)) (.slice (some ⟨w.heap.size, 0, none⟩) 1 c) [s] :=
  .inr ⟨w.heap.size, 0, c, rfl, by simp, fun j hj => by
    obtain rfl : j = 0 := by simpa using hj
    exact (Boxed.new w 9 (.string s)).cell⟩

/-- Whether a string is the path that Join of it returns. -/
def isPath (s : List UInt8) : Bool := decide (Pt.join [s] = some s)

set_option maxHeartbeats 1000000 in
theorem Clean_any (w : World) (s : ByteArray) (hs : s.size ≤ 140737488355326) :
    Calls Tryz.prog 18 #[.string s] w fun e w' => e = .returned (.bool (isPath (bs s))) ∧ Below w.heap.size w w' := by
  have hss := strs_one w s 1
  cases hj : Pt.join [bs s] with
  | none =>
    have HN : Hid (Pt.join ([s].map bs) = none) := Lib.hid hj
    have HE : Hid (isPath (bs s) = false) := Lib.hid (by unfold isPath; rw [hj]; rfl)
    clear hj
    go_enter Tryz.func18, Tryz.ntmps18
    go_wp2_with (go_at_call 19; refine (Join_no _ _ [s] hss (by simp) (by simp [tot]; omega) HN).mono ?_; rintro e w' ⟨rfl, hB2⟩)
    go_ret
    exact ⟨by rw [HE.out]; rfl, ((Below.refl _ w).alloc (Nat.le_refl _) _).trans (hB2.mono (by simp))⟩
  | some q =>
    have HN : Hid (Pt.join ([s].map bs) = some q) := Lib.hid hj
    by_cases hq : q = bs s
    · have HE : Hid (isPath (bs s) = true) := Lib.hid (by unfold isPath; rw [hj, hq]; simp)
      have hb : ((str q).toList == s.toList) = true := by rw [Lib.toList_data, Lib.toList_data, hq, beq_iff_eq]; rfl
      clear hj hq
      go_enter Tryz.func18, Tryz.ntmps18
      go_wp2_with (go_at_call 19; refine (Join_yes _ _ [s] q hss (by simp) (by simp [tot]; omega) HN).mono ?_; rintro e w' ⟨rfl, hB2⟩)
      go_ret
      exact ⟨by rw [HE.out]; rfl, ((Below.refl _ w).alloc (Nat.le_refl _) _).trans (hB2.mono (by simp))⟩
    · have HE : Hid (isPath (bs s) = false) := Lib.hid (by unfold isPath; rw [hj]; simpa using hq)
      have hb : ((str q).toList == s.toList) = false := by rw [Lib.toList_data, Lib.toList_data, beq_eq_false_iff_ne]; exact hq
      clear hj hq
      go_enter Tryz.func18, Tryz.ntmps18
      go_wp2_with (go_at_call 19; refine (Join_yes _ _ [s] q hss (by simp) (by simp [tot]; omega) HN).mono ?_; rintro e w' ⟨rfl, hB2⟩)
      go_ret
      exact ⟨by rw [HE.out]; rfl, ((Below.refl _ w).alloc (Nat.le_refl _) _).trans (hB2.mono (by simp))⟩
end Go.Proofs.YtgednccpjegbmaaGreatDoor
