/-
  A loop over an iterator that keeps its place in a variable of its own: the law for the caller. Conditions: what the iterator does between two rounds ('Mine') the caller's invariant abides; what a round keeps ('Kp') the iterator names.
  The plain side of package path: what its functions make of lists of bytes, and that this is what the document's answer makes. No program, no world.
  What small callees of package path do: the last place of a byte in a slice.
  strings.SplitSeq at a slash: what the iterator hands over, piece by piece.
-/
import Derived.RangeFuncFrom
import Derived.Shelf.Abstract
import Derived.Lib.SplitLaws
import Derived.Lib.PathFns
import Derived.WalkKit
import Derived.LoopTactic
import Derived.WalkSpells
import Derived.WalkLawsBesides
import Derived.Lib.Hide
import Derived.Lib.Walk
import Derived.Lib.Bytealg
import Derived.Outline
import Derived.Test.YtpliljcjjffipaaGreatDoorProg
import Derived.RangeFuncNested
import Derived.RangeFuncBound
import Derived.RangeFuncCalls
import Derived.RangeFuncLeaves
import Derived.RangeFuncBox
import Derived.Shelf.RegionOpen
import Derived.OwnWalkIn
import Derived.TacticsInMore
import Derived.LoopNIn
import Derived.LoopIn
import Derived.Lib.Split
namespace Go.Proofs.YtpliljcjjffipaaGreatDoor
open Go.RowKit Go

/-- What an iterator says of itself, for whatever body: all of it came, or the body stopped it. -/
def Iters {α : Type} (n : Nat) (P : Program) (gf : Nat) (lb : Array Value) (encs : α → Array Value) (Mine Kp : World → World → Prop) (S Sp : List α → Prop) (w : World) : Prop :=
  ∀ (l : Nat) (J Jx : List α → World → Prop) (W : World), Below w.heap.size w W → (∀ s X Y, J s X → Mine X Y → J s Y) →
    (∀ pre x X, J pre X → Sp (pre ++ [x]) → YieldAt Fence.wide (n - 1) P l (encs x) X fun e Y => (e = .returned (.bool true) ∧ J (pre ++ [x]) Y ∧ Kp X Y) ∨ (e = .returned (.bool false) ∧ Jx (pre ++ [x]) Y)) →
    J [] W → CallsIn Fence.wide n P gf (#[.func (.yield l) #[] #[]] ++ lb) W fun e Y => (∃ v, e = .returned v) ∧ ((∃ xs, S xs ∧ J xs Y) ∨ ∃ pre, Sp pre ∧ Jx pre Y)

/-- How a round's body ends. -/
def bodyEnds {α : Type} (Kp : World → World → Prop) (I : List α → World → Prop) (Ix : List α → World → Prop) (xs : List α) (W : World) : Exit → Act → World → Prop
  | .normal, _, Y => KeepsOthers W Y ∧ Kp W Y ∧ I xs Y
  | .ret, _, Y => KeepsOthers W Y ∧ Ix xs Y
  | _, _, _ => False

theorem range_law {α : Type} {n : Nat} {P : Program} {g : Operand} {ps : Array Tmp} {assign body : Code} {Q : Exit → Act → World → Prop} {a : Act} {w : World}
    (h1 : 1 ≤ n) {gf : Nat} {lb : Array Value} (hg : a.eval g = .func (.func gf) #[] lb) (eg : ∀ args w, (callFunc gf args).run P w = .ok (.enter gf args) w)
    {encs : α → Array Value} {Mine Kp : World → World → Prop} {S Sp : List α → Prop} (hseq : Iters (n - 1) P gf lb encs Mine Kp S Sp w)
    (hMine : ∀ X Y (k : Nat) (o : Obj), Mine X Y → X.heap[k]? = some o → o.isCells = false → Y.heap[k]? = some o)
    (hKt : ∀ A B C : World, Kp A B → Kp B C → Kp A C) (hKb : ∀ (W : World) (l : Nat) (o o' : Obj), w.heap.size ≤ l → W.heap[l]? = some o → o.isCells = false → Kp W (W.putObj l o')) (hps : ∀ x, (encs x).size = ps.size)
    (I Ix : List α → World → Prop) (hI : OwnFrom w.heap.size I) (hIx : OwnFrom w.heap.size Ix) (hIm : ∀ s X Y, I s X → Mine X Y → I s Y) (h0 : I [] w) (a₁ : α → Act)
    (hassign : ∀ (l : Nat) (x : α) (W : World) (K : Act → World → Prop), K (a₁ x) W →
      assign.wpIn (Fence.wide.inRound l) (n - 1 - 1) P (Exit.then K (fun _ _ _ => False)) { tmps := (ps.zip (encs x)).foldl (fun t (p, v) => t.setIfInBounds p v) a.tmps, defers := [] } W)
    (hbody : ∀ (l : Nat) (pre : List α) (x : α) (W : World), I pre W → Sp (pre ++ [x]) → body.wpIn (Fence.wide.inRound l) (n - 1 - 1) P (bodyEnds Kp I Ix (pre ++ [x]) W) (a₁ x) W)
    (hdone : ∀ (D : Nat) (xs : List α) (W : World), w.heap.size ≤ D → S xs → I xs W → W.heap[D]? = some (.deferred (some [])) → Q .normal { a with defers := { target := .collected D, args := #[] } :: a.defers } W)
    (hstop : ∀ (D : Nat) (pre : List α) (W : World), w.heap.size ≤ D → Sp pre → Ix pre W → W.heap[D]? = some (.deferred (some [])) → Code.ret.wpIn Fence.wide n P Q { a with defers := { target := .collected D, args := #[] } :: a.defers } W) :
    (Code.rangeFunc g ps assign body).wpIn Fence.wide n P Q a w := by
  apply wpIn_rangeFunc
  intro fn hfn
  -- the loop's record, by its state and the jump that waits
  let R : LoopState → Option Code → Obj := fun st pe => .loop { state := st, pending := pe, fn := fn, tmps := a.tmps, params := ps, assign := assign, body := body, defers := w.heap.size }
  let D := w.heap.size
  let L := w.heap.size + 1
  let W1 := (w.alloc (.deferred (some []))).alloc (R .ready none)
  have sz : W1.heap.size = w.heap.size + 2 := by simp [W1]
  have atL : W1.heap[L]? = some (R .ready none) := by
    have := World.alloc_heap_new (w.alloc (.deferred (some []))) (R .ready none)
    rw [World.size_alloc] at this; exact this
  have atD : W1.heap[D]? = some (.deferred (some [])) := (Below.heap_alloc _ _ _ (by simp [D])).trans (World.alloc_heap_new w _)
  have start : I [] W1 := hI.alloc _ (hI.alloc _ h0)
  have low : Below w.heap.size w W1 := ((Below.refl _ w).alloc (Nat.le_refl _) _).alloc (by simp) _
  -- the invariant that the iterator carries: the caller's, and the two blocks
  let J : List α → World → Prop := fun pre W => I pre W ∧ W.heap[L]? = some (R .ready none) ∧ W.heap[D]? = some (.deferred (some []))
  let Jx : List α → World → Prop := fun pre W => Ix pre W ∧ W.heap[L]? = some (R .done (some .ret)) ∧ W.heap[D]? = some (.deferred (some []))
  refine ⟨L, [{ target := .collected D, args := #[] }], W1, { target := .fn (.func gf) lb, args := #[.func (.yield L) #[] #[]] }, W1, gf, #[.func (.yield L) #[] #[]] ++ lb, W1,
    run_enterLoop_outer _ _ _ _ _, ?_, fun _ _ => trivial, ?_, fun _ => h1, ?_⟩
  · simp only [resolve, hg]
    simp [go_sem]
  · simp [invoke, go_sem, eg]
  refine (hseq L J Jx W1 low ?_ ?_ ⟨start, atL, atD⟩).mono ?_
  · rintro s X Y ⟨i, il, id⟩ m
    exact ⟨hIm s X Y i m, hMine X Y L _ m il rfl, hMine X Y D _ m id rfl⟩
  · -- a round
    rintro pre x X ⟨i, il, id⟩ hsp
    have hy := run_yield (P := P) (args := encs x) il (hps x)
    refine ⟨_, _, _, _, hy, roundIn_of_wpIn hfn (hassign L x X _ ⟨_, run_beginRound il rfl, ?_⟩)⟩
    have ltL : L < X.heap.size := (Array.getElem?_eq_some_iff.1 il).1
    generalize hX2 : X.putObj L (.loop { ({ state := .ready, pending := none, fn := fn, tmps := a.tmps, params := ps, assign := assign, body := body, defers := w.heap.size } : Loop) with state := .busy }) = X2
    have bL : X2.heap[L]? = some (R .busy none) := by rw [← hX2]; exact World.putObj_heap_same ltL
    have bD : X2.heap[D]? = some (.deferred (some [])) := by rw [← hX2]; exact (World.putObj_heap_other (by simp only [D, L]; omega)).trans id
    have bK : Kp X X2 := by rw [← hX2]; exact hKb _ _ _ _ (by simp only [L]; omega) il rfl
    have bI : I pre X2 := by rw [← hX2]; exact hI.putObj _ i (by simp only [L]; omega) il rfl
    refine wpIn_mono (hbody L pre x X2 bI hsp) ?_
    rintro e a3 X3 hp
    cases e with
    | normal =>
      obtain ⟨ko, kk, i3⟩ := hp
      have l3 := ko.same L _ bL rfl
      have d3 := ko.same D _ bD rfl
      refine ⟨_, _, run_endRound none l3, .inl ⟨rfl, ⟨hI.putObj _ i3 (by simp only [L]; omega) l3 rfl, World.putObj_heap_same (Array.getElem?_eq_some_iff.1 l3).1, (World.putObj_heap_other (by simp only [D, L]; omega)).trans d3⟩, ?_⟩⟩
      exact hKt _ _ _ (hKt _ _ _ bK kk) (hKb _ _ _ _ (by simp only [L]; omega) l3 rfl)
    | ret =>
      obtain ⟨ko, i3⟩ := hp
      have l3 := ko.same L _ bL rfl
      have d3 := ko.same D _ bD rfl
      exact ⟨_, _, run_endRound (some .ret) l3, .inr ⟨rfl, hIx.putObj _ i3 (by simp only [L]; omega) l3 rfl, World.putObj_heap_same (Array.getElem?_eq_some_iff.1 l3).1, (World.putObj_heap_other (by simp only [D, L]; omega)).trans d3⟩⟩
    | exit id => exact hp.elim
    | goto t => exact hp.elim
    | panic ch => exact hp.elim
    | outgrown => exact hp.elim
  · -- the iterator has returned
    rintro e X2 ⟨⟨v, rfl⟩, (⟨xs, hS, i, il, id⟩ | ⟨pre, hSp, i, il, id⟩)⟩
    · exact ⟨none, _, run_endLoop il (by simp), hdone D xs _ (Nat.le_refl _) hS (hI.putObj _ i (by simp only [L]; omega) il rfl) ((World.putObj_heap_other (by simp only [D, L]; omega)).trans id)⟩
    · exact ⟨some .ret, _, run_endLoop il (by simp), hstop D pre _ (Nat.le_refl _) hSp (hIx.putObj _ i (by simp only [L]; omega) il rfl) ((World.putObj_heap_other (by simp only [D, L]; omega)).trans id)⟩
end Go.Proofs.YtpliljcjjffipaaGreatDoor
namespace Go.Proofs.YtpliljcjjffipaaGreatDoor.Pt
abbrev Bs := List UInt8

/-- The pieces between slashes. -/
def pieces : Bs → List Bs
  | [] => [[]]
  | c :: r => if c = 47 then [] :: pieces r else
    match pieces r with
    | [] => [[c]]
    | x :: xs => (c :: x) :: xs

theorem pieces_ne (s : Bs) : pieces s ≠ [] := by
  cases s with
  | nil => simp [pieces]
  | cons c r =>
    unfold pieces
    split
    · simp
    · split <;> simp

/-- A piece ahead of a slash. -/
theorem pieces_hit : ∀ (a b : Bs), 47 ∉ a → pieces (a ++ 47 :: b) = a :: pieces b
  | [], b, _ => by simp [pieces]
  | c :: a, b, h => by
    have hc : ¬ c = 47 := fun e => h (by simp [e])
    have ha : 47 ∉ a := fun e => h (by simp [e])
    show pieces (c :: (a ++ 47 :: b)) = _
    rw [pieces, if_neg hc, pieces_hit a b ha]

theorem pieces_none : ∀ (a : Bs), 47 ∉ a → pieces a = [a]
  | [], _ => rfl
  | c :: a, h => by
    have hc : ¬ c = 47 := fun e => h (by simp [e])
    have ha : 47 ∉ a := fun e => h (by simp [e])
    rw [pieces, if_neg hc, pieces_none a ha]

theorem pieces_no : ∀ (s : Bs), ∀ x ∈ pieces s, 47 ∉ x
  | [], x, hx => by simp [pieces] at hx; simp [hx]
  | c :: r, x, hx => by
    have ih := pieces_no r
    unfold pieces at hx
    split at hx
    · rcases List.mem_cons.1 hx with rfl | h
      · simp
      · exact ih x h
    · rename_i hc
      split at hx
      · simp at hx; subst hx; simpa using fun e : (47 : UInt8) = c => hc e.symm
      · rename_i y ys he
        rcases List.mem_cons.1 hx with rfl | h
        · have := ih y (by rw [he]; simp)
          simp only [List.mem_cons, not_or]
          exact ⟨fun e => hc e.symm, this⟩
        · exact ih x (by rw [he]; simp [h])

/-- What says nothing is left out. -/
def says (p : Bs) : Bool := !(p == []) && !(p == [46])
def parts (s : Bs) : List Bs := (pieces s).filter says

/-- A part of a path. -/
def Good (p : Bs) : Prop := p ≠ [] ∧ p ≠ [46] ∧ p ≠ [46, 46] ∧ 47 ∉ p

/-- Where a part leads. -/
def step (out : List Bs) (p : Bs) : Option (List Bs) := if p = [46, 46] then (if out = [] then none else some out.dropLast) else some (out ++ [p])
def walk : List Bs → List Bs → Option (List Bs)
  | out, [] => some out
  | out, p :: ps => match step out p with
    | none => none
    | some o => walk o ps
def go : List Bs → List Bs → Option (List Bs)
  | out, [] => some out
  | out, s :: r => match walk out (parts s) with
    | none => none
    | some o => go o r

/-- Parts with a slash between. -/
def inter : List Bs → Bs
  | [] => []
  | [x] => x
  | x :: y :: r => x ++ 47 :: inter (y :: r)
def text (l : List Bs) : Bs := if inter l = [] then [46] else inter l
/-- The document's Join. -/
def join (l : List Bs) : Option Bs := (go [] l).map text

/-- How follow goes, on bytes. -/
def stepB (p part : Bs) : Option Bs :=
  if part = [] ∨ part = [46] then some p
  else if part = [46, 46] then (if p = [] then none else some (p.take (max (Lib.Pa.lastIndexByte p 47) 0).toNat))
  else some ((if p = [] then p else p ++ [47]) ++ part)
def walkB : Bs → List Bs → Option Bs
  | p, [] => some p
  | p, x :: xs => match stepB p x with
    | none => none
    | some q => walkB q xs
def goB : Bs → List Bs → Option Bs
  | p, [] => some p
  | p, s :: r => match walkB p (pieces s) with
    | none => none
    | some q => goB q r

theorem inter_snoc : ∀ (l : List Bs) (x : Bs), l ≠ [] → inter (l ++ [x]) = inter l ++ 47 :: x
  | [], _, h => absurd rfl h
  | [a], x, _ => by simp [inter]
  | a :: b :: r, x, _ => by
    have := inter_snoc (b :: r) x (by simp)
    simp only [List.cons_append] at this ⊢
    rw [inter, this, inter]
    simp

theorem inter_nil {l : List Bs} (h : ∀ x ∈ l, Good x) : inter l = [] ↔ l = [] := by
  constructor
  · intro e
    match l, h, e with
    | [], _, _ => rfl
    | [a], h, e => exact absurd e (h a (by simp)).1
    | a :: b :: r, h, e => simp [inter] at e
  · rintro rfl; rfl

theorem last_none (x : Bs) (h : 47 ∉ x) : Lib.Pa.lastIndexByte x 47 = -1 := by
  rcases Lib.Pa.lastIndexByte_spec x 47 with ⟨e, _⟩ | ⟨i, _, hi, _⟩
  · exact e
  · exact absurd (List.mem_of_getElem? hi) h

theorem last_at (a x : Bs) (h : 47 ∉ x) : Lib.Pa.lastIndexByte (a ++ 47 :: x) 47 = a.length := by
  have h0 : (a ++ 47 :: x)[a.length]? = some 47 := by simp
  have h1 : ∀ j, a.length < j → (a ++ 47 :: x)[j]? ≠ some 47 := by
    intro j hj e
    rw [List.getElem?_append_right (by omega)] at e
    obtain ⟨k, rfl⟩ : ∃ k, j = a.length + 1 + k := ⟨j - a.length - 1, by omega⟩
    rw [show a.length + 1 + k - a.length = k + 1 by omega, List.getElem?_cons_succ] at e
    exact h (List.mem_of_getElem? e)
  rcases Lib.Pa.lastIndexByte_spec (a ++ 47 :: x) 47 with ⟨_, hn⟩ | ⟨i, e, hi, hn⟩
  · exact absurd h0 (hn _)
  · rw [e]
    by_cases hlt : i < a.length
    · exact absurd h0 (hn _ hlt)
    · by_cases hgt : a.length < i
      · exact absurd hi (h1 _ hgt)
      · have : i = a.length := by omega
        rw [this]

theorem good_of_piece {x : Bs} (h : 47 ∉ x) (hs : says x = true) (h2 : ¬ x = [46, 46]) : Good x := by
  refine ⟨?_, ?_, h2, h⟩
  · rintro rfl; simp [says] at hs
  · rintro rfl; simp [says] at hs

theorem step_good {out o : List Bs} {x : Bs} (hg : ∀ y ∈ out, Good y) (h : 47 ∉ x) (hs : says x = true) (e : step out x = some o) : ∀ y ∈ o, Good y := by
  unfold step at e
  split at e
  · split at e
    · cases e
    · cases e
      exact fun y hy => hg y (List.dropLast_subset _ hy)
  · rename_i h2
    cases e
    intro y hy
    rcases List.mem_append.1 hy with hy | hy
    · exact hg y hy
    · simp at hy; subst hy; exact good_of_piece h hs h2

/-- One part, on bytes and on parts. -/
theorem step_eq {out : List Bs} {x : Bs} (hg : ∀ y ∈ out, Good y) (_h : 47 ∉ x) (hs : says x = true) : stepB (inter out) x = (step out x).map inter := by
  have h1 : ¬ (x = [] ∨ x = [46]) := by
    rintro (rfl | rfl) <;> simp [says] at hs
  unfold stepB step
  rw [if_neg h1]
  by_cases h2 : x = [46, 46]
  · rw [if_pos h2, if_pos h2]
    by_cases ho : out = []
    · subst ho; rfl
    · rw [if_neg (fun e => ho ((inter_nil hg).1 e)), if_neg ho]
      rcases List.eq_nil_or_concat out with e | ⟨l, y, rfl⟩
      · exact absurd e ho
      · rw [List.concat_eq_append] at hg ⊢
        have hy : 47 ∉ y := (hg y (by simp)).2.2.2
        rw [List.dropLast_concat]
        simp only [Option.map_some, Option.some.injEq]
        by_cases hl : l = []
        · subst hl
          have e0 : inter ([] ++ [y]) = y := rfl
          rw [e0, last_none y hy]
          rfl
        · rw [inter_snoc l y hl, last_at _ _ hy]
          rw [show (max ((inter l).length : Int) 0).toNat = (inter l).length by omega, List.take_left]
  · rw [if_neg h2, if_neg h2]
    simp only [Option.map_some, Option.some.injEq]
    by_cases ho : out = []
    · subst ho; simp [inter]
    · rw [if_neg (fun e => ho ((inter_nil hg).1 e)), inter_snoc out x ho]
      simp

theorem walk_eq : ∀ (xs : List Bs) (out : List Bs), (∀ y ∈ out, Good y) → (∀ x ∈ xs, 47 ∉ x) →
    walkB (inter out) xs = (walk out (xs.filter says)).map inter ∧ ∀ o, walk out (xs.filter says) = some o → ∀ y ∈ o, Good y
  | [], out, hg, _ => ⟨rfl, fun o e => by simp [walk] at e; subst e; exact hg⟩
  | x :: xs, out, hg, hx => by
    have hxs : ∀ y ∈ xs, 47 ∉ y := fun y hy => hx y (by simp [hy])
    by_cases hs : says x = true
    · rw [List.filter_cons_of_pos hs]
      have e := step_eq hg (hx x (by simp)) hs
      unfold walkB walk
      rw [e]
      cases hst : step out x with
      | none => exact ⟨rfl, fun o e => by cases e⟩
      | some o =>
        have := walk_eq xs o (step_good hg (hx x (by simp)) hs hst) hxs
        exact this
    · rw [List.filter_cons_of_neg hs]
      have e1 : stepB (inter out) x = some (inter out) := by
        unfold stepB
        rw [if_pos]
        by_cases h0 : x = []
        · exact .inl h0
        · right
          by_cases h1 : x = [46]
          · exact h1
          · exact absurd (by simp [says, h0, h1]) hs
      unfold walkB
      rw [e1]
      exact walk_eq xs out hg hxs

theorem go_eq : ∀ (l : List Bs) (out : List Bs), (∀ y ∈ out, Good y) → goB (inter out) l = (go out l).map inter ∧ ∀ o, go out l = some o → ∀ y ∈ o, Good y
  | [], out, hg => ⟨rfl, fun o e => by simp [go] at e; subst e; exact hg⟩
  | s :: r, out, hg => by
    obtain ⟨e1, e2⟩ := walk_eq (pieces s) out hg (pieces_no s)
    unfold goB go
    rw [e1]
    show _ ∧ _
    unfold parts
    cases hw : walk out ((pieces s).filter says) with
    | none => exact ⟨rfl, fun o e => by cases e⟩
    | some o => exact go_eq r o (e2 o hw)

/-- What path.Join makes is what the document's Join makes. -/
theorem join_eq (l : List Bs) : join l = (goB [] l).map (fun p => if p = [] then [46] else p) := by
  obtain ⟨e1, _⟩ := go_eq l [] (by simp)
  unfold join
  have e2 : goB [] l = (go [] l).map inter := e1
  rw [e2]
  cases go [] l with
  | none => rfl
  | some o => rfl

end Go.Proofs.YtpliljcjjffipaaGreatDoor.Pt
namespace Go.Proofs.YtpliljcjjffipaaGreatDoor
open Go.RowKit
set_option maxRecDepth 100000

/-- Slice v holds the bytes l. -/
def Held (w : World) (g : Nat) (l : List UInt8) : Prop := ∀ j, j < l.length → w.cell? ⟨g, j, none⟩ = some (.int .u8 (l[j]?.getD 0).toNat)

theorem get_of {l : List UInt8} {j : Nat} (h : j < l.length) : l[j]? = some (l[j]?.getD 0) := by
  rw [List.getElem?_eq_getElem h]; rfl

set_option maxHeartbeats 1000000 in
theorem lastG_any (w : World) (g cap : Nat) (l : List UInt8) (hm : l.length ≤ 9223372036854775807) (hc : Held w g l) :
    Calls Tryz.prog 168 #[.slice (some ⟨g, 0, none⟩) l.length cap, .int .u8 47] w fun e w' => e = .returned (.int .i64 (Lib.Pa.lastIndexByte l 47)) ∧ w = w' := by
  go_enter Tryz.func168, Tryz.ntmps168
  go_wp2
  go_loop [5] (fun i => ∃ k : Nat, k ≤ l.length ∧ i = .int .i64 ((k : Int) - 1) ∧ Lib.Pa.lastIdx l 47 k = Lib.Pa.lastIndexByte l 47) (fun i => (intOf i + 1).toNat)
  case atStart => exact ⟨l.length, Nat.le_refl _, rfl, rfl⟩
  case round =>
    obtain ⟨k, hk, rfl, hl⟩ := hrel
    have HL := Lib.hid hl
    clear hl
    cases k with
    | zero =>
      go_wp2
      go_ret
      exact ⟨by rw [← HL.out]; rfl, rfl⟩
    | succ k =>
      have hcell := hc k (by omega)
      have hg := get_of (show k < l.length by omega)
      by_cases e : l[k]?.getD 0 = 47
      · rw [e] at hcell hg
        have HG := Lib.hid hg
        clear hg e
        go_wp2
        go_ret
        exact ⟨by rw [← HL.out, Lib.Pa.lastIdx, if_pos HG.out]; rfl, rfl⟩
      · have e2 : (((l[k]?.getD 0).toNat : Int) == 47) = false := by
          rw [beq_eq_false_iff_ne]
          intro h
          exact e (UInt8.toNat_inj.1 (by simpa using (by omega : (l[k]?.getD 0).toNat = 47)))
        have HG := Lib.hid hg
        have HE := Lib.hid e
        clear hg e
        go_wp2
        go_round
        case rel => exact ⟨k, by omega, by go_num, by rw [← HL.out, Lib.Pa.lastIdx, if_neg (by rw [HG.out]; simpa using HE.out)]⟩
        case measure => simp [intOf]

set_option maxHeartbeats 400000 in
theorem last_any (w : World) (g cap : Nat) (l : List UInt8) (hm : l.length ≤ 9223372036854775807) (hc : Held w g l) :
    Calls Tryz.prog 106 #[.slice (some ⟨g, 0, none⟩) l.length cap, .int .u8 47] w fun e w' => e = .returned (.int .i64 (Lib.Pa.lastIndexByte l 47)) ∧ w = w' := by
  have HC := Lib.hid hc
  clear hc
  go_enter Tryz.func106, Tryz.ntmps106
  go_wp2_with (go_at_call 168; refine (lastG_any _ g cap l hm HC.out).mono ?_; rintro e w' ⟨rfl, rfl⟩)
  go_ret
  exact ⟨rfl, rfl⟩

set_option maxHeartbeats 400000 in
/-- The place of the first slash. -/
theorem indexL_any (w : World) (s : ByteArray) :
    Calls Tryz.prog 245 #[.string s, .int .u8 47] w fun e w' => e = .returned (.int .i64 (Lib.indexByte s.data.toList 47)) ∧ w = w' := by
  go_enter Tryz.func245, Tryz.ntmps245
  go_wp2
  rw [run_callFunc_extern Tryz.func295 (by kernel_rfl) (by kernel_rfl) (by kernel_rfl) (e := Extern.BytealgIndexByte.indexByte) (by kernel_rfl), Lib.run_indexByteString]
  simp only [Result.andThen]
  rw [Oper.upon_value]
  go_wp2
  go_ret
  exact ⟨rfl, rfl⟩

set_option maxHeartbeats 400000 in
theorem indexS_any (w : World) (s : ByteArray) :
    Calls Tryz.prog 207 #[.string s, .string ⟨#[47]⟩] w fun e w' => e = .returned (.int .i64 (Lib.indexByte s.data.toList 47)) ∧ w = w' := by
  by_cases h : ([47] == s.toList) = true
  · have e : Lib.indexByte s.data.toList 47 = 0 := by
      have : s.toList = [47] := (eq_of_beq h).symm
      rw [← Lib.toList_data, this]
      rfl
    have HE := Lib.hid e
    clear e
    go_enter Tryz.func207, Tryz.ntmps207
    go_wp2_with (go_at_call 245; refine (indexL_any _ s).mono ?_; rintro e w' ⟨rfl, rfl⟩)
    go_ret
    exact ⟨by rw [HE.out]; rfl, rfl⟩
  · have h1 : ([47] == s.toList) = false := by simpa using h
    clear h
    go_enter Tryz.func207, Tryz.ntmps207
    go_wp2_with (go_at_call 245; refine (indexL_any _ s).mono ?_; rintro e w' ⟨rfl, rfl⟩)
    go_ret
    exact ⟨rfl, rfl⟩

set_option maxHeartbeats 400000 in
theorem index_any (w : World) (s : ByteArray) :
    Calls Tryz.prog 153 #[.string s, .string ⟨#[47]⟩] w fun e w' => e = .returned (.int .i64 (Lib.indexByte s.data.toList 47)) ∧ w = w' := by
  go_enter Tryz.func153, Tryz.ntmps153
  go_wp2_with (go_at_call 207; refine (indexS_any _ s).mono ?_; rintro e w' ⟨rfl, rfl⟩)
  go_ret
  exact ⟨rfl, rfl⟩
end Go.Proofs.YtpliljcjjffipaaGreatDoor
namespace Go.Proofs.YtpliljcjjffipaaGreatDoor
open Go.RowKit Go.Shelf
attribute [local go_sem] Oper.semAt_some
set_option maxRecDepth 100000

/-- A string's bytes. -/
def bs (s : ByteArray) : List UInt8 := s.data.toList
theorem bs_len (s : ByteArray) : (bs s).length = s.size := (Lib.size_eq s).symm

theorem pieces_index_none {s : ByteArray} (h : Lib.indexByte (bs s) 47 = -1) : Pt.pieces (bs s) = [bs s] := by
  refine Pt.pieces_none _ fun hm => ?_
  obtain ⟨k, hk⟩ := List.getElem?_of_mem hm
  exact Lib.indexByte_none h k hk

theorem pieces_index_some {s : ByteArray} {i : Nat} (h : Lib.indexByte (bs s) 47 = i) : i < s.size ∧ Pt.pieces (bs s) = bs (s.extract 0 i) :: Pt.pieces (bs (s.extract (i + 1) s.size)) := by
  obtain ⟨h1, h2⟩ := Lib.indexByte_some h
  have hi : i < (bs s).length := by
    rcases Nat.lt_or_ge i (bs s).length with h | h
    · exact h
    · rw [List.getElem?_eq_none h] at h1; cases h1
  have e : bs s = (bs s).take i ++ 47 :: (bs s).drop (i + 1) := by
    conv => lhs; rw [← List.take_append_drop i (bs s)]
    rw [List.drop_eq_getElem_cons hi]
    rw [List.getElem?_eq_getElem hi] at h1
    injection h1 with h1
    rw [h1]
  have hn : 47 ∉ (bs s).take i := by
    intro hm
    obtain ⟨k, hk⟩ := List.getElem?_of_mem hm
    have hki : k < i := by
      rcases Nat.lt_or_ge k i with h | h
      · exact h
      · rw [List.getElem?_eq_none (by simp; omega)] at hk; cases hk
    rw [List.getElem?_take_of_lt hki] at hk
    exact h2 k hki hk
  refine ⟨by rw [← bs_len]; exact hi, ?_⟩
  rw [show bs (s.extract 0 i) = (bs s).take i from Lib.extract_from_zero s i, show bs (s.extract (i + 1) s.size) = (bs s).drop (i + 1) from Lib.extract_to_end s (i + 1)]
  conv => lhs; rw [e]
  exact Pt.pieces_hit _ _ hn

open Classical in
/-- How much is still to be cut, read off the world. -/
noncomputable def left (B : Nat) (W : World) : Nat := if h : ∃ s : ByteArray, Boxed W B 9 (.string s) then (Classical.choose h).size else 0
theorem left_eq {B : Nat} {W : World} {s : ByteArray} (h : Boxed W B 9 (.string s)) : left B W = s.size := by
  have hex : ∃ s : ByteArray, Boxed W B 9 (.string s) := ⟨s, h⟩
  unfold left
  rw [dif_pos hex]
  have h2 := Classical.choose_spec hex
  have := Option.some.inj ((show W.heap[B]? = _ from h).symm.trans h2)
  have e : s = Classical.choose hex := by simpa using this
  rw [← e]

theorem index_none (w : World) (s : ByteArray) (h : Lib.indexByte (bs s) 47 = -1) :
    Calls Tryz.prog 153 #[.string s, .string ⟨#[47]⟩] w fun e w' => e = .returned (.int .i64 (-1)) ∧ w = w' := by
  have := index_any w s
  rwa [show Lib.indexByte s.data.toList 47 = -1 from h] at this
theorem index_some (w : World) (s : ByteArray) (i : Nat) (h : Lib.indexByte (bs s) 47 = i) :
    Calls Tryz.prog 153 #[.string s, .string ⟨#[47]⟩] w fun e w' => e = .returned (.int .i64 i) ∧ w = w' := by
  have := index_any w s
  rwa [show Lib.indexByte s.data.toList 47 = i from h] at this

/-- What the iterator writes: its own variable. -/
def Mine (B : Nat) (X Y : World) : Prop := ∃ t : ByteArray, Y = X.setCell ⟨B, 0, none⟩ (.string t)
/-- What a round must keep: the iterator's three variables. -/
def Keeps3 (B : Nat) (X Y : World) : Prop := ∀ k, B ≤ k → k < B + 3 → Y.heap[k]? = X.heap[k]?

set_option maxHeartbeats 2000000 in
theorem seq1_in (n : Nat) (hn1 : 1 ≤ n) (l B : Nat) (s0 : ByteArray) (hs0 : s0.size ≤ 9223372036854775806) (J Jx : List ByteArray → World → Prop)
    (hJ : ∀ s X Y, J s X → Mine B X Y → J s Y)
    (hY : ∀ pre x X, J pre X → (pre ++ [x]).map bs <+: Pt.pieces (bs s0) → YieldAt Fence.wide (n - 1) Tryz.prog l #[.string x] X fun e Y =>
      (e = .returned (.bool true) ∧ J (pre ++ [x]) Y ∧ Keeps3 B X Y) ∨ (e = .returned (.bool false) ∧ Jx (pre ++ [x]) Y))
    (W : World) (h1 : Boxed W B 9 (.string s0)) (h2 : Boxed W (B + 1) 9 (.string ⟨#[47]⟩)) (h3 : Boxed W (B + 1 + 1) 3 (.int .i64 0)) (h0 : J [] W) :
    CallsIn Fence.wide n Tryz.prog 218 #[.func (.yield l) #[] #[], .pointer (some ⟨B + 1, 0, none⟩), .pointer (some ⟨B, 0, none⟩), .pointer (some ⟨B + 1 + 1, 0, none⟩)] W fun e Y => (∃ v, e = .returned v) ∧
      ((∃ ys, ys.map bs = Pt.pieces (bs s0) ∧ J ys Y) ∨ (∃ pre, pre.map bs <+: Pt.pieces (bs s0) ∧ Jx pre Y)) := by
  refine callsIn_of_wp Tryz.func218 rfl trivial ?_ rfl
  simp only [Tryz.ntmps218, List.size_toArray, List.length_cons, List.length_nil, Nat.reduceAdd, Nat.reduceSub, Array.replicate_succ, Array.replicate_zero, List.push_toArray, List.append_toArray, List.nil_append, List.cons_append]
  have c2 := h2.cell
  gi_wp2
  clear c2
  gi_loopw [7] (fun _ wr => ∃ (pre : List ByteArray) (s : ByteArray), s.size ≤ 9223372036854775806 ∧ Pt.pieces (bs s0) = pre.map bs ++ Pt.pieces (bs s) ∧ Boxed wr B 9 (.string s) ∧ Boxed wr (B + 1) 9 (.string ⟨#[47]⟩) ∧ Boxed wr (B + 1 + 1) 3 (.int .i64 0) ∧ J pre wr)
    (fun _ wr => left B wr)
  case atStart => exact ⟨[], s0, hs0, rfl, h1, h2, h3, h0⟩
  case round =>
    obtain ⟨pre, s, hs, hp, b1, b2, b3, hj⟩ := hrel
    have HP := Lib.hid hp
    clear hp
    have c1 := b1.cell
    have c2 := b2.cell
    have c3 := b3.cell
    have hge := Lib.indexByte_ge (bs s) 47
    by_cases hn : Lib.indexByte (bs s) 47 = -1
    · have HX := Lib.hid (pieces_index_none hn)
      have HN := Lib.hid hn
      clear hn hge
      obtain ⟨fn, tmps, assign, body, hy, hR⟩ := hY pre s wr hj (by rw [HP.out, HX.out]; simp)
      gi_wp2_with (refine ⟨trivial, ?_⟩; gi_at_call 153; refine (callsIn_wide.2 (index_none _ s HN.out)).mono ?_; rintro e w' ⟨rfl, rfl⟩)
      refine hR.mono ?_
      rintro e Y (⟨rfl, hj2, hk⟩ | ⟨rfl, hx⟩)
      · gi_wp2
        go_end0
        exact ⟨⟨_, rfl⟩, .inl ⟨pre ++ [s], by rw [HP.out, HX.out]; simp, hj2⟩⟩
      · gi_wp2
        go_end0
        exact ⟨⟨_, rfl⟩, .inr ⟨pre ++ [s], by rw [HP.out, HX.out]; simp, hx⟩⟩
    · obtain ⟨i, hi⟩ : ∃ i : Nat, Lib.indexByte (bs s) 47 = i := ⟨(Lib.indexByte (bs s) 47).toNat, by omega⟩
      have hp2 := pieces_index_some hi
      have hlt := hp2.1
      have HX := Lib.hid hp2.2
      have HN := Lib.hid hi
      clear hn hge hi hp2
      obtain ⟨fn, tmps, assign, body, hy, hR⟩ := hY pre (s.extract 0 i) wr hj (by rw [HP.out, HX.out]; simp)
      gi_wp2_with (refine ⟨trivial, ?_⟩; gi_at_call 153; refine (callsIn_wide.2 (index_some _ s i HN.out)).mono ?_; rintro e w' ⟨rfl, rfl⟩)
      refine hR.mono ?_
      rintro e Y (⟨rfl, hj2, hk⟩ | ⟨rfl, hx⟩)
      · have d1 : Boxed Y B 9 (.string s) := (hk B (by omega) (by omega)).trans b1
        have d2 : Boxed Y (B + 1) 9 (.string ⟨#[47]⟩) := (hk (B + 1) (by omega) (by omega)).trans b2
        have d3 : Boxed Y (B + 1 + 1) 3 (.int .i64 0) := (hk (B + 1 + 1) (by omega) (by omega)).trans b3
        have e1 := d1.cell
        have e2 := d2.cell
        have e3 := d1.frozen
        clear c1 c2 c3 hy
        gi_wp2
        go_roundw
        case rel => exact ⟨pre ++ [s.extract 0 i], s.extract (i + 1) s.size, by simp [ByteArray.size_extract]; omega, by rw [HP.out, HX.out]; simp, d1.set _, d2.kept (grownBy_setCell' _ _ _) (by simp), d3.kept (grownBy_setCell' _ _ _) (by simp; omega), hJ _ _ _ hj2 ⟨_, rfl⟩⟩
        case measure => rw [left_eq (d1.set _), left_eq b1]; simp [ByteArray.size_extract]; omega
      · gi_wp2
        refine bodyPost_ret (results_none rfl _ _ _) rfl ?_
        exact ⟨⟨_, rfl⟩, .inr ⟨pre ++ [s.extract 0 i], by rw [HP.out, HX.out]; simp, hx⟩⟩

set_option maxHeartbeats 1000000 in
/-- The call of SplitSeq: three variables, and the closure over them. -/
theorem splitSeq_any (w : World) (s : ByteArray) :
    Calls Tryz.prog 167 #[.string s, .string ⟨#[47]⟩, .int .i64 0] w fun e w' =>
      e = .returned (.func (.func 218) #[] #[.pointer (some ⟨w.heap.size + 1, 0, none⟩), .pointer (some ⟨w.heap.size, 0, none⟩), .pointer (some ⟨w.heap.size + 1 + 1, 0, none⟩)]) ∧
      ((w.alloc (.cells #[.string s] 9)).alloc (.cells #[.string ⟨#[47]⟩] 9)).alloc (.cells #[.int .i64 0] 3) = w' := by
  go_enter Tryz.func167, Tryz.ntmps167
  go_wp2
  go_ret
  exact ⟨rfl, rfl⟩

set_option maxHeartbeats 1000000 in
theorem SplitSeq_any (w : World) (s : ByteArray) :
    Calls Tryz.prog 105 #[.string s, .string ⟨#[47]⟩] w fun e w' =>
      e = .returned (.func (.func 218) #[] #[.pointer (some ⟨w.heap.size + 1, 0, none⟩), .pointer (some ⟨w.heap.size, 0, none⟩), .pointer (some ⟨w.heap.size + 1 + 1, 0, none⟩)]) ∧
      ((w.alloc (.cells #[.string s] 9)).alloc (.cells #[.string ⟨#[47]⟩] 9)).alloc (.cells #[.int .i64 0] 3) = w' := by
  go_enter Tryz.func105, Tryz.ntmps105
  go_wp2_with (go_at_call 167; refine (splitSeq_any _ s).mono ?_; rintro e w' ⟨rfl, rfl⟩)
  go_ret
  exact ⟨rfl, rfl⟩

/-- What the closure says of itself. -/
theorem seq_iters (n : Nat) (hn1 : 1 ≤ n) (B : Nat) (s0 : ByteArray) (hs0 : s0.size ≤ 9223372036854775806) (w : World)
    (h1 : Boxed w B 9 (.string s0)) (h2 : Boxed w (B + 1) 9 (.string ⟨#[47]⟩)) (h3 : Boxed w (B + 1 + 1) 3 (.int .i64 0)) :
    Iters n Tryz.prog 218 #[.pointer (some ⟨B + 1, 0, none⟩), .pointer (some ⟨B, 0, none⟩), .pointer (some ⟨B + 1 + 1, 0, none⟩)] (fun x : ByteArray => #[.string x]) (Mine B) (Keeps3 B)
      (fun ys => ys.map bs = Pt.pieces (bs s0)) (fun pre => pre.map bs <+: Pt.pieces (bs s0)) w := fun l J Jx W hW hJ hY h0 =>
  seq1_in n hn1 l B s0 hs0 J Jx hJ hY W ((hW.block _ h1.lt).trans h1) ((hW.block _ h2.lt).trans h2) ((hW.block _ h3.lt).trans h3) h0

theorem mine_keeps (B : Nat) (X Y : World) (k : Nat) (o : Obj) (h : Mine B X Y) (hk : X.heap[k]? = some o) (ho : o.isCells = false) : Y.heap[k]? = some o := by
  obtain ⟨v, rfl⟩ := h
  exact (KeepsOthers.setCell X ⟨B, 0, none⟩ (.string v)).same k o hk ho
theorem keeps3_trans (B : Nat) (X Y Z : World) (h : Keeps3 B X Y) (k : Keeps3 B Y Z) : Keeps3 B X Z := fun i a b => (k i a b).trans (h i a b)
theorem keeps3_put {B : Nat} {w : World} (hB : B + 3 ≤ w.heap.size) (W : World) (l : Nat) (o o' : Obj) (hl : w.heap.size ≤ l) (_ : W.heap[l]? = some o) (_ : o.isCells = false) : Keeps3 B W (W.putObj l o') :=
  fun i _ _ => World.putObj_heap_other (by omega)
end Go.Proofs.YtpliljcjjffipaaGreatDoor
