/-
  A loop over an iterator that keeps its place in a variable of its own: the law for the caller. Conditions: what the iterator does between two rounds ('Mine') the caller's invariant abides; what a round keeps ('Kp') the iterator names.
  A text's words, as plain lists: where they begin and end; words, put together, are the same again. No program here.
  words.blank: is a byte a blank?
  flatironref04.Blank: is a byte a blank?
-/
import Derived.RangeFuncFrom
import Derived.RangeFuncNested
import Derived.Shelf.Abstract
import Derived.Test.YtgednccpjegbmaaGreatDoorQTBase
import Derived.Lib.Join
import Derived.Test.YtgednccpjegbmaaGreatDoorShelf
namespace Go.Proofs.YtgednccpjegbmaaGreatDoor.Ww
open Go.RowKit Go

/-- What an iterator says of itself, for whatever body: all of it came, or the body stopped it. -/
def Iters {α : Type} (n : Nat) (P : Program) (gf : Nat) (lb : Array Value) (encs : α → Array Value) (Mine Kp : World → World → Prop) (S Sp : List α → Prop) (w : World) : Prop :=
  ∀ (l : Nat) (J Jx : List α → World → Prop) (W : World), Below w.heap.size w W → (∀ s X Y, J s X → Mine X Y → J s Y) →
    (∀ pre x X, J pre X → Sp (pre ++ [x]) → YieldAt Fence.wide (n - 1) P l (encs x) X fun e Y => (e = .returned (.bool true) ∧ J (pre ++ [x]) Y ∧ Kp X Y) ∨ (e = .returned (.bool false) ∧ Jx (pre ++ [x]) Y)) →
    J [] W → CallsIn Fence.wide n P gf (#[.func (.yield l) #[] #[]] ++ lb) W fun e Y => (∃ v, e = .returned v) ∧ ((∃ xs, S xs ∧ J xs Y) ∨ ∃ pre, Sp pre ∧ Jx pre Y)

/-- How a round's body ends. -/
def bodyEnds {α : Type} (Kp : World → World → Prop) (I : List α → World → Prop) (Ix : Code → List α → World → Prop) (xs : List α) (W : World) : Exit → Act → World → Prop
  | .normal, _, Y => KeepsOthers W Y ∧ Kp W Y ∧ I xs Y
  | .ret, _, Y => KeepsOthers W Y ∧ Ix .ret xs Y
  | .exit id, _, Y => KeepsOthers W Y ∧ Ix (.exit id) xs Y
  | _, _, _ => False

theorem range_law {α : Type} {n : Nat} {P : Program} {g : Operand} {ps : Array Tmp} {assign body : Code} {Q : Exit → Act → World → Prop} {a : Act} {w : World}
    (h1 : 1 ≤ n) {gf : Nat} {lb : Array Value} (hg : a.eval g = .func (.func gf) #[] lb) (eg : ∀ args w, (callFunc gf args).run P w = .ok (.enter gf args) w)
    {encs : α → Array Value} {Mine Kp : World → World → Prop} {S Sp : List α → Prop} (hseq : Iters (n - 1) P gf lb encs Mine Kp S Sp w)
    (hMine : ∀ X Y (k : Nat) (o : Obj), Mine X Y → X.heap[k]? = some o → o.isCells = false → Y.heap[k]? = some o)
    (hKt : ∀ A B C : World, Kp A B → Kp B C → Kp A C) (hKb : ∀ (W : World) (l : Nat) (o o' : Obj), w.heap.size ≤ l → W.heap[l]? = some o → o.isCells = false → Kp W (W.putObj l o')) (hps : ∀ x, (encs x).size = ps.size)
    (I : List α → World → Prop) (Ix : Code → List α → World → Prop) (hI : OwnFrom w.heap.size I) (hIx : ∀ c, OwnFrom w.heap.size (Ix c)) (hIm : ∀ s X Y, I s X → Mine X Y → I s Y) (h0 : I [] w) (a₁ : α → Act)
    (hassign : ∀ (l : Nat) (x : α) (W : World) (K : Act → World → Prop), K (a₁ x) W →
      assign.wpIn (Fence.wide.inRound l) (n - 1 - 1) P (Exit.then K (fun _ _ _ => False)) { tmps := (ps.zip (encs x)).foldl (fun t (p, v) => t.setIfInBounds p v) a.tmps, defers := [] } W)
    (hbody : ∀ (l : Nat) (pre : List α) (x : α) (W : World), I pre W → Sp (pre ++ [x]) → body.wpIn (Fence.wide.inRound l) (n - 1 - 1) P (bodyEnds Kp I Ix (pre ++ [x]) W) (a₁ x) W)
    (hdone : ∀ (D : Nat) (xs : List α) (W : World), w.heap.size ≤ D → S xs → I xs W → W.heap[D]? = some (.deferred (some [])) → Q .normal { a with defers := { target := .collected D, args := #[] } :: a.defers } W)
    (hstop : ∀ (D : Nat) (c : Code) (pre : List α) (W : World), w.heap.size ≤ D → Sp pre → Ix c pre W → W.heap[D]? = some (.deferred (some [])) → c.wpIn Fence.wide n P Q { a with defers := { target := .collected D, args := #[] } :: a.defers } W) :
    (Code.rangeFunc g ps assign body).wpIn Fence.wide n P Q a w := by
  apply wpIn_rangeFunc
  intro fn hfn
  -- the loop's record, by its state and the jump that waits
  let R : LoopState → Option Code → Obj := fun st pe => .loop { state := st, pending := pe, fn := fn, tmps := a.tmps, params := ps, assign := assign, body := body, defers := w.heap.size }
  let D := w.heap.size
  let L := w.heap.size + 1
  let W1 := (w.alloc (.deferred (some []))).alloc (R .ready none)
  have sz : W1.heap.size = w.heap.size + 2 := by simp [W1]
  have atL : W1.heap[L]? = some (R .ready none) := by
    have := World.alloc_heap_new (w.alloc (.deferred (some []))) (R .ready none)
    rw [World.size_alloc] at this; exact this
  have atD : W1.heap[D]? = some (.deferred (some [])) := (Below.heap_alloc _ _ _ (by simp [D])).trans (World.alloc_heap_new w _)
  have start : I [] W1 := hI.alloc _ (hI.alloc _ h0)
  have low : Below w.heap.size w W1 := ((Below.refl _ w).alloc (Nat.le_refl _) _).alloc (by simp) _
  -- the invariant that the iterator carries: the caller's, and the two blocks
  let J : List α → World → Prop := fun pre W => I pre W ∧ W.heap[L]? = some (R .ready none) ∧ W.heap[D]? = some (.deferred (some []))
  let Jx : List α → World → Prop := fun pre W => ∃ c, Ix c pre W ∧ W.heap[L]? = some (R .done (some c)) ∧ W.heap[D]? = some (.deferred (some []))
  refine ⟨L, [{ target := .collected D, args := #[] }], W1, { target := .fn (.func gf) lb, args := #[.func (.yield L) #[] #[]] }, W1, gf, #[.func (.yield L) #[] #[]] ++ lb, W1,
    run_enterLoop_outer _ _ _ _ _, ?_, fun _ _ => trivial, ?_, fun _ => h1, ?_⟩
  · simp only [resolve, hg]
    simp [go_sem]
  · simp [invoke, go_sem, eg]
  refine (hseq L J Jx W1 low ?_ ?_ ⟨start, atL, atD⟩).mono ?_
  · rintro s X Y ⟨i, il, id⟩ m
    exact ⟨hIm s X Y i m, hMine X Y L _ m il rfl, hMine X Y D _ m id rfl⟩
  · -- a round
    rintro pre x X ⟨i, il, id⟩ hsp
    have hy := run_yield (P := P) (args := encs x) il (hps x)
    refine ⟨_, _, _, _, hy, roundIn_of_wpIn hfn (hassign L x X _ ⟨_, run_beginRound il rfl, ?_⟩)⟩
    have ltL : L < X.heap.size := (Array.getElem?_eq_some_iff.1 il).1
    generalize hX2 : X.putObj L (.loop { ({ state := .ready, pending := none, fn := fn, tmps := a.tmps, params := ps, assign := assign, body := body, defers := w.heap.size } : Loop) with state := .busy }) = X2
    have bL : X2.heap[L]? = some (R .busy none) := by rw [← hX2]; exact World.putObj_heap_same ltL
    have bD : X2.heap[D]? = some (.deferred (some [])) := by rw [← hX2]; exact (World.putObj_heap_other (by simp only [D, L]; omega)).trans id
    have bK : Kp X X2 := by rw [← hX2]; exact hKb _ _ _ _ (by simp only [L]; omega) il rfl
    have bI : I pre X2 := by rw [← hX2]; exact hI.putObj _ i (by simp only [L]; omega) il rfl
    refine wpIn_mono (hbody L pre x X2 bI hsp) ?_
    rintro e a3 X3 hp
    cases e with
    | normal =>
      obtain ⟨ko, kk, i3⟩ := hp
      have l3 := ko.same L _ bL rfl
      have d3 := ko.same D _ bD rfl
      refine ⟨_, _, run_endRound none l3, .inl ⟨rfl, ⟨hI.putObj _ i3 (by simp only [L]; omega) l3 rfl, World.putObj_heap_same (Array.getElem?_eq_some_iff.1 l3).1, (World.putObj_heap_other (by simp only [D, L]; omega)).trans d3⟩, ?_⟩⟩
      exact hKt _ _ _ (hKt _ _ _ bK kk) (hKb _ _ _ _ (by simp only [L]; omega) l3 rfl)
    | ret =>
      obtain ⟨ko, i3⟩ := hp
      have l3 := ko.same L _ bL rfl
      have d3 := ko.same D _ bD rfl
      exact ⟨_, _, run_endRound (some .ret) l3, .inr ⟨rfl, .ret, (hIx _).putObj _ i3 (by simp only [L]; omega) l3 rfl, World.putObj_heap_same (Array.getElem?_eq_some_iff.1 l3).1, (World.putObj_heap_other (by simp only [D, L]; omega)).trans d3⟩⟩
    | exit id =>
      obtain ⟨ko, i3⟩ := hp
      have l3 := ko.same L _ bL rfl
      have d3 := ko.same D _ bD rfl
      exact ⟨_, _, run_endRound (some (.exit id)) l3, .inr ⟨rfl, .exit id, (hIx _).putObj _ i3 (by simp only [L]; omega) l3 rfl, World.putObj_heap_same (Array.getElem?_eq_some_iff.1 l3).1, (World.putObj_heap_other (by simp only [D, L]; omega)).trans d3⟩⟩
    | goto t => exact hp.elim
    | panic ch => exact hp.elim
    | outgrown => exact hp.elim
  · -- the iterator has returned
    rintro e X2 ⟨⟨v, rfl⟩, (⟨xs, hS, i, il, id⟩ | ⟨pre, hSp, c, i, il, id⟩)⟩
    · exact ⟨none, _, run_endLoop il (by simp), hdone D xs _ (Nat.le_refl _) hS (hI.putObj _ i (by simp only [L]; omega) il rfl) ((World.putObj_heap_other (by simp only [D, L]; omega)).trans id)⟩
    · exact ⟨some c, _, run_endLoop il (by simp), hstop D c pre _ (Nat.le_refl _) hSp ((hIx _).putObj _ i (by simp only [L]; omega) il rfl) ((World.putObj_heap_other (by simp only [D, L]; omega)).trans id)⟩
end Go.Proofs.YtgednccpjegbmaaGreatDoor.Ww
namespace Go.Proofs.YtgednccpjegbmaaGreatDoor.Wp

def blankB (c : UInt8) : Bool := c == 32 || c == 9 || c == 10

/-- The words of a text, by where they begin and end: f is where the present one began, k is where we are. -/
def itA : Nat → Nat → Bs → List (Nat × Nat)
  | f, k, [] => if f < k then [(f, k)] else []
  | f, k, c :: r => if blankB c = true then (if f < k then (f, k) :: itA (k + 1) (k + 1) r else itA (k + 1) (k + 1) r) else itA f (k + 1) r
def items (u : Bs) : List (Nat × Nat) := itA 0 0 u
def restI (u : Bs) (f k : Nat) : List (Nat × Nat) := if k ≤ u.length then itA f k (u.drop k) else []

theorem restI_start (u : Bs) : restI u 0 0 = items u := by simp [restI, items]
theorem restI_over {u : Bs} {f k : Nat} (h : u.length < k) : restI u f k = [] := if_neg (by omega)
theorem restI_in {u : Bs} {f k : Nat} {c : UInt8} (h : k < u.length) (hc : u[k] = c) (hb : blankB c = false) : restI u f k = restI u f (k + 1) := by
  unfold restI
  rw [if_pos (by omega), if_pos (by omega), List.drop_eq_getElem_cons h, hc, itA, if_neg (by rw [hb]; decide)]
theorem restI_yes {u : Bs} {f k : Nat} (h : k ≤ u.length) (hb : ∀ c, u[k]? = some c → blankB c = true) (hf : f < k) : restI u f k = (f, k) :: restI u (k + 1) (k + 1) := by
  unfold restI
  rw [if_pos h]
  rcases Nat.lt_or_ge k u.length with hk | hk
  · rw [if_pos (by omega), List.drop_eq_getElem_cons hk, itA, if_pos (hb _ (List.getElem?_eq_getElem hk)), if_pos hf]
  · rw [if_neg (by omega), List.drop_of_length_le hk, itA, if_pos hf]
theorem restI_no {u : Bs} {f k : Nat} (h : k ≤ u.length) (hb : ∀ c, u[k]? = some c → blankB c = true) (hf : ¬ f < k) : restI u f k = restI u (k + 1) (k + 1) := by
  unfold restI
  rw [if_pos h]
  rcases Nat.lt_or_ge k u.length with hk | hk
  · rw [if_pos (by omega), List.drop_eq_getElem_cons hk, itA, if_pos (hb _ (List.getElem?_eq_getElem hk)), if_neg hf]
  · rw [if_neg (by omega), List.drop_of_length_le hk, itA, if_neg hf]

theorem itA_in : ∀ (t : Bs) (f k : Nat), f ≤ k → ∀ x ∈ itA f k t, x.1 < x.2 ∧ x.2 ≤ k + t.length
  | [], f, k, h, x, hx => by
    unfold itA at hx
    split at hx
    · simp at hx; subst hx; simp; omega
    · cases hx
  | c :: r, f, k, h, x, hx => by
    unfold itA at hx
    split at hx
    · split at hx
      · rcases List.mem_cons.1 hx with rfl | hx
        · simp; omega
        · have := itA_in r (k + 1) (k + 1) (Nat.le_refl _) x hx
          simp; omega
      · have := itA_in r (k + 1) (k + 1) (Nat.le_refl _) x hx
        simp; omega
    · have := itA_in r f (k + 1) (by omega) x hx
      simp; omega
theorem items_in {u : Bs} {x : Nat × Nat} (h : x ∈ items u) : x.1 < x.2 ∧ x.2 ≤ u.length := by
  have := itA_in u 0 0 (Nat.le_refl _) x h
  omega
theorem itA_len : ∀ (t : Bs) (f k : Nat), f ≤ k → (itA f k t).length ≤ t.length + (if f < k then 1 else 0)
  | [], f, k, _ => by unfold itA; split <;> simp
  | c :: r, f, k, _ => by
    have h1 := itA_len r (k + 1) (k + 1) (Nat.le_refl _)
    have h2 := itA_len r f (k + 1) (by omega)
    rw [if_neg (by omega)] at h1
    rw [if_pos (by omega)] at h2
    unfold itA
    split
    · split
      · simp; omega
      · simp; omega
    · simp; split <;> omega
theorem items_len (u : Bs) : (items u).length ≤ u.length := by
  have := itA_len u 0 0 (Nat.le_refl _)
  simpa [items] using this

/-- A word of a text. -/
def word (u : Bs) (x : Nat × Nat) : Bs := (u.drop x.1).take (x.2 - x.1)
/-- A text's words, one byte after another one: acc is what stands of the present one. -/
def wl : Bs → Bs → List Bs
  | acc, [] => if acc = [] then [] else [acc]
  | acc, c :: r => if blankB c = true then (if acc = [] then wl [] r else acc :: wl [] r) else wl (acc ++ [c]) r

theorem word_nil {u : Bs} {f k : Nat} (hf : f ≤ k) (hk : k ≤ u.length) : word u (f, k) = [] ↔ ¬ f < k := by
  unfold word
  rw [← List.length_eq_zero_iff, List.length_take, List.length_drop]
  show min (k - f) (u.length - f) = 0 ↔ _
  omega
theorem word_self (u : Bs) (k : Nat) : word u (k, k) = [] := by simp [word]
theorem word_snoc {u : Bs} {f k : Nat} (hf : f ≤ k) (hk : k < u.length) : word u (f, k + 1) = word u (f, k) ++ [u[k]] := by
  unfold word
  show (u.drop f).take (k + 1 - f) = (u.drop f).take (k - f) ++ [u[k]]
  rw [show k + 1 - f = (k - f) + 1 by omega, List.take_succ_eq_append_getElem (by rw [List.length_drop]; omega), List.getElem_drop]
  congr 2
  congr 1
  omega
theorem itA_wl (u : Bs) : ∀ (n f k : Nat), u.length - k = n → f ≤ k → k ≤ u.length → (itA f k (u.drop k)).map (word u) = wl (word u (f, k)) (u.drop k)
  | 0, f, k, hn, hf, hk => by
    rw [List.drop_of_length_le (by omega), itA, wl]
    by_cases h : f < k
    · rw [if_pos h, if_neg (fun e => (word_nil hf hk).1 e h)]; rfl
    · rw [if_neg h, if_pos ((word_nil hf hk).2 h)]; rfl
  | n + 1, f, k, hn, hf, hk => by
    have hlt : k < u.length := by omega
    rw [List.drop_eq_getElem_cons hlt, itA, wl]
    by_cases hb : blankB u[k] = true
    · have ih := itA_wl u n (k + 1) (k + 1) (by omega) (Nat.le_refl _) (by omega)
      rw [word_self] at ih
      rw [if_pos hb, if_pos hb]
      by_cases h : f < k
      · rw [if_pos h, if_neg (fun e => (word_nil hf hk).1 e h), List.map_cons, ih]
      · rw [if_neg h, if_pos ((word_nil hf hk).2 h), ih]
    · have ih := itA_wl u n f (k + 1) (by omega) (by omega) (by omega)
      rw [if_neg hb, if_neg hb, ih, word_snoc hf hlt]
theorem items_wl (u : Bs) : (items u).map (word u) = wl [] u := by
  have := itA_wl u u.length 0 0 rfl (Nat.le_refl _) (Nat.zero_le _)
  rwa [word_self, List.drop_zero] at this

def Good (w : Bs) : Prop := w ≠ [] ∧ ∀ c ∈ w, blankB c = false
theorem wl_good : ∀ (t acc : Bs), (∀ c ∈ acc, blankB c = false) → ∀ w ∈ wl acc t, Good w
  | [], acc, ha, w, hw => by
    unfold wl at hw
    split at hw
    · cases hw
    · rename_i h
      obtain rfl := List.mem_singleton.1 hw
      exact ⟨h, ha⟩
  | c :: r, acc, ha, w, hw => by
    unfold wl at hw
    split at hw
    · split at hw
      · exact wl_good r [] (fun _ h => (List.not_mem_nil h).elim) w hw
      · rename_i h
        rcases List.mem_cons.1 hw with rfl | hw
        · exact ⟨h, ha⟩
        · exact wl_good r [] (fun _ h => (List.not_mem_nil h).elim) w hw
    · rename_i hc
      refine wl_good r (acc ++ [c]) (fun d hd => ?_) w hw
      rcases List.mem_append.1 hd with hd | hd
      · exact ha d hd
      · rw [List.mem_singleton.1 hd]; simpa using hc
theorem wl_word : ∀ (w acc t : Bs), (∀ c ∈ w, blankB c = false) → wl acc (w ++ t) = wl (acc ++ w) t
  | [], acc, t, _ => by simp
  | c :: w, acc, t, h => by
    have hc := h c (by simp)
    rw [List.cons_append, wl, if_neg (by rw [hc]; decide), wl_word w (acc ++ [c]) t (fun d hd => h d (by simp [hd])), List.append_assoc]
    rfl
theorem wl_tail : ∀ (ws : List Bs) (w : Bs), Good w → (∀ x ∈ ws, Good x) → wl w (Lib.joinTail [32] ws) = w :: ws
  | [], w, h, _ => by
    show wl w [] = [w]
    unfold wl
    rw [if_neg h.1]
  | x :: ws, w, h, hs => by
    have hx := hs x (by simp)
    have e : Lib.joinTail [32] (x :: ws) = 32 :: (x ++ Lib.joinTail [32] ws) := by simp [Lib.joinTail]
    rw [e, wl, if_pos (by decide), if_neg h.1, wl_word x [] _ hx.2, List.nil_append, wl_tail ws x hx (fun y hy => hs y (by simp [hy]))]
theorem wl_join : ∀ (ws : List Bs), (∀ x ∈ ws, Good x) → wl [] (Lib.join ws [32]) = ws
  | [], _ => by rw [Lib.join_nil]; rfl
  | w :: ws, h => by
    have hw := h w (by simp)
    rw [Lib.join_cons, wl_word w [] _ hw.2, List.nil_append, wl_tail ws w hw (fun y hy => h y (by simp [hy]))]
end Go.Proofs.YtgednccpjegbmaaGreatDoor.Wp
namespace Go.Proofs.YtgednccpjegbmaaGreatDoor.Ww
open Go.RowKit Go.Proofs.YtgednccpjegbmaaGreatDoor
set_option maxRecDepth 100000

theorem index_blank (c : UInt8) : Lib.indexByte [32, 9, 10] c = if c = 32 then 0 else if c = 9 then 1 else if c = 10 then 2 else -1 := by
  by_cases h1 : c = 32
  · subst h1; decide
  · by_cases h2 : c = 9
    · subst h2; decide
    · by_cases h3 : c = 10
      · subst h3; decide
      · rw [if_neg h1, if_neg h2, if_neg h3]
        by_cases h : Lib.indexByte [32, 9, 10] c = -1
        · exact h
        · have hge := Lib.indexByte_ge [32, 9, 10] c
          obtain ⟨i, hi⟩ : ∃ i : Nat, Lib.indexByte [32, 9, 10] c = i := ⟨(Lib.indexByte [32, 9, 10] c).toNat, by omega⟩
          have := (Lib.indexByte_some hi).1
          match i, this with
          | 0, e => exact absurd (Option.some.inj e).symm h1
          | 1, e => exact absurd (Option.some.inj e).symm h2
          | 2, e => exact absurd (Option.some.inj e).symm h3
theorem blank_yes {c : UInt8} (h : Wp.blankB c = true) : ∃ i : Nat, Lib.indexByte [32, 9, 10] c = i := by
  rw [index_blank]
  unfold Wp.blankB at h
  simp only [Bool.or_eq_true, beq_iff_eq] at h
  rcases h with (h | h) | h
  · subst h; exact ⟨0, by decide⟩
  · subst h; exact ⟨1, by decide⟩
  · subst h; exact ⟨2, by decide⟩
theorem blank_no {c : UInt8} (h : Wp.blankB c = false) : Lib.indexByte [32, 9, 10] c = -1 := by
  rw [index_blank]
  unfold Wp.blankB at h
  simp only [Bool.or_eq_false_iff, beq_eq_false_iff_ne] at h
  rw [if_neg h.1.1, if_neg h.1.2, if_neg h.2]

theorem IndexByte_is (c : UInt8) (i : Int) (w : World) (h : Hid (Lib.indexByte [32, 9, 10] c = i)) :
    Calls Tryz.prog 233 #[.string ⟨#[32, 9, 10]⟩, .int .u8 (c.toNat : Int)] w fun e w' => e = .returned (.int .i64 i) ∧ w = w' := by
  refine (Tryz.strings_IndexByte ⟨#[32, 9, 10]⟩ (c.toNat : Int) w).mono fun e w' ⟨he, hw⟩ => ⟨?_, hw.symm⟩
  rw [he, ← h.out]
  have e : ((c.toNat : Int)).toNat.toUInt8 = c := by simp
  rw [e]

theorem blank_any (w : World) (c : UInt8) (b : Bool) (hb : Hid (Wp.blankB c = b)) : Calls Tryz.prog 203 #[.int .u8 (c.toNat : Int)] w fun e w' => e = .returned (.bool b) ∧ w = w' := by
  cases b with
  | true =>
    obtain ⟨i, hi⟩ := blank_yes hb.out
    have HI := Lib.hid hi
    clear hi
    go_enter Tryz.func203, Tryz.ntmps203
    go_wp2_with fail
    refine (IndexByte_is c _ w HI).mono ?_
    rintro e w' ⟨rfl, rfl⟩
    go_wp2_with fail
    go_ret
    exact ⟨rfl, rfl⟩
  | false =>
    have HI := Lib.hid (blank_no hb.out)
    go_enter Tryz.func203, Tryz.ntmps203
    go_wp2_with fail
    refine (IndexByte_is c _ w HI).mono ?_
    rintro e w' ⟨rfl, rfl⟩
    go_wp2_with fail
    go_ret
    exact ⟨rfl, rfl⟩

end Go.Proofs.YtgednccpjegbmaaGreatDoor.Ww
namespace Go.Proofs.YtgednccpjegbmaaGreatDoor.Ww
open Go.RowKit Go.Proofs.YtgednccpjegbmaaGreatDoor
set_option maxRecDepth 100000
































end Go.Proofs.YtgednccpjegbmaaGreatDoor.Ww
