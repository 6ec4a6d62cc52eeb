/-
  Package parse as plain functions: tokens as commands, commands as tokens. No program here.
  Commands in memory: slices that read as cells, commands and lists of them; what an append leaves of them; append as one step of a statement whose order is open.
  parse.connects, redirects, cut.
  (*parse.Command).take: a word or a redirection more.
-/
import Derived.Test.YteommneijlelkaaGreatDoorQLOpen
import Derived.Deep.RegionLaw
import Derived.Deep.OwnRows
import Derived.Maps.AppendAt
namespace Go.Proofs.YteommneijlelkaaGreatDoor.Pp
abbrev Bs := List UInt8
abbrev T := Lp.T
/-- A redirection: its kind, its path. -/
structure G where
  k : Int
  p : Bs
deriving DecidableEq
/-- A command: the mark before it, its words, its redirections. -/
structure C where
  on : Int
  ws : List Bs
  to : List G
deriving DecidableEq

def newC (k : Int) : C := ⟨k, [], []⟩
def C.word (c : C) (t : Bs) : C := ⟨c.on, c.ws ++ [t], c.to⟩
def C.redir (c : C) (k : Int) (p : Bs) : C := ⟨c.on, c.ws, c.to ++ [⟨k, p⟩]⟩
/-- The commands that these tokens form, the first one begun already. -/
def goA : C → List T → Option (List C)
  | c, [] => if c.ws ≠ [] then some [c] else if c.to = [] ∧ c.on = 1 then some [] else none
  | c, t :: r =>
    if t.k = 0 then goA (c.word t.t) r
    else if 4 ≤ t.k then
      match r with
      | [] => none
      | u :: r' => if u.k = 0 then goA (c.redir t.k u.t) r' else none
    else if c.ws = [] then none else (goA (newC t.k) r).map (c :: ·)
def lineA (s : Bs) : Option (List C) := (Lp.tokA s).bind (goA (newC 1))

/-! The code's way: a command behind the other. -/
def conB (k : Nat) : Bool := k == 1 || (k == 2 || k == 3)
def pieceA (l : List T) : List T := l.takeWhile fun t => !conB t.k
def tailA (l : List T) : List T := l.dropWhile fun t => !conB t.k
def nextA (l : List T) : Nat := match tailA l with
  | [] => 1
  | t :: _ => t.k
def restA (l : List T) : List T := (tailA l).drop 1
def cmdA : C → List T → Option C
  | c, [] => if c.ws = [] then none else some c
  | c, t :: r =>
    if t.k = 0 then cmdA (c.word t.t) r
    else match r with
      | [] => none
      | u :: r' => if u.k = 0 then cmdA (c.redir t.k u.t) r' else none

theorem con_zero {k : Nat} (h : k = 0) : conB k = false := by subst h; rfl
theorem con_four {k : Nat} (h : 4 ≤ k) : conB k = false := by
  have h1 : ¬ k = 1 := by omega
  have h2 : ¬ k = 2 := by omega
  have h3 : ¬ k = 3 := by omega
  simp [conB, h1, h2, h3]
theorem con_mid {k : Nat} (h : ¬ k = 0) (h4 : ¬ 4 ≤ k) : conB k = true := by
  have : k = 1 ∨ k = 2 ∨ k = 3 := by omega
  rcases this with rfl | rfl | rfl <;> rfl
theorem piece_no {t : T} {r : List T} (h : conB t.k = false) : pieceA (t :: r) = t :: pieceA r ∧ tailA (t :: r) = tailA r := by simp [pieceA, tailA, h]
theorem piece_yes {t : T} {r : List T} (h : conB t.k = true) : pieceA (t :: r) = [] ∧ tailA (t :: r) = t :: r := by simp [pieceA, tailA, h]
theorem next_no {t : T} {r : List T} (h : conB t.k = false) : nextA (t :: r) = nextA r ∧ restA (t :: r) = restA r := by
  unfold nextA restA; rw [(piece_no h).2]; exact ⟨rfl, rfl⟩
theorem next_yes {t : T} {r : List T} (h : conB t.k = true) : nextA (t :: r) = t.k ∧ restA (t :: r) = r := by
  unfold nextA restA; rw [(piece_yes h).2]; exact ⟨rfl, rfl⟩

theorem go_cons (c : C) (t : T) (r : List T) : goA c (t :: r) = if t.k = 0 then goA (c.word t.t) r
    else if 4 ≤ t.k then
      match r with
      | [] => none
      | u :: r' => if u.k = 0 then goA (c.redir t.k u.t) r' else none
    else if c.ws = [] then none else (goA (newC t.k) r).map (c :: ·) := by
  conv => lhs; unfold goA
theorem cmd_cons (c : C) (t : T) (r : List T) : cmdA c (t :: r) = if t.k = 0 then cmdA (c.word t.t) r
    else match r with
      | [] => none
      | u :: r' => if u.k = 0 then cmdA (c.redir t.k u.t) r' else none := by
  conv => lhs; unfold cmdA

theorem go_cut : ∀ (n : Nat) (l : List T) (c : C), l.length ≤ n → (l ≠ [] ∨ c.ws ≠ [] ∨ c.to ≠ []) →
    goA c l = (cmdA c (pieceA l)).bind fun c' => (goA (newC (nextA l)) (restA l)).map (c' :: ·)
  | _, [], c, _, h => by
    have e : goA (newC (nextA [])) (restA []) = some [] := by simp [nextA, restA, tailA, goA, newC]
    rw [e]
    show (if c.ws ≠ [] then _ else if c.to = [] ∧ c.on = 1 then _ else _) = _
    by_cases hw : c.ws = []
    · have ht : c.to ≠ [] := by
        rcases h with h | h | h
        · exact absurd rfl h
        · exact absurd hw h
        · exact h
      simp [pieceA, cmdA, hw, ht]
    · simp [pieceA, cmdA, hw]
  | 0, t :: r, _, h, _ => by simp at h
  | n + 1, t :: r, c, hn, _ => by
    have hr : r.length ≤ n := by simpa using hn
    by_cases h0 : t.k = 0
    · have hc := con_zero h0
      rw [(next_no hc).1, (next_no hc).2, (piece_no hc).1]
      rw [go_cons c t r, cmd_cons c t, if_pos h0, if_pos h0]
      exact go_cut n r (c.word t.t) hr (.inr (.inl (by simp [C.word])))
    · by_cases h4 : 4 ≤ t.k
      · have hc := con_four h4
        rw [(next_no hc).1, (next_no hc).2, (piece_no hc).1]
        rw [go_cons c t r, cmd_cons c t, if_neg h0, if_pos h4, if_neg h0]
        match r, hr with
        | [], _ => simp [pieceA]
        | u :: r', hr =>
          have hr' : r'.length ≤ n := by simp at hr; omega
          by_cases hu : u.k = 0
          · have hcu := con_zero hu
            rw [(next_no hcu).1, (next_no hcu).2, (piece_no hcu).1]
            simp only [if_pos hu]
            exact go_cut n r' (c.redir t.k u.t) hr' (.inr (.inr (by simp [C.redir])))
          · simp only [if_neg hu]
            by_cases hcu : conB u.k = true
            · rw [(piece_yes hcu).1]; rfl
            · rw [(piece_no (by simpa using hcu)).1]
              simp only [if_neg hu]; rfl
      · have hc := con_mid h0 h4
        rw [(next_yes hc).1, (next_yes hc).2, (piece_yes hc).1]
        rw [go_cons c t r, if_neg h0, if_neg h4]
        show _ = (if c.ws = [] then none else some c).bind _
        by_cases hw : c.ws = []
        · rw [if_pos hw, if_pos hw]; rfl
        · rw [if_neg hw, if_neg hw]; rfl
theorem go_new (l : List T) (k : Int) (h : l ≠ []) : goA (newC k) l = (cmdA (newC k) (pieceA l)).bind fun c' => (goA (newC (nextA l)) (restA l)).map (c' :: ·) := go_cut _ l _ (Nat.le_refl _) (.inl h)
theorem go_nil (k : Int) : goA (newC k) [] = if k = 1 then some [] else none := by simp [goA, newC]
theorem rest_len {l : List T} (h : l ≠ []) : (restA l).length < l.length := by
  have h1 : (tailA l).length ≤ l.length := (List.dropWhile_suffix _).length_le
  unfold restA
  rw [List.length_drop]
  have : 0 < l.length := List.length_pos_iff.2 h
  omega
theorem cut_at {l : List T} {i : Nat} (h : i < l.length) (hj : ∀ j (h : j < l.length), j < i → conB l[j].k = false) (hi : conB l[i].k = true) :
    pieceA l = l.take i ∧ nextA l = l[i].k ∧ restA l = l.drop (i + 1) := by
  induction l generalizing i with
  | nil => cases h
  | cons t r ih =>
    cases i with
    | zero =>
      have hi' : conB t.k = true := hi
      exact ⟨(piece_yes hi').1, (next_yes hi').1, (next_yes hi').2⟩
    | succ i =>
      have h0 : conB t.k = false := hj 0 (by simp) (by omega)
      obtain ⟨a, b, c⟩ := ih (i := i) (by simpa using h) (fun j h1 h2 => by have := hj (j + 1) (by simpa using h1) (by omega); simpa using this) (by simpa using hi)
      refine ⟨?_, ?_, ?_⟩
      · rw [(piece_no h0).1, a]; rfl
      · rw [(next_no h0).1, b]; rfl
      · rw [(next_no h0).2, c]; rfl
theorem cut_none {l : List T} (hj : ∀ j (h : j < l.length), conB l[j].k = false) : pieceA l = l ∧ nextA l = 1 ∧ restA l = [] := by
  induction l with
  | nil => exact ⟨rfl, rfl, rfl⟩
  | cons t r ih =>
    have h0 : conB t.k = false := hj 0 (by simp)
    obtain ⟨a, b, c⟩ := ih fun j h => by have := hj (j + 1) (by simpa using h); simpa using this
    exact ⟨by rw [(piece_no h0).1, a], by rw [(next_no h0).1, b], by rw [(next_no h0).2, c]⟩

/-! Commands that are such as a line's; commands as tokens. -/
def redB (k : Int) : Bool := k == 4 || (k == 5 || k == 6)
def conI (k : Int) : Bool := k == 1 || (k == 2 || k == 3)
def C.okB (c : C) : Bool := c.to.all (fun g => redB g.k) && (conI c.on && !c.ws.isEmpty)
def rightA : List C → Bool
  | [] => true
  | c :: r => c.on == 1 && (c.okB && r.all C.okB)
def C.toks (c : C) : List T := c.ws.map (fun w => ⟨0, w⟩) ++ c.to.flatMap fun g => [⟨g.k.toNat, []⟩, ⟨0, g.p⟩]
def moreT (l : List C) : List T := l.flatMap fun c => ⟨c.on.toNat, []⟩ :: c.toks
def toksA : List C → List T
  | [] => []
  | c :: r => c.toks ++ moreT r

theorem ok_of {c : C} (h : (∀ g ∈ c.to, redB g.k = true) ∧ conI c.on = true ∧ c.ws ≠ []) : c.okB = true := by
  unfold C.okB
  rw [Bool.and_eq_true, Bool.and_eq_true, List.all_eq_true]
  refine ⟨h.1, h.2.1, ?_⟩
  cases hw : c.ws with
  | nil => exact absurd hw h.2.2
  | cons _ _ => rfl
/-- A command that has been begun out of a line's tokens. -/
def Beg (c : C) : Prop := (∀ g ∈ c.to, redB g.k = true) ∧ conI c.on = true
theorem go_ok : ∀ (n : Nat) (l : List T) (c : C) (L : List C), l.length ≤ n → (∀ x ∈ l, x.k ≤ 6) → Beg c → goA c l = some L → (L = [] ∨ ∃ d r, L = d :: r ∧ d.on = c.on) ∧ L.all C.okB = true
  | _, [], c, L, _, _, hb, h => by
    unfold goA at h
    split at h
    · rename_i hw
      cases h
      refine ⟨.inr ⟨_, _, rfl, rfl⟩, ?_⟩
      rw [List.all_cons, ok_of ⟨hb.1, hb.2, hw⟩]; rfl
    · split at h
      · cases h; exact ⟨.inl rfl, rfl⟩
      · cases h
  | 0, t :: r, _, _, h, _, _, _ => by simp at h
  | n + 1, t :: r, c, L, hn, hk, hb, h => by
    have hr : r.length ≤ n := by simpa using hn
    have hkr : ∀ x ∈ r, x.k ≤ 6 := fun x hx => hk x (List.mem_cons_of_mem _ hx)
    have hkt : t.k ≤ 6 := hk t (by simp)
    unfold goA at h
    split at h
    · exact go_ok n r (c.word t.t) L hr hkr ⟨hb.1, hb.2⟩ h
    · rename_i h0
      split at h
      · rename_i h4
        match r, hr, hkr, h with
        | [], _, _, h => cases h
        | u :: r', hr, hkr, h =>
          simp only at h
          split at h
          · refine go_ok n r' (c.redir t.k u.t) L (by simp at hr; omega) (fun x hx => hkr x (List.mem_cons_of_mem _ hx)) ⟨fun g hg => ?_, hb.2⟩ h
            rcases List.mem_append.1 hg with hg | hg
            · exact hb.1 g hg
            · obtain rfl := List.mem_singleton.1 hg
              have : t.k = 4 ∨ t.k = 5 ∨ t.k = 6 := by omega
              rcases this with e | e | e <;> simp [redB, e]
          · cases h
      · rename_i h4
        split at h
        · cases h
        · rename_i hw
          cases hg : goA (newC t.k) r with
          | none => rw [hg] at h; cases h
          | some M =>
            rw [hg] at h; cases h
            have hc : conI (t.k : Int) = true := by
              have : t.k = 1 ∨ t.k = 2 ∨ t.k = 3 := by omega
              rcases this with e | e | e <;> simp [conI, e]
            have := go_ok n r (newC t.k) M hr hkr ⟨fun g hg => (by cases hg), hc⟩ hg
            refine ⟨.inr ⟨_, _, rfl, rfl⟩, ?_⟩
            rw [List.all_cons, ok_of ⟨hb.1, hb.2, hw⟩, this.2]; rfl
theorem line_right {s : Bs} {L : List C} (h : lineA s = some L) : rightA L = true := by
  unfold lineA at h
  cases ht : Lp.tokA s with
  | none => rw [ht] at h; cases h
  | some l =>
    rw [ht] at h
    have hf : ∀ x ∈ l, Lp.Fit x := Lp.tok_fit (n := s.length) (s := s) ht
    obtain ⟨h1, h2⟩ := go_ok _ l (newC 1) L (Nat.le_refl _) (fun x hx => (hf x hx).1) ⟨fun g hg => (by cases hg), rfl⟩ h
    rcases h1 with rfl | ⟨d, r, rfl, hd⟩
    · rfl
    · have h3 : d.okB = true ∧ r.all C.okB = true := by simpa using h2
      have h4 : d.on = 1 := hd
      simp [rightA, h3.1, h4]
      simpa using h3.2

/-! Sizes. -/
def C.sumW (c : C) : Nat := (c.ws.map List.length).sum + (c.to.map (·.p.length)).sum
def C.num (c : C) : Nat := c.ws.length + c.to.length
def sumA (l : List C) : Nat := (l.map C.sumW).sum
def numA (l : List C) : Nat := (l.map C.num).sum
theorem go_size : ∀ (n : Nat) (l : List T) (c : C) (L : List C), l.length ≤ n → goA c l = some L → L.length ≤ l.length + 1 ∧ numA L ≤ c.num + l.length ∧ sumA L ≤ c.sumW + Lp.sumT l
  | _, [], c, L, _, h => by
    unfold goA at h
    split at h
    · cases h
      refine ⟨by simp, ?_, ?_⟩
      · show c.num + 0 ≤ _; omega
      · show c.sumW + 0 ≤ _; omega
    · split at h
      · cases h; exact ⟨by simp, Nat.zero_le _, Nat.zero_le _⟩
      · cases h
  | 0, t :: r, _, _, h, _ => by simp at h
  | n + 1, t :: r, c, L, hn, h => by
    have hr : r.length ≤ n := by simpa using hn
    have es : Lp.sumT (t :: r) = t.t.length + Lp.sumT r := by simp [Lp.sumT]
    unfold goA at h
    split at h
    · have := go_size n r (c.word t.t) L hr h
      have e1 : (c.word t.t).num = c.num + 1 := by simp [C.num, C.word]; omega
      have e2 : (c.word t.t).sumW = c.sumW + t.t.length := by simp [C.sumW, C.word]; omega
      rw [List.length_cons]
      omega
    · split at h
      · match r, hr, es, h with
        | [], _, _, h => cases h
        | u :: r', hr, es, h =>
          simp only at h
          split at h
          · have := go_size n r' (c.redir t.k u.t) L (by simp at hr; omega) h
            have e1 : (c.redir t.k u.t).num = c.num + 1 := by simp [C.num, C.redir]; omega
            have e2 : (c.redir t.k u.t).sumW = c.sumW + u.t.length := by simp [C.sumW, C.redir]; omega
            have e3 : Lp.sumT (u :: r') = u.t.length + Lp.sumT r' := by simp [Lp.sumT]
            rw [List.length_cons, List.length_cons]
            omega
          · cases h
      · split at h
        · cases h
        · cases hg : goA (newC t.k) r with
          | none => rw [hg] at h; cases h
          | some M =>
            rw [hg] at h; cases h
            have := go_size n r (newC t.k) M hr hg
            have e1 : (newC (t.k : Int)).num = 0 := rfl
            have e2 : (newC (t.k : Int)).sumW = 0 := rfl
            have e3 : numA (c :: M) = c.num + numA M := rfl
            have e4 : sumA (c :: M) = c.sumW + sumA M := rfl
            have e5 : (c :: M).length = M.length + 1 := rfl
            have e6 : (t :: r).length = r.length + 1 := rfl
            show (c :: M).length ≤ _ ∧ numA (c :: M) ≤ _ ∧ sumA (c :: M) ≤ _
            omega
theorem line_size {s : Bs} {L : List C} (h : lineA s = some L) : L.length ≤ s.length + 1 ∧ numA L ≤ s.length ∧ sumA L ≤ s.length := by
  unfold lineA at h
  cases ht : Lp.tokA s with
  | none => rw [ht] at h; cases h
  | some l =>
    rw [ht] at h
    have h1 := Lp.tok_len ht
    have h2 := go_size _ l (newC 1) L (Nat.le_refl _) h
    have e1 : (newC 1).num = 0 := rfl
    have e2 : (newC 1).sumW = 0 := rfl
    omega
theorem num_mem {l : List C} {c : C} (h : c ∈ l) : c.num ≤ numA l ∧ c.sumW ≤ sumA l := by
  induction l with
  | nil => cases h
  | cons d r ih =>
    have e1 : numA (d :: r) = d.num + numA r := rfl
    have e2 : sumA (d :: r) = d.sumW + sumA r := rfl
    rcases List.mem_cons.1 h with rfl | h
    · omega
    · have := ih h; omega
end Go.Proofs.YteommneijlelkaaGreatDoor.Pp
namespace Go.Proofs.YteommneijlelkaaGreatDoor.Px
open Go.RowKit Go.Proofs.YteommneijlelkaaGreatDoor Go.Proofs.YteommneijlelkaaGreatDoor.Lx
set_option maxRecDepth 100000
abbrev Bs := List UInt8

/-- The slice value v reads as n elements, whose cells are xs; they lie in a block of which P holds. -/
def Rg (w : World) (P : Nat → Prop) (v : Value) (n : Nat) (xs : List Value) : Prop :=
  ∃ a c, v = .slice a n c ∧ n ≤ c ∧ (n = 0 ∨ ∃ b o, a = some ⟨b, o, none⟩ ∧ P b ∧ ∀ j u, xs[j]? = some u → w.cell? ⟨b, o + j, none⟩ = some u)
section
variable {w w' : World} {P Q : Nat → Prop} {v : Value} {n : Nat} {xs : List Value}
theorem Rg.keep (h : Rg w P v n xs) (hk : ∀ b, P b → w'.heap[b]? = w.heap[b]?) : Rg w' P v n xs := by
  obtain ⟨a, c, hv, hc, h⟩ := h
  refine ⟨a, c, hv, hc, h.imp id ?_⟩
  rintro ⟨b, o, ha, hb, hx⟩
  exact ⟨b, o, ha, hb, fun j u hj => (World.cell?_of_block (a := ⟨b, o + j, none⟩) (hk b hb)).trans (hx j u hj)⟩
theorem Rg.more (h : Rg w P v n xs) (hk : ∀ b, P b → Q b) : Rg w Q v n xs := by
  obtain ⟨a, c, hv, hc, h⟩ := h
  refine ⟨a, c, hv, hc, h.imp id ?_⟩
  rintro ⟨b, o, ha, hb, hx⟩
  exact ⟨b, o, ha, hk b hb, hx⟩
theorem Rg.below {B : Nat} (h : Rg w (· < B) v n xs) (hb : Below B w w') : Rg w' (· < B) v n xs := h.keep fun b hp => hb.block b hp
theorem Rg.nil (w : World) (P : Nat → Prop) (a : Option Addr) (c : Nat) (xs : List Value) : Rg w P (.slice a 0 c) 0 xs := ⟨a, c, rfl, Nat.zero_le _, .inl rfl⟩
theorem Rg.of_own {base : Nat} {e : TypeId} {z : Nat} (h : w.ownsRow base e z v n xs) : Rg w (fun b => base ≤ b ∧ b < w.heap.size ∧ v.ownBlock = some b) v n xs := by
  have h0 := h
  obtain ⟨hl, h'⟩ := h
  rcases h' with ⟨rfl, rfl⟩ | ⟨g, cap, cur, rfl, hb, hg, hn, hc, hs, ht⟩
  · exact Rg.nil _ _ _ _ _
  · refine ⟨_, cap, rfl, hn, .inr ⟨g, 0, rfl, ⟨hb, (Array.getElem?_eq_some_iff.1 hg).1, rfl⟩, fun j u hj => ?_⟩⟩
    have := h0.cells (g := g) rfl j u hj
    simpa [Addr.add_lit] using this
theorem Rg.shape (h : Rg w P v n xs) : ∃ a c, v = .slice a n c ∧ n ≤ c := by
  obtain ⟨a, c, hv, hc, _⟩ := h
  exact ⟨a, c, hv, hc⟩
theorem Rg.open_ (h : Rg w P v n xs) (hn : 0 < n) : ∃ b o c, v = .slice (some ⟨b, o, none⟩) n c ∧ n ≤ c ∧ P b ∧ ∀ j u, xs[j]? = some u → w.cell? ⟨b, o + j, none⟩ = some u := by
  obtain ⟨a, c, hv, hc, h⟩ := h
  rcases h with h | ⟨b, o, rfl, hb, hx⟩
  · omega
  · exact ⟨b, o, c, hv, hc, hb, hx⟩
/-- What lies in the slice's own cells. -/
theorem Rg.at_ {a : Option Addr} {c : Nat} (h : Rg w P (.slice a n c) n xs) (hn : 0 < n) : ∃ b o, a = some ⟨b, o, none⟩ ∧ n ≤ c ∧ P b ∧ ∀ j u, xs[j]? = some u → w.cell? ⟨b, o + j, none⟩ = some u := by
  obtain ⟨b, o, c', hv, hc, hp, hx⟩ := h.open_ hn
  cases hv
  exact ⟨b, o, rfl, hc, hp, hx⟩
end

/-! Cells of texts, redirections, commands. -/
def strsC (l : List Bs) : List Value := l.map fun s => Value.string (str s)
theorem strsC_len (l : List Bs) : (strsC l).length = l.length := by simp [strsC]
theorem strsC_get {l : List Bs} {j : Nat} (h : j < l.length) : (strsC l)[j]? = some (.string (str l[j])) := by simp [strsC, h]
theorem strsC_snoc (l : List Bs) (s : Bs) : strsC (l ++ [s]) = strsC l ++ [.string (str s)] := by simp [strsC]
def tgC (g : Pp.G) : List Value := [.int .i64 g.k, .string (str g.p)]
def tgsC (l : List Pp.G) : List Value := l.flatMap tgC
theorem tgsC_snoc (l : List Pp.G) (x : Pp.G) : tgsC (l ++ [x]) = tgsC l ++ [.int .i64 x.k, .string (str x.p)] := by simp [tgsC, tgC]
theorem tgsC_get {l : List Pp.G} {k : Nat} (h : k < l.length) : (tgsC l)[k * 2]? = some (.int .i64 l[k].k) ∧ (tgsC l)[k * 2 + 1]? = some (.string (str l[k].p)) := by
  induction l generalizing k with
  | nil => cases h
  | cons x r ih =>
    cases k with
    | zero => exact ⟨rfl, rfl⟩
    | succ k =>
      have := ih (k := k) (by simpa using h)
      show (tgC x ++ tgsC r)[(k + 1) * 2]? = _ ∧ (tgC x ++ tgsC r)[(k + 1) * 2 + 1]? = _
      rw [List.getElem?_append_right (by show 2 ≤ _; omega), List.getElem?_append_right (by show 2 ≤ _; omega)]
      have e1 : (k + 1) * 2 - (tgC x).length = k * 2 := by show (k + 1) * 2 - 2 = _; omega
      have e2 : (k + 1) * 2 + 1 - (tgC x).length = k * 2 + 1 := by show (k + 1) * 2 + 1 - 2 = _; omega
      rw [e1, e2]
      exact this
/-- A command, and the two slices that stand in its cells. -/
structure CV where
  c : Pp.C
  vw : Value
  vt : Value
def cvC (x : CV) : List Value := [.int .i64 x.c.on, x.vw, x.vt]
def cvsC (l : List CV) : List Value := l.flatMap cvC
theorem cvsC_snoc (l : List CV) (x : CV) : cvsC (l ++ [x]) = cvsC l ++ [.int .i64 x.c.on, x.vw, x.vt] := by simp [cvsC, cvC]
theorem cvsC_get {l : List CV} {k : Nat} (h : k < l.length) : (cvsC l)[k * 3]? = some (.int .i64 l[k].c.on) ∧ (cvsC l)[k * 3 + 1]? = some l[k].vw ∧ (cvsC l)[k * 3 + 2]? = some l[k].vt := by
  induction l generalizing k with
  | nil => cases h
  | cons x r ih =>
    cases k with
    | zero => exact ⟨rfl, rfl, rfl⟩
    | succ k =>
      have := ih (k := k) (by simpa using h)
      show (cvC x ++ cvsC r)[(k + 1) * 3]? = _ ∧ (cvC x ++ cvsC r)[(k + 1) * 3 + 1]? = _ ∧ (cvC x ++ cvsC r)[(k + 1) * 3 + 2]? = _
      rw [List.getElem?_append_right (by show 3 ≤ _; omega), List.getElem?_append_right (by show 3 ≤ _; omega), List.getElem?_append_right (by show 3 ≤ _; omega)]
      have e1 : (k + 1) * 3 - (cvC x).length = k * 3 := by show (k + 1) * 3 - 3 = _; omega
      have e2 : (k + 1) * 3 + 1 - (cvC x).length = k * 3 + 1 := by show (k + 1) * 3 + 1 - 3 = _; omega
      have e3 : (k + 1) * 3 + 2 - (cvC x).length = k * 3 + 2 := by show (k + 1) * 3 + 2 - 3 = _; omega
      rw [e1, e2, e3]
      exact this
/-- The command's slices read as its words and its redirections. -/
def In (w : World) (P : Nat → Prop) (x : CV) : Prop := Rg w P x.vw x.c.ws.length (strsC x.c.ws) ∧ Rg w P x.vt x.c.to.length (tgsC x.c.to)
theorem In.keep {w w' : World} {P : Nat → Prop} {x : CV} (h : In w P x) (hk : ∀ b, P b → w'.heap[b]? = w.heap[b]?) : In w' P x := ⟨h.1.keep hk, h.2.keep hk⟩
theorem In.more {w : World} {P Q : Nat → Prop} {x : CV} (h : In w P x) (hk : ∀ b, P b → Q b) : In w Q x := ⟨h.1.more hk, h.2.more hk⟩
/-- A slice of commands that are read. -/
def Cs (w : World) (P : Nat → Prop) (v : Value) (X : List CV) : Prop := Rg w P v X.length (cvsC X) ∧ ∀ x ∈ X, In w P x
theorem Cs.keep {w w' : World} {P : Nat → Prop} {v : Value} {X : List CV} (h : Cs w P v X) (hk : ∀ b, P b → w'.heap[b]? = w.heap[b]?) : Cs w' P v X := ⟨h.1.keep hk, fun x hx => (h.2 x hx).keep hk⟩
theorem Cs.more {w : World} {P Q : Nat → Prop} {v : Value} {X : List CV} (h : Cs w P v X) (hk : ∀ b, P b → Q b) : Cs w Q v X := ⟨h.1.more hk, fun x hx => (h.2 x hx).more hk⟩
theorem Cs.below {w w' : World} {B : Nat} {v : Value} {X : List CV} (h : Cs w (· < B) v X) (hb : Below B w w') : Cs w' (· < B) v X := h.keep fun b hp => hb.block b hp
theorem Cs.grow {w w' : World} {v : Value} {X : List CV} (h : Cs w (· < w.heap.size) v X) (hb : Below w.heap.size w w') : Cs w' (· < w'.heap.size) v X := (h.below hb).more fun _ hp => Nat.lt_of_lt_of_le hp hb.size
theorem cs_in2 {w : World} {P : Nat → Prop} {v : Value} {X : List CV} (h : Cs w P v X) {k : Nat} (hk : k < X.length) : In w P X[k] := h.2 _ (List.getElem_mem hk)
/-- Command k of a slice of commands. -/
theorem Cs.cells {w : World} {P : Nat → Prop} {a : Option Addr} {c : Nat} {X : List CV} (h : Cs w P (.slice a X.length c) X) (hn : 0 < X.length) : ∃ b o, a = some ⟨b, o, none⟩ ∧ X.length ≤ c ∧ P b ∧
    ∀ k (hk : k < X.length), w.cell? ⟨b, o + k * 3, none⟩ = some (.int .i64 X[k].c.on) ∧ w.cell? ⟨b, o + k * 3 + 1, none⟩ = some X[k].vw ∧ w.cell? ⟨b, o + k * 3 + 2, none⟩ = some X[k].vt := by
  obtain ⟨b, o, ha, hc, hp, hx⟩ := h.1.at_ hn
  refine ⟨b, o, ha, hc, hp, fun k hk => ?_⟩
  obtain ⟨h1, h2, h3⟩ := cvsC_get hk
  exact ⟨hx _ _ h1, hx _ _ h2, hx _ _ h3⟩
theorem tos_cells {w : World} {P : Nat → Prop} {a : Option Addr} {c : Nat} {l : List Pp.G} (h : Rg w P (.slice a l.length c) l.length (tgsC l)) (hn : 0 < l.length) : ∃ b o, a = some ⟨b, o, none⟩ ∧ l.length ≤ c ∧ P b ∧
    ∀ k (hk : k < l.length), w.cell? ⟨b, o + k * 2, none⟩ = some (.int .i64 l[k].k) ∧ w.cell? ⟨b, o + k * 2 + 1, none⟩ = some (.string (str l[k].p)) := by
  obtain ⟨b, o, ha, hc, hp, hx⟩ := h.at_ hn
  refine ⟨b, o, ha, hc, hp, fun k hk => ?_⟩
  obtain ⟨h1, h2⟩ := tgsC_get hk
  exact ⟨hx _ _ h1, hx _ _ h2⟩
theorem strs_cells {w : World} {P : Nat → Prop} {a : Option Addr} {c : Nat} {l : List Bs} (h : Rg w P (.slice a l.length c) l.length (strsC l)) (hn : 0 < l.length) : ∃ b o, a = some ⟨b, o, none⟩ ∧ l.length ≤ c ∧ P b ∧
    ∀ k (hk : k < l.length), w.cell? ⟨b, o + k, none⟩ = some (.string (str l[k])) := by
  obtain ⟨b, o, ha, hc, hp, hx⟩ := h.at_ hn
  exact ⟨b, o, ha, hc, hp, fun k hk => hx _ _ (strsC_get hk)⟩
/-- Tokens that are read. -/
def Tk (w : World) (P : Nat → Prop) (v : Value) (L : List Lp.T) : Prop := Rg w P v L.length (tsC L)
theorem Tk.cells {w : World} {P : Nat → Prop} {a : Option Addr} {c : Nat} {L : List Lp.T} (h : Tk w P (.slice a L.length c) L) (hn : 0 < L.length) : ∃ b o, a = some ⟨b, o, none⟩ ∧ L.length ≤ c ∧ P b ∧
    ∀ k (hk : k < L.length), w.cell? ⟨b, o + k * 2, none⟩ = some (.int .i64 L[k].k) ∧ w.cell? ⟨b, o + k * 2 + 1, none⟩ = some (.string (str L[k].t)) := by
  obtain ⟨b, o, ha, hc, hp, hx⟩ := Rg.at_ h hn
  refine ⟨b, o, ha, hc, hp, fun k hk => ?_⟩
  obtain ⟨h1, h2⟩ := tsC_get hk
  exact ⟨hx _ _ h1, hx _ _ h2⟩
theorem tsC_take (L : List Lp.T) (k : Nat) : tsC (L.take k) = (tsC L).take (k * 2) := by
  induction L generalizing k with
  | nil => simp [tsC]
  | cons x r ih =>
    cases k with
    | zero => simp [tsC]
    | succ k =>
      have e : (k + 1) * 2 = k * 2 + 1 + 1 := by omega
      rw [List.take_succ_cons, e]
      show tC x ++ tsC (r.take k) = ((tC x) ++ tsC r).take _
      rw [ih]; rfl
theorem tsC_drop (L : List Lp.T) (k : Nat) : tsC (L.drop k) = (tsC L).drop (k * 2) := by
  induction L generalizing k with
  | nil => simp [tsC]
  | cons x r ih =>
    cases k with
    | zero => simp [tsC]
    | succ k =>
      have e : (k + 1) * 2 = k * 2 + 1 + 1 := by omega
      rw [List.drop_succ_cons, e]
      show tsC (r.drop k) = ((tC x) ++ tsC r).drop _
      rw [ih]; rfl
theorem Tk.take {w : World} {P : Nat → Prop} {a : Option Addr} {c : Nat} {L : List Lp.T} (h : Tk w P (.slice a L.length c) L) {k : Nat} (hk : k ≤ L.length) : Tk w P (.slice a k c) (L.take k) := by
  obtain ⟨a', c', hv, hc, h⟩ := h
  cases hv
  have e : (L.take k).length = k := by rw [List.length_take]; omega
  refine ⟨a, c, by rw [e], by omega, ?_⟩
  rw [e]
  rcases h with h | ⟨b, o, ha, hp, hx⟩
  · left; omega
  · refine .inr ⟨b, o, ha, hp, fun j u hj => hx j u ?_⟩
    rw [tsC_take, List.getElem?_take] at hj
    split at hj
    · exact hj
    · cases hj
theorem Tk.drop {w : World} {P : Nat → Prop} {b o c : Nat} {L : List Lp.T} (h : Tk w P (.slice (some ⟨b, o, none⟩) L.length c) L) {k : Nat} (hk : k ≤ L.length) (a : Option Addr) (ha : k = c ∨ a = some ⟨b, o + k * 2, none⟩) : Tk w P (.slice a (L.length - k) (c - k)) (L.drop k) := by
  obtain ⟨a', c', hv, hc, h⟩ := h
  cases hv
  refine ⟨a, c - k, by rw [List.length_drop], by rw [List.length_drop]; omega, ?_⟩
  rw [List.length_drop]
  rcases h with h | ⟨b', o', ha', hp, hx⟩
  · left; omega
  · cases ha'
    rcases ha with h1 | h1
    · left; omega
    · refine .inr ⟨b, o + k * 2, h1, hp, fun j u hj => ?_⟩
      rw [tsC_drop, List.getElem?_drop] at hj
      rw [Nat.add_assoc]
      exact hx _ u hj

/-! Lists of commands that grow. -/
/-- A row of commands of the call's own; what the commands hold lies in other blocks, of which P holds. -/
def Bd (w : World) (lo : Nat) (T : TypeId) (P : Nat → Prop) (v : Value) (X : List CV) : Prop :=
  w.ownsRow lo T 3 v X.length (cvsC X) ∧ ∀ x ∈ X, In w (fun b => P b ∧ b < w.heap.size ∧ some b ≠ v.ownBlock) x
theorem Bd.nil (w : World) (lo : Nat) (T : TypeId) (P : Nat → Prop) : Bd w lo T P (.slice none 0 0) [] := ⟨World.ownsRow_nil _ _ _ _, fun x hx => by cases hx⟩
theorem Bd.cs {w : World} {lo : Nat} {T : TypeId} {P : Nat → Prop} {v : Value} {X : List CV} (h : Bd w lo T P v X) : Cs w (· < w.heap.size) v X :=
  ⟨(Rg.of_own h.1).more fun _ hb => hb.2.1, fun x hx => (h.2 x hx).more fun _ hb => hb.2.1⟩
theorem Bd.keep {w w' : World} {lo : Nat} {T : TypeId} {P : Nat → Prop} {v : Value} {X : List CV} (h : Bd w lo T P v X) (hs : w.heap.size ≤ w'.heap.size) (hk : ∀ b, P b → b < w.heap.size → w'.heap[b]? = w.heap[b]?) (hv : ∀ b, v.ownBlock = some b → w'.heap[b]? = w.heap[b]?) : Bd w' lo T P v X := by
  refine ⟨?_, fun x hx => ((h.2 x hx).keep fun b hb => hk b hb.1 hb.2.1).more fun b hb => ⟨hb.1, Nat.lt_of_lt_of_le hb.2.1 hs, hb.2.2⟩⟩
  refine ⟨h.1.1, ?_⟩
  rcases h.1.2 with h | ⟨g, cap, cur, rfl, h2, h3, h4⟩
  · exact .inl h
  · exact .inr ⟨g, cap, cur, rfl, h2, (hv g rfl).trans h3, h4⟩
theorem Bd.more {w : World} {lo : Nat} {T : TypeId} {P Q : Nat → Prop} {v : Value} {X : List CV} (h : Bd w lo T P v X) (hk : ∀ b, P b → b < w.heap.size → Q b) : Bd w lo T Q v X :=
  ⟨h.1, fun x hx => (h.2 x hx).more fun b hb => ⟨hk b hb.1 hb.2.1, hb.2⟩⟩
theorem Bd.below {w w' : World} {lo : Nat} {T : TypeId} {P : Nat → Prop} {v : Value} {X : List CV} (h : Bd w lo T P v X) (hb : Below w.heap.size w w') : Bd w' lo T P v X :=
  h.keep hb.size (fun b _ hl => hb.block b hl) fun b hv => hb.block b (by
    have := (h.1.lt b hv).2
    exact this)
theorem Bd.alloc {w : World} {lo : Nat} {T : TypeId} {P : Nat → Prop} {v : Value} {X : List CV} (h : Bd w lo T P v X) (o : Obj) : Bd (w.alloc o) lo T P v X := h.below ((Below.refl _ _).alloc (Nat.le_refl _) o)
/-- One more command. -/
theorem Bd.snoc {w w' : World} {lo : Nat} {T : TypeId} {P : Nat → Prop} {v v' : Value} {X : List CV} {x : CV} (h : Bd w lo T P v X) (hx : In w (fun b => P b ∧ b < w.heap.size ∧ some b ≠ v.ownBlock) x)
    (ho : w'.ownsRow lo T 3 v' (X.length + 1) (cvsC X ++ [.int .i64 x.c.on, x.vw, x.vt])) (hg : w.grownBy w' v.ownBlock) (hat : v'.ownBlock = v.ownBlock ∨ v'.ownBlock = some w.heap.size) : Bd w' lo T P v' (X ++ [x]) := by
  refine ⟨by rw [List.length_append, cvsC_snoc]; exact ho, fun y hy => ?_⟩
  have hy' : In w (fun b => P b ∧ b < w.heap.size ∧ some b ≠ v.ownBlock) y := by
    rcases List.mem_append.1 hy with hy | hy
    · exact h.2 y hy
    · rw [List.mem_singleton.1 hy]; exact hx
  refine (hy'.keep fun b hb => hg.block b hb.2.1 hb.2.2).more fun b hb => ⟨hb.1, Nat.lt_of_lt_of_le hb.2.1 hg.size, ?_⟩
  rcases hat with e | e
  · rw [e]; exact hb.2.2
  · rw [e]
    intro e
    cases e
    exact Nat.lt_irrefl _ hb.2.1
theorem three_at (W : World) {n : Nat} (hn : W.heap.size = n) (x y z : Value) (T : TypeId) : ∀ (j : Nat) (u : Value), [x, y, z][j]? = some u → (W.alloc (.cells #[x, y, z] T)).cell? ((⟨n, 0, none⟩ : Addr).add j) = some u := by
  subst hn
  intro j u hj
  rw [Addr.add_lit, World.cell?_alloc_at _ _ _ _ (by simp)]
  match j, hj with
  | 0, hj => simpa using hj
  | 1, hj => simpa using hj
  | 2, hj => simpa using hj
theorem one_at (W : World) {n : Nat} (hn : W.heap.size = n) (x : Value) (T : TypeId) : ∀ (j : Nat) (u : Value), [x][j]? = some u → (W.alloc (.cells #[x] T)).cell? ((⟨n, 0, none⟩ : Addr).add j) = some u := by
  subst hn
  intro j u hj
  rw [Addr.add_lit, World.cell?_alloc_at _ _ _ _ (by simp)]
  match j, hj with
  | 0, hj => simpa using hj
/-- An append as one step of a statement whose order is open. -/
theorem step_append_own {P : Program} {ops : Array Oper} {o : Oper} {a : Act} {w : World} {K : Act → World → Prop} {Q : Exit → Act → World → Prop} {E : Prop} (hgd : o.guard = none) (s x : Operand) (t : TypeId)
    (ho : o.op = .call { callee := .builtin .append, args := #[s, x], argTypes := #[t, t] })
    (base : Nat) (e : TypeId) (i : TypeInfo) (z : Value) (size bytes : Nat) (ht : P.underlying t = some (.slice e)) (hi : P.info? e = some i) (hz : i.zero = some z)
    (hsize : i.size = size) (hby : i.bytes = bytes) (hzs : z.cells.size = size) (hsz : 0 < size)
    (v : Value) (n : Nat) (xs : List Value) (hs : a.eval s = v) (hown : w.ownsRow base e size v n xs) (ad : Addr) (m c : Nat) (news : List Value) (hx : a.eval x = .slice (some ad) m c) (hl : news.length = m * size)
    (hnews : ∀ j u, news[j]? = some u → w.cell? (ad.add j) = some u) (h1 : ∀ u ∈ news, u.oneCell' = true)
    (h63 : n + m ≤ maxLen) (hbytes : (n + m) * bytes ≤ 140737488355328) (hbase : base ≤ w.heap.size)
    (h : ∀ v' w', w'.ownsRow base e size v' (n + m) (xs ++ news) → w.grownBy w' v.ownBlock → (v'.ownBlock = v.ownBlock ∨ v'.ownBlock = some w.heap.size) → K (a.put o.dst v') w') :
    if Region.wanted o (yielded ops a.tmps) = true then Oper.wp P o a w K Q else E := by
  rw [if_pos (by simp [Region.wanted, hgd])]
  obtain ⟨v', w', run, own, grew, _, hat⟩ := run_append_own_at (P := P) (w := w) base t o.type e i z size bytes ht hi hz hsize hby hzs hsz v n xs hown ad m c news hl hnews h1 h63 hbytes hbase
  unfold Oper.wp
  simp [execOp, ho, resolve, invoke, builtin, hs, hx, run, Result.andThen]
  exact h v' w' own grew hat

abbrev SS : TypeId := 9
abbrev C1 : TypeId := 79
abbrev C2 : TypeId := 97
abbrev G1 : TypeId := 100
abbrev G2 : TypeId := 102
theorem infoS : (Tryz.prog.info? SS).map (fun i => (i.zero, i.size, i.bytes)) = some (some (.string ⟨#[]⟩), 1, 16) := by kernel_rfl
theorem infoC1 : (Tryz.prog.info? C1).map (fun i => (i.zero, i.size, i.bytes)) = some (some (.agg #[.int .i64 0, .slice none 0 0, .slice none 0 0]), 3, 56) := by kernel_rfl
theorem infoC2 : (Tryz.prog.info? C2).map (fun i => (i.zero, i.size, i.bytes)) = some (some (.agg #[.int .i64 0, .slice none 0 0, .slice none 0 0]), 3, 56) := by kernel_rfl
theorem infoG1 : (Tryz.prog.info? G1).map (fun i => (i.zero, i.size, i.bytes)) = some (some (.agg #[.int .i64 0, .string ByteArray.empty]), 2, 24) := by kernel_rfl
theorem infoG2 : (Tryz.prog.info? G2).map (fun i => (i.zero, i.size, i.bytes)) = some (some (.agg #[.int .i64 0, .string ByteArray.empty]), 2, 24) := by kernel_rfl
end Go.Proofs.YteommneijlelkaaGreatDoor.Px
namespace Go.Proofs.YteommneijlelkaaGreatDoor.Px
open Go.RowKit Go.Proofs.YteommneijlelkaaGreatDoor Go.Proofs.YteommneijlelkaaGreatDoor.Lx
set_option maxRecDepth 100000

theorem connects_any (w : World) (k : Int) (b : Bool) (h : Hid (Pp.conI k = b)) : Calls Tryz.prog 46 #[.int .i64 k] w fun e w' => e = .returned (.bool b) ∧ w = w' := by
  by_cases h1 : k = 1
  · have HT : Hid (b = true) := Lib.hid (by rw [← h.out, h1]; rfl)
    subst h1
    go_enter Tryz.func46, Tryz.ntmps46
    go_wp2_with fail
    go_ret
    exact ⟨by rw [HT.out]; rfl, rfl⟩
  · by_cases h2 : k = 2
    · have HT : Hid (b = true) := Lib.hid (by rw [← h.out, h2]; rfl)
      subst h2
      go_enter Tryz.func46, Tryz.ntmps46
      go_wp2_with fail
      go_ret
      exact ⟨by rw [HT.out]; rfl, rfl⟩
    · have HT : Hid (b = (k == 3)) := Lib.hid (by rw [← h.out]; unfold Pp.conI; rw [beq_eq_false_iff_ne.2 h1, beq_eq_false_iff_ne.2 h2]; rfl)
      have f1 : (k == 1) = false := beq_eq_false_iff_ne.2 h1
      have f2 : (k == 2) = false := beq_eq_false_iff_ne.2 h2
      go_enter Tryz.func46, Tryz.ntmps46
      go_wp2_with fail
      go_ret
      exact ⟨by rw [HT.out]; rfl, rfl⟩
theorem redirects_any (w : World) (k : Int) (b : Bool) (h : Hid (Pp.redB k = b)) : Calls Tryz.prog 75 #[.int .i64 k] w fun e w' => e = .returned (.bool b) ∧ w = w' := by
  by_cases h1 : k = 4
  · have HT : Hid (b = true) := Lib.hid (by rw [← h.out, h1]; rfl)
    subst h1
    go_enter Tryz.func75, Tryz.ntmps75
    go_wp2_with fail
    go_ret
    exact ⟨by rw [HT.out]; rfl, rfl⟩
  · by_cases h2 : k = 5
    · have HT : Hid (b = true) := Lib.hid (by rw [← h.out, h2]; rfl)
      subst h2
      go_enter Tryz.func75, Tryz.ntmps75
      go_wp2_with fail
      go_ret
      exact ⟨by rw [HT.out]; rfl, rfl⟩
    · have HT : Hid (b = (k == 6)) := Lib.hid (by rw [← h.out]; unfold Pp.redB; rw [beq_eq_false_iff_ne.2 h1, beq_eq_false_iff_ne.2 h2]; rfl)
      have f1 : (k == 4) = false := beq_eq_false_iff_ne.2 h1
      have f2 : (k == 5) = false := beq_eq_false_iff_ne.2 h2
      go_enter Tryz.func75, Tryz.ntmps75
      go_wp2_with fail
      go_ret
      exact ⟨by rw [HT.out]; rfl, rfl⟩
theorem con_nat (k : Nat) : Pp.conI (k : Int) = Pp.conB k := by
  have h : ∀ n : Nat, ((k : Int) == (n : Int)) = (k == n) := fun n => by
    by_cases h : k = n
    · subst h; simp
    · rw [beq_eq_false_iff_ne.2 h, beq_eq_false_iff_ne]; omega
  have h1 := h 1
  have h2 := h 2
  have h3 := h 3
  simp only [Pp.conI, Pp.conB]
  rw [← h1, ← h2, ← h3]; rfl

/-- What cut returns. -/
def CutPost (w : World) (P : Nat → Prop) (L : List Lp.T) (e : Ending) (w' : World) : Prop :=
  ∃ v1 v2, e = .returned (.tuple #[v1, .int .i64 (Pp.nextA L), v2]) ∧ Tk w' P v1 (Pp.pieceA L) ∧ Tk w' P v2 (Pp.restA L) ∧ Below w.heap.size w w'
set_option maxHeartbeats 4000000 in
theorem cut_any (w : World) (P : Nat → Prop) (hP : ∀ b, P b → b < w.heap.size) (a : Option Addr) (c : Nat) (L : List Lp.T) (hT : Tk w P (.slice a L.length c) L) (hl : L.length ≤ 100000) :
    Calls Tryz.prog 22 #[.slice a L.length c] w (CutPost w P L) := by
  go_enter Tryz.func22, Tryz.ntmps22
  go_wp2_with fail
  go_loopw [9] (fun v wr => ∃ i : Nat, v = .int .i64 i ∧ i ≤ L.length ∧ (∀ j (h : j < L.length), j < i → Pp.conB L[j].k = false) ∧ Below w.heap.size w wr) (fun v _ => L.length - (intOf v).toNat)
  case atStart => exact ⟨0, rfl, Nat.zero_le _, fun j _ hj => absurd hj (Nat.not_lt_zero _), Below.refl _ _⟩
  case round =>
    obtain ⟨i, rfl, hi, hj, hB⟩ := hrel
    by_cases hlt : i < L.length
    · obtain ⟨b, o, rfl, hc, hp, hcells⟩ := hT.cells (by omega)
      obtain ⟨x1, x2⟩ := hcells i hlt
      have y1 : wr.cell? ⟨b, o + i * 2, none⟩ = some (.int .i64 L[i].k) := (hB.cell (p := ⟨b, o + i * 2, none⟩) (hP b hp)).trans x1
      have y2 : wr.cell? ⟨b, o + i * 2 + 1, none⟩ = some (.string (str L[i].t)) := (hB.cell (p := ⟨b, o + i * 2 + 1, none⟩) (hP b hp)).trans x2
      have hB1 := fun ob => hB.alloc hB.size ob
      have hpl := hP b hp
      cases hcb : Pp.conB L[i].k with
      | true =>
        have hC := fun W => connects_any W (L[i].k : Int) true (Lib.hid (by rw [con_nat]; exact hcb))
        have hcut := Pp.cut_at hlt hj hcb
        have HF : Hid (∀ W v1 v2, Below w.heap.size w W → Tk W P v1 (L.take i) → Tk W P v2 (L.drop (i + 1)) → CutPost w P L (.returned (.tuple #[v1, .int .i64 L[i].k, v2])) W) := Lib.hid fun W v1 v2 hW t1 t2 => ⟨v1, v2, by rw [hcut.2.1], by rw [hcut.1]; exact t1, by rw [hcut.2.2]; exact t2, hW⟩
        clear hcells x1 x2 hj hcut hcb
        go_wp2_with (go_at_call 46; refine (hC _).mono ?_; rintro e w' ⟨rfl, rfl⟩)
        go_quiet (fail)
        have hBd := below_drewN (hB1 (.cells #[.int .i64 L[i].k, .string (str L[i].t)] TT)) nq
        have hTd : Tk _ _ _ _ := Rg.keep hT fun b hb => hBd.block b (hP b hb)
        go_wp2_with fail
        · exact bodyPost_ret (v := .tuple #[.slice (some ⟨b, o, none⟩) i c, .int .i64 L[i].k, .slice (some ⟨b, o, none⟩) (L.length - (i + 1)) (c - (i + 1))]) (by simp [results, Tryz.results22, go_sem]; omega) rfl (HF.out _ _ _ hBd (hTd.take hi) (hTd.drop hlt _ (.inl (by omega))))
        · exact bodyPost_ret (v := .tuple #[.slice (some ⟨b, o, none⟩) i c, .int .i64 L[i].k, .slice (some ⟨b, o + (i + 1) * 2, none⟩) (L.length - (i + 1)) (c - (i + 1))]) (by simp [results, Tryz.results22, go_sem]) rfl (HF.out _ _ _ hBd (hTd.take hi) (hTd.drop hlt _ (.inr rfl)))
      | false =>
        have hC := fun W => connects_any W (L[i].k : Int) false (Lib.hid (by rw [con_nat]; exact hcb))
        have HJ : Hid (∀ j (h : j < L.length), j < i + 1 → Pp.conB L[j].k = false) := Lib.hid fun j h1 h2 => by
          rcases Nat.lt_or_ge j i with h3 | h3
          · exact hj j h1 h3
          · obtain rfl : j = i := by omega
            exact hcb
        clear hcells x1 x2 hj hcb
        go_wp2_with (go_at_call 46; refine (hC _).mono ?_; rintro e w' ⟨rfl, rfl⟩)
        go_roundw
        case rel => exact ⟨i + 1, by go_num, hlt, HJ.out, hB1 _⟩
        case measure => simp [intOf]; omega
    · obtain rfl : i = L.length := by omega
      have hcut := Pp.cut_none fun j h => hj j h h
      have HF : Hid (CutPost w P L (.returned (.tuple #[.slice a L.length c, .int .i64 1, .slice none 0 0])) wr) := Lib.hid ⟨_, _, by rw [hcut.2.1]; rfl, by rw [hcut.1]; exact Rg.keep hT fun b hb => hB.block b (hP b hb), by rw [hcut.2.2]; exact Rg.nil _ _ _ _ _, hB⟩
      clear hj hcut
      go_wp2_with fail
      exact bodyPost_ret (v := .tuple #[.slice a L.length c, .int .i64 1, .slice none 0 0]) (by simp [results, Tryz.results22, go_sem]) rfl HF.out
end Go.Proofs.YteommneijlelkaaGreatDoor.Px
namespace Go.Proofs.YteommneijlelkaaGreatDoor.Px
open Go.RowKit Go.Proofs.YteommneijlelkaaGreatDoor Go.Proofs.YteommneijlelkaaGreatDoor.Lx
set_option maxRecDepth 100000

/-- A command that is being made: its box at block b, its rows above. -/
structure CAt (w : World) (b lo : Nat) (T TG : TypeId) (c : Pp.C) (vw vt : Value) : Prop where
  box : w.heap[b]? = some (.cells #[.int .i64 c.on, vw, vt] T (0, 0))
  rw_ : w.ownsRow lo SS 1 vw c.ws.length (strsC c.ws)
  rt : w.ownsRow lo TG 2 vt c.to.length (tgsC c.to)
theorem own_keep {w w' : World} {base : Nat} {e : TypeId} {z : Nat} {v : Value} {n : Nat} {xs : List Value} (h : w.ownsRow base e z v n xs) (hv : ∀ b, v.ownBlock = some b → w'.heap[b]? = w.heap[b]?) : w'.ownsRow base e z v n xs := by
  refine ⟨h.1, ?_⟩
  rcases h.2 with h | ⟨g, cap, cur, rfl, h2, h3, h4⟩
  · exact .inl h
  · exact .inr ⟨g, cap, cur, rfl, h2, (hv g rfl).trans h3, h4⟩
/-- Rows of elements of two types are two. -/
theorem own_apart {w : World} {lo lo' : Nat} {e e' : TypeId} {z z' n n' : Nat} {v v' : Value} {xs ys : List Value} (h : w.ownsRow lo e z v n xs) (h' : w.ownsRow lo' e' z' v' n' ys) (he : e ≠ e') : ∀ b, v.ownBlock = some b → v'.ownBlock ≠ some b := by
  intro b hb hb'
  rcases h.2 with ⟨rfl, _⟩ | ⟨g, cap, cur, rfl, _, h3, _⟩
  · cases hb
  · rcases h'.2 with ⟨rfl, _⟩ | ⟨g', cap', cur', rfl, _, h3', _⟩
    · cases hb'
    · cases hb
      cases hb'
      rw [h3] at h3'
      cases h3'
      exact he rfl
section
variable {w w' : World} {b lo : Nat} {T TG : TypeId} {c : Pp.C} {vw vt : Value}
theorem CAt.lt (h : CAt w b lo T TG c vw vt) : b < w.heap.size := (Array.getElem?_eq_some_iff.1 h.box).1
theorem CAt.below (h : CAt w b lo T TG c vw vt) (hb : Below w.heap.size w w') : CAt w' b lo T TG c vw vt :=
  ⟨(hb.block b h.lt).trans h.box, owns_below h.rw_ hb, owns_below h.rt hb⟩
theorem CAt.alloc (h : CAt w b lo T TG c vw vt) (o : Obj) : CAt (w.alloc o) b lo T TG c vw vt := h.below ((Below.refl _ _).alloc (Nat.le_refl _) o)
theorem CAt.drew (h : CAt w b lo T TG c vw vt) : CAt w.drew b lo T TG c vw vt := h.below (Below.refl _ w).drew
theorem CAt.cells (h : CAt w b lo T TG c vw vt) : w.cell? ⟨b, 0, none⟩ = some (.int .i64 c.on) ∧ w.cell? ⟨b, 1, none⟩ = some vw ∧ w.cell? ⟨b, 2, none⟩ = some vt ∧ ∀ i, w.frozen? ⟨b, i, none⟩ = false :=
  ⟨cell_at h.box rfl, cell_at h.box rfl, cell_at h.box rfl, fun i => frozen_at h.box i⟩
/-- A row of the box has grown: what is known in that world. -/
structure Grown (w w' : World) (b : Nat) (c0 vw vt : Value) : Prop where
  below : Below b w w'
  box : ∃ T, w'.heap[b]? = some (.cells #[c0, vw, vt] T (0, 0))
theorem Grown.cells {c0 : Value} (h : Grown w w' b c0 vw vt) : w'.cell? ⟨b, 0, none⟩ = some c0 ∧ w'.cell? ⟨b, 1, none⟩ = some vw ∧ w'.cell? ⟨b, 2, none⟩ = some vt ∧ (∀ i, w'.frozen? ⟨b, i, none⟩ = false) ∧ b < w'.heap.size := by
  obtain ⟨T, H⟩ := h.box
  exact ⟨cell_at H rfl, cell_at H rfl, cell_at H rfl, fun i => frozen_at H i, (Array.getElem?_eq_some_iff.1 H).1⟩
theorem setCell_keep (w : World) (b i : Nat) (v : Value) {k : Nat} (h : k ≠ b) : (w.setCell ⟨b, i, none⟩ v).heap[k]? = w.heap[k]? := heap_setCell_other w ⟨b, i, none⟩ k v (fun e => h e)
/-- A word more. -/
theorem CAt.word (h : CAt w b lo T TG c vw vt) (hlo : b < lo) (hTG : SS ≠ TG) {nw : Value} {s : Bs} (ho : w'.ownsRow lo SS 1 nw (c.ws.length + 1) (strsC c.ws ++ [.string (str s)])) (hg : w.grownBy w' vw.ownBlock) :
    Grown w w' b (.int .i64 c.on) vw vt ∧ CAt (w'.setCell ⟨b, 1, none⟩ nw) b lo T TG (c.word s) nw vt ∧ Below b w (w'.setCell ⟨b, 1, none⟩ nw) := by
  have hbox : w'.heap[b]? = some (.cells #[.int .i64 c.on, vw, vt] T (0, 0)) := by
    refine (hg.block b h.lt fun e => ?_).trans h.box
    have := (h.rw_.lt b e.symm).1
    omega
  have hB : Below b w w' := (Below.refl b w).grown hg (by have := h.lt; omega) fun j e => by have := (h.rw_.lt j e).1; omega
  refine ⟨⟨hB, T, hbox⟩, ⟨?_, ?_, ?_⟩, hB.setCell (Nat.le_refl _) _⟩
  · rw [heap_set3 hbox]; rfl
  · show World.ownsRow _ _ _ _ _ (c.ws ++ [s]).length (strsC (c.ws ++ [s]))
    rw [List.length_append, strsC_snoc]
    exact owns_kept_cell ho hlo 1 _
  · refine own_keep h.rt fun g hg' => ?_
    have h1 := h.rt.lt g hg'
    rw [setCell_keep _ _ _ _ (by omega)]
    exact hg.block g h1.2 fun e => own_apart h.rw_ h.rt hTG g e.symm hg'
/-- A redirection more. -/
theorem CAt.redir (h : CAt w b lo T TG c vw vt) (hlo : b < lo) (hTG : SS ≠ TG) {nt : Value} {k : Int} {p : Bs} (ho : w'.ownsRow lo TG 2 nt (c.to.length + 1) (tgsC c.to ++ [.int .i64 k, .string (str p)])) (hg : w.grownBy w' vt.ownBlock) :
    Grown w w' b (.int .i64 c.on) vw vt ∧ CAt (w'.setCell ⟨b, 2, none⟩ nt) b lo T TG (c.redir k p) vw nt ∧ Below b w (w'.setCell ⟨b, 2, none⟩ nt) := by
  have hbox : w'.heap[b]? = some (.cells #[.int .i64 c.on, vw, vt] T (0, 0)) := by
    refine (hg.block b h.lt fun e => ?_).trans h.box
    have := (h.rt.lt b e.symm).1
    omega
  have hB : Below b w w' := (Below.refl b w).grown hg (by have := h.lt; omega) fun j e => by have := (h.rt.lt j e).1; omega
  refine ⟨⟨hB, T, hbox⟩, ⟨?_, ?_, ?_⟩, hB.setCell (Nat.le_refl _) _⟩
  · rw [heap_set3 hbox]; rfl
  · refine own_keep h.rw_ fun g hg' => ?_
    have h1 := h.rw_.lt g hg'
    rw [setCell_keep _ _ _ _ (by omega)]
    exact hg.block g h1.2 fun e => own_apart h.rt h.rw_ (Ne.symm hTG) g e.symm hg'
  · show World.ownsRow _ _ _ _ _ (c.to ++ [(⟨k, p⟩ : Pp.G)]).length (tgsC (c.to ++ [(⟨k, p⟩ : Pp.G)]))
    rw [List.length_append, tgsC_snoc]
    exact owns_kept_cell ho hlo 2 _
end

/-- What take returns. -/
def TakePost (w : World) (b : Nat) (c' : Pp.C) (n : Nat) (e : Ending) (w' : World) : Prop := e = .returned (.int .i64 n) ∧ (∃ vw vt, CAt w' b (b + 1) C1 G1 c' vw vt) ∧ Below b w w'

set_option maxHeartbeats 4000000 in
theorem take_word (w : World) (b : Nat) (c : Pp.C) (vw vt : Value) (a : Option Addr) (cp : Nat) (s : Bs) (r : List Lp.T) (hC : CAt w b (b + 1) C1 G1 c vw vt) (hT : Tk w (· < b) (.slice a (r.length + 1) cp) (⟨0, s⟩ :: r)) (hl : c.ws.length ≤ 100000) :
    Calls Tryz.prog 47 #[.pointer (some ⟨b, 0, none⟩), .slice a (r.length + 1) cp] w (TakePost w b (c.word s) 1) := by
  obtain ⟨i0, hi, hz0, hz1, hz2⟩ := info_parts infoS
  obtain ⟨b', o, rfl, hcp, hp, hcells⟩ := Tk.cells (L := ⟨0, s⟩ :: r) hT (by simp)
  obtain ⟨x1, x2⟩ := hcells 0 (by simp)
  simp only [Nat.zero_mul, Nat.add_zero, List.getElem_cons_zero] at x1 x2
  have hlt := hC.lt
  have hlt' : b' < w.heap.size := Nat.lt_trans hp hlt
  have hC1 := hC.alloc (.cells #[.int .i64 0, .string (str s)] TT)
  obtain ⟨q0, q1, q2, qz⟩ := hC1.cells
  have hC2 := fun o => (hC1.alloc o).drew
  clear hcells
  go_enter Tryz.func47, Tryz.ntmps47
  go_wp2_with fail
  go_region_law (refine step_append_own rfl _ _ 76 rfl (b + 1) SS i0 (.string ⟨#[]⟩) 1 16 Tryz.underlying76 hi hz0 hz1 hz2 rfl (by decide) vw c.ws.length (strsC c.ws) (by simp [go_sem]) (hC2 _).rw_ ⟨w.heap.size + 1, 0, none⟩ 1 1 [.string (str s)] (by simp [go_sem]) rfl (one_at _ (by simp) _ _) (by simp [Value.oneCell']) (by unfold maxLen; omega) (by omega) (by simp; omega) ?_; intro v1 w1 hown1 hgrow1 _; obtain ⟨a1, c1, rfl⟩ := owns_slice hown1; obtain ⟨g1, g2, g3⟩ := (hC2 _).word (s := s) (Nat.lt_succ_self b) (by decide) hown1 hgrow1; obtain ⟨z0, z1, z2, z3, z4⟩ := g1.cells)
  all_goals go_wp2_with fail
  all_goals go_ret
  all_goals exact ⟨rfl, ⟨_, _, g2⟩, ((((Below.refl b w).alloc (Nat.le_of_lt hlt) _).alloc (by simp; omega) _).drew).trans g3⟩

set_option maxHeartbeats 4000000 in
theorem take_redir (w : World) (b : Nat) (c : Pp.C) (vw vt : Value) (a : Option Addr) (cp k : Nat) (t s : Bs) (r : List Lp.T) (hk : k ≠ 0) (hC : CAt w b (b + 1) C1 G1 c vw vt) (hT : Tk w (· < b) (.slice a (r.length + 2) cp) (⟨k, t⟩ :: ⟨0, s⟩ :: r)) (hl : c.to.length ≤ 100000) (hr : r.length ≤ 100000) :
    Calls Tryz.prog 47 #[.pointer (some ⟨b, 0, none⟩), .slice a (r.length + 2) cp] w (TakePost w b (c.redir k s) 2) := by
  obtain ⟨i0, hi, hz0, hz1, hz2⟩ := info_parts infoG1
  obtain ⟨b', o, rfl, hcp, hp, hcells⟩ := Tk.cells (L := ⟨k, t⟩ :: ⟨0, s⟩ :: r) hT (by simp)
  obtain ⟨x1, x2⟩ := hcells 0 (by simp)
  obtain ⟨x3, x4⟩ := hcells 1 (by simp)
  simp only [Nat.zero_mul, Nat.add_zero, Nat.one_mul, List.getElem_cons_zero, List.getElem_cons_succ] at x1 x2 x3 x4
  have hlt := hC.lt
  have hlt' : b' < w.heap.size := Nat.lt_trans hp hlt
  have hC1 := hC.alloc (.cells #[.int .i64 k, .string (str t)] TT)
  obtain ⟨q0, q1, q2, qz⟩ := hC1.cells
  have hC2 := fun o => (hC1.alloc o).drew
  have hk0 : ((k : Int) == 0) = false := by rw [beq_eq_false_iff_ne]; omega
  have hlen : ¬ ((r.length : Int) + 2 < 2) := by omega
  have hlen2 : decide ((r.length : Int) + 2 < 2) = false := decide_eq_false hlen
  have i1 : (1 : Int) < (r.length : Int) + 2 := by omega
  clear hcells
  go_enter Tryz.func47, Tryz.ntmps47
  go_wp2_with fail
  go_region_law (refine step_append_own rfl _ _ 77 rfl (b + 1) G1 i0 (.agg #[.int .i64 0, .string ByteArray.empty]) 2 24 Tryz.underlying77 hi hz0 hz1 hz2 rfl (by decide) vt c.to.length (tgsC c.to) (by simp [go_sem]) (hC2 _).rt ⟨w.heap.size + 1, 0, none⟩ 1 1 [.int .i64 k, .string (str s)] (by simp [go_sem]) rfl (two_at _ (by simp) _ _ _) (by simp [Value.oneCell']) (by unfold maxLen; omega) (by omega) (by simp; omega) ?_; intro v1 w1 hown1 hgrow1 _; obtain ⟨a1, c1, rfl⟩ := owns_slice hown1; obtain ⟨g1, g2, g3⟩ := (hC2 _).redir (k := k) (p := s) (Nat.lt_succ_self b) (by decide) hown1 hgrow1; obtain ⟨z0, z1, z2, z3, z4⟩ := g1.cells)
  all_goals go_wp2_with fail
  all_goals go_ret
  all_goals exact ⟨rfl, ⟨_, _, g2⟩, ((((Below.refl b w).alloc (Nat.le_of_lt hlt) _).alloc (by simp; omega) _).drew).trans g3⟩

set_option maxHeartbeats 4000000 in
theorem take_bad (w : World) (b : Nat) (c : Pp.C) (vw vt : Value) (a : Option Addr) (cp k : Nat) (t : Bs) (r : List Lp.T) (hk : k ≠ 0) (hC : CAt w b (b + 1) C1 G1 c vw vt) (hT : Tk w (· < b) (.slice a (r.length + 1) cp) (⟨k, t⟩ :: r)) (hr : r.length ≤ 100000) (hu : ∀ (h : 0 < r.length), r[0].k ≠ 0) :
    Calls Tryz.prog 47 #[.pointer (some ⟨b, 0, none⟩), .slice a (r.length + 1) cp] w (TakePost w b c 0) := by
  obtain ⟨b', o, rfl, hcp, hp, hcells⟩ := Tk.cells (L := ⟨k, t⟩ :: r) hT (by simp)
  obtain ⟨x1, x2⟩ := hcells 0 (by simp)
  simp only [Nat.zero_mul, Nat.add_zero, List.getElem_cons_zero] at x1 x2
  have hlt := hC.lt
  have hlt' : b' < w.heap.size := Nat.lt_trans hp hlt
  have hk0 : ((k : Int) == 0) = false := by rw [beq_eq_false_iff_ne]; omega
  have HF := fun o => Lib.hid (show TakePost w b c 0 (.returned (.int .i64 0)) (w.alloc o) from ⟨rfl, ⟨_, _, hC.alloc o⟩, (Below.refl b w).alloc (Nat.le_of_lt hlt) _⟩)
  by_cases h0 : 0 < r.length
  · obtain ⟨x3, x4⟩ := hcells 1 (by simp; omega)
    simp only [Nat.one_mul, List.getElem_cons_succ] at x3 x4
    have hu0 : ((r[0].k : Int) != 0) = true := by have := hu h0; rw [bne_iff_ne]; omega
    have hlen : ¬ ((r.length : Int) + 1 < 2) := by omega
    have hlen2 : decide ((r.length : Int) + 1 < 2) = false := decide_eq_false hlen
    generalize r[0] = u at *
    clear hcells
    go_enter Tryz.func47, Tryz.ntmps47
    go_wp2_with fail
    go_ret
    exact (HF _).out
  · have hlen : ((r.length : Int) + 1 < 2) := by omega
    clear hcells
    go_enter Tryz.func47, Tryz.ntmps47
    go_wp2_with fail
    go_ret
    exact (HF _).out
end Go.Proofs.YteommneijlelkaaGreatDoor.Px
