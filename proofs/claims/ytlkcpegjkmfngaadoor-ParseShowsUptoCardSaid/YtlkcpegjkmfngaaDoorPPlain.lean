/-
  Package parse as plain functions: tokens as commands, commands as tokens. No program here.
-/
import Derived.Test.YtlkcpegjkmfngaaDoorLPlain
namespace Go.Proofs.YtlkcpegjkmfngaaDoor.Pp
abbrev Bs := List UInt8
abbrev T := Lp.T
/-- A redirection: its kind, its path. -/
structure G where
  k : Int
  p : Bs
deriving DecidableEq
/-- A command: the mark before it, its words, its redirections. -/
structure C where
  on : Int
  ws : List Bs
  to : List G
deriving DecidableEq

def newC (k : Int) : C := ⟨k, [], []⟩
def C.word (c : C) (t : Bs) : C := ⟨c.on, c.ws ++ [t], c.to⟩
def C.redir (c : C) (k : Int) (p : Bs) : C := ⟨c.on, c.ws, c.to ++ [⟨k, p⟩]⟩
/-- The commands that these tokens form, the first one begun already. -/
def goA : C → List T → Option (List C)
  | c, [] => if c.ws ≠ [] then some [c] else if c.to = [] ∧ c.on = 1 then some [] else none
  | c, t :: r =>
    if t.k = 0 then goA (c.word t.t) r
    else if 4 ≤ t.k then
      match r with
      | [] => none
      | u :: r' => if u.k = 0 then goA (c.redir t.k u.t) r' else none
    else if c.ws = [] then none else (goA (newC t.k) r).map (c :: ·)
def lineA (s : Bs) : Option (List C) := (Lp.tokA s).bind (goA (newC 1))

/-! The code's way: a command behind the other. -/
def conB (k : Nat) : Bool := k == 1 || (k == 2 || k == 3)
def pieceA (l : List T) : List T := l.takeWhile fun t => !conB t.k
def tailA (l : List T) : List T := l.dropWhile fun t => !conB t.k
def nextA (l : List T) : Nat := match tailA l with
  | [] => 1
  | t :: _ => t.k
def restA (l : List T) : List T := (tailA l).drop 1
def cmdA : C → List T → Option C
  | c, [] => if c.ws = [] then none else some c
  | c, t :: r =>
    if t.k = 0 then cmdA (c.word t.t) r
    else match r with
      | [] => none
      | u :: r' => if u.k = 0 then cmdA (c.redir t.k u.t) r' else none

theorem con_zero {k : Nat} (h : k = 0) : conB k = false := by subst h; rfl
theorem con_four {k : Nat} (h : 4 ≤ k) : conB k = false := by
  have h1 : ¬ k = 1 := by omega
  have h2 : ¬ k = 2 := by omega
  have h3 : ¬ k = 3 := by omega
  simp [conB, h1, h2, h3]
theorem con_mid {k : Nat} (h : ¬ k = 0) (h4 : ¬ 4 ≤ k) : conB k = true := by
  have : k = 1 ∨ k = 2 ∨ k = 3 := by omega
  rcases this with rfl | rfl | rfl <;> rfl
theorem piece_no {t : T} {r : List T} (h : conB t.k = false) : pieceA (t :: r) = t :: pieceA r ∧ tailA (t :: r) = tailA r := by simp [pieceA, tailA, h]
theorem piece_yes {t : T} {r : List T} (h : conB t.k = true) : pieceA (t :: r) = [] ∧ tailA (t :: r) = t :: r := by simp [pieceA, tailA, h]
theorem next_no {t : T} {r : List T} (h : conB t.k = false) : nextA (t :: r) = nextA r ∧ restA (t :: r) = restA r := by
  unfold nextA restA; rw [(piece_no h).2]; exact ⟨rfl, rfl⟩
theorem next_yes {t : T} {r : List T} (h : conB t.k = true) : nextA (t :: r) = t.k ∧ restA (t :: r) = r := by
  unfold nextA restA; rw [(piece_yes h).2]; exact ⟨rfl, rfl⟩

theorem go_cons (c : C) (t : T) (r : List T) : goA c (t :: r) = if t.k = 0 then goA (c.word t.t) r
    else if 4 ≤ t.k then
      match r with
      | [] => none
      | u :: r' => if u.k = 0 then goA (c.redir t.k u.t) r' else none
    else if c.ws = [] then none else (goA (newC t.k) r).map (c :: ·) := by
  conv => lhs; unfold goA
theorem cmd_cons (c : C) (t : T) (r : List T) : cmdA c (t :: r) = if t.k = 0 then cmdA (c.word t.t) r
    else match r with
      | [] => none
      | u :: r' => if u.k = 0 then cmdA (c.redir t.k u.t) r' else none := by
  conv => lhs; unfold cmdA

theorem go_cut : ∀ (n : Nat) (l : List T) (c : C), l.length ≤ n → (l ≠ [] ∨ c.ws ≠ [] ∨ c.to ≠ []) →
    goA c l = (cmdA c (pieceA l)).bind fun c' => (goA (newC (nextA l)) (restA l)).map (c' :: ·)
  | _, [], c, _, h => by
    have e : goA (newC (nextA [])) (restA []) = some [] := by simp [nextA, restA, tailA, goA, newC]
    rw [e]
    show (if c.ws ≠ [] then _ else if c.to = [] ∧ c.on = 1 then _ else _) = _
    by_cases hw : c.ws = []
    · have ht : c.to ≠ [] := by
        rcases h with h | h | h
        · exact absurd rfl h
        · exact absurd hw h
        · exact h
      simp [pieceA, cmdA, hw, ht]
    · simp [pieceA, cmdA, hw]
  | 0, t :: r, _, h, _ => by simp at h
  | n + 1, t :: r, c, hn, _ => by
    have hr : r.length ≤ n := by simpa using hn
    by_cases h0 : t.k = 0
    · have hc := con_zero h0
      rw [(next_no hc).1, (next_no hc).2, (piece_no hc).1]
      rw [go_cons c t r, cmd_cons c t, if_pos h0, if_pos h0]
      exact go_cut n r (c.word t.t) hr (.inr (.inl (by simp [C.word])))
    · by_cases h4 : 4 ≤ t.k
      · have hc := con_four h4
        rw [(next_no hc).1, (next_no hc).2, (piece_no hc).1]
        rw [go_cons c t r, cmd_cons c t, if_neg h0, if_pos h4, if_neg h0]
        match r, hr with
        | [], _ => simp [pieceA]
        | u :: r', hr =>
          have hr' : r'.length ≤ n := by simp at hr; omega
          by_cases hu : u.k = 0
          · have hcu := con_zero hu
            rw [(next_no hcu).1, (next_no hcu).2, (piece_no hcu).1]
            simp only [if_pos hu]
            exact go_cut n r' (c.redir t.k u.t) hr' (.inr (.inr (by simp [C.redir])))
          · simp only [if_neg hu]
            by_cases hcu : conB u.k = true
            · rw [(piece_yes hcu).1]; rfl
            · rw [(piece_no (by simpa using hcu)).1]
              simp only [if_neg hu]; rfl
      · have hc := con_mid h0 h4
        rw [(next_yes hc).1, (next_yes hc).2, (piece_yes hc).1]
        rw [go_cons c t r, if_neg h0, if_neg h4]
        show _ = (if c.ws = [] then none else some c).bind _
        by_cases hw : c.ws = []
        · rw [if_pos hw, if_pos hw]; rfl
        · rw [if_neg hw, if_neg hw]; rfl
theorem go_new (l : List T) (k : Int) (h : l ≠ []) : goA (newC k) l = (cmdA (newC k) (pieceA l)).bind fun c' => (goA (newC (nextA l)) (restA l)).map (c' :: ·) := go_cut _ l _ (Nat.le_refl _) (.inl h)
theorem go_nil (k : Int) : goA (newC k) [] = if k = 1 then some [] else none := by simp [goA, newC]
theorem rest_len {l : List T} (h : l ≠ []) : (restA l).length < l.length := by
  have h1 : (tailA l).length ≤ l.length := (List.dropWhile_suffix _).length_le
  unfold restA
  rw [List.length_drop]
  have : 0 < l.length := List.length_pos_iff.2 h
  omega
theorem cut_at {l : List T} {i : Nat} (h : i < l.length) (hj : ∀ j (h : j < l.length), j < i → conB l[j].k = false) (hi : conB l[i].k = true) :
    pieceA l = l.take i ∧ nextA l = l[i].k ∧ restA l = l.drop (i + 1) := by
  induction l generalizing i with
  | nil => cases h
  | cons t r ih =>
    cases i with
    | zero =>
      have hi' : conB t.k = true := hi
      exact ⟨(piece_yes hi').1, (next_yes hi').1, (next_yes hi').2⟩
    | succ i =>
      have h0 : conB t.k = false := hj 0 (by simp) (by omega)
      obtain ⟨a, b, c⟩ := ih (i := i) (by simpa using h) (fun j h1 h2 => by have := hj (j + 1) (by simpa using h1) (by omega); simpa using this) (by simpa using hi)
      refine ⟨?_, ?_, ?_⟩
      · rw [(piece_no h0).1, a]; rfl
      · rw [(next_no h0).1, b]; rfl
      · rw [(next_no h0).2, c]; rfl
theorem cut_none {l : List T} (hj : ∀ j (h : j < l.length), conB l[j].k = false) : pieceA l = l ∧ nextA l = 1 ∧ restA l = [] := by
  induction l with
  | nil => exact ⟨rfl, rfl, rfl⟩
  | cons t r ih =>
    have h0 : conB t.k = false := hj 0 (by simp)
    obtain ⟨a, b, c⟩ := ih fun j h => by have := hj (j + 1) (by simpa using h); simpa using this
    exact ⟨by rw [(piece_no h0).1, a], by rw [(next_no h0).1, b], by rw [(next_no h0).2, c]⟩

/-! Commands that are such as a line's; commands as tokens. -/
def redB (k : Int) : Bool := k == 4 || (k == 5 || k == 6)
def conI (k : Int) : Bool := k == 1 || (k == 2 || k == 3)
def C.okB (c : C) : Bool := c.to.all (fun g => redB g.k) && (conI c.on && !c.ws.isEmpty)
def rightA : List C → Bool
  | [] => true
  | c :: r => c.on == 1 && (c.okB && r.all C.okB)
def C.toks (c : C) : List T := c.ws.map (fun w => ⟨0, w⟩) ++ c.to.flatMap fun g => [⟨g.k.toNat, []⟩, ⟨0, g.p⟩]
def moreT (l : List C) : List T := l.flatMap fun c => ⟨c.on.toNat, []⟩ :: c.toks
def toksA : List C → List T
  | [] => []
  | c :: r => c.toks ++ moreT r

theorem red_is {k : Int} (h : redB k = true) : k = 4 ∨ k = 5 ∨ k = 6 := by simpa [redB, or_assoc] using h
theorem conI_is {k : Int} (h : conI k = true) : k = 1 ∨ k = 2 ∨ k = 3 := by simpa [conI, or_assoc] using h
theorem ok_is {c : C} (h : c.okB = true) : (∀ g ∈ c.to, redB g.k = true) ∧ conI c.on = true ∧ c.ws ≠ [] := by
  unfold C.okB at h
  rw [Bool.and_eq_true, Bool.and_eq_true, List.all_eq_true] at h
  refine ⟨h.1, h.2.1, ?_⟩
  have := h.2.2
  intro e
  rw [e] at this
  cases this
theorem ok_of {c : C} (h : (∀ g ∈ c.to, redB g.k = true) ∧ conI c.on = true ∧ c.ws ≠ []) : c.okB = true := by
  unfold C.okB
  rw [Bool.and_eq_true, Bool.and_eq_true, List.all_eq_true]
  refine ⟨h.1, h.2.1, ?_⟩
  cases hw : c.ws with
  | nil => exact absurd hw h.2.2
  | cons _ _ => rfl
theorem go_word (c : C) (t : Bs) (R : List T) : goA c (⟨0, t⟩ :: R) = goA (c.word t) R := by
  conv => lhs; unfold goA
  rw [if_pos rfl]
theorem go_redir (c : C) (g : G) (h : redB g.k = true) (R : List T) : goA c (⟨g.k.toNat, []⟩ :: ⟨0, g.p⟩ :: R) = goA (c.redir g.k g.p) R := by
  have h1 := red_is h
  have h2 : ((g.k.toNat : Nat) : Int) = g.k := by omega
  conv => lhs; unfold goA
  rw [if_neg (by simp; omega), if_pos (by simp; omega)]
  simp only [if_pos, h2]
theorem go_words : ∀ (ws : List Bs) (c : C) (R : List T), goA c (ws.map (fun w => ⟨0, w⟩) ++ R) = goA ⟨c.on, c.ws ++ ws, c.to⟩ R
  | [], c, R => by simp
  | w :: r, c, R => by
    show goA c (⟨0, w⟩ :: (r.map _ ++ R)) = _
    rw [go_word, go_words r]
    simp [C.word]
theorem go_redirs : ∀ (gs : List G) (c : C) (R : List T), (∀ g ∈ gs, redB g.k = true) → goA c ((gs.flatMap fun g => [⟨g.k.toNat, []⟩, ⟨0, g.p⟩]) ++ R) = goA ⟨c.on, c.ws, c.to ++ gs⟩ R
  | [], c, R, _ => by simp
  | g :: r, c, R, h => by
    show goA c (⟨g.k.toNat, []⟩ :: ⟨0, g.p⟩ :: ((r.flatMap _) ++ R)) = _
    rw [go_redir c g (h g (by simp)), go_redirs r _ _ fun x hx => h x (List.mem_cons_of_mem _ hx)]
    simp [C.redir]
theorem go_toks (c : C) (hc : c.okB = true) (R : List T) : goA (newC c.on) (c.toks ++ R) = goA c R := by
  unfold C.toks
  rw [List.append_assoc, go_words, go_redirs _ _ _ (ok_is hc).1]
  rfl
theorem go_more : ∀ (l : List C) (c : C), c.okB = true → l.all C.okB = true → goA c (moreT l) = some (c :: l)
  | [], c, hc, _ => by
    show goA c [] = _
    unfold goA
    rw [if_pos (ok_is hc).2.2]
  | d :: r, c, hc, h => by
    have hd : d.okB = true ∧ r.all C.okB = true := by simpa using h
    have hk := conI_is (ok_is hd.1).2.1
    show goA c (⟨d.on.toNat, []⟩ :: (d.toks ++ moreT r)) = _
    have e : ((d.on.toNat : Nat) : Int) = d.on := by omega
    conv => lhs; unfold goA
    rw [if_neg (by simp; omega), if_neg (by simp; omega), if_neg (ok_is hc).2.2]
    simp only
    rw [e, go_toks d hd.1, go_more r d hd.1 hd.2]
    rfl
theorem go_shown {l : List C} (h : rightA l = true) : goA (newC 1) (toksA l) = some l := by
  cases l with
  | nil => rfl
  | cons c r =>
    have hh : c.on = 1 ∧ c.okB = true ∧ r.all C.okB = true := by simpa [rightA] using h
    show goA (newC 1) (c.toks ++ moreT r) = _
    rw [← hh.1, go_toks c hh.2.1, go_more r c hh.2.1 hh.2.2]
theorem tok_fit_c {c : C} (hc : c.okB = true) : ∀ x ∈ c.toks, Lp.Fit x := by
  intro x hx
  unfold C.toks at hx
  rcases List.mem_append.1 hx with hx | hx
  · obtain ⟨w, _, rfl⟩ := List.mem_map.1 hx
    exact ⟨Nat.zero_le _, fun h => absurd rfl h⟩
  · obtain ⟨g, hg, hx⟩ := List.mem_flatMap.1 hx
    have hk := red_is ((ok_is hc).1 g hg)
    rcases List.mem_cons.1 hx with rfl | hx
    · exact ⟨by show g.k.toNat ≤ 6; omega, fun _ => rfl⟩
    · obtain rfl := List.mem_singleton.1 hx
      exact ⟨Nat.zero_le _, fun h => absurd rfl h⟩
theorem tok_fit_more {l : List C} (h : l.all C.okB = true) : ∀ x ∈ moreT l, Lp.Fit x := by
  intro x hx
  obtain ⟨c, hc, hx⟩ := List.mem_flatMap.1 hx
  have hok := List.all_eq_true.1 h c hc
  rcases List.mem_cons.1 hx with rfl | hx
  · have := conI_is (ok_is hok).2.1
    exact ⟨by show c.on.toNat ≤ 6; omega, fun _ => rfl⟩
  · exact tok_fit_c hok x hx
theorem tok_fit_all {l : List C} (h : rightA l = true) : ∀ x ∈ toksA l, Lp.Fit x := by
  cases l with
  | nil => intro x hx; cases hx
  | cons c r =>
    have hh : c.on = 1 ∧ c.okB = true ∧ r.all C.okB = true := by simpa [rightA] using h
    intro x hx
    rcases List.mem_append.1 hx with hx | hx
    · exact tok_fit_c hh.2.1 x hx
    · exact tok_fit_more hh.2.2 x hx
/-- What is shown is read as it was. -/
theorem line_shown {l : List C} (h : rightA l = true) : lineA (Lp.showA (toksA l)) = some l := by
  unfold lineA
  rw [Lp.tok_shows _ (tok_fit_all h)]
  exact go_shown h
/-- A command that has been begun out of a line's tokens. -/
def Beg (c : C) : Prop := (∀ g ∈ c.to, redB g.k = true) ∧ conI c.on = true
theorem go_ok : ∀ (n : Nat) (l : List T) (c : C) (L : List C), l.length ≤ n → (∀ x ∈ l, x.k ≤ 6) → Beg c → goA c l = some L → (L = [] ∨ ∃ d r, L = d :: r ∧ d.on = c.on) ∧ L.all C.okB = true
  | _, [], c, L, _, _, hb, h => by
    unfold goA at h
    split at h
    · rename_i hw
      cases h
      refine ⟨.inr ⟨_, _, rfl, rfl⟩, ?_⟩
      rw [List.all_cons, ok_of ⟨hb.1, hb.2, hw⟩]; rfl
    · split at h
      · cases h; exact ⟨.inl rfl, rfl⟩
      · cases h
  | 0, t :: r, _, _, h, _, _, _ => by simp at h
  | n + 1, t :: r, c, L, hn, hk, hb, h => by
    have hr : r.length ≤ n := by simpa using hn
    have hkr : ∀ x ∈ r, x.k ≤ 6 := fun x hx => hk x (List.mem_cons_of_mem _ hx)
    have hkt : t.k ≤ 6 := hk t (by simp)
    unfold goA at h
    split at h
    · exact go_ok n r (c.word t.t) L hr hkr ⟨hb.1, hb.2⟩ h
    · rename_i h0
      split at h
      · rename_i h4
        match r, hr, hkr, h with
        | [], _, _, h => cases h
        | u :: r', hr, hkr, h =>
          simp only at h
          split at h
          · refine go_ok n r' (c.redir t.k u.t) L (by simp at hr; omega) (fun x hx => hkr x (List.mem_cons_of_mem _ hx)) ⟨fun g hg => ?_, hb.2⟩ h
            rcases List.mem_append.1 hg with hg | hg
            · exact hb.1 g hg
            · obtain rfl := List.mem_singleton.1 hg
              have : t.k = 4 ∨ t.k = 5 ∨ t.k = 6 := by omega
              rcases this with e | e | e <;> simp [redB, e]
          · cases h
      · rename_i h4
        split at h
        · cases h
        · rename_i hw
          cases hg : goA (newC t.k) r with
          | none => rw [hg] at h; cases h
          | some M =>
            rw [hg] at h; cases h
            have hc : conI (t.k : Int) = true := by
              have : t.k = 1 ∨ t.k = 2 ∨ t.k = 3 := by omega
              rcases this with e | e | e <;> simp [conI, e]
            have := go_ok n r (newC t.k) M hr hkr ⟨fun g hg => (by cases hg), hc⟩ hg
            refine ⟨.inr ⟨_, _, rfl, rfl⟩, ?_⟩
            rw [List.all_cons, ok_of ⟨hb.1, hb.2, hw⟩, this.2]; rfl
theorem line_right {s : Bs} {L : List C} (h : lineA s = some L) : rightA L = true := by
  unfold lineA at h
  cases ht : Lp.tokA s with
  | none => rw [ht] at h; cases h
  | some l =>
    rw [ht] at h
    have hf : ∀ x ∈ l, Lp.Fit x := Lp.tok_fit (n := s.length) (s := s) ht
    obtain ⟨h1, h2⟩ := go_ok _ l (newC 1) L (Nat.le_refl _) (fun x hx => (hf x hx).1) ⟨fun g hg => (by cases hg), rfl⟩ h
    rcases h1 with rfl | ⟨d, r, rfl, hd⟩
    · rfl
    · have h3 : d.okB = true ∧ r.all C.okB = true := by simpa using h2
      have h4 : d.on = 1 := hd
      simp [rightA, h3.1, h4]
      simpa using h3.2

/-! Sizes. -/
def C.sumW (c : C) : Nat := (c.ws.map List.length).sum + (c.to.map (·.p.length)).sum
def C.num (c : C) : Nat := c.ws.length + c.to.length
def sumA (l : List C) : Nat := (l.map C.sumW).sum
def numA (l : List C) : Nat := (l.map C.num).sum
theorem sumT_app (a b : List T) : Lp.sumT (a ++ b) = Lp.sumT a + Lp.sumT b := by simp [Lp.sumT]
theorem toks_len (c : C) : c.toks.length ≤ 2 * c.num ∧ Lp.sumT c.toks = c.sumW := by
  unfold C.toks C.num C.sumW
  rw [sumT_app, List.length_append, List.length_map]
  have h1 : Lp.sumT (c.ws.map fun w => (⟨0, w⟩ : T)) = (c.ws.map List.length).sum := by simp [Lp.sumT, Function.comp_def]
  have h2 : ∀ gs : List G, (gs.flatMap fun g => [(⟨g.k.toNat, []⟩ : T), ⟨0, g.p⟩]).length = 2 * gs.length ∧ Lp.sumT (gs.flatMap fun g => [(⟨g.k.toNat, []⟩ : T), ⟨0, g.p⟩]) = (gs.map (·.p.length)).sum := by
    intro gs
    induction gs with
    | nil => exact ⟨rfl, rfl⟩
    | cons g r ih =>
      rw [List.flatMap_cons, List.length_append, sumT_app, ih.1, ih.2]
      constructor
      · simp; omega
      · simp [Lp.sumT]
  rw [h1, (h2 c.to).1, (h2 c.to).2]
  omega
theorem more_len (l : List C) : (moreT l).length ≤ l.length + 2 * numA l ∧ Lp.sumT (moreT l) = sumA l := by
  induction l with
  | nil => exact ⟨Nat.le_refl _, rfl⟩
  | cons c r ih =>
    have := toks_len c
    have e : moreT (c :: r) = ⟨c.on.toNat, []⟩ :: (c.toks ++ moreT r) := rfl
    have e2 : Lp.sumT (⟨c.on.toNat, []⟩ :: (c.toks ++ moreT r)) = Lp.sumT (c.toks ++ moreT r) := by simp [Lp.sumT]
    rw [e, e2, sumT_app, List.length_cons, List.length_append, List.length_cons]
    have h1 : numA (c :: r) = c.num + numA r := rfl
    have h2 : sumA (c :: r) = c.sumW + sumA r := rfl
    omega
theorem toksA_len (l : List C) : (toksA l).length ≤ l.length + 2 * numA l ∧ Lp.sumT (toksA l) = sumA l := by
  cases l with
  | nil => exact ⟨Nat.le_refl _, rfl⟩
  | cons c r =>
    have h1 : numA (c :: r) = c.num + numA r := rfl
    have h2 : sumA (c :: r) = c.sumW + sumA r := rfl
    have := toks_len c
    have := more_len r
    show (c.toks ++ moreT r).length ≤ _ ∧ Lp.sumT (c.toks ++ moreT r) = _
    rw [sumT_app, List.length_append, List.length_cons]
    omega
theorem go_size : ∀ (n : Nat) (l : List T) (c : C) (L : List C), l.length ≤ n → goA c l = some L → L.length ≤ l.length + 1 ∧ numA L ≤ c.num + l.length ∧ sumA L ≤ c.sumW + Lp.sumT l
  | _, [], c, L, _, h => by
    unfold goA at h
    split at h
    · cases h
      refine ⟨by simp, ?_, ?_⟩
      · show c.num + 0 ≤ _; omega
      · show c.sumW + 0 ≤ _; omega
    · split at h
      · cases h; exact ⟨by simp, Nat.zero_le _, Nat.zero_le _⟩
      · cases h
  | 0, t :: r, _, _, h, _ => by simp at h
  | n + 1, t :: r, c, L, hn, h => by
    have hr : r.length ≤ n := by simpa using hn
    have es : Lp.sumT (t :: r) = t.t.length + Lp.sumT r := by simp [Lp.sumT]
    unfold goA at h
    split at h
    · have := go_size n r (c.word t.t) L hr h
      have e1 : (c.word t.t).num = c.num + 1 := by simp [C.num, C.word]; omega
      have e2 : (c.word t.t).sumW = c.sumW + t.t.length := by simp [C.sumW, C.word]; omega
      rw [List.length_cons]
      omega
    · split at h
      · match r, hr, es, h with
        | [], _, _, h => cases h
        | u :: r', hr, es, h =>
          simp only at h
          split at h
          · have := go_size n r' (c.redir t.k u.t) L (by simp at hr; omega) h
            have e1 : (c.redir t.k u.t).num = c.num + 1 := by simp [C.num, C.redir]; omega
            have e2 : (c.redir t.k u.t).sumW = c.sumW + u.t.length := by simp [C.sumW, C.redir]; omega
            have e3 : Lp.sumT (u :: r') = u.t.length + Lp.sumT r' := by simp [Lp.sumT]
            rw [List.length_cons, List.length_cons]
            omega
          · cases h
      · split at h
        · cases h
        · cases hg : goA (newC t.k) r with
          | none => rw [hg] at h; cases h
          | some M =>
            rw [hg] at h; cases h
            have := go_size n r (newC t.k) M hr hg
            have e1 : (newC (t.k : Int)).num = 0 := rfl
            have e2 : (newC (t.k : Int)).sumW = 0 := rfl
            have e3 : numA (c :: M) = c.num + numA M := rfl
            have e4 : sumA (c :: M) = c.sumW + sumA M := rfl
            have e5 : (c :: M).length = M.length + 1 := rfl
            have e6 : (t :: r).length = r.length + 1 := rfl
            show (c :: M).length ≤ _ ∧ numA (c :: M) ≤ _ ∧ sumA (c :: M) ≤ _
            omega
theorem line_size {s : Bs} {L : List C} (h : lineA s = some L) : L.length ≤ s.length + 1 ∧ numA L ≤ s.length ∧ sumA L ≤ s.length := by
  unfold lineA at h
  cases ht : Lp.tokA s with
  | none => rw [ht] at h; cases h
  | some l =>
    rw [ht] at h
    have h1 := Lp.tok_len ht
    have h2 := go_size _ l (newC 1) L (Nat.le_refl _) h
    have e1 : (newC 1).num = 0 := rfl
    have e2 : (newC 1).sumW = 0 := rfl
    omega
theorem show_size {l : List C} : (Lp.showA (toksA l)).length ≤ 4 * sumA l + 3 * (l.length + 2 * numA l) := by
  have h1 := Lp.show_len (toksA l)
  have h2 := toksA_len l
  omega
theorem num_mem {l : List C} {c : C} (h : c ∈ l) : c.num ≤ numA l ∧ c.sumW ≤ sumA l := by
  induction l with
  | nil => cases h
  | cons d r ih =>
    have e1 : numA (d :: r) = d.num + numA r := rfl
    have e2 : sumA (d :: r) = d.sumW + sumA r := rfl
    rcases List.mem_cons.1 h with rfl | h
    · omega
    · have := ih h; omega
end Go.Proofs.YtlkcpegjkmfngaaDoor.Pp
