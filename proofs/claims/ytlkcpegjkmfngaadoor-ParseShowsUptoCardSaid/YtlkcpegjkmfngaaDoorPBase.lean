/-
  Commands in memory: slices that read as cells, commands and lists of them; what an append leaves of them; append as one step of a statement whose order is open.
-/
import Derived.Deep.RegionLaw
import Derived.Deep.OwnRows
import Derived.Maps.AppendAt
import Derived.Test.YtlkcpegjkmfngaaDoorLCells
import Derived.Test.YtlkcpegjkmfngaaDoorPPlain
namespace Go.Proofs.YtlkcpegjkmfngaaDoor.Px
open Go.RowKit Go.Proofs.YtlkcpegjkmfngaaDoor Go.Proofs.YtlkcpegjkmfngaaDoor.Lx
set_option maxRecDepth 100000
abbrev Bs := List UInt8

/-- The slice value v reads as n elements, whose cells are xs; they lie in a block of which P holds. -/
def Rg (w : World) (P : Nat → Prop) (v : Value) (n : Nat) (xs : List Value) : Prop :=
  ∃ a c, v = .slice a n c ∧ n ≤ c ∧ (n = 0 ∨ ∃ b o, a = some ⟨b, o, none⟩ ∧ P b ∧ ∀ j u, xs[j]? = some u → w.cell? ⟨b, o + j, none⟩ = some u)
section
variable {w w' : World} {P Q : Nat → Prop} {v : Value} {n : Nat} {xs : List Value}
theorem Rg.keep (h : Rg w P v n xs) (hk : ∀ b, P b → w'.heap[b]? = w.heap[b]?) : Rg w' P v n xs := by
  obtain ⟨a, c, hv, hc, h⟩ := h
  refine ⟨a, c, hv, hc, h.imp id ?_⟩
  rintro ⟨b, o, ha, hb, hx⟩
  exact ⟨b, o, ha, hb, fun j u hj => (World.cell?_of_block (a := ⟨b, o + j, none⟩) (hk b hb)).trans (hx j u hj)⟩
theorem Rg.more (h : Rg w P v n xs) (hk : ∀ b, P b → Q b) : Rg w Q v n xs := by
  obtain ⟨a, c, hv, hc, h⟩ := h
  refine ⟨a, c, hv, hc, h.imp id ?_⟩
  rintro ⟨b, o, ha, hb, hx⟩
  exact ⟨b, o, ha, hk b hb, hx⟩
theorem Rg.below {B : Nat} (h : Rg w (· < B) v n xs) (hb : Below B w w') : Rg w' (· < B) v n xs := h.keep fun b hp => hb.block b hp
theorem Rg.nil (w : World) (P : Nat → Prop) (a : Option Addr) (c : Nat) (xs : List Value) : Rg w P (.slice a 0 c) 0 xs := ⟨a, c, rfl, Nat.zero_le _, .inl rfl⟩
theorem Rg.of_own {base : Nat} {e : TypeId} {z : Nat} (h : w.ownsRow base e z v n xs) : Rg w (fun b => base ≤ b ∧ b < w.heap.size ∧ v.ownBlock = some b) v n xs := by
  have h0 := h
  obtain ⟨hl, h'⟩ := h
  rcases h' with ⟨rfl, rfl⟩ | ⟨g, cap, cur, rfl, hb, hg, hn, hc, hs, ht⟩
  · exact Rg.nil _ _ _ _ _
  · refine ⟨_, cap, rfl, hn, .inr ⟨g, 0, rfl, ⟨hb, (Array.getElem?_eq_some_iff.1 hg).1, rfl⟩, fun j u hj => ?_⟩⟩
    have := h0.cells (g := g) rfl j u hj
    simpa [Addr.add_lit] using this
theorem Rg.shape (h : Rg w P v n xs) : ∃ a c, v = .slice a n c ∧ n ≤ c := by
  obtain ⟨a, c, hv, hc, _⟩ := h
  exact ⟨a, c, hv, hc⟩
theorem Rg.open_ (h : Rg w P v n xs) (hn : 0 < n) : ∃ b o c, v = .slice (some ⟨b, o, none⟩) n c ∧ n ≤ c ∧ P b ∧ ∀ j u, xs[j]? = some u → w.cell? ⟨b, o + j, none⟩ = some u := by
  obtain ⟨a, c, hv, hc, h⟩ := h
  rcases h with h | ⟨b, o, rfl, hb, hx⟩
  · omega
  · exact ⟨b, o, c, hv, hc, hb, hx⟩
/-- What lies in the slice's own cells. -/
theorem Rg.at_ {a : Option Addr} {c : Nat} (h : Rg w P (.slice a n c) n xs) (hn : 0 < n) : ∃ b o, a = some ⟨b, o, none⟩ ∧ n ≤ c ∧ P b ∧ ∀ j u, xs[j]? = some u → w.cell? ⟨b, o + j, none⟩ = some u := by
  obtain ⟨b, o, c', hv, hc, hp, hx⟩ := h.open_ hn
  cases hv
  exact ⟨b, o, rfl, hc, hp, hx⟩
end

/-! Cells of texts, redirections, commands. -/
def strsC (l : List Bs) : List Value := l.map fun s => Value.string (str s)
theorem strsC_len (l : List Bs) : (strsC l).length = l.length := by simp [strsC]
theorem strsC_get {l : List Bs} {j : Nat} (h : j < l.length) : (strsC l)[j]? = some (.string (str l[j])) := by simp [strsC, h]
theorem strsC_snoc (l : List Bs) (s : Bs) : strsC (l ++ [s]) = strsC l ++ [.string (str s)] := by simp [strsC]
def tgC (g : Pp.G) : List Value := [.int .i64 g.k, .string (str g.p)]
def tgsC (l : List Pp.G) : List Value := l.flatMap tgC
theorem tgsC_snoc (l : List Pp.G) (x : Pp.G) : tgsC (l ++ [x]) = tgsC l ++ [.int .i64 x.k, .string (str x.p)] := by simp [tgsC, tgC]
theorem tgsC_get {l : List Pp.G} {k : Nat} (h : k < l.length) : (tgsC l)[k * 2]? = some (.int .i64 l[k].k) ∧ (tgsC l)[k * 2 + 1]? = some (.string (str l[k].p)) := by
  induction l generalizing k with
  | nil => cases h
  | cons x r ih =>
    cases k with
    | zero => exact ⟨rfl, rfl⟩
    | succ k =>
      have := ih (k := k) (by simpa using h)
      show (tgC x ++ tgsC r)[(k + 1) * 2]? = _ ∧ (tgC x ++ tgsC r)[(k + 1) * 2 + 1]? = _
      rw [List.getElem?_append_right (by show 2 ≤ _; omega), List.getElem?_append_right (by show 2 ≤ _; omega)]
      have e1 : (k + 1) * 2 - (tgC x).length = k * 2 := by show (k + 1) * 2 - 2 = _; omega
      have e2 : (k + 1) * 2 + 1 - (tgC x).length = k * 2 + 1 := by show (k + 1) * 2 + 1 - 2 = _; omega
      rw [e1, e2]
      exact this
/-- A command, and the two slices that stand in its cells. -/
structure CV where
  c : Pp.C
  vw : Value
  vt : Value
def cvC (x : CV) : List Value := [.int .i64 x.c.on, x.vw, x.vt]
def cvsC (l : List CV) : List Value := l.flatMap cvC
theorem cvsC_snoc (l : List CV) (x : CV) : cvsC (l ++ [x]) = cvsC l ++ [.int .i64 x.c.on, x.vw, x.vt] := by simp [cvsC, cvC]
theorem cvsC_get {l : List CV} {k : Nat} (h : k < l.length) : (cvsC l)[k * 3]? = some (.int .i64 l[k].c.on) ∧ (cvsC l)[k * 3 + 1]? = some l[k].vw ∧ (cvsC l)[k * 3 + 2]? = some l[k].vt := by
  induction l generalizing k with
  | nil => cases h
  | cons x r ih =>
    cases k with
    | zero => exact ⟨rfl, rfl, rfl⟩
    | succ k =>
      have := ih (k := k) (by simpa using h)
      show (cvC x ++ cvsC r)[(k + 1) * 3]? = _ ∧ (cvC x ++ cvsC r)[(k + 1) * 3 + 1]? = _ ∧ (cvC x ++ cvsC r)[(k + 1) * 3 + 2]? = _
      rw [List.getElem?_append_right (by show 3 ≤ _; omega), List.getElem?_append_right (by show 3 ≤ _; omega), List.getElem?_append_right (by show 3 ≤ _; omega)]
      have e1 : (k + 1) * 3 - (cvC x).length = k * 3 := by show (k + 1) * 3 - 3 = _; omega
      have e2 : (k + 1) * 3 + 1 - (cvC x).length = k * 3 + 1 := by show (k + 1) * 3 + 1 - 3 = _; omega
      have e3 : (k + 1) * 3 + 2 - (cvC x).length = k * 3 + 2 := by show (k + 1) * 3 + 2 - 3 = _; omega
      rw [e1, e2, e3]
      exact this
/-- The command's slices read as its words and its redirections. -/
def In (w : World) (P : Nat → Prop) (x : CV) : Prop := Rg w P x.vw x.c.ws.length (strsC x.c.ws) ∧ Rg w P x.vt x.c.to.length (tgsC x.c.to)
theorem In.keep {w w' : World} {P : Nat → Prop} {x : CV} (h : In w P x) (hk : ∀ b, P b → w'.heap[b]? = w.heap[b]?) : In w' P x := ⟨h.1.keep hk, h.2.keep hk⟩
theorem In.more {w : World} {P Q : Nat → Prop} {x : CV} (h : In w P x) (hk : ∀ b, P b → Q b) : In w Q x := ⟨h.1.more hk, h.2.more hk⟩
/-- A slice of commands that are read. -/
def Cs (w : World) (P : Nat → Prop) (v : Value) (X : List CV) : Prop := Rg w P v X.length (cvsC X) ∧ ∀ x ∈ X, In w P x
theorem Cs.keep {w w' : World} {P : Nat → Prop} {v : Value} {X : List CV} (h : Cs w P v X) (hk : ∀ b, P b → w'.heap[b]? = w.heap[b]?) : Cs w' P v X := ⟨h.1.keep hk, fun x hx => (h.2 x hx).keep hk⟩
theorem Cs.more {w : World} {P Q : Nat → Prop} {v : Value} {X : List CV} (h : Cs w P v X) (hk : ∀ b, P b → Q b) : Cs w Q v X := ⟨h.1.more hk, fun x hx => (h.2 x hx).more hk⟩
theorem Cs.below {w w' : World} {B : Nat} {v : Value} {X : List CV} (h : Cs w (· < B) v X) (hb : Below B w w') : Cs w' (· < B) v X := h.keep fun b hp => hb.block b hp
theorem Cs.grow {w w' : World} {v : Value} {X : List CV} (h : Cs w (· < w.heap.size) v X) (hb : Below w.heap.size w w') : Cs w' (· < w'.heap.size) v X := (h.below hb).more fun _ hp => Nat.lt_of_lt_of_le hp hb.size
theorem cs_in2 {w : World} {P : Nat → Prop} {v : Value} {X : List CV} (h : Cs w P v X) {k : Nat} (hk : k < X.length) : In w P X[k] := h.2 _ (List.getElem_mem hk)
/-- Command k of a slice of commands. -/
theorem Cs.cells {w : World} {P : Nat → Prop} {a : Option Addr} {c : Nat} {X : List CV} (h : Cs w P (.slice a X.length c) X) (hn : 0 < X.length) : ∃ b o, a = some ⟨b, o, none⟩ ∧ X.length ≤ c ∧ P b ∧
    ∀ k (hk : k < X.length), w.cell? ⟨b, o + k * 3, none⟩ = some (.int .i64 X[k].c.on) ∧ w.cell? ⟨b, o + k * 3 + 1, none⟩ = some X[k].vw ∧ w.cell? ⟨b, o + k * 3 + 2, none⟩ = some X[k].vt := by
  obtain ⟨b, o, ha, hc, hp, hx⟩ := h.1.at_ hn
  refine ⟨b, o, ha, hc, hp, fun k hk => ?_⟩
  obtain ⟨h1, h2, h3⟩ := cvsC_get hk
  exact ⟨hx _ _ h1, hx _ _ h2, hx _ _ h3⟩
theorem tos_cells {w : World} {P : Nat → Prop} {a : Option Addr} {c : Nat} {l : List Pp.G} (h : Rg w P (.slice a l.length c) l.length (tgsC l)) (hn : 0 < l.length) : ∃ b o, a = some ⟨b, o, none⟩ ∧ l.length ≤ c ∧ P b ∧
    ∀ k (hk : k < l.length), w.cell? ⟨b, o + k * 2, none⟩ = some (.int .i64 l[k].k) ∧ w.cell? ⟨b, o + k * 2 + 1, none⟩ = some (.string (str l[k].p)) := by
  obtain ⟨b, o, ha, hc, hp, hx⟩ := h.at_ hn
  refine ⟨b, o, ha, hc, hp, fun k hk => ?_⟩
  obtain ⟨h1, h2⟩ := tgsC_get hk
  exact ⟨hx _ _ h1, hx _ _ h2⟩
theorem strs_cells {w : World} {P : Nat → Prop} {a : Option Addr} {c : Nat} {l : List Bs} (h : Rg w P (.slice a l.length c) l.length (strsC l)) (hn : 0 < l.length) : ∃ b o, a = some ⟨b, o, none⟩ ∧ l.length ≤ c ∧ P b ∧
    ∀ k (hk : k < l.length), w.cell? ⟨b, o + k, none⟩ = some (.string (str l[k])) := by
  obtain ⟨b, o, ha, hc, hp, hx⟩ := h.at_ hn
  exact ⟨b, o, ha, hc, hp, fun k hk => hx _ _ (strsC_get hk)⟩
/-- Tokens that are read. -/
def Tk (w : World) (P : Nat → Prop) (v : Value) (L : List Lp.T) : Prop := Rg w P v L.length (tsC L)
theorem Tk.cells {w : World} {P : Nat → Prop} {a : Option Addr} {c : Nat} {L : List Lp.T} (h : Tk w P (.slice a L.length c) L) (hn : 0 < L.length) : ∃ b o, a = some ⟨b, o, none⟩ ∧ L.length ≤ c ∧ P b ∧
    ∀ k (hk : k < L.length), w.cell? ⟨b, o + k * 2, none⟩ = some (.int .i64 L[k].k) ∧ w.cell? ⟨b, o + k * 2 + 1, none⟩ = some (.string (str L[k].t)) := by
  obtain ⟨b, o, ha, hc, hp, hx⟩ := Rg.at_ h hn
  refine ⟨b, o, ha, hc, hp, fun k hk => ?_⟩
  obtain ⟨h1, h2⟩ := tsC_get hk
  exact ⟨hx _ _ h1, hx _ _ h2⟩
theorem tsC_take (L : List Lp.T) (k : Nat) : tsC (L.take k) = (tsC L).take (k * 2) := by
  induction L generalizing k with
  | nil => simp [tsC]
  | cons x r ih =>
    cases k with
    | zero => simp [tsC]
    | succ k =>
      have e : (k + 1) * 2 = k * 2 + 1 + 1 := by omega
      rw [List.take_succ_cons, e]
      show tC x ++ tsC (r.take k) = ((tC x) ++ tsC r).take _
      rw [ih]; rfl
theorem tsC_drop (L : List Lp.T) (k : Nat) : tsC (L.drop k) = (tsC L).drop (k * 2) := by
  induction L generalizing k with
  | nil => simp [tsC]
  | cons x r ih =>
    cases k with
    | zero => simp [tsC]
    | succ k =>
      have e : (k + 1) * 2 = k * 2 + 1 + 1 := by omega
      rw [List.drop_succ_cons, e]
      show tsC (r.drop k) = ((tC x) ++ tsC r).drop _
      rw [ih]; rfl
theorem Tk.take {w : World} {P : Nat → Prop} {a : Option Addr} {c : Nat} {L : List Lp.T} (h : Tk w P (.slice a L.length c) L) {k : Nat} (hk : k ≤ L.length) : Tk w P (.slice a k c) (L.take k) := by
  obtain ⟨a', c', hv, hc, h⟩ := h
  cases hv
  have e : (L.take k).length = k := by rw [List.length_take]; omega
  refine ⟨a, c, by rw [e], by omega, ?_⟩
  rw [e]
  rcases h with h | ⟨b, o, ha, hp, hx⟩
  · left; omega
  · refine .inr ⟨b, o, ha, hp, fun j u hj => hx j u ?_⟩
    rw [tsC_take, List.getElem?_take] at hj
    split at hj
    · exact hj
    · cases hj
theorem Tk.drop {w : World} {P : Nat → Prop} {b o c : Nat} {L : List Lp.T} (h : Tk w P (.slice (some ⟨b, o, none⟩) L.length c) L) {k : Nat} (hk : k ≤ L.length) (a : Option Addr) (ha : k = c ∨ a = some ⟨b, o + k * 2, none⟩) : Tk w P (.slice a (L.length - k) (c - k)) (L.drop k) := by
  obtain ⟨a', c', hv, hc, h⟩ := h
  cases hv
  refine ⟨a, c - k, by rw [List.length_drop], by rw [List.length_drop]; omega, ?_⟩
  rw [List.length_drop]
  rcases h with h | ⟨b', o', ha', hp, hx⟩
  · left; omega
  · cases ha'
    rcases ha with h1 | h1
    · left; omega
    · refine .inr ⟨b, o + k * 2, h1, hp, fun j u hj => ?_⟩
      rw [tsC_drop, List.getElem?_drop] at hj
      rw [Nat.add_assoc]
      exact hx _ u hj

/-! Lists of commands that grow. -/
/-- A row of commands of the call's own; what the commands hold lies in other blocks, of which P holds. -/
def Bd (w : World) (lo : Nat) (T : TypeId) (P : Nat → Prop) (v : Value) (X : List CV) : Prop :=
  w.ownsRow lo T 3 v X.length (cvsC X) ∧ ∀ x ∈ X, In w (fun b => P b ∧ b < w.heap.size ∧ some b ≠ v.ownBlock) x
theorem Bd.nil (w : World) (lo : Nat) (T : TypeId) (P : Nat → Prop) : Bd w lo T P (.slice none 0 0) [] := ⟨World.ownsRow_nil _ _ _ _, fun x hx => by cases hx⟩
theorem Bd.cs {w : World} {lo : Nat} {T : TypeId} {P : Nat → Prop} {v : Value} {X : List CV} (h : Bd w lo T P v X) : Cs w (· < w.heap.size) v X :=
  ⟨(Rg.of_own h.1).more fun _ hb => hb.2.1, fun x hx => (h.2 x hx).more fun _ hb => hb.2.1⟩
theorem Bd.keep {w w' : World} {lo : Nat} {T : TypeId} {P : Nat → Prop} {v : Value} {X : List CV} (h : Bd w lo T P v X) (hs : w.heap.size ≤ w'.heap.size) (hk : ∀ b, P b → b < w.heap.size → w'.heap[b]? = w.heap[b]?) (hv : ∀ b, v.ownBlock = some b → w'.heap[b]? = w.heap[b]?) : Bd w' lo T P v X := by
  refine ⟨?_, fun x hx => ((h.2 x hx).keep fun b hb => hk b hb.1 hb.2.1).more fun b hb => ⟨hb.1, Nat.lt_of_lt_of_le hb.2.1 hs, hb.2.2⟩⟩
  refine ⟨h.1.1, ?_⟩
  rcases h.1.2 with h | ⟨g, cap, cur, rfl, h2, h3, h4⟩
  · exact .inl h
  · exact .inr ⟨g, cap, cur, rfl, h2, (hv g rfl).trans h3, h4⟩
theorem Bd.more {w : World} {lo : Nat} {T : TypeId} {P Q : Nat → Prop} {v : Value} {X : List CV} (h : Bd w lo T P v X) (hk : ∀ b, P b → b < w.heap.size → Q b) : Bd w lo T Q v X :=
  ⟨h.1, fun x hx => (h.2 x hx).more fun b hb => ⟨hk b hb.1 hb.2.1, hb.2⟩⟩
theorem Bd.below {w w' : World} {lo : Nat} {T : TypeId} {P : Nat → Prop} {v : Value} {X : List CV} (h : Bd w lo T P v X) (hb : Below w.heap.size w w') : Bd w' lo T P v X :=
  h.keep hb.size (fun b _ hl => hb.block b hl) fun b hv => hb.block b (by
    have := (h.1.lt b hv).2
    exact this)
theorem Bd.alloc {w : World} {lo : Nat} {T : TypeId} {P : Nat → Prop} {v : Value} {X : List CV} (h : Bd w lo T P v X) (o : Obj) : Bd (w.alloc o) lo T P v X := h.below ((Below.refl _ _).alloc (Nat.le_refl _) o)
/-- One more command. -/
theorem Bd.snoc {w w' : World} {lo : Nat} {T : TypeId} {P : Nat → Prop} {v v' : Value} {X : List CV} {x : CV} (h : Bd w lo T P v X) (hx : In w (fun b => P b ∧ b < w.heap.size ∧ some b ≠ v.ownBlock) x)
    (ho : w'.ownsRow lo T 3 v' (X.length + 1) (cvsC X ++ [.int .i64 x.c.on, x.vw, x.vt])) (hg : w.grownBy w' v.ownBlock) (hat : v'.ownBlock = v.ownBlock ∨ v'.ownBlock = some w.heap.size) : Bd w' lo T P v' (X ++ [x]) := by
  refine ⟨by rw [List.length_append, cvsC_snoc]; exact ho, fun y hy => ?_⟩
  have hy' : In w (fun b => P b ∧ b < w.heap.size ∧ some b ≠ v.ownBlock) y := by
    rcases List.mem_append.1 hy with hy | hy
    · exact h.2 y hy
    · rw [List.mem_singleton.1 hy]; exact hx
  refine (hy'.keep fun b hb => hg.block b hb.2.1 hb.2.2).more fun b hb => ⟨hb.1, Nat.lt_of_lt_of_le hb.2.1 hg.size, ?_⟩
  rcases hat with e | e
  · rw [e]; exact hb.2.2
  · rw [e]
    intro e
    cases e
    exact Nat.lt_irrefl _ hb.2.1
theorem three_at (W : World) {n : Nat} (hn : W.heap.size = n) (x y z : Value) (T : TypeId) : ∀ (j : Nat) (u : Value), [x, y, z][j]? = some u → (W.alloc (.cells #[x, y, z] T)).cell? ((⟨n, 0, none⟩ : Addr).add j) = some u := by
  subst hn
  intro j u hj
  rw [Addr.add_lit, World.cell?_alloc_at _ _ _ _ (by simp)]
  match j, hj with
  | 0, hj => simpa using hj
  | 1, hj => simpa using hj
  | 2, hj => simpa using hj
theorem one_at (W : World) {n : Nat} (hn : W.heap.size = n) (x : Value) (T : TypeId) : ∀ (j : Nat) (u : Value), [x][j]? = some u → (W.alloc (.cells #[x] T)).cell? ((⟨n, 0, none⟩ : Addr).add j) = some u := by
  subst hn
  intro j u hj
  rw [Addr.add_lit, World.cell?_alloc_at _ _ _ _ (by simp)]
  match j, hj with
  | 0, hj => simpa using hj
theorem own_shape {w : World} {base : Nat} {e : TypeId} {z : Nat} {v : Value} {n : Nat} {xs : List Value} (h : w.ownsRow base e z v n xs) : ∃ a c, v = .slice a n c := owns_slice h

/-- An append as one step of a statement whose order is open. -/
theorem step_append_own {P : Program} {ops : Array Oper} {o : Oper} {a : Act} {w : World} {K : Act → World → Prop} {Q : Exit → Act → World → Prop} {E : Prop} (hgd : o.guard = none) (s x : Operand) (t : TypeId)
    (ho : o.op = .call { callee := .builtin .append, args := #[s, x], argTypes := #[t, t] })
    (base : Nat) (e : TypeId) (i : TypeInfo) (z : Value) (size bytes : Nat) (ht : P.underlying t = some (.slice e)) (hi : P.info? e = some i) (hz : i.zero = some z)
    (hsize : i.size = size) (hby : i.bytes = bytes) (hzs : z.cells.size = size) (hsz : 0 < size)
    (v : Value) (n : Nat) (xs : List Value) (hs : a.eval s = v) (hown : w.ownsRow base e size v n xs) (ad : Addr) (m c : Nat) (news : List Value) (hx : a.eval x = .slice (some ad) m c) (hl : news.length = m * size)
    (hnews : ∀ j u, news[j]? = some u → w.cell? (ad.add j) = some u) (h1 : ∀ u ∈ news, u.oneCell' = true)
    (h63 : n + m ≤ maxLen) (hbytes : (n + m) * bytes ≤ 140737488355328) (hbase : base ≤ w.heap.size)
    (h : ∀ v' w', w'.ownsRow base e size v' (n + m) (xs ++ news) → w.grownBy w' v.ownBlock → (v'.ownBlock = v.ownBlock ∨ v'.ownBlock = some w.heap.size) → K (a.put o.dst v') w') :
    if Region.wanted o (yielded ops a.tmps) = true then Oper.wp P o a w K Q else E := by
  rw [if_pos (by simp [Region.wanted, hgd])]
  obtain ⟨v', w', run, own, grew, _, hat⟩ := run_append_own_at (P := P) (w := w) base t o.type e i z size bytes ht hi hz hsize hby hzs hsz v n xs hown ad m c news hl hnews h1 h63 hbytes hbase
  unfold Oper.wp
  simp [execOp, ho, resolve, invoke, builtin, hs, hx, run, Result.andThen]
  exact h v' w' own grew hat

abbrev SS : TypeId := 9
abbrev C1 : TypeId := 40
abbrev C2 : TypeId := 57
abbrev G1 : TypeId := 42
abbrev G2 : TypeId := 61
theorem infoS : (Tryd.prog.info? SS).map (fun i => (i.zero, i.size, i.bytes)) = some (some (.string ⟨#[]⟩), 1, 16) := by kernel_rfl
theorem infoC1 : (Tryd.prog.info? C1).map (fun i => (i.zero, i.size, i.bytes)) = some (some (.agg #[.int .i64 0, .slice none 0 0, .slice none 0 0]), 3, 56) := by kernel_rfl
theorem infoC2 : (Tryd.prog.info? C2).map (fun i => (i.zero, i.size, i.bytes)) = some (some (.agg #[.int .i64 0, .slice none 0 0, .slice none 0 0]), 3, 56) := by kernel_rfl
theorem infoG1 : (Tryd.prog.info? G1).map (fun i => (i.zero, i.size, i.bytes)) = some (some (.agg #[.int .i64 0, .string ByteArray.empty]), 2, 24) := by kernel_rfl
theorem infoG2 : (Tryd.prog.info? G2).map (fun i => (i.zero, i.size, i.bytes)) = some (some (.agg #[.int .i64 0, .string ByteArray.empty]), 2, 24) := by kernel_rfl
end Go.Proofs.YtlkcpegjkmfngaaDoor.Px
