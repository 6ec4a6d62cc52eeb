/-
  strings.Builder in a block of its own: which blocks are its own.
  A table of variables in memory: its box, its two maps, the builders of the texts that have grown.
  flatironref11: Get, Right, Has, without.
  flatironref11: Right, Has, without.
  vars.New, (*Table).Get, wrong.
-/
import Derived.Lib.Builder
import Derived.Lib.UnsafeStr
import Derived.Lib.FrozenHead2
import Derived.Laws.Externs
import Derived.Lib.Strings
import Derived.Lib.AppendStr
import Derived.Test.YtgednccpjegbmaaGreatDoorQJBase
namespace Go.Proofs.YtgednccpjegbmaaGreatDoor.Jw
open Go.RowKit Go.Proofs.YtgednccpjegbmaaGreatDoor Go.Proofs.YtgednccpjegbmaaGreatDoor.Ww Go.Proofs.YtgednccpjegbmaaGreatDoor.Tw Go.Proofs.YtgednccpjegbmaaGreatDoor.Kw
set_option maxRecDepth 100000

section
variable {P : Program} {w : World}
variable {ops : Array Oper} {rest : List Oper} {o : Oper} {a : Act} {Q : Exit → Act → World → Prop}
end

abbrev BT : TypeId := 185
abbrev U8 : TypeId := 5
/-- The builder in block b; its text is l; O are its blocks. -/
structure BldAt (w : World) (b : Nat) (O : List Nat) (l : Bs) (pv bv : Value) : Prop where
  cells : w.heap[b]? = some (.cells #[pv, bv] BT (0, 0))
  used : pv = .pointer none ∨ pv = .pointer (some ⟨b, 0, none⟩)
  own : w.ownsRowF 0 U8 1 bv l.length (Lib.byteCells l)
  owns : O = b :: bv.ownBlock.toList
section
variable {w w' : World} {b : Nat} {O : List Nat} {l : Bs} {pv bv : Value}
theorem BldAt.lt (h : BldAt w b O l pv bv) : b < w.heap.size := (Array.getElem?_eq_some_iff.1 h.cells).1
theorem BldAt.ltO (h : BldAt w b O l pv bv) : ∀ i ∈ O, i < w.heap.size := by
  intro i hi
  rw [h.owns] at hi
  rcases List.mem_cons.1 hi with rfl | hi
  · exact h.lt
  · exact (h.own.lt i (by simpa using hi)).2
theorem BldAt.block (h : BldAt w b O l pv bv) (hb : ∀ i ∈ O, w'.heap[i]? = w.heap[i]?) : BldAt w' b O l pv bv := by
  have h1 : w'.heap[b]? = w.heap[b]? := hb b (by rw [h.owns]; simp)
  refine ⟨h1.trans h.cells, h.used, ⟨h.own.1, ?_⟩, h.owns⟩
  rcases h.own.2 with hn | ⟨g, cap, cur, fz, hv, hbg, hg, rest⟩
  · exact .inl hn
  · exact .inr ⟨g, cap, cur, fz, hv, hbg, (hb g (by rw [h.owns, hv]; simp [Value.ownBlock])).trans hg, rest⟩
/-- The cells of a builder's blocks. -/
theorem BldAt.cells_of (h : BldAt w b O l pv bv) : ∀ i ∈ O, ∃ cs T fz, w.heap[i]? = some (.cells cs T fz) ∧ (T = BT ∨ T = U8) := by
  intro i hi
  rw [h.owns] at hi
  rcases List.mem_cons.1 hi with rfl | hi
  · exact ⟨_, _, _, h.cells, .inl rfl⟩
  · rcases h.own.2 with ⟨hv, _⟩ | ⟨g, cap, cur, fz, hv, hbg, hg, rest⟩
    · rw [hv] at hi; simp [Value.ownBlock] at hi
    · rw [hv] at hi
      simp [Value.ownBlock] at hi
      subst hi
      exact ⟨_, _, _, hg, .inr rfl⟩
end
end Go.Proofs.YtgednccpjegbmaaGreatDoor.Jw
namespace Go.Proofs.YtgednccpjegbmaaGreatDoor.Jw
open Go.RowKit Go.Proofs.YtgednccpjegbmaaGreatDoor Go.Proofs.YtgednccpjegbmaaGreatDoor.Ww Go.Proofs.YtgednccpjegbmaaGreatDoor.Tw Go.Proofs.YtgednccpjegbmaaGreatDoor.Kw
set_option maxRecDepth 100000

abbrev PT : TypeId := 92
abbrev PK : TypeId := 125
/-- What the table keeps: a variable, and the builder of its text. -/
structure KE where
  v : Jp.V
  g : Option Nat
def gP (g : Option Nat) : Value := .pointer (g.map fun b => ⟨b, 0, none⟩)
def keV (e : KE) : Value := .agg #[.string (str e.v.n), .string (str e.v.x), .bool e.v.s, .int .i64 e.v.f, gP e.g]
def keD (e : KE) : DataW Unit := .agg [.lit (.string e.v.n), .lit (.string e.v.x), .lit (.bool e.v.s), .lit (.int .i64 e.v.f), match e.g with | none => .nil | some b => .lit (.int .i64 (b : Int))]
def keElem : Value → Option (DataW Unit × List MemPlace)
  | .agg cs => match cs.toList with
    | [.string n, .string x, .bool s, .int .i64 f, .pointer none] => some (keD ⟨⟨by8 n, by8 x, s, f⟩, none⟩, [])
    | [.string n, .string x, .bool s, .int .i64 f, .pointer (some ⟨b, 0, none⟩)] => some (keD ⟨⟨by8 n, by8 x, s, f⟩, some b⟩, [])
    | _ => none
  | _ => none
theorem keElem_mk (e : KE) : keElem (keV e) = some (keD e, []) := by
  obtain ⟨v, g⟩ := e
  cases g with
  | none => rfl
  | some b => rfl
theorem keElem_inv (v : Value) (z : DataW Unit × List MemPlace) (h : keElem v = some z) : ∃ e, v = keV e ∧ z = (keD e, []) := by
  unfold keElem at h
  split at h
  · rename_i cs
    split at h
    · rename_i n x s f e
      cases h
      refine ⟨⟨⟨by8 n, by8 x, s, f⟩, none⟩, ?_, rfl⟩
      unfold keV
      congr 1
      exact Array.toList_inj.1 e
    · rename_i n x s f b e
      cases h
      refine ⟨⟨⟨by8 n, by8 x, s, f⟩, some b⟩, ?_, rfl⟩
      unfold keV
      congr 1
      exact Array.toList_inj.1 e
    · cases h
  · cases h
theorem keD_inj (a b : KE) (h : keD a = keD b) : a = b := by
  obtain ⟨⟨n, x, s, f⟩, g⟩ := a
  obtain ⟨⟨n', x', s', f'⟩, g'⟩ := b
  unfold keD at h
  simp only [DataW.agg.injEq, List.cons.injEq, DataW.lit.injEq, Lit.string.injEq, Lit.int.injEq, Lit.bool.injEq, and_true, true_and] at h
  obtain ⟨rfl, rfl, rfl, rfl, h⟩ := h
  have : g = g' := by
    cases g with
    | none =>
      cases g' with
      | none => rfl
      | some b => cases h
    | some a =>
      cases g' with
      | none => cases h
      | some b => simp at h; rw [Int.ofNat.inj h]
  rw [this]
def ke0 : KE := ⟨⟨[], [], false, 0⟩, none⟩
def KK : Kind KE := ⟨89, 125, keV, keD, keElem, ke0, keElem_mk, keElem_inv, keD_inj, Tryz.underlying89, fun w => by kernel_rfl⟩
/-- What was chosen for a name. -/
def chV (n : Int) : Value := .int .i64 n
def chD (n : Int) : DataW Unit := .lit (.int .i64 n)
def chElem : Value → Option (DataW Unit × List MemPlace)
  | .int .i64 n => some (chD n, [])
  | _ => none
theorem chElem_inv (v : Value) (z : DataW Unit × List MemPlace) (h : chElem v = some z) : ∃ n, v = chV n ∧ z = (chD n, []) := by
  unfold chElem at h
  split at h
  · cases h; exact ⟨_, rfl, rfl⟩
  · cases h
def CK : Kind Int := ⟨90, 119, chV, chD, chElem, 0, fun _ => rfl, chElem_inv, fun a b h => by unfold chD at h; simpa using h, Tryz.underlying90, fun w => by kernel_rfl⟩

/-- The builders of a table's texts; O k are the blocks of the one at k. -/
structure Grown (w : World) (E : List (Bs × KE)) (O : Bs → List Nat) : Prop where
  at_ : ∀ e ∈ E, ∀ b, e.2.g = some b → ∃ pv bv, BldAt w b (O e.1) e.2.v.x pv bv
  apart : ∀ e ∈ E, ∀ e' ∈ E, e.1 ≠ e'.1 → e.2.g ≠ none → e'.2.g ≠ none → ∀ i ∈ O e.1, i ∉ O e'.1
/-- A table. -/
structure TabAt (w : World) (tb : Nat) (X : List Nat) (E : List (Bs × KE)) (M : List (Bs × Int)) (all : Bool) (mv mn : Option Nat) (O : Bs → List Nat) : Prop where
  cells : w.heap[tb]? = some (.cells #[.map mv, .map mn, .bool all] PT (0, 0))
  vars : MOpt KK w mv E
  named : MOpt CK w mn M
  ne : ∀ b, mv = some b → mn ≠ some b
  keys : ∀ e ∈ E, e.1 = e.2.v.n
  grown : Grown w E O
  tX : tb ∈ X
  vX : ∀ b, mv = some b → b ∈ X
  nX : ∀ b, mn = some b → b ∈ X
  oX : ∀ e ∈ E, e.2.g ≠ none → ∀ i ∈ O e.1, i ∈ X
/-- .. of these variables. -/
def Tab (w : World) (tb : Nat) (X : List Nat) (L : List Jp.V) (M : List (Bs × Int)) (all : Bool) : Prop := ∃ E mv mn O, TabAt w tb X E M all mv mn O ∧ E.map (fun e => e.2.v) = L

section
variable {w w' : World} {tb : Nat} {X : List Nat} {E : List (Bs × KE)} {M : List (Bs × Int)} {all : Bool} {mv mn : Option Nat} {O : Bs → List Nat} {L : List Jp.V}
theorem Grown.block (h : Grown w E O) (hb : ∀ e ∈ E, e.2.g ≠ none → ∀ i ∈ O e.1, w'.heap[i]? = w.heap[i]?) : Grown w' E O :=
  ⟨fun e he b hg => by
    obtain ⟨pv, bv, hB⟩ := h.at_ e he b hg
    exact ⟨pv, bv, hB.block (hb e he (by rw [hg]; simp))⟩, h.apart⟩
theorem Grown.ltO (h : Grown w E O) : ∀ e ∈ E, e.2.g ≠ none → ∀ i ∈ O e.1, i < w.heap.size := fun e he hg i hi => by
  cases hq : e.2.g with
  | none => exact absurd hq hg
  | some b =>
    obtain ⟨pv, bv, hB⟩ := h.at_ e he b hq
    exact hB.ltO i hi
theorem TabAt.lt (h : TabAt w tb X E M all mv mn O) : tb < w.heap.size := (Array.getElem?_eq_some_iff.1 h.cells).1
theorem TabAt.c0 (h : TabAt w tb X E M all mv mn O) : w.cell? ⟨tb, 0, none⟩ = some (.map mv) := cell_at h.cells rfl
theorem TabAt.c1 (h : TabAt w tb X E M all mv mn O) : w.cell? ⟨tb, 1, none⟩ = some (.map mn) := cell_at h.cells rfl
theorem TabAt.c2 (h : TabAt w tb X E M all mv mn O) : w.cell? ⟨tb, 2, none⟩ = some (.bool all) := cell_at h.cells rfl
theorem TabAt.block (h : TabAt w tb X E M all mv mn O) (hb : ∀ i ∈ X, i < w.heap.size → w'.heap[i]? = w.heap[i]?) : TabAt w' tb X E M all mv mn O :=
  ⟨(hb _ h.tX h.lt).trans h.cells, h.vars.block fun b e => hb b (h.vX b e) (h.vars.lt b e), h.named.block fun b e => hb b (h.nX b e) (h.named.lt b e), h.ne, h.keys,
    h.grown.block fun e he hg i hi => hb i (h.oX e he hg i hi) (h.grown.ltO e he hg i hi), h.tX, h.vX, h.nX, h.oX⟩
theorem TabAt.below (h : TabAt w tb X E M all mv mn O) (hk : Below w.heap.size w w') : TabAt w' tb X E M all mv mn O := h.block fun i _ hl => hk.block i hl
theorem Tab.below (h : Tab w tb X L M all) (hk : Below w.heap.size w w') : Tab w' tb X L M all := by
  obtain ⟨E, mv, mn, O, h, e⟩ := h
  exact ⟨E, mv, mn, O, h.below hk, e⟩
end
end Go.Proofs.YtgednccpjegbmaaGreatDoor.Jw
namespace Go.Proofs.YtgednccpjegbmaaGreatDoor.Jw
open Go.RowKit Go.Proofs.YtgednccpjegbmaaGreatDoor Go.Proofs.YtgednccpjegbmaaGreatDoor.Ww Go.Proofs.YtgednccpjegbmaaGreatDoor.Tw
set_option maxRecDepth 100000

end Go.Proofs.YtgednccpjegbmaaGreatDoor.Jw
namespace Go.Proofs.YtgednccpjegbmaaGreatDoor.Jw
open Go.RowKit Go.Proofs.YtgednccpjegbmaaGreatDoor Go.Proofs.YtgednccpjegbmaaGreatDoor.Ww Go.Proofs.YtgednccpjegbmaaGreatDoor.Tw
set_option maxRecDepth 100000

end Go.Proofs.YtgednccpjegbmaaGreatDoor.Jw
namespace Go.Proofs.YtgednccpjegbmaaGreatDoor.Jw
open Go.RowKit Go.Proofs.YtgednccpjegbmaaGreatDoor Go.Proofs.YtgednccpjegbmaaGreatDoor.Ww Go.Proofs.YtgednccpjegbmaaGreatDoor.Tw Go.Proofs.YtgednccpjegbmaaGreatDoor.Kw
set_option maxRecDepth 100000

theorem Grown.nil (w : World) (O : Bs → List Nat) : Grown w [] O := ⟨fun e h => (by cases h), fun e h => (by cases h)⟩
end Go.Proofs.YtgednccpjegbmaaGreatDoor.Jw
