/-
  Both tables in memory: the program's, whose blocks are of their own kinds, and the reference's, in its box.
-/
import Derived.Test.YtpliljcjjffipaaGreatDoorQJTab
import Derived.Test.YtpliljcjjffipaaGreatDoorQJMore
namespace Go.Proofs.YtpliljcjjffipaaGreatDoor.Jw
open Go.RowKit Go.Proofs.YtpliljcjjffipaaGreatDoor Go.Proofs.YtpliljcjjffipaaGreatDoor.Ww Go.Proofs.YtpliljcjjffipaaGreatDoor.Tw Go.Proofs.YtpliljcjjffipaaGreatDoor.Kw
set_option maxRecDepth 100000

/-- Blocks of a table's kinds. -/
def Kinds (w : World) (X : List Nat) : Prop := ∀ i ∈ X, (∃ es ck, w.heap[i]? = some (.map es ck)) ∨ ∃ cs t fz, w.heap[i]? = some (.cells cs t fz) ∧ (t = PT ∨ t = BT ∨ t = U8)
/-- A table, with no more blocks than it has. -/
theorem Tab.shrink {w : World} {tb : Nat} {X : List Nat} {L : List Jp.V} {M : List (Bs × Int)} {all : Bool} (h : Tab w tb X L M all) : ∃ X0, Tab w tb X0 L M all ∧ Kinds w X0 ∧ ∀ i ∈ X0, i ∈ X := by
  obtain ⟨E, mv, mn, O, h, e⟩ := h
  have hX : ∀ i, i ∈ tb :: (mv.toList ++ (mn.toList ++ E.flatMap fun e => if e.2.g = none then [] else O e.1)) ↔ i = tb ∨ mv = some i ∨ mn = some i ∨ ∃ e ∈ E, e.2.g ≠ none ∧ i ∈ O e.1 := by
    intro i
    simp only [List.mem_cons, List.mem_append, Option.mem_toList, List.mem_flatMap]
    refine or_congr Iff.rfl (or_congr Iff.rfl (or_congr Iff.rfl ?_))
    constructor
    · rintro ⟨e, he, hi⟩
      by_cases hg : e.2.g = none
      · rw [if_pos hg] at hi; cases hi
      · rw [if_neg hg] at hi; exact ⟨e, he, hg, hi⟩
    · rintro ⟨e, he, hg, hi⟩
      exact ⟨e, he, by rw [if_neg hg]; exact hi⟩
  refine ⟨tb :: (mv.toList ++ (mn.toList ++ E.flatMap fun e => if e.2.g = none then [] else O e.1)), ⟨E, mv, mn, O, ⟨h.cells, h.vars, h.named, h.ne, h.keys, h.grown, (hX _).2 (.inl rfl), fun b hb => (hX _).2 (.inr (.inl hb)), fun b hb => (hX _).2 (.inr (.inr (.inl hb))), fun e he hg i hi => (hX _).2 (.inr (.inr (.inr ⟨e, he, hg, hi⟩)))⟩, e⟩, fun i hi => ?_, fun i hi => ?_⟩
  · rcases (hX i).1 hi with rfl | hb | hb | ⟨e, he, hg, hi⟩
    · exact .inr ⟨_, _, _, h.cells, .inl rfl⟩
    · subst hb; exact .inl (Kw.MapAt.obj h.vars)
    · subst hb; exact .inl (Kw.MapAt.obj h.named)
    · cases hq : e.2.g with
      | none => exact absurd hq hg
      | some b =>
        obtain ⟨pv, bv, hB⟩ := h.grown.at_ e he b hq
        obtain ⟨cs, t, fz, h1, h2⟩ := hB.cells_of i hi
        exact .inr ⟨cs, t, fz, h1, .inr h2⟩
  · rcases (hX i).1 hi with rfl | hb | hb | ⟨e, he, hg, hi⟩
    · exact h.tX
    · exact h.vX i hb
    · exact h.nX i hb
    · exact h.oX e he hg i hi
theorem Kinds.row {w : World} {X : List Nat} (h : Kinds w X) {lo : Nat} {t : TypeId} {z : Nat} {v : Value} {n : Nat} {xs : List Value} (ho : w.ownsRow lo t z v n xs) (ht : t ≠ PT ∧ t ≠ BT ∧ t ≠ U8) : ∀ k, v.ownBlock = some k → k ∉ X := by
  intro k hk hX
  rcases ho.2 with ⟨hv, _⟩ | ⟨g, cap, cur, hv, _, hg, _⟩
  · rw [hv] at hk; simp [Value.ownBlock] at hk
  · rw [hv] at hk
    simp [Value.ownBlock] at hk
    subst hk
    rcases h g hX with ⟨es, ck, h1⟩ | ⟨cs, t', fz, h1, h2⟩
    · rw [hg] at h1; cases h1
    · rw [hg] at h1; cases h1
      rcases h2 with h2 | h2 | h2
      · exact ht.1 h2
      · exact ht.2.1 h2
      · exact ht.2.2 h2
theorem Kinds.box {w : World} {X : List Nat} (h : Kinds w X) {b : Nat} {cs : Array Value} {t : TypeId} {fz : Nat × Nat} (hb : w.heap[b]? = some (.cells cs t fz)) (ht : t ≠ PT ∧ t ≠ BT ∧ t ≠ U8) : b ∉ X := by
  intro hX
  rcases h b hX with ⟨es, ck, h1⟩ | ⟨cs, t', fz, h1, h2⟩
  · rw [hb] at h1; cases h1
  · rw [hb] at h1; cases h1
    rcases h2 with h2 | h2 | h2
    · exact ht.1 h2
    · exact ht.2.1 h2
    · exact ht.2.2 h2
theorem own_block {w w' : World} {lo : Nat} {t : TypeId} {z : Nat} {v : Value} {n : Nat} {xs : List Value} (h : w.ownsRow lo t z v n xs) (hb : ∀ k, v.ownBlock = some k → w'.heap[k]? = w.heap[k]?) : w'.ownsRow lo t z v n xs := by
  refine ⟨h.1, ?_⟩
  rcases h.2 with h | ⟨g, cap, cur, hv, h1, h2, h3⟩
  · exact .inl h
  · exact .inr ⟨g, cap, cur, hv, h1, (hb g (by rw [hv]; rfl)).trans h2, h3⟩
theorem own_kept {w w' : World} {X : List Nat} {lo : Nat} {t : TypeId} {z : Nat} {v : Value} {n : Nat} {xs : List Value} (h : w.ownsRow lo t z v n xs) (hk : Kept X w w') (hX : ∀ k, v.ownBlock = some k → k ∉ X) : w'.ownsRow lo t z v n xs :=
  own_block h fun k e => hk.block k (h.lt k e).2 (hX k e)
theorem kVT : VT ≠ PT ∧ VT ≠ BT ∧ VT ≠ U8 := by decide
theorem kST : ST ≠ PT ∧ ST ≠ BT ∧ ST ≠ U8 := by decide
/-- A table's three slices. -/
structure Sl where
  a0 : Option Addr
  c0 : Nat
  a1 : Option Addr
  c1 : Nat
  a2 : Option Addr
  c2 : Nat
/-- The reference's table, its rows. -/
structure Rows3 (w : World) (T : Jp.T) (s : Sl) : Prop where
  l : w.ownsRow 0 VT 4 (.slice s.a0 T.l.length s.c0) T.l.length (vsC T.l)
  yes : w.ownsRow 0 ST 1 (.slice s.a1 T.yes.length s.c1) T.yes.length (nC T.yes)
  no : w.ownsRow 0 ST 1 (.slice s.a2 T.no.length s.c2) T.no.length (nC T.no)
def mC (T : Jp.T) (s : Sl) : Array Value := #[.slice s.a0 T.l.length s.c0, .slice s.a1 T.yes.length s.c1, .slice s.a2 T.no.length s.c2, .bool T.all]
theorem Rows3.kept {w w' : World} {T : Jp.T} {s : Sl} {X : List Nat} (h : Rows3 w T s) (hK : Kinds w X) (hk : Kept X w w') : Rows3 w' T s :=
  ⟨own_kept h.l hk (hK.row h.l kVT), own_kept h.yes hk (hK.row h.yes kST), own_kept h.no hk (hK.row h.no kST)⟩
theorem Rows3.below {w w' : World} {T : Jp.T} {s : Sl} (h : Rows3 w T s) (hB : Below w.heap.size w w') : Rows3 w' T s := ⟨owns_below h.l hB, owns_below h.yes hB, owns_below h.no hB⟩
theorem Rows3.box {w w' : World} {T : Jp.T} {s : Sl} {mb : Nat} {cs : Array Value} (h : Rows3 w T s) (hm : w.heap[mb]? = some (.cells cs TT (0, 0))) (hb : ∀ i, i < w.heap.size → i ≠ mb → w'.heap[i]? = w.heap[i]?) : Rows3 w' T s := by
  have hne : ∀ {t : TypeId} {z : Nat} {v : Value} {n : Nat} {xs : List Value}, w.ownsRow 0 t z v n xs → t ≠ TT → ∀ k, v.ownBlock = some k → w'.heap[k]? = w.heap[k]? := by
    intro t z v n xs ho ht k hk
    refine hb k (ho.lt k hk).2 fun e => ?_
    rcases ho.2 with ⟨hv, _⟩ | ⟨g, cap, cur, hv, _, hg, _⟩
    · rw [hv] at hk; simp [Value.ownBlock] at hk
    · rw [hv] at hk
      simp [Value.ownBlock] at hk
      subst hk
      rw [e, hm] at hg; cases hg; exact ht rfl
  exact ⟨own_block h.l (hne h.l (by decide)), own_block h.yes (hne h.yes (by decide)), own_block h.no (hne h.no (by decide))⟩
theorem Kinds.kept {w w' : World} {X Y : List Nat} (h : Kinds w X) (hk : Kept Y w w') (hX : ∀ i ∈ X, i ∉ Y) : Kinds w' X := by
  intro i hi
  rcases h i hi with ⟨es, ck, h1⟩ | ⟨cs, t, fz, h1, h2⟩
  · exact .inl ⟨es, ck, (hk.block i (Array.getElem?_eq_some_iff.1 h1).1 (hX i hi)).trans h1⟩
  · exact .inr ⟨cs, t, fz, (hk.block i (Array.getElem?_eq_some_iff.1 h1).1 (hX i hi)).trans h1, h2⟩
theorem Kinds.lt {w : World} {X : List Nat} (h : Kinds w X) : ∀ i ∈ X, i < w.heap.size := fun i hi => by
  rcases h i hi with ⟨es, ck, h1⟩ | ⟨cs, t, fz, h1, _⟩
  · exact (Array.getElem?_eq_some_iff.1 h1).1
  · exact (Array.getElem?_eq_some_iff.1 h1).1
end Go.Proofs.YtpliljcjjffipaaGreatDoor.Jw
