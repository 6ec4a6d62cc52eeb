/-
  A variable laid into a table's map: what is of the table then.
  (*Table).Set.
-/
import Derived.Test.YtpliljcjjffipaaGreatDoorQJPGet
import Derived.StillTailTactics
namespace Go.Proofs.YtpliljcjjffipaaGreatDoor.Jw
open Go.RowKit Go.Proofs.YtpliljcjjffipaaGreatDoor Go.Proofs.YtpliljcjjffipaaGreatDoor.Ww Go.Proofs.YtpliljcjjffipaaGreatDoor.Tw Go.Proofs.YtpliljcjjffipaaGreatDoor.Kw
set_option maxRecDepth 100000

section
variable {w0 w w2 : World} {tb bm : Nat} {X : List Nat} {E : List (Bs × KE)} {M : List (Bs × Int)} {all : Bool} {mn : Option Nat} {O : Bs → List Nat}
theorem TabAt.put (h : TabAt w0 tb X E M all (some bm) mn O) (v : Jp.V) (g : Option Nat) (On Y : List Nat) (hk : Kept Y w0 w)
    (hY : ∀ i ∈ Y, ∃ e ∈ E, e.1 = v.n ∧ e.2.g ≠ none ∧ i ∈ O v.n) (hB : ∀ b, g = some b → ∃ pv bv, BldAt w b On v.x pv bv) (hOn : g ≠ none → ∀ i ∈ On, i ∈ Y ∨ w0.heap.size ≤ i)
    (hM : Kw.MapAt KK w2 bm (Kp.ins E (v.n, ⟨v, g⟩))) (ht : w.mapTurned w2 bm) :
    ∃ X', TabAt w2 tb X' (Kp.ins E (v.n, ⟨v, g⟩)) M all (some bm) mn (fun k => if k = v.n then On else O k) ∧ Kept X w0 w2 ∧ ∀ i ∈ X', i ∈ X ∨ w0.heap.size ≤ i := by
  have hs := h.vars.sorted
  have hg := ht.grown
  have hbX : bm ∈ X := h.vX bm rfl
  have hYX : ∀ i ∈ Y, i ∈ X := fun i hi => by
    obtain ⟨e, he, h1, h2, h3⟩ := hY i hi
    exact h.oX e he h2 i (h1 ▸ h3)
  have hYk : ∀ i ∈ Y, ∃ cs T fz, w0.heap[i]? = some (.cells cs T fz) ∧ T ≠ PT := fun i hi => by
    obtain ⟨e, he, h1, h2, h3⟩ := hY i hi
    exact h.grown.kind e he h2 i (h1 ▸ h3)
  have htY : tb ∉ Y := fun hi => by
    obtain ⟨cs, T, fz, h1, h2⟩ := hYk tb hi
    rw [h.cells] at h1; cases h1; exact h2 rfl
  have hbY : bm ∉ Y := fun hi => by
    obtain ⟨cs, T, fz, h1, _⟩ := hYk bm hi
    exact Kw.MapAt.not_cells h.vars h1 rfl
  have hnY : ∀ b, mn = some b → b ∉ Y := fun b e hi => by
    obtain ⟨cs, T, fz, h1, _⟩ := hYk b hi
    exact h.named.not_cells h1 e
  have hMw : Kw.MapAt KK w bm E := Kw.MapAt.kept h.vars hk hbY
  have htw : w.heap[tb]? = some (.cells #[.map (some bm), .map mn, .bool all] PT (0, 0)) := (hk.block tb h.lt htY).trans h.cells
  have hst : ∀ i, i < w.heap.size → i ≠ bm → w2.heap[i]? = w.heap[i]? := fun i hi hne => hg.block i hi (fun e => hne (Option.some.inj e))
  have hst0 : ∀ i, i < w0.heap.size → i ∉ Y → i ≠ bm → w2.heap[i]? = w0.heap[i]? := fun i hi hy hne => (hst i (Nat.lt_of_lt_of_le hi hk.size) hne).trans (hk.block i hi hy)
  have hOY : ∀ e ∈ E, e.1 ≠ v.n → e.2.g ≠ none → ∀ i ∈ O e.1, i ∉ Y := fun e he hne hgn i hi hy => by
    obtain ⟨e0, he0, h1, h2, h3⟩ := hY i hy
    exact h.grown.apart e he e0 he0 (by rw [h1]; exact hne) hgn h2 i hi (h1 ▸ h3)
  have hOb : ∀ e ∈ E, e.2.g ≠ none → ∀ i ∈ O e.1, i ≠ bm := fun e he hgn i hi hy => by
    obtain ⟨cs, T, fz, h1, _⟩ := h.grown.kind e he hgn i hi
    exact Kw.MapAt.not_cells h.vars h1 hy.symm
  have hOnO : g ≠ none → ∀ e ∈ E, e.1 ≠ v.n → e.2.g ≠ none → ∀ i ∈ On, i ∉ O e.1 := fun hgn e he hne hen i hi hO => by
    rcases hOn hgn i hi with hy | hy
    · exact hOY e he hne hen i hO hy
    · exact absurd (h.grown.ltO e he hen i hO) (by omega)
  refine ⟨X ++ (if g = none then [] else On), ⟨(hst tb (Nat.lt_of_lt_of_le h.lt hk.size) (fun e => Kw.MapAt.not_cells h.vars h.cells e.symm)).trans htw, hM, h.named.block fun b e => hst0 b (h.named.lt b e) (hnY b e) (fun e2 => h.ne bm rfl (e2 ▸ e)), h.ne, ?_, ⟨?_, ?_⟩, by simp [h.tX], fun b e => by simp [h.vX b e], fun b e => by simp [h.nX b e], ?_⟩, ?_, ?_⟩
  · intro e he
    rcases (Kp.mem_ins hs e).1 he with rfl | ⟨he, _⟩
    · rfl
    · exact h.keys e he
  · intro e he b hgb
    rcases (Kp.mem_ins hs e).1 he with rfl | ⟨he, hne⟩
    · dsimp only at hgb ⊢
      rw [if_pos rfl]
      obtain ⟨pv, bv, hBb⟩ := hB b hgb
      refine ⟨pv, bv, hBb.block fun i hi => hst i (hBb.ltO i hi) fun e => ?_⟩
      obtain ⟨cs, T, fz, h1, _⟩ := hBb.cells_of i hi
      exact hMw.not_cells h1 e.symm
    · rw [if_neg hne]
      obtain ⟨pv, bv, hBb⟩ := h.grown.at_ e he b hgb
      exact ⟨pv, bv, hBb.block fun i hi => hst0 i (hBb.ltO i hi) (hOY e he hne (by rw [hgb]; simp) i hi) (hOb e he (by rw [hgb]; simp) i hi)⟩
  · intro e he e' he' hne hge hge' i hi
    rcases (Kp.mem_ins hs e).1 he with rfl | ⟨he, hn⟩
    · rcases (Kp.mem_ins hs e').1 he' with rfl | ⟨he', hn'⟩
      · exact absurd rfl hne
      · dsimp only at hi hge
        rw [if_pos rfl] at hi
        rw [if_neg hn']
        exact hOnO hge e' he' hn' hge' i hi
    · rw [if_neg hn] at hi
      rcases (Kp.mem_ins hs e').1 he' with rfl | ⟨he', hn'⟩
      · dsimp only at hge' ⊢
        rw [if_pos rfl]
        exact fun h2 => hOnO hge' e he hn hge i h2 hi
      · rw [if_neg hn']
        exact h.grown.apart e he e' he' hne hge hge' i hi
  · intro e he hge i hi
    rcases (Kp.mem_ins hs e).1 he with rfl | ⟨he, hn⟩
    · dsimp only at hi hge
      rw [if_pos rfl] at hi
      rw [if_neg hge]; simp [hi]
    · rw [if_neg hn] at hi
      simp [h.oX e he hge i hi]
  · exact (hk.mono hYX).grown hg fun r e => .inl (by cases e; exact hbX)
  · intro i hi
    rcases List.mem_append.1 hi with hi | hi
    · exact .inl hi
    · by_cases hgn : g = none
      · rw [if_pos hgn] at hi; cases hi
      · rw [if_neg hgn] at hi
        rcases hOn hgn i hi with hy | hy
        · exact .inl (hYX i hy)
        · exact .inr hy
end
end Go.Proofs.YtpliljcjjffipaaGreatDoor.Jw
namespace Go.Proofs.YtpliljcjjffipaaGreatDoor.Jw
open Go.RowKit Go.Proofs.YtpliljcjjffipaaGreatDoor Go.Proofs.YtpliljcjjffipaaGreatDoor.Ww Go.Proofs.YtpliljcjjffipaaGreatDoor.Tw Go.Proofs.YtpliljcjjffipaaGreatDoor.Kw
set_option maxRecDepth 100000

/-- The boxes of Set and More: the variable, what there was. -/
structure Two (w : World) (tb : Nat) (mv mn : Option Nat) (all : Bool) (vv oo : Array Value) (n : Nat) (W : World) : Prop where
  v : W.heap[w.heap.size]? = some (.cells vv PV (0, 0))
  o : W.heap[n]? = some (.cells oo PK (0, 0))
  t : W.heap[tb]? = some (.cells #[.map mv, .map mn, .bool all] PT (0, 0))
  below : Below w.heap.size w W

/-- What a call that changes a table leaves. -/
def SPost (w : World) (tb : Nat) (X : List Nat) (L : List Jp.V) (M : List (Bs × Int)) (all : Bool) (n : Int) (e : Ending) (w' : World) : Prop :=
  e = .returned (.int .i64 n) ∧ ∃ X', Tab w' tb X' L M all ∧ Kept X w w' ∧ ∀ i ∈ X', i ∈ X ∨ w.heap.size ≤ i
theorem SPost.same {w w' : World} {tb : Nat} {X : List Nat} {L : List Jp.V} {M : List (Bs × Int)} {all : Bool} {n : Int} {e : Ending} (h : Tab w tb X L M all) (he : e = .returned (.int .i64 n)) (hB : Below w.heap.size w w') : SPost w tb X L M all n e w' :=
  ⟨he, X, h.below hB, .of_below hB, fun _ hi => .inl hi⟩
theorem heap_ne {w : World} {b g i : Nat} {o : Obj} (h : w.heap[b]? = some o) (hn : b ≠ g) (v : Value) : (w.setCell ⟨g, i, none⟩ v).heap[b]? = some o := (Below.heap_setCell _ _ _ _ hn).trans h
theorem TabAt.made {w : World} {tb : Nat} {X : List Nat} {M : List (Bs × Int)} {all : Bool} {mn : Option Nat} {O : Bs → List Nat} (h : TabAt w tb X [] M all none mn O) :
    TabAt ((w.alloc (.map #[] 0)).setCell ⟨tb, 0, none⟩ (.map (some w.heap.size))) tb (w.heap.size :: X) [] M all (some w.heap.size) mn O := by
  have hB := (Below.refl w.heap.size w).alloc (Nat.le_refl _) (.map #[] 0)
  have hlt := h.lt
  have hc := (hB.block _ hlt).trans h.cells
  have hn := h.named.below hB
  have hnc := fun b (e : mn = some b) => fun (e2 : b = tb) => hn.not_cells hc (e2 ▸ e)
  refine ⟨heap_set hc _, (Kw.MapAt.new w).setCell (p := ⟨tb, 0, none⟩) (by show w.heap.size ≠ tb; omega) _, hn.block fun b e => Below.heap_setCell _ _ _ _ (hnc b e), fun b e e2 => ?_, fun e he => (by cases he), Grown.nil _ _, by simp [h.tX], fun b e => by simp [Option.some.inj e], fun b e => by simp [h.nX b e], fun e he => (by cases he)⟩
  cases e
  exact Nat.lt_irrefl _ (h.named.lt _ e2)
theorem _root_.Go.Proofs.YtpliljcjjffipaaGreatDoor.Kw.Kept.trans_new {X Y : List Nat} {a b c : World} (h : Kept X a b) (k : Kept Y b c) (hY : ∀ i ∈ Y, i ∈ X ∨ a.heap.size ≤ i) : Kept X a c :=
  ⟨k.os.trans h.os, k.tape.trans h.tape, k.output.trans h.output, Nat.le_trans h.size k.size, fun i hi hx => (k.block i (Nat.lt_of_lt_of_le hi h.size) fun hy => by
    rcases hY i hy with hh | hh
    · exact hx hh
    · omega).trans (h.block i hi hx)⟩

end Go.Proofs.YtpliljcjjffipaaGreatDoor.Jw
