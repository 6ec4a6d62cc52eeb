/-
  The document's parts in memory.
-/
import Derived.Test.YtjjlafbdhpojpaaDoorMRec
namespace Go.Proofs.YtjjlafbdhpojpaaDoor.Vw
open Go.RowKit Go.Proofs.YtjjlafbdhpojpaaDoor Go.Proofs.YtjjlafbdhpojpaaDoor.Ww Go.Proofs.YtjjlafbdhpojpaaDoor.Iw Go.Proofs.YtjjlafbdhpojpaaDoor.Mw
set_option maxRecDepth 100000

abbrev QT : TypeId := 65
abbrev RT : TypeId := 66
theorem infoQT : (Tryd.prog.info? QT).map (fun i => (i.zero, i.size, i.bytes)) = some (some zeroV, 11, 144) := by kernel_rfl
theorem infoRT : (Tryd.prog.info? RT).map (fun i => (i.zero, i.size, i.bytes)) = some (some (.agg #[.int .i64 0, .string ByteArray.empty, .bool false]), 3, 32) := by kernel_rfl
theorem sizeQ : (Tryd.prog.info? QT).map (·.size) = some 11 := by kernel_rfl
theorem undQ : Tryd.prog.underlying QT = some (.struct (Tryd.prog.fieldsOf QT)) := by kernel_rfl
theorem kept_below {X : List Nat} {a b : World} {B : Nat} (h : Kept X a b) (hB : B ≤ a.heap.size) (hX : ∀ i ∈ X, B ≤ i) : Below B a b :=
  ⟨h.os, h.tape, h.output, h.size, fun i hi => h.block i (by omega) fun e => by have := hX i e; omega⟩
/-- A row of the document's parts of the call's own, and the rows of their recipes. -/
structure Qs (w : World) (lo : Nat) (v : Value) (X : List PV) : Prop where
  row : w.ownsRow lo QT 11 v X.length (pvsC X)
  each : ∀ x ∈ X, w.ownsRow lo RT 3 x.v x.p.recipe.length (linesC x.p.recipe)
theorem Qs.nil (w : World) (lo : Nat) : Qs w lo (.slice none 0 0) [] := ⟨World.ownsRow_nil _ _ _ _, fun _ h => absurd h List.not_mem_nil⟩
theorem Qs.below {w w' : World} {lo : Nat} {v : Value} {X : List PV} (h : Qs w lo v X) (hB : Below w.heap.size w w') : Qs w' lo v X :=
  ⟨owns_below h.row hB, fun x hx => owns_below (h.each x hx) hB⟩
theorem Qs.mono {w : World} {lo lo' : Nat} {v : Value} {X : List PV} (h : Qs w lo v X) (hl : lo' ≤ lo) : Qs w lo' v X := ⟨own_mono h.row hl, fun x hx => own_mono (h.each x hx) hl⟩
/-- One part more. -/
theorem Qs.snoc {w w' : World} {lo : Nat} {v v' : Value} {X : List PV} {x : PV} (h : Qs w lo v X) (hx : w.ownsRow lo RT 3 x.v x.p.recipe.length (linesC x.p.recipe))
    (ho : w'.ownsRow lo QT 11 v' (X.length + 1) (pvsC X ++ pvC x)) (hg : w.grownBy w' v.ownBlock) : Qs w' lo v' (X ++ [x]) := by
  have hin : ∀ y : PV, w.ownsRow lo RT 3 y.v y.p.recipe.length (linesC y.p.recipe) → w'.ownsRow lo RT 3 y.v y.p.recipe.length (linesC y.p.recipe) := fun y hy =>
    own_kept hy fun g hg' => hg.block g (hy.lt g hg').2 (by
      have := rows_ne hy h.row (by decide)
      rw [hg'] at this
      rcases this with e | e
      · cases e
      · exact e)
  refine ⟨by rw [List.length_append, pvsC_snoc]; exact ho, fun y hy => ?_⟩
  rcases List.mem_append.1 hy with hy | hy
  · exact hin y (h.each y hy)
  · rw [List.mem_singleton.1 hy]; exact hin x hx
/-- The cells of a row of parts. -/
theorem row_part {w : World} {lo : Nat} {T : TypeId} {a : Option Addr} {c : Nat} {X : List PV} (h : w.ownsRow lo T 11 (.slice a X.length c) X.length (pvsC X)) {i : Nat} (hi : i < X.length) :
    ∃ g, a = some ⟨g, 0, none⟩ ∧ X.length ≤ c ∧ g < w.heap.size ∧ ∀ j u, j < 11 → (pvC X[i])[j]? = some u → w.cell? ⟨g, i * 11 + j, none⟩ = some u := by
  obtain ⟨hl, hr⟩ := id h
  rcases hr with ⟨hn, h0⟩ | ⟨g, cap, cur, hv, hb, hg, hn, hc, hs, ht⟩
  · omega
  · cases hv
    refine ⟨g, rfl, hn, (Array.getElem?_eq_some_iff.1 hg).1, fun j u hj hu => ?_⟩
    have := h.cells (g := g) rfl (i * 11 + j) u (by rw [pvsC_get hi hj]; exact hu)
    rw [Addr.add_lit, Nat.zero_add] at this
    exact this
theorem part_cells {w : World} {g : Nat} {p : Mp.P} {v : Value} {T : TypeId} (h : w.heap[g]? = some (.cells (partC p v) T (0, 0))) :
    w.cell? ⟨g, 0, none⟩ = some (.int .i64 (p.kind : Int)) ∧ w.cell? ⟨g, 1, none⟩ = some (.int .i64 (p.line : Int)) ∧ w.cell? ⟨g, 2, none⟩ = some (.string (str p.name)) ∧ w.cell? ⟨g, 3, none⟩ = some (.string (str p.op)) ∧ w.cell? ⟨g, 4, none⟩ = some (.string (str p.value)) ∧ w.cell? ⟨g, 5, none⟩ = some (.bool p.over) ∧ w.cell? ⟨g, 6, none⟩ = some (.bool p.out) ∧
      w.cell? ⟨g, 7, none⟩ = some (.string (str p.targets)) ∧ w.cell? ⟨g, 8, none⟩ = some (.string (str p.needs)) ∧ w.cell? ⟨g, 9, none⟩ = some (.string (str p.order)) ∧ w.cell? ⟨g, 10, none⟩ = some v :=
  ⟨cell_at h rfl, cell_at h rfl, cell_at h rfl, cell_at h rfl, cell_at h rfl, cell_at h rfl, cell_at h rfl, cell_at h rfl, cell_at h rfl, cell_at h rfl, cell_at h rfl⟩
end Go.Proofs.YtjjlafbdhpojpaaDoor.Vw
