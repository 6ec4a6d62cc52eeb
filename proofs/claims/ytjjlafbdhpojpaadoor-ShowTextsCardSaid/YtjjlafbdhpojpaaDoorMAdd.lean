/-
  A list of parts in memory; makefile.add at a line that is no recipe's.
-/
import Derived.Maps.AppendAt
import Derived.Test.YtjjlafbdhpojpaaDoorMPart
namespace Go.Proofs.YtjjlafbdhpojpaaDoor.Mw
open Go.RowKit Go.Proofs.YtjjlafbdhpojpaaDoor Go.Proofs.YtjjlafbdhpojpaaDoor.Ww Go.Proofs.YtjjlafbdhpojpaaDoor.Iw
set_option maxRecDepth 100000

theorem infoPT : (Tryd.prog.info? PT).map (fun i => (i.zero, i.size, i.bytes)) = some (some zeroV, 11, 144) := by kernel_rfl
/-- A part, and the slice of its recipe. -/
structure PV where
  p : Mp.P
  v : Value
def pvC (x : PV) : List Value := (partC x.p x.v).toList
def pvsC (X : List PV) : List Value := X.flatMap pvC
theorem pvsC_snoc (X : List PV) (x : PV) : pvsC (X ++ [x]) = pvsC X ++ pvC x := by simp [pvsC]
theorem pvC_len (x : PV) : (pvC x).length = 11 := rfl
theorem pvsC_get {X : List PV} {k j : Nat} (h : k < X.length) (hj : j < 11) : (pvsC X)[k * 11 + j]? = (pvC X[k])[j]? := by
  induction X generalizing k with
  | nil => cases h
  | cons x r ih =>
    show (pvC x ++ pvsC r)[k * 11 + j]? = _
    cases k with
    | zero => rw [Nat.zero_mul, Nat.zero_add, List.getElem?_append_left (by rw [pvC_len]; exact hj)]; rfl
    | succ k =>
      rw [List.getElem?_append_right (by rw [pvC_len]; omega), pvC_len, show (k + 1) * 11 + j - 11 = k * 11 + j by omega]
      exact ih (by simpa using h)
/-- A row of parts of the call's own, and the rows of their recipes, each in a block of its own. -/
structure Ps (w : World) (lo : Nat) (v : Value) (X : List PV) : Prop where
  row : w.ownsRow lo PT 11 v X.length (pvsC X)
  each : ∀ x ∈ X, w.ownsRow lo LT 3 x.v x.p.recipe.length (linesC x.p.recipe)
  apart : X.Pairwise fun x y => x.v.ownBlock = none ∨ x.v.ownBlock ≠ y.v.ownBlock
theorem Ps.nil (w : World) (lo : Nat) : Ps w lo (.slice none 0 0) [] := ⟨World.ownsRow_nil _ _ _ _, fun _ h => absurd h List.not_mem_nil, List.Pairwise.nil⟩
theorem Ps.below {w w' : World} {lo : Nat} {v : Value} {X : List PV} (h : Ps w lo v X) (hB : Below w.heap.size w w') : Ps w' lo v X :=
  ⟨owns_below h.row hB, fun x hx => owns_below (h.each x hx) hB, h.apart⟩
theorem Ps.kept {w w' : World} {lo : Nat} {v : Value} {X : List PV} (h : Ps w lo v X) (hk : ∀ g, lo ≤ g → g < w.heap.size → w'.heap[g]? = w.heap[g]?) : Ps w' lo v X :=
  ⟨own_kept h.row fun g hg => hk g (h.row.lt g hg).1 (h.row.lt g hg).2, fun x hx => own_kept (h.each x hx) fun g hg => hk g ((h.each x hx).lt g hg).1 ((h.each x hx).lt g hg).2, h.apart⟩
/-- One part more. -/
theorem Ps.snoc {w w' : World} {lo : Nat} {v v' : Value} {X : List PV} {x : PV} (h : Ps w lo v X) (hx : w.ownsRow lo LT 3 x.v x.p.recipe.length (linesC x.p.recipe))
    (ha : ∀ y ∈ X, y.v.ownBlock = none ∨ y.v.ownBlock ≠ x.v.ownBlock) (ho : w'.ownsRow lo PT 11 v' (X.length + 1) (pvsC X ++ pvC x)) (hg : w.grownBy w' v.ownBlock) : Ps w' lo v' (X ++ [x]) := by
  have hin : ∀ y : PV, w.ownsRow lo LT 3 y.v y.p.recipe.length (linesC y.p.recipe) → w'.ownsRow lo LT 3 y.v y.p.recipe.length (linesC y.p.recipe) := fun y hy =>
    own_kept hy fun g hg' => hg.block g (hy.lt g hg').2 (by
      have := rows_ne hy h.row (by decide)
      rw [hg'] at this
      rcases this with e | e
      · cases e
      · exact e)
  refine ⟨by rw [List.length_append, pvsC_snoc]; exact ho, fun y hy => ?_, ?_⟩
  · rcases List.mem_append.1 hy with hy | hy
    · exact hin y (h.each y hy)
    · rw [List.mem_singleton.1 hy]; exact hin x hx
  · rw [List.pairwise_append]
    exact ⟨h.apart, List.pairwise_singleton _ _, fun y hy z hz => by rw [List.mem_singleton.1 hz]; exact ha y hy⟩
theorem cells_new (w : World) (cs : Array Value) (T : TypeId) {n : Nat} (hn : w.heap.size = n) : ∀ (j : Nat) (u : Value), cs.toList[j]? = some u → (w.alloc (.cells cs T)).cell? ((⟨n, 0, none⟩ : Addr).add j) = some u := by
  subst hn
  intro j u hj
  have hlt : j < cs.size := by have := (List.getElem?_eq_some_iff.1 hj).1; simpa using this
  rw [Addr.add_lit, World.cell?_alloc_at _ _ _ _ (by simp)]
  simp at hj ⊢; exact hj

/-- A part that is laid into fresh cells. -/
theorem fold_part (p : Mp.P) (v : Value) : Array.foldl (fun (cs : Array Value) x => cs.setIfInBounds x.snd x.fst)
    #[.int .i64 0, .int .i64 0, .string ⟨#[]⟩, .string ⟨#[]⟩, .string ⟨#[]⟩, .bool false, .bool false, .string ⟨#[]⟩, .string ⟨#[]⟩, .string ⟨#[]⟩, .slice none 0 0] (partC p v).zipIdx 0 (partC p v).size = partC p v := by
  unfold partC; simp [List.zipIdx]

theorem fold_part' (p : Mp.P) (v : Value) : Array.foldl (fun (cs : Array Value) x => cs.setIfInBounds x.snd x.fst)
    #[.int .i64 0, .int .i64 0, .string ⟨#[]⟩, .string ⟨#[]⟩, .string ⟨#[]⟩, .bool false, .bool false, .string ⟨#[]⟩, .string ⟨#[]⟩, .string ⟨#[]⟩, .slice none 0 0] (partC p v).zipIdx 0 11 = partC p v := fold_part p v
/-- What add returns. -/
def AddPost (w : World) (lo : Nat) (v : Value) (X : List PV) (o : Option (List Mp.P)) (e : Ending) (w' : World) : Prop :=
  (match o with
    | none => ∃ a n c, e = .returned (.tuple #[.slice a n c, .bool false])
    | some L => ∃ X a c, X.map PV.p = L ∧ e = .returned (.tuple #[.slice a X.length c, .bool true]) ∧ Ps w' lo (.slice a X.length c) X) ∧ Below lo w w' ∧ ∀ g, g < w.heap.size → v.ownBlock ≠ some g → (∀ x ∈ X, x.v.ownBlock ≠ some g) → w'.heap[g]? = w.heap[g]?

set_option maxHeartbeats 2000000 in
theorem add_row (w : World) (lo : Nat) (a : Option Addr) (c : Nat) (X : List PV) (n : Nat) (t : Bs) (hlo : lo ≤ w.heap.size) (hX : Ps w lo (.slice a X.length c) X) (hl : X.length ≤ 200000) (hs : t.length ≤ 100000) :
    Calls Tryd.prog 14 #[.slice a X.length c, .agg #[.int .i64 (n : Int), .string (str t), .bool false]] w (AddPost w lo (.slice a X.length c) X (Mp.addA (X.map PV.p) ⟨n, t, false⟩)) := by
  obtain ⟨i0, hi, hz0, hz1, hz2⟩ := info_parts infoPT
  have HB := Lib.hid ((Below.refl w.heap.size w).alloc (Nat.le_refl _) (.cells #[.int .i64 (n : Int), .string (str t), .bool false] LT))
  have H0 := Lib.hid (lineBox w n t false)
  have c0 := cell_at (i := 0) H0.out rfl
  have c1 := cell_at (i := 1) H0.out rfl
  have c2 := cell_at (i := 2) H0.out rfl
  have HP := Lib.hid fun W => part_any W n t false hs
  have HXX := Lib.hid hX
  clear hX
  cases hp : Mp.partA n t with
  | none =>
    have HN : Hid (Mp.addA (X.map PV.p) ⟨n, t, false⟩ = none) := Lib.hid (by unfold Mp.addA; rw [if_neg (by exact Bool.false_ne_true)]; show (Mp.partA n t).map _ = _; rw [hp]; rfl)
    rw [hp] at HP
    clear hp
    go_enter Tryd.func14, Tryd.ntmps14
    go_wp2_with fail
    refine (HP.out _).mono ?_
    rintro e w1 ⟨rfl, B1⟩
    have HB1 := Lib.hid (HB.out.trans (B1.mono (by simp)))
    have hs1 := HB1.out.size
    have HX := Lib.hid (heap_alloc_last w1 (.cells zeroC PT))
    have HP1 := Lib.hid (HXX.out.below HB1.out)
    clear B1
    go_wp2_with (first
      | (refine store_box rfl PT _ _ rfl w1.heap.size zeroC rfl rfl PT zeroC HX.out sizeP rfl oneZ ?_; intro W3 HG3 HE3; have HP3 := Lib.hid (HP1.out.kept (w' := W3) fun g h1 h2 => by rw [HE3.out]; exact (setRow_other _ _ _ _ (by omega)).trans (((Below.refl w1.heap.size w1).alloc (Nat.le_refl _) (.cells zeroC PT)).block g h2)); have HB3 : Hid (Below w.heap.size w W3) := Lib.hid (by rw [HE3.out]; exact below_setRow (HB1.out.alloc hs1 _) hs1 _); have hs3 := HB3.out.size)
      | (refine wpList_load_row rfl PT _ rfl w1.heap.size rfl PT zeroC (0, 0) _ HG3.out undP rfl sizeP ?_)
      | (at_builtin; refine wpList_append_own_at _ rfl _ _ 24 rfl lo PT i0 zeroV 11 144 Tryd.underlying24 hi hz0 hz1 hz2 rfl (by decide) _ _ _ rfl (HP3.out.below ((Below.refl _ _).alloc (Nat.le_refl _) _)).row ⟨W3.heap.size, 0, none⟩ 1 1 zeroC.toList rfl rfl (cells_new _ zeroC _ rfl) (by simp [zeroC, Value.oneCell']) (by unfold maxLen; omega) (by omega) (by simp; omega) ?_; intro v' w4 hown' hgrow _ hat; obtain ⟨a4, c4, rfl⟩ := owns_slice hown'))
    go_ret2
    rw [HN.out]
    exact ⟨⟨_, _, _, rfl⟩, ((HB3.out.mono hlo).alloc (by omega) _).grown hgrow (by simp; omega) fun j ej => (HP3.out.row.lt j ej).1, fun g h1 h2 _ => (hgrow.block g (by simp; omega) fun e => h2 e.symm).trans (((HB3.out.alloc hs3 _).block g h1))⟩
  | some p =>
    have HN : Hid (Mp.addA (X.map PV.p) ⟨n, t, false⟩ = some (X.map PV.p ++ [p])) := Lib.hid (by unfold Mp.addA; rw [if_neg (by exact Bool.false_ne_true)]; show (Mp.partA n t).map _ = _; rw [hp]; rfl)
    rw [hp] at HP
    clear hp
    go_enter Tryd.func14, Tryd.ntmps14
    go_wp2_with fail
    refine (HP.out _).mono ?_
    rintro e w1 ⟨⟨ar, cr, rfl, hor⟩, B1⟩
    have HB1 := Lib.hid (HB.out.trans (B1.mono (by simp)))
    have hs1 := HB1.out.size
    have HX := Lib.hid (heap_alloc_last w1 (.cells zeroC PT))
    have HP1 := Lib.hid (HXX.out.below HB1.out)
    have HO := Lib.hid hor
    clear B1 hor
    have hpc : (partC p (.slice ar p.recipe.length cr)).size = 11 := rfl
    go_wp2_with (first
      | (refine store_box rfl PT _ _ rfl w1.heap.size (partC p (.slice ar p.recipe.length cr)) rfl rfl PT zeroC HX.out sizeP rfl (oneP _ _ _ _) ?_; intro W3 HG3 HE3; have HK := Lib.hid (show ∀ g, g < w1.heap.size → W3.heap[g]? = w1.heap[g]? from fun g h2 => by rw [HE3.out]; exact (setRow_other _ _ _ _ (by omega)).trans (((Below.refl w1.heap.size w1).alloc (Nat.le_refl _) (.cells zeroC PT)).block g h2)); have HP3 := Lib.hid (HP1.out.kept (w' := W3) fun g h1 h2 => HK.out g h2); have HO3 := Lib.hid (own_kept (w' := W3) HO.out fun g hg => HK.out g (HO.out.lt g hg).2); have HB3 : Hid (Below w.heap.size w W3) := Lib.hid (by rw [HE3.out]; exact below_setRow (HB1.out.alloc hs1 _) hs1 _); have hs3 := HB3.out.size)
      | (refine wpList_load_row rfl PT _ rfl w1.heap.size rfl PT (partC p (.slice ar p.recipe.length cr)) (0, 0) _ HG3.out undP rfl sizeP ?_)
      | (at_builtin; rw [fold_part']; refine wpList_append_own_at _ rfl _ _ 24 rfl lo PT i0 zeroV 11 144 Tryd.underlying24 hi hz0 hz1 hz2 rfl (by decide) _ _ _ rfl (HP3.out.below ((Below.refl _ _).alloc (Nat.le_refl _) _)).row ⟨W3.heap.size, 0, none⟩ 1 1 (pvC ⟨p, .slice ar p.recipe.length cr⟩) rfl rfl (cells_new _ (partC p (.slice ar p.recipe.length cr)) _ rfl) (by simp [pvC, partC, Value.oneCell']) (by unfold maxLen; omega) (by omega) (by simp; omega) ?_; intro v' w4 hown' hgrow _ hat; obtain ⟨a4, c4, rfl⟩ := owns_slice hown'))
    go_ret2
    rw [HN.out]
    have hfresh : ∀ y ∈ X, y.v.ownBlock = none ∨ y.v.ownBlock ≠ (Value.slice ar p.recipe.length cr).ownBlock := fun y hy => by
      cases hb : y.v.ownBlock with
      | none => exact .inl rfl
      | some g =>
        refine .inr fun e => ?_
        have h1 := ((HXX.out.each y hy).lt g hb).2
        have h2 := (HO.out.lt g e.symm).1
        simp at h2
        omega
    have HS := ((HP3.out.below ((Below.refl W3.heap.size W3).alloc (Nat.le_refl _) (.cells (partC p (.slice ar p.recipe.length cr)) PT))).snoc (x := ⟨p, .slice ar p.recipe.length cr⟩) (owns_below (own_mono HO3.out (by simp; omega)) ((Below.refl _ _).alloc (Nat.le_refl _) _)) hfresh hown' hgrow)
    refine ⟨⟨X ++ [⟨p, .slice ar p.recipe.length cr⟩], a4, c4, by simp, by rw [List.length_append]; rfl, by rw [List.length_append]; exact HS⟩, ((HB3.out.mono hlo).alloc (by omega) _).grown hgrow (by simp; omega) fun j ej => (HP3.out.row.lt j ej).1, fun g h1 h2 _ => (hgrow.block g (by simp; omega) fun e => h2 e.symm).trans (((HB3.out.alloc hs3 _).block g h1))⟩
end Go.Proofs.YtjjlafbdhpojpaaDoor.Mw
