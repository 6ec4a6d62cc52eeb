/-
  A list of parts in memory; makefile.add at a line that is no recipe's.
  makefile.add at a recipe's line.
-/
import Derived.Maps.AppendAt
import Derived.Test.YtpliljcjjffipaaGreatDoorQMPart
namespace Go.Proofs.YtpliljcjjffipaaGreatDoor.Mw
open Go.RowKit Go.Proofs.YtpliljcjjffipaaGreatDoor Go.Proofs.YtpliljcjjffipaaGreatDoor.Ww Go.Proofs.YtpliljcjjffipaaGreatDoor.Iw
set_option maxRecDepth 100000

theorem infoPT : (Tryz.prog.info? PT).map (fun i => (i.zero, i.size, i.bytes)) = some (some zeroV, 11, 144) := by kernel_rfl
/-- A part, and the slice of its recipe. -/
structure PV where
  p : Mp.P
  v : Value
def pvC (x : PV) : List Value := (partC x.p x.v).toList
def pvsC (X : List PV) : List Value := X.flatMap pvC
theorem pvsC_snoc (X : List PV) (x : PV) : pvsC (X ++ [x]) = pvsC X ++ pvC x := by simp [pvsC]
theorem pvC_len (x : PV) : (pvC x).length = 11 := rfl
theorem pvsC_get {X : List PV} {k j : Nat} (h : k < X.length) (hj : j < 11) : (pvsC X)[k * 11 + j]? = (pvC X[k])[j]? := by
  induction X generalizing k with
  | nil => cases h
  | cons x r ih =>
    show (pvC x ++ pvsC r)[k * 11 + j]? = _
    cases k with
    | zero => rw [Nat.zero_mul, Nat.zero_add, List.getElem?_append_left (by rw [pvC_len]; exact hj)]; rfl
    | succ k =>
      rw [List.getElem?_append_right (by rw [pvC_len]; omega), pvC_len, show (k + 1) * 11 + j - 11 = k * 11 + j by omega]
      exact ih (by simpa using h)
/-- A row of parts of the call's own, and the rows of their recipes, each in a block of its own. -/
structure Ps (w : World) (lo : Nat) (v : Value) (X : List PV) : Prop where
  row : w.ownsRow lo PT 11 v X.length (pvsC X)
  each : ∀ x ∈ X, w.ownsRow lo LT 3 x.v x.p.recipe.length (linesC x.p.recipe)
  apart : X.Pairwise fun x y => x.v.ownBlock = none ∨ x.v.ownBlock ≠ y.v.ownBlock
theorem Ps.nil (w : World) (lo : Nat) : Ps w lo (.slice none 0 0) [] := ⟨World.ownsRow_nil _ _ _ _, fun _ h => absurd h List.not_mem_nil, List.Pairwise.nil⟩
theorem Ps.below {w w' : World} {lo : Nat} {v : Value} {X : List PV} (h : Ps w lo v X) (hB : Below w.heap.size w w') : Ps w' lo v X :=
  ⟨owns_below h.row hB, fun x hx => owns_below (h.each x hx) hB, h.apart⟩
theorem Ps.kept {w w' : World} {lo : Nat} {v : Value} {X : List PV} (h : Ps w lo v X) (hk : ∀ g, lo ≤ g → g < w.heap.size → w'.heap[g]? = w.heap[g]?) : Ps w' lo v X :=
  ⟨own_kept h.row fun g hg => hk g (h.row.lt g hg).1 (h.row.lt g hg).2, fun x hx => own_kept (h.each x hx) fun g hg => hk g ((h.each x hx).lt g hg).1 ((h.each x hx).lt g hg).2, h.apart⟩
/-- One part more. -/
theorem Ps.snoc {w w' : World} {lo : Nat} {v v' : Value} {X : List PV} {x : PV} (h : Ps w lo v X) (hx : w.ownsRow lo LT 3 x.v x.p.recipe.length (linesC x.p.recipe))
    (ha : ∀ y ∈ X, y.v.ownBlock = none ∨ y.v.ownBlock ≠ x.v.ownBlock) (ho : w'.ownsRow lo PT 11 v' (X.length + 1) (pvsC X ++ pvC x)) (hg : w.grownBy w' v.ownBlock) : Ps w' lo v' (X ++ [x]) := by
  have hin : ∀ y : PV, w.ownsRow lo LT 3 y.v y.p.recipe.length (linesC y.p.recipe) → w'.ownsRow lo LT 3 y.v y.p.recipe.length (linesC y.p.recipe) := fun y hy =>
    own_kept hy fun g hg' => hg.block g (hy.lt g hg').2 (by
      have := rows_ne hy h.row (by decide)
      rw [hg'] at this
      rcases this with e | e
      · cases e
      · exact e)
  refine ⟨by rw [List.length_append, pvsC_snoc]; exact ho, fun y hy => ?_, ?_⟩
  · rcases List.mem_append.1 hy with hy | hy
    · exact hin y (h.each y hy)
    · rw [List.mem_singleton.1 hy]; exact hin x hx
  · rw [List.pairwise_append]
    exact ⟨h.apart, List.pairwise_singleton _ _, fun y hy z hz => by rw [List.mem_singleton.1 hz]; exact ha y hy⟩
theorem cells_new (w : World) (cs : Array Value) (T : TypeId) {n : Nat} (hn : w.heap.size = n) : ∀ (j : Nat) (u : Value), cs.toList[j]? = some u → (w.alloc (.cells cs T)).cell? ((⟨n, 0, none⟩ : Addr).add j) = some u := by
  subst hn
  intro j u hj
  have hlt : j < cs.size := by have := (List.getElem?_eq_some_iff.1 hj).1; simpa using this
  rw [Addr.add_lit, World.cell?_alloc_at _ _ _ _ (by simp)]
  simp at hj ⊢; exact hj

/-- A part that is laid into fresh cells. -/
theorem fold_part (p : Mp.P) (v : Value) : Array.foldl (fun (cs : Array Value) x => cs.setIfInBounds x.snd x.fst)
    #[.int .i64 0, .int .i64 0, .string ⟨#[]⟩, .string ⟨#[]⟩, .string ⟨#[]⟩, .bool false, .bool false, .string ⟨#[]⟩, .string ⟨#[]⟩, .string ⟨#[]⟩, .slice none 0 0] (partC p v).zipIdx 0 (partC p v).size = partC p v := by
  unfold partC; simp [List.zipIdx]

theorem fold_part' (p : Mp.P) (v : Value) : Array.foldl (fun (cs : Array Value) x => cs.setIfInBounds x.snd x.fst)
    #[.int .i64 0, .int .i64 0, .string ⟨#[]⟩, .string ⟨#[]⟩, .string ⟨#[]⟩, .bool false, .bool false, .string ⟨#[]⟩, .string ⟨#[]⟩, .string ⟨#[]⟩, .slice none 0 0] (partC p v).zipIdx 0 11 = partC p v := fold_part p v
/-- What add returns. -/
def AddPost (w : World) (lo : Nat) (v : Value) (X : List PV) (o : Option (List Mp.P)) (e : Ending) (w' : World) : Prop :=
  (match o with
    | none => ∃ a n c, e = .returned (.tuple #[.slice a n c, .bool false])
    | some L => ∃ X a c, X.map PV.p = L ∧ e = .returned (.tuple #[.slice a X.length c, .bool true]) ∧ Ps w' lo (.slice a X.length c) X) ∧ Below lo w w' ∧ ∀ g, g < w.heap.size → v.ownBlock ≠ some g → (∀ x ∈ X, x.v.ownBlock ≠ some g) → w'.heap[g]? = w.heap[g]?

set_option maxHeartbeats 2000000 in
theorem add_row (w : World) (lo : Nat) (a : Option Addr) (c : Nat) (X : List PV) (n : Nat) (t : Bs) (hlo : lo ≤ w.heap.size) (hX : Ps w lo (.slice a X.length c) X) (hl : X.length ≤ 200000) (hs : t.length ≤ 100000) :
    Calls Tryz.prog 64 #[.slice a X.length c, .agg #[.int .i64 (n : Int), .string (str t), .bool false]] w (AddPost w lo (.slice a X.length c) X (Mp.addA (X.map PV.p) ⟨n, t, false⟩)) := by
  obtain ⟨i0, hi, hz0, hz1, hz2⟩ := info_parts infoPT
  have HB := Lib.hid ((Below.refl w.heap.size w).alloc (Nat.le_refl _) (.cells #[.int .i64 (n : Int), .string (str t), .bool false] LT))
  have H0 := Lib.hid (lineBox w n t false)
  have c0 := cell_at (i := 0) H0.out rfl
  have c1 := cell_at (i := 1) H0.out rfl
  have c2 := cell_at (i := 2) H0.out rfl
  have HP := Lib.hid fun W => part_any W n t false hs
  have HXX := Lib.hid hX
  clear hX
  cases hp : Mp.partA n t with
  | none =>
    have HN : Hid (Mp.addA (X.map PV.p) ⟨n, t, false⟩ = none) := Lib.hid (by unfold Mp.addA; rw [if_neg (by exact Bool.false_ne_true)]; show (Mp.partA n t).map _ = _; rw [hp]; rfl)
    rw [hp] at HP
    clear hp
    go_enter Tryz.func64, Tryz.ntmps64
    go_wp2_with fail
    refine (HP.out _).mono ?_
    rintro e w1 ⟨rfl, B1⟩
    have HB1 := Lib.hid (HB.out.trans (B1.mono (by simp)))
    have hs1 := HB1.out.size
    have HX := Lib.hid (heap_alloc_last w1 (.cells zeroC PT))
    have HP1 := Lib.hid (HXX.out.below HB1.out)
    clear B1
    go_wp2_with (first
      | (refine store_box rfl PT _ _ rfl w1.heap.size zeroC rfl rfl PT zeroC HX.out sizeP rfl oneZ ?_; intro W3 HG3 HE3; have HP3 := Lib.hid (HP1.out.kept (w' := W3) fun g h1 h2 => by rw [HE3.out]; exact (setRow_other _ _ _ _ (by omega)).trans (((Below.refl w1.heap.size w1).alloc (Nat.le_refl _) (.cells zeroC PT)).block g h2)); have HB3 : Hid (Below w.heap.size w W3) := Lib.hid (by rw [HE3.out]; exact below_setRow (HB1.out.alloc hs1 _) hs1 _); have hs3 := HB3.out.size)
      | (refine wpList_load_row rfl PT _ rfl w1.heap.size rfl PT zeroC (0, 0) _ HG3.out undP rfl sizeP ?_)
      | (at_builtin; refine wpList_append_own_at _ rfl _ _ 105 rfl lo PT i0 zeroV 11 144 Tryz.underlying105 hi hz0 hz1 hz2 rfl (by decide) _ _ _ rfl (HP3.out.below ((Below.refl _ _).alloc (Nat.le_refl _) _)).row ⟨W3.heap.size, 0, none⟩ 1 1 zeroC.toList rfl rfl (cells_new _ zeroC _ rfl) (by simp [zeroC, Value.oneCell']) (by unfold maxLen; omega) (by omega) (by simp; omega) ?_; intro v' w4 hown' hgrow _ hat; obtain ⟨a4, c4, rfl⟩ := owns_slice hown'))
    go_ret2
    rw [HN.out]
    exact ⟨⟨_, _, _, rfl⟩, ((HB3.out.mono hlo).alloc (by omega) _).grown hgrow (by simp; omega) fun j ej => (HP3.out.row.lt j ej).1, fun g h1 h2 _ => (hgrow.block g (by simp; omega) fun e => h2 e.symm).trans (((HB3.out.alloc hs3 _).block g h1))⟩
  | some p =>
    have HN : Hid (Mp.addA (X.map PV.p) ⟨n, t, false⟩ = some (X.map PV.p ++ [p])) := Lib.hid (by unfold Mp.addA; rw [if_neg (by exact Bool.false_ne_true)]; show (Mp.partA n t).map _ = _; rw [hp]; rfl)
    rw [hp] at HP
    clear hp
    go_enter Tryz.func64, Tryz.ntmps64
    go_wp2_with fail
    refine (HP.out _).mono ?_
    rintro e w1 ⟨⟨ar, cr, rfl, hor⟩, B1⟩
    have HB1 := Lib.hid (HB.out.trans (B1.mono (by simp)))
    have hs1 := HB1.out.size
    have HX := Lib.hid (heap_alloc_last w1 (.cells zeroC PT))
    have HP1 := Lib.hid (HXX.out.below HB1.out)
    have HO := Lib.hid hor
    clear B1 hor
    have hpc : (partC p (.slice ar p.recipe.length cr)).size = 11 := rfl
    go_wp2_with (first
      | (refine store_box rfl PT _ _ rfl w1.heap.size (partC p (.slice ar p.recipe.length cr)) rfl rfl PT zeroC HX.out sizeP rfl (oneP _ _ _ _) ?_; intro W3 HG3 HE3; have HK := Lib.hid (show ∀ g, g < w1.heap.size → W3.heap[g]? = w1.heap[g]? from fun g h2 => by rw [HE3.out]; exact (setRow_other _ _ _ _ (by omega)).trans (((Below.refl w1.heap.size w1).alloc (Nat.le_refl _) (.cells zeroC PT)).block g h2)); have HP3 := Lib.hid (HP1.out.kept (w' := W3) fun g h1 h2 => HK.out g h2); have HO3 := Lib.hid (own_kept (w' := W3) HO.out fun g hg => HK.out g (HO.out.lt g hg).2); have HB3 : Hid (Below w.heap.size w W3) := Lib.hid (by rw [HE3.out]; exact below_setRow (HB1.out.alloc hs1 _) hs1 _); have hs3 := HB3.out.size)
      | (refine wpList_load_row rfl PT _ rfl w1.heap.size rfl PT (partC p (.slice ar p.recipe.length cr)) (0, 0) _ HG3.out undP rfl sizeP ?_)
      | (at_builtin; rw [fold_part']; refine wpList_append_own_at _ rfl _ _ 105 rfl lo PT i0 zeroV 11 144 Tryz.underlying105 hi hz0 hz1 hz2 rfl (by decide) _ _ _ rfl (HP3.out.below ((Below.refl _ _).alloc (Nat.le_refl _) _)).row ⟨W3.heap.size, 0, none⟩ 1 1 (pvC ⟨p, .slice ar p.recipe.length cr⟩) rfl rfl (cells_new _ (partC p (.slice ar p.recipe.length cr)) _ rfl) (by simp [pvC, partC, Value.oneCell']) (by unfold maxLen; omega) (by omega) (by simp; omega) ?_; intro v' w4 hown' hgrow _ hat; obtain ⟨a4, c4, rfl⟩ := owns_slice hown'))
    go_ret2
    rw [HN.out]
    have hfresh : ∀ y ∈ X, y.v.ownBlock = none ∨ y.v.ownBlock ≠ (Value.slice ar p.recipe.length cr).ownBlock := fun y hy => by
      cases hb : y.v.ownBlock with
      | none => exact .inl rfl
      | some g =>
        refine .inr fun e => ?_
        have h1 := ((HXX.out.each y hy).lt g hb).2
        have h2 := (HO.out.lt g e.symm).1
        simp at h2
        omega
    have HS := ((HP3.out.below ((Below.refl W3.heap.size W3).alloc (Nat.le_refl _) (.cells (partC p (.slice ar p.recipe.length cr)) PT))).snoc (x := ⟨p, .slice ar p.recipe.length cr⟩) (owns_below (own_mono HO3.out (by simp; omega)) ((Below.refl _ _).alloc (Nat.le_refl _) _)) hfresh hown' hgrow)
    refine ⟨⟨X ++ [⟨p, .slice ar p.recipe.length cr⟩], a4, c4, by simp, by rw [List.length_append]; rfl, by rw [List.length_append]; exact HS⟩, ((HB3.out.mono hlo).alloc (by omega) _).grown hgrow (by simp; omega) fun j ej => (HP3.out.row.lt j ej).1, fun g h1 h2 _ => (hgrow.block g (by simp; omega) fun e => h2 e.symm).trans (((HB3.out.alloc hs3 _).block g h1))⟩
end Go.Proofs.YtpliljcjjffipaaGreatDoor.Mw
namespace Go.Proofs.YtpliljcjjffipaaGreatDoor.Mw
open Go.RowKit Go.Proofs.YtpliljcjjffipaaGreatDoor Go.Proofs.YtpliljcjjffipaaGreatDoor.Ww Go.Proofs.YtpliljcjjffipaaGreatDoor.Iw
set_option maxRecDepth 100000

theorem step_append_own {P : Program} {ops : Array Oper} {o : Oper} {a : Act} {w : World} {K : Act → World → Prop} {Q : Exit → Act → World → Prop} {E : Prop} (hgd : o.guard = none) (s x : Operand) (t : TypeId)
    (ho : o.op = .call { callee := .builtin .append, args := #[s, x], argTypes := #[t, t] })
    (base : Nat) (e : TypeId) (i : TypeInfo) (z : Value) (size bytes : Nat) (ht : P.underlying t = some (.slice e)) (hi : P.info? e = some i) (hz : i.zero = some z)
    (hsize : i.size = size) (hby : i.bytes = bytes) (hzs : z.cells.size = size) (hsz : 0 < size)
    (v : Value) (n : Nat) (xs : List Value) (hs : a.eval s = v) (hown : w.ownsRow base e size v n xs) (ad : Addr) (m c : Nat) (news : List Value) (hx : a.eval x = .slice (some ad) m c) (hl : news.length = m * size)
    (hnews : ∀ j u, news[j]? = some u → w.cell? (ad.add j) = some u) (h1 : ∀ u ∈ news, u.oneCell' = true)
    (h63 : n + m ≤ maxLen) (hbytes : (n + m) * bytes ≤ 140737488355328) (hbase : base ≤ w.heap.size)
    (h : ∀ v' w', w'.ownsRow base e size v' (n + m) (xs ++ news) → w.grownBy w' v.ownBlock → (v'.ownBlock = v.ownBlock ∨ v'.ownBlock = some w.heap.size) → K (a.put o.dst v') w') :
    if Region.wanted o (yielded ops a.tmps) = true then Oper.wp P o a w K Q else E := by
  rw [if_pos (by simp [Region.wanted, hgd])]
  obtain ⟨v', w', run, own, grew, _, hat⟩ := run_append_own_at (P := P) (w := w) base t o.type e i z size bytes ht hi hz hsize hby hzs hsz v n xs hown ad m c news hl hnews h1 h63 hbytes hbase
  unfold Oper.wp
  simp [execOp, ho, resolve, invoke, builtin, hs, hx, run, Result.andThen]
  exact h v' w' own grew hat
abbrev LLT : TypeId := 85
/-- A recipe's line more, for the last part. -/
def recP (x : PV) (l : Ip.L) (v : Value) : PV := ⟨{ x.p with recipe := x.p.recipe ++ [l] }, v⟩
theorem set_last (Y : List PV) (x : PV) (l : Ip.L) (v : Value) : (pvsC (Y ++ [x])).set (Y.length * 11 + 10) v = pvsC (Y ++ [recP x l v]) := by
  have hl : (pvsC Y).length = Y.length * 11 := by
    clear x l v
    induction Y with
    | nil => rfl
    | cons y Y ih => show (pvC y ++ pvsC Y).length = _; rw [List.length_append, ih, pvC_len, List.length_cons]; omega
  rw [pvsC_snoc, pvsC_snoc, List.set_append_right _ _ (by omega), hl, Nat.add_sub_cancel_left]
  rfl
theorem Ps.rec_ {w w' : World} {lo g c n : Nat} {Y : List PV} {x : PV} {l : Ip.L} {v' : Value} (h : Ps w lo (.slice (some ⟨g, 0, none⟩) n c) (Y ++ [x])) (hn : n = (Y ++ [x]).length)
    (ho : w'.ownsRow lo LT 3 v' (x.p.recipe.length + 1) (linesC x.p.recipe ++ linesC [l])) (hg : w.grownBy w' x.v.ownBlock) (hat : v'.ownBlock = x.v.ownBlock ∨ v'.ownBlock = some w.heap.size) :
    Ps (w'.setCell ⟨g, Y.length * 11 + 10, none⟩ v') lo (.slice (some ⟨g, 0, none⟩) n c) (Y ++ [recP x l v']) ∧ w'.cell? ⟨g, Y.length * 11 + 10, none⟩ = some x.v ∧ (∀ j, w'.frozen? ⟨g, j, none⟩ = false) ∧
    (∀ i, i < w.heap.size → some i ≠ x.v.ownBlock → i ≠ g → (w'.setCell ⟨g, Y.length * 11 + 10, none⟩ v').heap[i]? = w.heap[i]?) ∧ Below lo w (w'.setCell ⟨g, Y.length * 11 + 10, none⟩ v') := by
  subst hn
  have hx := h.each x (by simp)
  have hlt := h.row.lt g rfl
  have hne : some g ≠ x.v.ownBlock := fun e => by
    have := rows_ne hx h.row (by decide)
    rw [← e] at this
    rcases this with e | e
    · cases e
    · exact e rfl
  have hrow := h.row.kept hg (.inr hne)
  have hne' : v'.ownBlock ≠ some g := by
    rcases hat with e | e
    · rw [e]; exact fun e => hne e.symm
    · rw [e]; intro e; have := Option.some.inj e; omega
  have hset : ∀ i, i ≠ g → (w'.setCell ⟨g, Y.length * 11 + 10, none⟩ v').heap[i]? = w'.heap[i]? := fun i hi => Below.heap_setCell _ _ _ _ hi
  have hpw := h.apart
  rw [List.pairwise_append] at hpw
  have hap : ∀ y ∈ Y, y.v.ownBlock = none ∨ y.v.ownBlock ≠ x.v.ownBlock := fun y hy => hpw.2.2 y hy x (by simp)
  refine ⟨⟨?_, fun y hy => ?_, ?_⟩, ?_, fun j => hrow.frozenAt j, fun i h1 h2 h3 => (hset i h3).trans (hg.block i h1 h2), ?_⟩
  · have := (hrow.stored (Y.length * 11 + 10) v').1
    rw [set_last Y x l v'] at this
    rw [show (Y ++ [recP x l v']).length = (Y ++ [x]).length by simp]
    exact this
  · rcases List.mem_append.1 hy with hy | hy
    · have hy1 := h.each y (by simp [hy])
      refine own_kept (hy1.kept hg (hap y hy)) fun g' hg' => hset g' ?_
      rintro rfl
      have := rows_ne hy1 h.row (by decide)
      rw [hg'] at this
      rcases this with e | e
      · cases e
      · exact e rfl
    · obtain rfl := List.mem_singleton.1 hy
      refine own_kept (w := w') ?_ fun g' hg' => hset g' (fun e => hne' (e ▸ hg'))
      show w'.ownsRow lo LT 3 v' (x.p.recipe ++ [l]).length (linesC (x.p.recipe ++ [l]))
      rw [List.length_append, linesC_app]; exact ho
  · rw [List.pairwise_append]
    refine ⟨hpw.1, List.pairwise_singleton _ _, fun y hy z hz => ?_⟩
    obtain rfl := List.mem_singleton.1 hz
    show y.v.ownBlock = none ∨ y.v.ownBlock ≠ v'.ownBlock
    rcases hat with e | e
    · rw [e]; exact hap y hy
    · rw [e]
      cases hb : y.v.ownBlock with
      | none => exact .inl rfl
      | some k =>
        refine .inr fun e => ?_
        have := ((h.each y (by simp [hy])).lt k hb).2
        have := Option.some.inj e
        omega
  · rw [hrow.cellAt _ (by simp; omega), pvsC_get (k := Y.length) (by simp) (by decide)]
    simp [pvC, partC]
  · exact ((Below.refl lo w).grown hg (by omega) fun j ej => (hx.lt j ej).1).setCell hlt.1 _

theorem row_some {w : World} {lo : Nat} {a : Option Addr} {n c : Nat} {X : List PV} (h : Ps w lo (.slice a n c) X) (h0 : X ≠ []) : ∃ g, a = some ⟨g, 0, none⟩ := by
  rcases h.row.2 with ⟨_, e⟩ | ⟨g, _, _, e, _⟩
  · exact absurd (List.length_eq_zero_iff.1 e) h0
  · injection e with e1; exact ⟨g, e1⟩
set_option maxHeartbeats 2000000 in
theorem add_rec (w : World) (lo : Nat) (a : Option Addr) (c : Nat) (X : List PV) (n : Nat) (t : Bs) (hlo : lo ≤ w.heap.size) (hX : Ps w lo (.slice a X.length c) X) (hl : X.length ≤ 200000) (hr : ∀ x ∈ X, x.p.recipe.length ≤ 200000) :
    Calls Tryz.prog 64 #[.slice a X.length c, .agg #[.int .i64 (n : Int), .string (str t), .bool true]] w (AddPost w lo (.slice a X.length c) X (Mp.addA (X.map PV.p) ⟨n, t, true⟩)) := by
  have HB := Lib.hid ((Below.refl w.heap.size w).alloc (Nat.le_refl _) (.cells #[.int .i64 (n : Int), .string (str t), .bool true] LT))
  have H0 := Lib.hid (lineBox w n t true)
  have c0 := cell_at (i := 0) H0.out rfl
  have c1 := cell_at (i := 1) H0.out rfl
  have c2 := cell_at (i := 2) H0.out rfl
  rcases List.eq_nil_or_concat X with rfl | ⟨Y, x, hXY⟩
  · have HN : Hid (Mp.addA (([] : List PV).map PV.p) ⟨n, t, true⟩ = none) := Lib.hid rfl
    clear hX hr
    go_enter Tryz.func64, Tryz.ntmps64
    go_wp2_with fail
    go_ret2
    rw [HN.out]
    exact ⟨⟨_, _, _, rfl⟩, HB.out.mono hlo, fun g h1 _ _ => HB.out.block g h1⟩
  · rw [List.concat_eq_append] at hXY
    obtain ⟨g, rfl⟩ := row_some hX (by rw [hXY]; simp)
    have hlen : X.length = Y.length + 1 := by rw [hXY]; simp
    have hXr := hX.row
    have HP0 := Lib.hid (hX.below HB.out)
    have hcell : ∀ j, j < X.length * 11 → (w.alloc (.cells #[.int .i64 (n : Int), .string (str t), .bool true] LT)).cell? ⟨g, j, none⟩ = (pvsC X)[j]? := fun j hj => HP0.out.row.cellAt j hj
    have hk0 : (w.alloc (.cells #[.int .i64 (n : Int), .string (str t), .bool true] LT)).cell? ⟨g, Y.length * 11, none⟩ = some (.int .i64 (x.p.kind : Int)) := by
      have := hcell (Y.length * 11 + 0) (by omega)
      rw [pvsC_get (k := Y.length) (by omega) (by decide)] at this
      rw [Nat.add_zero] at this
      rw [this]
      have hx : X[Y.length]'(by omega) = x := by simp [hXY]
      rw [hx]; rfl
    have hk10 : (w.alloc (.cells #[.int .i64 (n : Int), .string (str t), .bool true] LT)).cell? ⟨g, Y.length * 11 + 10, none⟩ = some x.v := by
      have := hcell (Y.length * 11 + 10) (by omega)
      rw [pvsC_get (k := Y.length) (by omega) (by decide)] at this
      rw [this]
      have hx : X[Y.length]'(by omega) = x := by simp [hXY]
      rw [hx]; rfl
    have hw1 : IntKind.i64.wrap ((Y.length : Int) + 1 - 1) = (Y.length : Int) := by rw [IntWalk.i64_in _ (by omega)]; omega
    have hw2 : (Y.length : Int) < (Y.length : Int) + 1 := by omega
    have hw3 : ((Y.length : Int) < 0) = False := by simp
    have hcap : Y.length + 1 ≤ c := by
      rcases hXr.2 with ⟨_, e⟩ | ⟨_, cap, _, e, _, _, h1, _⟩
      · omega
      · injection e with _ _ e3; omega
    by_cases hk : x.p.kind = 1
    · have HN : Hid (Mp.addA (X.map PV.p) ⟨n, t, true⟩ = some (Y.map PV.p ++ [{ x.p with recipe := x.p.recipe ++ [⟨n, t, true⟩] }])) := Lib.hid (by
        unfold Mp.addA
        rw [if_pos rfl, hXY, List.map_append, List.map_singleton, List.getLast?_concat]
        refine (if_pos hk).trans ?_
        rw [List.dropLast_concat])
      have hkn : ((x.p.kind : Int) != 1) = false := by rw [hk]; rfl
      obtain ⟨i0, hi, hz0, hz1, hz2⟩ := info_parts infoLT
      have hxe := hX.each x (by rw [hXY]; simp)
      have hrl := hr x (by rw [hXY]; simp)
      obtain ⟨av, cv, hv⟩ := owns_slice hxe
      have hX3 : ∀ o, Ps (((w.alloc (.cells #[.int .i64 (n : Int), .string (str t), .bool true] LT)).alloc o).drew) lo (.slice (some ⟨g, 0, none⟩) (Y.length + 1) c) (Y ++ [x]) := fun o => by
        have := (HP0.out.below ((Below.refl _ _).alloc (Nat.le_refl _) o)).below (Below.refl _ _).drew
        rw [hlen, hXY] at this; exact this
      have HX3 := Lib.hid hX3
      have HE3 := Lib.hid fun o => by
        have := (hX3 o).each x (by simp)
        rw [hv] at this; exact this
      have HV := Lib.hid hv
      have hY : Hid (Y.length + 1 = (Y ++ [x]).length) := Lib.hid (by simp)
      have HXY := Lib.hid hXY
      rw [hv] at hk10
      have e10 : ∀ o, ((w.alloc (.cells #[.int .i64 (n : Int), .string (str t), .bool true] LT)).alloc o).cell? ⟨g, Y.length * 11 + 10, none⟩ = some (.slice av x.p.recipe.length cv) := fun o => (((Below.refl _ _).alloc (Nat.le_refl _) o).cell (p := ⟨g, Y.length * 11 + 10, none⟩) (HP0.out.row.lt g rfl).2).trans hk10
      clear hcell hX hr hXr hxe hX3 hv hXY
      rw [hlen]
      go_enter Tryz.func64, Tryz.ntmps64
      go_wp2_with fail
      go_region_law (refine step_append_own rfl _ _ LLT rfl lo LT i0 (.agg #[.int .i64 0, .string ByteArray.empty, .bool false]) 3 32 Tryz.underlying85 hi hz0 hz1 hz2 rfl (by decide) (.slice av x.p.recipe.length cv) x.p.recipe.length (linesC x.p.recipe) (by simp [go_sem]) (HE3.out _) ⟨w.heap.size + 1, 0, none⟩ 1 1 [.int .i64 (n : Int), .string (str t), .bool true] (by simp [go_sem]) rfl (cells_new (w.alloc (.cells #[.int .i64 (n : Int), .string (str t), .bool true] LT)) #[.int .i64 (n : Int), .string (str t), .bool true] LT (by simp)) (by simp [Value.oneCell']) (by unfold maxLen; omega) (by omega) (by simp; omega) ?_; intro v1 w1 hown1 hgrow1 hat1; obtain ⟨a1, c1, rfl⟩ := owns_slice hown1; obtain ⟨g1, g2, g3, g4, g5⟩ := Ps.rec_ (l := ⟨n, t, true⟩) (HX3.out _) hY.out hown1 (HV.out ▸ hgrow1) (HV.out ▸ hat1); have z2 := g3 (Y.length * 11 + 10))
      all_goals go_wp2_with fail
      all_goals go_ret2
      all_goals rw [HN.out]
      all_goals exact ⟨⟨Y ++ [recP x ⟨n, t, true⟩ (.slice a1 (x.p.recipe.length + 1) c1)], some ⟨g, 0, none⟩, c, by rw [List.map_append, List.map_singleton]; rfl, by rw [List.length_append]; rfl, by rw [List.length_append]; exact g1⟩,
        (((HB.out.mono hlo).alloc (by simp; omega) _).drew).trans g5, fun i h1 h2 h3 => (g4 i (by simp; omega) (fun e => h3 x (by rw [HXY.out]; simp) e.symm) (fun e => h2 (by rw [e]; rfl))).trans ((HB.out.alloc (by simp) _).drew.block i h1)⟩
    · have HN : Hid (Mp.addA (X.map PV.p) ⟨n, t, true⟩ = none) := Lib.hid (by
        unfold Mp.addA
        rw [if_pos rfl, hXY, List.map_append, List.map_singleton, List.getLast?_concat]
        exact if_neg hk)
      have hkn : ((x.p.kind : Int) != 1) = true := by rw [bne_iff_ne]; omega
      clear hcell hX hr hXr hk10
      rw [hlen]
      go_enter Tryz.func64, Tryz.ntmps64
      go_wp2_with fail
      go_ret2
      rw [HN.out]
      exact ⟨⟨_, _, _, rfl⟩, HB.out.mono hlo, fun g h1 _ _ => HB.out.block g h1⟩
/-- At any line. -/
theorem add_any (w : World) (lo : Nat) (a : Option Addr) (c : Nat) (X : List PV) (n : Nat) (t : Bs) (q : Bool) (hlo : lo ≤ w.heap.size) (hX : Ps w lo (.slice a X.length c) X) (hl : X.length ≤ 200000) (hr : ∀ x ∈ X, x.p.recipe.length ≤ 200000) (hs : t.length ≤ 100000) :
    Calls Tryz.prog 64 #[.slice a X.length c, .agg #[.int .i64 (n : Int), .string (str t), .bool q]] w (AddPost w lo (.slice a X.length c) X (Mp.addA (X.map PV.p) ⟨n, t, q⟩)) := by
  cases q with
  | true => exact add_rec w lo a c X n t hlo hX hl hr
  | false => exact add_row w lo a c X n t hlo hX hl hs

theorem assign_rec {s : Bs} {p : Mp.P} (h : Mp.assignA s = some p) : p.recipe = [] := by
  unfold Mp.assignA Mp.assignO at h
  split at h
  · cases h
  · split at h
    · cases h
    · split at h
      · cases h
      · obtain rfl := Option.some.inj h; rfl
theorem names_rec {s : Bs} {k : Nat} {p : Mp.P} (h : Mp.namesA k s = some p) : p.recipe = [] := by
  unfold Mp.namesA at h
  split at h
  · cases h
  · obtain rfl := Option.some.inj h; rfl
theorem rule_rec {s : Bs} {n : Nat} {p : Mp.P} (h : Mp.ruleA n s = some p) : p.recipe.length ≤ 1 := by
  unfold Mp.ruleA at h
  split at h
  · cases h
  · split at h
    · cases h
    · split at h
      · cases h
      · unfold Mp.ruleAt at h
        split at h
        · cases h
        · obtain rfl := Option.some.inj h
          show (Mp.recA n _).length ≤ 1
          unfold Mp.recA; split <;> simp
theorem part_rec {s : Bs} {n : Nat} {p : Mp.P} (h : Mp.partA n s = some p) : p.recipe.length ≤ 1 := by
  unfold Mp.partA at h
  rw [Option.map_eq_some_iff] at h
  obtain ⟨q, h, rfl⟩ := h
  show q.recipe.length ≤ 1
  unfold Mp.oneA at h
  split at h
  · rename_i p1 h1
    obtain rfl := Option.some.inj h
    rw [assign_rec h1]; simp
  · unfold Mp.specialA at h
    split at h
    · rw [Option.map_eq_some_iff] at h
      obtain ⟨q, h, rfl⟩ := h
      show q.recipe.length ≤ 1
      rw [assign_rec h]; simp
    · split at h
      · split at h
        · rename_i q h2
          obtain rfl := Option.some.inj h
          show q.recipe.length ≤ 1
          rw [assign_rec h2]; simp
        · rw [names_rec h]; simp
      · split at h
        · rw [names_rec h]; simp
        · exact rule_rec h
theorem addA_rec {l m : List Mp.P} {x : Ip.L} {k : Nat} (h : Mp.addA l x = some m) (hl : ∀ p ∈ l, p.recipe.length ≤ k) : ∀ p ∈ m, p.recipe.length ≤ k + 1 := by
  unfold Mp.addA at h
  split at h
  · split at h
    · rename_i p hp
      split at h
      · obtain rfl := Option.some.inj h
        intro q hq
        rcases List.mem_append.1 hq with hq | hq
        · have := hl q (List.dropLast_subset _ hq); omega
        · obtain rfl := List.mem_singleton.1 hq
          have := hl p (List.mem_of_getLast? hp)
          simp; omega
      · cases h
    · cases h
  · rw [Option.map_eq_some_iff] at h
    obtain ⟨p, h, rfl⟩ := h
    intro q hq
    rcases List.mem_append.1 hq with hq | hq
    · have := hl q hq; omega
    · obtain rfl := List.mem_singleton.1 hq
      have := part_rec h; omega
end Go.Proofs.YtpliljcjjffipaaGreatDoor.Mw
