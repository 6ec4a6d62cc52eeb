/-
  makefile.part.
-/
import Derived.Test.YtjjlafbdhpojpaaDoorMSpecial
namespace Go.Proofs.YtjjlafbdhpojpaaDoor.Mw
open Go.RowKit Go.Proofs.YtjjlafbdhpojpaaDoor Go.Proofs.YtjjlafbdhpojpaaDoor.Ww Go.Proofs.YtjjlafbdhpojpaaDoor.Iw
set_option maxRecDepth 100000

set_option maxHeartbeats 2000000 in
theorem part_any (w : World) (n : Nat) (t : Bs) (q : Bool) (hs : t.length ≤ 100000) :
    Calls Tryd.prog 34 #[.agg #[.int .i64 (n : Int), .string (str t), .bool q]] w (PartPost w (Mp.partA n t)) := by
  have H0 := Lib.hid (Two.new w n t q)
  have c1 := H0.out.cells.2.1
  have HA := Lib.hid fun W => assignment_any W t hs
  have HS := Lib.hid fun W => special_any W n t q hs
  cases hp : Mp.assignA t with
  | some p =>
    have HN : Hid (Mp.partA n t = some { p with line := n }) := Lib.hid (by unfold Mp.partA Mp.oneA; rw [hp]; rfl)
    rw [hp] at HA
    clear hp HS
    go_enter Tryd.func34, Tryd.ntmps34
    go_wp2_with fail
    refine (HA.out _).mono ?_
    rintro e w1 ⟨⟨hr0, rfl⟩, B1⟩
    have HR0 := Lib.hid hr0
    have H1 := Lib.hid (H0.out.go B1)
    clear B1 hr0
    have HX := Lib.hid (heap_alloc_last w1 (.cells zeroC PT))
    have hs1 := H1.out.size
    go_wp2_with (first
      | (refine store_box rfl PT _ _ rfl w1.heap.size (partC p (.slice none 0 0)) rfl rfl PT zeroC HX.out sizeP rfl (oneP _ _ _ _) ?_; intro W3 HG3 HE3; have d5 : W3.cell? ⟨w1.heap.size, 1, none⟩ = some (.int .i64 (p.line : Int)) := cell_at HG3.out rfl; have f5 : W3.frozen? ⟨w1.heap.size, 1, none⟩ = false := frozen_at HG3.out _; have HG := Lib.hid (heap_set3 (i := 1) HG3.out (.int .i64 (n : Int))); have hT3 : Two w n t q W3 := (by rw [HE3.out]; exact box_fill_two H1.out (partC p (.slice none 0 0))); have H3 : Hid (Two w n t q (W3.setCell ⟨w1.heap.size, 1, none⟩ (.int .i64 (n : Int)))) := Lib.hid (hT3.setCell hs1 1 (.int .i64 (n : Int))); have c30 := hT3.cells.1; clear hT3)
      | (refine wpList_load_row rfl PT _ rfl w1.heap.size rfl PT (partC { p with line := n } (.slice none 0 0)) (0, 0) _ HG.out undP rfl sizeP ?_)
      | (refine wpList_store_row rfl PT _ _ rfl (w.heap.size + 1) (partC { p with line := n } (.slice none 0 0)) rfl rfl PT zeroC H3.out.out sizeP rfl (oneP _ _ _ _) ?_))
    (try simp only [Exit.inBlock, Exit.then])
    refine bodyPost_ret (results_two Tryd.results34 _ _ (w.heap.size + 1) PT (partC { p with line := n } (.slice none 0 0)) (0, 0) _ (.bool true) rfl rfl (setRow_heap _ _ _ _ _ _ H3.out.out) undP rfl sizeP) rfl ?_
    rw [HN.out]
    exact ⟨⟨none, 0, by rw [HR0.out]; rfl, by rw [HR0.out]; exact World.ownsRow_nil _ _ _ _⟩, below_setRow H3.out.below (Nat.le_succ _) _⟩
  | none =>
    rw [hp] at HA
    cases hn : Mp.specialA n t with
    | none =>
      have HN : Hid (Mp.partA n t = none) := Lib.hid (by unfold Mp.partA Mp.oneA; rw [hp]; show (Mp.specialA n t).map _ = _; rw [hn]; rfl)
      rw [hn] at HS
      clear hp hn
      go_enter Tryd.func34, Tryd.ntmps34
      go_wp2_with fail
      refine (HA.out _).mono ?_
      rintro e w1 ⟨rfl, B1⟩
      have H1 := Lib.hid (H0.out.go B1)
      clear B1
      have HX := Lib.hid (heap_alloc_last w1 (.cells zeroC PT))
      have hs1 := H1.out.size
      go_wp2_with (refine store_box rfl PT _ _ rfl w1.heap.size zeroC rfl rfl PT zeroC HX.out sizeP rfl oneZ ?_; intro W3 HG3 HE3; have hT3 : Two w n t q W3 := (by rw [HE3.out]; exact box_fill_two H1.out zeroC); have H3 := Lib.hid hT3; have c30 := hT3.cells.1; have c31 := hT3.cells.2.1; have c32 := hT3.cells.2.2; clear hT3)
      refine (HS.out _).mono ?_
      rintro e w4 ⟨rfl, B4⟩
      have H4 := Lib.hid (H3.out.go B4)
      have HG4 := Lib.hid ((B4.block w1.heap.size (Array.getElem?_eq_some_iff.1 HG3.out).1).trans HG3.out)
      clear B4
      go_wp2_with (first
        | (refine store_box rfl PT _ _ rfl w1.heap.size zeroC rfl rfl PT zeroC HG4.out sizeP rfl oneZ ?_; intro W5 HG5 HE5; have H5 : Hid (Two w n t q W5) := Lib.hid (by rw [HE5.out]; exact H4.out.setRow hs1 _))
        | (refine wpList_load_row rfl PT _ rfl w1.heap.size rfl PT zeroC (0, 0) _ HG5.out undP rfl sizeP ?_)
        | (refine wpList_store_row rfl PT _ _ rfl (w.heap.size + 1) zeroC rfl rfl PT zeroC H5.out.out sizeP rfl oneZ ?_))
      (try simp only [Exit.inBlock, Exit.then])
      refine bodyPost_ret (results_two Tryd.results34 _ _ (w.heap.size + 1) PT zeroC (0, 0) _ (.bool false) rfl rfl (setRow_heap _ _ _ _ _ _ H5.out.out) undP rfl sizeP) rfl ?_
      rw [HN.out]
      exact ⟨rfl, below_setRow H5.out.below (Nat.le_succ _) _⟩
    | some p =>
      have HN : Hid (Mp.partA n t = some { p with line := n }) := Lib.hid (by unfold Mp.partA Mp.oneA; rw [hp]; show (Mp.specialA n t).map _ = _; rw [hn]; rfl)
      rw [hn] at HS
      clear hp hn
      go_enter Tryd.func34, Tryd.ntmps34
      go_wp2_with fail
      refine (HA.out _).mono ?_
      rintro e w1 ⟨rfl, B1⟩
      have H1 := Lib.hid (H0.out.go B1)
      clear B1
      have HX := Lib.hid (heap_alloc_last w1 (.cells zeroC PT))
      have hs1 := H1.out.size
      go_wp2_with (refine store_box rfl PT _ _ rfl w1.heap.size zeroC rfl rfl PT zeroC HX.out sizeP rfl oneZ ?_; intro W3 HG3 HE3; have hT3 : Two w n t q W3 := (by rw [HE3.out]; exact box_fill_two H1.out zeroC); have H3 := Lib.hid hT3; have c30 := hT3.cells.1; have c31 := hT3.cells.2.1; have c32 := hT3.cells.2.2; clear hT3)
      refine (HS.out _).mono ?_
      rintro e w4 ⟨⟨a, c, rfl, ho⟩, B4⟩
      have hl3 : w1.heap.size < W3.heap.size := (Array.getElem?_eq_some_iff.1 HG3.out).1
      have H4 := Lib.hid (H3.out.go B4)
      have HG4 := Lib.hid ((B4.block w1.heap.size hl3).trans HG3.out)
      have HO := Lib.hid ho
      clear B4 ho
      go_wp2_with (first
        | (refine store_box rfl PT _ _ rfl w1.heap.size (partC p (.slice a p.recipe.length c)) rfl rfl PT zeroC HG4.out sizeP rfl (oneP _ _ _ _) ?_; intro W5 HG5 HE5; have d5 : W5.cell? ⟨w1.heap.size, 1, none⟩ = some (.int .i64 (p.line : Int)) := cell_at HG5.out rfl; have f5 : W5.frozen? ⟨w1.heap.size, 1, none⟩ = false := frozen_at HG5.out _; have HG := Lib.hid (heap_set3 (i := 1) HG5.out (.int .i64 (n : Int))); have hT5 : Two w n t q W5 := (by rw [HE5.out]; exact H4.out.setRow hs1 _); have H6 : Hid (Two w n t q (W5.setCell ⟨w1.heap.size, 1, none⟩ (.int .i64 (n : Int)))) := Lib.hid (hT5.setCell hs1 1 (.int .i64 (n : Int))); have c50 := hT5.cells.1; clear hT5)
        | (refine wpList_load_row rfl PT _ rfl w1.heap.size rfl PT (partC { p with line := n } (.slice a p.recipe.length c)) (0, 0) _ HG.out undP rfl sizeP ?_)
        | (refine wpList_store_row rfl PT _ _ rfl (w.heap.size + 1) (partC { p with line := n } (.slice a p.recipe.length c)) rfl rfl PT zeroC H6.out.out sizeP rfl (oneP _ _ _ _) ?_))
      (try simp only [Exit.inBlock, Exit.then])
      refine bodyPost_ret (results_two Tryd.results34 _ _ (w.heap.size + 1) PT (partC { p with line := n } (.slice a p.recipe.length c)) (0, 0) _ (.bool true) rfl rfl (setRow_heap _ _ _ _ _ _ H6.out.out) undP rfl sizeP) rfl ?_
      rw [HN.out]
      refine ⟨⟨a, c, rfl, own_mono (own_kept HO.out fun g hg => ?_) (by omega)⟩, below_setRow H6.out.below (Nat.le_succ _) _⟩
      have hgl := (HO.out.lt g hg).1
      have e1 : W5.heap[g]? = w4.heap[g]? := by rw [HE5.out]; exact setRow_other _ _ _ _ (by omega)
      rw [setRow_other _ _ _ _ (by omega)]
      exact (Below.heap_setCell _ _ _ _ (by show g ≠ w1.heap.size; omega)).trans e1
end Go.Proofs.YtjjlafbdhpojpaaDoor.Mw
