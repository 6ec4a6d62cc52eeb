/-
  show.row, at a part of any of the four kinds.
-/
import Derived.Test.YtjjlafbdhpojpaaDoorVRow
namespace Go.Proofs.YtjjlafbdhpojpaaDoor.Vw
open Go.RowKit Go.Proofs.YtjjlafbdhpojpaaDoor Go.Proofs.YtjjlafbdhpojpaaDoor.Ww Go.Proofs.YtjjlafbdhpojpaaDoor.Iw Go.Proofs.YtjjlafbdhpojpaaDoor.Mw
set_option maxRecDepth 100000

theorem Ended_tl (w : World) (o v : Bs) (hs : o.length + v.length ≤ 1000000) (h : Vp.Lt (o ++ Vp.tl v)) :
    Calls Tryd.prog 37 #[.string (str (o ++ 32 :: v))] w fun e w' => e = .returned (.string (str (o ++ Vp.tl v))) ∧ w = w' := Ended_row w o v hs h
/-- What row returns at a part of the four kinds. -/
def SRowPost (w : World) (p : Mp.P) (e : Ending) (w' : World) : Prop := e = .returned (.tuple #[.string (str (Vp.rowA p)), .bool true]) ∧ Below w.heap.size w w'
section
variable (w : World) (p : Mp.P) (v : Value)
set_option maxHeartbeats 2000000 in
theorem srow0 (hz : Sz p) (hk : p.kind = 0) (hL : Vp.Lt (Vp.rowA p)) : Calls Tryd.prog 15 #[partV p v] w (SRowPost w p) := by
  have HB := Lib.hid ((Below.refl w.heap.size w).alloc (Nat.le_refl _) (.cells (partC p v) PT))
  have HX := Lib.hid (heap_alloc_last w (.cells (partC p v) PT))
  obtain ⟨c0, c1, c2, c3, c4, c5, c6, c7, c8, c9, c10⟩ := part_cells HX.out
  have k0 : ((p.kind : Int) == 0) = true := by rw [hk]; rfl
  have HA := Lib.hid fun W => Assign_any W p v hz hk hL
  clear hk hz hL
  unfold partV at *
  unfold partC at *
  go_enter Tryd.func15, Tryd.ntmps15
  go_wp2_with (refine wpList_load_row rfl PT _ rfl w.heap.size rfl PT _ (0, 0) _ HX.out undP rfl sizeP ?_)
  refine (HA.out _).mono ?_
  rintro e w1 ⟨rfl, B1⟩
  go_wp2_with fail
  go_ret2
  exact ⟨rfl, HB.out.trans (B1.mono HB.out.size)⟩
set_option maxHeartbeats 2000000 in
theorem srow1 (hz : Sz p) (hk : p.kind = 1) (_hL : Vp.Lt (Vp.rowA p)) : Calls Tryd.prog 15 #[partV p v] w (SRowPost w p) := by
  have HB := Lib.hid ((Below.refl w.heap.size w).alloc (Nat.le_refl _) (.cells (partC p v) PT))
  have HX := Lib.hid (heap_alloc_last w (.cells (partC p v) PT))
  obtain ⟨c0, c1, c2, c3, c4, c5, c6, c7, c8, c9, c10⟩ := part_cells HX.out
  have k0 : ((p.kind : Int) == 0) = false := by rw [hk]; rfl
  have k1 : ((p.kind : Int) == 1) = true := by rw [hk]; rfl
  have HA := Lib.hid fun W => SRule_any W p v hz hk
  clear hk hz _hL
  unfold partV at *
  unfold partC at *
  go_enter Tryd.func15, Tryd.ntmps15
  go_wp2_with (refine wpList_load_row rfl PT _ rfl w.heap.size rfl PT _ (0, 0) _ HX.out undP rfl sizeP ?_)
  refine (HA.out _).mono ?_
  rintro e w1 ⟨rfl, B1⟩
  go_wp2_with fail
  go_ret2
  exact ⟨rfl, HB.out.trans (B1.mono HB.out.size)⟩
set_option maxHeartbeats 2000000 in
theorem srow2 (hz : Sz p) (hk : p.kind = 2) (hL : Vp.Lt (Vp.rowA p)) : Calls Tryd.prog 15 #[partV p v] w (SRowPost w p) := by
  have HB := Lib.hid ((Below.refl w.heap.size w).alloc (Nat.le_refl _) (.cells (partC p v) PT))
  have HX := Lib.hid (heap_alloc_last w (.cells (partC p v) PT))
  obtain ⟨c0, c1, c2, c3, c4, c5, c6, c7, c8, c9, c10⟩ := part_cells HX.out
  have HR : Hid (Vp.rowA p = Mp.oExport ++ Vp.tl p.needs) := Lib.hid (by unfold Vp.rowA; rw [if_neg (by omega), if_neg (by omega), if_pos hk])
  have k0 : ((p.kind : Int) == 0) = false := by rw [hk]; rfl
  have k1 : ((p.kind : Int) == 1) = false := by rw [hk]; rfl
  have k2 : ((p.kind : Int) == 2) = true := by rw [hk]; rfl
  obtain ⟨z2, z3, z4, z7, z8, z9⟩ := hz
  have hJ := Join2 (w.alloc (.cells (partC p v) PT)) Mp.oExport p.needs (by simp [Mp.oExport]; omega)
  rw [World.size_alloc] at hJ
  have HJ := Lib.hid hJ
  have HN := Lib.hid fun W => Ended_tl W Mp.oExport p.needs (by simp [Mp.oExport]; omega) (by rw [← HR.out]; exact hL)
  clear hk hL hJ
  unfold partV at *
  unfold partC at *
  go_enter Tryd.func15, Tryd.ntmps15
  go_wp2_with fail
  refine HJ.out.mono ?_
  rintro e w1 ⟨rfl, B1⟩
  have HB1 := Lib.hid (HB.out.trans (B1.mono (by simp)))
  clear B1
  go_wp2_with fail
  refine (HN.out _).mono ?_
  rintro e w2 ⟨rfl, rfl⟩
  go_wp2_with fail
  go_ret2
  exact ⟨by rw [HR.out]; rfl, HB1.out⟩
set_option maxHeartbeats 2000000 in
theorem srow3 (hz : Sz p) (hk : p.kind = 3) (hL : Vp.Lt (Vp.rowA p)) : Calls Tryd.prog 15 #[partV p v] w (SRowPost w p) := by
  have HB := Lib.hid ((Below.refl w.heap.size w).alloc (Nat.le_refl _) (.cells (partC p v) PT))
  have HX := Lib.hid (heap_alloc_last w (.cells (partC p v) PT))
  obtain ⟨c0, c1, c2, c3, c4, c5, c6, c7, c8, c9, c10⟩ := part_cells HX.out
  have HR : Hid (Vp.rowA p = Mp.oUnexport ++ Vp.tl p.needs) := Lib.hid (by unfold Vp.rowA; rw [if_neg (by omega), if_neg (by omega), if_neg (by omega)])
  have k0 : ((p.kind : Int) == 0) = false := by rw [hk]; rfl
  have k1 : ((p.kind : Int) == 1) = false := by rw [hk]; rfl
  have k2 : ((p.kind : Int) == 2) = false := by rw [hk]; rfl
  have k3 : ((p.kind : Int) == 3) = true := by rw [hk]; rfl
  obtain ⟨z2, z3, z4, z7, z8, z9⟩ := hz
  have hJ := Join2 (w.alloc (.cells (partC p v) PT)) Mp.oUnexport p.needs (by simp [Mp.oUnexport]; omega)
  rw [World.size_alloc] at hJ
  have HJ := Lib.hid hJ
  have HN := Lib.hid fun W => Ended_tl W Mp.oUnexport p.needs (by simp [Mp.oUnexport]; omega) (by rw [← HR.out]; exact hL)
  clear hk hL hJ
  unfold partV at *
  unfold partC at *
  go_enter Tryd.func15, Tryd.ntmps15
  go_wp2_with fail
  refine HJ.out.mono ?_
  rintro e w1 ⟨rfl, B1⟩
  have HB1 := Lib.hid (HB.out.trans (B1.mono (by simp)))
  clear B1
  go_wp2_with fail
  refine (HN.out _).mono ?_
  rintro e w2 ⟨rfl, rfl⟩
  go_wp2_with fail
  go_ret2
  exact ⟨by rw [HR.out]; rfl, HB1.out⟩
theorem SRow_any (hz : Sz p) (hk : p.kind ≤ 3) (hL : Vp.Lt (Vp.rowA p)) : Calls Tryd.prog 15 #[partV p v] w (SRowPost w p) := by
  by_cases h0 : p.kind = 0
  · exact srow0 w p v hz h0 hL
  by_cases h1 : p.kind = 1
  · exact srow1 w p v hz h1 hL
  by_cases h2 : p.kind = 2
  · exact srow2 w p v hz h2 hL
  · exact srow3 w p v hz (by omega) hL
end
end Go.Proofs.YtjjlafbdhpojpaaDoor.Vw
