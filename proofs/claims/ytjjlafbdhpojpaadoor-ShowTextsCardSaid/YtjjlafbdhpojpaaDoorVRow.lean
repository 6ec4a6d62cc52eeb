/-
  show.row: a part's row.
-/
import Derived.Test.YtjjlafbdhpojpaaDoorILaw0
import Derived.Test.YtjjlafbdhpojpaaDoorVRef
namespace Go.Proofs.YtjjlafbdhpojpaaDoor.Vw
open Go.RowKit Go.Proofs.YtjjlafbdhpojpaaDoor Go.Proofs.YtjjlafbdhpojpaaDoor.Ww Go.Proofs.YtjjlafbdhpojpaaDoor.Iw Go.Proofs.YtjjlafbdhpojpaaDoor.Mw
set_option maxRecDepth 100000

theorem joinS2 (a b : Bs) : joinS [str a, str b] = str (a ++ 32 :: b) := by simp [joinS, str, Lib.join, List.intercalate]
theorem joinS3 (a b c : Bs) : joinS [str a, str b, str c] = str (a ++ 32 :: b ++ 32 :: c) := by simp [joinS, str, Lib.join, List.intercalate]
theorem Join2 (w : World) (a b : Bs) (h : a.length + b.length ≤ 1000000) :
    Calls Tryd.prog 38 #[.slice (some ⟨w.heap.size, 0, none⟩) 2 2] (w.alloc (.cells #[.string (str a), .string (str b)] ST)) fun e w' => e = .returned (.string (str (a ++ 32 :: b))) ∧ Below w.heap.size w w' := by
  have h1 : (w.alloc (.cells #[.string (str a), .string (str b)] ST)).ownsRow w.heap.size ST 1 (.slice (some ⟨w.heap.size, 0, none⟩) 2 2) 2 (strsC [str a, str b]) :=
    World.ownsRow_lit (base := w.heap.size) (size := 1) (e := ST) w #[.string (str a), .string (str b)] 2 (Nat.le_refl _) (by decide) rfl
  have h2 := Join_any (w.alloc (.cells #[.string (str a), .string (str b)] ST)) (xs := [str a, str b]) h1 (by simp) (by rw [joinS2, by8_str]; simp; omega)
  refine h2.mono ?_
  rintro e w' ⟨rfl, hB⟩
  exact ⟨by rw [joinS2], ((Below.refl w.heap.size w).alloc (Nat.le_refl _) _).trans (hB.mono (by simp))⟩
theorem Join3 (w : World) (a b c : Bs) (h : a.length + b.length + c.length ≤ 1000000) :
    Calls Tryd.prog 38 #[.slice (some ⟨w.heap.size, 0, none⟩) 3 3] (w.alloc (.cells #[.string (str a), .string (str b), .string (str c)] ST)) fun e w' => e = .returned (.string (str (a ++ 32 :: b ++ 32 :: c))) ∧ Below w.heap.size w w' := by
  have h1 : (w.alloc (.cells #[.string (str a), .string (str b), .string (str c)] ST)).ownsRow w.heap.size ST 1 (.slice (some ⟨w.heap.size, 0, none⟩) 3 3) 3 (strsC [str a, str b, str c]) :=
    World.ownsRow_lit (base := w.heap.size) (size := 1) (e := ST) w #[.string (str a), .string (str b), .string (str c)] 3 (Nat.le_refl _) (by decide) rfl
  have h2 := Join_any (w.alloc (.cells #[.string (str a), .string (str b), .string (str c)] ST)) (xs := [str a, str b, str c]) h1 (by simp) (by rw [joinS3, by8_str]; simp; omega)
  refine h2.mono ?_
  rintro e w' ⟨rfl, hB⟩
  exact ⟨by rw [joinS3], ((Below.refl w.heap.size w).alloc (Nat.le_refl _) _).trans (hB.mono (by simp))⟩

theorem last_suffix {s : Bs} {c : UInt8} : Lib.hasSuffix s [c] = decide (s.getLast? = some c) := by
  rcases List.eq_nil_or_concat s with rfl | ⟨a, d, rfl⟩
  · rfl
  · rw [List.concat_eq_append]
    by_cases h : d = c
    · subst h; simp [Lib.hasSuffix]
    · have e : ([c] : Bs).isSuffixOf (a ++ [d]) = false := by
        rw [Bool.eq_false_iff]
        intro hs
        rw [List.isSuffixOf_iff_suffix] at hs
        obtain ⟨t, ht⟩ := hs
        have := congrArg List.getLast? ht
        simp at this
        exact h this.symm
      simp [Lib.hasSuffix, e, h]
theorem ended_is (a v : Bs) (h : Vp.Lt (a ++ Vp.tl v)) : Lib.trimSuffix (a ++ 32 :: v) [32] = a ++ Vp.tl v := by
  unfold Lib.trimSuffix
  rw [last_suffix]
  by_cases h0 : v = []
  · subst h0
    simp [Vp.tl]
  · have h1 : ¬ (a ++ 32 :: v).getLast? = some 32 := fun e => by
      have := h 32 (by unfold Vp.tl; rw [if_neg h0]; exact e)
      exact absurd this (by decide)
    rw [decide_eq_false h1, Vp.tl, if_neg h0]; rfl
theorem Ended_row (w : World) (a v : Bs) (hs : a.length + v.length ≤ 1000000) (h : Vp.Lt (a ++ Vp.tl v)) :
    Calls Tryd.prog 37 #[.string (str (a ++ 32 :: v))] w fun e w' => e = .returned (.string (str (a ++ Vp.tl v))) ∧ w = w' := by
  have HT := Lib.hid (Tryd.strings_TrimSuffix (str (a ++ 32 :: v)) ⟨#[32]⟩ w (by rw [str_size]; simp; omega))
  have HE : Hid ((Lib.trimSuffix (str (a ++ 32 :: v)).data.toList (⟨#[32]⟩ : ByteArray).data.toList) = a ++ Vp.tl v) := Lib.hid (by
    show Lib.trimSuffix (a ++ 32 :: v) [32] = _
    exact ended_is a v h)
  go_enter Tryd.func37, Tryd.ntmps37
  go_wp2_with fail
  refine HT.out.mono ?_
  rintro e w1 ⟨rfl, rfl⟩
  go_wp2_with fail
  go_ret
  exact ⟨by rw [HE.out]; rfl, rfl⟩

theorem Ended_asg (w : World) (p : Mp.P) (hz : Sz p) (hL : Vp.Lt (Vp.arow p)) :
    Calls Tryd.prog 37 #[.string (str (p.name ++ 32 :: (p.op ++ 32 :: p.value)))] w fun e w' => e = .returned (.string (str (Vp.arow p))) ∧ w = w' := by
  obtain ⟨z2, z3, z4, z7, z8, z9⟩ := hz
  have h := Ended_row w (p.name ++ 32 :: p.op) p.value (by simp; omega) hL
  have e0 : p.name ++ 32 :: p.op ++ 32 :: p.value = p.name ++ 32 :: (p.op ++ 32 :: p.value) := by simp
  rw [e0] at h
  exact h
theorem arow_len (p : Mp.P) (hz : Sz p) : (Vp.arow p).length ≤ 700000 := by
  obtain ⟨z2, z3, z4, z7, z8, z9⟩ := hz
  unfold Vp.arow Vp.tl
  split <;> simp <;> omega
section
variable (w : World) (p : Mp.P) (v : Value)
theorem lt_right {a b : Bs} (h : Vp.Lt (a ++ b)) : Vp.Lt b := fun c hc => h c (by
  rw [List.getLast?_append, hc]; rfl)
theorem lt_arow {a : Bs} (h : Vp.Lt (a ++ 32 :: Vp.arow p)) : Vp.Lt (Vp.arow p) := lt_right (a := a ++ [32]) (by rw [List.append_assoc]; exact h)
set_option maxHeartbeats 2000000 in
theorem assign_plain (hz : Sz p) (ho : p.over = false) (hu : p.out = false) (hL : Vp.Lt (Vp.arow p)) : Calls Tryd.prog 35 #[partV p v] w fun e w' => e = .returned (.string (str (Vp.arow p))) ∧ Below w.heap.size w w' := by
  have HB := Lib.hid ((Below.refl w.heap.size w).alloc (Nat.le_refl _) (.cells (partC p v) PT))
  obtain ⟨c0, c1, c2, c3, c4, c5, c6, c7, c8, c9, c10⟩ := part_cells (heap_alloc_last w (.cells (partC p v) PT))
  have HN := Lib.hid fun W => Ended_asg W p hz hL
  obtain ⟨z2, z3, z4, z7, z8, z9⟩ := hz
  have hJ := Join3 (w.alloc (.cells (partC p v) PT)) p.name p.op p.value (by omega)
  rw [World.size_alloc] at hJ
  have HJ := Lib.hid hJ
  have HC : Hid (∀ W : World, Below (w.heap.size + 1) (w.alloc (.cells (partC p v) PT)) W → W.cell? ⟨w.heap.size, 5, none⟩ = some (.bool false) ∧ W.cell? ⟨w.heap.size, 6, none⟩ = some (.bool false)) := Lib.hid fun W h => ⟨by rw [← ho]; exact (h.cell (p := ⟨w.heap.size, 5, none⟩) (by simp)).trans c5, by rw [← hu]; exact (h.cell (p := ⟨w.heap.size, 6, none⟩) (by simp)).trans c6⟩
  clear ho hu hJ
  unfold partV
  unfold partC at *
  go_enter Tryd.func35, Tryd.ntmps35
  go_wp2_with fail
  refine HJ.out.mono ?_
  rintro e w1 ⟨rfl, B1⟩
  obtain ⟨d5, d6⟩ := HC.out w1 B1
  have HB1 := Lib.hid (HB.out.trans (B1.mono (by simp)))
  clear B1
  go_wp2_with fail
  refine (HN.out _).mono ?_
  rintro e w2 ⟨rfl, rfl⟩
  go_wp2_with fail
  go_ret
  exact ⟨rfl, HB1.out⟩
set_option maxHeartbeats 2000000 in
theorem assign_over (hz : Sz p) (ho : p.over = true) (hL : Vp.Lt (Vp.arow p)) : Calls Tryd.prog 35 #[partV p v] w fun e w' => e = .returned (.string (str (Mp.oOver ++ 32 :: Vp.arow p))) ∧ Below w.heap.size w w' := by
  have HB := Lib.hid ((Below.refl w.heap.size w).alloc (Nat.le_refl _) (.cells (partC p v) PT))
  obtain ⟨c0, c1, c2, c3, c4, c5, c6, c7, c8, c9, c10⟩ := part_cells (heap_alloc_last w (.cells (partC p v) PT))
  have HN := Lib.hid fun W => Ended_asg W p hz hL
  have hal := arow_len p hz
  have HJ2 := Lib.hid fun W => Join2 W Mp.oOver (Vp.arow p) (by simp [Mp.oOver]; omega)
  clear hal
  obtain ⟨z2, z3, z4, z7, z8, z9⟩ := hz
  have hJ := Join3 (w.alloc (.cells (partC p v) PT)) p.name p.op p.value (by omega)
  rw [World.size_alloc] at hJ
  have HJ := Lib.hid hJ
  have HC : Hid (∀ W : World, Below (w.heap.size + 1) (w.alloc (.cells (partC p v) PT)) W → W.cell? ⟨w.heap.size, 5, none⟩ = some (.bool true)) := Lib.hid fun W h => by rw [← ho]; exact (h.cell (p := ⟨w.heap.size, 5, none⟩) (by simp)).trans c5
  clear ho hJ
  unfold partV
  unfold partC at *
  go_enter Tryd.func35, Tryd.ntmps35
  go_wp2_with fail
  refine HJ.out.mono ?_
  rintro e w1 ⟨rfl, B1⟩
  have d5 := HC.out w1 B1
  have HB1 := Lib.hid (HB.out.trans (B1.mono (by simp)))
  clear B1
  go_wp2_with fail
  refine (HN.out _).mono ?_
  rintro e w2 ⟨rfl, rfl⟩
  go_wp2_with fail
  refine (HJ2.out _).mono ?_
  rintro e w3 ⟨rfl, B3⟩
  go_wp2_with fail
  go_ret
  exact ⟨rfl, HB1.out.trans (B3.mono HB1.out.size)⟩
set_option maxHeartbeats 2000000 in
theorem assign_out (hz : Sz p) (ho : p.over = false) (hu : p.out = true) (hL : Vp.Lt (Vp.arow p)) : Calls Tryd.prog 35 #[partV p v] w fun e w' => e = .returned (.string (str (Mp.oExport ++ 32 :: Vp.arow p))) ∧ Below w.heap.size w w' := by
  have HB := Lib.hid ((Below.refl w.heap.size w).alloc (Nat.le_refl _) (.cells (partC p v) PT))
  obtain ⟨c0, c1, c2, c3, c4, c5, c6, c7, c8, c9, c10⟩ := part_cells (heap_alloc_last w (.cells (partC p v) PT))
  have HN := Lib.hid fun W => Ended_asg W p hz hL
  have hal := arow_len p hz
  have HJ2 := Lib.hid fun W => Join2 W Mp.oExport (Vp.arow p) (by simp [Mp.oExport]; omega)
  clear hal
  obtain ⟨z2, z3, z4, z7, z8, z9⟩ := hz
  have hJ := Join3 (w.alloc (.cells (partC p v) PT)) p.name p.op p.value (by omega)
  rw [World.size_alloc] at hJ
  have HJ := Lib.hid hJ
  have HC : Hid (∀ W : World, Below (w.heap.size + 1) (w.alloc (.cells (partC p v) PT)) W → W.cell? ⟨w.heap.size, 5, none⟩ = some (.bool false) ∧ W.cell? ⟨w.heap.size, 6, none⟩ = some (.bool true)) := Lib.hid fun W h => ⟨by rw [← ho]; exact (h.cell (p := ⟨w.heap.size, 5, none⟩) (by simp)).trans c5, by rw [← hu]; exact (h.cell (p := ⟨w.heap.size, 6, none⟩) (by simp)).trans c6⟩
  clear ho hu hJ
  unfold partV
  unfold partC at *
  go_enter Tryd.func35, Tryd.ntmps35
  go_wp2_with fail
  refine HJ.out.mono ?_
  rintro e w1 ⟨rfl, B1⟩
  obtain ⟨d5, d6⟩ := HC.out w1 B1
  have HB1 := Lib.hid (HB.out.trans (B1.mono (by simp)))
  clear B1
  go_wp2_with fail
  refine (HN.out _).mono ?_
  rintro e w2 ⟨rfl, rfl⟩
  go_wp2_with fail
  refine (HJ2.out _).mono ?_
  rintro e w3 ⟨rfl, B3⟩
  go_wp2_with fail
  go_ret
  exact ⟨rfl, HB1.out.trans (B3.mono HB1.out.size)⟩
theorem Assign_any (hz : Sz p) (hk : p.kind = 0) (hL : Vp.Lt (Vp.rowA p)) : Calls Tryd.prog 35 #[partV p v] w (RowPost w p) := by
  unfold RowPost
  have hr : Vp.rowA p = if p.over = true then Mp.oOver ++ 32 :: Vp.arow p else if p.out = true then Mp.oExport ++ 32 :: Vp.arow p else Vp.arow p := by unfold Vp.rowA; rw [if_pos hk]
  rw [hr] at hL ⊢
  cases ho : p.over with
  | true => rw [ho, if_pos rfl] at hL; rw [if_pos rfl]; exact assign_over w p v hz ho (lt_arow p hL)
  | false =>
    rw [ho, if_neg Bool.false_ne_true] at hL; rw [if_neg Bool.false_ne_true]
    cases hu : p.out with
    | true => rw [hu, if_pos rfl] at hL; rw [if_pos rfl]; exact assign_out w p v hz ho hu (lt_arow p hL)
    | false => rw [hu, if_neg Bool.false_ne_true] at hL; rw [if_neg Bool.false_ne_true]; exact assign_plain w p v hz ho hu hL
set_option maxHeartbeats 2000000 in
theorem srule11 (hz : Sz p) (hk : p.kind = 1) (hn : p.needs = []) (ho : p.order = []) : Calls Tryd.prog 36 #[partV p v] w (RowPost w p) := by
  have HB := Lib.hid ((Below.refl w.heap.size w).alloc (Nat.le_refl _) (.cells (partC p v) PT))
  have HR : Hid (Vp.rowA p = p.targets ++ 58 :: ([] ++ [])) := Lib.hid (by unfold Vp.rowA Vp.brow Vp.tl Vp.ordT; rw [if_neg (by omega), if_pos hk, if_pos hn, if_pos ho])
  obtain ⟨c0, c1, c2, c3, c4, c5, c6, c7, c8, c9, c10⟩ := part_cells (heap_alloc_last w (.cells (partC p v) PT))
  have e_n := empty_yes hn
  have e_o := empty_yes ho
  clear hk hn ho
  obtain ⟨z2, z3, z4, z7, z8, z9⟩ := hz
  have s7 := str_size p.targets
  have s8 := str_size p.needs
  have s9 := str_size p.order
  unfold partV
  unfold partC at *
  go_enter Tryd.func36, Tryd.ntmps36
  go_wp2_with fail
  go_ret
  exact ⟨ret_str (by8_ext (by rw [HR.out]; simp [by8, str])), HB.out⟩
set_option maxHeartbeats 2000000 in
theorem srule10 (hz : Sz p) (hk : p.kind = 1) (hn : p.needs = []) (ho : ¬ p.order = []) : Calls Tryd.prog 36 #[partV p v] w (RowPost w p) := by
  have HB := Lib.hid ((Below.refl w.heap.size w).alloc (Nat.le_refl _) (.cells (partC p v) PT))
  have HR : Hid (Vp.rowA p = p.targets ++ 58 :: ([] ++ 32 :: 124 :: 32 :: p.order)) := Lib.hid (by unfold Vp.rowA Vp.brow Vp.tl Vp.ordT; rw [if_neg (by omega), if_pos hk, if_pos hn, if_neg ho])
  obtain ⟨c0, c1, c2, c3, c4, c5, c6, c7, c8, c9, c10⟩ := part_cells (heap_alloc_last w (.cells (partC p v) PT))
  have e_n := empty_yes hn
  have e_o := empty_no ho
  have f_o := isEmpty_no ho
  clear hk hn ho
  obtain ⟨z2, z3, z4, z7, z8, z9⟩ := hz
  have s7 := str_size p.targets
  have s8 := str_size p.needs
  have s9 := str_size p.order
  have hK := Join3 (w.alloc (.cells (partC p v) PT)) (p.targets ++ [58]) [124] p.order (by simp; omega)
  rw [World.size_alloc] at hK
  have HK := Lib.hid hK
  clear hK
  unfold partV
  unfold partC at *
  go_enter Tryd.func36, Tryd.ntmps36
  go_wp2_with fail
  refine HK.out.mono ?_
  rintro e w2 ⟨rfl, B2⟩
  go_wp2_with fail
  go_ret
  exact ⟨ret_str (by8_ext (by rw [HR.out]; simp [by8, str])), HB.out.trans (B2.mono (by simp))⟩
set_option maxHeartbeats 2000000 in
theorem srule01 (hz : Sz p) (hk : p.kind = 1) (hn : ¬ p.needs = []) (ho : p.order = []) : Calls Tryd.prog 36 #[partV p v] w (RowPost w p) := by
  have HB := Lib.hid ((Below.refl w.heap.size w).alloc (Nat.le_refl _) (.cells (partC p v) PT))
  have HR : Hid (Vp.rowA p = p.targets ++ 58 :: (32 :: p.needs ++ [])) := Lib.hid (by unfold Vp.rowA Vp.brow Vp.tl Vp.ordT; rw [if_neg (by omega), if_pos hk, if_neg hn, if_pos ho])
  obtain ⟨c0, c1, c2, c3, c4, c5, c6, c7, c8, c9, c10⟩ := part_cells (heap_alloc_last w (.cells (partC p v) PT))
  have e_n := empty_no hn
  have e_o := empty_yes ho
  have f_n := isEmpty_no hn
  clear hk hn ho
  obtain ⟨z2, z3, z4, z7, z8, z9⟩ := hz
  have s7 := str_size p.targets
  have s8 := str_size p.needs
  have s9 := str_size p.order
  have hJ := Join2 (w.alloc (.cells (partC p v) PT)) (p.targets ++ [58]) p.needs (by simp; omega)
  rw [World.size_alloc] at hJ
  have HJ := Lib.hid hJ
  have HC : Hid (∀ W : World, Below (w.heap.size + 1) (w.alloc (.cells (partC p v) PT)) W → W.cell? ⟨w.heap.size, 9, none⟩ = some (.string (str p.order))) := Lib.hid fun W h => (h.cell (p := ⟨w.heap.size, 9, none⟩) (by simp)).trans c9
  clear hJ
  unfold partV
  unfold partC at *
  go_enter Tryd.func36, Tryd.ntmps36
  go_wp2_with fail
  refine HJ.out.mono ?_
  rintro e w1 ⟨rfl, B1⟩
  have d9 := HC.out w1 B1
  have HB1 := Lib.hid (HB.out.trans (B1.mono (by simp)))
  clear B1
  go_wp2_with fail
  go_ret
  exact ⟨ret_str (by8_ext (by rw [HR.out]; simp [by8, str])), HB1.out⟩
set_option maxHeartbeats 2000000 in
theorem srule00 (hz : Sz p) (hk : p.kind = 1) (hn : ¬ p.needs = []) (ho : ¬ p.order = []) : Calls Tryd.prog 36 #[partV p v] w (RowPost w p) := by
  have HB := Lib.hid ((Below.refl w.heap.size w).alloc (Nat.le_refl _) (.cells (partC p v) PT))
  have HR : Hid (Vp.rowA p = p.targets ++ 58 :: (32 :: p.needs ++ 32 :: 124 :: 32 :: p.order)) := Lib.hid (by unfold Vp.rowA Vp.brow Vp.tl Vp.ordT; rw [if_neg (by omega), if_pos hk, if_neg hn, if_neg ho])
  obtain ⟨c0, c1, c2, c3, c4, c5, c6, c7, c8, c9, c10⟩ := part_cells (heap_alloc_last w (.cells (partC p v) PT))
  have e_n := empty_no hn
  have e_o := empty_no ho
  have f_n := isEmpty_no hn
  have f_o := isEmpty_no ho
  clear hk hn ho
  obtain ⟨z2, z3, z4, z7, z8, z9⟩ := hz
  have s7 := str_size p.targets
  have s8 := str_size p.needs
  have s9 := str_size p.order
  have hJ := Join2 (w.alloc (.cells (partC p v) PT)) (p.targets ++ [58]) p.needs (by simp; omega)
  rw [World.size_alloc] at hJ
  have HJ := Lib.hid hJ
  have HC : Hid (∀ W : World, Below (w.heap.size + 1) (w.alloc (.cells (partC p v) PT)) W → W.cell? ⟨w.heap.size, 9, none⟩ = some (.string (str p.order))) := Lib.hid fun W h => (h.cell (p := ⟨w.heap.size, 9, none⟩) (by simp)).trans c9
  clear hJ
  have HK := Lib.hid fun W => Join3 W (p.targets ++ 58 :: 32 :: p.needs) [124] p.order (by simp; omega)
  unfold partV
  unfold partC at *
  go_enter Tryd.func36, Tryd.ntmps36
  go_wp2_with fail
  refine HJ.out.mono ?_
  rintro e w1 ⟨rfl, B1⟩
  have d9 := HC.out w1 B1
  have HB1 := Lib.hid (HB.out.trans (B1.mono (by simp)))
  clear B1
  go_wp2_with fail
  refine (HK.out _).mono ?_
  rintro e w2 ⟨rfl, B2⟩
  go_wp2_with fail
  go_ret
  exact ⟨ret_str (by8_ext (by rw [HR.out]; simp [by8, str])), HB1.out.trans (B2.mono HB1.out.size)⟩
theorem SRule_any (hz : Sz p) (hk : p.kind = 1) : Calls Tryd.prog 36 #[partV p v] w (RowPost w p) := by
  by_cases hn : p.needs = []
  · by_cases ho : p.order = []
    · exact srule11 w p v hz hk hn ho
    · exact srule10 w p v hz hk hn ho
  · by_cases ho : p.order = []
    · exact srule01 w p v hz hk hn ho
    · exact srule00 w p v hz hk hn ho
end
end Go.Proofs.YtjjlafbdhpojpaaDoor.Vw
