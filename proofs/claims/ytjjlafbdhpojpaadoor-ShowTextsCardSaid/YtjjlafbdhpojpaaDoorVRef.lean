/-
  flatironref10.Hash and row.
-/
import Derived.Test.YtjjlafbdhpojpaaDoorVLawOf
import Derived.Test.YtjjlafbdhpojpaaDoorVPlain
namespace Go.Proofs.YtjjlafbdhpojpaaDoor.Vw
open Go.RowKit Go.Proofs.YtjjlafbdhpojpaaDoor Go.Proofs.YtjjlafbdhpojpaaDoor.Ww Go.Proofs.YtjjlafbdhpojpaaDoor.Iw Go.Proofs.YtjjlafbdhpojpaaDoor.Mw
set_option maxRecDepth 100000

theorem hash_snoc (l : Bs) (c : UInt8) : Vp.hashA (l ++ [c]) = Vp.hashA l ++ (if c = 35 then [92, 35] else [c]) := by simp [Vp.hashA]
theorem hash_len (l : Bs) : (Vp.hashA l).length ≤ 2 * l.length := by
  induction l with
  | nil => exact Nat.le_refl _
  | cons c l ih =>
    show ((if c = 35 then [92, 35] else [c]) ++ Vp.hashA l).length ≤ _
    rw [List.length_append, List.length_cons]
    split <;> simp <;> omega
set_option maxHeartbeats 2000000 in
theorem RHash_any (w : World) (s : ByteArray) (hs : s.size ≤ 1000000) :
    Calls Tryd.prog 22 #[.string s] w fun e w' => e = .returned (.string (str (Vp.hashA (by8 s)))) ∧ w = w' := by
  go_enter Tryd.func22, Tryd.ntmps22
  go_wp2_with fail
  go_loop [3, 4] (fun vo vi => ∃ (o : ByteArray) (i : Nat), vo = .string o ∧ vi = .int .i64 i ∧ i ≤ s.size ∧ by8 o = Vp.hashA ((by8 s).take i)) (fun _ vi => s.size - (intOf vi).toNat)
  case atStart => exact ⟨⟨#[]⟩, 0, rfl, rfl, Nat.zero_le _, rfl⟩
  case round =>
    obtain ⟨o, i, rfl, rfl, hi, ho⟩ := hrel
    have hoz : o.size ≤ 2 * i := by
      have := hash_len ((by8 s).take i)
      rw [← ho, by8_len, List.length_take] at this; omega
    by_cases hlt : i < s.size
    · have htk := by8_snoc hlt
      by_cases hc : s[i] = 35
      · have hcb : ((s[i].toNat : Int) == 35) = true := eq_true (b := 35) hc
        have HE : Hid (by8 (o ++ ⟨#[92]⟩ ++ s.extract i (i + 1)) = Vp.hashA ((by8 s).take (i + 1))) := Lib.hid (by
          rw [by8_add, by8_add, by8_one hlt, ho, htk, hash_snoc, if_pos hc, hc]
          show Vp.hashA _ ++ [92] ++ [35] = _
          simp)
        clear ho htk hc
        go_wp2_with fail
        go_round
        case rel => exact ⟨_, i + 1, rfl, by go_num, hlt, HE.out⟩
        case measure => simp [intOf]; omega
      · have hcb : ((s[i].toNat : Int) == 35) = false := eq_false (b := 35) hc
        have HE : Hid (by8 (o ++ s.extract i (i + 1)) = Vp.hashA ((by8 s).take (i + 1))) := Lib.hid (by
          rw [by8_add, by8_one hlt, ho, htk, hash_snoc, if_neg hc])
        clear ho htk hc
        go_wp2_with fail
        go_round
        case rel => exact ⟨_, i + 1, rfl, by go_num, hlt, HE.out⟩
        case measure => simp [intOf]; omega
    · obtain rfl : i = s.size := by omega
      have HE : Hid (str (Vp.hashA (by8 s)) = o) := Lib.hid (by
        rw [List.take_of_length_le (by rw [by8_len]; exact Nat.le_refl _)] at ho
        exact by8_ext (by rw [ho]; rfl))
      clear ho
      go_wp2_with fail
      go_ret
      exact ⟨by rw [HE.out]; rfl, rfl⟩

theorem ret_str {a b : ByteArray} (h : a = b) : Ending.returned (.string a) = .returned (.string b) := by rw [h]
section
variable (w : World) (p : Mp.P) (v : Value)
/-- Fields that aren't too long. -/
def Sz (p : Mp.P) : Prop := p.name.length ≤ 200000 ∧ p.op.length ≤ 200000 ∧ p.value.length ≤ 200000 ∧ p.targets.length ≤ 200000 ∧ p.needs.length ≤ 200000 ∧ p.order.length ≤ 200000
/-- What row returns. -/
def RowPost (w : World) (p : Mp.P) (e : Ending) (w' : World) : Prop := e = .returned (.string (str (Vp.rowA p))) ∧ Below w.heap.size w w'
set_option maxHeartbeats 2000000 in
theorem row_over1 (hz : Sz p) (hk : p.kind = 0) (ho : p.over = true) (hv : p.value = []) : Calls Tryd.prog 23 #[partV p v] w (RowPost w p) := by
  have HB := Lib.hid ((Below.refl w.heap.size w).alloc (Nat.le_refl _) (.cells (partC p v) QT))
  have HR : Hid (Vp.rowA p = Mp.oOver ++ 32 :: (p.name ++ 32 :: p.op)) := Lib.hid (by unfold Vp.rowA Vp.arow Vp.tl; rw [if_pos hk, if_pos ho, if_pos hv]; (try simp))
  obtain ⟨c0, c1, c2, c3, c4, c5, c6, c7, c8, c9, c10⟩ := part_cells (heap_alloc_last w (.cells (partC p v) QT))
  have k0 : ((p.kind : Int) == 0) = true := by rw [hk]; rfl
  rw [ho] at c5
  have e_v := empty_yes hv
  clear hk ho hv
  obtain ⟨z2, z3, z4, z7, z8, z9⟩ := hz
  have s2 := str_size p.name
  have s3 := str_size p.op
  have s4 := str_size p.value
  have s7 := str_size p.targets
  have s8 := str_size p.needs
  have s9 := str_size p.order
  unfold partV
  unfold partC at *
  go_enter Tryd.func23, Tryd.ntmps23
  go_wp2_with fail
  go_ret
  exact ⟨ret_str (by8_ext (by rw [HR.out]; simp [by8, str, Mp.oOver])), HB.out⟩
set_option maxHeartbeats 2000000 in
theorem row_over0 (hz : Sz p) (hk : p.kind = 0) (ho : p.over = true) (hv : ¬ p.value = []) : Calls Tryd.prog 23 #[partV p v] w (RowPost w p) := by
  have HB := Lib.hid ((Below.refl w.heap.size w).alloc (Nat.le_refl _) (.cells (partC p v) QT))
  have HR : Hid (Vp.rowA p = Mp.oOver ++ 32 :: (p.name ++ 32 :: p.op ++ 32 :: p.value)) := Lib.hid (by unfold Vp.rowA Vp.arow Vp.tl; rw [if_pos hk, if_pos ho, if_neg hv]; (try simp))
  obtain ⟨c0, c1, c2, c3, c4, c5, c6, c7, c8, c9, c10⟩ := part_cells (heap_alloc_last w (.cells (partC p v) QT))
  have k0 : ((p.kind : Int) == 0) = true := by rw [hk]; rfl
  rw [ho] at c5
  have e_v := empty_no hv
  have f_v := isEmpty_no hv
  clear hk ho hv
  obtain ⟨z2, z3, z4, z7, z8, z9⟩ := hz
  have s2 := str_size p.name
  have s3 := str_size p.op
  have s4 := str_size p.value
  have s7 := str_size p.targets
  have s8 := str_size p.needs
  have s9 := str_size p.order
  unfold partV
  unfold partC at *
  go_enter Tryd.func23, Tryd.ntmps23
  go_wp2_with fail
  go_ret
  exact ⟨ret_str (by8_ext (by rw [HR.out]; simp [by8, str, Mp.oOver])), HB.out⟩
set_option maxHeartbeats 2000000 in
theorem row_out1 (hz : Sz p) (hk : p.kind = 0) (ho : p.over = false) (hu : p.out = true) (hv : p.value = []) : Calls Tryd.prog 23 #[partV p v] w (RowPost w p) := by
  have HB := Lib.hid ((Below.refl w.heap.size w).alloc (Nat.le_refl _) (.cells (partC p v) QT))
  have HR : Hid (Vp.rowA p = Mp.oExport ++ 32 :: (p.name ++ 32 :: p.op)) := Lib.hid (by unfold Vp.rowA Vp.arow Vp.tl; rw [if_pos hk, if_neg (by rw [ho]; exact Bool.false_ne_true), if_pos hu, if_pos hv]; (try simp))
  obtain ⟨c0, c1, c2, c3, c4, c5, c6, c7, c8, c9, c10⟩ := part_cells (heap_alloc_last w (.cells (partC p v) QT))
  have k0 : ((p.kind : Int) == 0) = true := by rw [hk]; rfl
  rw [ho] at c5
  rw [hu] at c6
  have e_v := empty_yes hv
  clear hk ho hu hv
  obtain ⟨z2, z3, z4, z7, z8, z9⟩ := hz
  have s2 := str_size p.name
  have s3 := str_size p.op
  have s4 := str_size p.value
  have s7 := str_size p.targets
  have s8 := str_size p.needs
  have s9 := str_size p.order
  unfold partV
  unfold partC at *
  go_enter Tryd.func23, Tryd.ntmps23
  go_wp2_with fail
  go_ret
  exact ⟨ret_str (by8_ext (by rw [HR.out]; simp [by8, str, Mp.oExport])), HB.out⟩
set_option maxHeartbeats 2000000 in
theorem row_out0 (hz : Sz p) (hk : p.kind = 0) (ho : p.over = false) (hu : p.out = true) (hv : ¬ p.value = []) : Calls Tryd.prog 23 #[partV p v] w (RowPost w p) := by
  have HB := Lib.hid ((Below.refl w.heap.size w).alloc (Nat.le_refl _) (.cells (partC p v) QT))
  have HR : Hid (Vp.rowA p = Mp.oExport ++ 32 :: (p.name ++ 32 :: p.op ++ 32 :: p.value)) := Lib.hid (by unfold Vp.rowA Vp.arow Vp.tl; rw [if_pos hk, if_neg (by rw [ho]; exact Bool.false_ne_true), if_pos hu, if_neg hv]; (try simp))
  obtain ⟨c0, c1, c2, c3, c4, c5, c6, c7, c8, c9, c10⟩ := part_cells (heap_alloc_last w (.cells (partC p v) QT))
  have k0 : ((p.kind : Int) == 0) = true := by rw [hk]; rfl
  rw [ho] at c5
  rw [hu] at c6
  have e_v := empty_no hv
  have f_v := isEmpty_no hv
  clear hk ho hu hv
  obtain ⟨z2, z3, z4, z7, z8, z9⟩ := hz
  have s2 := str_size p.name
  have s3 := str_size p.op
  have s4 := str_size p.value
  have s7 := str_size p.targets
  have s8 := str_size p.needs
  have s9 := str_size p.order
  unfold partV
  unfold partC at *
  go_enter Tryd.func23, Tryd.ntmps23
  go_wp2_with fail
  go_ret
  exact ⟨ret_str (by8_ext (by rw [HR.out]; simp [by8, str, Mp.oExport])), HB.out⟩
set_option maxHeartbeats 2000000 in
theorem row_plain1 (hz : Sz p) (hk : p.kind = 0) (ho : p.over = false) (hu : p.out = false) (hv : p.value = []) : Calls Tryd.prog 23 #[partV p v] w (RowPost w p) := by
  have HB := Lib.hid ((Below.refl w.heap.size w).alloc (Nat.le_refl _) (.cells (partC p v) QT))
  have HR : Hid (Vp.rowA p = (p.name ++ 32 :: p.op)) := Lib.hid (by unfold Vp.rowA Vp.arow Vp.tl; rw [if_pos hk, if_neg (by rw [ho]; exact Bool.false_ne_true), if_neg (by rw [hu]; exact Bool.false_ne_true), if_pos hv]; (try simp))
  obtain ⟨c0, c1, c2, c3, c4, c5, c6, c7, c8, c9, c10⟩ := part_cells (heap_alloc_last w (.cells (partC p v) QT))
  have k0 : ((p.kind : Int) == 0) = true := by rw [hk]; rfl
  rw [ho] at c5
  rw [hu] at c6
  have e_v := empty_yes hv
  clear hk ho hu hv
  obtain ⟨z2, z3, z4, z7, z8, z9⟩ := hz
  have s2 := str_size p.name
  have s3 := str_size p.op
  have s4 := str_size p.value
  have s7 := str_size p.targets
  have s8 := str_size p.needs
  have s9 := str_size p.order
  unfold partV
  unfold partC at *
  go_enter Tryd.func23, Tryd.ntmps23
  go_wp2_with fail
  go_ret
  exact ⟨ret_str (by8_ext (by rw [HR.out]; simp [by8, str])), HB.out⟩
set_option maxHeartbeats 2000000 in
theorem row_plain0 (hz : Sz p) (hk : p.kind = 0) (ho : p.over = false) (hu : p.out = false) (hv : ¬ p.value = []) : Calls Tryd.prog 23 #[partV p v] w (RowPost w p) := by
  have HB := Lib.hid ((Below.refl w.heap.size w).alloc (Nat.le_refl _) (.cells (partC p v) QT))
  have HR : Hid (Vp.rowA p = (p.name ++ 32 :: p.op ++ 32 :: p.value)) := Lib.hid (by unfold Vp.rowA Vp.arow Vp.tl; rw [if_pos hk, if_neg (by rw [ho]; exact Bool.false_ne_true), if_neg (by rw [hu]; exact Bool.false_ne_true), if_neg hv]; (try simp))
  obtain ⟨c0, c1, c2, c3, c4, c5, c6, c7, c8, c9, c10⟩ := part_cells (heap_alloc_last w (.cells (partC p v) QT))
  have k0 : ((p.kind : Int) == 0) = true := by rw [hk]; rfl
  rw [ho] at c5
  rw [hu] at c6
  have e_v := empty_no hv
  have f_v := isEmpty_no hv
  clear hk ho hu hv
  obtain ⟨z2, z3, z4, z7, z8, z9⟩ := hz
  have s2 := str_size p.name
  have s3 := str_size p.op
  have s4 := str_size p.value
  have s7 := str_size p.targets
  have s8 := str_size p.needs
  have s9 := str_size p.order
  unfold partV
  unfold partC at *
  go_enter Tryd.func23, Tryd.ntmps23
  go_wp2_with fail
  go_ret
  exact ⟨ret_str (by8_ext (by rw [HR.out]; simp [by8, str])), HB.out⟩
set_option maxHeartbeats 2000000 in
theorem row_rule11 (hz : Sz p) (hk : p.kind = 1) (hn : p.needs = []) (ho : p.order = []) : Calls Tryd.prog 23 #[partV p v] w (RowPost w p) := by
  have HB := Lib.hid ((Below.refl w.heap.size w).alloc (Nat.le_refl _) (.cells (partC p v) QT))
  have HR : Hid (Vp.rowA p = p.targets ++ 58 :: ([])) := Lib.hid (by unfold Vp.rowA Vp.brow Vp.tl Vp.ordT; rw [if_neg (by omega), if_pos hk, if_pos hn, if_pos ho]; (try simp))
  obtain ⟨c0, c1, c2, c3, c4, c5, c6, c7, c8, c9, c10⟩ := part_cells (heap_alloc_last w (.cells (partC p v) QT))
  have k0 : ((p.kind : Int) == 0) = false := by rw [hk]; rfl
  have k1 : ((p.kind : Int) == 1) = true := by rw [hk]; rfl
  have e_n := empty_yes hn
  have e_o := empty_yes ho
  clear hk hn ho
  obtain ⟨z2, z3, z4, z7, z8, z9⟩ := hz
  have s2 := str_size p.name
  have s3 := str_size p.op
  have s4 := str_size p.value
  have s7 := str_size p.targets
  have s8 := str_size p.needs
  have s9 := str_size p.order
  unfold partV
  unfold partC at *
  go_enter Tryd.func23, Tryd.ntmps23
  go_wp2_with fail
  go_ret
  exact ⟨ret_str (by8_ext (by rw [HR.out]; simp [by8, str])), HB.out⟩
set_option maxHeartbeats 2000000 in
theorem row_rule10 (hz : Sz p) (hk : p.kind = 1) (hn : p.needs = []) (ho : ¬ p.order = []) : Calls Tryd.prog 23 #[partV p v] w (RowPost w p) := by
  have HB := Lib.hid ((Below.refl w.heap.size w).alloc (Nat.le_refl _) (.cells (partC p v) QT))
  have HR : Hid (Vp.rowA p = p.targets ++ 58 :: (32 :: 124 :: 32 :: p.order)) := Lib.hid (by unfold Vp.rowA Vp.brow Vp.tl Vp.ordT; rw [if_neg (by omega), if_pos hk, if_pos hn, if_neg ho]; (try simp))
  obtain ⟨c0, c1, c2, c3, c4, c5, c6, c7, c8, c9, c10⟩ := part_cells (heap_alloc_last w (.cells (partC p v) QT))
  have k0 : ((p.kind : Int) == 0) = false := by rw [hk]; rfl
  have k1 : ((p.kind : Int) == 1) = true := by rw [hk]; rfl
  have e_n := empty_yes hn
  have e_o := empty_no ho
  have f_o := isEmpty_no ho
  clear hk hn ho
  obtain ⟨z2, z3, z4, z7, z8, z9⟩ := hz
  have s2 := str_size p.name
  have s3 := str_size p.op
  have s4 := str_size p.value
  have s7 := str_size p.targets
  have s8 := str_size p.needs
  have s9 := str_size p.order
  unfold partV
  unfold partC at *
  go_enter Tryd.func23, Tryd.ntmps23
  go_wp2_with fail
  go_ret
  exact ⟨ret_str (by8_ext (by rw [HR.out]; simp [by8, str])), HB.out⟩
set_option maxHeartbeats 2000000 in
theorem row_rule01 (hz : Sz p) (hk : p.kind = 1) (hn : ¬ p.needs = []) (ho : p.order = []) : Calls Tryd.prog 23 #[partV p v] w (RowPost w p) := by
  have HB := Lib.hid ((Below.refl w.heap.size w).alloc (Nat.le_refl _) (.cells (partC p v) QT))
  have HR : Hid (Vp.rowA p = p.targets ++ 58 :: (32 :: p.needs)) := Lib.hid (by unfold Vp.rowA Vp.brow Vp.tl Vp.ordT; rw [if_neg (by omega), if_pos hk, if_neg hn, if_pos ho]; (try simp))
  obtain ⟨c0, c1, c2, c3, c4, c5, c6, c7, c8, c9, c10⟩ := part_cells (heap_alloc_last w (.cells (partC p v) QT))
  have k0 : ((p.kind : Int) == 0) = false := by rw [hk]; rfl
  have k1 : ((p.kind : Int) == 1) = true := by rw [hk]; rfl
  have e_n := empty_no hn
  have f_n := isEmpty_no hn
  have e_o := empty_yes ho
  clear hk hn ho
  obtain ⟨z2, z3, z4, z7, z8, z9⟩ := hz
  have s2 := str_size p.name
  have s3 := str_size p.op
  have s4 := str_size p.value
  have s7 := str_size p.targets
  have s8 := str_size p.needs
  have s9 := str_size p.order
  unfold partV
  unfold partC at *
  go_enter Tryd.func23, Tryd.ntmps23
  go_wp2_with fail
  go_ret
  exact ⟨ret_str (by8_ext (by rw [HR.out]; simp [by8, str])), HB.out⟩
set_option maxHeartbeats 2000000 in
theorem row_rule00 (hz : Sz p) (hk : p.kind = 1) (hn : ¬ p.needs = []) (ho : ¬ p.order = []) : Calls Tryd.prog 23 #[partV p v] w (RowPost w p) := by
  have HB := Lib.hid ((Below.refl w.heap.size w).alloc (Nat.le_refl _) (.cells (partC p v) QT))
  have HR : Hid (Vp.rowA p = p.targets ++ 58 :: (32 :: p.needs ++ 32 :: 124 :: 32 :: p.order)) := Lib.hid (by unfold Vp.rowA Vp.brow Vp.tl Vp.ordT; rw [if_neg (by omega), if_pos hk, if_neg hn, if_neg ho])
  obtain ⟨c0, c1, c2, c3, c4, c5, c6, c7, c8, c9, c10⟩ := part_cells (heap_alloc_last w (.cells (partC p v) QT))
  have k0 : ((p.kind : Int) == 0) = false := by rw [hk]; rfl
  have k1 : ((p.kind : Int) == 1) = true := by rw [hk]; rfl
  have e_n := empty_no hn
  have f_n := isEmpty_no hn
  have e_o := empty_no ho
  have f_o := isEmpty_no ho
  clear hk hn ho
  obtain ⟨z2, z3, z4, z7, z8, z9⟩ := hz
  have s2 := str_size p.name
  have s3 := str_size p.op
  have s4 := str_size p.value
  have s7 := str_size p.targets
  have s8 := str_size p.needs
  have s9 := str_size p.order
  unfold partV
  unfold partC at *
  go_enter Tryd.func23, Tryd.ntmps23
  go_wp2_with fail
  go_ret
  exact ⟨ret_str (by8_ext (by rw [HR.out]; simp [by8, str])), HB.out⟩
set_option maxHeartbeats 2000000 in
theorem row_names21 (hz : Sz p) (hk : p.kind = 2) (hn : p.needs = []) : Calls Tryd.prog 23 #[partV p v] w (RowPost w p) := by
  have HB := Lib.hid ((Below.refl w.heap.size w).alloc (Nat.le_refl _) (.cells (partC p v) QT))
  have HR : Hid (Vp.rowA p = Mp.oExport) := Lib.hid (by unfold Vp.rowA Vp.tl; rw [if_neg (by omega), if_neg (by omega), if_pos hk, if_pos hn]; (try simp))
  obtain ⟨c0, c1, c2, c3, c4, c5, c6, c7, c8, c9, c10⟩ := part_cells (heap_alloc_last w (.cells (partC p v) QT))
  have k0 : ((p.kind : Int) == 0) = false := by rw [beq_eq_false_iff_ne]; omega
  have k1 : ((p.kind : Int) == 1) = false := by rw [beq_eq_false_iff_ne]; omega
  have k2 : ((p.kind : Int) == 2) = true := by rw [hk]; rfl
  have e_n := empty_yes hn
  clear hk hn
  obtain ⟨z2, z3, z4, z7, z8, z9⟩ := hz
  have s2 := str_size p.name
  have s3 := str_size p.op
  have s4 := str_size p.value
  have s7 := str_size p.targets
  have s8 := str_size p.needs
  have s9 := str_size p.order
  unfold partV
  unfold partC at *
  go_enter Tryd.func23, Tryd.ntmps23
  go_wp2_with fail
  go_ret
  exact ⟨ret_str (by8_ext (by rw [HR.out]; simp [by8, str, Mp.oExport])), HB.out⟩
set_option maxHeartbeats 2000000 in
theorem row_names20 (hz : Sz p) (hk : p.kind = 2) (hn : ¬ p.needs = []) : Calls Tryd.prog 23 #[partV p v] w (RowPost w p) := by
  have HB := Lib.hid ((Below.refl w.heap.size w).alloc (Nat.le_refl _) (.cells (partC p v) QT))
  have HR : Hid (Vp.rowA p = Mp.oExport ++ 32 :: p.needs) := Lib.hid (by unfold Vp.rowA Vp.tl; rw [if_neg (by omega), if_neg (by omega), if_pos hk, if_neg hn])
  obtain ⟨c0, c1, c2, c3, c4, c5, c6, c7, c8, c9, c10⟩ := part_cells (heap_alloc_last w (.cells (partC p v) QT))
  have k0 : ((p.kind : Int) == 0) = false := by rw [beq_eq_false_iff_ne]; omega
  have k1 : ((p.kind : Int) == 1) = false := by rw [beq_eq_false_iff_ne]; omega
  have k2 : ((p.kind : Int) == 2) = true := by rw [hk]; rfl
  have e_n := empty_no hn
  have f_n := isEmpty_no hn
  clear hk hn
  obtain ⟨z2, z3, z4, z7, z8, z9⟩ := hz
  have s2 := str_size p.name
  have s3 := str_size p.op
  have s4 := str_size p.value
  have s7 := str_size p.targets
  have s8 := str_size p.needs
  have s9 := str_size p.order
  unfold partV
  unfold partC at *
  go_enter Tryd.func23, Tryd.ntmps23
  go_wp2_with fail
  go_ret
  exact ⟨ret_str (by8_ext (by rw [HR.out]; simp [by8, str, Mp.oExport])), HB.out⟩
set_option maxHeartbeats 2000000 in
theorem row_names31 (hz : Sz p) (hk : 3 ≤ p.kind) (hn : p.needs = []) : Calls Tryd.prog 23 #[partV p v] w (RowPost w p) := by
  have HB := Lib.hid ((Below.refl w.heap.size w).alloc (Nat.le_refl _) (.cells (partC p v) QT))
  have HR : Hid (Vp.rowA p = Mp.oUnexport) := Lib.hid (by unfold Vp.rowA Vp.tl; rw [if_neg (by omega), if_neg (by omega), if_neg (by omega), if_pos hn]; (try simp))
  obtain ⟨c0, c1, c2, c3, c4, c5, c6, c7, c8, c9, c10⟩ := part_cells (heap_alloc_last w (.cells (partC p v) QT))
  have k0 : ((p.kind : Int) == 0) = false := by rw [beq_eq_false_iff_ne]; omega
  have k1 : ((p.kind : Int) == 1) = false := by rw [beq_eq_false_iff_ne]; omega
  have k2 : ((p.kind : Int) == 2) = false := by rw [beq_eq_false_iff_ne]; omega
  have e_n := empty_yes hn
  clear hk hn
  obtain ⟨z2, z3, z4, z7, z8, z9⟩ := hz
  have s2 := str_size p.name
  have s3 := str_size p.op
  have s4 := str_size p.value
  have s7 := str_size p.targets
  have s8 := str_size p.needs
  have s9 := str_size p.order
  unfold partV
  unfold partC at *
  go_enter Tryd.func23, Tryd.ntmps23
  go_wp2_with fail
  go_ret
  exact ⟨ret_str (by8_ext (by rw [HR.out]; simp [by8, str, Mp.oUnexport])), HB.out⟩
set_option maxHeartbeats 2000000 in
theorem row_names30 (hz : Sz p) (hk : 3 ≤ p.kind) (hn : ¬ p.needs = []) : Calls Tryd.prog 23 #[partV p v] w (RowPost w p) := by
  have HB := Lib.hid ((Below.refl w.heap.size w).alloc (Nat.le_refl _) (.cells (partC p v) QT))
  have HR : Hid (Vp.rowA p = Mp.oUnexport ++ 32 :: p.needs) := Lib.hid (by unfold Vp.rowA Vp.tl; rw [if_neg (by omega), if_neg (by omega), if_neg (by omega), if_neg hn])
  obtain ⟨c0, c1, c2, c3, c4, c5, c6, c7, c8, c9, c10⟩ := part_cells (heap_alloc_last w (.cells (partC p v) QT))
  have k0 : ((p.kind : Int) == 0) = false := by rw [beq_eq_false_iff_ne]; omega
  have k1 : ((p.kind : Int) == 1) = false := by rw [beq_eq_false_iff_ne]; omega
  have k2 : ((p.kind : Int) == 2) = false := by rw [beq_eq_false_iff_ne]; omega
  have e_n := empty_no hn
  have f_n := isEmpty_no hn
  clear hk hn
  obtain ⟨z2, z3, z4, z7, z8, z9⟩ := hz
  have s2 := str_size p.name
  have s3 := str_size p.op
  have s4 := str_size p.value
  have s7 := str_size p.targets
  have s8 := str_size p.needs
  have s9 := str_size p.order
  unfold partV
  unfold partC at *
  go_enter Tryd.func23, Tryd.ntmps23
  go_wp2_with fail
  go_ret
  exact ⟨ret_str (by8_ext (by rw [HR.out]; simp [by8, str, Mp.oUnexport])), HB.out⟩
theorem RRow_any (hz : Sz p) : Calls Tryd.prog 23 #[partV p v] w (RowPost w p) := by
  by_cases hk0 : p.kind = 0
  · cases ho : p.over with
    | true =>
      by_cases hv : p.value = []
      · exact row_over1 w p v hz hk0 ho hv
      · exact row_over0 w p v hz hk0 ho hv
    | false =>
      cases hu : p.out with
      | true =>
        by_cases hv : p.value = []
        · exact row_out1 w p v hz hk0 ho hu hv
        · exact row_out0 w p v hz hk0 ho hu hv
      | false =>
        by_cases hv : p.value = []
        · exact row_plain1 w p v hz hk0 ho hu hv
        · exact row_plain0 w p v hz hk0 ho hu hv
  · by_cases hk1 : p.kind = 1
    · by_cases hn : p.needs = []
      · by_cases ho : p.order = []
        · exact row_rule11 w p v hz hk1 hn ho
        · exact row_rule10 w p v hz hk1 hn ho
      · by_cases ho : p.order = []
        · exact row_rule01 w p v hz hk1 hn ho
        · exact row_rule00 w p v hz hk1 hn ho
    · by_cases hk2 : p.kind = 2
      · by_cases hn : p.needs = []
        · exact row_names21 w p v hz hk2 hn
        · exact row_names20 w p v hz hk2 hn
      · by_cases hn : p.needs = []
        · exact row_names31 w p v hz (by omega) hn
        · exact row_names30 w p v hz (by omega) hn
end
end Go.Proofs.YtjjlafbdhpojpaaDoor.Vw
