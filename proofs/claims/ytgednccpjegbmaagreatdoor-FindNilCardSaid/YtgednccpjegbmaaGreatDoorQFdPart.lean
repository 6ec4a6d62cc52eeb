/-
  find.Of and find.Commands without data.
  The law FindNil, by what lives answers.
  A part with a recipe, alone in its row.
-/
import Derived.Test.YtgednccpjegbmaaGreatDoorQDQRead
namespace Go.Proofs.YtgednccpjegbmaaGreatDoor.Dq
open Go.RowKit Go.Proofs.YtgednccpjegbmaaGreatDoor Go.Maps Go.Proofs.YtgednccpjegbmaaGreatDoor.Ww Go.Proofs.YtgednccpjegbmaaGreatDoor.Tw Go.Proofs.YtgednccpjegbmaaGreatDoor.Kw Go.Proofs.YtgednccpjegbmaaGreatDoor.Jw Go.Proofs.YtgednccpjegbmaaGreatDoor.Xb Go.Proofs.YtgednccpjegbmaaGreatDoor.Xw Go.Proofs.YtgednccpjegbmaaGreatDoor.Dz
set_option maxRecDepth 100000
abbrev NoT : TypeId := 44
def nodeC (p x : ByteArray) (nv ov rv : Value) (st : ByteArray) (ln : Int) (ph ru : Bool) : Array Value := #[.string p, .string x, nv, ov, rv, .string st, .int .i64 ln, .bool ph, .bool ru]
theorem undNo : Tryz.prog.underlying NoT = some (.struct (Tryz.prog.fieldsOf NoT)) := by kernel_rfl
theorem sizeNo : (Tryz.prog.info? NoT).map (·.size) = some 9 := by kernel_rfl
theorem undFa : Tryz.prog.underlying FaT = some (.struct (Tryz.prog.fieldsOf FaT)) := by kernel_rfl
theorem sizeFa : (Tryz.prog.info? FaT).map (·.size) = some 3 := by kernel_rfl
theorem Of_nil (w : World) (p x : ByteArray) :
    Calls Tryz.prog 10 #[.pointer none, .agg #[.string p, .string x], .nilFunc] w fun e w' => e = .returned (.agg (nodeC p x (.slice none 0 0) (.slice none 0 0) (.slice none 0 0) ⟨#[]⟩ 0 false false)) ∧ Below w.heap.size w w' := by
  go_enter Tryz.func10, Tryz.ntmps10
  go_wp2_with fail
  refine bodyPost_ret (results_box Tryz.results10 _ _ (w.heap.size + 1) NoT (nodeC p x (.slice none 0 0) (.slice none 0 0) (.slice none 0 0) ⟨#[]⟩ 0 false false) (0, 0) _ rfl (by
    have h := heap_last (w.alloc (.cells #[.string p, .string x] 40)) (.cells (nodeC p x (.slice none 0 0) (.slice none 0 0) (.slice none 0 0) ⟨#[]⟩ 0 false false) NoT)
    rwa [World.size_alloc] at h) undNo rfl sizeNo) rfl ?_
  exact ⟨rfl, ((Below.refl _ w).alloc (Nat.le_refl _) _).alloc (by simp) _⟩
theorem Commands_nil (w : World) (s : Option Addr) (p x st : ByteArray) (na oa ra : Option Addr) (n1 n2 o1 o2 r1 r2 : Nat) (ln : Int) (ph ru : Bool) :
    Calls Tryz.prog 12 #[.pointer none, .pointer s, .agg (nodeC p x (.slice na n1 n2) (.slice oa o1 o2) (.slice ra r1 r2) st ln ph ru)] w fun e w' => e = .returned (.tuple #[.slice none 0 0, .agg #[.int .i64 0, .string ⟨#[]⟩, .int .i64 0]]) ∧ Below w.heap.size w w' := by
  unfold nodeC
  go_enter Tryz.func12, Tryz.ntmps12
  go_wp2_with fail
  refine bodyPost_ret (Mw.results_tc Tryz.results12 _ _ (w.heap.size + 1) FaT #[.int .i64 0, .string ⟨#[]⟩, .int .i64 0] (0, 0) _ (.slice none 0 0) rfl rfl (by
    have h := heap_last (w.alloc (.cells (nodeC p x (.slice na n1 n2) (.slice oa o1 o2) (.slice ra r1 r2) st ln ph ru) NoT)) (.cells #[.int .i64 0, .string ⟨#[]⟩, .int .i64 0] FaT)
    rwa [World.size_alloc] at h) undFa rfl sizeFa) rfl ?_
  exact ⟨rfl, ((Below.refl _ w).alloc (Nat.le_refl _) _).alloc (by simp) _⟩
end Go.Proofs.YtgednccpjegbmaaGreatDoor.Dq
namespace Go.Proofs.YtgednccpjegbmaaGreatDoor.Dq
open Go.RowKit Go.Proofs.YtgednccpjegbmaaGreatDoor Go.Maps Go.Proofs.YtgednccpjegbmaaGreatDoor.Ww Go.Proofs.YtgednccpjegbmaaGreatDoor.Tw Go.Proofs.YtgednccpjegbmaaGreatDoor.Kw Go.Proofs.YtgednccpjegbmaaGreatDoor.Jw Go.Proofs.YtgednccpjegbmaaGreatDoor.Xb Go.Proofs.YtgednccpjegbmaaGreatDoor.Xw Go.Proofs.YtgednccpjegbmaaGreatDoor.Dz
set_option maxRecDepth 100000
theorem FindNil_of (w : World) (p x : ByteArray) (HL : Calls Tryz.prog 5 #[] w fun e w' => e = .returned (.bool true) ∧ Below w.heap.size w w') :
    Calls Tryz.prog 4 #[.string p, .string x] w fun e w' => e = .returned (.bool true) ∧ Below w.heap.size w w' := by
  have hqF : ∀ w : World, (binOp .eql FaT (.agg #[.int .i64 0, .string ⟨#[]⟩, .int .i64 0]) (.agg #[.int .i64 0, .string ⟨#[]⟩, .int .i64 0])).run Tryz.prog w = .ok (.bool true) w := fun w => by kernel_rfl
  have HLH := Lib.hid HL
  have HO := Lib.hid fun W => Of_nil W p x
  have HC := Lib.hid fun W => Commands_nil W none p x ⟨#[]⟩ none none none 0 0 0 0 0 0 0 false false
  unfold nodeC at HO HC
  clear HL
  go_enter Tryz.func4, Tryz.ntmps4
  go_wp2_with fail
  refine HLH.out.mono ?_
  rintro e w1 ⟨rfl, B1⟩
  have HB1 := Lib.hid B1
  clear B1 HLH
  go_wp2_with fail
  refine (HO.out _).mono ?_
  rintro e w2 ⟨rfl, B2⟩
  have hx2 := (B2.block w1.heap.size (by simp)).trans (heap_last w1 (.cells #[.string p, .string x] 40))
  have HX2 := Lib.hid hx2
  have HB2 := Lib.hid ((HB1.out.alloc HB1.out.size (.cells #[.string p, .string x] 40)).trans (B2.mono (by have := HB1.out.size; simp; omega)))
  have hl2 : w1.heap.size < w2.heap.size := (Array.getElem?_eq_some_iff.1 hx2).1
  clear B2 hx2 HO
  go_wp2_with fail
  refine (HC.out _).mono ?_
  rintro e w3 ⟨rfl, B3⟩
  have hx3 := (B3.block w1.heap.size (by simp; omega)).trans (alloc_keep HX2.out _)
  have hn3 := (B3.block w2.heap.size (by simp)).trans (heap_last w2 (.cells #[.string p, .string x, .slice none 0 0, .slice none 0 0, .slice none 0 0, .string ⟨#[]⟩, .int .i64 0, .bool false, .bool false] NoT))
  have HB3 := Lib.hid ((HB2.out.alloc HB2.out.size (.cells #[.string p, .string x, .slice none 0 0, .slice none 0 0, .slice none 0 0, .string ⟨#[]⟩, .int .i64 0, .bool false, .bool false] NoT)).trans (B3.mono (by have := HB2.out.size; simp; omega)))
  have a0 : w3.cell? ⟨w1.heap.size, 0, none⟩ = some (.string p) := cell_at hx3 rfl
  have a1 : w3.cell? ⟨w1.heap.size, 1, none⟩ = some (.string x) := cell_at hx3 rfl
  have n0 : w3.cell? ⟨w2.heap.size, 0, none⟩ = some (.string p) := cell_at hn3 rfl
  have n1 : w3.cell? ⟨w2.heap.size, 1, none⟩ = some (.string x) := cell_at hn3 rfl
  have n2 : w3.cell? ⟨w2.heap.size, 2, none⟩ = some (.slice none 0 0) := cell_at hn3 rfl
  have n3 : w3.cell? ⟨w2.heap.size, 3, none⟩ = some (.slice none 0 0) := cell_at hn3 rfl
  have n4 : w3.cell? ⟨w2.heap.size, 4, none⟩ = some (.slice none 0 0) := cell_at hn3 rfl
  have n7 : w3.cell? ⟨w2.heap.size, 7, none⟩ = some (.bool false) := cell_at hn3 rfl
  have n8 : w3.cell? ⟨w2.heap.size, 8, none⟩ = some (.bool false) := cell_at hn3 rfl
  have l1 : w1.heap.size < w3.heap.size := (Array.getElem?_eq_some_iff.1 hx3).1
  have l2 : w2.heap.size < w3.heap.size := (Array.getElem?_eq_some_iff.1 hn3).1
  clear B3 hx3 hn3 HX2 HC
  go_wp2_with fail
  go_ret
  exact ⟨rfl, HB3.out.alloc HB3.out.size _⟩
end Go.Proofs.YtgednccpjegbmaaGreatDoor.Dq
namespace Go.Proofs.YtgednccpjegbmaaGreatDoor.Dq
open Go.RowKit Go.Proofs.YtgednccpjegbmaaGreatDoor Go.Maps Go.Proofs.YtgednccpjegbmaaGreatDoor.Ww Go.Proofs.YtgednccpjegbmaaGreatDoor.Tw Go.Proofs.YtgednccpjegbmaaGreatDoor.Kw Go.Proofs.YtgednccpjegbmaaGreatDoor.Jw Go.Proofs.YtgednccpjegbmaaGreatDoor.Xb Go.Proofs.YtgednccpjegbmaaGreatDoor.Xw Go.Proofs.YtgednccpjegbmaaGreatDoor.Dz
set_option maxRecDepth 100000
end Go.Proofs.YtgednccpjegbmaaGreatDoor.Dq
