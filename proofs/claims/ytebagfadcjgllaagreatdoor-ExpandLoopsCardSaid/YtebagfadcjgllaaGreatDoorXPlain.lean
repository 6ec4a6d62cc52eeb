/-
  (*expansion).expand of a text without $.
-/
import Derived.Test.YtebagfadcjgllaaGreatDoorXCtx
import Derived.Test.YtebagfadcjgllaaGreatDoorTCut
namespace Go.Proofs.YtebagfadcjgllaaGreatDoor.Xw
open Go.RowKit Go.Proofs.YtebagfadcjgllaaGreatDoor Go.Proofs.YtebagfadcjgllaaGreatDoor.Ww Go.Proofs.YtebagfadcjgllaaGreatDoor.Tw Go.Proofs.YtebagfadcjgllaaGreatDoor.Kw Go.Proofs.YtebagfadcjgllaaGreatDoor.Jw Go.Proofs.YtebagfadcjgllaaGreatDoor.Xb
set_option maxRecDepth 100000

abbrev QT : TypeId := 85
theorem liesQ : liesAt Tryz.prog Tryz.prog.depth QT (2 / Tryz.prog.cellsOf QT) 0 BT 1 = true := by kernel_rfl
/-- A result that is made. -/
theorem res_new (w : World) : BAt (w.alloc (.cells #[.pointer none, .slice none 0 0] QT)) QT w.heap.size 0 (w.heap.size + 1) [] (.pointer none) (.slice none 0 0) #[.pointer none, .slice none 0 0] :=
  ⟨heap_last _ _, rfl, rfl, .inl rfl, World.ownsRow_nil _ _ _ _, liesQ, by decide⟩

section
variable {xb tb ab lb yb : Nat} {gv kv : Value} {X : List Nat} {L : List Jp.V}
set_option maxHeartbeats 2000000 in
theorem expand_plain (s : Bs) (d : Int) (B : List (Bs × Unit)) (h0 : (36 : UInt8) ∉ s) (hs : s.length ≤ 1000) (h1 : 0 ≤ d) (hd : d < 60) : ExpandC xb tb ab lb yb gv kv X L s d B (some s) := by
  intro w hC
  have hlt := hC.lt
  have hly := hC.busy.lt
  have c6 := hC.cells.2.2.2.2.2
  have f6 := frozen_at hC.box 6
  have hO1 := (On.refl hC).deep (d + 1)
  have c61 : (w.setCell ⟨xb, 6, none⟩ (.int .i64 (d + 1))).cell? ⟨xb, 6, none⟩ = some (.int .i64 (d + 1)) := hO1.cx.cells.2.2.2.2.2
  have HB := Lib.hid (res_new (w.setCell ⟨xb, 6, none⟩ (.int .i64 (d + 1))))
  have hsz : (w.setCell ⟨xb, 6, none⟩ (.int .i64 (d + 1))).heap.size = w.heap.size := by simp [World.setCell]
  have HO := Lib.hid (hO1.below ((Below.refl _ _).alloc (Nat.le_refl _) (.cells #[.pointer none, .slice none 0 0] QT)))
  rw [hsz] at HB
  have hdd : ¬ (60 : Int) < (d : Int) + 1 := by omega
  have hss : (str s).size ≤ 1000 := by rw [str_size]; exact hs
  have HCut := Lib.hid fun W => Cut_no W (str s) 36 (by rw [by8_str]; exact h0)
  clear hC hO1 h0
  go_enter Tryz.func16, Tryz.ntmps16
  go_wp2_with fail
  refine wp_loop_rounds 1 ?_
  rw [rounds_succ]
  go_wp2_with fail
  generalize (w.setCell ⟨xb, 6, none⟩ (.int .i64 (d + 1))).alloc (.cells #[.pointer none, .slice none 0 0] QT) = W0 at *
  refine (HCut.out _).mono ?_
  rintro e w1 ⟨rfl, B1⟩
  have HO1 := Lib.hid (HO.out.below B1)
  have HB1 := Lib.hid (HB.out.below B1)
  clear HB HO B1
  have HA := Lib.hid (add_any w1 HB1.out (str s) (by simp only [List.length_nil]; omega) HB1.out.lt)
  go_wp2_with fail
  refine HA.out.mono ?_
  rintro e w2 ⟨rfl, bv, hB2, hK2⟩
  have HO2 := Lib.hid (HO1.out.fresh hK2 (by simp [Value.ownBlock]))
  have HB2 := Lib.hid hB2
  have g6 := HO2.out.cx.cells.2.2.2.2.2
  have k6 := frozen_at HO2.out.cx.box 6
  have hl2 := HO2.out.cx.lt
  have HS := Lib.hid fun W (h : BAt W QT w.heap.size 0 (w.heap.size + 1) s (.pointer (some ⟨w.heap.size, 0, none⟩)) bv (bCs #[.pointer none, .slice none 0 0] w.heap.size 0 bv)) => String_any W h
  have hwr : IntKind.i64.wrap (d + 1 - 1) = d := by rw [show d + 1 - 1 = d by omega]; exact IntWalk.i64_in _ (by omega)
  clear hB2 hK2 HA HB1 HO1 HCut
  go_wp2_with fail
  have HO3 := Lib.hid (HO2.out.deep d)
  have HB3 := Lib.hid (HB2.out.kept ((Kept.refl [xb] w2).setCell (p := ⟨xb, 6, none⟩) (.inl (by simp)) (.int .i64 d)) (by simp; omega) (by simp; omega))
  generalize w2.setCell ⟨xb, 6, none⟩ (.int .i64 d) = w3 at *
  refine (HS.out _ HB3.out).mono ?_
  rintro e w4 ⟨rfl, hK4⟩
  have HO4 := Lib.hid (HO3.out.fresh hK4 (fun i hi => by have := HB3.out.fresh i hi; omega))
  clear HO3 HB3 HB2 HO2 hK4 g6 k6 HS
  go_wp2_with fail
  go_ret
  exact ⟨rfl, HO4.out.cx, HO4.out.k⟩
end
end Go.Proofs.YtebagfadcjgllaaGreatDoor.Xw
