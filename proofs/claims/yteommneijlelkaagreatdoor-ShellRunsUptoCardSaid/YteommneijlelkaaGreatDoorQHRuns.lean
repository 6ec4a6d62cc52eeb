/-
  The law ShellRuns, walked: arguments that are too great.
-/
import Derived.Deep.RegionHeld3
import Derived.Deep.DeepCutAuto
import Derived.Test.YteommneijlelkaaGreatDoorQHFiles
import Derived.Test.YteommneijlelkaaGreatDoorQHRef16
import Derived.Test.YteommneijlelkaaGreatDoorQPOf2
import Derived.Test.YteommneijlelkaaGreatDoorQSIs
import Derived.Test.YteommneijlelkaaGreatDoorQSRNew
import Derived.Test.YteommneijlelkaaGreatDoorQSFine
namespace Go.Proofs.YteommneijlelkaaGreatDoor.Hx
open Go.RowKit Go.Proofs.YteommneijlelkaaGreatDoor Go.Maps Go.Proofs.YteommneijlelkaaGreatDoor.Sw
set_option maxRecDepth 100000
abbrev AskT : TypeId := 26
abbrev TwoT : TypeId := 23
/-- The world behind the law's own two boxes. -/
def askW (w : World) (x y d : ByteArray) (most : Int) : World := ((w.alloc (.cells #[.string x, .string y, .string d, .int .i8 most] AskT)).alloc (.cells #[.string x, .string y] TwoT)).drew
theorem askW_below (w : World) (x y d : ByteArray) (most : Int) : Below w.heap.size w (askW w x y d most) := (((Below.refl _ _).alloc (Nat.le_refl _) _).alloc (by simp) _).drew
theorem askW_box (w : World) (x y d : ByteArray) (most : Int) : (askW w x y d most).heap[w.heap.size + 1]? = some (.cells #[.string x, .string y] TwoT (0, 0)) :=
  heap_new (w.alloc (.cells #[.string x, .string y, .string d, .int .i8 most] AskT)) (.cells #[.string x, .string y] TwoT) (by simp)

set_option maxHeartbeats 2000000 in
theorem ShellRunsL_any (w : World) (a : Option Addr) (cp : Nat) (l : List F) (x y d : ByteArray) (most : Int) (hG : Lx.Glob w) (hF : FAt w a l) (hl : ∀ f ∈ l, f.p.length ≤ 1048576 ∧ f.t.length ≤ 1048576) (hn : l.length ≤ 1048576) (hls : x.size ≤ 140737488355328 ∧ y.size ≤ 140737488355328 ∧ d.size ≤ 140737488355328) (h : ¬ sumS l ≤ 20000 ∨ 2000 < x.size + y.size ∨ 200 < d.size) :
    Calls Tryz.prog 3 #[.slice a l.length cp, .agg #[.string x, .string y, .string d, .int .i8 most]] w fun e w' => e = .returned (.bool true) ∧ Below w.heap.size w w' := by
  have HL : Hid (∀ W, Lx.Glob W → Calls Tryz.prog 4 #[] W fun e w' => e = .returned (.bool true) ∧ Below W.heap.size W w') := Lib.hid lives_any
  have HS := Lib.hid fun (W : World) (h : FAt W a l) => Small_any W a cp l h hl hn
  have HB := Lib.hid (askW_below w x y d most)
  have hz := askW_box w x y d most
  have HG := Lib.hid (hG.below HB.out)
  have HF := Lib.hid (hF.below HB.out)
  have hsz : w.heap.size + 1 < (askW w x y d most).heap.size := (Array.getElem?_eq_some_iff.1 hz).1
  obtain ⟨hx, hy, hd⟩ := hls
  clear hG hF
  by_cases k1 : sumS l ≤ 20000
  · rw [decide_eq_true k1] at HS
    by_cases k2 : 2000 < x.size + y.size
    · have q2 : (2000 : Int) < (x.size : Int) + (y.size : Int) := by omega
      clear h k1 k2
      go_enter Tryz.func3, Tryz.ntmps3
      go_wp2_with fail
      go_region
      change Exit.then _ _ Exit.normal _ (askW w x y d most)
      generalize askW w x y d most = W0 at *
      go_wp2_with fail
      refine (HL.out _ HG.out).mono ?_
      rintro e w1 ⟨rfl, B1⟩
      go_wp2_with fail
      refine (HS.out _ (HF.out.below B1)).mono ?_
      rintro e w2 ⟨rfl, B2⟩
      have B12 := B1.trans (B2.mono B1.size)
      have hz2 := (B12.block _ hsz).trans hz
      have z0 := cell_at hz2 (i := 0) rfl
      have z1 := cell_at hz2 (i := 1) rfl
      clear hz2
      go_wp2_with fail
      refine (HL.out _ (HG.out.below B12)).mono ?_
      rintro e w3 ⟨rfl, B3⟩
      go_wp2_with fail
      go_ret
      exact ⟨rfl, HB.out.trans ((B12.trans (B3.mono B12.size)).mono HB.out.size)⟩
    · have q2 : ¬ (2000 : Int) < (x.size : Int) + (y.size : Int) := by omega
      have q3 : (200 : Int) < (d.size : Int) := by omega
      clear h k1 k2
      go_enter Tryz.func3, Tryz.ntmps3
      go_wp2_with fail
      go_region
      change Exit.then _ _ Exit.normal _ (askW w x y d most)
      generalize askW w x y d most = W0 at *
      go_wp2_with fail
      refine (HL.out _ HG.out).mono ?_
      rintro e w1 ⟨rfl, B1⟩
      go_wp2_with fail
      refine (HS.out _ (HF.out.below B1)).mono ?_
      rintro e w2 ⟨rfl, B2⟩
      have B12 := B1.trans (B2.mono B1.size)
      have hz2 := (B12.block _ hsz).trans hz
      have z0 := cell_at hz2 (i := 0) rfl
      have z1 := cell_at hz2 (i := 1) rfl
      clear hz2
      go_wp2_with fail
      refine (HL.out _ (HG.out.below B12)).mono ?_
      rintro e w3 ⟨rfl, B3⟩
      go_wp2_with fail
      go_ret
      exact ⟨rfl, HB.out.trans ((B12.trans (B3.mono B12.size)).mono HB.out.size)⟩
  · rw [decide_eq_false k1] at HS
    clear h k1
    go_enter Tryz.func3, Tryz.ntmps3
    go_wp2_with fail
    go_region
    change Exit.then _ _ Exit.normal _ (askW w x y d most)
    generalize askW w x y d most = W0 at *
    go_wp2_with fail
    refine (HL.out _ HG.out).mono ?_
    rintro e w1 ⟨rfl, B1⟩
    go_wp2_with fail
    refine (HS.out _ (HF.out.below B1)).mono ?_
    rintro e w2 ⟨rfl, B2⟩
    have B12 := B1.trans (B2.mono B1.size)
    have hz2 := (B12.block _ hsz).trans hz
    have z0 := cell_at hz2 (i := 0) rfl
    have z1 := cell_at hz2 (i := 1) rfl
    clear hz2
    go_wp2_with fail
    refine (HL.out _ (HG.out.below B12)).mono ?_
    rintro e w3 ⟨rfl, B3⟩
    go_wp2_with fail
    go_ret
    exact ⟨rfl, HB.out.trans ((B12.trans (B3.mono B12.size)).mono HB.out.size)⟩
end Go.Proofs.YteommneijlelkaaGreatDoor.Hx
