/-
  flatironref04.Blank: is a byte a blank?
-/
import Derived.Test.YtenokbceamcekaaGreatDoorQWBlank0
namespace Go.Proofs.YtenokbceamcekaaGreatDoor.Ww
open Go.RowKit Go.Proofs.YtenokbceamcekaaGreatDoor
set_option maxRecDepth 100000

theorem Blank_any (w : World) (c : UInt8) (b : Bool) (hb : Hid (Wp.blankB c = b)) : Calls Tryz.prog 45 #[.int .u8 (c.toNat : Int)] w fun e w' => e = .returned (.bool b) ∧ w = w' := by
  by_cases h1 : c = 32
  · subst h1
    obtain rfl : true = b := hb.out
    go_enter Tryz.func45, Tryz.ntmps45
    go_wp2_with fail
    go_ret
    exact ⟨rfl, rfl⟩
  · by_cases h2 : c = 9
    · subst h2
      obtain rfl : true = b := hb.out
      go_enter Tryz.func45, Tryz.ntmps45
      go_wp2_with fail
      go_ret
      exact ⟨rfl, rfl⟩
    · by_cases h3 : c = 10
      · subst h3
        obtain rfl : true = b := hb.out
        go_enter Tryz.func45, Tryz.ntmps45
        go_wp2_with fail
        go_ret
        exact ⟨rfl, rfl⟩
      · have hb1 : ((c.toNat : Int) == 32) = false := eq_false (b := 32) h1
        have hb2 : ((c.toNat : Int) == 9) = false := eq_false (b := 9) h2
        have hb3 : ((c.toNat : Int) == 10) = false := eq_false (b := 10) h3
        obtain rfl : false = b := by rw [← hb.out]; simp [Wp.blankB, h1, h2, h3]
        clear h1 h2 h3 hb
        go_enter Tryz.func45, Tryz.ntmps45
        go_wp2_with fail
        go_ret
        exact ⟨rfl, rfl⟩
end Go.Proofs.YtenokbceamcekaaGreatDoor.Ww
