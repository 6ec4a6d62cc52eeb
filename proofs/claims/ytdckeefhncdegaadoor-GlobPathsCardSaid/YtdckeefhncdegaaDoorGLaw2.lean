/-
  The law GlobPaths, walked: for every two strings that can be read it returns true.
-/
import Derived.Test.YtdckeefhncdegaaDoorRPath
namespace Go.Proofs.YtdckeefhncdegaaDoor.Gm
open Go.RowKit Go.Proofs.YtdckeefhncdegaaDoor
set_option maxRecDepth 100000

theorem RPath_is (w : World) (p s : ByteArray) (b : Bool) (hb : Hid (pathB (by8 p) (by8 s) = b)) (hp : p.size ≤ 900000) (hs : s.size ≤ 900000) :
    Calls Tryd.prog 10 #[.string p, .string s] w fun e w' => e = .returned (.bool b) ∧ Below w.heap.size w w' := by
  have := RPath_any w p s hp hs
  rwa [show pathB (bs p) (bs s) = b from hb.out] at this

set_option maxHeartbeats 1000000 in
theorem GlobPaths_any (w : World) (p s : ByteArray) (hp0 : p.size ≤ 140737488355328) (hs0 : s.size ≤ 140737488355328) :
    Calls Tryd.prog 4 #[.string p, .string s] w fun e w' => e = .returned (.bool true) ∧ Below w.heap.size w w' := by
  by_cases hp : p.size ≤ 24
  · by_cases hs : s.size ≤ 40
    · obtain ⟨b, HB⟩ : ∃ b, Hid (pathB (by8 p) (by8 s) = b) := ⟨_, Lib.hid rfl⟩
      go_enter Tryd.func4, Tryd.ntmps4
      go_wp2_with fail
      refine (lives_any w).mono ?_
      rintro e w1 ⟨rfl, B1⟩
      go_wp2_with fail
      refine (Path_is _ _ _ _ HB (by omega) (by omega)).mono ?_
      rintro e w2 ⟨rfl, B2⟩
      have hB2 := B1.trans (B2.mono B1.size)
      go_wp2_with fail
      refine (RPath_is _ _ _ _ HB (by omega) (by omega)).mono ?_
      rintro e w3 ⟨rfl, B3⟩
      have hB3 := hB2.trans (B3.mono hB2.size)
      go_wp2_with fail
      go_ret
      exact ⟨rfl, hB3⟩
    · have hp2 : p.size ≤ 24 := hp
      go_enter Tryd.func4, Tryd.ntmps4
      go_wp2_with fail
      refine (lives_any w).mono ?_
      rintro e w1 ⟨rfl, B1⟩
      go_wp2_with fail
      refine (lives_any w1).mono ?_
      rintro e w2 ⟨rfl, B2⟩
      go_wp2_with fail
      go_ret
      exact ⟨rfl, B1.trans (B2.mono B1.size)⟩
  · go_enter Tryd.func4, Tryd.ntmps4
    go_wp2_with fail
    refine (lives_any w).mono ?_
    rintro e w1 ⟨rfl, B1⟩
    go_wp2_with fail
    refine (lives_any w1).mono ?_
    rintro e w2 ⟨rfl, B2⟩
    go_wp2_with fail
    go_ret
    exact ⟨rfl, B1.trans (B2.mono B1.size)⟩
end Go.Proofs.YtdckeefhncdegaaDoor.Gm
