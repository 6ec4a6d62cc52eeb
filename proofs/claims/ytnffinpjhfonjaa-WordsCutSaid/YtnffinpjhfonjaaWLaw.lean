/-
  The law WordsCut, walked: for every two strings that can be read it returns true.
-/
import Derived.Test.YtnffinpjhfonjaaWLives
namespace Go.Proofs.Ytnffinpjhfonjaa.Ww
open Go.RowKit Go.Proofs.Ytnffinpjhfonjaa
set_option maxRecDepth 100000

theorem RCut_is (w : World) (s stops : ByteArray) (v : Int) (hv : Hid (cutI s stops = v)) (hs : s.size ≤ 100000) (hst : stops.size ≤ 100000) :
    Calls Try.prog 13 #[.string s, .string stops] w fun e w' => e = .returned (.int .i64 v) ∧ w = w' := by
  have := RCut_any w s stops hs hst
  unfold RCutPost at this
  rwa [hv.out] at this

set_option maxHeartbeats 4000000 in
theorem WordsCut_any (w : World) (s stops : ByteArray) (hs0 : s.size ≤ 140737488355328) (hst0 : stops.size ≤ 140737488355328) :
    Calls Try.prog 4 #[.string s, .string stops] w fun e w' => e = .returned (.bool true) ∧ Below w.heap.size w w' := by
  by_cases hs : s.size ≤ 2000
  · by_cases hst : stops.size ≤ 20
    · cases hc : Wp.cutA (by8 stops) [] (by8 s) 0 with
      | none =>
        have HV : Hid (cutOut s (Wp.cutA (by8 stops) [] (by8 s) 0) = .tuple #[.string s, .int .u8 0, .string ⟨#[]⟩]) := Lib.hid (by rw [hc]; rfl)
        have HI : Hid (cutI s stops = -1) := Lib.hid (by unfold cutI; rw [hc])
        clear hc
        go_enter Try.func4, Try.ntmps4
        go_wp2_with fail
        refine (lives_any w).mono ?_
        rintro e w1 ⟨rfl, B1⟩
        go_wp2_with fail
        refine (Cut_is _ _ _ _ HV (by omega) (by omega)).mono ?_
        rintro e w2 ⟨rfl, B2⟩
        go_wp2_with fail
        refine (RCut_is _ _ _ _ HI (by omega) (by omega)).mono ?_
        rintro e w3 ⟨rfl, rfl⟩
        go_wp2_with fail
        go_ret
        exact ⟨rfl, B1.trans (B2.mono B1.size)⟩
      | some i =>
        have hi := (Wp.cutA_lt hc).2
        rw [by8_len, Nat.zero_add] at hi
        have HV : Hid (cutOut s (Wp.cutA (by8 stops) [] (by8 s) 0) = .tuple #[.string (s.extract 0 i), .int .u8 (s[i].toNat : Int), .string (s.extract (i + 1) s.size)]) := Lib.hid (by rw [hc, cutOut_some hi])
        have HI : Hid (cutI s stops = (i : Int)) := Lib.hid (by unfold cutI; rw [hc])
        clear hc
        go_enter Try.func4, Try.ntmps4
        go_wp2_with fail
        refine (lives_any w).mono ?_
        rintro e w1 ⟨rfl, B1⟩
        go_wp2_with fail
        refine (Cut_is _ _ _ _ HV (by omega) (by omega)).mono ?_
        rintro e w2 ⟨rfl, B2⟩
        go_wp2_with fail
        refine (RCut_is _ _ _ _ HI (by omega) (by omega)).mono ?_
        rintro e w3 ⟨rfl, rfl⟩
        go_wp2_with fail
        go_ret
        exact ⟨rfl, B1.trans (B2.mono B1.size)⟩
    · go_enter Try.func4, Try.ntmps4
      go_wp2_with fail
      refine (lives_any w).mono ?_
      rintro e w1 ⟨rfl, B1⟩
      go_wp2_with fail
      refine (lives_any w1).mono ?_
      rintro e w2 ⟨rfl, B2⟩
      go_wp2_with fail
      go_ret
      exact ⟨rfl, B1.trans (B2.mono B1.size)⟩
  · go_enter Try.func4, Try.ntmps4
    go_wp2_with fail
    refine (lives_any w).mono ?_
    rintro e w1 ⟨rfl, B1⟩
    go_wp2_with fail
    refine (lives_any w1).mono ?_
    rintro e w2 ⟨rfl, B2⟩
    go_wp2_with fail
    go_ret
    exact ⟨rfl, B1.trans (B2.mono B1.size)⟩
end Go.Proofs.Ytnffinpjhfonjaa.Ww
