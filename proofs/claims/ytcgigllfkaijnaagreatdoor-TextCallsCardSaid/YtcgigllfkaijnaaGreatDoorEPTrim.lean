/-
  words.Trim, in the answer's words.
-/
import Derived.Test.YtcgigllfkaijnaaGreatDoorEPBase
namespace Go.Proofs.YtcgigllfkaijnaaGreatDoor.Ew
open Go.RowKit Go.Proofs.YtcgigllfkaijnaaGreatDoor Go.Proofs.YtcgigllfkaijnaaGreatDoor.Ww Go.Proofs.YtcgigllfkaijnaaGreatDoor.Tw
set_option maxRecDepth 100000
theorem infoA2 : (Tryz.prog.info? (Tryz.laysTrim_ren.t 116)).map (fun i => (i.zero, i.size)) = some (some (.agg (Array.replicate 256 (.bool false))), 256) := by kernel_rfl
theorem PTrim_any (w : World) (s : ByteArray) (hs : s.size ≤ 1000000) :
    Calls Tryz.prog 61 #[.string s] w fun e w' => e = .returned (.string (trimT s)) ∧ Below w.heap.size w w' := by
  go_enter Tryz.func61, Tryz.ntmps61
  go_wp2_with fail
  refine (Any.strings_Trim_laid Tryz.laysTrim infoA2 s ⟨#[32, 9, 10]⟩ w (by omega) (by decide) (fun j b h => by
    match j, h with
    | 0, h => obtain rfl := Option.some.inj h; decide
    | 1, h => obtain rfl := Option.some.inj h; decide
    | 2, h => obtain rfl := Option.some.inj h; decide)).mono ?_
  rintro e w' ⟨rfl, hB⟩
  go_wp2_with fail
  go_ret
  exact ⟨rfl, hB⟩
end Go.Proofs.YtcgigllfkaijnaaGreatDoor.Ew
