/-
  words.Trim: a text without the blanks at its ends.
-/
import Derived.Lib.SlTrimSet
import Derived.Test.YtjjlafbdhpojpaaDoorICells
import Derived.Test.YtjjlafbdhpojpaaDoorWWords
namespace Go.Proofs.YtjjlafbdhpojpaaDoor.Iw
open Go.RowKit Go.Proofs.YtjjlafbdhpojpaaDoor Go.Proofs.YtjjlafbdhpojpaaDoor.Ww
set_option maxRecDepth 100000

def trimT (s : ByteArray) : ByteArray := ⟨(Lib.trimS (by8 s) [32, 9, 10]).toArray⟩
theorem contains_blank (c : UInt8) : ([32, 9, 10] : List UInt8).contains c = Wp.blankB c := by
  simp only [List.contains_cons, List.contains_nil, Bool.or_false, Wp.blankB, Bool.or_assoc]

theorem infoA2 : (Tryd.prog.info? (Tryd.laysTrim_ren.t 116)).map (fun i => (i.zero, i.size)) = some (some (.agg (Array.replicate 256 (.bool false))), 256) := by kernel_rfl
theorem Trim_any (w : World) (s : ByteArray) (hs : s.size ≤ 1000000) :
    Calls Tryd.prog 32 #[.string s] w fun e w' => e = .returned (.string (trimT s)) ∧ Below w.heap.size w w' := by
  go_enter Tryd.func32, Tryd.ntmps32
  go_wp2_with fail
  refine (Any.strings_Trim_laid Tryd.laysTrim infoA2 s ⟨#[32, 9, 10]⟩ w (by omega) (by decide) (fun j b h => by
    match j, h with
    | 0, h => obtain rfl := Option.some.inj h; decide
    | 1, h => obtain rfl := Option.some.inj h; decide
    | 2, h => obtain rfl := Option.some.inj h; decide)).mono ?_
  rintro e w' ⟨rfl, hB⟩
  go_wp2_with fail
  go_ret
  exact ⟨rfl, hB⟩

end Go.Proofs.YtjjlafbdhpojpaaDoor.Iw
