/-
  words.Join, and the law's examples.
-/
import Derived.Test.YtnffinpjhfonjaaDoorShelf
import Derived.Test.YtnffinpjhfonjaaDoorWCut
namespace Go.Proofs.YtnffinpjhfonjaaDoor.Ww
open Go.RowKit Go.Proofs.YtnffinpjhfonjaaDoor
set_option maxRecDepth 100000

/-- Words with one blank between. -/
def joinS (xs : List ByteArray) : ByteArray := ⟨(Lib.join (xs.map (·.data.toList)) [32]).toArray⟩

theorem Join_any (bk o c : Nat) (xs : List ByteArray) (w : World) (hcells : ∀ (j : Nat) x, xs[j]? = some x → w.cell? ⟨bk, o + j, none⟩ = some (.string x)) (hbk : bk < w.heap.size) (hN : xs.length ≤ 140737488355328) (hcap : xs.length ≤ c)
    (hlen : (Lib.join (xs.map (·.data.toList)) [32]).length ≤ 140737488355328) :
    Calls Tryd.prog 11 #[.slice (some ⟨bk, o, none⟩) xs.length c] w fun e w' => e = .returned (.string (joinS xs)) ∧ Below w.heap.size w w' := by
  have HC := Lib.hid hcells
  clear hcells
  go_enter Tryd.func11, Tryd.ntmps11
  go_wp2_with fail
  refine (Tryd.strings_Join bk o c xs ⟨#[32]⟩ w HC.out hbk hN hcap hlen).mono ?_
  rintro e w' ⟨rfl, hB⟩
  go_wp2_with fail
  go_ret
  exact ⟨rfl, hB⟩
theorem Join_none (a : Option Addr) (c : Nat) (w : World) :
    Calls Tryd.prog 11 #[.slice a 0 c] w fun e w' => e = .returned (.string (joinS [])) ∧ w = w' := by
  go_enter Tryd.func11, Tryd.ntmps11
  go_wp2_with fail
  refine (Tryd.strings_Join_none a c ⟨#[32]⟩ w).mono ?_
  rintro e w' ⟨rfl, rfl⟩
  go_wp2_with fail
  go_ret
  exact ⟨rfl, rfl⟩

theorem two_at (w : World) (x y : ByteArray) (T : TypeId) : ∀ (j : Nat) (u : ByteArray), [x, y][j]? = some u → (w.alloc (.cells #[.string x, .string y] T)).cell? ⟨w.heap.size, 0 + j, none⟩ = some (.string u) := by
  intro j u hj
  rw [World.cell?_alloc_at _ _ _ _ (by simp)]
  match j, hj with
  | 0, hj => obtain rfl := Option.some.inj hj; rfl
  | 1, hj => obtain rfl := Option.some.inj hj; rfl

theorem Cut_is (w : World) (s stops : ByteArray) (v : Value) (hv : Hid (cutOut s (Wp.cutA (by8 stops) [] (by8 s) 0) = v)) (hs : s.size ≤ 100000) (hst : stops.size ≤ 100000) :
    Calls Tryd.prog 12 #[.string s, .string stops] w fun e w' => e = .returned v ∧ Below w.heap.size w w' := by
  have := Cut_any w s stops hs hst
  unfold CutPost at this
  rwa [hv.out] at this

set_option maxHeartbeats 1000000 in
theorem lives_any (w : World) : Calls Tryd.prog 4 #[] w fun e w' => e = .returned (.bool true) ∧ Below w.heap.size w w' := by
  have H1 : Hid (cutOut ⟨#[97, 40, 98, 58, 99, 41, 58, 100]⟩ (Wp.cutA (by8 ⟨#[58]⟩) [] (by8 ⟨#[97, 40, 98, 58, 99, 41, 58, 100]⟩) 0) = .tuple #[.string ⟨#[97, 40, 98, 58, 99, 41]⟩, .int .u8 58, .string ⟨#[100]⟩]) := Lib.hid (by
    rw [show Wp.cutA (by8 ⟨#[58]⟩) [] (by8 ⟨#[97, 40, 98, 58, 99, 41, 58, 100]⟩) 0 = some 6 by decide +kernel]
    rfl)
  have H2 : Hid (joinS [⟨#[120]⟩, ⟨#[121]⟩] = ⟨#[120, 32, 121]⟩) := Lib.hid (by rfl)
  go_enter Tryd.func4, Tryd.ntmps4
  go_wp2_with fail
  refine (Cut_is _ _ _ _ H1 (by decide) (by decide)).mono ?_
  rintro e w1 ⟨rfl, B1⟩
  go_wp2_with fail
  refine (Join_any w1.heap.size 0 2 [⟨#[120]⟩, ⟨#[121]⟩] _ (two_at w1 _ _ _) (by simp) (by simp) (by simp) (by decide)).mono ?_
  rintro e w2 ⟨rfl, B2⟩
  rw [H2.out]
  go_wp2_with fail
  go_ret
  exact ⟨rfl, (B1.alloc B1.size _).trans (B2.mono (by have := B1.size; simp; omega))⟩
end Go.Proofs.YtnffinpjhfonjaaDoor.Ww
