/-
  flatironref11: Right, Has, without.
-/
import Derived.Test.YtebagfadcjgllaaGreatDoorJGet
namespace Go.Proofs.YtebagfadcjgllaaGreatDoor.Jw
open Go.RowKit Go.Proofs.YtebagfadcjgllaaGreatDoor Go.Proofs.YtebagfadcjgllaaGreatDoor.Ww Go.Proofs.YtebagfadcjgllaaGreatDoor.Tw
set_option maxRecDepth 100000

theorem emp_yes {l : Bs} (h : l = []) : (str l).toList = [] := by rw [toList_by8]; exact h
theorem emp_no {l : Bs} (h : ¬ l = []) : ¬ (str l).toList = [] := by rw [toList_by8]; exact h
theorem emp_is {l : Bs} (h : ¬ l = []) : (str l).toList.isEmpty = false := by
  cases h' : (str l).toList with
  | nil => exact absurd h' (emp_no h)
  | cons => rfl
set_option maxHeartbeats 2000000 in
theorem Right_any (w : World) (v : Jp.V) : Calls Tryz.prog 10 #[.agg (vA v)] w fun e w' => e = .returned (.bool (Jp.rightA v)) ∧ Below w.heap.size w w' := by
  have HB := Lib.hid ((Below.refl w.heap.size w).alloc (Nat.le_refl _) (.cells (vA v) VT))
  have hb := heap_last w (.cells (vA v) VT)
  have c0 := cell_at (i := 0) hb rfl
  have c1 := cell_at (i := 1) hb rfl
  have c2 := cell_at (i := 2) hb rfl
  have c3 := cell_at (i := 3) hb rfl
  clear hb
  unfold vA at *
  by_cases h0 : v.n = []
  · have HR : Hid (Jp.rightA v = false) := Lib.hid (by unfold Jp.rightA; rw [h0]; rfl)
    have e0 := emp_yes h0
    clear h0
    go_enter Tryz.func10, Tryz.ntmps10
    go_wp2_with fail
    go_ret
    exact ⟨ret_bool HR.out.symm, HB.out⟩
  · have e0 := emp_no h0
    have e1 := emp_is h0
    by_cases h1 : 0 ≤ v.f
    · by_cases h2 : v.f ≤ 4
      · have HR : Hid (Jp.rightA v = true) := Lib.hid (by
          unfold Jp.rightA
          rw [decide_eq_true h1, decide_eq_true h2]
          cases hn : v.n with
          | nil => exact absurd hn h0
          | cons => rfl)
        clear h0
        go_enter Tryz.func10, Tryz.ntmps10
        go_wp2_with fail
        go_ret
        exact ⟨ret_bool HR.out.symm, HB.out⟩
      · have HR : Hid (Jp.rightA v = false) := Lib.hid (by
          unfold Jp.rightA
          rw [decide_eq_false h2, Bool.and_false, Bool.and_false])
        clear h0
        go_enter Tryz.func10, Tryz.ntmps10
        go_wp2_with fail
        go_ret
        exact ⟨ret_bool HR.out.symm, HB.out⟩
    · have HR : Hid (Jp.rightA v = false) := Lib.hid (by
        unfold Jp.rightA
        rw [decide_eq_false h1, Bool.false_and, Bool.and_false])
      clear h0
      go_enter Tryz.func10, Tryz.ntmps10
      go_wp2_with fail
      go_ret
      exact ⟨ret_bool HR.out.symm, HB.out⟩
end Go.Proofs.YtebagfadcjgllaaGreatDoor.Jw
