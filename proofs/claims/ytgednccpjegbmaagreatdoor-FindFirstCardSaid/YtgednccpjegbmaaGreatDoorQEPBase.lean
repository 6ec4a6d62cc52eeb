/-
  What package text's own functions lean on: the library's variables; words.Trim, Split, Join, in the answer's words.
-/
import Derived.Lib.IndexMore
import Derived.Lib.LaidTab
import Derived.Lib.ItoaNum
import Derived.Lib.SmallJoins
import Derived.Lib.Strings
import Derived.Lib.LastIndexByte
import Derived.Test.YtgednccpjegbmaaGreatDoorQWSplit
import Derived.Test.YtgednccpjegbmaaGreatDoorQETrim
import Derived.Test.YtgednccpjegbmaaGreatDoorQEEach
import Derived.Test.YtgednccpjegbmaaGreatDoorShelf
namespace Go.Proofs.YtgednccpjegbmaaGreatDoor.Ew
open Go.RowKit Go.Proofs.YtgednccpjegbmaaGreatDoor Go.Proofs.YtgednccpjegbmaaGreatDoor.Ww Go.Proofs.YtgednccpjegbmaaGreatDoor.Tw
set_option maxRecDepth 100000

/-- What is known of the library's own variables. -/
structure GM (w : World) : Prop where
  lt : 0 < w.heap.size
  max : ∃ m, w.cell? ⟨0, 0, none⟩ = some (.int .i64 m)
  tab : Lib.TabIs Tryz.prog w "internal/strconv.uint64pow10" .u64 Lib.pow10Tab
theorem GM.below {w w' : World} (h : GM w) (hB : Below w.heap.size w w') : GM w' :=
  ⟨Nat.lt_of_lt_of_le h.lt hB.size, by obtain ⟨m, hm⟩ := h.max; exact ⟨m, (hB.cell (p := ⟨0, 0, none⟩) h.lt).trans hm⟩,
    Go.Joins.tab_stays (g := 3) (by kernel_rfl) h.tab hB (Nat.le_refl _)⟩

theorem PSplit_any (w : World) (s : ByteArray) (hs : s.size ≤ 1000000) : Calls Tryz.prog 149 #[.string s] w fun e w' => ∃ a c, e = .returned (.slice a (wordsS s).length c) ∧ Hid (w'.ownsRow w.heap.size ST 1 (.slice a (wordsS s).length c) (wordsS s).length (strsC (wordsS s))) ∧ Below w.heap.size w w' := by
  refine (Ww.Split_any w s (by omega)).mono ?_
  rintro e w' ⟨v, rfl, ho, B⟩
  have ho2 : w'.ownsRow w.heap.size ST 1 v (wordsS s).length (strsC (wordsS s)) := owns_weaken ho (Nat.le_add_right _ 2)
  obtain ⟨a, c, rfl⟩ := owns_slice ho2
  exact ⟨a, c, rfl, Lib.hid ho2, B⟩
theorem PJoin_any (w : World) (v : Value) (l : List ByteArray) (hr : Rd w w.heap.size v (strsC l)) (hl : l.length ≤ 100000) (hs : ∀ x ∈ l, x.size ≤ 100000) :
    Calls Tryz.prog 93 #[v] w fun e w' => e = .returned (.string (joinS l)) ∧ Below w.heap.size w w' := by
  rcases Nat.eq_zero_or_pos l.length with h0 | h0
  · obtain rfl : l = [] := List.length_eq_zero_iff.1 h0
    obtain ⟨a, c, rfl, _⟩ := hr.shape
    go_enter Tryz.func93, Tryz.ntmps93
    go_wp2_with fail
    refine (Tryz.strings_Join_none a c ⟨#[32]⟩ w).mono ?_
    rintro e w' ⟨rfl, rfl⟩
    go_wp2_with fail
    go_ret
    exact ⟨rfl, Below.refl _ _⟩
  · obtain ⟨b, o, c, hv, hc, hb, hx⟩ := hr.open_ (by rw [strsC_len]; exact h0)
    rw [strsC_len] at hv hc
    subst hv
    have hj := jn_len l hs l.length (Nat.le_refl _)
    rw [List.take_of_length_le (Nat.le_refl _)] at hj
    have hm := Nat.mul_le_mul_right 100001 hl
    have HC := Lib.hid (Tryz.strings_Join b o c l ⟨#[32]⟩ w (fun j x hj => hx j _ (by obtain ⟨h1, rfl⟩ := List.getElem?_eq_some_iff.1 hj; exact strsC_get l h1)) hb (by omega) hc (by show (jn l).length ≤ _; omega))
    clear hx hj hr hs
    go_enter Tryz.func93, Tryz.ntmps93
    go_wp2_with fail
    refine HC.out.mono ?_
    rintro e w' ⟨rfl, hB⟩
    go_wp2_with fail
    go_ret
    exact ⟨rfl, hB⟩
end Go.Proofs.YtgednccpjegbmaaGreatDoor.Ew
