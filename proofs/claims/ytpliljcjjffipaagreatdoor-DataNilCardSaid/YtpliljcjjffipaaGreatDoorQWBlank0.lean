/-
  words.blank: is a byte a blank?
-/
import Derived.Test.YtpliljcjjffipaaGreatDoorShelf
import Derived.Test.YtpliljcjjffipaaGreatDoorQWReads
import Derived.Test.YtpliljcjjffipaaGreatDoorQWWords
namespace Go.Proofs.YtpliljcjjffipaaGreatDoor.Ww
open Go.RowKit Go.Proofs.YtpliljcjjffipaaGreatDoor
set_option maxRecDepth 100000

theorem index_blank (c : UInt8) : Lib.indexByte [32, 9, 10] c = if c = 32 then 0 else if c = 9 then 1 else if c = 10 then 2 else -1 := by
  by_cases h1 : c = 32
  · subst h1; decide
  · by_cases h2 : c = 9
    · subst h2; decide
    · by_cases h3 : c = 10
      · subst h3; decide
      · rw [if_neg h1, if_neg h2, if_neg h3]
        by_cases h : Lib.indexByte [32, 9, 10] c = -1
        · exact h
        · have hge := Lib.indexByte_ge [32, 9, 10] c
          obtain ⟨i, hi⟩ : ∃ i : Nat, Lib.indexByte [32, 9, 10] c = i := ⟨(Lib.indexByte [32, 9, 10] c).toNat, by omega⟩
          have := (Lib.indexByte_some hi).1
          match i, this with
          | 0, e => exact absurd (Option.some.inj e).symm h1
          | 1, e => exact absurd (Option.some.inj e).symm h2
          | 2, e => exact absurd (Option.some.inj e).symm h3
theorem blank_yes {c : UInt8} (h : Wp.blankB c = true) : ∃ i : Nat, Lib.indexByte [32, 9, 10] c = i := by
  rw [index_blank]
  unfold Wp.blankB at h
  simp only [Bool.or_eq_true, beq_iff_eq] at h
  rcases h with (h | h) | h
  · subst h; exact ⟨0, by decide⟩
  · subst h; exact ⟨1, by decide⟩
  · subst h; exact ⟨2, by decide⟩
theorem blank_no {c : UInt8} (h : Wp.blankB c = false) : Lib.indexByte [32, 9, 10] c = -1 := by
  rw [index_blank]
  unfold Wp.blankB at h
  simp only [Bool.or_eq_false_iff, beq_eq_false_iff_ne] at h
  rw [if_neg h.1.1, if_neg h.1.2, if_neg h.2]

theorem IndexByte_is (c : UInt8) (i : Int) (w : World) (h : Hid (Lib.indexByte [32, 9, 10] c = i)) :
    Calls Tryz.prog 197 #[.string ⟨#[32, 9, 10]⟩, .int .u8 (c.toNat : Int)] w fun e w' => e = .returned (.int .i64 i) ∧ w = w' := by
  refine (Tryz.strings_IndexByte ⟨#[32, 9, 10]⟩ (c.toNat : Int) w).mono fun e w' ⟨he, hw⟩ => ⟨?_, hw.symm⟩
  rw [he, ← h.out]
  have e : ((c.toNat : Int)).toNat.toUInt8 = c := by simp
  rw [e]

theorem blank_any (w : World) (c : UInt8) (b : Bool) (hb : Hid (Wp.blankB c = b)) : Calls Tryz.prog 142 #[.int .u8 (c.toNat : Int)] w fun e w' => e = .returned (.bool b) ∧ w = w' := by
  cases b with
  | true =>
    obtain ⟨i, hi⟩ := blank_yes hb.out
    have HI := Lib.hid hi
    clear hi
    go_enter Tryz.func142, Tryz.ntmps142
    go_wp2_with fail
    refine (IndexByte_is c _ w HI).mono ?_
    rintro e w' ⟨rfl, rfl⟩
    go_wp2_with fail
    go_ret
    exact ⟨rfl, rfl⟩
  | false =>
    have HI := Lib.hid (blank_no hb.out)
    go_enter Tryz.func142, Tryz.ntmps142
    go_wp2_with fail
    refine (IndexByte_is c _ w HI).mono ?_
    rintro e w' ⟨rfl, rfl⟩
    go_wp2_with fail
    go_ret
    exact ⟨rfl, rfl⟩

end Go.Proofs.YtpliljcjjffipaaGreatDoor.Ww
