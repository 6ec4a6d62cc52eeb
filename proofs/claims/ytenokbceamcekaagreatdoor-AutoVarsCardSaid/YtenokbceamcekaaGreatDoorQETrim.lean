/-
  flatironref04.Trim: a text without the blanks at its ends.
-/
import Derived.Lib.SlTrimSet
import Derived.Test.YtenokbceamcekaaGreatDoorQWBlank
import Derived.Test.YtenokbceamcekaaGreatDoorQESplit
namespace Go.Proofs.YtenokbceamcekaaGreatDoor.Ew
open Go.RowKit Go.Proofs.YtenokbceamcekaaGreatDoor Go.Proofs.YtenokbceamcekaaGreatDoor.Ww
set_option maxRecDepth 100000

def trimT (s : ByteArray) : ByteArray := ⟨(Lib.trimS (by8 s) [32, 9, 10]).toArray⟩
theorem contains_blank (c : UInt8) : ([32, 9, 10] : List UInt8).contains c = Wp.blankB c := by
  simp only [List.contains_cons, List.contains_nil, Bool.or_false, Wp.blankB, Bool.or_assoc]

theorem trim_is {s : ByteArray} {a b : Nat} (hab : a ≤ b) (hb : b ≤ s.size) (hA : ∀ j (h : j < s.size), j < a → Wp.blankB s[j] = true) (hB : ∀ j (h : j < s.size), b ≤ j → Wp.blankB s[j] = true)
    (eA : ∀ h : a < s.size, Wp.blankB s[a] = false) (eB : ∀ h : b - 1 < s.size, a < b → Wp.blankB s[b - 1] = false) : s.extract a b = trimT s := by
  refine by8_ext ?_
  show (s.extract a b).data.toList = Lib.trimS (by8 s) [32, 9, 10]
  rw [ByteArray.data_extract, Array.toList_extract, List.extract_eq_take_drop]
  show ((by8 s).drop a).take (b - a) = _
  have len := by8_len s
  have get : ∀ j c, (by8 s)[j]? = some c → ∃ h : j < s.size, c = s[j] := fun j c hc => by
    have hj : j < s.size := by rw [← len]; exact (List.getElem?_eq_some_iff.1 hc).1
    exact ⟨hj, by8_some hj hc⟩
  unfold Lib.trimS
  by_cases h : a < b
  · rw [Lib.trimRightS_take (by8 s) _ b (by rw [len]; exact hb) (fun j c hj hc => by
        obtain ⟨h1, rfl⟩ := get j c hc
        rw [contains_blank]; exact hB j h1 hj) (fun c _ hc => by
        obtain ⟨h1, rfl⟩ := get _ c hc
        rw [contains_blank]; exact eB h1 h)]
    rw [Lib.trimLeftS_drop _ _ a (by rw [List.length_take, len]; omega) (fun j c hj hc => by
        rw [List.getElem?_take_of_lt (by omega)] at hc
        obtain ⟨h1, rfl⟩ := get j c hc
        rw [contains_blank]; exact hA j h1 hj) (fun c hc => by
        rw [List.getElem?_take_of_lt h] at hc
        obtain ⟨h1, rfl⟩ := get _ c hc
        rw [contains_blank]; exact eA h1)]
    rw [List.drop_take]
  · obtain rfl : a = b := by omega
    have hs : a = s.size := by
      rcases Nat.lt_or_ge a s.size with h1 | h1
      · have := eA h1; rw [hB a h1 (Nat.le_refl _)] at this; cases this
      · omega
    subst hs
    rw [Nat.sub_self, List.take_zero, Lib.trimRightS_take (by8 s) _ 0 (Nat.zero_le _) (fun j c _ hc => by
        obtain ⟨h1, rfl⟩ := get j c hc
        rw [contains_blank]; exact hA j h1 h1) (fun c h0 _ => absurd h0 (Nat.lt_irrefl 0))]
    rfl

set_option maxHeartbeats 2000000 in
theorem RTrim_any (w : World) (s : ByteArray) (hs : s.size ≤ 1000000) :
    Calls Tryz.prog 43 #[.string s] w fun e w' => e = .returned (.string (trimT s)) ∧ w = w' := by
  go_enter Tryz.func43, Tryz.ntmps43
  go_wp2_with fail
  go_loop [3] (fun va => ∃ a : Nat, va = .int .i64 a ∧ a ≤ s.size ∧ ∀ j (h : j < s.size), j < a → Wp.blankB s[j] = true) (fun va => s.size - (intOf va).toNat)
  case atStart => exact ⟨0, rfl, Nat.zero_le _, fun j _ h => absurd h (Nat.not_lt_zero _)⟩
  case round =>
    obtain ⟨a, rfl, ha, hA⟩ := hrel
    have HA := Lib.hid hA
    clear hA
    by_cases hgo : ∃ h : a < s.size, Wp.blankB s[a] = true
    · obtain ⟨hlt, hb⟩ := hgo
      have HB := Lib.hid hb
      clear hb
      go_wp2_with fail
      refine (Blank_any _ s[a] _ HB).mono ?_
      rintro e w' ⟨rfl, rfl⟩
      go_wp2_with fail
      go_round
      case rel => exact ⟨a + 1, by go_num, hlt, fun j h hj => by
        rcases Nat.lt_or_ge j a with h' | h'
        · exact HA.out j h h'
        · obtain rfl : j = a := by omega
          exact HB.out⟩
      case measure => simp [intOf]; omega
    · have EA : Hid (∀ h : a < s.size, Wp.blankB s[a] = false) := Lib.hid fun h => by
        cases hb : Wp.blankB s[a] with
        | false => rfl
        | true => exact absurd ⟨h, hb⟩ hgo
      clear hgo
      by_cases hlt : a < s.size
      · have HB := Lib.hid (EA.out hlt)
        go_wp2_with fail
        refine (Blank_any _ s[a] _ HB).mono ?_
        rintro e w' ⟨rfl, rfl⟩
        go_wp2_with fail
        go_loop [4] (fun vb => ∃ b : Nat, vb = .int .i64 b ∧ a ≤ b ∧ b ≤ s.size ∧ ∀ j (h : j < s.size), b ≤ j → Wp.blankB s[j] = true) (fun vb => (intOf vb).toNat)
        case atStart => exact ⟨s.size, rfl, ha, Nat.le_refl _, fun j h1 h2 => by omega⟩
        case round =>
          obtain ⟨b, rfl, hab, hb, hBB⟩ := hrel
          have HBB := Lib.hid hBB
          clear hBB HB
          by_cases hgo : ∃ h : b - 1 < s.size, a < b ∧ Wp.blankB s[b - 1] = true
          · obtain ⟨h1, h2, h3⟩ := hgo
            obtain ⟨c, rfl⟩ : ∃ c, b = c + 1 := ⟨b - 1, by omega⟩
            have hc : c < s.size := h1
            have HB : Hid (Wp.blankB s[c] = true) := Lib.hid h3
            clear h3 h1
            go_wp2_with fail
            refine (Blank_any _ s[c] _ HB).mono ?_
            rintro e w' ⟨rfl, rfl⟩
            go_wp2_with fail
            go_round
            case rel => exact ⟨c, by go_num, by omega, by omega, fun j h hj => by
              rcases Nat.lt_or_ge c j with h' | h'
              · exact HBB.out j h h'
              · obtain rfl : j = c := by omega
                exact HB.out⟩
            case measure => simp [intOf]
          · have EB : Hid (∀ h : b - 1 < s.size, a < b → Wp.blankB s[b - 1] = false) := Lib.hid fun h h' => by
              cases hb : Wp.blankB s[b - 1] with
              | false => rfl
              | true => exact absurd ⟨h, h', hb⟩ hgo
            have HT := Lib.hid (trim_is hab hb HA.out HBB.out EA.out EB.out)
            clear hgo
            by_cases h2 : a < b
            · obtain ⟨c, rfl⟩ : ∃ c, b = c + 1 := ⟨b - 1, by omega⟩
              have hc : c < s.size := by omega
              have HB : Hid (Wp.blankB s[c] = false) := Lib.hid (EB.out hc h2)
              go_wp2_with fail
              refine (Blank_any _ s[c] _ HB).mono ?_
              rintro e w' ⟨rfl, rfl⟩
              go_wp2_with fail
              go_ret
              exact ⟨by rw [← HT.out]; rfl, rfl⟩
            · go_wp2_with fail
              go_ret
              exact ⟨by rw [← HT.out]; rfl, rfl⟩
      · obtain rfl : a = s.size := by omega
        have HT := Lib.hid (trim_is (Nat.le_refl _) (Nat.le_refl _) HA.out (fun j h h' => by omega) EA.out (fun _ h => absurd h (Nat.lt_irrefl _)))
        go_wp2_with fail
        go_loop [4] (fun vb => vb = .int .i64 s.size) (fun vb => 0)
        case atStart => exact rfl
        case round =>
          obtain rfl := hrel
          go_wp2_with fail
          go_ret
          exact ⟨by rw [← HT.out]; simp, rfl⟩
end Go.Proofs.YtenokbceamcekaaGreatDoor.Ew
