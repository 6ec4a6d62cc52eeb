/-
  flatironref08.bare; strings.ContainsAny at a byte 10.
-/
import Derived.Test.YtgncnffejennfaaDoorITrim
namespace Go.Proofs.YtgncnffejennfaaDoor.Iw
open Go.RowKit Go.Proofs.YtgncnffejennfaaDoor Go.Proofs.YtgncnffejennfaaDoor.Ww
set_option maxRecDepth 100000

theorem ContainsAny_any (w : World) (s : ByteArray) (h : 10 ∉ by8 s) :
    Calls Tryd.prog 10 #[.string s, .string ⟨#[10]⟩] w fun e w' => e = .returned (.bool false) ∧ w = w' := by
  have HI : Lib.indexAny s.data.toList (⟨#[10]⟩ : ByteArray).data.toList = -1 := by
    show Lib.indexAny (by8 s) [10] = -1
    rw [Lib.indexAny_one]; exact index_no h
  have HC := Lib.hid (Tryd.strings_IndexAny_one s ⟨#[10]⟩ w rfl (fun j b h => by
    match j, h with
    | 0, h => obtain rfl := Option.some.inj h; decide))
  rw [HI] at HC
  clear h HI
  go_enter Tryd.func10, Tryd.ntmps10
  go_wp2_with fail
  refine HC.out.mono ?_
  rintro e w' ⟨rfl, rfl⟩
  go_wp2_with fail
  go_ret
  exact ⟨rfl, rfl⟩

theorem by8_add (a b : ByteArray) : by8 (a ++ b) = by8 a ++ by8 b := by simp [by8]
theorem by8_one {s : ByteArray} {i : Nat} (h : i < s.size) : by8 (s.extract i (i + 1)) = [s[i]] := by
  show (s.extract i (i + 1)).data.toList = _
  rw [ByteArray.data_extract, Array.toList_extract, List.extract_eq_take_drop]
  show ((by8 s).drop i).take (i + 1 - i) = _
  rw [by8_at h, show i + 1 - i = 1 by omega]; rfl
theorem by8_cut {o : ByteArray} {a : Bs} {c : UInt8} (h : by8 o = a ++ [c]) {n : Nat} (hn : o.size = n + 1) : by8 (o.extract 0 n) = a := by
  have hl : a.length = n := by have := congrArg List.length h; rw [by8_len, List.length_append] at this; simp at this; omega
  rw [by8_take, h, ← hl]; simp

set_option maxHeartbeats 2000000 in
theorem RBare_any (w : World) (s : ByteArray) (hs : s.size ≤ 1000000) :
    Calls Tryd.prog 18 #[.string s] w fun e w' => e = .returned (.string (str (Ip.bareA [] (by8 s)))) ∧ w = w' := by
  go_enter Tryd.func18, Tryd.ntmps18
  go_wp2_with fail
  go_loop [3, 4] (fun vo vi => ∃ (o : ByteArray) (i : Nat), vo = .string o ∧ vi = .int .i64 i ∧ i ≤ s.size ∧ o.size ≤ i ∧ Ip.bareA (by8 o) ((by8 s).drop i) = Ip.bareA [] (by8 s) ∧ (i = 0 → by8 o = []) ∧ (∀ h : i - 1 < s.size, 0 < i → (by8 o).getLast? = some s[i - 1])) (fun _ vi => s.size - (intOf vi).toNat)
  case atStart => exact ⟨⟨#[]⟩, 0, rfl, rfl, Nat.zero_le _, Nat.le_refl _, rfl, fun _ => rfl, fun _ h => absurd h (Nat.lt_irrefl _)⟩
  case round =>
    obtain ⟨o, i, rfl, rfl, hi, ho, hE, h0, h1⟩ := hrel
    by_cases hlt : i < s.size
    · have hat := by8_at hlt
      by_cases hc : s[i] = 35
      · have hcb : ((s[i].toNat : Int) == 35) = true := eq_true (b := 35) hc
        rcases Nat.eq_zero_or_pos i with hz | hz
        · subst hz
          have HE : Hid (str (Ip.bareA [] (by8 s)) = o) := Lib.hid (by
            rw [← hE, hat, h0 rfl]; unfold Ip.bareA
            rw [if_pos hc, if_neg (by simp)]
            exact by8_ext (by rw [h0 rfl]; rfl))
          clear hE h0 h1 hat hc
          go_wp2_with fail
          go_ret
          exact ⟨by rw [HE.out]; rfl, rfl⟩
        · obtain ⟨j, rfl⟩ : ∃ j, i = j + 1 := ⟨i - 1, by omega⟩
          have hj : j < s.size := by omega
          have hl : (by8 o).getLast? = some s[j] := h1 hj (Nat.succ_pos _)
          by_cases hd : s[j] = 92
          · have hdb : ((s[j].toNat : Int) != 92) = false := by rw [bne, show ((s[j].toNat : Int) == 92) = true from eq_true (b := 92) hd]; rfl
            obtain ⟨a, ha⟩ : ∃ a, by8 o = a ++ [92] := by
              have := List.getLast?_eq_some_iff.1 hl
              rwa [hd] at this
            obtain ⟨n, hn⟩ : ∃ n, o.size = n + 1 := ⟨a.length, by rw [← by8_len, ha]; simp⟩
            have hcut := by8_cut ha hn
            have q1 : (1 : Int) ≤ (o.size : Int) := by omega
            have q2 : (o.size : Int) - 1 ≤ (o.size : Int) := by omega
            have q3 : ((o.size : Int) - 1).toNat = n := by omega
            have HN := Lib.hid hn
            have HE : Hid (Ip.bareA (a ++ [35]) ((by8 s).drop (j + 1 + 1)) = Ip.bareA [] (by8 s)) := Lib.hid (by
              rw [← hE, hat, ha]; conv => rhs; unfold Ip.bareA
              rw [if_pos hc, if_pos (by simp)]; simp)
            have HC := Lib.hid hcut
            have HS : Hid (s[j + 1] = 35) := Lib.hid hc
            clear hE h0 h1 hat hc hl hd ha hcut hn
            go_wp2_with fail
            go_round
            case rel => exact ⟨o.extract 0 n ++ s.extract (j + 1) (j + 1 + 1), j + 1 + 1, rfl, by go_num, hlt, by have := HN.out; rw [ByteArray.size_append, ByteArray.size_extract, ByteArray.size_extract]; omega, by rw [by8_add, by8_one hlt, HC.out, HS.out]; exact HE.out, fun h => by omega, fun h _ => by rw [by8_add, by8_one hlt]; simp⟩
            case measure => simp [intOf]; omega
          · have hdb : ((s[j].toNat : Int) != 92) = true := by rw [bne, show ((s[j].toNat : Int) == 92) = false from eq_false (b := 92) hd]; rfl
            have HE : Hid (str (Ip.bareA [] (by8 s)) = o) := Lib.hid (by
              rw [← hE, hat]; unfold Ip.bareA
              rw [if_pos hc, if_neg (by rw [hl]; simpa using hd)]; rfl)
            clear hE h0 h1 hat hc hl hd
            go_wp2_with fail
            go_ret
            exact ⟨by rw [HE.out]; rfl, rfl⟩
      · have hcb : ((s[i].toNat : Int) == 35) = false := eq_false (b := 35) hc
        have HE : Hid (Ip.bareA (by8 o ++ [s[i]]) ((by8 s).drop (i + 1)) = Ip.bareA [] (by8 s)) := Lib.hid (by
          rw [← hE, hat]; conv => rhs; unfold Ip.bareA
          rw [if_neg hc])
        clear hE h0 h1 hat hc
        go_wp2_with fail
        go_round
        case rel => exact ⟨o ++ s.extract i (i + 1), i + 1, rfl, by go_num, hlt, by rw [ByteArray.size_append, ByteArray.size_extract]; omega, by rw [by8_add, by8_one hlt]; exact HE.out, fun h => by omega, fun h _ => by rw [by8_add, by8_one hlt]; simp⟩
        case measure => simp [intOf]; omega
    · obtain rfl : i = s.size := by omega
      have HE : Hid (str (Ip.bareA [] (by8 s)) = o) := Lib.hid (by
        rw [← hE, List.drop_of_length_le (by rw [by8_len]; exact Nat.le_refl _)]; rfl)
      clear hE h0 h1
      go_wp2_with fail
      go_ret
      exact ⟨by rw [HE.out]; rfl, rfl⟩
end Go.Proofs.YtgncnffejennfaaDoor.Iw
