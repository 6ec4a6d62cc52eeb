/-
  flatironref13: number, Digits.
-/
import Derived.Test.YtenokbceamcekaaGreatDoorQEPlain
import Derived.Test.YtenokbceamcekaaGreatDoorQETrim
import Derived.Test.YtenokbceamcekaaGreatDoorQTRef
namespace Go.Proofs.YtenokbceamcekaaGreatDoor.Ew
open Go.RowKit Go.Proofs.YtenokbceamcekaaGreatDoor Go.Proofs.YtenokbceamcekaaGreatDoor.Ww Go.Proofs.YtenokbceamcekaaGreatDoor.Tw
set_option maxRecDepth 100000

def numI (o : Option Nat) : Int := match o with | none => -1 | some n => n
theorem numI_none {o : Option Nat} (h : o = none) : numI o = -1 := by rw [h]; rfl
set_option maxHeartbeats 2000000 in
theorem Rnumber_any (w : World) (s : ByteArray) (hs : s.size ≤ 1000000) : Calls Tryz.prog 29 #[.string s] w fun e w' => e = .returned (.int .i64 (numI (Ep.numA (by8 (trimT s))))) ∧ w = w' := by
  have HT := Lib.hid (RTrim_any w s hs)
  have htl : (trimT s).size ≤ 1000000 := by
    have : (by8 (trimT s)).length ≤ (by8 s).length := by
      show (Lib.trimS (by8 s) [32, 9, 10]).length ≤ _
      unfold Lib.trimS Lib.trimLeftS Lib.trimRightS
      refine Nat.le_trans (List.dropWhile_sublist _).length_le ?_
      rw [List.length_reverse]
      refine Nat.le_trans (List.dropWhile_sublist _).length_le ?_
      rw [List.length_reverse]
      exact Nat.le_refl _
    rw [by8_len, by8_len] at this; omega
  generalize trimT s = t at *
  by_cases h0 : by8 t = []
  · have hb : (t.toList == []) = true := by rw [toList_by8, h0]; rfl
    have HE : Hid (numI (Ep.numA (by8 t)) = -1) := Lib.hid (numI_none (by unfold Ep.numA; rw [if_pos h0]))
    clear h0
    go_enter Tryz.func29, Tryz.ntmps29
    go_wp2_with fail
    refine HT.out.mono ?_
    rintro e w' ⟨rfl, rfl⟩
    go_wp2_with fail
    go_ret
    exact ⟨ret_int HE.out.symm, rfl⟩
  have hb : (t.toList == []) = false := by rw [toList_by8]; exact beq_eq_false_iff_ne.2 h0
  have HA : Hid (Ep.numA (by8 t) = Ep.numGo 0 (by8 t)) := Lib.hid (by unfold Ep.numA; rw [if_neg h0])
  clear h0
  go_enter Tryz.func29, Tryz.ntmps29
  go_wp2_with fail
  refine HT.out.mono ?_
  rintro e w' ⟨rfl, rfl⟩
  go_wp2_with fail
  go_loop [3, 4] (fun vn vi => ∃ n i : Nat, vn = .int .i64 n ∧ vi = .int .i64 i ∧ i ≤ t.size ∧ n ≤ 1073741824 ∧ Ep.numGo n ((by8 t).drop i) = Ep.numA (by8 t)) (fun _ vi => t.size - (intOf vi).toNat)
  case atStart => exact ⟨0, 0, rfl, rfl, Nat.zero_le _, by decide, by rw [HA.out]; rfl⟩
  case round =>
    obtain ⟨n, i, rfl, rfl, hi, hn, hg⟩ := hrel
    by_cases hlt : i < t.size
    · rw [by8_at hlt, Ep.numGo] at hg
      have hc8 := t[i].toNat_lt
      by_cases hd : t[i].toNat < 48 ∨ 57 < t[i].toNat
      · have HE : Hid (numI (Ep.numA (by8 t)) = -1) := Lib.hid (numI_none (by rw [← hg, if_pos hd]))
        clear hg
        rcases Nat.lt_or_ge t[i].toNat 48 with h1 | h1
        · have h2 : (t[i].toNat : Int) < 48 := by omega
          clear hd
          go_wp2_with fail
          go_ret
          exact ⟨ret_int HE.out.symm, rfl⟩
        · have h2 : ¬ (t[i].toNat : Int) < 48 := by omega
          have h3 : (57 : Int) < (t[i].toNat : Int) := by omega
          clear hd
          go_wp2_with fail
          go_ret
          exact ⟨ret_int HE.out.symm, rfl⟩
      · rw [if_neg hd] at hg
        have HG := Lib.hid hg
        clear hg
        have h2 : ¬ (t[i].toNat : Int) < 48 := by omega
        have h3 : ¬ (57 : Int) < (t[i].toNat : Int) := by omega
        have w1 : IntKind.u8.wrap ((t[i].toNat : Int) - 48) = (t[i].toNat : Int) - 48 := by rw [IntWalk.u8_in _ (by omega)]
        have w2 : IntKind.i64.wrap ((t[i].toNat : Int) - 48) = (t[i].toNat : Int) - 48 := by rw [IntWalk.i64_in _ (by omega)]
        have w3 : IntKind.i64.wrap (10 * (n : Int)) = 10 * (n : Int) := by rw [IntWalk.i64_in _ (by omega)]
        have w4 : IntKind.i64.wrap (10 * (n : Int) + ((t[i].toNat : Int) - 48)) = 10 * (n : Int) + ((t[i].toNat : Int) - 48) := by rw [IntWalk.i64_in _ (by omega)]
        by_cases hbig : 1073741824 < 10 * n + (t[i].toNat - 48)
        · have HE : Hid (numI (Ep.numA (by8 t)) = -1) := Lib.hid (numI_none (by rw [← HG.out, if_pos hbig]))
          have h4 : (1073741824 : Int) < 10 * (n : Int) + ((t[i].toNat : Int) - 48) := by omega
          clear hd hbig
          go_wp2_with fail
          go_ret
          exact ⟨ret_int HE.out.symm, rfl⟩
        · have HE : Hid (Ep.numGo (10 * n + (t[i].toNat - 48)) ((by8 t).drop (i + 1)) = Ep.numA (by8 t)) := Lib.hid (by rw [← HG.out, if_neg hbig])
          have h4 : ¬ (1073741824 : Int) < 10 * (n : Int) + ((t[i].toNat : Int) - 48) := by omega
          have HN : Hid (10 * n + (t[i].toNat - 48) ≤ 1073741824 ∧ 10 * (n : Int) + ((t[i].toNat : Int) - 48) = ((10 * n + (t[i].toNat - 48) : Nat) : Int)) := Lib.hid ⟨by omega, by omega⟩
          clear hd hbig
          go_wp2_with fail
          go_round
          case rel => exact ⟨10 * n + (t[i].toNat - 48), i + 1, by rw [HN.out.2], by go_num, hlt, HN.out.1, HE.out⟩
          case measure => simp [intOf]; omega
    · obtain rfl : i = t.size := by omega
      have HE : Hid (numI (Ep.numA (by8 t)) = (n : Int)) := Lib.hid (by
        rw [← hg, List.drop_of_length_le (by rw [by8_len]; exact Nat.le_refl _)]; rfl)
      clear hg
      go_wp2_with fail
      go_ret
      exact ⟨ret_int HE.out.symm, rfl⟩

theorem fig (k : Nat) (h : k < 10) : (⟨#[48, 49, 50, 51, 52, 53, 54, 55, 56, 57]⟩ : ByteArray).extract k (k + 1) = str [UInt8.ofNat (48 + k)] := by
  match k, h with
  | 0, _ => rfl
  | 1, _ => rfl
  | 2, _ => rfl
  | 3, _ => rfl
  | 4, _ => rfl
  | 5, _ => rfl
  | 6, _ => rfl
  | 7, _ => rfl
  | 8, _ => rfl
  | 9, _ => rfl
theorem digits_len (n : Nat) : (Ep.digitsA n).length ≤ n + 1 := by
  induction n using Nat.strongRecOn with
  | _ n ih =>
    rw [Ep.digitsA]
    split
    · simp
    · rw [List.length_append, List.length_singleton]
      have := ih (n / 10) (by omega)
      omega
set_option maxHeartbeats 2000000 in
theorem Digits_any (n : Nat) : n ≤ 1000000 → ∀ w : World, Calls Tryz.prog 31 #[.int .i64 (n : Int)] w fun e w' => e = .returned (.string (str (Ep.digitsA n))) ∧ w = w' := by
  induction n using Nat.strongRecOn with
  | _ n ih =>
    intro hn w
    have HI := Lib.hid ih
    clear ih
    have hr : (n : Int).tmod 10 = ((n % 10 : Nat) : Int) := by rw [Int.tmod_eq_emod_of_nonneg (by omega)]; omega
    have hq : (n : Int).tdiv 10 = ((n / 10 : Nat) : Int) := by rw [Int.tdiv_eq_ediv_of_nonneg (by omega)]; omega
    have hm : n % 10 < 10 := Nat.mod_lt _ (by decide)
    have hf := fig (n % 10) hm
    have w1 : IntKind.i64.wrap (((n % 10 : Nat) : Int) + 1) = ((n % 10 : Nat) : Int) + 1 := by rw [IntWalk.i64_in _ (by omega)]
    have w2 : (((n % 10 : Nat) : Int) + 1).toNat = n % 10 + 1 := by omega
    have w3 : (0 : Int) ≤ ((n % 10 : Nat) : Int) := by omega
    have w4 : ((n % 10 : Nat) : Int) ≤ ((n % 10 : Nat) : Int) + 1 := by omega
    have w5 : ((n % 10 : Nat) : Int) + 1 ≤ 10 := by omega
    by_cases h : n < 10
    · have hk : ¬ (10 : Int) ≤ (n : Int) := by omega
      have HE : Hid (str (Ep.digitsA n) = str [UInt8.ofNat (48 + n % 10)]) := Lib.hid (by rw [Ep.digitsA, if_pos h, Nat.mod_eq_of_lt h])
      generalize str [UInt8.ofNat (48 + n % 10)] = u at *
      go_enter Tryz.func31, Tryz.ntmps31
      go_wp2_with fail
      go_ret
      rw [HE.out]
      exact ⟨rfl, rfl⟩
    · have hk : (10 : Int) ≤ (n : Int) := by omega
      have HE : Hid (str (Ep.digitsA n) = str (Ep.digitsA (n / 10)) ++ str [UInt8.ofNat (48 + n % 10)]) := Lib.hid (by
        conv => lhs; rw [Ep.digitsA, if_neg h]
        exact by8_ext (by rw [by8_add, by8_str, by8_str, by8_str]))
      have hl1 : (str (Ep.digitsA (n / 10))).size ≤ 2000000 := by rw [str_size]; have := digits_len (n / 10); omega
      have hl2 : (str [UInt8.ofNat (48 + n % 10)]).size ≤ 1 := by rw [str_size]; exact Nat.le_refl _
      have HC := Lib.hid (HI.out (n / 10) (by omega) (by omega) w)
      generalize str (Ep.digitsA (n / 10)) = d at *
      generalize str [UInt8.ofNat (48 + n % 10)] = u at *
      have hcat : ¬ 9223372036854775807 < d.size + u.size := by omega
      go_enter Tryz.func31, Tryz.ntmps31
      go_wp2_with fail
      refine HC.out.mono ?_
      rintro e w' ⟨rfl, rfl⟩
      go_wp2_with fail
      go_ret
      rw [HE.out]
      exact ⟨rfl, rfl⟩
end Go.Proofs.YtenokbceamcekaaGreatDoor.Ew
