/-
  flatironref13: at, inside, name, end.
-/
import Derived.Lib.Index
import Derived.Test.YtenokbceamcekaaGreatDoorQEPlain
import Derived.Test.YtenokbceamcekaaGreatDoorQESplit
import Derived.Test.YtenokbceamcekaaGreatDoorQTRef
namespace Go.Proofs.YtenokbceamcekaaGreatDoor.Ew
open Go.RowKit Go.Proofs.YtenokbceamcekaaGreatDoor Go.Proofs.YtenokbceamcekaaGreatDoor.Ww Go.Proofs.YtenokbceamcekaaGreatDoor.Tw
set_option maxRecDepth 100000

set_option maxHeartbeats 2000000 in
theorem Rat_any (w : World) (s a : ByteArray) (i : Nat) (q : Bool) (hs : s.size ≤ 1000000) (ha : a.size ≤ 1000000) (hi : i ≤ s.size) (hq : Hid (Lib.occAt (by8 s) (by8 a) i = q)) : Calls Tryz.prog 41 #[.string s, .int .i64 (i : Int), .string a] w fun e w' => e = .returned (.bool q) ∧ w = w' := by
  by_cases h : i + a.size ≤ s.size
  · have h1 : (i : Int) + (a.size : Int) ≤ (s.size : Int) := by omega
    have h2 : (0 : Int) ≤ (i : Int) := by omega
    have h3 : (i : Int) ≤ (i : Int) + (a.size : Int) := by omega
    have h4 : ((i : Int) + (a.size : Int)).toNat = i + a.size := by omega
    have h5 : IntKind.i64.wrap ((i : Int) + (a.size : Int)) = (i : Int) + (a.size : Int) := by rw [IntWalk.i64_in _ (by omega)]
    have hb : ((s.extract i (i + a.size)).toList == a.toList) = q := by
      rw [← hq.out, Lib.occAt_iff_take _ _ _ (by rw [by8_len, by8_len]; exact h), toList_by8, toList_by8, by8_mid, by8_len]
      congr 2; omega
    clear hq
    go_enter Tryz.func41, Tryz.ntmps41
    cases q
    · go_wp2_with fail
      go_ret
      exact ⟨rfl, rfl⟩
    · go_wp2_with fail
      go_ret
      exact ⟨rfl, rfl⟩
  · have h1 : ¬ (i : Int) + (a.size : Int) ≤ (s.size : Int) := by omega
    obtain rfl : false = q := by
      rw [← hq.out]
      cases ho : Lib.occAt (by8 s) (by8 a) i with
      | false => rfl
      | true =>
        rcases Lib.occAt_room ho with h' | h'
        · rw [by8_len, by8_len] at h'; omega
        · have := by8_len a; rw [h'] at this; simp at this; omega
    have h5 : IntKind.i64.wrap ((i : Int) + (a.size : Int)) = (i : Int) + (a.size : Int) := by rw [IntWalk.i64_in _ (by omega)]
    clear hq
    go_enter Tryz.func41, Tryz.ntmps41
    go_wp2_with fail
    go_ret
    exact ⟨rfl, rfl⟩

set_option maxHeartbeats 2000000 in
theorem Rinside_any (w : World) (a b : ByteArray) (ha : a.size ≤ 1000000) (hb : b.size ≤ 1000000) : Calls Tryz.prog 26 #[.string a, .string b] w fun e w' => e = .returned (.bool (Ep.insideA (by8 a) (by8 b))) ∧ w = w' := by
  go_enter Tryz.func26, Tryz.ntmps26
  go_wp2_with fail
  go_loop [5] (fun vi => ∃ i : Nat, vi = .int .i64 i ∧ i ≤ b.size + 1 ∧ ∀ j, j < i → Lib.occAt (by8 b) (by8 a) j = false) (fun vi => b.size + 1 - (intOf vi).toNat)
  case atStart => exact ⟨0, rfl, Nat.zero_le _, fun j h => absurd h (Nat.not_lt_zero _)⟩
  case round =>
    obtain ⟨i, rfl, hi, hn⟩ := hrel
    by_cases hlt : i ≤ b.size
    · have hki : (i : Int) ≤ (b.size : Int) := by omega
      cases ho : Lib.occAt (by8 b) (by8 a) i with
      | true =>
        have HE : Hid (Ep.insideA (by8 a) (by8 b) = true) := Lib.hid (by
          unfold Ep.insideA
          rw [Lib.index_first (by rw [by8_len]; exact hlt) ho hn]
          exact decide_eq_true (by omega))
        have HC := Lib.hid (Rat_any w b a i true hb ha hlt (Lib.hid ho))
        clear ho hn
        go_wp2_with fail
        refine HC.out.mono ?_
        rintro e w' ⟨rfl, rfl⟩
        go_wp2_with fail
        go_ret
        rw [HE.out]
        exact ⟨rfl, rfl⟩
      | false =>
        have HC := Lib.hid (Rat_any w b a i false hb ha hlt (Lib.hid ho))
        have HN : Hid (∀ j, j < i + 1 → Lib.occAt (by8 b) (by8 a) j = false) := Lib.hid fun j hj => by
          by_cases h : j < i
          · exact hn j h
          · obtain rfl : j = i := by omega
            exact ho
        clear ho hn
        go_wp2_with fail
        refine HC.out.mono ?_
        rintro e w' ⟨rfl, rfl⟩
        go_wp2_with fail
        go_round
        case rel => exact ⟨i + 1, by go_num, by omega, HN.out⟩
        case measure => simp [intOf]; omega
    · obtain rfl : i = b.size + 1 := by omega
      have hki : ¬ ((b.size : Int) + 1) ≤ (b.size : Int) := by omega
      have HE : Hid (Ep.insideA (by8 a) (by8 b) = false) := Lib.hid (by
        unfold Ep.insideA
        rw [Lib.index_none (fun j hj => hn j (by rw [by8_len] at hj; omega))]
        rfl)
      clear hn
      go_wp2_with fail
      go_ret
      rw [HE.out]
      exact ⟨rfl, rfl⟩

theorem last_hit {s : ByteArray} {i : Nat} {c : UInt8} (h : i < s.size) (hc : s[i] = c) : Lib.Pa.lastIdx (by8 s) c (i + 1) = i := by
  unfold Lib.Pa.lastIdx
  rw [if_pos (by rw [by8_get h, hc])]
theorem last_miss {s : ByteArray} {i : Nat} {c : UInt8} (h : i < s.size) (hc : ¬ s[i] = c) : Lib.Pa.lastIdx (by8 s) c (i + 1) = Lib.Pa.lastIdx (by8 s) c i := by
  rw [Lib.Pa.lastIdx, if_neg (by rw [by8_get h]; exact fun e => hc (Option.some.inj e))]
set_option maxHeartbeats 2000000 in
theorem Rname_any (w : World) (s : ByteArray) (hs : s.size ≤ 1000000) : Calls Tryz.prog 77 #[.string s] w fun e w' => e = .returned (.int .i64 (Ep.nameA (by8 s) : Nat)) ∧ w = w' := by
  go_enter Tryz.func77, Tryz.ntmps77
  go_wp2_with fail
  go_loop [3, 4] (fun vn vi => ∃ n i : Nat, vn = .int .i64 n ∧ vi = .int .i64 i ∧ i ≤ s.size ∧ (n : Int) = Lib.Pa.lastIdx (by8 s) 47 i + 1 ∧ n ≤ i) (fun _ vi => s.size - (intOf vi).toNat)
  case atStart => exact ⟨0, 0, rfl, rfl, Nat.zero_le _, rfl, Nat.le_refl _⟩
  case round =>
    obtain ⟨n, i, rfl, rfl, hi, hn, hni⟩ := hrel
    by_cases hlt : i < s.size
    · by_cases hc : s[i] = 47
      · have hcb : ((s[i].toNat : Int) == 47) = true := eq_true (b := 47) hc
        have HN : Hid (((i + 1 : Nat) : Int) = Lib.Pa.lastIdx (by8 s) 47 (i + 1) + 1) := Lib.hid (by rw [last_hit hlt hc]; omega)
        clear hc hn
        go_wp2_with fail
        go_round
        case rel => exact ⟨i + 1, i + 1, by go_num, by go_num, hlt, HN.out, Nat.le_refl _⟩
        case measure => simp [intOf]; omega
      · have hcb : ((s[i].toNat : Int) == 47) = false := eq_false (b := 47) hc
        have HN : Hid ((n : Int) = Lib.Pa.lastIdx (by8 s) 47 (i + 1) + 1) := Lib.hid (by rw [last_miss hlt hc]; exact hn)
        clear hc hn
        go_wp2_with fail
        go_round
        case rel => exact ⟨n, i + 1, rfl, by go_num, hlt, HN.out, by omega⟩
        case measure => simp [intOf]; omega
    · obtain rfl : i = s.size := by omega
      have HE : Hid (Ep.nameA (by8 s) = n) := Lib.hid (by
        unfold Ep.nameA Lib.Pa.lastIndexByte
        rw [by8_len]; omega)
      clear hn
      go_wp2_with fail
      go_ret
      exact ⟨ret_int (by rw [HE.out]), rfl⟩

theorem last_some {s : ByteArray} {i : Nat} {c : UInt8} (h : i < s.size) (hc : s[i] = c) (hn : ∀ j (hj : j < s.size), i < j → ¬ s[j] = c) : Lib.Pa.lastIndexByte (by8 s) c = i := by
  unfold Lib.Pa.lastIndexByte
  rw [by8_len]
  exact Lib.Pa.lastIdx_eq_of _ _ i _ h (by rw [by8_get h, hc]) fun j h1 h2 => by rw [by8_get h2]; exact fun e => hn j h2 h1 (Option.some.inj e)
theorem last_lt {s : ByteArray} {n : Nat} {c : UInt8} (hn : ∀ j (hj : j < s.size), n ≤ j → ¬ s[j] = c) : Lib.Pa.lastIndexByte (by8 s) c < n := by
  have hb := Lib.Pa.lastIndexByte_bounds (by8 s) c
  by_cases h : Lib.Pa.lastIndexByte (by8 s) c < n
  · exact h
  · exfalso
    obtain ⟨i, hi⟩ : ∃ i : Nat, Lib.Pa.lastIndexByte (by8 s) c = i := ⟨(Lib.Pa.lastIndexByte (by8 s) c).toNat, by omega⟩
    have hil : i < s.size := by rw [by8_len] at hb; omega
    have hkey : ∀ k, k ≤ s.size → Lib.Pa.lastIdx (by8 s) c k = (i : Int) → (by8 s)[i]? = some c := by
      intro k
      induction k with
      | zero => intro _ h; unfold Lib.Pa.lastIdx at h; omega
      | succ k ih =>
        intro hk h
        unfold Lib.Pa.lastIdx at h
        split at h
        · rename_i h1
          obtain rfl : k = i := by omega
          exact h1
        · exact ih (by omega) h
    have := hkey s.size (Nat.le_refl _) (by have := hi; unfold Lib.Pa.lastIndexByte at this; rwa [by8_len] at this)
    rw [by8_get hil] at this
    exact hn i hil (by omega) (Option.some.inj this)
set_option maxHeartbeats 2000000 in
theorem Rend_any (w : World) (s : ByteArray) (hs : s.size ≤ 1000000) : Calls Tryz.prog 78 #[.string s] w fun e w' => e = .returned (.int .i64 (Ep.endA (by8 s) : Nat)) ∧ w = w' := by
  have HN := Lib.hid (Rname_any w s hs)
  have hnl := Ep.name_le (by8 s)
  rw [by8_len] at hnl
  have HEd : Hid (Ep.endA (by8 s) = if (Ep.nameA (by8 s) : Int) ≤ Lib.Pa.lastIndexByte (by8 s) 46 then (Lib.Pa.lastIndexByte (by8 s) 46).toNat else (by8 s).length) := Lib.hid rfl
  generalize Ep.nameA (by8 s) = n at *
  go_enter Tryz.func78, Tryz.ntmps78
  go_wp2_with fail
  go_loop [4] (fun vi => ∃ i : Nat, vi = .int .i64 ((i : Int) - 1) ∧ n ≤ i ∧ i ≤ s.size ∧ ∀ j (hj : j < s.size), i ≤ j → ¬ s[j] = 46) (fun vi => (intOf vi + 1).toNat)
  case atStart => exact ⟨s.size, rfl, hnl, Nat.le_refl _, fun j hj h => by omega⟩
  case round =>
    obtain ⟨i, rfl, hni, hi, hno⟩ := hrel
    have HNO := Lib.hid hno
    clear hno
    by_cases hlt : n < i
    · obtain ⟨k, rfl⟩ : ∃ k, i = k + 1 := ⟨i - 1, by omega⟩
      have hk1 : ((k + 1 : Nat) : Int) - 1 = (k : Int) := by omega
      have hks : k < s.size := by omega
      have hkn : (n : Int) ≤ (k : Int) := by omega
      rw [hk1]
      clear hk1
      by_cases hc : s[k] = 46
      · have hcb : ((s[k].toNat : Int) == 46) = true := eq_true (b := 46) hc
        have HE : Hid (Ep.endA (by8 s) = k) := Lib.hid (by
          rw [HEd.out, last_some hks hc (fun j hj h => HNO.out j hj h), if_pos hkn]; omega)
        clear hc
        go_wp2_with fail
        refine HN.out.mono ?_
        rintro e w' ⟨rfl, rfl⟩
        go_wp2_with fail
        go_ret
        exact ⟨ret_int (by rw [HE.out]), rfl⟩
      · have hcb : ((s[k].toNat : Int) == 46) = false := eq_false (b := 46) hc
        have HX : Hid (∀ j (hj : j < s.size), k ≤ j → ¬ s[j] = 46) := Lib.hid fun j hj h => by
          by_cases h' : j = k
          · subst h'; exact hc
          · exact HNO.out j hj (by omega)
        clear hc
        go_wp2_with fail
        refine HN.out.mono ?_
        rintro e w' ⟨rfl, rfl⟩
        go_wp2_with fail
        go_round
        case rel => exact ⟨k, by go_num, by omega, by omega, HX.out⟩
        case measure => simp [intOf] <;> omega
    · obtain rfl : i = n := by omega
      have hki : ¬ (i : Int) ≤ (i : Int) - 1 := by omega
      have HE : Hid (Ep.endA (by8 s) = s.size) := Lib.hid (by
        have := last_lt HNO.out
        rw [HEd.out, if_neg (by omega), by8_len])
      go_wp2_with fail
      refine HN.out.mono ?_
      rintro e w' ⟨rfl, rfl⟩
      go_wp2_with fail
      go_ret
      exact ⟨ret_int (by rw [HE.out]), rfl⟩
end Go.Proofs.YtenokbceamcekaaGreatDoor.Ew
