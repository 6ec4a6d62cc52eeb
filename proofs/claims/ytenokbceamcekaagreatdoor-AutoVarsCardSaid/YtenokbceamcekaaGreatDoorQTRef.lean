/-
  What Match returns, a word that is changed: how they are said.
  flatironref12: At, Match, Put, Change.
-/
import Derived.Test.YtenokbceamcekaaGreatDoorQTBase
namespace Go.Proofs.YtenokbceamcekaaGreatDoor.Tw
open Go.RowKit Go.Proofs.YtenokbceamcekaaGreatDoor Go.Proofs.YtenokbceamcekaaGreatDoor.Ww
set_option maxRecDepth 100000

/-- What Match returns. -/
def mV (o : Option Bs) : Ending := match o with | none => .returned (.tuple #[.string ⟨#[]⟩, .bool false]) | some s => .returned (.tuple #[.string (str s), .bool true])
/-- A word, changed. -/
def chS (a b x : ByteArray) : ByteArray := str (Tp.changeA (by8 x) (by8 a) (by8 b))
theorem ch_len (a b x : ByteArray) : (chS a b x).size ≤ x.size + a.size + b.size := by
  unfold chS
  rw [str_size]
  unfold Tp.changeA
  split
  · rw [by8_len]; omega
  · rename_i s h
    have h1 := Tp.match_len h
    have h2 := Tp.put_len (by8 b) s
    rw [by8_len] at *
    split
    · rw [by8_len]; omega
    · omega

end Go.Proofs.YtenokbceamcekaaGreatDoor.Tw
namespace Go.Proofs.YtenokbceamcekaaGreatDoor.Tw
open Go.RowKit Go.Proofs.YtenokbceamcekaaGreatDoor Go.Proofs.YtenokbceamcekaaGreatDoor.Ww
set_option maxRecDepth 100000

def atI (o : Option Nat) : Int := match o with | none => -1 | some i => i
set_option maxHeartbeats 2000000 in
theorem RAt_any (w : World) (p : ByteArray) (hs : p.size ≤ 1000000) : Calls Tryz.prog 99 #[.string p] w fun e w' => e = .returned (.int .i64 (atI (Tp.atA (by8 p)))) ∧ w = w' := by
  go_enter Tryz.func99, Tryz.ntmps99
  go_wp2_with fail
  go_loop [3] (fun vi => ∃ i : Nat, vi = .int .i64 i ∧ i ≤ p.size ∧ 37 ∉ (by8 p).take i) (fun vi => p.size - (intOf vi).toNat)
  case atStart => exact ⟨0, rfl, Nat.zero_le _, by simp⟩
  case round =>
    obtain ⟨i, rfl, hi, hn⟩ := hrel
    by_cases hlt : i < p.size
    · have htk := by8_snoc hlt
      by_cases hc : p[i] = 37
      · have hcb : ((p[i].toNat : Int) == 37) = true := eq_true (b := 37) hc
        have HE : Hid (Tp.atA (by8 p) = some i) := Lib.hid (by
          have h1 : by8 p = (by8 p).take i ++ 37 :: (by8 p).drop (i + 1) := by
            conv => lhs; rw [← List.take_append_drop i (by8 p), by8_at hlt, hc]
          have hl : ((by8 p).take i).length = i := by rw [List.length_take, by8_len]; omega
          have := Tp.at_of (r := (by8 p).drop (i + 1)) hn
          rw [hl] at this
          rw [h1]; exact this)
        clear htk hn hc
        go_wp2_with fail
        go_ret
        exact ⟨ret_int (by rw [HE.out]; rfl), rfl⟩
      · have hcb : ((p[i].toNat : Int) == 37) = false := eq_false (b := 37) hc
        have HE : Hid (37 ∉ (by8 p).take (i + 1)) := Lib.hid (by
          rw [htk]; intro h
          rcases List.mem_append.1 h with h | h
          · exact hn h
          · exact hc (List.mem_singleton.1 h).symm)
        clear htk hn hc
        go_wp2_with fail
        go_round
        case rel => exact ⟨i + 1, by go_num, hlt, HE.out⟩
        case measure => simp [intOf]; omega
    · obtain rfl : i = p.size := by omega
      have HE : Hid (Tp.atA (by8 p) = none) := Lib.hid (by
        rw [List.take_of_length_le (by rw [by8_len]; exact Nat.le_refl _)] at hn
        exact Tp.at_no hn)
      clear hn
      go_wp2_with fail
      go_ret
      exact ⟨ret_int (by rw [HE.out]; rfl), rfl⟩

set_option maxHeartbeats 2000000 in
theorem RMatch_none (w : World) (p x : ByteArray) (hs : p.size ≤ 1000000) (h : Tp.atA (by8 p) = none) : Calls Tryz.prog 75 #[.string p, .string x] w fun e w' => e = mV (Tp.matchA (by8 p) (by8 x)) ∧ Below w.heap.size w w' := by
  have HA := Lib.hid fun W => RAt_any W p hs
  rw [h] at HA
  have h1 : ¬ (0 : Int) ≤ atI none := by decide
  have h2 : atI none < (0 : Int) := by decide
  by_cases hx : by8 p = by8 x
  · have HM : Hid (Tp.matchA (by8 p) (by8 x) = some []) := Lib.hid (by unfold Tp.matchA; rw [h]; exact if_pos hx)
    have hb := beq_yes hx
    clear hx h
    go_enter Tryz.func75, Tryz.ntmps75
    go_wp2_with fail
    refine (HA.out _).mono ?_
    rintro e w1 ⟨rfl, rfl⟩
    go_wp2_with fail
    go_ret2
    exact ⟨by rw [HM.out]; rfl, Below.refl _ _⟩
  · have HM : Hid (Tp.matchA (by8 p) (by8 x) = none) := Lib.hid (by unfold Tp.matchA; rw [h]; exact if_neg hx)
    have hb := beq_no hx
    clear hx h
    go_enter Tryz.func75, Tryz.ntmps75
    go_wp2_with fail
    refine (HA.out _).mono ?_
    rintro e w1 ⟨rfl, rfl⟩
    go_wp2_with fail
    go_ret2
    exact ⟨by rw [HM.out]; rfl, Below.refl _ _⟩
set_option maxHeartbeats 2000000 in
theorem RMatch_short (w : World) (p x : ByteArray) (hs : p.size ≤ 1000000) (hx : x.size ≤ 1000000) (i : Nat) (h : Tp.atA (by8 p) = some i) (hn : x.size ≤ i + (p.size - (i + 1))) : Calls Tryz.prog 75 #[.string p, .string x] w fun e w' => e = mV (Tp.matchA (by8 p) (by8 x)) ∧ Below w.heap.size w w' := by
  have HA : Hid (∀ W, Calls Tryz.prog 99 #[.string p] W fun e w' => e = .returned (.int .i64 (i : Int)) ∧ W = w') := Lib.hid fun W => by
    have := RAt_any W p hs
    rw [h] at this; exact this
  have hi := Tp.at_lt h
  rw [by8_len] at hi
  have HM : Hid (Tp.matchA (by8 p) (by8 x) = none) := Lib.hid (by
    unfold Tp.matchA; rw [h]
    refine if_neg fun e => ?_
    have := e.1
    rw [List.length_drop, by8_len, by8_len] at this; omega)
  have hi1 : (i : Int) + 1 ≤ (p.size : Int) := by omega
  have hd : decide (((x.size : Int) - (i : Int) - ((p.size - (i + 1) : Nat) : Int)) < 1) = true := decide_eq_true (by omega)
  have hts : (p.extract (i + 1) p.size).size = p.size - (i + 1) := by rw [ByteArray.size_extract]; omega
  clear h
  go_enter Tryz.func75, Tryz.ntmps75
  go_wp2_with fail
  refine (HA.out _).mono ?_
  rintro e w1 ⟨rfl, rfl⟩
  go_wp2_with fail
  go_quiet (fail)
  go_wp2_with fail
  go_ret2
  exact ⟨by rw [HM.out]; rfl, below_drewN (Below.refl _ _) _⟩
set_option maxHeartbeats 4000000 in
theorem RMatch_long (w : World) (p x : ByteArray) (hs : p.size ≤ 1000000) (hx : x.size ≤ 1000000) (i : Nat) (h : Tp.atA (by8 p) = some i) (hn : i + (p.size - (i + 1)) < x.size) : Calls Tryz.prog 75 #[.string p, .string x] w fun e w' => e = mV (Tp.matchA (by8 p) (by8 x)) ∧ Below w.heap.size w w' := by
  have HA : Hid (∀ W, Calls Tryz.prog 99 #[.string p] W fun e w' => e = .returned (.int .i64 (i : Int)) ∧ W = w') := Lib.hid fun W => by
    have := RAt_any W p hs
    rw [h] at this; exact this
  have hi := Tp.at_lt h
  rw [by8_len] at hi
  have hi1 : (i : Int) + 1 ≤ (p.size : Int) := by omega
  have hi2 : (i : Int) ≤ (p.size : Int) := by omega
  have hi3 : (i : Int) ≤ (x.size : Int) := by omega
  have hd : decide (((x.size : Int) - (i : Int) - ((p.size - (i + 1) : Nat) : Int)) < 1) = false := decide_eq_false (by omega)
  have hts : (p.extract (i + 1) p.size).size = p.size - (i + 1) := by rw [ByteArray.size_extract]; omega
  have hq0 : (0 : Int) ≤ (i : Int) + ((x.size : Int) - (i : Int) - ((p.size - (i + 1) : Nat) : Int)) := by omega
  have hq1 : (i : Int) + ((x.size : Int) - (i : Int) - ((p.size - (i + 1) : Nat) : Int)) ≤ (x.size : Int) := by omega
  have hq2 : (i : Int) ≤ (i : Int) + ((x.size : Int) - (i : Int) - ((p.size - (i + 1) : Nat) : Int)) := by omega
  have hq : ((i : Int) + ((x.size : Int) - (i : Int) - ((p.size - (i + 1) : Nat) : Int))).toNat = x.size - (p.size - (i + 1)) := by omega
  have e1 : by8 (p.extract (i + 1) p.size) = (by8 p).drop (i + 1) := by8_drop _ _
  have e2 : by8 (x.extract (x.size - (p.size - (i + 1))) x.size) = (by8 x).drop (x.size - (p.size - (i + 1))) := by8_drop _ _
  have e3 : ((by8 p).drop (i + 1)).length = p.size - (i + 1) := by rw [List.length_drop, by8_len]
  by_cases h1 : by8 (x.extract 0 i) = by8 (p.extract 0 i)
  · have b1 := beq_yes h1
    rw [by8_take, by8_take] at h1
    by_cases h2 : by8 (x.extract (x.size - (p.size - (i + 1))) x.size) = by8 (p.extract (i + 1) p.size)
    · have b2 := beq_yes h2
      rw [e1, e2] at h2
      have HM : Hid (Tp.matchA (by8 p) (by8 x) = some (by8 (x.extract i (x.size - (p.size - (i + 1)))))) := Lib.hid (by
        unfold Tp.matchA; rw [h]
        refine (if_pos ⟨by rw [e3, by8_len]; omega, h1, by rw [e3, by8_len]; exact h2⟩).trans ?_
        rw [by8_mid, e3, by8_len]
        refine congrArg some ?_
        congr 1; omega)
      clear h h1 h2 e1 e2 e3
      go_enter Tryz.func75, Tryz.ntmps75
      go_wp2_with fail
      refine (HA.out _).mono ?_
      rintro e w1 ⟨rfl, rfl⟩
      go_wp2_with fail
      go_quiet (fail)
      go_wp2_with fail
      go_ret2
      exact ⟨by rw [HM.out]; rfl, below_drewN (Below.refl _ _) _⟩
    · have b2 := beq_no h2
      rw [e1, e2] at h2
      have HM : Hid (Tp.matchA (by8 p) (by8 x) = none) := Lib.hid (by
        unfold Tp.matchA; rw [h]
        refine if_neg fun e => h2 ?_
        have := e.2.2
        rw [e3, by8_len] at this; exact this)
      clear h h1 h2 e1 e2 e3
      go_enter Tryz.func75, Tryz.ntmps75
      go_wp2_with fail
      refine (HA.out _).mono ?_
      rintro e w1 ⟨rfl, rfl⟩
      go_wp2_with fail
      go_quiet (fail)
      go_wp2_with fail
      go_ret2
      exact ⟨by rw [HM.out]; rfl, below_drewN (Below.refl _ _) _⟩
  · have b1 := beq_no h1
    rw [by8_take, by8_take] at h1
    have HM : Hid (Tp.matchA (by8 p) (by8 x) = none) := Lib.hid (by
      unfold Tp.matchA; rw [h]
      exact if_neg fun e => h1 e.2.1)
    clear h h1 e1 e2 e3
    go_enter Tryz.func75, Tryz.ntmps75
    go_wp2_with fail
    refine (HA.out _).mono ?_
    rintro e w1 ⟨rfl, rfl⟩
    go_wp2_with fail
    go_quiet (fail)
    go_wp2_with fail
    go_ret2
    exact ⟨by rw [HM.out]; rfl, below_drewN (Below.refl _ _) _⟩
theorem RMatch_any (w : World) (p x : ByteArray) (hs : p.size ≤ 1000000) (hx : x.size ≤ 1000000) : Calls Tryz.prog 75 #[.string p, .string x] w fun e w' => e = mV (Tp.matchA (by8 p) (by8 x)) ∧ Below w.heap.size w w' := by
  cases h : Tp.atA (by8 p) with
  | none => exact RMatch_none w p x hs h
  | some i =>
    by_cases hn : x.size ≤ i + (p.size - (i + 1))
    · exact RMatch_short w p x hs hx i h hn
    · exact RMatch_long w p x hs hx i h (by omega)

set_option maxHeartbeats 2000000 in
theorem RPut_any (w : World) (p s : ByteArray) (hs : p.size ≤ 1000000) (hx : s.size ≤ 1000000) : Calls Tryz.prog 100 #[.string p, .string s] w fun e w' => e = .returned (.string (str (Tp.putA (by8 p) (by8 s)))) ∧ Below w.heap.size w w' := by
  have HA := Lib.hid fun W => RAt_any W p hs
  cases h : Tp.atA (by8 p) with
  | none =>
    rw [h] at HA
    have HM : Hid (str (Tp.putA (by8 p) (by8 s)) = p) := Lib.hid (by unfold Tp.putA; rw [h]; rfl)
    have h1 : ¬ (0 : Int) ≤ atI none := by decide
    have h2 : atI none < (0 : Int) := by decide
    clear h
    go_enter Tryz.func100, Tryz.ntmps100
    go_wp2_with fail
    refine (HA.out _).mono ?_
    rintro e w1 ⟨rfl, rfl⟩
    go_wp2_with fail
    go_ret
    exact ⟨ret_str HM.out.symm, Below.refl _ _⟩
  | some i =>
    have HA : Hid (∀ W, Calls Tryz.prog 99 #[.string p] W fun e w' => e = .returned (.int .i64 (i : Int)) ∧ W = w') := Lib.hid fun W => by
      have := RAt_any W p hs
      rw [h] at this; exact this
    have hi := Tp.at_lt h
    rw [by8_len] at hi
    have hi1 : (i : Int) + 1 ≤ (p.size : Int) := by omega
    have hi2 : (i : Int) ≤ (p.size : Int) := by omega
    have HM : Hid (str (Tp.putA (by8 p) (by8 s)) = p.extract 0 i ++ s ++ p.extract (i + 1) p.size) := Lib.hid (by8_ext (by
      rw [by8_str, by8_add, by8_add, by8_take, by8_drop]
      unfold Tp.putA; rw [h]))
    have hz1 : (p.extract 0 i).size = i := by rw [ByteArray.size_extract]; omega
    have hz2 : (p.extract (i + 1) p.size).size = p.size - (i + 1) := by rw [ByteArray.size_extract]; omega
    clear h
    go_enter Tryz.func100, Tryz.ntmps100
    go_wp2_with fail
    refine (HA.out _).mono ?_
    rintro e w1 ⟨rfl, rfl⟩
    go_wp2_with fail
    go_quiet (fail)
    go_wp2_with fail
    go_ret
    exact ⟨ret_str HM.out.symm, below_drewN (Below.refl _ _) _⟩

set_option maxHeartbeats 2000000 in
theorem RChange_any (w : World) (x a b : ByteArray) (hx : x.size ≤ 1000000) (ha : a.size ≤ 1000000) (hb : b.size ≤ 1000000) : Calls Tryz.prog 76 #[.string x, .string a, .string b] w fun e w' => e = .returned (.string (str (Tp.changeA (by8 x) (by8 a) (by8 b)))) ∧ Below w.heap.size w w' := by
  have HM := Lib.hid fun W => RMatch_any W a x ha hx
  cases h : Tp.matchA (by8 a) (by8 x) with
  | none =>
    have HE : Hid (str (Tp.changeA (by8 x) (by8 a) (by8 b)) = x) := Lib.hid (by unfold Tp.changeA; rw [h]; rfl)
    rw [h] at HM
    simp only [mV] at HM
    clear h
    go_enter Tryz.func76, Tryz.ntmps76
    go_wp2_with fail
    refine (HM.out _).mono ?_
    rintro e w1 ⟨rfl, B1⟩
    go_wp2_with fail
    go_ret
    exact ⟨ret_str HE.out.symm, B1⟩
  | some s =>
    have hl := Tp.match_len h
    rw [by8_len] at hl
    rw [h] at HM
    simp only [mV] at HM
    have HA := Lib.hid fun W => RAt_any W a ha
    cases h2 : Tp.atA (by8 a) with
    | none =>
      rw [h2] at HA
      have HE : Hid (str (Tp.changeA (by8 x) (by8 a) (by8 b)) = b) := Lib.hid (by unfold Tp.changeA; rw [h, h2]; rfl)
      have h3 : atI none < (0 : Int) := by decide
      have h4 : ¬ (0 : Int) ≤ atI none := by decide
      clear h h2
      go_enter Tryz.func76, Tryz.ntmps76
      go_wp2_with fail
      refine (HM.out _).mono ?_
      rintro e w1 ⟨rfl, B1⟩
      go_wp2_with fail
      refine (HA.out _).mono ?_
      rintro e w2 ⟨rfl, rfl⟩
      go_wp2_with fail
      go_ret
      exact ⟨ret_str HE.out.symm, B1⟩
    | some i =>
      have HA2 : Hid (∀ W, Calls Tryz.prog 99 #[.string a] W fun e w' => e = .returned (.int .i64 (i : Int)) ∧ W = w') := Lib.hid fun W => by
        have := HA.out W
        rw [h2] at this; exact this
      have HE : Hid (str (Tp.changeA (by8 x) (by8 a) (by8 b)) = str (Tp.putA (by8 b) (by8 (str s)))) := Lib.hid (by unfold Tp.changeA; rw [h, h2]; rfl)
      have HP := Lib.hid fun W => RPut_any W b (str s) hb (by rw [str_size]; omega)
      clear h h2 HA
      go_enter Tryz.func76, Tryz.ntmps76
      go_wp2_with fail
      refine (HM.out _).mono ?_
      rintro e w1 ⟨rfl, B1⟩
      go_wp2_with fail
      refine (HA2.out _).mono ?_
      rintro e w2 ⟨rfl, rfl⟩
      go_wp2_with fail
      refine (HP.out _).mono ?_
      rintro e w2 ⟨rfl, B2⟩
      go_wp2_with fail
      go_ret
      exact ⟨ret_str HE.out.symm, B1.trans (B2.mono B1.size)⟩
end Go.Proofs.YtenokbceamcekaaGreatDoor.Tw
