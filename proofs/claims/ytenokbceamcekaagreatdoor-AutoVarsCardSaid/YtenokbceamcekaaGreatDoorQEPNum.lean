/-
  words.Trim, in the answer's words.
  package text: number, wordlist, word.
-/
import Derived.Test.YtenokbceamcekaaGreatDoorQEPBase
import Derived.Test.YtenokbceamcekaaGreatDoorQECall2
namespace Go.Proofs.YtenokbceamcekaaGreatDoor.Ew
open Go.RowKit Go.Proofs.YtenokbceamcekaaGreatDoor Go.Proofs.YtenokbceamcekaaGreatDoor.Ww Go.Proofs.YtenokbceamcekaaGreatDoor.Tw
set_option maxRecDepth 100000
theorem infoA2 : (Tryz.prog.info? (Tryz.laysTrim_ren.t 116)).map (fun i => (i.zero, i.size)) = some (some (.agg (Array.replicate 256 (.bool false))), 256) := by kernel_rfl
theorem PTrim_any (w : World) (s : ByteArray) (hs : s.size ≤ 1000000) :
    Calls Tryz.prog 86 #[.string s] w fun e w' => e = .returned (.string (trimT s)) ∧ Below w.heap.size w w' := by
  go_enter Tryz.func86, Tryz.ntmps86
  go_wp2_with fail
  refine (Any.strings_Trim_laid Tryz.laysTrim infoA2 s ⟨#[32, 9, 10]⟩ w (by omega) (by decide) (fun j b h => by
    match j, h with
    | 0, h => obtain rfl := Option.some.inj h; decide
    | 1, h => obtain rfl := Option.some.inj h; decide
    | 2, h => obtain rfl := Option.some.inj h; decide)).mono ?_
  rintro e w' ⟨rfl, hB⟩
  go_wp2_with fail
  go_ret
  exact ⟨rfl, hB⟩
end Go.Proofs.YtenokbceamcekaaGreatDoor.Ew
namespace Go.Proofs.YtenokbceamcekaaGreatDoor.Ew
open Go.RowKit Go.Proofs.YtenokbceamcekaaGreatDoor Go.Proofs.YtenokbceamcekaaGreatDoor.Ww Go.Proofs.YtenokbceamcekaaGreatDoor.Tw
set_option maxRecDepth 100000

def numE (o : Option Nat) : Ending := .returned (.tuple #[.int .i64 (o.getD 0 : Nat), .bool o.isSome])
theorem numE_none {o : Option Nat} (h : o = none) : numE o = .returned (.tuple #[.int .i64 0, .bool false]) := by rw [h]; rfl
theorem numE_some {o : Option Nat} {n : Nat} (h : o = some n) : numE o = .returned (.tuple #[.int .i64 (n : Int), .bool true]) := by rw [h]; rfl
set_option maxHeartbeats 2000000 in
theorem Pnumber_any (w : World) (s : ByteArray) (hs : s.size ≤ 1000000) : Calls Tryz.prog 94 #[.string s] w fun e w' => e = numE (numS s) ∧ Below w.heap.size w w' := by
  have HT := Lib.hid (PTrim_any w s hs)
  have htl := trim_len s
  unfold numS
  generalize trimT s = t at *
  have hts : t.size ≤ 1000000 := by omega
  have HZ : Hid (by8 t = [] → (t.toList == []) = true) := Lib.hid fun h => by rw [toList_by8, h]; rfl
  have HZ2 : Hid (¬ by8 t = [] → (t.toList == []) = false) := Lib.hid fun h => by rw [toList_by8]; exact beq_eq_false_iff_ne.2 h
  have HA0 : Hid (by8 t = [] → Ep.numA (by8 t) = none) := Lib.hid fun h => by unfold Ep.numA; rw [if_pos h]
  have HA : Hid (¬ by8 t = [] → Ep.numA (by8 t) = Ep.numGo 0 (by8 t)) := Lib.hid fun h => by unfold Ep.numA; rw [if_neg h]
  have HNil : Hid (by8 t = [] ↔ t.size = 0) := Lib.hid (by rw [← by8_len]; exact List.length_eq_zero_iff.symm)
  go_enter Tryz.func94, Tryz.ntmps94
  go_wp2_with fail
  refine HT.out.mono ?_
  rintro e w1 ⟨rfl, B1⟩
  have HB := Lib.hid B1
  clear B1
  go_wp2_with fail
  go_loop [5, 12] (fun vn vi => ∃ n i : Nat, vn = .int .i64 n ∧ vi = .int .i64 i ∧ i ≤ t.size ∧ n ≤ 1073741824 ∧ Ep.numGo n ((by8 t).drop i) = Ep.numGo 0 (by8 t)) (fun _ vi => t.size - (intOf vi).toNat)
  case atStart => exact ⟨0, 0, rfl, rfl, Nat.zero_le _, by decide, rfl⟩
  case round =>
    obtain ⟨n, i, rfl, rfl, hi, hn, hg⟩ := hrel
    by_cases hlt : i < t.size
    · rw [by8_at hlt, Ep.numGo] at hg
      have hA := HA.out (fun h => by have := HNil.out.1 h; omega)
      rw [← hA] at hg
      have hc8 := t[i].toNat_lt
      have hki : (i : Int) < (t.size : Int) := by omega
      have hk0 : (0 : Int) ≤ (i : Int) := by omega
      clear hA
      by_cases hd : t[i].toNat < 48 ∨ 57 < t[i].toNat
      · have HE : Hid (numE (Ep.numA (by8 t)) = .returned (.tuple #[.int .i64 0, .bool false])) := Lib.hid (numE_none (by rw [← hg, if_pos hd]))
        clear hg
        rcases Nat.lt_or_ge t[i].toNat 48 with h1 | h1
        · have h2 : (t[i].toNat : Int) < 48 := by omega
          clear hd
          go_wp2_with fail
          go_ret2
          exact ⟨HE.out.symm, HB.out⟩
        · have h2 : ¬ (t[i].toNat : Int) < 48 := by omega
          have h3 : (57 : Int) < (t[i].toNat : Int) := by omega
          clear hd
          go_wp2_with fail
          go_ret2
          exact ⟨HE.out.symm, HB.out⟩
      · rw [if_neg hd] at hg
        have HG := Lib.hid hg
        clear hg
        have h2 : ¬ (t[i].toNat : Int) < 48 := by omega
        have h3 : ¬ (57 : Int) < (t[i].toNat : Int) := by omega
        have w1 : IntKind.u8.wrap ((t[i].toNat : Int) - 48) = (t[i].toNat : Int) - 48 := by rw [IntWalk.u8_in _ (by omega)]
        have w2 : IntKind.i64.wrap ((t[i].toNat : Int) - 48) = (t[i].toNat : Int) - 48 := by rw [IntWalk.i64_in _ (by omega)]
        have w3 : IntKind.i64.wrap ((n : Int) * 10) = (n : Int) * 10 := by rw [IntWalk.i64_in _ (by omega)]
        have w4 : IntKind.i64.wrap ((n : Int) * 10 + ((t[i].toNat : Int) - 48)) = (n : Int) * 10 + ((t[i].toNat : Int) - 48) := by rw [IntWalk.i64_in _ (by omega)]
        by_cases hbig : 1073741824 < 10 * n + (t[i].toNat - 48)
        · have HE : Hid (numE (Ep.numA (by8 t)) = .returned (.tuple #[.int .i64 0, .bool false])) := Lib.hid (numE_none (by rw [← HG.out, if_pos hbig]))
          have h4 : (1073741824 : Int) < (n : Int) * 10 + ((t[i].toNat : Int) - 48) := by omega
          clear hd hbig
          go_wp2_with fail
          go_ret2
          exact ⟨HE.out.symm, HB.out⟩
        · have HE : Hid (Ep.numGo (10 * n + (t[i].toNat - 48)) ((by8 t).drop (i + 1)) = Ep.numGo 0 (by8 t)) := Lib.hid (by
            have hA := HA.out (fun h => by have := HNil.out.1 h; omega)
            rw [← hA, ← HG.out, if_neg hbig])
          have h4 : ¬ (1073741824 : Int) < (n : Int) * 10 + ((t[i].toNat : Int) - 48) := by omega
          have HN : Hid (10 * n + (t[i].toNat - 48) ≤ 1073741824 ∧ (n : Int) * 10 + ((t[i].toNat : Int) - 48) = ((10 * n + (t[i].toNat - 48) : Nat) : Int)) := Lib.hid ⟨by omega, by omega⟩
          clear hd hbig
          go_wp2_with fail
          go_round
          case rel => exact ⟨10 * n + (t[i].toNat - 48), i + 1, by rw [HN.out.2], by go_num, hlt, HN.out.1, HE.out⟩
          case measure => simp [intOf]; omega
    · obtain rfl : i = t.size := by omega
      have hki : ¬ (t.size : Int) < (t.size : Int) := by omega
      rw [List.drop_of_length_le (by rw [by8_len]; exact Nat.le_refl _)] at hg
      by_cases h0 : by8 t = []
      · have hb := HZ.out h0
        have HE : Hid (numE (Ep.numA (by8 t)) = .returned (.tuple #[.int .i64 (n : Int), .bool false])) := Lib.hid (by
          rw [numE_none (HA0.out h0)]
          rw [h0] at hg
          have : n = 0 := by
            have h1 : some n = some 0 := hg
            exact Option.some.inj h1
          rw [this]; rfl)
        clear hg h0
        go_wp2_with fail
        go_ret2
        exact ⟨HE.out.symm, HB.out⟩
      · have hb := HZ2.out h0
        have HE : Hid (numE (Ep.numA (by8 t)) = .returned (.tuple #[.int .i64 (n : Int), .bool true])) := Lib.hid (numE_some (by
          rw [HA.out h0, ← hg]; rfl))
        clear hg h0
        go_wp2_with fail
        go_ret2
        exact ⟨HE.out.symm, HB.out⟩
end Go.Proofs.YtenokbceamcekaaGreatDoor.Ew
