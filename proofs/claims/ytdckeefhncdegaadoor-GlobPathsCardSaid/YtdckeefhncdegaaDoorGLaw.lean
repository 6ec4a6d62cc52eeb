/-
  The law GlobMatches, walked: for every two strings that can be read it returns true.
-/
import Derived.Test.YtdckeefhncdegaaDoorRMatch2
import Derived.Test.YtdckeefhncdegaaDoorMagic
import Derived.Test.YtdckeefhncdegaaDoorPath
namespace Go.Proofs.YtdckeefhncdegaaDoor.Gm
open Go.RowKit Go.Proofs.YtdckeefhncdegaaDoor
set_option maxRecDepth 100000

theorem Match_is (w : World) (p s : ByteArray) (b : Bool) (hb : Hid (Gl.matchB (by8 p) (by8 s) = b)) (hp : p.size ≤ 1000000) (hs : s.size ≤ 1000000) :
    Calls Tryd.prog 6 #[.string p, .string s] w fun e w' => e = .returned (.bool b) ∧ w = w' := by
  have := Match_any w p s hp hs
  rwa [hb.out] at this
theorem RMatch_is (w : World) (p s : ByteArray) (b : Bool) (hb : Hid (Gl.matchB (by8 p) (by8 s) = b)) (hp : p.size ≤ 1000000) (hs : s.size ≤ 1000000) :
    Calls Tryd.prog 7 #[.string p, .string s] w fun e w' => e = .returned (.bool b) ∧ Below w.heap.size w w' := by
  have := RMatch_any w p s hp hs
  rwa [hb.out] at this
theorem Path_is (w : World) (p s : ByteArray) (b : Bool) (hb : Hid (pathB (by8 p) (by8 s) = b)) (hp : p.size ≤ 1000000) (hs : s.size ≤ 1000000) :
    Calls Tryd.prog 9 #[.string p, .string s] w fun e w' => e = .returned (.bool b) ∧ Below w.heap.size w w' := by
  have := Path_any w p s hp hs
  rwa [hb.out] at this
theorem Magic_is (w : World) (p : ByteArray) (b : Bool) (hb : Hid (Gl.magic (by8 p) = b)) (hp : p.size ≤ 1000000) :
    Calls Tryd.prog 8 #[.string p] w fun e w' => e = .returned (.bool b) ∧ Below w.heap.size w w' := by
  have := Magic_any w p hp
  rwa [hb.out] at this

set_option maxHeartbeats 1000000 in
theorem lives_any (w : World) : Calls Tryd.prog 5 #[] w fun e w' => e = .returned (.bool true) ∧ Below w.heap.size w w' := by
  have H1 : Hid (Gl.matchB (by8 ⟨#[42, 46, 91, 99, 104, 93]⟩) (by8 ⟨#[120, 46, 99]⟩) = true) := Lib.hid (by decide +kernel)
  have H2 : Hid (Gl.matchB (by8 ⟨#[42, 46, 91, 99, 104, 93]⟩) (by8 ⟨#[46, 99]⟩) = true) := Lib.hid (by decide +kernel)
  have H3 : Hid (pathB (by8 ⟨#[42, 46, 91, 99, 104, 93]⟩) (by8 ⟨#[46, 99]⟩) = false) := Lib.hid (by decide +kernel)
  have H4 : Hid (Gl.magic (by8 ⟨#[97, 42]⟩) = true) := Lib.hid (by decide +kernel)
  have H5 : Hid (Gl.magic (by8 ⟨#[97, 46, 99]⟩) = false) := Lib.hid (by decide +kernel)
  go_enter Tryd.func5, Tryd.ntmps5
  go_wp2_with fail
  refine (Match_is _ _ _ _ H1 (by decide) (by decide)).mono ?_
  rintro e w' ⟨rfl, rfl⟩
  go_wp2_with fail
  refine (Match_is _ _ _ _ H2 (by decide) (by decide)).mono ?_
  rintro e w' ⟨rfl, rfl⟩
  go_wp2_with fail
  refine (Path_is _ _ _ _ H3 (by decide) (by decide)).mono ?_
  rintro e w1 ⟨rfl, B1⟩
  go_wp2_with fail
  refine (Magic_is _ _ _ H4 (by decide)).mono ?_
  rintro e w2 ⟨rfl, B2⟩
  go_wp2_with fail
  refine (Magic_is _ _ _ H5 (by decide)).mono ?_
  rintro e w3 ⟨rfl, B3⟩
  go_wp2_with fail
  go_ret
  exact ⟨rfl, (B1.trans (B2.mono B1.size)).trans (B3.mono (Nat.le_trans B1.size B2.size))⟩

theorem magic_take {p : ByteArray} {k : Nat} (h : k < p.size) : Gl.magic ((by8 p).take (k + 1)) = (Gl.magic ((by8 p).take k) || Gl.magicByte p[k]) := by
  have hl : k < (by8 p).length := by rw [by8_len]; exact h
  rw [List.take_succ_eq_append_getElem hl]
  unfold Gl.magic
  rw [List.any_append]
  show (_ || (Gl.magicByte p[k] || false)) = _
  rw [Bool.or_false]
  rfl

theorem mb_42 {c : UInt8} (h : c = 42) : Gl.magicByte c = true := by subst h; rfl
theorem mb_63 {c : UInt8} (h : c = 63) : Gl.magicByte c = true := by subst h; rfl
theorem mb_91 {c : UInt8} (h : c = 91) : Gl.magicByte c = true := by subst h; rfl
theorem mb_92 {c : UInt8} (h : c = 92) : Gl.magicByte c = true := by subst h; rfl
theorem mb_no {c : UInt8} (h1 : ¬ c = 42) (h2 : ¬ c = 63) (h3 : ¬ c = 91) (h4 : ¬ c = 92) : Gl.magicByte c = false := by
  simp [Gl.magicByte, h1, h2, h3, h4]

/-- What the loop's head knows. -/
def GRel (B : Nat) (w : World) (p : ByteArray) (mv iv : Value) (wr : World) : Prop :=
  ∃ k : Nat, iv = .int .i64 k ∧ k ≤ p.size ∧ mv = .bool (Gl.magic ((by8 p).take k)) ∧ Below B w wr

set_option maxHeartbeats 4000000 in
theorem GlobMatches_any (w : World) (p s : ByteArray) (hp0 : p.size ≤ 140737488355328) (hs0 : s.size ≤ 140737488355328) :
    Calls Tryd.prog 3 #[.string p, .string s] w fun e w' => e = .returned (.bool true) ∧ Below w.heap.size w w' := by
  by_cases hp : p.size ≤ 24
  · by_cases hs : s.size ≤ 40
    · go_enter Tryd.func3, Tryd.ntmps3
      go_wp2_with fail
      refine (lives_any w).mono ?_
      rintro e w1 ⟨rfl, B1⟩
      go_wp2_with fail
      go_loopw [5, 22] (fun mv iv wr => GRel w.heap.size w p mv iv wr) (fun _ iv _ => p.size - (intOf iv).toNat)
      case atStart => exact ⟨0, rfl, Nat.zero_le _, rfl, B1⟩
      case round =>
        obtain ⟨k, rfl, hk, rfl, hB⟩ := hrel
        by_cases hlt : k < p.size
        · have hmt := magic_take hlt
          cases hm : Gl.magic ((by8 p).take k) with
          | true =>
            rw [hm, Bool.true_or] at hmt
            have HM := Lib.hid hmt
            clear hmt hm
            go_wp2
            go_roundw
            case rel => exact ⟨k + 1, by go_num, hlt, by rw [HM.out], hB⟩
            case measure => simp [intOf] <;> omega
          | false =>
            rw [hm, Bool.false_or] at hmt
            have HM := Lib.hid hmt
            clear hmt hm
            by_cases h42 : p[k] = 42
            · have hb : ((p[k].toNat : Int) == 42) = true := by rw [h42]; rfl
              have HB := Lib.hid (HM.out.trans (mb_42 h42))
              clear h42
              go_wp2
              go_roundw
              case rel => exact ⟨k + 1, by go_num, hlt, by rw [HB.out], hB⟩
              case measure => simp [intOf] <;> omega
            · have hb : ((p[k].toNat : Int) == 42) = false := eq_false (b := 42) h42
              by_cases h63 : p[k] = 63
              · have hb2 : ((p[k].toNat : Int) == 63) = true := by rw [h63]; rfl
                have HB := Lib.hid (HM.out.trans (mb_63 h63))
                clear h42 h63
                go_wp2
                go_roundw
                case rel => exact ⟨k + 1, by go_num, hlt, by rw [HB.out], hB⟩
                case measure => simp [intOf] <;> omega
              · have hb2 : ((p[k].toNat : Int) == 63) = false := eq_false (b := 63) h63
                by_cases h91 : p[k] = 91
                · have hb3 : ((p[k].toNat : Int) == 91) = true := by rw [h91]; rfl
                  have HB := Lib.hid (HM.out.trans (mb_91 h91))
                  clear h42 h63 h91
                  go_wp2
                  go_roundw
                  case rel => exact ⟨k + 1, by go_num, hlt, by rw [HB.out], hB⟩
                  case measure => simp [intOf] <;> omega
                · have hb3 : ((p[k].toNat : Int) == 91) = false := eq_false (b := 91) h91
                  by_cases h92 : p[k] = 92
                  · have hb4 : ((p[k].toNat : Int) == 92) = true := by rw [h92]; rfl
                    have HB := Lib.hid (HM.out.trans (mb_92 h92))
                    clear h42 h63 h91 h92
                    go_wp2
                    go_roundw
                    case rel => exact ⟨k + 1, by go_num, hlt, by rw [HB.out], hB⟩
                    case measure => simp [intOf] <;> omega
                  · have hb4 : ((p[k].toNat : Int) == 92) = false := eq_false (b := 92) h92
                    have HB := Lib.hid (HM.out.trans (mb_no h42 h63 h91 h92))
                    clear h42 h63 h91 h92
                    go_wp2
                    go_roundw
                    case rel => exact ⟨k + 1, by go_num, hlt, by rw [HB.out], hB⟩
                    case measure => simp [intOf] <;> omega
        · obtain rfl : k = p.size := by omega
          rw [List.take_of_length_le (by rw [by8_len]; exact Nat.le_refl _)]
          obtain ⟨b, HB⟩ : ∃ b, Hid (Gl.matchB (by8 p) (by8 s) = b) := ⟨_, Lib.hid rfl⟩
          obtain ⟨m, HM⟩ : ∃ m, Hid (Gl.magic (by8 p) = m) := ⟨_, Lib.hid rfl⟩
          rw [HM.out]
          go_wp2_with fail
          refine (Match_is _ _ _ _ HB (by omega) (by omega)).mono ?_
          rintro e w' ⟨rfl, rfl⟩
          go_wp2_with fail
          refine (RMatch_is _ _ _ _ HB (by omega) (by omega)).mono ?_
          rintro e w3 ⟨rfl, B3⟩
          have hB3 := hB.trans (B3.mono hB.size)
          go_wp2_with fail
          refine (Magic_is _ _ _ HM (by omega)).mono ?_
          rintro e w4 ⟨rfl, B4⟩
          have hB4 := hB3.trans (B4.mono hB3.size)
          cases m with
          | true =>
            go_wp2_with fail
            go_ret
            exact ⟨rfl, hB4⟩
          | false =>
            have hps : (p.toList == s.toList) = b := by
              rw [Lib.toList_data, Lib.toList_data, ← HB.out, Gl.plain_match HM.out]; rfl
            go_wp2_with fail
            refine (Match_is _ _ _ _ HB (by omega) (by omega)).mono ?_
            rintro e w' ⟨rfl, rfl⟩
            go_wp2_with fail
            go_ret
            exact ⟨rfl, hB4⟩
    · have hp2 : p.size ≤ 24 := hp
      go_enter Tryd.func3, Tryd.ntmps3
      go_wp2_with fail
      refine (lives_any w).mono ?_
      rintro e w1 ⟨rfl, B1⟩
      go_wp2_with fail
      refine (lives_any w1).mono ?_
      rintro e w2 ⟨rfl, B2⟩
      go_wp2_with fail
      go_ret
      exact ⟨rfl, B1.trans (B2.mono B1.size)⟩
  · go_enter Tryd.func3, Tryd.ntmps3
    go_wp2_with fail
    refine (lives_any w).mono ?_
    rintro e w1 ⟨rfl, B1⟩
    go_wp2_with fail
    refine (lives_any w1).mono ?_
    rintro e w2 ⟨rfl, B2⟩
    go_wp2_with fail
    go_ret
    exact ⟨rfl, B1.trans (B2.mono B1.size)⟩
end Go.Proofs.YtdckeefhncdegaaDoor.Gm
