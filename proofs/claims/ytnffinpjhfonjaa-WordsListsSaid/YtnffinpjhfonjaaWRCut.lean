/-
  flatironref04.Has, flatironref04.Cut: the document's answer for words.Cut.
-/
import Derived.Test.YtnffinpjhfonjaaWBase
namespace Go.Proofs.Ytnffinpjhfonjaa.Ww
open Go.RowKit Go.Proofs.Ytnffinpjhfonjaa
set_option maxRecDepth 100000

/-- Is a byte among a text's? -/
def hasB (s : ByteArray) (c : UInt8) : Bool := (by8 s).contains c

theorem Has_any (w : World) (s : ByteArray) (c : UInt8) (hs : s.size ≤ 1000000) :
    Calls Try.prog 18 #[.string s, .int .u8 (c.toNat : Int)] w fun e w' => e = .returned (.bool (hasB s c)) ∧ w = w' := by
  go_enter Try.func18, Try.ntmps18
  go_wp2
  go_loop [5] (fun v => ∃ k : Nat, v = .int .i64 k ∧ k ≤ s.size ∧ ((by8 s).drop k).contains c = (by8 s).contains c) (fun v => s.size - (intOf v).toNat)
  case atStart => exact ⟨0, rfl, Nat.zero_le _, rfl⟩
  case round =>
    obtain ⟨k, rfl, hk, hl⟩ := hrel
    by_cases h0 : k < s.size
    · rw [by8_at h0, List.contains_cons] at hl
      by_cases hc : s[k] = c
      · have hb := eq_true hc
        have HT : Hid (hasB s c = true) := Lib.hid (by unfold hasB; rw [← hl, hc]; simp)
        clear hc hl
        go_wp2
        go_ret
        exact ⟨ret_bool HT.out.symm, rfl⟩
      · have hb := eq_false hc
        have HT : Hid (((by8 s).drop (k + 1)).contains c = (by8 s).contains c) := Lib.hid (by rw [← hl, beq_eq_false_iff_ne.2 (fun h => hc h.symm), Bool.false_or])
        clear hc hl
        go_wp2
        go_round
        case rel => exact ⟨k + 1, by go_num, by omega, HT.out⟩
        case measure => simp [intOf]; omega
    · rw [List.drop_of_length_le (by rw [by8_len]; omega)] at hl
      have HT : Hid (hasB s c = false) := Lib.hid hl.symm
      clear hl
      go_wp2
      go_ret
      exact ⟨ret_bool HT.out.symm, rfl⟩

def cutI (s stops : ByteArray) : Int := match Wp.cutA (by8 stops) [] (by8 s) 0 with | some k => (k : Int) | none => -1
def RCutPost (s stops : ByteArray) (w : World) (e : Ending) (w' : World) : Prop := e = .returned (.int .i64 (cutI s stops)) ∧ w = w'

/-- What the loop's head knows. -/
def RCutRel (s stops : ByteArray) (v i : Value) : Prop :=
  ∃ (k : Nat) (o : ByteArray), v = .string o ∧ i = .int .i64 k ∧ k ≤ s.size ∧ o.size ≤ k ∧ Wp.cutA (by8 stops) (by8 o) ((by8 s).drop k) k = Wp.cutA (by8 stops) [] (by8 s) 0

theorem toList_nil {o : ByteArray} (h : o.toList = []) : by8 o = [] := by rw [Lib.toList_data] at h; exact h
theorem nil_toList {o : ByteArray} (h : by8 o = []) : o.toList = [] := by rw [Lib.toList_data]; exact h

theorem RCut_hit {w : World} {s stops o : ByteArray} {k : Nat} (hlt : k < s.size) (hC : Wp.cutA (by8 stops) (by8 o) ((by8 s).drop k) k = Wp.cutA (by8 stops) [] (by8 s) 0) (ho : o.toList = []) (hh : hasB stops s[k] = true) :
    RCutPost s stops w (.returned (.int .i64 k)) w := by
  refine ⟨?_, rfl⟩
  unfold cutI
  rw [← hC, toList_nil ho, by8_at hlt, Wp.cutA_hit hh]
theorem RCut_miss {s stops o o' : ByteArray} {k : Nat} (hlt : k < s.size) (hl : o.size ≤ k) (hC : Wp.cutA (by8 stops) (by8 o) ((by8 s).drop k) k = Wp.cutA (by8 stops) [] (by8 s) 0) (hh : ¬ (o.toList = [] ∧ hasB stops s[k] = true)) (ho : by8 o' = Wp.next (by8 o) s[k]) :
    RCutRel s stops (.string o') (.int .i64 ((k : Int) + 1)) := by
  refine ⟨k + 1, o', rfl, by go_num, hlt, ?_, ?_⟩
  · have := Wp.next_len (by8 o) s[k]
    rw [← ho, by8_len, by8_len] at this; omega
  · rw [← hC, by8_at hlt, Wp.cutA_miss (fun h => hh ⟨nil_toList h.1, h.2⟩), ho]

theorem by8_append (a b : ByteArray) : by8 (a ++ b) = by8 a ++ by8 b := by
  show (a ++ b).data.toList = _
  rw [ByteArray.data_append, Array.toList_append]; rfl
theorem one_is {p : ByteArray} {k : Nat} (h : k < p.size) : by8 (p.extract k (k + 1)) = [p[k]] := by
  show (p.extract k (k + 1)).data.toList = _
  rw [ByteArray.data_extract, Array.toList_extract, List.extract_eq_take_drop, Nat.add_sub_cancel_left]
  show ((by8 p).drop k).take 1 = _
  rw [by8_at h]; rfl
theorem last_is {o : ByteArray} (h : o.size - 1 < o.size) : (by8 o).getLast? = some o[o.size - 1] := by
  rw [List.getLast?_eq_getElem?, by8_len, by8_get h]
theorem cut_is (o : ByteArray) : by8 (o.extract 0 (o.size - 1)) = (by8 o).dropLast := by
  rw [by8_take, List.dropLast_eq_take, by8_len]

theorem next_nil {o : ByteArray} {c : UInt8} (ho : o.toList = []) (h1 : ¬ c = 40) (h2 : ¬ c = 123) : by8 o = Wp.next (by8 o) c := by
  rw [Wp.next_other h1 h2]
  intro d h
  rw [toList_nil ho] at h; cases h
/-- Behind an end that is the last bracket's. -/
theorem next_yes {o : ByteArray} {c d : UInt8} (hn : o.size - 1 < o.size) (hd : o[o.size - 1] = d) (h : (c = 41 ∧ d = 40) ∨ (c = 125 ∧ d = 123)) : by8 (o.extract 0 (o.size - 1)) = Wp.next (by8 o) c := by
  rw [cut_is]
  unfold Wp.next
  rcases h with ⟨rfl, rfl⟩ | ⟨rfl, rfl⟩
  · rw [if_neg (by decide), if_pos ⟨rfl, by rw [last_is hn, hd]⟩]
  · rw [if_neg (by decide), if_neg (fun h => absurd h.1 (by decide)), if_pos ⟨rfl, by rw [last_is hn, hd]⟩]
theorem next_no {o : ByteArray} {c : UInt8} (hn : o.size - 1 < o.size) (h1 : ¬ c = 40) (h2 : ¬ c = 123) (h3 : ¬ (c = 41 ∧ o[o.size - 1] = 40)) (h4 : ¬ (c = 125 ∧ o[o.size - 1] = 123)) : by8 o = Wp.next (by8 o) c := by
  unfold Wp.next
  rw [if_neg (fun h => h.elim h1 h2), last_is hn, if_neg (fun h => h3 ⟨h.1, Option.some.inj h.2⟩), if_neg (fun h => h4 ⟨h.1, Option.some.inj h.2⟩)]
theorem next_app {o s : ByteArray} {k : Nat} (hlt : k < s.size) (h : s[k] = 40 ∨ s[k] = 123) : by8 (o ++ s.extract k (k + 1)) = Wp.next (by8 o) s[k] := by
  rw [by8_append, one_is hlt, Wp.next_open h]

set_option maxHeartbeats 4000000 in
theorem RCut_any (w : World) (s stops : ByteArray) (hs : s.size ≤ 100000) (hst : stops.size ≤ 100000) :
    Calls Try.prog 13 #[.string s, .string stops] w (RCutPost s stops w) := by
  go_enter Try.func13, Try.ntmps13
  go_wp2_with fail
  go_loop [5, 6] (fun v i => RCutRel s stops v i) (fun _ i => s.size - (intOf i).toNat)
  case atStart => exact ⟨0, ⟨#[]⟩, rfl, rfl, Nat.zero_le _, Nat.le_refl _, rfl⟩
  case round =>
    obtain ⟨k, o, rfl, rfl, hk, hl, hC⟩ := hrel
    by_cases hlt : k < s.size
    · have HH := Lib.hid (@RCut_hit w s stops o k hlt hC)
      have HM0 := Lib.hid fun o' => @RCut_miss s stops o o' k hlt hl hC
      clear hC
      go_wp2_with fail
      refine (Has_any _ stops s[k] (by omega)).mono ?_
      rintro e w' ⟨rfl, rfl⟩
      by_cases hi1 : o.toList = []
      · have hi2 : (!o.toList.isEmpty) = false := by rw [hi1]; rfl
        cases hI : hasB stops s[k] with
        | true =>
          have HI := Lib.hid (HH.out hi1 hI)
          clear hI
          go_wp2_with fail
          go_ret
          exact HI.out
        | false =>
          have HM := Lib.hid fun o' => HM0.out o' (fun h => by rw [hI] at h; cases h.2)
          clear hI HH HM0
          by_cases h40 : s[k] = 40
          · have hb : ((s[k].toNat : Int) == 40) = true := by rw [h40]; rfl
            have HX := Lib.hid (next_app (o := o) hlt (.inl h40))
            clear h40
            go_wp2_with fail
            go_round
            case rel => exact HM.out _ HX.out
            case measure => simp [intOf]; omega
          · have hb : ((s[k].toNat : Int) == 40) = false := eq_false (b := 40) h40
            by_cases h123 : s[k] = 123
            · have hb2 : ((s[k].toNat : Int) == 123) = true := by rw [h123]; rfl
              have HX := Lib.hid (next_app (o := o) hlt (.inr h123))
              clear h40 h123
              go_wp2_with fail
              go_round
              case rel => exact HM.out _ HX.out
              case measure => simp [intOf]; omega
            · have hb2 : ((s[k].toNat : Int) == 123) = false := eq_false (b := 123) h123
              have HX := Lib.hid (next_nil hi1 h40 h123)
              by_cases h41 : s[k] = 41
              · have hb3 : ((s[k].toNat : Int) == 41) = true := by rw [h41]; rfl
                clear h40 h123 h41
                go_wp2_with fail
                go_round
                case rel => exact HM.out _ HX.out
                case measure => simp [intOf]; omega
              · have hb3 : ((s[k].toNat : Int) == 41) = false := eq_false (b := 41) h41
                by_cases h125 : s[k] = 125
                · have hb4 : ((s[k].toNat : Int) == 125) = true := by rw [h125]; rfl
                  clear h40 h123 h41 h125
                  go_wp2_with fail
                  go_round
                  case rel => exact HM.out _ HX.out
                  case measure => simp [intOf]; omega
                · have hb4 : ((s[k].toNat : Int) == 125) = false := eq_false (b := 125) h125
                  clear h40 h123 h41 h125
                  go_wp2_with fail
                  go_round
                  case rel => exact HM.out _ HX.out
                  case measure => simp [intOf]; omega
      · have hi2 : (!o.toList.isEmpty) = true := by cases h : o.toList with | nil => exact absurd h hi1 | cons _ _ => rfl
        have hi3 : 0 < o.size := by
          rcases Nat.eq_zero_or_pos o.size with h | h
          · exact absurd (nil_toList (by8_nil h)) hi1
          · exact h
        have hi4 : o.size - 1 < o.size := by omega
        have HM := Lib.hid fun o' => HM0.out o' (fun h => hi1 h.1)
        clear HH HM0
        by_cases h40 : s[k] = 40
        · have hb : ((s[k].toNat : Int) == 40) = true := by rw [h40]; rfl
          have HX := Lib.hid (next_app (o := o) hlt (.inl h40))
          clear h40
          go_wp2_with fail
          go_round
          case rel => exact HM.out _ HX.out
          case measure => simp [intOf]; omega
        · have hb : ((s[k].toNat : Int) == 40) = false := eq_false (b := 40) h40
          by_cases h123 : s[k] = 123
          · have hb2 : ((s[k].toNat : Int) == 123) = true := by rw [h123]; rfl
            have HX := Lib.hid (next_app (o := o) hlt (.inr h123))
            clear h40 h123
            go_wp2_with fail
            go_round
            case rel => exact HM.out _ HX.out
            case measure => simp [intOf]; omega
          · have hb2 : ((s[k].toNat : Int) == 123) = false := eq_false (b := 123) h123
            by_cases h41 : s[k] = 41
            · have hb3 : ((s[k].toNat : Int) == 41) = true := by rw [h41]; rfl
              by_cases hd : o[o.size - 1] = 40
              · have hbd : ((o[o.size - 1].toNat : Int) == 40) = true := by rw [hd]; rfl
                have HX := Lib.hid (next_yes hi4 hd (.inl ⟨h41, rfl⟩))
                clear h40 h123 h41 hd
                go_wp2_with fail
                go_round
                case rel => exact HM.out _ HX.out
                case measure => simp [intOf]; omega
              · have hbd : ((o[o.size - 1].toNat : Int) == 40) = false := eq_false (b := 40) hd
                have HX := Lib.hid (next_no hi4 h40 h123 (fun h => hd h.2) (fun h => absurd (h41.symm.trans h.1) (by decide)))
                clear h40 h123 h41 hd
                go_wp2_with fail
                go_round
                case rel => exact HM.out _ HX.out
                case measure => simp [intOf]; omega
            · have hb3 : ((s[k].toNat : Int) == 41) = false := eq_false (b := 41) h41
              by_cases h125 : s[k] = 125
              · have hb4 : ((s[k].toNat : Int) == 125) = true := by rw [h125]; rfl
                by_cases hd : o[o.size - 1] = 123
                · have hbd : ((o[o.size - 1].toNat : Int) == 123) = true := by rw [hd]; rfl
                  have HX := Lib.hid (next_yes hi4 hd (.inr ⟨h125, rfl⟩))
                  clear h40 h123 h41 h125 hd
                  go_wp2_with fail
                  go_round
                  case rel => exact HM.out _ HX.out
                  case measure => simp [intOf]; omega
                · have hbd : ((o[o.size - 1].toNat : Int) == 123) = false := eq_false (b := 123) hd
                  have HX := Lib.hid (next_no hi4 h40 h123 (fun h => h41 h.1) (fun h => hd h.2))
                  clear h40 h123 h41 h125 hd
                  go_wp2_with fail
                  go_round
                  case rel => exact HM.out _ HX.out
                  case measure => simp [intOf]; omega
              · have hb4 : ((s[k].toNat : Int) == 125) = false := eq_false (b := 125) h125
                have HX := Lib.hid (next_no hi4 h40 h123 (fun h => h41 h.1) (fun h => h125 h.1))
                clear h40 h123 h41 h125
                go_wp2_with fail
                go_round
                case rel => exact HM.out _ HX.out
                case measure => simp [intOf]; omega
    · obtain rfl : k = s.size := by omega
      have HP : Hid (RCutPost s stops w (.returned (.int .i64 (-1))) w) := Lib.hid (by
        refine ⟨?_, rfl⟩
        unfold cutI
        rw [← hC, List.drop_of_length_le (by rw [by8_len]; exact Nat.le_refl _), Wp.cutA_nil])
      clear hC
      go_wp2_with fail
      go_ret
      exact HP.out
end Go.Proofs.Ytnffinpjhfonjaa.Ww
