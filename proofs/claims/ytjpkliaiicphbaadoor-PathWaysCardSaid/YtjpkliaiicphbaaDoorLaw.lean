/-
  The law of layer 1 on joined paths: for every list of strings that can be read it returns true; nothing that lay before has turned.
-/
import Derived.Test.YtjpkliaiicphbaaDoorTo
namespace Go.Proofs.YtjpkliaiicphbaaDoor
open Go.RowKit
set_option maxRecDepth 100000

theorem strs_two (w : World) (s t : ByteArray) (c : Nat) : Strs (w.alloc (.cells #[.string s, .string t] 9)) (.slice (some ⟨w.heap.size, 0, none⟩) 2 c) [s, t] := by
  refine .inr ⟨w.heap.size, 0, c, rfl, by simp, fun j hj => ?_⟩
  have hb := World.alloc_heap_new w (.cells #[.string s, .string t] 9)
  match j, hj with
  | 0, _ => unfold World.cell?; simp only [hb]; rfl
  | 1, _ => unfold World.cell?; simp only [hb]; rfl

set_option maxHeartbeats 1000000 in
theorem lives_any (w : World) (m : Int) (hm : w.cell? ⟨0, 0, none⟩ = some (.int .i64 m)) (hw0 : 0 < w.heap.size) :
    Calls Tryd.prog 5 #[] w fun e w' => e = .returned (.bool true) ∧ Below w.heap.size w w' := by
  have HM := Lib.hid hm
  clear hm
  have hss := strs_two w ⟨#[97, 47, 98]⟩ ⟨#[46, 46, 47, 99, 47, 47, 46, 47, 100]⟩ 2
  have HJ : Hid (Pt.join ([⟨#[97, 47, 98]⟩, ⟨#[46, 46, 47, 99, 47, 47, 46, 47, 100]⟩].map bs) = some [97, 47, 99, 47, 100]) := Lib.hid (by decide +kernel)
  have HT : Hid (way (bs ⟨#[97, 47, 120]⟩) (bs ⟨#[97, 47, 98, 47, 99]⟩) = [46, 46, 47, 46, 46, 47, 120]) := Lib.hid (by decide +kernel)
  go_enter Tryd.func5, Tryd.ntmps5
  go_wp2_with fail
  refine (Join_yes _ _ _ _ hss (by simp) (by decide +kernel) HJ).mono ?_
  rintro e w1 ⟨rfl, B1⟩
  have B01 := ((Below.refl _ w).alloc (Nat.le_refl _) _).trans (B1.mono (by simp))
  have HM1 : w1.cell? ⟨0, 0, none⟩ = some (.int .i64 m) := (B01.cell (p := ⟨0, 0, none⟩) hw0).trans HM.out
  have hw1 := B01.size
  have hq : ((str [97, 47, 99, 47, 100]).toList == [97, 47, 99, 47, 100]) = true := by rw [Lib.toList_data]; rfl
  have hq2 : ((str [46, 46, 47, 46, 46, 47, 120]).toList == [46, 46, 47, 46, 46, 47, 120]) = true := by rw [Lib.toList_data]; rfl
  have hto := (To_any w1 m HM1 (by omega) ⟨#[97, 47, 120]⟩ ⟨#[97, 47, 98, 47, 99]⟩ (by decide) (by decide))
  rw [HT.out] at hto
  have HTO := Lib.hid hto
  clear hto
  go_wp2_with (go_at_call 9; go_must (refine HTO.out.mono ?_); rintro e w2 ⟨rfl, B2⟩)
  go_ret
  exact ⟨rfl, B01.trans (B2.mono hw1)⟩

theorem RJoin_yes (w : World) (v : Value) (ss : List ByteArray) (q : List UInt8) (hv : Strs w v ss) (hs : tot ss ≤ 1000000) (h : Hid (Pt.join (ss.map bs) = some q)) :
    Calls Tryd.prog 6 #[v] w fun e w' => e = .returned (.tuple #[.string (str q), .bool true]) ∧ Below w.heap.size w w' := by
  rcases hv with ⟨rfl, a, c, rfl⟩ | ⟨b, o, c, rfl, hb, hc⟩
  · obtain rfl : [46] = q := by have := h.out; simpa [Pt.join, Pt.go, Pt.text, Pt.inter] using this
    go_enter Tryd.func6, Tryd.ntmps6
    go_wp2
    go_loopw [4, 5] (fun v i wr => v = .slice none 0 0 ∧ i = .int .i64 0 ∧ wr = w) (fun _ _ _ => 0)
    case atStart => exact ⟨rfl, rfl, rfl⟩
    case round =>
      obtain ⟨rfl, rfl, rfl⟩ := hrel
      go_wp2_with (go_at_call 17; go_must (refine (Text0_any _ _ _).mono ?_); rintro e w' ⟨rfl, rfl⟩)
      go_ret2
      exact ⟨rfl, Below.refl _ _⟩
  · refine (RJoinB_any w b o c ss hb hc hs).mono ?_
    rw [h.out]
    rintro e w' ⟨hB, rfl⟩
    exact ⟨rfl, hB⟩
theorem RJoin_no (w : World) (v : Value) (ss : List ByteArray) (hv : Strs w v ss) (hs : tot ss ≤ 1000000) (h : Hid (Pt.join (ss.map bs) = none)) :
    Calls Tryd.prog 6 #[v] w fun e w' => e = .returned (.tuple #[.string (str []), .bool false]) ∧ Below w.heap.size w w' := by
  rcases hv with ⟨rfl, a, c, rfl⟩ | ⟨b, o, c, rfl, hb, hc⟩
  · have := h.out; simp [Pt.join, Pt.go] at this
  · refine (RJoinB_any w b o c ss hb hc hs).mono ?_
    rw [h.out]
    rintro e w' ⟨hB, rfl⟩
    exact ⟨rfl, hB⟩

theorem Clean_is (w : World) (s : ByteArray) (b : Bool) (hb : Hid (isPath (bs s) = b)) (hs : s.size ≤ 140737488355326) :
    Calls Tryd.prog 7 #[.string s] w fun e w' => e = .returned (.bool b) ∧ Below w.heap.size w w' := by
  have := Clean_any w s hs
  rwa [hb.out] at this

theorem isPath_none {s : List UInt8} (h : Pt.join [s] = none) : isPath s = false := by unfold isPath; rw [h]; rfl
theorem isPath_some {s q : List UInt8} (h : Pt.join [s] = some q) : isPath s = decide (q = s) := by unfold isPath; rw [h]; simp

theorem tot_one (s : ByteArray) : tot [s] = s.size + 1 := by simp [tot]
theorem tot_take_drop (ss : List ByteArray) (k : Nat) : tot ss = tot (ss.take k) + tot (ss.drop k) := by rw [← tot_append, List.take_append_drop]
theorem tot_take_one {ss : List ByteArray} {k : Nat} (h : k < ss.length) : tot (ss.take (k + 1)) = tot (ss.take k) + ((ss[k]?.getD ByteArray.empty).size + 1) := by
  rw [take_one h, tot_snoc]

theorem goB_len : ∀ (ss : List ByteArray) (p q : List UInt8), Pt.goB p (ss.map bs) = some q → q.length ≤ p.length + tot ss
  | [], p, q, h => by cases h; simp
  | s :: r, p, q, h => by
    rw [List.map_cons, Pt.goB] at h
    cases hw : Pt.walkB p (Pt.pieces (bs s)) with
    | none => rw [hw] at h; cases h
    | some o =>
      rw [hw] at h
      have h1 := walkB_len _ _ _ hw
      rw [cost_pieces, bs_len] at h1
      have h2 := goB_len r o q h
      rw [tot_cons]; omega
theorem join_len {ss : List ByteArray} {q : List UInt8} (h : Pt.join (ss.map bs) = some q) : q.length ≤ tot ss + 1 := by
  rw [Pt.join_eq] at h
  cases hg : Pt.goB [] (ss.map bs) with
  | none => rw [hg] at h; cases h
  | some p =>
    have := goB_len ss [] p hg
    rw [hg] at h
    simp only [Option.map_some, Option.some.injEq] at h
    subst h
    split
    · simp
    · simp at this ⊢; omega

/-- Any texts, joined. -/
structure Texts (w : World) (v : Value) (ss : List ByteArray) : Prop where
  strs : Strs w v ss
  small : ∀ s ∈ ss, s.size ≤ 140737488355328
  len : ss.length ≤ 9223372036854775807

set_option maxHeartbeats 2000000 in
theorem PathJoinsB_any (w : World) (m : Int) (hm : w.cell? ⟨0, 0, none⟩ = some (.int .i64 m)) (hw0 : 0 < w.heap.size) (b o c : Nat) (ss : List ByteArray)
    (hlt : b < w.heap.size) (hc : ∀ j, j < ss.length → w.cell? ⟨b, o + j, none⟩ = some (.string (ss[j]?.getD ByteArray.empty))) (hsm : ∀ s ∈ ss, s.size ≤ 140737488355328) (hln : ss.length ≤ 50) :
    Calls Tryd.prog 3 #[.slice (some ⟨b, o, none⟩) ss.length c] w fun e w' => e = .returned (.bool true) ∧ Below w.heap.size w w' := by
  have HM := Lib.hid hm
  have HC := Lib.hid hc
  have HS := Lib.hid hsm
  clear hm hc hsm
  have hl := Lib.hid (lives_any w m HM.out hw0)
  go_enter Tryd.func3, Tryd.ntmps3
  go_wp2_with (go_at_call 5; go_must (refine hl.out.mono ?_); rintro e w1 ⟨rfl, B1⟩)
  go_loopw [3, 22] (fun n i wr => ∃ k : Nat, k ≤ ss.length ∧ i = .int .i64 k ∧ n = .int .i64 ((tot (ss.take k) : Int) - k) ∧ tot (ss.take k) ≤ 1000 + k ∧ Below w.heap.size w wr) (fun _ i _ => ss.length - (intOf i).toNat)
  case atStart => exact ⟨0, Nat.zero_le _, rfl, rfl, Nat.zero_le _, B1⟩
  case round =>
    obtain ⟨k, hk, rfl, rfl, ht, hB⟩ := hrel
    have hlk : k ≤ tot (ss.take k) := by
      have := len_tot (ss.take k)
      rw [List.length_take] at this; omega
    by_cases hlt2 : k < ss.length
    · have hcell := (hB.cell (p := ⟨b, o + k, none⟩) hlt).trans (HC.out k hlt2)
      have ht1 := tot_take_one hlt2
      have hx := HS.out (ss[k]?.getD ByteArray.empty) (by rw [List.getElem?_eq_getElem hlt2]; exact List.getElem_mem hlt2)
      generalize ss[k]?.getD ByteArray.empty = x at *
      obtain ⟨n, hn⟩ : ∃ n : Nat, Hid (tot (ss.take k) = n + k) := ⟨tot (ss.take k) - k, Lib.hid (by omega)⟩
      rw [hn.out] at ht hlk ht1
      rw [hn.out, show ((n + k : Nat) : Int) - (k : Int) = (n : Int) by omega]
      have ht2 := Lib.hid ht1
      clear ht1
      by_cases hbig : 1000 < n + x.size
      · go_wp2
        go_ret
        exact ⟨rfl, hB⟩
      · have hss := strs_one wr x 1
        have hBa : Below w.heap.size w (wr.alloc (.cells #[.string x] 9)) := hB.alloc hB.size _
        cases hj : Pt.join [bs x] with
        | none =>
          have HN : Hid (Pt.join ([x].map bs) = none) := Lib.hid hj
          have HP : Hid (isPath (bs x) = false) := Lib.hid (isPath_none hj)
          clear hj
          go_wp2_with (first
            | (go_at_call 6; go_must (refine (RJoin_no _ _ [x] hss (by rw [tot_one]; omega) HN).mono ?_); rintro e w2 ⟨rfl, B2⟩; have hB2 := hBa.trans (B2.mono hBa.size))
            | (go_at_call 7; go_must (refine (Clean_is _ x false HP (by omega)).mono ?_); rintro e w3 ⟨rfl, B3⟩; have hB3 := hB2.trans (B3.mono hB2.size)))
          go_roundw
          case rel => exact ⟨k + 1, hlt2, by go_num, by rw [ht2.out]; congr 1; omega, by rw [ht2.out]; omega, hB3⟩
          case measure => simp [intOf] <;> omega
        | some q =>
          have HN : Hid (Pt.join ([x].map bs) = some q) := Lib.hid hj
          by_cases hq : q = bs x
          · have HP : Hid (isPath (bs x) = true) := Lib.hid (by rw [isPath_some hj, hq]; simp)
            have hqb : ((str q).toList == x.toList) = true := by rw [Lib.toList_data, Lib.toList_data, hq, beq_iff_eq]; rfl
            clear hj hq
            go_wp2_with (first
              | (go_at_call 6; go_must (refine (RJoin_yes _ _ [x] q hss (by rw [tot_one]; omega) HN).mono ?_); rintro e w2 ⟨rfl, B2⟩; have hB2 := hBa.trans (B2.mono hBa.size))
              | (go_at_call 7; go_must (refine (Clean_is _ x true HP (by omega)).mono ?_); rintro e w3 ⟨rfl, B3⟩; have hB3 := hB2.trans (B3.mono hB2.size)))
            go_roundw
            case rel => exact ⟨k + 1, hlt2, by go_num, by rw [ht2.out]; congr 1; omega, by rw [ht2.out]; omega, hB3⟩
            case measure => simp [intOf] <;> omega
          · have HP : Hid (isPath (bs x) = false) := Lib.hid (by rw [isPath_some hj]; simpa using hq)
            have hqb : ((str q).toList == x.toList) = false := by rw [Lib.toList_data, Lib.toList_data, beq_eq_false_iff_ne]; exact hq
            clear hj hq
            go_wp2_with (first
              | (go_at_call 6; go_must (refine (RJoin_yes _ _ [x] q hss (by rw [tot_one]; omega) HN).mono ?_); rintro e w2 ⟨rfl, B2⟩; have hB2 := hBa.trans (B2.mono hBa.size))
              | (go_at_call 7; go_must (refine (Clean_is _ x false HP (by omega)).mono ?_); rintro e w3 ⟨rfl, B3⟩; have hB3 := hB2.trans (B3.mono hB2.size)))
            go_roundw
            case rel => exact ⟨k + 1, hlt2, by go_num, by rw [ht2.out]; congr 1; omega, by rw [ht2.out]; omega, hB3⟩
            case measure => simp [intOf] <;> omega
    · obtain rfl : k = ss.length := by omega
      rw [List.take_length] at ht hlk
      have hv : Strs wr (.slice (some ⟨b, o, none⟩) ss.length c) ss := .inr ⟨b, o, c, rfl, Nat.lt_of_lt_of_le hlt hB.size, fun j hj => (hB.cell (p := ⟨b, o + j, none⟩) hlt).trans (HC.out j hj)⟩
      cases hj : Pt.join (ss.map bs) with
      | none =>
        have HN := Lib.hid hj
        have he : (str []).toList.isEmpty = true := by rw [Lib.toList_data]; rfl
        clear hj
        go_wp2_with (first
          | (go_at_call 8; go_must (refine (Join_no _ _ ss hv (by omega) (by omega) HN).mono ?_); rintro e w2 ⟨rfl, B2⟩; have hv2 := hv.below B2; have hB2 := hB.trans (B2.mono hB.size))
          | (go_at_call 6; go_must (refine (RJoin_no _ _ ss hv2 (by omega) HN).mono ?_); rintro e w3 ⟨rfl, B3⟩; have hB3 := hB2.trans (B3.mono hB2.size)))
        go_ret
        exact ⟨rfl, hB3⟩
      | some q =>
        have HN := Lib.hid hj
        have HP : Hid (isPath (bs (str q)) = true) := Lib.hid (by rw [bs_str, isPath_some (Pt.join_clean hj)]; simp)
        have hql : (str q).size ≤ 140737488355326 := by
          have := join_len hj
          rw [← bs_len, bs_str]; omega
        clear hj
        go_wp2_with (first
          | (go_at_call 8; go_must (refine (Join_yes _ _ ss q hv (by omega) (by omega) HN).mono ?_); rintro e w2 ⟨rfl, B2⟩; have hv2 := hv.below B2; have hB2 := hB.trans (B2.mono hB.size))
          | (go_at_call 6; go_must (refine (RJoin_yes _ _ ss q hv2 (by omega) HN).mono ?_); rintro e w3 ⟨rfl, B3⟩; have hB3 := hB2.trans (B3.mono hB2.size))
          | (go_at_call 7; go_must (refine (Clean_is _ (str q) true HP hql).mono ?_); rintro e w4 ⟨rfl, B4⟩; have hB4 := hB3.trans (B4.mono hB3.size)))
        go_ret
        exact ⟨rfl, hB4⟩

set_option maxHeartbeats 1000000 in
/-- More than fifty: only the chapter's example. -/
theorem PathJoinsL_any (w : World) (m : Int) (hm : w.cell? ⟨0, 0, none⟩ = some (.int .i64 m)) (hw0 : 0 < w.heap.size) (a : Option Addr) (n c : Nat) (hn : 50 < n) :
    Calls Tryd.prog 3 #[.slice a n c] w fun e w' => e = .returned (.bool true) ∧ Below w.heap.size w w' := by
  have HM := Lib.hid hm
  clear hm
  go_enter Tryd.func3, Tryd.ntmps3
  go_wp2_with fail
  refine (lives_any w m HM.out hw0).mono ?_
  rintro e w1 ⟨rfl, B1⟩
  have HM1 : w1.cell? ⟨0, 0, none⟩ = some (.int .i64 m) := (B1.cell (p := ⟨0, 0, none⟩) hw0).trans HM.out
  have hl := Lib.hid (lives_any w1 m HM1 (Nat.lt_of_lt_of_le hw0 B1.size))
  go_wp2_with (go_at_call 5; go_must (refine hl.out.mono ?_); rintro e w2 ⟨rfl, B2⟩)
  go_ret
  exact ⟨rfl, B1.trans (B2.mono B1.size)⟩

set_option maxHeartbeats 1000000 in
/-- No text. -/
theorem PathJoins0_any (w : World) (m : Int) (hm : w.cell? ⟨0, 0, none⟩ = some (.int .i64 m)) (hw0 : 0 < w.heap.size) (a : Option Addr) (c : Nat) :
    Calls Tryd.prog 3 #[.slice a 0 c] w fun e w' => e = .returned (.bool true) ∧ Below w.heap.size w w' := by
  have HM := Lib.hid hm
  clear hm
  have hl := Lib.hid (lives_any w m HM.out hw0)
  go_enter Tryd.func3, Tryd.ntmps3
  go_wp2_with (go_at_call 5; go_must (refine hl.out.mono ?_); rintro e w1 ⟨rfl, B1⟩)
  go_loopw [22] (fun i wr => i = .int .i64 0 ∧ Below w.heap.size w wr) (fun _ _ => 0)
  case atStart => exact ⟨rfl, B1⟩
  case round =>
    obtain ⟨rfl, hB⟩ := hrel
    have hv : Strs wr (.slice a 0 c) [] := .inl ⟨rfl, a, c, rfl⟩
    have HN : Hid (Pt.join (([] : List ByteArray).map bs) = some [46]) := Lib.hid rfl
    have HP : Hid (isPath (bs (str [46])) = true) := Lib.hid (by decide +kernel)
    go_wp2_with (first
      | (go_at_call 8; go_must (refine (Join_yes _ _ [] [46] hv (by simp) (by simp [tot]) HN).mono ?_); rintro e w2 ⟨rfl, B2⟩; have hv2 := hv.below B2; have hB2 := hB.trans (B2.mono hB.size))
      | (go_at_call 6; go_must (refine (RJoin_yes _ _ [] [46] hv2 (by simp [tot]) HN).mono ?_); rintro e w3 ⟨rfl, B3⟩; have hB3 := hB2.trans (B3.mono hB2.size))
      | (go_at_call 7; go_must (refine (Clean_is _ (str [46]) true HP (by decide +kernel)).mono ?_); rintro e w4 ⟨rfl, B4⟩; have hB4 := hB3.trans (B4.mono hB3.size)))
    go_ret
    exact ⟨rfl, hB4⟩
end Go.Proofs.YtjpkliaiicphbaaDoor
