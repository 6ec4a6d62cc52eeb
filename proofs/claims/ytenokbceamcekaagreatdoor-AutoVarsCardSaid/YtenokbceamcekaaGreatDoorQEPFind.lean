/-
  package text: words, findstring, subst.
-/
import Derived.Lib.CountLaws
import Derived.Lib.SplitLaws
import Derived.Lib.Replace
import Derived.Lib.ItoaMem
import Derived.Test.YtenokbceamcekaaGreatDoorQEPBase
import Derived.Test.YtenokbceamcekaaGreatDoorQECall2
namespace Go.Proofs.YtenokbceamcekaaGreatDoor.Ew
open Go.RowKit Go.Proofs.YtenokbceamcekaaGreatDoor Go.Proofs.YtenokbceamcekaaGreatDoor.Ww Go.Proofs.YtenokbceamcekaaGreatDoor.Tw
set_option maxRecDepth 100000

theorem dec_digits : ∀ u : Nat, Lib.decDigits u = Ep.digitsA u := by
  intro u
  induction u using Nat.strongRecOn with
  | ind u ih =>
    unfold Lib.decDigits Ep.digitsA
    by_cases h : u < 10
    · rw [dif_pos h, if_pos h]
    · rw [dif_neg h, if_neg h, ih _ (by omega)]
set_option maxHeartbeats 2000000 in
theorem Pcount_any (w : World) (p : ByteArray) (h0 : p.size ≤ 9000) (hG : GM w) : Calls Tryz.prog 62 #[.string p] w fun e w' => e = .returned (.string (str (Ep.digitsA (wordsS p).length))) ∧ Below w.heap.size w w' := by
  have HL := Lib.hid fun W => PSplit_any W p (by omega)
  have hwl := words_few p
  have HI : Hid (∀ W, Below w.heap.size w W → Calls Tryz.prog 93 #[.int .i64 ((wordsS p).length : Int)] W fun e w' => e = .returned (.string (str (Ep.digitsA (wordsS p).length))) ∧ Below W.heap.size W w') := Lib.hid fun W hW => by
    refine (Tryz.strconv_Itoa ((wordsS p).length : Int) (by omega) (by omega) W (hG.below hW).tab).mono ?_
    rintro e w' ⟨rfl, k, os, rfl⟩
    refine ⟨?_, ⟨rfl, rfl, rfl, by show W.heap.size ≤ (W.heap ++ os).size; rw [Array.size_append]; omega, fun _ hj => Sort.heap_grow_old (W.drewN k) os hj⟩⟩
    rw [Lib.itoa_nonneg, dec_digits]; rfl
  clear hG
  generalize wordsS p = L at *
  go_enter Tryz.func62, Tryz.ntmps62
  go_wp2_with fail
  refine (HL.out _).mono ?_
  rintro e w1 ⟨a1, c1, rfl, HO, B1⟩
  have HB := Lib.hid B1
  clear B1
  go_wp2_with fail
  refine (HI.out _ HB.out).mono ?_
  rintro e w2 ⟨rfl, B2⟩
  go_wp2_with fail
  go_ret
  exact ⟨rfl, HB.out.trans (B2.mono HB.out.size)⟩
set_option maxHeartbeats 2000000 in
theorem Pfindstring_any (w : World) (a b : ByteArray) (hb : b.size ≤ 9000) (hG : GM w) : Calls Tryz.prog 57 #[.string a, .string b] w fun e w' => e = .returned (.string (if Ep.insideA (by8 a) (by8 b) = true then a else ⟨#[]⟩)) ∧ Below w.heap.size w w' := by
  obtain ⟨m, hm⟩ := hG.max
  have HC := Lib.hid (Tryz.strings_Contains b a m w (by omega) hm)
  have e0 : Lib.contains b.data.toList a.data.toList = Ep.insideA (by8 a) (by8 b) := rfl
  rw [e0] at HC
  clear e0 hm hG
  generalize Ep.insideA (by8 a) (by8 b) = q at *
  go_enter Tryz.func57, Tryz.ntmps57
  cases q
  · go_wp2_with fail
    refine HC.out.mono ?_
    rintro e w' ⟨rfl, rfl⟩
    go_wp2_with fail
    go_ret
    exact ⟨rfl, Below.refl _ _⟩
  · go_wp2_with fail
    refine HC.out.mono ?_
    rintro e w' ⟨rfl, rfl⟩
    go_wp2_with fail
    go_ret
    exact ⟨rfl, Below.refl _ _⟩

/-- Nothing is found among the first bytes: they stay. -/
theorem subst_skip (a b : List UInt8) : ∀ (i : Nat) (c : List UInt8) (f : Nat), c.length ≤ f → i ≤ c.length → (∀ j, j < i → Lib.occAt c a j = false) → Ep.substGo a b f c = c.take i ++ Ep.substGo a b (f - i) (c.drop i)
  | 0, c, f, _, _, _ => by simp
  | i + 1, [], f, _, hi, _ => by simp at hi
  | i + 1, x :: c, 0, hf, _, _ => by simp at hf
  | i + 1, x :: c, f + 1, hf, hi, hn => by
    have h0 : a.isPrefixOf (x :: c) = false := hn 0 (Nat.succ_pos _)
    rw [Ep.substGo_cons, if_neg (by rw [h0]; decide), subst_skip a b i c f (by simpa using hf) (by simpa using hi) (fun j hj => by have := hn (j + 1) (by omega); exact this)]
    simp
theorem subst_replace (a b : List UInt8) (ha : a ≠ []) : ∀ (n : Nat) (c : List UInt8), c.length ≤ n → Lib.replaceK a b (Lib.count c a) c = Ep.substGo a b c.length c := by
  intro n
  induction n with
  | zero =>
    intro c hc
    obtain rfl : c = [] := List.length_eq_zero_iff.1 (by omega)
    have : Lib.count [] a = 0 := Lib.count_miss (Lib.index_none fun j hj => by
      obtain rfl : j = 0 := by simpa using hj
      cases a with
      | nil => exact absurd rfl ha
      | cons x r => rfl)
    rw [this]; rfl
  | succ n ih =>
    intro c hc
    rcases Lib.index_spec c a with ⟨h, hn⟩ | ⟨i, h, hi, ho, hn⟩
    · rw [Lib.count_miss h]
      rw [subst_skip a b c.length c c.length (Nat.le_refl _) (Nat.le_refl _) (fun j hj => hn j (by omega))]
      rw [List.take_of_length_le (Nat.le_refl _), List.drop_of_length_le (Nat.le_refl _), Ep.substGo_nil, List.append_nil]; rfl
    · have la : 0 < a.length := List.length_pos_iff.2 ha
      have hr := Lib.index_room c a (by omega)
      have hr2 : i + a.length ≤ c.length := by omega
      rw [Lib.count_hit ha h, Nat.add_comm, Lib.replaceK_hit _ _ _ _ _ h, ih _ (by rw [List.length_drop]; omega)]
      rw [subst_skip a b i c c.length (Nat.le_refl _) hi (fun j hj => hn j hj)]
      obtain ⟨f, hf⟩ : ∃ f, c.length - i = f + 1 := ⟨c.length - i - 1, by omega⟩
      have ho2 : a.isPrefixOf (c.drop i) = true := ho
      rw [hf, List.append_assoc]
      congr 1
      have hlt : i < c.length := by omega
      rw [List.drop_eq_getElem_cons hlt] at ho2 ⊢
      rw [Ep.substGo_cons, if_pos ho2, ← List.drop_eq_getElem_cons hlt, List.drop_drop]
      congr 1
      exact Ep.substGo_more a b ha _ _ _ (Nat.le_refl _) (by rw [List.length_drop]; omega)
theorem subst_same (a : List UInt8) (ha : a ≠ []) : ∀ (f : Nat) (c : List UInt8), c.length ≤ f → Ep.substGo a a f c = c
  | _, [], _ => Ep.substGo_nil _ _ _
  | 0, _ :: _, h => by simp at h
  | f + 1, x :: c, h => by
    have la : 0 < a.length := List.length_pos_iff.2 ha
    rw [Ep.substGo_cons]
    by_cases hp : a.isPrefixOf (x :: c) = true
    · rw [if_pos hp, subst_same a ha f _ (by rw [List.length_drop, List.length_cons]; simp at h; omega)]
      obtain ⟨t, ht⟩ := List.isPrefixOf_iff_prefix.1 hp
      rw [← ht, List.drop_left']
      rfl
    · rw [if_neg hp, subst_same a ha f c (by simpa using h)]
theorem subst_all (a b c : List UInt8) (ha : a ≠ []) : Lib.replaceAll c a b = Ep.substA a b c := by
  unfold Lib.replaceAll Lib.replace Ep.substA
  rw [if_neg ha]
  by_cases h : a = b
  · subst h
    rw [if_pos (beq_self_eq_true _), subst_same a ha _ _ (Nat.le_refl _)]
  · rw [if_neg (fun e => h (beq_iff_eq.1 e))]
    unfold Lib.replaceNum
    rw [if_pos (.inl (by omega))]
    exact subst_replace a b ha _ c (Nat.le_refl _)
set_option maxHeartbeats 2000000 in
theorem Psubst_any (w : World) (a b c : ByteArray) (hb : b.size ≤ 9000) (hc : c.size ≤ 9000) (hG : GM w) : Calls Tryz.prog 52 #[.string a, .string b, .string c] w fun e w' => e = .returned (.string (str (Ep.substA (by8 a) (by8 b) (by8 c)))) ∧ Below w.heap.size w w' := by
  by_cases h0 : by8 a = []
  · have hz : (a.toList == []) = true := by rw [toList_by8, h0]; rfl
    have HE : Hid (str (Ep.substA (by8 a) (by8 b) (by8 c)) = c ++ b) := Lib.hid (by
      unfold Ep.substA
      rw [if_pos h0]
      refine by8_ext ?_
      rw [by8_str]
      show _ = (c ++ b).data.toList
      simp [by8])
    rw [HE.out]
    clear h0 hG
    have hsz : c.size + b.size ≤ 18000 := by omega
    go_enter Tryz.func52, Tryz.ntmps52
    go_wp2_with fail
    go_ret
    exact ⟨rfl, Below.refl _ _⟩
  · have hz : (a.toList == []) = false := by rw [toList_by8]; exact beq_eq_false_iff_ne.2 h0
    obtain ⟨m, hm⟩ := hG.max
    have hp : 1 ≤ a.size := by rw [← by8_len]; exact List.length_pos_iff.2 h0
    have HC : Hid (Calls Tryz.prog 83 #[.string c, .string a, .string b] w fun e w' => e = .returned (.string (str (Ep.substA (by8 a) (by8 b) (by8 c)))) ∧ Below w.heap.size w w') := Lib.hid (by
      have hcl := Lib.countB_le a hp c.size c (Nat.le_refl _)
      refine (Tryz.strings_ReplaceAll c a b m w (by omega) hm hp (by
        have h2 := Nat.mul_le_mul (Nat.le_trans hcl hc) hb
        omega)).mono ?_
      rintro e w' ⟨rfl, B⟩
      exact ⟨congrArg (fun l => Ending.returned (.string (str l))) (subst_all (by8 a) (by8 b) (by8 c) h0), B⟩)
    clear h0 hG hm
    generalize str (Ep.substA (by8 a) (by8 b) (by8 c)) = r at *
    go_enter Tryz.func52, Tryz.ntmps52
    go_wp2_with fail
    refine HC.out.mono ?_
    rintro e w1 ⟨rfl, B1⟩
    go_wp2_with fail
    go_ret
    exact ⟨rfl, B1⟩
end Go.Proofs.YtenokbceamcekaaGreatDoor.Ew
