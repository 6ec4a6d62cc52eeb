/-
  package text: name, dir, ending, base.
-/
import Derived.Test.YtenokbceamcekaaGreatDoorQEPBase
import Derived.Test.YtenokbceamcekaaGreatDoorQESmall
import Derived.Test.YtenokbceamcekaaGreatDoorQEOne
namespace Go.Proofs.YtenokbceamcekaaGreatDoor.Ew
open Go.RowKit Go.Proofs.YtenokbceamcekaaGreatDoor Go.Proofs.YtenokbceamcekaaGreatDoor.Ww Go.Proofs.YtenokbceamcekaaGreatDoor.Tw
set_option maxRecDepth 100000

theorem lastI_is (s : ByteArray) (c : UInt8) : Lib.lastIndexByte s (c.toNat : Int) = Lib.Pa.lastIndexByte (by8 s) c := by
  unfold Lib.lastIndexByte Lib.Pa.lastIndexByte
  rw [by8_len]
  have key : ∀ k, k ≤ s.size → Lib.lastIdx s (c.toNat : Int) k = Lib.Pa.lastIdx (by8 s) c k := by
    intro k
    induction k with
    | zero => intro _; rfl
    | succ k ih =>
      intro h
      unfold Lib.lastIdx Lib.Pa.lastIdx
      have e : s.data[k]! = s[k] := by rw [getElem!_pos s.data k (show k < s.data.size from h)]; rfl
      rw [by8_get (by omega), e, ih (by omega)]
      by_cases hc : s[k] = c
      · rw [if_pos (by rw [hc]), if_pos (by rw [hc])]
      · rw [if_neg (fun h' => hc (UInt8.toNat_inj.1 (by omega))), if_neg (fun h' => hc (Option.some.inj h'))]
  exact key _ (Nat.le_refl _)
theorem PLast_any (w : World) (s : ByteArray) (c : UInt8) (hs : s.size ≤ 1000000) : Calls Tryz.prog 96 #[.string s, .int .u8 (c.toNat : Int)] w fun e w' => e = .returned (.int .i64 (Lib.Pa.lastIndexByte (by8 s) c)) ∧ w = w' := by
  refine (Tryz.strings_LastIndexByte s (c.toNat : Int) (by omega) w).mono ?_
  rintro e w' ⟨rfl, rfl⟩
  exact ⟨by rw [lastI_is], rfl⟩
set_option maxHeartbeats 1000000 in
theorem Pname_any (w : World) (s : ByteArray) (hs : s.size ≤ 1000000) : Calls Tryz.prog 69 #[.string s] w fun e w' => e = .returned (.string (s.extract (Ep.nameA (by8 s)) s.size)) ∧ w = w' := by
  have HC := Lib.hid (PLast_any w s 47 hs)
  have HN : Hid (Ep.nameA (by8 s) = (Lib.Pa.lastIndexByte (by8 s) 47 + 1).toNat) := Lib.hid rfl
  have hb := Lib.Pa.lastIndexByte_bounds (by8 s) 47
  rw [by8_len] at hb
  rw [HN.out]
  generalize Lib.Pa.lastIndexByte (by8 s) 47 = i at *
  obtain ⟨n, rfl⟩ : ∃ n : Nat, i = (n : Int) - 1 := ⟨(i + 1).toNat, by omega⟩
  have h1 : (0 : Int) ≤ (n : Int) := by omega
  have h2 : (n : Int) ≤ (s.size : Int) := by omega
  have h3 : IntKind.i64.wrap ((n : Int) - 1 + 1) = (n : Int) := by rw [IntWalk.i64_in _ (by omega)]; omega
  have h4 : (n : Int) - 1 + 1 = (n : Int) := by omega
  have HE : Hid (((n : Int) - 1 + 1).toNat = n) := Lib.hid (by omega)
  rw [HE.out]
  clear hb HN
  go_enter Tryz.func69, Tryz.ntmps69
  go_wp2_with fail
  refine HC.out.mono ?_
  rintro e w' ⟨rfl, rfl⟩
  go_wp2_with fail
  go_ret
  exact ⟨rfl, rfl⟩

/-- A text without an end of it. -/
theorem suffix_cut (s : ByteArray) (n : Nat) (h : n ≤ s.size) : (⟨(Lib.trimSuffix s.data.toList (s.extract n s.size).data.toList).toArray⟩ : ByteArray) = s.extract 0 n := by
  have hd : (s.extract n s.size).data.toList = (by8 s).drop n := by
    show by8 (s.extract n s.size) = _
    rw [by8_mid, List.take_of_length_le (by rw [List.length_drop, by8_len]; exact Nat.le_refl _)]
  refine by8_ext ?_
  show Lib.trimSuffix (by8 s) (s.extract n s.size).data.toList = by8 (s.extract 0 n)
  rw [hd, by8_mid, List.drop_zero, Nat.sub_zero]
  unfold Lib.trimSuffix
  rw [if_pos (by unfold Lib.hasSuffix; exact List.isSuffixOf_iff_suffix.2 (List.drop_suffix _ _)), List.length_drop, by8_len]
  congr 1; omega
set_option maxHeartbeats 1000000 in
theorem Pdir_any (w : World) (x : ByteArray) (hx : x.size ≤ 1000000) : Calls Tryz.prog 68 #[.string x] w fun e w' => e = .returned (.string (oneS 12 [] x)) ∧ Below w.heap.size w w' := by
  have HN := Lib.hid fun W => Pname_any W x hx
  have HE : Hid (oneS 12 [] x = if Ep.nameA (by8 x) = 0 then ⟨#[46, 47]⟩ else x.extract 0 (Ep.nameA (by8 x))) := Lib.hid rfl
  have hnl := Ep.name_le (by8 x)
  rw [by8_len] at hnl
  have HT : Hid (∀ W, Calls Tryz.prog 20 #[.string x, .string (x.extract (Ep.nameA (by8 x)) x.size)] W fun e w' => e = .returned (.string (x.extract 0 (Ep.nameA (by8 x)))) ∧ W = w') := Lib.hid fun W => by
    refine (Tryz.strings_TrimSuffix x (x.extract (Ep.nameA (by8 x)) x.size) W (by omega)).mono ?_
    rintro e w' ⟨rfl, rfl⟩
    exact ⟨by rw [suffix_cut _ _ hnl], rfl⟩
  generalize Ep.nameA (by8 x) = n at *
  have hb : ((x.extract 0 n).toList == []) = decide (n = 0) := by
    rw [toList_by8, by8_mid, List.drop_zero, Nat.sub_zero]
    by_cases h0 : n = 0
    · subst h0; rfl
    · rw [decide_eq_false h0, beq_eq_false_iff_ne]
      intro h
      have := congrArg List.length h
      rw [List.length_take, by8_len, List.length_nil] at this; omega
  generalize x.extract n x.size = y at *
  by_cases h0 : n = 0
  · rw [decide_eq_true h0] at hb
    have HE2 := Lib.hid (HE.out.trans (if_pos h0))
    generalize x.extract 0 n = z at *
    go_enter Tryz.func68, Tryz.ntmps68
    go_wp2_with fail
    refine (HN.out _).mono ?_
    rintro e w' ⟨rfl, rfl⟩
    go_wp2_with fail
    refine (HT.out _).mono ?_
    rintro e w' ⟨rfl, rfl⟩
    go_wp2_with fail
    go_ret
    rw [HE2.out]
    exact ⟨rfl, Below.refl _ _⟩
  · rw [decide_eq_false h0] at hb
    have HE2 := Lib.hid (HE.out.trans (if_neg h0))
    generalize x.extract 0 n = z at *
    go_enter Tryz.func68, Tryz.ntmps68
    go_wp2_with fail
    refine (HN.out _).mono ?_
    rintro e w' ⟨rfl, rfl⟩
    go_wp2_with fail
    refine (HT.out _).mono ?_
    rintro e w' ⟨rfl, rfl⟩
    go_wp2_with fail
    go_ret
    rw [HE2.out]
    exact ⟨rfl, Below.refl _ _⟩
theorem Pnotdir_any (w : World) (x : ByteArray) (hx : x.size ≤ 1000000) : Calls Tryz.prog 69 #[.string x] w fun e w' => e = .returned (.string (oneS 13 [] x)) ∧ Below w.heap.size w w' :=
  (Pname_any w x hx).mono fun _ _ ⟨he, hw⟩ => ⟨he, hw ▸ Below.refl _ _⟩

/-- Where the last point of a path's name stands. -/
theorem last_drop (l : List UInt8) (c : UInt8) (n : Nat) (h : n ≤ l.length) : Lib.Pa.lastIndexByte (l.drop n) c = if (n : Int) ≤ Lib.Pa.lastIndexByte l c then Lib.Pa.lastIndexByte l c - n else -1 := by
  have key : ∀ k, n + k ≤ l.length → Lib.Pa.lastIdx (l.drop n) c k = if (n : Int) ≤ Lib.Pa.lastIdx l c (n + k) then Lib.Pa.lastIdx l c (n + k) - n else -1 := by
    intro k
    induction k with
    | zero =>
      intro _
      have := (Lib.Pa.lastIdx_bounds l c n).2
      rw [if_neg (by rw [Nat.add_zero]; omega)]; rfl
    | succ k ih =>
      intro hk
      have e : Lib.Pa.lastIdx l c (n + (k + 1)) = if l[n + k]? = some c then ((n + k : Nat) : Int) else Lib.Pa.lastIdx l c (n + k) := rfl
      have e2 : Lib.Pa.lastIdx (l.drop n) c (k + 1) = if (l.drop n)[k]? = some c then (k : Int) else Lib.Pa.lastIdx (l.drop n) c k := rfl
      rw [e, e2, List.getElem?_drop]
      by_cases hc : l[n + k]? = some c
      · rw [if_pos hc, if_pos hc, if_pos (by omega)]; omega
      · rw [if_neg hc, if_neg hc, ih (by omega)]
  unfold Lib.Pa.lastIndexByte
  have e3 : n + (l.drop n).length = l.length := by rw [List.length_drop]; omega
  rw [key _ (by omega), e3]
theorem ext_ext (x : ByteArray) (n i : Nat) : (x.extract n x.size).extract i (x.size - n) = x.extract (n + i) x.size := by
  refine by8_ext ?_
  rw [by8_mid, by8_mid, by8_mid, List.take_of_length_le (l := (by8 x).drop n) (by rw [List.length_drop, by8_len]; exact Nat.le_refl _), List.drop_drop]
  rw [show x.size - n - i = x.size - (n + i) by omega]
set_option maxHeartbeats 1000000 in
theorem Pend_any (w : World) (x : ByteArray) (hx : x.size ≤ 1000000) : Calls Tryz.prog 70 #[.string x] w fun e w' => e = .returned (.string (oneS 14 [] x)) ∧ Below w.heap.size w w' := by
  have HN := Lib.hid (Pname_any w x hx)
  have hnl := Ep.name_le (by8 x)
  rw [by8_len] at hnl
  have HE : Hid (oneS 14 [] x = x.extract (Ep.endA (by8 x)) x.size) := Lib.hid rfl
  have HEd : Hid (Ep.endA (by8 x) = if (Ep.nameA (by8 x) : Int) ≤ Lib.Pa.lastIndexByte (by8 x) 46 then (Lib.Pa.lastIndexByte (by8 x) 46).toNat else (by8 x).length) := Lib.hid rfl
  have hbd := Lib.Pa.lastIndexByte_bounds (by8 x) 46
  rw [by8_len] at hbd
  generalize Ep.nameA (by8 x) = n at *
  have hys : (x.extract n x.size).size = x.size - n := by rw [ByteArray.size_extract]; omega
  have HL : Hid (∀ W, Calls Tryz.prog 96 #[.string (x.extract n x.size), .int .u8 46] W fun e w' => e = .returned (.int .i64 (if (n : Int) ≤ Lib.Pa.lastIndexByte (by8 x) 46 then Lib.Pa.lastIndexByte (by8 x) 46 - n else -1)) ∧ W = w') := Lib.hid fun W => by
    refine (PLast_any W (x.extract n x.size) 46 (by omega)).mono ?_
    rintro e w' ⟨rfl, rfl⟩
    refine ⟨?_, rfl⟩
    rw [by8_mid, List.take_of_length_le (by rw [List.length_drop, by8_len]; exact Nat.le_refl _), last_drop _ _ _ (by rw [by8_len]; exact hnl)]
  by_cases h : (n : Int) ≤ Lib.Pa.lastIndexByte (by8 x) 46
  · rw [if_pos h] at HL HEd
    obtain ⟨i, hi⟩ : ∃ i : Nat, Lib.Pa.lastIndexByte (by8 x) 46 = ((n + i : Nat) : Int) := ⟨(Lib.Pa.lastIndexByte (by8 x) 46 - n).toNat, by omega⟩
    rw [hi] at HL HEd hbd
    have HX := Lib.hid (ext_ext x n i)
    have e1 : ((n + i : Nat) : Int) - (n : Int) = (i : Int) := by omega
    rw [e1] at HL
    have HE2 : Hid (oneS 14 [] x = x.extract (n + i) x.size) := Lib.hid (by rw [HE.out, HEd.out]; rfl)
    have hz : (x.extract n x.size).size ≤ x.size - n := by omega
    have hi1 : (0 : Int) ≤ (i : Int) := by omega
    have hi2 : (i : Int) ≤ ((x.extract n x.size).size : Int) := by omega
    have HZ := Lib.hid hys
    clear h hi hbd HEd HE hys e1
    generalize x.extract n x.size = y at *
    have hi3 : ¬ (i : Int) < 0 := by omega
    go_enter Tryz.func70, Tryz.ntmps70
    go_wp2_with fail
    refine HN.out.mono ?_
    rintro e w' ⟨rfl, rfl⟩
    go_wp2_with fail
    refine (HL.out _).mono ?_
    rintro e w' ⟨rfl, rfl⟩
    go_wp2_with fail
    go_ret
    rw [HE2.out, ← HX.out, ← HZ.out]
    exact ⟨rfl, Below.refl _ _⟩
  · rw [if_neg h] at HL HEd
    have HE2 : Hid (oneS 14 [] x = ⟨#[]⟩) := Lib.hid (by
      rw [HE.out, HEd.out, by8_len]
      refine by8_ext ?_
      rw [by8_mid, Nat.sub_self, List.take_zero]; rfl)
    clear h hbd HEd HE hys
    generalize x.extract n x.size = y at *
    go_enter Tryz.func70, Tryz.ntmps70
    go_wp2_with fail
    refine HN.out.mono ?_
    rintro e w' ⟨rfl, rfl⟩
    go_wp2_with fail
    refine (HL.out _).mono ?_
    rintro e w' ⟨rfl, rfl⟩
    go_wp2_with fail
    go_ret
    rw [HE2.out]
    exact ⟨rfl, Below.refl _ _⟩
set_option maxHeartbeats 1000000 in
theorem Pbase_any (w : World) (x : ByteArray) (hx : x.size ≤ 1000000) : Calls Tryz.prog 71 #[.string x] w fun e w' => e = .returned (.string (oneS 15 [] x)) ∧ Below w.heap.size w w' := by
  have HN := Lib.hid fun W => Pend_any W x hx
  have HE : Hid (oneS 15 [] x = x.extract 0 (Ep.endA (by8 x))) := Lib.hid rfl
  have HE2 : Hid (oneS 14 [] x = x.extract (Ep.endA (by8 x)) x.size) := Lib.hid rfl
  have hnl := (Ep.end_le (by8 x)).1
  rw [by8_len] at hnl
  have HT : Hid (∀ W, Calls Tryz.prog 20 #[.string x, .string (oneS 14 [] x)] W fun e w' => e = .returned (.string (oneS 15 [] x)) ∧ W = w') := Lib.hid fun W => by
    refine (Tryz.strings_TrimSuffix x (oneS 14 [] x) W (by omega)).mono ?_
    rintro e w' ⟨rfl, rfl⟩
    exact ⟨by rw [HE2.out, suffix_cut _ _ hnl, HE.out], rfl⟩
  generalize oneS 14 [] x = y at *
  generalize oneS 15 [] x = z at *
  go_enter Tryz.func71, Tryz.ntmps71
  go_wp2_with fail
  refine (HN.out _).mono ?_
  rintro e w1 ⟨rfl, B1⟩
  go_wp2_with fail
  refine (HT.out _).mono ?_
  rintro e w' ⟨rfl, rfl⟩
  go_wp2_with fail
  go_ret
  exact ⟨rfl, B1⟩
end Go.Proofs.YtenokbceamcekaaGreatDoor.Ew
