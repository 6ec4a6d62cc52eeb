/-
  glob.piece, fits, hidden: what begins a pattern, and whether a byte fits it.
-/
import Derived.Lib.IndexLaws
import Derived.Test.YtdckeefhncdegaaDoorShelf
import Derived.Test.YtdckeefhncdegaaDoorFns
namespace Go.Proofs.YtdckeefhncdegaaDoor.Gm
open Go.RowKit Go.Proofs.YtdckeefhncdegaaDoor
set_option maxRecDepth 100000

/-- Where the last ] of a pattern is, if one is. -/
def LastAt (p : Bs) (v : Int) : Prop := (v = -1 ∧ ∀ j : Nat, p[j]? ≠ some 93) ∨ ∃ i : Nat, v = i ∧ p[i]? = some 93 ∧ ∀ j : Nat, i < j → p[j]? ≠ some 93

theorem last_any (w : World) (p : ByteArray) (hs : p.size ≤ 1000000) :
    Calls Tryd.prog 11 #[.string p, .int .u8 93] w fun e w' => ∃ v : Int, e = .returned (.int .i64 v) ∧ w = w' ∧ -1 ≤ v ∧ v < 1000000 ∧ LastAt (by8 p) v := by
  refine (Tryd.strings_LastIndexByte p 93 (by omega) w).mono ?_
  rintro e w' ⟨rfl, rfl⟩
  have hget : ∀ (j : Nat) (hj : j < p.size), (by8 p)[j]? = some (p.data[j]!) := fun j hj => by
    rw [by8_get hj]
    congr 1
    show p.data[j] = p.data[j]!
    rw [getElem!_pos p.data j hj]
  have hno : ∀ (j : Nat), p.size ≤ j → (by8 p)[j]? = none := fun j hj => by rw [List.getElem?_eq_none_iff, by8_len]; exact hj
  rcases Lib.lastIndexByte_spec p 93 with ⟨h1, h2⟩ | ⟨i, hi, h1, h2, h3⟩
  · refine ⟨_, rfl, rfl, by omega, by omega, .inl ⟨h1, fun j => ?_⟩⟩
    by_cases hj : j < p.size
    · rw [hget j hj]
      intro e
      have := h2 j hj
      rw [Option.some.inj e] at this
      exact this rfl
    · rw [hno j (by omega)]; exact fun e => by cases e
  · refine ⟨_, rfl, rfl, by omega, by omega, .inr ⟨i, h1, ?_, fun j hij => ?_⟩⟩
    · rw [hget i hi]
      congr 1
      exact UInt8.toNat_inj.1 (by have : (93 : UInt8).toNat = 93 := rfl; omega)
    · by_cases hj : j < p.size
      · rw [hget j hj]
        intro e
        have := h3 j hij hj
        rw [Option.some.inj e] at this
        exact this rfl
      · rw [hno j (by omega)]; exact fun e => by cases e

theorem endOf_iff (u : Bs) : (Gl.endOf u).isSome = true ↔ ∃ j, Gl.bang u + 1 ≤ j ∧ u[j]? = some 93 := by
  constructor
  · intro h
    cases he : Gl.endOf u with
    | none => rw [he] at h; cases h
    | some k =>
      unfold Gl.endOf at he
      cases hf : (u.drop (Gl.bang u + 1)).findIdx? (· == 93) with
      | none => rw [hf] at he; cases he
      | some n =>
        obtain ⟨hl, h1, _⟩ := List.findIdx?_eq_some_iff_getElem.1 hf
        rw [List.length_drop] at hl
        rw [List.getElem_drop, beq_iff_eq] at h1
        exact ⟨Gl.bang u + 1 + n, by omega, by rw [List.getElem?_eq_getElem (by omega), h1]⟩
  · rintro ⟨j, hj, hx⟩
    cases he : Gl.endOf u with
    | some k => rfl
    | none =>
      exfalso
      unfold Gl.endOf at he
      rw [Option.map_eq_none_iff, List.findIdx?_eq_none_iff] at he
      have hl := (List.getElem?_eq_some_iff.1 hx).1
      have := he 93 (List.mem_iff_getElem.2 ⟨j - (Gl.bang u + 1), by rw [List.length_drop]; omega, by
        rw [List.getElem_drop]
        have := (List.getElem?_eq_some_iff.1 hx).2
        rw [← this]; congr 1; omega⟩)
      simp at this

/-- There is an end just if the last ] is behind the first byte of the bracket. -/
theorem last_end {p : Bs} {v : Int} (h : LastAt p v) (i : Nat) : (Gl.endOf (p.drop (i + 1))).isSome = true ↔ ((i + 1 + Gl.bang (p.drop (i + 1)) : Nat) : Int) < v := by
  rw [endOf_iff]
  constructor
  · rintro ⟨j, hj, hx⟩
    rw [List.getElem?_drop] at hx
    rcases h with ⟨_, hn⟩ | ⟨k, rfl, _, hn⟩
    · exact absurd hx (hn _)
    · by_cases hk : k < i + 1 + j
      · exact absurd hx (hn _ hk)
      · omega
  · intro hlt
    rcases h with ⟨rfl, _⟩ | ⟨k, rfl, hk, _⟩
    · omega
    · refine ⟨k - (i + 1), by omega, ?_⟩
      rw [List.getElem?_drop, show i + 1 + (k - (i + 1)) = k by omega]; exact hk

theorem find_index : ∀ (l : Bs) (n : Nat), l.findIdx? (· == 93) = some n → Lib.indexByte l 93 = n := by
  intro l n h
  obtain ⟨hl, h1, h2⟩ := List.findIdx?_eq_some_iff_getElem.1 h
  have hge := Lib.indexByte_ge l 93
  have hn : l[n]? = some 93 := by rw [List.getElem?_eq_getElem hl]; rw [beq_iff_eq] at h1; rw [h1]
  by_cases he : Lib.indexByte l 93 = -1
  · exact absurd hn (Lib.indexByte_none he n)
  · obtain ⟨o, ho⟩ := Int.eq_ofNat_of_zero_le (show 0 ≤ Lib.indexByte l 93 by omega)
    obtain ⟨h3, h4⟩ := Lib.indexByte_some ho
    by_cases hlt : o < n
    · have := h2 o hlt
      obtain ⟨hol, e⟩ := List.getElem?_eq_some_iff.1 h3
      rw [e] at this; simp at this
    · by_cases hgt : n < o
      · exact absurd hn (h4 n hgt)
      · rw [ho, show o = n by omega]

theorem end_index {u : Bs} {k : Nat} (h : Gl.endOf u = some k) : Lib.indexByte (u.drop (Gl.bang u + 1)) 93 = ((k - (Gl.bang u + 1) : Nat) : Int) := by
  unfold Gl.endOf at h
  cases hf : (u.drop (Gl.bang u + 1)).findIdx? (· == 93) with
  | none => rw [hf] at h; cases h
  | some n =>
    rw [hf, Option.map_some] at h
    have := Option.some.inj h
    rw [find_index _ _ hf]; congr 1; omega

theorem hasBang_any (w : World) (s : ByteArray) (b : Bool) (hb : Hid (decide (Gl.bang (by8 s) = 1) = b)) :
    Calls Tryd.prog 25 #[.string s, .string ⟨#[33]⟩] w fun e w' => e = .returned (.bool b) ∧ w = w' := by
  refine (Tryd.strings_HasPrefix s ⟨#[33]⟩ w).mono ?_
  rintro e w' ⟨rfl, rfl⟩
  refine ⟨?_, rfl⟩
  rw [← hb.out]
  refine ret_bool ?_
  show List.isPrefixOf [33] (by8 s) = _
  unfold Gl.bang
  cases by8 s with
  | nil => rfl
  | cons c u =>
    by_cases h : c = 33
    · subst h; rfl
    · show ((33 : UInt8) == c && _) = _
      rw [beq_eq_false_iff_ne.2 (Ne.symm h)]; simp [h]

theorem index93_any (w : World) (s : ByteArray) (v : Int) (hv : Hid (Lib.indexByte (by8 s) 93 = v)) :
    Calls Tryd.prog 26 #[.string s, .int .u8 93] w fun e w' => e = .returned (.int .i64 v) ∧ w = w' := by
  refine (Tryd.strings_IndexByte s 93 w).mono ?_
  rintro e w' ⟨rfl, rfl⟩
  exact ⟨by rw [← hv.out]; rfl, rfl⟩

theorem ret_ext {p : ByteArray} {a b c : Nat} (h : b = c) : Ending.returned (.string (p.extract a b)) = .returned (.string (p.extract a c)) := by rw [h]

set_option maxHeartbeats 1000000 in
theorem piece_any (w : World) (p : ByteArray) (i : Nat) (v : Int) (hi : i ≤ p.size) (hs : p.size ≤ 1000000) (hv : Hid (LastAt (by8 p) v)) :
    Calls Tryd.prog 12 #[.string p, .int .i64 i, .int .i64 v] w fun e w' => e = .returned (.string (p.extract i (i + Gl.pc ((by8 p).drop i)))) ∧ w = w' := by
  by_cases hlt : i < p.size
  · have hne : ((i : Int) == (p.size : Int)) = false := by rw [beq_eq_false_iff_ne]; omega
    have hcons := by8_at hlt
    by_cases h91 : p[i] = 91
    · have hb : ((p[i].toNat : Int) == 91) = true := by rw [h91]; rfl
      have hpc : Hid (Gl.pc ((by8 p).drop i) = match Gl.endOf ((by8 p).drop (i + 1)) with | some k => k + 2 | none => 1) := Lib.hid (by
        rw [hcons, h91, Gl.pc_cons, if_pos rfl]
        cases Gl.endOf ((by8 p).drop (i + 1)) <;> rfl)
      have hle := last_end hv.out i
      have hbu : Gl.bang (by8 (p.extract (i + 1) p.size)) = Gl.bang ((by8 p).drop (i + 1)) := by rw [by8_drop]
      clear h91 hcons
      have hb01 : Gl.bang ((by8 p).drop (i + 1)) = 0 ∨ Gl.bang ((by8 p).drop (i + 1)) = 1 := by unfold Gl.bang; split <;> simp
      rcases hb01 with hb01 | hb01
      · have HB : Hid (decide (Gl.bang (by8 (p.extract (i + 1) p.size)) = 1) = false) := Lib.hid (by rw [hbu, hb01]; rfl)
        have hbang := Lib.hid hb01
        clear hbu hb01
        cases he : Gl.endOf ((by8 p).drop (i + 1)) with
        | none =>
          have h2 : ¬ (((i + 1 : Nat) : Int) < v) := by
            intro h
            rw [he, hbang.out] at hle
            have := hle.2 (by omega)
            cases this
          have HP : Hid (Gl.pc ((by8 p).drop i) = 1) := Lib.hid (by rw [hpc.out, he])
          have h3 : v ≤ (i : Int) + 1 := by omega
          clear hle h2
          go_enter Tryd.func12, Tryd.ntmps12
          go_wp2_with (go_at_call 25; go_must (refine (hasBang_any _ _ _ HB).mono ?_); rintro e w' ⟨rfl, rfl⟩)
          go_ret
          exact ⟨ret_ext (by rw [HP.out]), rfl⟩
        | some k =>
          have hkg := Gl.endOf_ge he
          rw [hbang.out] at hkg
          have h2 : (((i + 1 : Nat) : Int) < v) := by
            rw [he, hbang.out] at hle
            exact hle.1 rfl
          obtain ⟨n, rfl⟩ : ∃ n, k = n + 1 := ⟨k - 1, by omega⟩
          have HP : Hid (Gl.pc ((by8 p).drop i) = n + 3) := Lib.hid (by rw [hpc.out, he])
          have hsz : i + (n + 3) ≤ p.size := by
            have := Gl.pc_le ((by8 p).drop i)
            rw [HP.out, List.length_drop, by8_len] at this
            omega
          have hIx : Lib.indexByte (by8 (p.extract (i + 2) p.size)) 93 = (n : Int) := by
            have := end_index he
            rw [hbang.out, List.drop_drop] at this
            rw [by8_drop, show i + 2 = i + 1 + (0 + 1) by omega, this]; congr 1
          have HI := Lib.hid hIx
          clear hle hIx
          go_enter Tryd.func12, Tryd.ntmps12
          go_wp2_with (first
            | (go_at_call 25; go_must (refine (hasBang_any _ _ _ HB).mono ?_); rintro e w' ⟨rfl, rfl⟩)
            | (go_at_call 26; go_must (refine (index93_any _ _ _ HI).mono ?_); rintro e w' ⟨rfl, rfl⟩))
          go_ret
          exact ⟨ret_ext (by rw [HP.out]; omega), rfl⟩
      · have HB : Hid (decide (Gl.bang (by8 (p.extract (i + 1) p.size)) = 1) = true) := Lib.hid (by rw [hbu, hb01]; rfl)
        have hbang := Lib.hid hb01
        clear hbu hb01
        cases he : Gl.endOf ((by8 p).drop (i + 1)) with
        | none =>
          have h2 : ¬ (((i + 2 : Nat) : Int) < v) := by
            intro h
            rw [he, hbang.out] at hle
            have := hle.2 (by omega)
            cases this
          have HP : Hid (Gl.pc ((by8 p).drop i) = 1) := Lib.hid (by rw [hpc.out, he])
          have h3 : v ≤ (i : Int) + 2 := by omega
          clear hle h2
          go_enter Tryd.func12, Tryd.ntmps12
          go_wp2_with (go_at_call 25; go_must (refine (hasBang_any _ _ _ HB).mono ?_); rintro e w' ⟨rfl, rfl⟩)
          go_ret
          exact ⟨ret_ext (by rw [HP.out]), rfl⟩
        | some k =>
          have hkg := Gl.endOf_ge he
          rw [hbang.out] at hkg
          have h2 : (((i + 2 : Nat) : Int) < v) := by
            rw [he, hbang.out] at hle
            exact hle.1 rfl
          obtain ⟨n, rfl⟩ : ∃ n, k = n + 2 := ⟨k - 2, by omega⟩
          have HP : Hid (Gl.pc ((by8 p).drop i) = n + 4) := Lib.hid (by rw [hpc.out, he])
          have hsz : i + (n + 4) ≤ p.size := by
            have := Gl.pc_le ((by8 p).drop i)
            rw [HP.out, List.length_drop, by8_len] at this
            omega
          have hIx : Lib.indexByte (by8 (p.extract (i + 3) p.size)) 93 = (n : Int) := by
            have := end_index he
            rw [hbang.out, List.drop_drop] at this
            rw [by8_drop, show i + 3 = i + 1 + (1 + 1) by omega, this]; congr 1
          have HI := Lib.hid hIx
          clear hle hIx
          go_enter Tryd.func12, Tryd.ntmps12
          go_wp2_with (first
            | (go_at_call 25; go_must (refine (hasBang_any _ _ _ HB).mono ?_); rintro e w' ⟨rfl, rfl⟩)
            | (go_at_call 26; go_must (refine (index93_any _ _ _ HI).mono ?_); rintro e w' ⟨rfl, rfl⟩))
          go_ret
          exact ⟨ret_ext (by rw [HP.out]; omega), rfl⟩
    · have hb : ((p[i].toNat : Int) == 91) = false := eq_false (b := 91) h91
      by_cases h92 : p[i] = 92
      · have hb2 : ((p[i].toNat : Int) == 92) = true := by rw [h92]; rfl
        by_cases h1 : i + 1 < p.size
        · have HP : Hid (Gl.pc ((by8 p).drop i) = 2) := Lib.hid (by
            rw [hcons, h92, Gl.pc_cons, if_neg (by decide), if_pos rfl, by8_at h1]; rfl)
          clear hcons h91 h92
          go_enter Tryd.func12, Tryd.ntmps12
          go_wp2
          go_ret
          exact ⟨ret_ext (by rw [HP.out]; omega), rfl⟩
        · have HP : Hid (Gl.pc ((by8 p).drop i) = 1) := Lib.hid (by
            rw [hcons, h92, Gl.pc_cons, if_neg (by decide), if_pos rfl, List.drop_of_length_le (by rw [by8_len]; omega)]; rfl)
          clear hcons h91 h92
          go_enter Tryd.func12, Tryd.ntmps12
          go_wp2
          go_ret
          exact ⟨ret_ext (by rw [HP.out]; omega), rfl⟩
      · have hb2 : ((p[i].toNat : Int) == 92) = false := eq_false (b := 92) h92
        have HP : Hid (Gl.pc ((by8 p).drop i) = 1) := Lib.hid (by
          rw [hcons, Gl.pc_cons, if_neg h91, if_neg h92])
        clear hcons h91 h92
        go_enter Tryd.func12, Tryd.ntmps12
        go_wp2
        go_ret
        exact ⟨ret_ext (by rw [HP.out]), rfl⟩
  · obtain rfl : i = p.size := by omega
    have hb : ((p.size : Int) == (p.size : Int)) = true := beq_self_eq_true _
    have HE : Hid (p.extract p.size (p.size + Gl.pc ((by8 p).drop p.size)) = ⟨#[]⟩) := Lib.hid (by
      rw [List.drop_of_length_le (by rw [by8_len]; exact Nat.le_refl _)]
      refine by8_ext ?_
      show by8 (p.extract p.size p.size) = []
      rw [by8_drop, List.drop_of_length_le (by rw [by8_len]; exact Nat.le_refl _)])
    go_enter Tryd.func12, Tryd.ntmps12
    go_wp2
    go_ret
    exact ⟨by rw [HE.out]; rfl, rfl⟩

/-- What fits, from the text of what begins the pattern. -/
theorem hasBang2 (u : Bs) : Lib.hasPrefix u [33] = decide (u.head? = some 33) := by
  show List.isPrefixOf [33] u = _
  cases u with
  | nil => rfl
  | cons c u =>
    by_cases h : c = 33
    · subst h; rfl
    · show ((33 : UInt8) == c && _) = _
      rw [beq_eq_false_iff_ne.2 (Ne.symm h)]; simp [h]

theorem cutBang_any (w : World) (s r : ByteArray) (b : Bool) (hb : Hid (decide ((by8 s).head? = some 33) = b)) (hr : Hid (by8 r = if b then (by8 s).tail else by8 s)) :
    Calls Tryd.prog 27 #[.string s, .string ⟨#[33]⟩] w fun e w' => e = .returned (.tuple #[.string r, .bool b]) ∧ w = w' := by
  refine (Tryd.strings_CutPrefix s ⟨#[33]⟩ w).mono ?_
  rintro e w' ⟨rfl, rfl⟩
  refine ⟨?_, rfl⟩
  have h1 : Lib.hasPrefix s.data.toList [33] = b := by rw [← hb.out]; exact hasBang2 _
  have h2 : Lib.trimPrefix s.data.toList [33] = by8 r := by
    unfold Lib.trimPrefix
    rw [hr.out, h1]
    cases b
    · rfl
    · show (by8 s).drop 1 = _
      rw [List.drop_one]; rfl
  show Ending.returned (Value.tuple #[.string ⟨(Lib.trimPrefix s.data.toList [33]).toArray⟩, .bool (Lib.hasPrefix s.data.toList [33])]) = _
  rw [h1, h2]
  rfl

theorem inner_is (x : ByteArray) : by8 (x.extract 1 (x.size - 1)) = Gl.inner (by8 x) := by
  unfold Gl.inner
  rw [List.dropLast_eq_take, List.length_drop, by8_len]
  show (x.extract 1 (x.size - 1)).data.toList = _
  rw [ByteArray.data_extract, Array.toList_extract]
  rfl

set_option maxHeartbeats 1000000 in
theorem fits_any (w : World) (x : ByteArray) (c : UInt8) (hx : 0 < x.size) (hs : x.size ≤ 1000000) :
    Calls Tryd.prog 13 #[.string x, .int .u8 (c.toNat : Int)] w fun e w' => e = .returned (.bool (Gl.fitsB (by8 x) c)) ∧ w = w' := by
  by_cases h63 : by8 x = [63]
  · have hb : (x.toList == [63]) = true := by rw [Lib.toList_data]; exact beq_iff_eq.2 h63
    have HE : Hid (Gl.fitsB (by8 x) c = true) := Lib.hid (by rw [h63]; rfl)
    clear h63
    go_enter Tryd.func13, Tryd.ntmps13
    go_wp2
    go_ret
    exact ⟨ret_bool HE.out.symm, rfl⟩
  · have hb : (x.toList == [63]) = false := by rw [Lib.toList_data]; exact beq_eq_false_iff_ne.2 h63
    by_cases h2 : x.size ≤ 2
    · have hlast : (by8 x).getLast? = some x[x.size - 1] := by
        rw [List.getLast?_eq_getElem?, by8_len]; exact by8_get (by omega)
      have HE : Hid (Gl.fitsB (by8 x) c = decide (x[x.size - 1] = c)) := Lib.hid (by
        unfold Gl.fitsB
        rw [if_neg h63, if_pos (by rw [by8_len]; exact h2), hlast]
        by_cases e : x[x.size - 1] = c <;> simp [e])
      obtain ⟨m, hm⟩ : ∃ m, x.size = m + 1 := ⟨x.size - 1, by omega⟩
      have hts : (x.size : Int) - 1 = m := by omega
      have hm1 : x.size - 1 = m := by omega
      have hmx : m < x.size := by omega
      by_cases hc : x[m] = c
      · have hcb := eq_true hc
        have HT : Hid (Gl.fitsB (by8 x) c = true) := Lib.hid (by rw [HE.out]; simp only [hm1, hc, decide_true])
        clear hlast h63 hc HE hm hm1
        go_enter Tryd.func13, Tryd.ntmps13
        go_wp2
        go_ret
        exact ⟨ret_bool HT.out.symm, rfl⟩
      · have hcb := eq_false hc
        have HT : Hid (Gl.fitsB (by8 x) c = false) := Lib.hid (by rw [HE.out]; simp only [hm1, hc, decide_false])
        clear hlast h63 hc HE hm hm1
        go_enter Tryd.func13, Tryd.ntmps13
        go_wp2
        go_ret
        exact ⟨ret_bool HT.out.symm, rfl⟩
    · have HE : Hid (Gl.fitsB (by8 x) c = Gl.within (by8 (x.extract 1 (x.size - 1))) c) := Lib.hid (by
        unfold Gl.fitsB
        rw [if_neg h63, if_neg (by rw [by8_len]; exact h2), inner_is])
      obtain ⟨m, hm⟩ : ∃ m, x.size = m + 1 := ⟨x.size - 1, by omega⟩
      have hts : (x.size : Int) - 1 = m := by omega
      have hm1 : x.size - 1 = m := by omega
      rw [hm1] at HE
      have hm2 : 2 ≤ m := by omega
      have hm3 : m ≤ x.size := by omega
      clear h63 hm hm1 h2
      generalize hy : x.extract 1 m = y at HE
      have hys : y.size ≤ 1000000 := by rw [← hy, ByteArray.size_extract]; omega
      have HY := Lib.hid hy
      clear hy
      by_cases h33 : (by8 y).head? = some 33
      · obtain ⟨r, hr⟩ : ∃ r : ByteArray, by8 r = (by8 y).tail := ⟨⟨(by8 y).tail.toArray⟩, rfl⟩
        have hrs : r.size ≤ 1000000 := by rw [← by8_len, hr, List.length_tail, by8_len]; omega
        have HF : Hid (Gl.fitsB (by8 x) c = !Gl.listed (by8 r) c) := Lib.hid (by rw [HE.out]; unfold Gl.within; rw [if_pos h33, hr])
        have HB : Hid (decide ((by8 y).head? = some 33) = true) := Lib.hid (decide_eq_true h33)
        have HR : Hid (by8 r = if true then (by8 y).tail else by8 y) := Lib.hid hr
        clear h33 hr HE
        go_enter Tryd.func13, Tryd.ntmps13
        go_wp2_with (first
          | (go_at_call 27; go_must (rw [HY.out]; refine (cutBang_any _ y r _ HB HR).mono ?_); rintro e w' ⟨rfl, rfl⟩)
          | (go_at_call 28; go_must (refine (listed_any _ r c hrs).mono ?_); rintro e w' ⟨rfl, rfl⟩))
        go_ret
        exact ⟨ret_bool (by rw [HF.out]), rfl⟩
      · have HF : Hid (Gl.fitsB (by8 x) c = Gl.listed (by8 y) c) := Lib.hid (by rw [HE.out]; unfold Gl.within; rw [if_neg h33])
        have HB : Hid (decide ((by8 y).head? = some 33) = false) := Lib.hid (decide_eq_false h33)
        have HR : Hid (by8 y = if false then (by8 y).tail else by8 y) := Lib.hid rfl
        clear h33 HE
        go_enter Tryd.func13, Tryd.ntmps13
        go_wp2_with (first
          | (go_at_call 27; go_must (rw [HY.out]; refine (cutBang_any _ y y _ HB HR).mono ?_); rintro e w' ⟨rfl, rfl⟩)
          | (go_at_call 28; go_must (refine (listed_any _ y c hys).mono ?_); rintro e w' ⟨rfl, rfl⟩))
        go_ret
        exact ⟨ret_bool (by rw [HF.out]), rfl⟩
end Go.Proofs.YtdckeefhncdegaaDoor.Gm
