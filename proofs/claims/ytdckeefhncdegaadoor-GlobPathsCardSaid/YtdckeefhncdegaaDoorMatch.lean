/-
  glob.Match: whether all of a text is of a pattern, for every pattern and text that fit into memory.
-/
import Derived.Test.YtdckeefhncdegaaDoorPiece
namespace Go.Proofs.YtdckeefhncdegaaDoor.Gm
open Go.RowKit Go.Proofs.YtdckeefhncdegaaDoor
set_option maxRecDepth 100000

theorem trim_any (w : World) (s : ByteArray) (b : Bool) (hb : Hid ((by8 s).all (· == 42) = b)) :
    Calls Tryd.prog 14 #[.string s, .string ⟨#[42]⟩] w fun e w' => ∃ r : ByteArray, e = .returned (.string r) ∧ w = w' ∧ (r.toList == []) = b ∧ r.toList.isEmpty = b := by
  refine (Tryd.strings_TrimLeft_one s 42 (by decide) w).mono ?_
  rintro e w' ⟨rfl, rfl⟩
  have key : ∀ l : List UInt8, (Lib.trimLeftB l 42).isEmpty = l.all (· == 42) := by
    intro l
    unfold Lib.trimLeftB
    induction l with
    | nil => rfl
    | cons c l ih =>
      rw [List.dropWhile_cons, List.all_cons]
      cases h : (c == 42) with
      | true => simpa using ih
      | false => rfl
  have h1 : (⟨(Lib.trimLeftB s.data.toList 42).toArray⟩ : ByteArray).toList.isEmpty = b := by
    rw [Lib.toList_data, ← hb.out]; exact key _
  refine ⟨_, rfl, rfl, ?_, h1⟩
  rw [← h1]
  cases (⟨(Lib.trimLeftB s.data.toList 42).toArray⟩ : ByteArray).toList <;> rfl

theorem extract_is (p : ByteArray) (i n : Nat) : by8 (p.extract i (i + n)) = ((by8 p).drop i).take n := by
  show (p.extract i (i + n)).data.toList = _
  rw [ByteArray.data_extract, Array.toList_extract, List.extract_eq_take_drop, Nat.add_sub_cancel_left]
  rfl

theorem size_is (p : ByteArray) (i : Nat) (h : i ≤ p.size) : (p.extract i (i + Gl.pc ((by8 p).drop i))).size = Gl.pc ((by8 p).drop i) := by
  have := Gl.pc_le ((by8 p).drop i)
  rw [List.length_drop, by8_len] at this
  rw [ByteArray.size_extract]; omega

theorem measure_star {P n st fr a i : Nat} (h1 : st ≤ i) (h2 : i < P) (h4 : a ≤ n) : Gl.left P n (intOf (.int .i64 ((i : Int) + 1))).toNat (intOf (.int .i64 (a : Int))).toNat (intOf (.int .i64 (a : Int))).toNat < Gl.left P n (intOf (.int .i64 (st : Int))).toNat (intOf (.int .i64 (fr : Int))).toNat (intOf (.int .i64 (a : Int))).toNat :=
  Gl.left_star h1 h2 h4
theorem measure_fit {P n st fr a : Nat} (h : a < n) : Gl.left P n (intOf (.int .i64 (st : Int))).toNat (intOf (.int .i64 (fr : Int))).toNat (intOf (.int .i64 ((a : Int) + 1))).toNat < Gl.left P n (intOf (.int .i64 (st : Int))).toNat (intOf (.int .i64 (fr : Int))).toNat (intOf (.int .i64 (a : Int))).toNat :=
  Gl.left_fit h
theorem measure_back {P n st fr a : Nat} (h1 : fr ≤ a) (h : a < n) : Gl.left P n (intOf (.int .i64 (st : Int))).toNat (intOf (.int .i64 ((fr : Int) + 1))).toNat (intOf (.int .i64 ((fr : Int) + 1))).toNat < Gl.left P n (intOf (.int .i64 (st : Int))).toNat (intOf (.int .i64 (fr : Int))).toNat (intOf (.int .i64 (a : Int))).toNat :=
  Gl.left_back h1 h

set_option maxHeartbeats 4000000 in
theorem Match_any (w : World) (p s : ByteArray) (hp : p.size ≤ 1000000) (hs : s.size ≤ 1000000) :
    Calls Tryd.prog 6 #[.string p, .string s] w fun e w' => e = .returned (.bool (Gl.matchB (by8 p) (by8 s))) ∧ w = w' := by
  go_enter Tryd.func6, Tryd.ntmps6
  go_wp2_with fail
  refine (last_any _ p hp).mono ?_
  rintro e w' ⟨v, rfl, rfl, hv1, hv2, hlast⟩
  have HL := Lib.hid hlast
  clear hlast
  go_wp2_with fail
  go_loop [6, 7, 8, 9] (fun i a st fr => ∃ ni na ns nf : Nat, i = .int .i64 ni ∧ a = .int .i64 na ∧ st = .int .i64 ns ∧ fr = .int .i64 nf ∧ Gl.Inv (by8 p) (by8 s) ni na ns nf) (fun _ a st fr => Gl.left p.size s.size (intOf st).toNat (intOf fr).toNat (intOf a).toNat)
  case atStart => exact ⟨0, 0, 0, 0, rfl, rfl, rfl, rfl, Gl.inv_start _ _⟩
  case round =>
    obtain ⟨ni, na, ns, nf, rfl, rfl, rfl, rfl, hinv⟩ := hrel
    have hi := hinv.hi
    have ha := hinv.ha
    have hst := hinv.hst
    have hfr := hinv.hfr
    rw [by8_len] at hi ha
    have HI := Lib.hid hinv
    clear hinv
    by_cases hat : na < s.size
    · have hpiece := Lib.hid (piece_any w p ni v hi hp HL)
      have hsz := size_is p ni hi
      have hex := extract_is p ni (Gl.pc ((by8 p).drop ni))
      have hgs := by8_get hat
      generalize p.extract ni (ni + Gl.pc ((by8 p).drop ni)) = x at hpiece hsz hex
      have HS := Lib.hid hsz
      have HE := Lib.hid hex
      have HG := Lib.hid hgs
      clear hsz hex hgs
      by_cases hlt : ni < p.size
      · have hcons := by8_at hlt
        have hgp := by8_get hlt
        by_cases h42 : p[ni] = 42
        · have hx : (x.toList == [42]) = true := by
            rw [Lib.toList_data, beq_iff_eq]
            show by8 x = [42]
            rw [HE.out, hcons, h42, Gl.pc_star rfl]; rfl
          rw [h42] at hgp
          have HN := Lib.hid (Gl.inv_star HI.out (by rw [by8_len]; exact hlt) hgp)
          clear hcons hgp h42
          go_wp2_with (go_at_call 12; go_must (refine hpiece.out.mono ?_); rintro e w' ⟨rfl, rfl⟩)
          go_round
          case rel => exact ⟨ni + 1, na, ni + 1, na, by go_num, rfl, by go_num, rfl, HN.out⟩
          case measure => exact measure_star hst hlt ha
        · have hne : (by8 p).drop ni ≠ [] := by rw [hcons]; simp
          have hh : ((by8 p).drop ni).head? ≠ some 42 := by rw [hcons]; simpa using h42
          have hno : (by8 p)[ni]? ≠ some 42 := by rw [hgp]; exact fun e => h42 (Option.some.inj e)
          have hpos := Gl.pc_pos hne
          have hx : (x.toList == [42]) = false := by
            rw [Lib.toList_data, beq_eq_false_iff_ne]
            show by8 x ≠ [42]
            rw [HE.out, hcons]
            intro e
            have := congrArg List.head? e
            rw [List.head?_take, if_neg (by rw [← hcons]; omega)] at this
            simp at this
            exact h42 this
          have hx0 : 0 < x.size := by rw [HS.out]; exact hpos
          have hxs : x.size ≤ 1000000 := by
            have := Gl.pc_le ((by8 p).drop ni)
            rw [List.length_drop, by8_len] at this
            rw [HS.out]; omega
          have hxe : x.toList.isEmpty = false := by
            rw [Lib.toList_data]
            show (by8 x).isEmpty = false
            cases hb : by8 x with
            | nil => have := by8_len x; rw [hb] at this; simp at this; omega
            | cons => rfl
          have hf : Gl.fitsB (by8 x) s[na] = Gl.stands (Gl.place ((by8 p).drop ni)) s[na] := by
            rw [HE.out]; exact Gl.fits_is _ hne hh
          have hfit := fits_any w x s[na] hx0 hxs
          rw [hf] at hfit
          have HNO := Lib.hid hno
          have HSUM : Hid (ni + Gl.pc ((by8 p).drop ni) = ni + x.size) := Lib.hid (by rw [HS.out])
          cases hb : Gl.stands (Gl.place ((by8 p).drop ni)) s[na] with
          | true =>
            rw [hb] at hfit
            have HF := Lib.hid hfit
            have HN := Lib.hid (Gl.inv_fit HI.out (by rw [by8_len]; exact hlt) HNO.out HG.out hb)
            have hle := HN.out.hi
            rw [HSUM.out, by8_len] at hle
            clear hcons hgp h42 hne hh hno hpos hf hfit hb
            go_wp2_with (first
              | (go_at_call 12; go_must (refine hpiece.out.mono ?_); rintro e w' ⟨rfl, rfl⟩)
              | (go_at_call 13; go_must (refine HF.out.mono ?_); rintro e w' ⟨rfl, rfl⟩))
            go_round
            case rel => exact ⟨ni + x.size, na + 1, ns, nf, by go_num, by go_num, rfl, rfl, by have := HN.out; rwa [HSUM.out] at this⟩
            case measure => exact measure_fit hat
          | false =>
            rw [hb] at hfit
            have HF := Lib.hid hfit
            have HQ : Hid (ni < (by8 p).length → (by8 p)[ni]? ≠ some 42 ∧ Gl.stands (Gl.place ((by8 p).drop ni)) s[na] = false) := Lib.hid (fun _ => ⟨HNO.out, hb⟩)
            clear hcons hgp h42 hne hh hno hpos hf hfit hb
            by_cases h0 : 0 < ns
            · have HN := Lib.hid (Gl.inv_back HI.out h0 HG.out HQ.out)
              go_wp2_with (first
                | (go_at_call 12; go_must (refine hpiece.out.mono ?_); rintro e w' ⟨rfl, rfl⟩)
                | (go_at_call 13; go_must (refine HF.out.mono ?_); rintro e w' ⟨rfl, rfl⟩))
              go_round
              case rel => exact ⟨ns, nf + 1, ns, nf + 1, rfl, by go_num, rfl, by go_num, HN.out⟩
              case measure => exact measure_back hfr hat
            · obtain rfl : ns = 0 := by omega
              have HN := Lib.hid (Gl.inv_no HI.out HG.out HQ.out)
              go_wp2_with (first
                | (go_at_call 12; go_must (refine hpiece.out.mono ?_); rintro e w' ⟨rfl, rfl⟩)
                | (go_at_call 13; go_must (refine HF.out.mono ?_); rintro e w' ⟨rfl, rfl⟩))
              go_ret
              exact ⟨ret_bool HN.out.symm, rfl⟩
      · have HQ : Hid (ni < (by8 p).length → (by8 p)[ni]? ≠ some 42 ∧ Gl.stands (Gl.place ((by8 p).drop ni)) s[na] = false) := Lib.hid (fun h => by rw [by8_len] at h; exact absurd h hlt)
        have hx0 : by8 x = [] := by
          rw [HE.out, List.drop_of_length_le (by rw [by8_len]; omega)]; simp
        have hx : (x.toList == [42]) = false := by rw [Lib.toList_data]; show (by8 x == [42]) = false; rw [hx0]; rfl
        have hxe : x.toList.isEmpty = true := by rw [Lib.toList_data]; show (by8 x).isEmpty = true; rw [hx0]; rfl
        clear hx0
        by_cases h0 : 0 < ns
        · have HN := Lib.hid (Gl.inv_back HI.out h0 HG.out HQ.out)
          go_wp2_with (go_at_call 12; go_must (refine hpiece.out.mono ?_); rintro e w' ⟨rfl, rfl⟩)
          go_round
          case rel => exact ⟨ns, nf + 1, ns, nf + 1, rfl, by go_num, rfl, by go_num, HN.out⟩
          case measure => exact measure_back hfr hat
        · obtain rfl : ns = 0 := by omega
          have HN := Lib.hid (Gl.inv_no HI.out HG.out HQ.out)
          go_wp2_with (go_at_call 12; go_must (refine hpiece.out.mono ?_); rintro e w' ⟨rfl, rfl⟩)
          go_ret
          exact ⟨ret_bool HN.out.symm, rfl⟩
    · obtain rfl : na = s.size := by omega
      have HN := Lib.hid (Gl.inv_end HI.out (by8_len s).symm)
      have HT : Hid ((by8 (p.extract ni p.size)).all (· == 42) = Gl.matchB (by8 p) (by8 s)) := Lib.hid (by rw [by8_drop, HN.out])
      go_wp2_with fail
      refine (trim_any _ _ _ HT).mono ?_
      rintro e w' ⟨r, rfl, rfl, hr1, hr2⟩
      go_wp2
      go_ret
      exact ⟨rfl, rfl⟩
end Go.Proofs.YtdckeefhncdegaaDoor.Gm
