/-
  package text: wordlist, word, last, strip.
-/
import Derived.Test.YtenokbceamcekaaGreatDoorQEPNum
namespace Go.Proofs.YtenokbceamcekaaGreatDoor.Ew
open Go.RowKit Go.Proofs.YtenokbceamcekaaGreatDoor Go.Proofs.YtenokbceamcekaaGreatDoor.Ww Go.Proofs.YtenokbceamcekaaGreatDoor.Tw
set_option maxRecDepth 100000

theorem drop_len {L : List ByteArray} {m k : Nat} (hm : m ≤ L.length) : ((L.take m).drop k).length = m - k := by rw [List.length_drop, List.length_take]; omega
/-- A part of a slice of strings. -/
theorem rd_part {w : World} {B c m k : Nat} {a : Option Addr} {L : List ByteArray} (hr : Rd w B (.slice a L.length c) (strsC L)) (hm : m ≤ L.length) (v : Value)
    (hv : ∀ ad : Addr, a = some ad → v = .slice (some (ad.add k)) (m - k) (c - k) ∨ (m - k = 0 ∧ ∃ c', v = .slice (some ad) (m - k) c')) (hn : a = none → v = .slice none (m - k) (c - k)) : Rd w B v (strsC ((L.take m).drop k)) := by
  by_cases h : k < m
  · obtain ⟨b, o, c', hv', hc, hb, hx⟩ := hr.open_ (by rw [strsC_len]; omega)
    rw [strsC_len] at hv' hc
    obtain ⟨rfl, _, rfl⟩ := (Value.slice.injEq ..).mp hv'
    rcases hv _ rfl with rfl | ⟨h0, _⟩
    · refine ⟨some ⟨b, o + k, none⟩, c - k, by rw [strsC_len, drop_len hm]; simp [Addr.add], by rw [strsC_len, drop_len hm]; omega, fun _ => ⟨b, o + k, rfl, hb, fun j u hj => ?_⟩⟩
      rw [Nat.add_assoc]
      refine hx (k + j) u ?_
      unfold strsC at hj ⊢
      have hl := (List.getElem?_eq_some_iff.1 hj).1
      rw [List.length_map, drop_len hm] at hl
      rw [List.map_drop, List.map_take, List.getElem?_drop, List.getElem?_take_of_lt (by omega)] at hj
      exact hj
    · omega
  · have e : (L.take m).drop k = [] := List.length_eq_zero_iff.1 (by rw [drop_len hm]; omega)
    have e2 : m - k = 0 := by omega
    rw [e]
    cases a with
    | none => rw [hn rfl, e2]; exact Rd.nil _ _ _ _
    | some ad =>
      rcases hv _ rfl with rfl | ⟨_, c', rfl⟩
      · rw [e2]; exact Rd.nil _ _ _ _
      · rw [e2]; exact Rd.nil _ _ _ _
theorem take_part (L : List ByteArray) (i j : Nat) : (L.take (min j L.length)).drop (min (i - 1) (min j L.length)) = someS L i j := by
  unfold someS
  have e : L.take (min j L.length) = L.take j := by
    rcases Nat.le_total j L.length with h | h
    · rw [Nat.min_eq_left h]
    · rw [Nat.min_eq_right h, List.take_of_length_le (Nat.le_refl _), List.take_of_length_le h]
  rw [e]
  rcases Nat.le_total (i - 1) (min j L.length) with h | h
  · rw [Nat.min_eq_left h]
  · rw [Nat.min_eq_right h, List.drop_of_length_le (by rw [List.length_take]; exact Nat.le_refl _), List.drop_of_length_le (by rw [List.length_take]; exact h)]
set_option maxHeartbeats 2000000 in
theorem Pwordlist_any (w : World) (p0 p1 p2 : ByteArray) (h0 : p0.size ≤ 9000) (h1 : p1.size ≤ 9000) (h2 : p2.size ≤ 9000) : Calls Tryz.prog 64 #[.string p0, .string p1, .string p2] w fun e w' => e = ansE (pickS (numS p0) (numS p1) (wordsS p2)) ∧ Below w.heap.size w w' := by
  have HN0 := Lib.hid fun W => Pnumber_any W p0 (by omega)
  have HN1 := Lib.hid fun W => Pnumber_any W p1 (by omega)
  have HL := Lib.hid fun W => PSplit_any W p2 (by omega)
  have hwl := words_few p2
  have HS : Hid (∀ q ∈ wordsS p2, q.size ≤ 9000) := Lib.hid fun q hq => word_lim h2 hq
  have hm0 := fun m => @numS_le p0 m
  have hm1 := fun m => @numS_le p1 m
  generalize wordsS p2 = L at *
  generalize numS p0 = a at *
  generalize numS p1 = b at *
  cases a with
  | none =>
    rw [numE_none rfl] at HN0
    have HE := Lib.hid (pick_bad1 (a := none) (b := b) (L := L) (by decide))
    clear hm0 hm1
    go_enter Tryz.func64, Tryz.ntmps64
    go_wp2_with fail
    refine (HN0.out _).mono ?_
    rintro e w1 ⟨rfl, B1⟩
    go_wp2_with fail
    go_ret2
    rw [HE.out]
    exact ⟨rfl, B1⟩
  | some i =>
    have hi := hm0 i rfl
    rw [numE_some rfl] at HN0
    clear hm0
    by_cases hi0 : i = 0
    · subst hi0
      have HE := Lib.hid (pick_bad1 (a := some 0) (b := b) (L := L) (by decide))
      clear hm1
      go_enter Tryz.func64, Tryz.ntmps64
      go_wp2_with fail
      refine (HN0.out _).mono ?_
      rintro e w1 ⟨rfl, B1⟩
      go_wp2_with fail
      go_ret2
      rw [HE.out]
      exact ⟨rfl, B1⟩
    · have hi1 : ((i : Int) == 0) = false := beq_eq_false_iff_ne.2 (by omega)
      cases b with
      | none =>
        rw [numE_none rfl] at HN1
        have HE := Lib.hid (pick_bad2 (a := some i) (b := none) (L := L) (by decide))
        clear hm1
        go_enter Tryz.func64, Tryz.ntmps64
        go_wp2_with fail
        refine (HN0.out _).mono ?_
        rintro e w1 ⟨rfl, B1⟩
        have HB1 := Lib.hid B1
        clear B1
        go_wp2_with fail
        refine (HN1.out _).mono ?_
        rintro e w2 ⟨rfl, B2⟩
        have HB2 := Lib.hid (HB1.out.trans (B2.mono HB1.out.size))
        clear B2
        go_wp2_with fail
        go_ret2
        rw [HE.out]
        exact ⟨rfl, HB2.out⟩
      | some j =>
        have hj := hm1 j rfl
        rw [numE_some rfl] at HN1
        have HE := Lib.hid (pick_good (a := i) (b := j) (L := L) (by omega))
        clear hm1
        obtain ⟨m, HM⟩ : ∃ m, Hid (m = min j L.length) := ⟨_, Lib.hid rfl⟩
        obtain ⟨k, HK⟩ : ∃ k, Hid (k = min (i - 1) m) := ⟨_, Lib.hid rfl⟩
        have e1 : min (j : Int) (L.length : Int) = (m : Int) := by have := HM.out; omega
        have e2 : min ((i : Int) - 1) (m : Int) = (k : Int) := by have := HK.out; omega
        have e3 : IntKind.i64.wrap ((i : Int) - 1) = (i : Int) - 1 := by rw [IntWalk.i64_in _ (by omega)]
        have b1 : (0 : Int) ≤ (m : Int) := by omega
        have b2 : (0 : Int) ≤ (k : Int) := by omega
        have b3 : (k : Int) ≤ (m : Int) := by have := HK.out; omega
        have b4 : m ≤ L.length := by have := HM.out; omega
        have HX : Hid ((L.take m).drop k = someS L i j) := Lib.hid (by
          rw [HK.out, HM.out, take_part])
        go_enter Tryz.func64, Tryz.ntmps64
        go_wp2_with fail
        refine (HN0.out _).mono ?_
        rintro e w1 ⟨rfl, B1⟩
        have HB1 := Lib.hid B1
        clear B1
        go_wp2_with fail
        refine (HN1.out _).mono ?_
        rintro e w2 ⟨rfl, B2⟩
        have HB2 := Lib.hid (HB1.out.trans (B2.mono HB1.out.size))
        clear B2
        go_wp2_with fail
        refine (HL.out _).mono ?_
        rintro e w3 ⟨a1, c1, rfl, HO, B3⟩
        have HB3 := Lib.hid (HB2.out.trans (B3.mono HB2.out.size))
        obtain ⟨_, c', hv, hc⟩ := (Rd.of_own HO.out).shape
        rw [strsC_len] at hv hc
        obtain ⟨rfl, _, rfl⟩ := (Value.slice.injEq ..).mp hv
        have b5 : (m : Int) ≤ (c1 : Int) := by omega
        clear B3 hv
        have HRd := Lib.hid (Rd.of_own HO.out)
        have HPj := Lib.hid fun v hr => PJoin_any w3 v (someS L i j) hr (by have := someS_len L i j; omega) (fun q hq => by have := HS.out q (List.mem_of_mem_take (List.mem_of_mem_drop hq)); omega)
        cases a1 with
        | none =>
          go_wp2_with fail
          all_goals (refine (HPj.out _ (by rw [← HX.out]; exact rd_part HRd.out b4 _ (fun ad h => by cases h) fun _ => rfl)).mono ?_; rintro e w4 ⟨rfl, B4⟩)
          all_goals go_wp2_with fail
          all_goals go_ret2
          all_goals (rw [HE.out]; exact ⟨rfl, HB3.out.trans (B4.mono HB3.out.size)⟩)
        | some ad =>
          obtain ⟨g, o, sp⟩ := ad
          go_wp2_with fail
          all_goals (refine (HPj.out _ (by rw [← HX.out]; exact rd_part HRd.out b4 _ (fun ad h => by cases h; first | exact .inl rfl | exact .inr ⟨by omega, _, rfl⟩) fun h => by cases h)).mono ?_; rintro e w4 ⟨rfl, B4⟩)
          all_goals go_wp2_with fail
          all_goals go_ret2
          all_goals (rw [HE.out]; exact ⟨rfl, HB3.out.trans (B4.mono HB3.out.size)⟩)

set_option maxHeartbeats 2000000 in
theorem Pword_any (w : World) (p0 p1 : ByteArray) (h0 : p0.size ≤ 9000) (h1 : p1.size ≤ 9000) : Calls Tryz.prog 61 #[.string p0, .string p1] w fun e w' => e = ansE (pickS (numS p0) (numS p0) (wordsS p1)) ∧ Below w.heap.size w w' := by
  have HC := Lib.hid (Pwordlist_any w p0 p0 p1 h0 h0 h1)
  generalize pickS (numS p0) (numS p0) (wordsS p1) = r at *
  obtain ⟨r1, r2⟩ := r
  simp only [ansE] at HC ⊢
  go_enter Tryz.func61, Tryz.ntmps61
  go_wp2_with fail
  refine HC.out.mono ?_
  rintro e w1 ⟨rfl, B1⟩
  go_wp2_with fail
  go_ret2
  exact ⟨rfl, B1⟩
set_option maxHeartbeats 2000000 in
theorem Pstrip_any (w : World) (p : ByteArray) (h0 : p.size ≤ 9000) : Calls Tryz.prog 55 #[.string p] w fun e w' => e = .returned (.string (joinS (wordsS p))) ∧ Below w.heap.size w w' := by
  have HL := Lib.hid fun W => PSplit_any W p (by omega)
  have hwl := words_few p
  have HS : Hid (∀ q ∈ wordsS p, q.size ≤ 9000) := Lib.hid fun q hq => word_lim h0 hq
  generalize wordsS p = L at *
  go_enter Tryz.func55, Tryz.ntmps55
  go_wp2_with fail
  refine (HL.out _).mono ?_
  rintro e w1 ⟨a1, c1, rfl, HO, B1⟩
  have HJ := Lib.hid (PJoin_any w1 _ L (Rd.of_own HO.out) (by omega) (fun q hq => by have := HS.out q hq; omega))
  have HB := Lib.hid B1
  clear B1
  go_wp2_with fail
  refine HJ.out.mono ?_
  rintro e w2 ⟨rfl, B2⟩
  go_wp2_with fail
  go_ret
  exact ⟨rfl, HB.out.trans (B2.mono HB.out.size)⟩
theorem join_one (x : ByteArray) : joinS [x] = x := by
  refine by8_ext ?_
  show Lib.join [x.data.toList] [32] = by8 x
  rw [Lib.join_one]; rfl
theorem some_nil (a b : Nat) : someS [] a b = [] := by simp [someS]
theorem some_last {L : List ByteArray} (h : 0 < L.length) : someS L (max L.length 1) L.length = [L[L.length - 1]'(by omega)] := by
  unfold someS
  rw [List.take_of_length_le (Nat.le_refl _), Nat.max_eq_left (by omega), List.drop_eq_getElem_cons (by omega), List.drop_of_length_le (by omega)]
set_option maxHeartbeats 2000000 in
theorem Plast_any (w : World) (p : ByteArray) (h0 : p.size ≤ 9000) : Calls Tryz.prog 66 #[.string p] w fun e w' => e = .returned (.string (joinS (someS (wordsS p) (max (wordsS p).length 1) (wordsS p).length))) ∧ Below w.heap.size w w' := by
  have HL := Lib.hid fun W => PSplit_any W p (by omega)
  have hwl := words_few p
  generalize wordsS p = L at *
  by_cases hz : L.length = 0
  · obtain rfl : L = [] := List.length_eq_zero_iff.1 hz
    clear hz
    have HE : Hid (joinS (someS ([] : List ByteArray) (max ([] : List ByteArray).length 1) ([] : List ByteArray).length) = ⟨#[]⟩) := Lib.hid (by rw [some_nil]; rfl)
    rw [HE.out]
    go_enter Tryz.func66, Tryz.ntmps66
    go_wp2_with fail
    refine (HL.out _).mono ?_
    rintro e w1 ⟨a1, c1, rfl, HO, B1⟩
    go_wp2_with fail
    go_ret
    exact ⟨rfl, B1⟩
  · obtain ⟨x, HX⟩ : ∃ x, Hid (L[L.length - 1]'(by omega) = x) := ⟨_, Lib.hid rfl⟩
    have HE := Lib.hid (some_last (L := L) (by omega))
    rw [HE.out, join_one, HX.out]
    have e1 : ((L.length : Int) == 0) = false := beq_eq_false_iff_ne.2 (by omega)
    have e2 : IntKind.i64.wrap ((L.length : Int) - 1) = (L.length : Int) - 1 := by rw [IntWalk.i64_in _ (by omega)]
    have e3 : (0 : Int) ≤ (L.length : Int) - 1 := by omega
    have e4 : (L.length : Int) - 1 < (L.length : Int) := by omega
    have e5 : ((L.length : Int) - 1).toNat = L.length - 1 := by omega
    go_enter Tryz.func66, Tryz.ntmps66
    go_wp2_with fail
    refine (HL.out _).mono ?_
    rintro e w1 ⟨a1, c1, rfl, HO, B1⟩
    obtain ⟨b, o, c', hv', hc, hb, hx⟩ := (Rd.of_own HO.out).open_ (by rw [strsC_len]; omega)
    rw [strsC_len] at hv' hc
    obtain ⟨rfl, _, rfl⟩ := (Value.slice.injEq ..).mp hv'
    have hcx := hx (L.length - 1) _ (strsC_get L (show L.length - 1 < L.length by omega))
    rw [HX.out] at hcx
    clear hx hv'
    go_wp2_with fail
    go_ret
    exact ⟨rfl, B1⟩
end Go.Proofs.YtenokbceamcekaaGreatDoor.Ew
