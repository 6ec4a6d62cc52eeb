/-
  package text: wordlist, word, last, strip.
  package text: patsubst, addprefix, addsuffix; each and filter as values; word and wordlist of a list.
-/
import Derived.Test.YtgednccpjegbmaaGreatDoorQEPNum
import Derived.Test.YtgednccpjegbmaaGreatDoorQEPFns1
import Derived.Test.YtgednccpjegbmaaGreatDoorQEPKept
namespace Go.Proofs.YtgednccpjegbmaaGreatDoor.Ew
open Go.RowKit Go.Proofs.YtgednccpjegbmaaGreatDoor Go.Proofs.YtgednccpjegbmaaGreatDoor.Ww Go.Proofs.YtgednccpjegbmaaGreatDoor.Tw
set_option maxRecDepth 100000

theorem drop_len {L : List ByteArray} {m k : Nat} (hm : m ≤ L.length) : ((L.take m).drop k).length = m - k := by rw [List.length_drop, List.length_take]; omega
/-- A part of a slice of strings. -/
theorem rd_part {w : World} {B c m k : Nat} {a : Option Addr} {L : List ByteArray} (hr : Rd w B (.slice a L.length c) (strsC L)) (hm : m ≤ L.length) (v : Value)
    (hv : ∀ ad : Addr, a = some ad → v = .slice (some (ad.add k)) (m - k) (c - k) ∨ (m - k = 0 ∧ ∃ c', v = .slice (some ad) (m - k) c')) (hn : a = none → v = .slice none (m - k) (c - k)) : Rd w B v (strsC ((L.take m).drop k)) := by
  by_cases h : k < m
  · obtain ⟨b, o, c', hv', hc, hb, hx⟩ := hr.open_ (by rw [strsC_len]; omega)
    rw [strsC_len] at hv' hc
    obtain ⟨rfl, _, rfl⟩ := (Value.slice.injEq ..).mp hv'
    rcases hv _ rfl with rfl | ⟨h0, _⟩
    · refine ⟨some ⟨b, o + k, none⟩, c - k, by rw [strsC_len, drop_len hm]; simp [Addr.add], by rw [strsC_len, drop_len hm]; omega, fun _ => ⟨b, o + k, rfl, hb, fun j u hj => ?_⟩⟩
      rw [Nat.add_assoc]
      refine hx (k + j) u ?_
      unfold strsC at hj ⊢
      have hl := (List.getElem?_eq_some_iff.1 hj).1
      rw [List.length_map, drop_len hm] at hl
      rw [List.map_drop, List.map_take, List.getElem?_drop, List.getElem?_take_of_lt (by omega)] at hj
      exact hj
    · omega
  · have e : (L.take m).drop k = [] := List.length_eq_zero_iff.1 (by rw [drop_len hm]; omega)
    have e2 : m - k = 0 := by omega
    rw [e]
    cases a with
    | none => rw [hn rfl, e2]; exact Rd.nil _ _ _ _
    | some ad =>
      rcases hv _ rfl with rfl | ⟨_, c', rfl⟩
      · rw [e2]; exact Rd.nil _ _ _ _
      · rw [e2]; exact Rd.nil _ _ _ _
theorem take_part (L : List ByteArray) (i j : Nat) : (L.take (min j L.length)).drop (min (i - 1) (min j L.length)) = someS L i j := by
  unfold someS
  have e : L.take (min j L.length) = L.take j := by
    rcases Nat.le_total j L.length with h | h
    · rw [Nat.min_eq_left h]
    · rw [Nat.min_eq_right h, List.take_of_length_le (Nat.le_refl _), List.take_of_length_le h]
  rw [e]
  rcases Nat.le_total (i - 1) (min j L.length) with h | h
  · rw [Nat.min_eq_left h]
  · rw [Nat.min_eq_right h, List.drop_of_length_le (by rw [List.length_take]; exact Nat.le_refl _), List.drop_of_length_le (by rw [List.length_take]; exact h)]
set_option maxHeartbeats 2000000 in
theorem Pwordlist_any (w : World) (p0 p1 p2 : ByteArray) (h0 : p0.size ≤ 9000) (h1 : p1.size ≤ 9000) (h2 : p2.size ≤ 9000) : Calls Tryz.prog 249 #[.string p0, .string p1, .string p2] w fun e w' => e = ansE (pickS (numS p0) (numS p1) (wordsS p2)) ∧ Below w.heap.size w w' := by
  have HN0 := Lib.hid fun W => Pnumber_any W p0 (by omega)
  have HN1 := Lib.hid fun W => Pnumber_any W p1 (by omega)
  have HL := Lib.hid fun W => PSplit_any W p2 (by omega)
  have hwl := words_few p2
  have HS : Hid (∀ q ∈ wordsS p2, q.size ≤ 9000) := Lib.hid fun q hq => word_lim h2 hq
  have hm0 := fun m => @numS_le p0 m
  have hm1 := fun m => @numS_le p1 m
  generalize wordsS p2 = L at *
  generalize numS p0 = a at *
  generalize numS p1 = b at *
  cases a with
  | none =>
    rw [numE_none rfl] at HN0
    have HE := Lib.hid (pick_bad1 (a := none) (b := b) (L := L) (by decide))
    clear hm0 hm1
    go_enter Tryz.func249, Tryz.ntmps249
    go_wp2_with fail
    refine (HN0.out _).mono ?_
    rintro e w1 ⟨rfl, B1⟩
    go_wp2_with fail
    go_ret2
    rw [HE.out]
    exact ⟨rfl, B1⟩
  | some i =>
    have hi := hm0 i rfl
    rw [numE_some rfl] at HN0
    clear hm0
    by_cases hi0 : i = 0
    · subst hi0
      have HE := Lib.hid (pick_bad1 (a := some 0) (b := b) (L := L) (by decide))
      clear hm1
      go_enter Tryz.func249, Tryz.ntmps249
      go_wp2_with fail
      refine (HN0.out _).mono ?_
      rintro e w1 ⟨rfl, B1⟩
      go_wp2_with fail
      go_ret2
      rw [HE.out]
      exact ⟨rfl, B1⟩
    · have hi1 : ((i : Int) == 0) = false := beq_eq_false_iff_ne.2 (by omega)
      cases b with
      | none =>
        rw [numE_none rfl] at HN1
        have HE := Lib.hid (pick_bad2 (a := some i) (b := none) (L := L) (by decide))
        clear hm1
        go_enter Tryz.func249, Tryz.ntmps249
        go_wp2_with fail
        refine (HN0.out _).mono ?_
        rintro e w1 ⟨rfl, B1⟩
        have HB1 := Lib.hid B1
        clear B1
        go_wp2_with fail
        refine (HN1.out _).mono ?_
        rintro e w2 ⟨rfl, B2⟩
        have HB2 := Lib.hid (HB1.out.trans (B2.mono HB1.out.size))
        clear B2
        go_wp2_with fail
        go_ret2
        rw [HE.out]
        exact ⟨rfl, HB2.out⟩
      | some j =>
        have hj := hm1 j rfl
        rw [numE_some rfl] at HN1
        have HE := Lib.hid (pick_good (a := i) (b := j) (L := L) (by omega))
        clear hm1
        obtain ⟨m, HM⟩ : ∃ m, Hid (m = min j L.length) := ⟨_, Lib.hid rfl⟩
        obtain ⟨k, HK⟩ : ∃ k, Hid (k = min (i - 1) m) := ⟨_, Lib.hid rfl⟩
        have e1 : min (j : Int) (L.length : Int) = (m : Int) := by have := HM.out; omega
        have e2 : min ((i : Int) - 1) (m : Int) = (k : Int) := by have := HK.out; omega
        have e3 : IntKind.i64.wrap ((i : Int) - 1) = (i : Int) - 1 := by rw [IntWalk.i64_in _ (by omega)]
        have b1 : (0 : Int) ≤ (m : Int) := by omega
        have b2 : (0 : Int) ≤ (k : Int) := by omega
        have b3 : (k : Int) ≤ (m : Int) := by have := HK.out; omega
        have b4 : m ≤ L.length := by have := HM.out; omega
        have HX : Hid ((L.take m).drop k = someS L i j) := Lib.hid (by
          rw [HK.out, HM.out, take_part])
        go_enter Tryz.func249, Tryz.ntmps249
        go_wp2_with fail
        refine (HN0.out _).mono ?_
        rintro e w1 ⟨rfl, B1⟩
        have HB1 := Lib.hid B1
        clear B1
        go_wp2_with fail
        refine (HN1.out _).mono ?_
        rintro e w2 ⟨rfl, B2⟩
        have HB2 := Lib.hid (HB1.out.trans (B2.mono HB1.out.size))
        clear B2
        go_wp2_with fail
        refine (HL.out _).mono ?_
        rintro e w3 ⟨a1, c1, rfl, HO, B3⟩
        have HB3 := Lib.hid (HB2.out.trans (B3.mono HB2.out.size))
        obtain ⟨_, c', hv, hc⟩ := (Rd.of_own HO.out).shape
        rw [strsC_len] at hv hc
        obtain ⟨rfl, _, rfl⟩ := (Value.slice.injEq ..).mp hv
        have b5 : (m : Int) ≤ (c1 : Int) := by omega
        clear B3 hv
        have HRd := Lib.hid (Rd.of_own HO.out)
        have HPj := Lib.hid fun v hr => PJoin_any w3 v (someS L i j) hr (by have := someS_len L i j; omega) (fun q hq => by have := HS.out q (List.mem_of_mem_take (List.mem_of_mem_drop hq)); omega)
        cases a1 with
        | none =>
          go_wp2_with fail
          all_goals (refine (HPj.out _ (by rw [← HX.out]; exact rd_part HRd.out b4 _ (fun ad h => by cases h) fun _ => rfl)).mono ?_; rintro e w4 ⟨rfl, B4⟩)
          all_goals go_wp2_with fail
          all_goals go_ret2
          all_goals (rw [HE.out]; exact ⟨rfl, HB3.out.trans (B4.mono HB3.out.size)⟩)
        | some ad =>
          obtain ⟨g, o, sp⟩ := ad
          go_wp2_with fail
          all_goals (refine (HPj.out _ (by rw [← HX.out]; exact rd_part HRd.out b4 _ (fun ad h => by cases h; first | exact .inl rfl | exact .inr ⟨by omega, _, rfl⟩) fun h => by cases h)).mono ?_; rintro e w4 ⟨rfl, B4⟩)
          all_goals go_wp2_with fail
          all_goals go_ret2
          all_goals (rw [HE.out]; exact ⟨rfl, HB3.out.trans (B4.mono HB3.out.size)⟩)

set_option maxHeartbeats 2000000 in
theorem Pword_any (w : World) (p0 p1 : ByteArray) (h0 : p0.size ≤ 9000) (h1 : p1.size ≤ 9000) : Calls Tryz.prog 246 #[.string p0, .string p1] w fun e w' => e = ansE (pickS (numS p0) (numS p0) (wordsS p1)) ∧ Below w.heap.size w w' := by
  have HC := Lib.hid (Pwordlist_any w p0 p0 p1 h0 h0 h1)
  generalize pickS (numS p0) (numS p0) (wordsS p1) = r at *
  obtain ⟨r1, r2⟩ := r
  simp only [ansE] at HC ⊢
  go_enter Tryz.func246, Tryz.ntmps246
  go_wp2_with fail
  refine HC.out.mono ?_
  rintro e w1 ⟨rfl, B1⟩
  go_wp2_with fail
  go_ret2
  exact ⟨rfl, B1⟩
set_option maxHeartbeats 2000000 in
theorem Pstrip_any (w : World) (p : ByteArray) (h0 : p.size ≤ 9000) : Calls Tryz.prog 240 #[.string p] w fun e w' => e = .returned (.string (joinS (wordsS p))) ∧ Below w.heap.size w w' := by
  have HL := Lib.hid fun W => PSplit_any W p (by omega)
  have hwl := words_few p
  have HS : Hid (∀ q ∈ wordsS p, q.size ≤ 9000) := Lib.hid fun q hq => word_lim h0 hq
  generalize wordsS p = L at *
  go_enter Tryz.func240, Tryz.ntmps240
  go_wp2_with fail
  refine (HL.out _).mono ?_
  rintro e w1 ⟨a1, c1, rfl, HO, B1⟩
  have HJ := Lib.hid (PJoin_any w1 _ L (Rd.of_own HO.out) (by omega) (fun q hq => by have := HS.out q hq; omega))
  have HB := Lib.hid B1
  clear B1
  go_wp2_with fail
  refine HJ.out.mono ?_
  rintro e w2 ⟨rfl, B2⟩
  go_wp2_with fail
  go_ret
  exact ⟨rfl, HB.out.trans (B2.mono HB.out.size)⟩
theorem some_nil (a b : Nat) : someS [] a b = [] := by simp [someS]
theorem some_last {L : List ByteArray} (h : 0 < L.length) : someS L (max L.length 1) L.length = [L[L.length - 1]'(by omega)] := by
  unfold someS
  rw [List.take_of_length_le (Nat.le_refl _), Nat.max_eq_left (by omega), List.drop_eq_getElem_cons (by omega), List.drop_of_length_le (by omega)]
set_option maxHeartbeats 2000000 in
theorem Plast_any (w : World) (p : ByteArray) (h0 : p.size ≤ 9000) : Calls Tryz.prog 251 #[.string p] w fun e w' => e = .returned (.string (joinS (someS (wordsS p) (max (wordsS p).length 1) (wordsS p).length))) ∧ Below w.heap.size w w' := by
  have HL := Lib.hid fun W => PSplit_any W p (by omega)
  have hwl := words_few p
  generalize wordsS p = L at *
  by_cases hz : L.length = 0
  · obtain rfl : L = [] := List.length_eq_zero_iff.1 hz
    clear hz
    have HE : Hid (joinS (someS ([] : List ByteArray) (max ([] : List ByteArray).length 1) ([] : List ByteArray).length) = ⟨#[]⟩) := Lib.hid (by rw [some_nil]; rfl)
    rw [HE.out]
    go_enter Tryz.func251, Tryz.ntmps251
    go_wp2_with fail
    refine (HL.out _).mono ?_
    rintro e w1 ⟨a1, c1, rfl, HO, B1⟩
    go_wp2_with fail
    go_ret
    exact ⟨rfl, B1⟩
  · obtain ⟨x, HX⟩ : ∃ x, Hid (L[L.length - 1]'(by omega) = x) := ⟨_, Lib.hid rfl⟩
    have HE := Lib.hid (some_last (L := L) (by omega))
    rw [HE.out, join_one, HX.out]
    have e1 : ((L.length : Int) == 0) = false := beq_eq_false_iff_ne.2 (by omega)
    have e2 : IntKind.i64.wrap ((L.length : Int) - 1) = (L.length : Int) - 1 := by rw [IntWalk.i64_in _ (by omega)]
    have e3 : (0 : Int) ≤ (L.length : Int) - 1 := by omega
    have e4 : (L.length : Int) - 1 < (L.length : Int) := by omega
    have e5 : ((L.length : Int) - 1).toNat = L.length - 1 := by omega
    go_enter Tryz.func251, Tryz.ntmps251
    go_wp2_with fail
    refine (HL.out _).mono ?_
    rintro e w1 ⟨a1, c1, rfl, HO, B1⟩
    obtain ⟨b, o, c', hv', hc, hb, hx⟩ := (Rd.of_own HO.out).open_ (by rw [strsC_len]; omega)
    rw [strsC_len] at hv' hc
    obtain ⟨rfl, _, rfl⟩ := (Value.slice.injEq ..).mp hv'
    have hcx := hx (L.length - 1) _ (strsC_get L (show L.length - 1 < L.length by omega))
    rw [HX.out] at hcx
    clear hx hv'
    go_wp2_with fail
    go_ret
    exact ⟨rfl, B1⟩
end Go.Proofs.YtgednccpjegbmaaGreatDoor.Ew
namespace Go.Proofs.YtgednccpjegbmaaGreatDoor.Ew
open Go.RowKit Go.Proofs.YtgednccpjegbmaaGreatDoor Go.Proofs.YtgednccpjegbmaaGreatDoor.Ww Go.Proofs.YtgednccpjegbmaaGreatDoor.Tw
set_option maxRecDepth 100000

set_option maxHeartbeats 2000000 in
theorem word1_any (w : World) (v : Value) (A : List ByteArray) (hr : Rd w w.heap.size v (strsC A)) (hl : A.length = 2) (hs : ∀ p ∈ A, p.size ≤ 9000) :
    Calls Tryz.prog 245 #[v] w fun e w' => e = ansE (resS 7 A) ∧ Below w.heap.size w w' := by
  obtain ⟨a0, c0, rfl, _⟩ := hr.shape
  simp only [strsC_len] at hr ⊢
  obtain ⟨g0, o, rfl, hn, hc, hg, hcell⟩ := rd_cell hr 0 (by omega)
  rw [hl] at hr hc ⊢
  have hcm := hcell 0 (by omega)
  have hcm1 := hcell 1 (by omega)
  rw [Nat.add_zero] at hcm
  have HE : Hid (resS 7 A = pickS (numS (A.getD 0 ⟨#[]⟩)) (numS (A.getD 0 ⟨#[]⟩)) (wordsS (A.getD 1 ⟨#[]⟩))) := Lib.hid rfl
  have HC := Lib.hid fun W => Pword_any W (A.getD 0 ⟨#[]⟩) (A.getD 1 ⟨#[]⟩) (getD_size hs 0) (getD_size hs 1)
  rw [HE.out]
  clear hcell hn hr hs HE
  generalize pickS (numS (A.getD 0 ⟨#[]⟩)) (numS (A.getD 0 ⟨#[]⟩)) (wordsS (A.getD 1 ⟨#[]⟩)) = r at *
  obtain ⟨r1, r2⟩ := r
  simp only [ansE] at HC ⊢
  generalize A.getD 0 ⟨#[]⟩ = p at *
  generalize A.getD 1 ⟨#[]⟩ = p1 at *
  go_enter Tryz.func245, Tryz.ntmps245
  have S5 : w.drew.cell? ⟨g0, o, none⟩ = some (.string p) ∧ w.drew.cell? ⟨g0, o + 1, none⟩ = some (.string p1) ∧ Below w.heap.size w w.drew := ⟨hcm, hcm1, (Below.refl _ _).drew⟩
  clear hcm hcm1
  go_wp2_with fail
  go_region_held3 (fun W => W.cell? ⟨g0, o, none⟩ = some (.string p) ∧ W.cell? ⟨g0, o + 1, none⟩ = some (.string p1) ∧ Below w.heap.size w W)
    (first | exact S7 | exact S5)
    (first
      | (go_at_call 246; refine (HC.out _).mono ?_; rintro e w7 ⟨rfl, B7⟩; have S7 : w7.cell? ⟨g0, o, none⟩ = some (.string p) ∧ w7.cell? ⟨g0, o + 1, none⟩ = some (.string p1) ∧ Below w.heap.size w w7 := ⟨(B7.cell (p := ⟨g0, o, none⟩) hg).trans S5.1, (B7.cell (p := ⟨g0, o + 1, none⟩) hg).trans S5.2.1, S5.2.2.trans (B7.mono S5.2.2.size)⟩))
  all_goals go_wp2_with fail
  all_goals go_ret2
  all_goals exact ⟨rfl, S7.2.2⟩
set_option maxHeartbeats 2000000 in
theorem wordlist1_any (w : World) (v : Value) (A : List ByteArray) (hr : Rd w w.heap.size v (strsC A)) (hl : A.length = 3) (hs : ∀ p ∈ A, p.size ≤ 9000) :
    Calls Tryz.prog 248 #[v] w fun e w' => e = ansE (resS 9 A) ∧ Below w.heap.size w w' := by
  obtain ⟨a0, c0, rfl, _⟩ := hr.shape
  simp only [strsC_len] at hr ⊢
  obtain ⟨g0, o, rfl, hn, hc, hg, hcell⟩ := rd_cell hr 0 (by omega)
  rw [hl] at hr hc ⊢
  have hcm := hcell 0 (by omega)
  have hcm1 := hcell 1 (by omega)
  have hcm2 := hcell 2 (by omega)
  rw [Nat.add_zero] at hcm
  have HE : Hid (resS 9 A = pickS (numS (A.getD 0 ⟨#[]⟩)) (numS (A.getD 1 ⟨#[]⟩)) (wordsS (A.getD 2 ⟨#[]⟩))) := Lib.hid rfl
  have HC := Lib.hid fun W => Pwordlist_any W (A.getD 0 ⟨#[]⟩) (A.getD 1 ⟨#[]⟩) (A.getD 2 ⟨#[]⟩) (getD_size hs 0) (getD_size hs 1) (getD_size hs 2)
  rw [HE.out]
  clear hcell hn hr hs HE
  generalize pickS (numS (A.getD 0 ⟨#[]⟩)) (numS (A.getD 1 ⟨#[]⟩)) (wordsS (A.getD 2 ⟨#[]⟩)) = r at *
  obtain ⟨r1, r2⟩ := r
  simp only [ansE] at HC ⊢
  generalize A.getD 0 ⟨#[]⟩ = p at *
  generalize A.getD 1 ⟨#[]⟩ = p1 at *
  generalize A.getD 2 ⟨#[]⟩ = p2 at *
  go_enter Tryz.func248, Tryz.ntmps248
  have S5 : w.drew.cell? ⟨g0, o, none⟩ = some (.string p) ∧ w.drew.cell? ⟨g0, o + 1, none⟩ = some (.string p1) ∧ w.drew.cell? ⟨g0, o + 2, none⟩ = some (.string p2) ∧ Below w.heap.size w w.drew := ⟨hcm, hcm1, hcm2, (Below.refl _ _).drew⟩
  clear hcm hcm1 hcm2
  go_wp2_with fail
  go_region_held3 (fun W => W.cell? ⟨g0, o, none⟩ = some (.string p) ∧ W.cell? ⟨g0, o + 1, none⟩ = some (.string p1) ∧ W.cell? ⟨g0, o + 2, none⟩ = some (.string p2) ∧ Below w.heap.size w W)
    (first | exact S7 | exact S5)
    (first
      | (go_at_call 249; refine (HC.out _).mono ?_; rintro e w7 ⟨rfl, B7⟩; have S7 : w7.cell? ⟨g0, o, none⟩ = some (.string p) ∧ w7.cell? ⟨g0, o + 1, none⟩ = some (.string p1) ∧ w7.cell? ⟨g0, o + 2, none⟩ = some (.string p2) ∧ Below w.heap.size w w7 := ⟨(B7.cell (p := ⟨g0, o, none⟩) hg).trans S5.1, (B7.cell (p := ⟨g0, o + 1, none⟩) hg).trans S5.2.1, (B7.cell (p := ⟨g0, o + 2, none⟩) hg).trans S5.2.2.1, S5.2.2.2.trans (B7.mono S5.2.2.2.size)⟩))
  all_goals go_wp2_with fail
  all_goals go_ret2
  all_goals exact ⟨rfl, S7.2.2.2⟩

theorem CK.alloc (w : World) (o : Obj) : CK w (w.alloc o) := CK.of ((Below.refl _ w).alloc (Nat.le_refl _) o)
theorem each_any (w : World) (g : Nat) (lb : Array Value) : Calls Tryz.prog 252 #[FA g lb] w fun e w' => e = .returned (FA 289 #[.pointer (some ⟨w.heap.size, 0, none⟩)]) ∧ w.alloc (.cells #[FA g lb] FT) = w' := by
  go_enter Tryz.func252, Tryz.ntmps252
  go_wp2_with fail
  go_ret
  exact ⟨rfl, rfl⟩
theorem eg_each1 : Enters 289 := enters_of Tryz.func289 (by kernel_rfl) rfl
theorem each_fn (w : World) (g : Nat) (lb : Array Value) (f : ByteArray → ByteArray) (eg : Enters g) (HG : ∀ W x, CK w W → x.size ≤ 9000 → Calls Tryz.prog g (#[.string x] ++ lb) W fun e w' => e = .returned (.string (f x)) ∧ Below W.heap.size W w') (hf : ∀ x, x.size ≤ 9000 → (f x).size ≤ 100000) :
    Fn1 (w.alloc (.cells #[FA g lb] FT)) 289 #[.pointer (some ⟨w.heap.size, 0, none⟩)] (fun s => joinS (eachS f (wordsS s))) :=
  ⟨eg_each1, fun w' p c _ hp => each1_any w' p hp w.heap.size g lb f eg (c.box (Boxed.new w FT (FA g lb))) (fun W x hW hx => HG W x (((CK.alloc w _).trans c).trans (CK.of hW)) hx) hf⟩
theorem filter_any (w : World) (q : Bool) : Calls Tryz.prog 243 #[.bool q] w fun e w' => e = .returned (FA 285 #[.pointer (some ⟨w.heap.size, 0, none⟩)]) ∧ w.alloc (.cells #[.bool q] 4) = w' := by
  go_enter Tryz.func243, Tryz.ntmps243
  go_wp2_with fail
  go_ret
  exact ⟨rfl, rfl⟩
theorem eg_filter1 : Enters 285 := enters_of Tryz.func285 (by kernel_rfl) rfl
theorem filter_fn (w : World) (q : Bool) : Fn2 (w.alloc (.cells #[.bool q] 4)) 285 #[.pointer (some ⟨w.heap.size, 0, none⟩)] (fun p s => joinS (keptS (wordsS p) q (wordsS s))) :=
  ⟨eg_filter1, fun w' p s c _ hp hs => filter1_any w' p s hp hs w.heap.size q (c.box (Boxed.new w 4 (.bool q)))⟩
theorem prefix1_any (w : World) (b : Nat) (p x : ByteArray) (hb : Boxed w b ST (.string p)) (hp : p.size ≤ 9000) (hx : x.size ≤ 9000) : Calls Tryz.prog 290 #[.string x, .pointer (some ⟨b, 0, none⟩)] w fun e w' => e = .returned (.string (p ++ x)) ∧ Below w.heap.size w w' := by
  have c1 := hb.cell
  have hz : p.size + x.size ≤ 18000 := by omega
  clear hb
  go_enter Tryz.func290, Tryz.ntmps290
  go_wp2_with fail
  go_ret
  exact ⟨rfl, Below.refl _ _⟩
theorem suffix1_any (w : World) (b : Nat) (p x : ByteArray) (hb : Boxed w b ST (.string p)) (hp : p.size ≤ 9000) (hx : x.size ≤ 9000) : Calls Tryz.prog 291 #[.string x, .pointer (some ⟨b, 0, none⟩)] w fun e w' => e = .returned (.string (x ++ p)) ∧ Below w.heap.size w w' := by
  have c1 := hb.cell
  have hz : x.size + p.size ≤ 18000 := by omega
  clear hb
  go_enter Tryz.func291, Tryz.ntmps291
  go_wp2_with fail
  go_ret
  exact ⟨rfl, Below.refl _ _⟩
theorem eg_prefix1 : Enters 290 := enters_of Tryz.func290 (by kernel_rfl) rfl
theorem eg_suffix1 : Enters 291 := enters_of Tryz.func291 (by kernel_rfl) rfl
set_option maxHeartbeats 2000000 in
theorem Paddprefix_any (w : World) (p s : ByteArray) (hp : p.size ≤ 9000) (hs : s.size ≤ 9000) : Calls Tryz.prog 257 #[.string p, .string s] w fun e w' => e = .returned (.string (joinS (eachS (fun x => p ++ x) (wordsS s)))) ∧ Below w.heap.size w w' := by
  have HE := Lib.hid fun W => each_any W 290 #[.pointer (some ⟨w.heap.size, 0, none⟩)]
  have hA := ((Below.refl w.heap.size w).alloc (Nat.le_refl _) (.cells #[.string p] ST)).alloc (by simp) (.cells #[FA 290 #[.pointer (some ⟨w.heap.size, 0, none⟩)]] FT)
  have hbx : Boxed ((w.alloc (.cells #[.string p] ST)).alloc (.cells #[FA 290 #[.pointer (some ⟨w.heap.size, 0, none⟩)]] FT)) w.heap.size ST (.string p) := (Boxed.new w ST (.string p)).alloc _
  have hfb : Boxed ((w.alloc (.cells #[.string p] ST)).alloc (.cells #[FA 290 #[.pointer (some ⟨w.heap.size, 0, none⟩)]] FT)) (w.heap.size + 1) FT (FA 290 #[.pointer (some ⟨w.heap.size, 0, none⟩)]) := by
    have := Boxed.new (w.alloc (.cells #[.string p] ST)) FT (FA 290 #[.pointer (some ⟨w.heap.size, 0, none⟩)])
    rwa [World.size_alloc] at this
  have HC := Lib.hid (each1_any _ s hs (w.heap.size + 1) 290 #[.pointer (some ⟨w.heap.size, 0, none⟩)] (fun x => p ++ x) eg_prefix1 hfb (fun W x hW hx => prefix1_any W w.heap.size p x ((CK.of hW).box hbx) hp hx) (fun x hx => by rw [ByteArray.size_append]; omega))
  have HA := Lib.hid hA
  clear hfb hbx hA
  generalize joinS (eachS (fun x => p ++ x) (wordsS s)) = r at *
  go_enter Tryz.func257, Tryz.ntmps257
  go_wp2_with fail
  refine (HE.out _).mono ?_
  rintro e w' ⟨rfl, rfl⟩
  go_wp2_with fail
  refine HC.out.mono ?_
  rintro e w3 ⟨rfl, B3⟩
  go_wp2_with fail
  go_ret
  exact ⟨rfl, HA.out.trans (B3.mono HA.out.size)⟩
set_option maxHeartbeats 2000000 in
theorem Paddsuffix_any (w : World) (p s : ByteArray) (hp : p.size ≤ 9000) (hs : s.size ≤ 9000) : Calls Tryz.prog 258 #[.string p, .string s] w fun e w' => e = .returned (.string (joinS (eachS (fun x => x ++ p) (wordsS s)))) ∧ Below w.heap.size w w' := by
  have HE := Lib.hid fun W => each_any W 291 #[.pointer (some ⟨w.heap.size, 0, none⟩)]
  have hA := ((Below.refl w.heap.size w).alloc (Nat.le_refl _) (.cells #[.string p] ST)).alloc (by simp) (.cells #[FA 291 #[.pointer (some ⟨w.heap.size, 0, none⟩)]] FT)
  have hbx : Boxed ((w.alloc (.cells #[.string p] ST)).alloc (.cells #[FA 291 #[.pointer (some ⟨w.heap.size, 0, none⟩)]] FT)) w.heap.size ST (.string p) := (Boxed.new w ST (.string p)).alloc _
  have hfb : Boxed ((w.alloc (.cells #[.string p] ST)).alloc (.cells #[FA 291 #[.pointer (some ⟨w.heap.size, 0, none⟩)]] FT)) (w.heap.size + 1) FT (FA 291 #[.pointer (some ⟨w.heap.size, 0, none⟩)]) := by
    have := Boxed.new (w.alloc (.cells #[.string p] ST)) FT (FA 291 #[.pointer (some ⟨w.heap.size, 0, none⟩)])
    rwa [World.size_alloc] at this
  have HC := Lib.hid (each1_any _ s hs (w.heap.size + 1) 291 #[.pointer (some ⟨w.heap.size, 0, none⟩)] (fun x => x ++ p) eg_suffix1 hfb (fun W x hW hx => suffix1_any W w.heap.size p x ((CK.of hW).box hbx) hp hx) (fun x hx => by rw [ByteArray.size_append]; omega))
  have HA := Lib.hid hA
  clear hfb hbx hA
  generalize joinS (eachS (fun x => x ++ p) (wordsS s)) = r at *
  go_enter Tryz.func258, Tryz.ntmps258
  go_wp2_with fail
  refine (HE.out _).mono ?_
  rintro e w' ⟨rfl, rfl⟩
  go_wp2_with fail
  refine HC.out.mono ?_
  rintro e w3 ⟨rfl, B3⟩
  go_wp2_with fail
  go_ret
  exact ⟨rfl, HA.out.trans (B3.mono HA.out.size)⟩
set_option maxHeartbeats 2000000 in
theorem Ppatsubst_any (w : World) (a b s : ByteArray) (ha : a.size ≤ 9000) (hb : b.size ≤ 9000) (hs : s.size ≤ 9000) : Calls Tryz.prog 238 #[.string a, .string b, .string s] w fun e w' => e = .returned (.string (joinS (eachS (fun x => chS (trimT a) (trimT b) x) (wordsS s)))) ∧ Below w.heap.size w w' := by
  have HL := Lib.hid fun W => PSplit_any W s (by omega)
  have HTa := Lib.hid fun W => PTrim_any W a (by omega)
  have HTb := Lib.hid fun W => PTrim_any W b (by omega)
  have hwl := words_few s
  have HS : Hid (∀ q ∈ wordsS s, q.size ≤ 9000) := Lib.hid fun q hq => word_lim hs hq
  have hta := trim_len a
  have htb := trim_len b
  have HE : Hid (eachS (fun x => chS (trimT a) (trimT b) x) (wordsS s) = fullS ((wordsS s).map (chS (trimT a) (trimT b)))) := Lib.hid rfl
  rw [HE.out]
  clear HE
  generalize wordsS s = L at *
  generalize trimT a = ta at *
  generalize trimT b = tb at *
  go_enter Tryz.func238, Tryz.ntmps238
  go_wp2_with fail
  refine (HL.out _).mono ?_
  rintro e w1 ⟨a1, c1, rfl, HO, B1⟩
  have HB1 := Lib.hid B1
  clear B1
  go_wp2_with fail
  refine (HTa.out _).mono ?_
  rintro e w2 ⟨rfl, B2⟩
  have HB2 := Lib.hid (HB1.out.trans (B2.mono HB1.out.size))
  have HO2 := Lib.hid (owns_below HO.out B2)
  clear B2
  go_wp2_with fail
  refine (HTb.out _).mono ?_
  rintro e w3 ⟨rfl, B3⟩
  have HB3 := Lib.hid (HB2.out.trans (B3.mono HB2.out.size))
  have HA := Lib.hid (All_own w3 (.slice a1 L.length c1) L ta tb (Rd.of_own (owns_below HO2.out B3)) (by omega) (fun x hx => by have := HS.out x hx; omega) (by omega) (by omega))
  clear B3
  go_wp2_with fail
  refine HA.out.mono ?_
  rintro e w4 ⟨v4, rfl, ho4, B4⟩
  have HB4 := Lib.hid (HB3.out.trans (B4.mono HB3.out.size))
  have HP := Lib.hid (Plist_any w4 w3.heap.size v4 (L.map (chS ta tb)) (by rw [List.length_map]; exact ho4) B4.size (by rw [List.length_map]; omega) (fun q hq => by
    obtain ⟨y, hy, rfl⟩ := List.mem_map.1 hq
    have h1 := ch_len ta tb y
    have h2 := HS.out y hy
    omega))
  have hw3 := HB3.out.size
  obtain ⟨a4, c4, rfl⟩ := owns_slice ho4
  clear B4 ho4
  go_wp2_with fail
  refine HP.out.mono ?_
  rintro e w5 ⟨rfl, B5, _⟩
  go_wp2_with fail
  go_ret
  exact ⟨rfl, HB4.out.trans (B5.mono hw3)⟩
end Go.Proofs.YtgednccpjegbmaaGreatDoor.Ew
