/-
  flatironlaw13.TextWords, by what package text's functions return.
-/
import Derived.Test.YtcgigllfkaijnaaGreatDoorEFacts
import Derived.Test.YtcgigllfkaijnaaGreatDoorELaw
namespace Go.Proofs.YtcgigllfkaijnaaGreatDoor.Ew
open Go.RowKit Go.Proofs.YtcgigllfkaijnaaGreatDoor Go.Proofs.YtcgigllfkaijnaaGreatDoor.Ww Go.Proofs.YtcgigllfkaijnaaGreatDoor.Tw
set_option maxRecDepth 100000

set_option maxHeartbeats 2000000 in
theorem cl_any (W : World) (f : ByteArray) (v : Value) (r : ByteArray × Int) (HC : Calls Tryz.prog 8 #[.string f, v] W fun e w' => e = ansE r ∧ Below W.heap.size W w') :
    Calls Tryz.prog 13 #[.string f, v] W fun e w' => e = .returned (.string r.1) ∧ Below W.heap.size W w' := by
  have HH := Lib.hid HC
  clear HC
  obtain ⟨r1, r2⟩ := r
  simp only [ansE] at HH
  go_enter Tryz.func13, Tryz.ntmps13
  go_wp2_with fail
  refine HH.out.mono ?_
  rintro e w1 ⟨rfl, B1⟩
  go_wp2_with fail
  go_ret
  exact ⟨rfl, B1⟩
theorem cl_one (H : TextC) (k : Nat) (hk : k < 19) (ht : takesN k = 1) (s : ByteArray) (hs : s.size ≤ 9000) (W : World) (hG : GM W) :
    Calls Tryz.prog 13 #[.string (nm k), .slice (some ⟨W.heap.size, 0, none⟩) 1 1] (W.alloc (.cells #[.string s] ST)) fun e w' => e = .returned (.string (resS k [s]).1) ∧ Below W.heap.size W w' := by
  refine (cl_any _ _ _ (resS k [s]) (H.call _ _ [s] k (hG.below ((Below.refl _ W).alloc (Nat.le_refl _) _)) hk (rd_lit W [s] #[.string s] rfl 1 (Nat.le_refl _)) (by rw [ht]; rfl) fun p hp => by rw [List.mem_singleton.1 hp]; exact hs)).mono ?_
  rintro e w' ⟨rfl, hB⟩
  exact ⟨rfl, ((Below.refl _ W).alloc (Nat.le_refl _) _).trans (hB.mono (by simp))⟩
theorem cl_two (H : TextC) (k : Nat) (hk : k < 19) (ht : takesN k = 2) (p s : ByteArray) (hp : p.size ≤ 9000) (hs : s.size ≤ 9000) (W : World) (hG : GM W) :
    Calls Tryz.prog 13 #[.string (nm k), .slice (some ⟨W.heap.size, 0, none⟩) 2 2] (W.alloc (.cells #[.string p, .string s] ST)) fun e w' => e = .returned (.string (resS k [p, s]).1) ∧ Below W.heap.size W w' := by
  refine (cl_any _ _ _ (resS k [p, s]) (H.call _ _ [p, s] k (hG.below ((Below.refl _ W).alloc (Nat.le_refl _) _)) hk (rd_lit W [p, s] #[.string p, .string s] rfl 2 (Nat.le_refl _)) (by rw [ht]; rfl) fun q hq => by
    rcases List.mem_cons.1 hq with rfl | hq
    · exact hp
    · rw [List.mem_singleton.1 hq]; exact hs)).mono ?_
  rintro e w' ⟨rfl, hB⟩
  exact ⟨rfl, ((Below.refl _ W).alloc (Nat.le_refl _) _).trans (hB.mono (by simp))⟩
/-- Split, its answers written out. -/
theorem RSplit2_any (w : World) (s : ByteArray) (hs : s.size ≤ 1000000) : Calls Tryz.prog 14 #[.string s] w fun e w' => ∃ a c v2, e = .returned (.tuple #[.slice a (wordsS s).length c, v2]) ∧ Hid (Rd w' w'.heap.size (.slice a (wordsS s).length c) (strsC (wordsS s))) ∧ Below w.heap.size w w' := by
  refine (RSplit_any w s (by omega)).mono ?_
  rintro e w' ⟨v1, v2, rfl, hr, hr2, hB⟩
  obtain ⟨a, c, rfl, hc⟩ := hr.shape
  rw [strsC_len] at hr
  exact ⟨a, c, v2, by rw [strsC_len], Lib.hid hr, hB⟩

set_option maxHeartbeats 2000000 in
theorem words_long (H : TextC) (w : World) (hG : GM w) (p s : ByteArray) (h : 1000 < p.size + s.size) (hz : p.size + s.size ≤ 9000000000000000000) :
    Calls Tryz.prog 5 #[.string p, .string s] w (TruePost w) := by
  have HLv := Lib.hid fun W (hW : Below w.heap.size w W) => lives_any H W (hG.below hW)
  have hz1 : (1000 : Int) < (p.size : Int) + (s.size : Int) := by omega
  clear H
  go_enter Tryz.func5, Tryz.ntmps5
  go_wp2_with fail
  refine (HLv.out _ (Below.refl _ _)).mono ?_
  rintro e w1 ⟨rfl, B1⟩
  go_wp2_with fail
  refine (HLv.out _ B1).mono ?_
  rintro e w2 ⟨rfl, B2⟩
  go_wp2_with fail
  go_ret
  exact ⟨rfl, B1.trans (B2.mono B1.size)⟩

set_option maxHeartbeats 8000000 in
theorem TextWordsL_any (H : TextC) (w : World) (hG : GM w) (p s : ByteArray) (hz : p.size + s.size ≤ 9000000000000000000) :
    Calls Tryz.prog 5 #[.string p, .string s] w (TruePost w) := by
  by_cases hsz : 1000 < p.size + s.size
  · exact words_long H w hG p s hsz hz
  have hz1 : ¬ (1000 : Int) < (p.size : Int) + (s.size : Int) := by omega
  have HLv := Lib.hid fun W (hW : Below w.heap.size w W) => lives_any H W (hG.below hW)
  have HSp := Lib.hid fun W => RSplit2_any W s (by omega)
  have hX := sort_join s
  have hK1 := kept_join (wordsS p) true s
  have hK2 := kept_join (wordsS p) false s
  have hwl := words_few s
  have HS1 : Hid (∀ W, GM W → Calls Tryz.prog 13 #[.string ⟨#[115, 111, 114, 116]⟩, .slice (some ⟨W.heap.size, 0, none⟩) 1 1] (W.alloc (.cells #[.string s] ST)) fun e w' => e = .returned (.string (joinS (Wp.sortS (wordsS s)))) ∧ Below W.heap.size W w') := Lib.hid fun W hG => cl_one H 6 (by decide) rfl s (by omega) W hG
  have HS2 : Hid (∀ W, GM W → Calls Tryz.prog 13 #[.string ⟨#[115, 111, 114, 116]⟩, .slice (some ⟨W.heap.size, 0, none⟩) 1 1] (W.alloc (.cells #[.string (joinS (Wp.sortS (wordsS s)))] ST)) fun e w' => e = .returned (.string (joinS (Wp.sortS (wordsS s)))) ∧ Below W.heap.size W w') := Lib.hid fun W hG => by
    have h := cl_one H 6 (by decide) rfl (joinS (Wp.sortS (wordsS s))) (by omega) W hG
    rw [res_again] at h; exact h
  have HF1 : Hid (∀ W, GM W → Calls Tryz.prog 13 #[.string ⟨#[102, 105, 108, 116, 101, 114]⟩, .slice (some ⟨W.heap.size, 0, none⟩) 2 2] (W.alloc (.cells #[.string p, .string s] ST)) fun e w' => e = .returned (.string (joinS (keptS (wordsS p) true (wordsS s)))) ∧ Below W.heap.size W w') := Lib.hid fun W hG => cl_two H 4 (by decide) rfl p s (by omega) (by omega) W hG
  have HF2 : Hid (∀ W, GM W → Calls Tryz.prog 13 #[.string ⟨#[102, 105, 108, 116, 101, 114, 45, 111, 117, 116]⟩, .slice (some ⟨W.heap.size, 0, none⟩) 2 2] (W.alloc (.cells #[.string p, .string s] ST)) fun e w' => e = .returned (.string (joinS (keptS (wordsS p) false (wordsS s)))) ∧ Below W.heap.size W w') := Lib.hid fun W hG => cl_two H 5 (by decide) rfl p s (by omega) (by omega) W hG
  have hbs : (joinS (keptS (wordsS p) true (wordsS s)) ++ ⟨#[32]⟩ ++ joinS (keptS (wordsS p) false (wordsS s))).size ≤ 9000 := by
    rw [ByteArray.size_append, ByteArray.size_append]
    have : (⟨#[32]⟩ : ByteArray).size = 1 := rfl
    omega
  have HS3 : Hid (∀ W, GM W → Calls Tryz.prog 13 #[.string ⟨#[115, 111, 114, 116]⟩, .slice (some ⟨W.heap.size, 0, none⟩) 1 1] (W.alloc (.cells #[.string (joinS (keptS (wordsS p) true (wordsS s)) ++ ⟨#[32]⟩ ++ joinS (keptS (wordsS p) false (wordsS s)))] ST)) fun e w' => e = .returned (.string (joinS (Wp.sortS (wordsS s)))) ∧ Below W.heap.size W w') := Lib.hid fun W hG => by
    have h := cl_one H 6 (by decide) rfl _ hbs W hG
    rw [res_sort_both] at h; exact h
  have HSB := Lib.hid fun W => RSplit2_any W (joinS (keptS (wordsS p) true (wordsS s)) ++ ⟨#[32]⟩ ++ joinS (keptS (wordsS p) false (wordsS s))) (by omega)
  rw [res_both, kept_both_len] at HSB
  have HWd : Hid (∀ W, GM W → Calls Tryz.prog 13 #[.string ⟨#[119, 111, 114, 100, 115]⟩, .slice (some ⟨W.heap.size, 0, none⟩) 1 1] (W.alloc (.cells #[.string s] ST)) fun e w' => e = .returned (.string (str (Ep.digitsA (wordsS s).length))) ∧ Below W.heap.size W w') := Lib.hid fun W hG => cl_one H 8 (by decide) rfl s (by omega) W hG
  have HDg := Lib.hid fun W => Digits_any (wordsS s).length (by omega) W
  have HDi := Lib.hid fun W i (hi : i < (wordsS s).length) => Digits_any (i + 1) (by omega) W
  have HWo : Hid (∀ i (hi : i < (wordsS s).length), ∀ W, GM W → Calls Tryz.prog 13 #[.string ⟨#[119, 111, 114, 100]⟩, .slice (some ⟨W.heap.size, 0, none⟩) 2 2] (W.alloc (.cells #[.string (str (Ep.digitsA (i + 1))), .string s] ST)) fun e w' => e = .returned (.string (wordsS s)[i]) ∧ Below W.heap.size W w') := Lib.hid fun i hi W hG => by
    have hd := digits_len (i + 1)
    have h := cl_two H 7 (by decide) rfl (str (Ep.digitsA (i + 1))) s (by rw [str_size]; omega) (by omega) W hG
    rw [res_word hi (by omega)] at h; exact h
  have HGd : Hid (∀ x ∈ wordsS s, GoodS x ∧ x.size ≤ 1000) := Lib.hid fun x hx => ⟨words_good hx, by have := words_size hx; omega⟩
  have HE : Hid (∀ k, k = 12 ∨ k = 13 ∨ k = 14 ∨ k = 15 → ∀ x, GoodS x → x.size ≤ 1000 → ∀ W, GM W → Calls Tryz.prog 13 #[.string (nm k), .slice (some ⟨W.heap.size, 0, none⟩) 1 1] (W.alloc (.cells #[.string x] ST)) fun e w' => e = .returned (.string (oneS k [x] x)) ∧ Below W.heap.size W w') := Lib.hid fun k hk x hx hs W hG => by
    have h := cl_one H k (by omega) (by rcases hk with rfl | rfl | rfl | rfl <;> rfl) x (by omega) W hG
    rw [res_each hk hx] at h; exact h
  have hc1 : ¬ 9223372036854775807 < (joinS (keptS (wordsS p) true (wordsS s))).size + 1 := by omega
  have hc2 : ¬ 9223372036854775807 < (joinS (keptS (wordsS p) true (wordsS s))).size + 1 + (joinS (keptS (wordsS p) false (wordsS s))).size := by omega
  clear H hbs hX hK1 hK2
  generalize joinS (Wp.sortS (wordsS s)) = X at *
  generalize joinS (keptS (wordsS p) true (wordsS s)) = K1 at *
  generalize joinS (keptS (wordsS p) false (wordsS s)) = K2 at *
  generalize wordsS s = Ls at *
  generalize str (Ep.digitsA Ls.length) = D at *
  have eX : (X.toList == X.toList) = true := beq_self_eq_true _
  have eD : (D.toList == D.toList) = true := beq_self_eq_true _
  have eL : ((Ls.length : Int) == (Ls.length : Int)) = true := beq_self_eq_true _
  have eL2 : ((Ls.length : Int) != (Ls.length : Int)) = false := by rw [bne, beq_self_eq_true]; rfl
  go_enter Tryz.func5, Tryz.ntmps5
  go_wp2_with fail
  refine (HLv.out _ (Below.refl _ _)).mono ?_
  rintro e w1 ⟨rfl, B1⟩
  go_wp2_with fail
  refine (HSp.out _).mono ?_
  rintro e w2 ⟨a1, c1, v2, rfl, HR, B2⟩
  have HW2 := Lib.hid (B1.trans (B2.mono B1.size))
  have HB2 := Lib.hid (Below.refl w2.heap.size w2)
  have HGM := Lib.hid fun W (hW : Below w2.heap.size w2 W) => (hG.below HW2.out).below hW
  clear B1 B2
  go_wp2_with fail
  refine (HS1.out _ (HGM.out _ HB2.out)).mono ?_
  rintro e w3 ⟨rfl, B3⟩
  have HB3 := Lib.hid (HB2.out.trans (B3.mono HB2.out.size))
  clear B3
  go_wp2_with fail
  refine (HF1.out _ (HGM.out _ HB3.out)).mono ?_
  rintro e w4 ⟨rfl, B4⟩
  have HB4 := Lib.hid (HB3.out.trans (B4.mono HB3.out.size))
  clear B4
  go_wp2_with fail
  refine (HF2.out _ (HGM.out _ HB4.out)).mono ?_
  rintro e w5 ⟨rfl, B5⟩
  have HB5 := Lib.hid (HB4.out.trans (B5.mono HB4.out.size))
  clear B5
  go_wp2_with fail
  refine (HSB.out _).mono ?_
  rintro e w6 ⟨a3, c3, v4, rfl, HR6, B6⟩
  have HB6 := Lib.hid (HB5.out.trans (B6.mono HB5.out.size))
  clear B6
  go_wp2_with fail
  refine (HS2.out _ (HGM.out _ HB6.out)).mono ?_
  rintro e w7 ⟨rfl, B7⟩
  have HB7 := Lib.hid (HB6.out.trans (B7.mono HB6.out.size))
  clear B7
  go_wp2_with fail
  refine (HS3.out _ (HGM.out _ HB7.out)).mono ?_
  rintro e w8 ⟨rfl, B8⟩
  have HB8 := Lib.hid (HB7.out.trans (B8.mono HB7.out.size))
  clear B8
  go_wp2_with fail
  refine (HWd.out _ (HGM.out _ HB8.out)).mono ?_
  rintro e w9 ⟨rfl, B9⟩
  have HB9 := Lib.hid (HB8.out.trans (B9.mono HB8.out.size))
  clear B9
  go_wp2_with fail
  refine (HDg.out _).mono ?_
  rintro e w' ⟨rfl, rfl⟩
  go_wp2_with fail
  go_loopw [86] (fun vi wr => ∃ k : Nat, vi = .int .i64 k ∧ k ≤ Ls.length ∧ Below w2.heap.size w2 wr) (fun vi _ => Ls.length - (intOf vi).toNat)
  case atStart => exact ⟨0, rfl, Nat.zero_le _, HB9.out⟩
  case round =>
    obtain ⟨k, rfl, hk, hB⟩ := hrel
    have HB := Lib.hid hB
    by_cases hlt : k < Ls.length
    · obtain ⟨g, o, ha1, _, hgc, hg, hcell⟩ := rd_cell HR.out 0 (by omega)
      subst ha1
      have hcx : wr.cell? ⟨g, o + k, none⟩ = some (.string Ls[k]) := by
        have h := (hB.cell (p := ⟨g, o + k, none⟩) hg).trans (hcell k hlt)
        rw [List.getD, List.getElem?_eq_getElem hlt] at h
        exact h
      have hki : (k : Int) < Ls.length := by omega
      have hk0 : (0 : Int) ≤ (k : Int) := Int.natCast_nonneg _
      obtain ⟨hgx, hxs⟩ := HGd.out _ (List.getElem_mem hlt)
      have HD1 := Lib.hid fun W => HDi.out W k hlt
      have hkk : ((k + 1 : Nat) : Int) = (k : Int) + 1 := by omega
      rw [hkk] at HD1
      have HW1 := Lib.hid (HWo.out k hlt)
      have w1k : IntKind.i64.wrap ((k : Int) + 1) = (k : Int) + 1 := by rw [IntWalk.i64_in _ (by omega)]
      clear hcell hB
      generalize Ls[k] = x at *
      generalize str (Ep.digitsA (k + 1)) = D1 at *
      have hdn := dir_name x
      have hbz := base_end x
      have hone := fun j => one_size j [x] x (fun q hq => by rw [List.mem_singleton.1 hq]; omega) (by omega)
      have hd1 := hone 12
      have hd2 := hone 13
      have hd3 := hone 14
      have hd4 := hone 15
      have HE12 : Hid (∀ W, GM W → Calls Tryz.prog 13 #[.string ⟨#[100, 105, 114]⟩, .slice (some ⟨W.heap.size, 0, none⟩) 1 1] (W.alloc (.cells #[.string x] ST)) fun e w' => e = .returned (.string (oneS 12 [x] x)) ∧ Below W.heap.size W w') := Lib.hid (HE.out 12 (by omega) x hgx hxs)
      have HE13 : Hid (∀ W, GM W → Calls Tryz.prog 13 #[.string ⟨#[110, 111, 116, 100, 105, 114]⟩, .slice (some ⟨W.heap.size, 0, none⟩) 1 1] (W.alloc (.cells #[.string x] ST)) fun e w' => e = .returned (.string (oneS 13 [x] x)) ∧ Below W.heap.size W w') := Lib.hid (HE.out 13 (by omega) x hgx hxs)
      have HE14 : Hid (∀ W, GM W → Calls Tryz.prog 13 #[.string ⟨#[115, 117, 102, 102, 105, 120]⟩, .slice (some ⟨W.heap.size, 0, none⟩) 1 1] (W.alloc (.cells #[.string x] ST)) fun e w' => e = .returned (.string (oneS 14 [x] x)) ∧ Below W.heap.size W w') := Lib.hid (HE.out 14 (by omega) x hgx hxs)
      have HE15 : Hid (∀ W, GM W → Calls Tryz.prog 13 #[.string ⟨#[98, 97, 115, 101, 110, 97, 109, 101]⟩, .slice (some ⟨W.heap.size, 0, none⟩) 1 1] (W.alloc (.cells #[.string x] ST)) fun e w' => e = .returned (.string (oneS 15 [x] x)) ∧ Below W.heap.size W w') := Lib.hid (HE.out 15 (by omega) x hgx hxs)
      clear hone
      generalize oneS 12 [x] x = d at *
      generalize oneS 13 [x] x = nn at *
      generalize oneS 14 [x] x = zz at *
      generalize oneS 15 [x] x = bb at *
      have hs1 : ¬ 9223372036854775807 < d.size + nn.size := by omega
      have hs2 : ¬ 9223372036854775807 < bb.size + zz.size := by omega
      have hs3 : ¬ 9223372036854775807 < 2 + x.size := by omega
      have ex : (x.toList == x.toList) = true := beq_self_eq_true _
      have ebz : ((bb ++ zz).toList == x.toList) = true := by rw [hbz]; exact ex
      obtain ⟨q, hq⟩ : ∃ q, ((d ++ nn).toList == x.toList) = q := ⟨_, rfl⟩
      have hq2 : q = false → ((d ++ nn).toList == (⟨#[46, 47]⟩ ++ x).toList) = true := fun e => by
        rcases hdn with h | h
        · rw [h, e] at hq; rw [ex] at hq; cases hq
        · rw [h]; exact beq_self_eq_true _
      clear hdn hbz hkk
      go_wp2_with fail
      refine (HE12.out _ (HGM.out _ HB.out)).mono ?_
      rintro e w10 ⟨rfl, B10⟩
      have HB10 := Lib.hid (HB.out.trans (B10.mono HB.out.size))
      clear B10
      go_wp2_with fail
      refine (HE13.out _ (HGM.out _ HB10.out)).mono ?_
      rintro e w11 ⟨rfl, B11⟩
      have HB11 := Lib.hid (HB10.out.trans (B11.mono HB10.out.size))
      clear B11
      cases q with
      | true =>
        clear hq2
        go_wp2_with fail
        refine (HE15.out _ (HGM.out _ HB11.out)).mono ?_
        rintro e w12 ⟨rfl, B12⟩
        have HB12 := Lib.hid (HB11.out.trans (B12.mono HB11.out.size))
        clear B12
        go_wp2_with fail
        refine (HE14.out _ (HGM.out _ HB12.out)).mono ?_
        rintro e w13 ⟨rfl, B13⟩
        have HB13 := Lib.hid (HB12.out.trans (B13.mono HB12.out.size))
        clear B13
        go_wp2_with fail
        refine (HD1.out _).mono ?_
        rintro e w' ⟨rfl, rfl⟩
        go_wp2_with fail
        refine (HW1.out _ (HGM.out _ HB13.out)).mono ?_
        rintro e w14 ⟨rfl, B14⟩
        have HB14 := Lib.hid (HB13.out.trans (B14.mono HB13.out.size))
        clear B14
        go_wp2_with fail
        go_roundw
        case rel => exact ⟨k + 1, by go_num, hlt, HB14.out⟩
        case measure => simp [intOf]; omega
      | false =>
        have hq3 := hq2 rfl
        clear hq2
        go_wp2_with fail
        refine (HE15.out _ (HGM.out _ HB11.out)).mono ?_
        rintro e w12 ⟨rfl, B12⟩
        have HB12 := Lib.hid (HB11.out.trans (B12.mono HB11.out.size))
        clear B12
        go_wp2_with fail
        refine (HE14.out _ (HGM.out _ HB12.out)).mono ?_
        rintro e w13 ⟨rfl, B13⟩
        have HB13 := Lib.hid (HB12.out.trans (B13.mono HB12.out.size))
        clear B13
        go_wp2_with fail
        refine (HD1.out _).mono ?_
        rintro e w' ⟨rfl, rfl⟩
        go_wp2_with fail
        refine (HW1.out _ (HGM.out _ HB13.out)).mono ?_
        rintro e w14 ⟨rfl, B14⟩
        have HB14 := Lib.hid (HB13.out.trans (B14.mono HB13.out.size))
        clear B14
        go_wp2_with fail
        go_roundw
        case rel => exact ⟨k + 1, by go_num, hlt, HB14.out⟩
        case measure => simp [intOf]; omega
    · obtain rfl : k = Ls.length := by omega
      have hki : ¬ (Ls.length : Int) < Ls.length := by omega
      go_wp2_with fail
      go_ret
      exact ⟨rfl, HW2.out.trans (HB.out.mono HW2.out.size)⟩
end Go.Proofs.YtcgigllfkaijnaaGreatDoor.Ew
