/-
  flatironlaw13.TextAll, by what package text's functions return.
-/
import Derived.Test.YtcgigllfkaijnaaGreatDoorELaw
namespace Go.Proofs.YtcgigllfkaijnaaGreatDoor.Ew
open Go.RowKit Go.Proofs.YtcgigllfkaijnaaGreatDoor Go.Proofs.YtcgigllfkaijnaaGreatDoor.Ww Go.Proofs.YtcgigllfkaijnaaGreatDoor.Tw
set_option maxRecDepth 100000

def namesC : Array Value := #[.string ⟨#[115, 117, 98, 115, 116]⟩, .string ⟨#[112, 97, 116, 115, 117, 98, 115, 116]⟩, .string ⟨#[115, 116, 114, 105, 112]⟩, .string ⟨#[102, 105, 110, 100, 115, 116, 114, 105, 110, 103]⟩, .string ⟨#[102, 105, 108, 116, 101, 114]⟩, .string ⟨#[102, 105, 108, 116, 101, 114, 45, 111, 117, 116]⟩, .string ⟨#[115, 111, 114, 116]⟩, .string ⟨#[119, 111, 114, 100]⟩, .string ⟨#[119, 111, 114, 100, 115]⟩, .string ⟨#[119, 111, 114, 100, 108, 105, 115, 116]⟩, .string ⟨#[102, 105, 114, 115, 116, 119, 111, 114, 100]⟩, .string ⟨#[108, 97, 115, 116, 119, 111, 114, 100]⟩, .string ⟨#[100, 105, 114]⟩, .string ⟨#[110, 111, 116, 100, 105, 114]⟩, .string ⟨#[115, 117, 102, 102, 105, 120]⟩, .string ⟨#[98, 97, 115, 101, 110, 97, 109, 101]⟩, .string ⟨#[97, 100, 100, 112, 114, 101, 102, 105, 120]⟩, .string ⟨#[97, 100, 100, 115, 117, 102, 102, 105, 120]⟩, .string ⟨#[106, 111, 105, 110]⟩]
theorem names_get (k : Nat) (hk : k < 19) : namesC[k]? = some (.string (nm k)) := by
  match k, hk with
  | 0, _ => rfl
  | 1, _ => rfl
  | 2, _ => rfl
  | 3, _ => rfl
  | 4, _ => rfl
  | 5, _ => rfl
  | 6, _ => rfl
  | 7, _ => rfl
  | 8, _ => rfl
  | 9, _ => rfl
  | 10, _ => rfl
  | 11, _ => rfl
  | 12, _ => rfl
  | 13, _ => rfl
  | 14, _ => rfl
  | 15, _ => rfl
  | 16, _ => rfl
  | 17, _ => rfl
  | 18, _ => rfl
  | n + 19, h => exact absurd h (by omega)
set_option maxHeartbeats 2000000 in
theorem Names_any (w : World) : Calls Tryz.prog 12 #[] w fun e w' => e = .returned (.slice (some ⟨w.heap.size, 0, none⟩) 19 19) ∧ Hid (w.heap.size < w'.heap.size ∧ ∀ k, k < 19 → w'.cell? ⟨w.heap.size, k, none⟩ = some (.string (nm k))) ∧ Below w.heap.size w w' := by
  go_enter Tryz.func12, Tryz.ntmps12
  go_wp2_with fail
  go_ret
  refine ⟨rfl, Lib.hid ⟨by simp, fun k hk => ?_⟩, (Below.refl _ _).alloc (Nat.le_refl _) _⟩
  rw [World.cell?_alloc_at _ _ _ _ (by simp)]
  exact names_get k hk

set_option maxHeartbeats 4000000 in
theorem TextAllL_any (H : TextC) (w : World) (hG : GM w) (a b c : ByteArray) (ha : a.size ≤ 140737488355328) (hb : b.size ≤ 140737488355328) (hc : c.size ≤ 140737488355328) :
    Calls Tryz.prog 4 #[.string a, .string b, .string c] w (TruePost w) := by
  obtain ⟨i0, hi, hz0, hz1, hz2⟩ := info_parts infoS
  have HLv := Lib.hid fun W (hW : Below w.heap.size w W) => lives_any H W (hG.below hW)
  have HNm := Lib.hid Names_any
  obtain ⟨w0, hw0⟩ : ∃ w0, w.alloc (.cells #[.string a, .string b, .string c] ST) = w0 := ⟨_, rfl⟩
  have hrd : Rd w0 w0.heap.size (.slice (some ⟨w.heap.size, 0, none⟩) 3 3) (strsC [a, b, c]) := by rw [← hw0]; exact rd_lit w [a, b, c] #[.string a, .string b, .string c] rfl 3 (show 3 ≤ 3 by omega)
  have HB0 : Hid (Below w.heap.size w w0) := Lib.hid (by rw [← hw0]; exact (Below.refl _ _).alloc (Nat.le_refl _) _)
  have hsz : ∀ p ∈ [a, b, c], p.size ≤ 140737488355328 := by
    intro p hp
    simp only [List.mem_cons, List.not_mem_nil, or_false] at hp
    rcases hp with rfl | rfl | rfl <;> assumption
  have HLo := Lib.hid fun W (hW : Below w0.heap.size w0 W) => long_any W _ [a, b, c] ((hrd.below hW).more hW.size) (show 3 ≤ 140737488355328 by omega) hsz
  have HRd := Lib.hid hrd
  have HW0 := Lib.hid hw0
  clear hw0 hrd hsz
  go_enter Tryz.func4, Tryz.ntmps4
  go_wp2_with fail
  rw [HW0.out]
  refine (HLv.out _ HB0.out).mono ?_
  rintro e w1 ⟨rfl, B1⟩
  have HB1 := Lib.hid B1
  clear B1
  go_wp2_with fail
  refine (HLo.out _ HB1.out).mono ?_
  rintro e w' ⟨q, rfl, rfl, hq⟩
  have HQ := Lib.hid (hq (show 3 ≤ 3 by omega))
  clear hq
  cases q with
  | true =>
    go_wp2_with fail
    refine (HLv.out _ (HB0.out.trans (HB1.out.mono HB0.out.size))).mono ?_
    rintro e w2 ⟨rfl, B2⟩
    go_wp2_with fail
    go_ret
    exact ⟨rfl, HB0.out.trans ((HB1.out.trans (B2.mono HB1.out.size)).mono HB0.out.size)⟩
  | false =>
    have HS : Hid (∀ p ∈ [a, b, c], p.size ≤ 9000) := Lib.hid fun p hp => by
      have h1 := of_decide_eq_false HQ.out.symm
      have h2 := sum_mem hp
      unfold sumS at h1
      omega
    go_wp2_with fail
    refine (HNm.out _).mono ?_
    rintro e w2 ⟨rfl, HG, B2⟩
    have HB2 := Lib.hid (HB1.out.trans (B2.mono HB1.out.size))
    have hgs := HG.out.1
    clear B2 HNm HQ
    generalize w1.heap.size = g at *
    go_wp2_with fail
    go_loopw [30] (fun vi wr => ∃ k : Nat, vi = .int .i64 k ∧ k ≤ 19 ∧ Below w2.heap.size w2 wr) (fun vi _ => 19 - (intOf vi).toNat)
    case atStart => exact ⟨0, rfl, Nat.zero_le _, Below.refl _ _⟩
    case round =>
      obtain ⟨k, rfl, hk, hB⟩ := hrel
      have HB := Lib.hid hB
      by_cases hlt : k < 19
      · have hcx : wr.cell? ⟨g, k, none⟩ = some (.string (nm k)) := (hB.cell (p := ⟨g, k, none⟩) hgs).trans (HG.out.2 k hlt)
        have hki : (k : Int) < 19 := by omega
        have hk0 : (0 : Int) ≤ (k : Int) := Int.natCast_nonneg _
        have htl := takes_lim k
        obtain ⟨m, hm⟩ : ∃ m, m + takesN k = 3 := ⟨3 - takesN k, by omega⟩
        have HRW : ∀ W, Below w2.heap.size w2 W → Rd W W.heap.size (.slice (some ⟨w.heap.size, m, none⟩) (3 - m) (3 - m)) (strsC ([a, b, c].drop m)) := fun W hW => by
          have h1 := (HRd.out.below (HB2.out.trans (hW.mono HB2.out.size))).more (HB2.out.trans (hW.mono HB2.out.size)).size
          have h2 := rd_drop (m := 3 - m) h1 (show m < 3 by omega) rfl
          rwa [Nat.zero_add] at h2
        have hlen : ([a, b, c].drop m).length = takesN k := by rw [List.length_drop]; show 3 - m = _; omega
        have hsz : ∀ p ∈ [a, b, c].drop m, p.size ≤ 9000 := fun p hp => HS.out p (List.mem_of_mem_drop hp)
        have HC := Lib.hid fun W (hW : Below w2.heap.size w2 W) => H.call W _ _ k (hG.below (HB0.out.trans ((HB2.out.trans (hW.mono HB2.out.size)).mono HB0.out.size))) hlt (HRW W hW) hlen hsz
        have HD := Lib.hid fun W (hW : Below w2.heap.size w2 W) => call_any W _ _ k hlt (HRW W hW) hlen hsz
        have HX := Lib.hid fun W (h : 1 + (3 - m) ≠ takesN k) a c => H.bad W k hlt a (1 + (3 - m)) c h
        have HRWH := Lib.hid HRW
        have HT := Lib.hid fun W => H.takes W k hlt
        have HU := Lib.hid fun W => takes_all W k hlt
        obtain ⟨⟨r1, r2⟩, hr⟩ : ∃ r, resS k ([a, b, c].drop m) = r := ⟨_, rfl⟩
        rw [hr] at HC HD
        simp only [ansE] at HC HD HX
        have HAL : Hid (([a, b, c].drop m).length = 3 - m) := Lib.hid (by rw [List.length_drop]; rfl)
        clear hr hlen hsz HRW hB
        generalize takesN k = t at *
        have ht1 : ¬ (t : Int) < 1 := by omega
        have ht2 : ¬ (3 : Int) < (t : Int) := by omega
        have ht3 : (3 : Int) - (t : Int) = (m : Int) := by omega
        have htt : ((t : Int) != (t : Int)) = false := by rw [bne, beq_self_eq_true]; rfl
        have htt2 : ((t : Int) == (t : Int)) = true := beq_self_eq_true _
        have hm0 : (0 : Int) ≤ (m : Int) := by omega
        have hm3 : (m : Int) ≤ 3 := by omega
        have e1 : (r1.toList == r1.toList) = true := beq_self_eq_true _
        have e2 : (r2 == r2) = true := beq_self_eq_true _
        have e3 : (r2 != r2) = false := by rw [bne, beq_self_eq_true]; rfl
        generalize [a, b, c].drop m = A at *
        generalize nm k = f at *
        generalize w.heap.size = b0 at *
        go_wp2_with fail
        refine (HT.out _).mono ?_
        rintro e w3 ⟨rfl, B3⟩
        have HB3 := Lib.hid (HB.out.trans (B3.mono HB.out.size))
        clear B3
        go_wp2_with fail
        refine (HU.out _).mono ?_
        rintro e w' ⟨rfl, rfl⟩
        go_wp2_with fail
        refine (HC.out _ HB3.out).mono ?_
        rintro e w4 ⟨rfl, B4⟩
        have HB4 := Lib.hid (HB3.out.trans (B4.mono HB3.out.size))
        clear B4
        go_wp2_with fail
        refine (HD.out _ HB4.out).mono ?_
        rintro e w5 ⟨rfl, B5⟩
        have HB5 := Lib.hid (HB4.out.trans (B5.mono HB4.out.size))
        clear B5
        have hown := World.ownsRow_lit (e := ST) (size := 1) w5 #[.string ⟨#[120]⟩] 1 (Nat.le_refl _) (by decide) rfl
        have HRA := Lib.hid (HRWH.out _ (HB5.out.alloc HB5.out.size (.cells #[.string ⟨#[120]⟩] ST)))
        go_wp2_with (at_builtin; go_must (refine wpList_append_own _ rfl _ _ 22 rfl w5.heap.size ST i0 (.string ByteArray.empty) 1 16 Tryz.underlying22 hi hz0 hz1 hz2 rfl (by decide) _ _ _ rfl hown ⟨b0, m, none⟩ _ _ (strsC A) rfl (by rw [strsC_len, HAL.out]; try simp) (cells_atS HRA.out rfl) (strs_one _) (by unfold maxLen; omega) (by omega) (by first | omega | simp) ?_); intro v' w6 hown6 hgrow6 _; obtain ⟨a2, c2, rfl⟩ := owns_slice hown6)
        have HB6 := Lib.hid ((HB5.out.alloc HB5.out.size (.cells #[.string ⟨#[120]⟩] ST)).grown hgrow6 (by have := HB5.out.size; simp; omega) fun j ej => by have := (hown.lt j ej).1; have := HB5.out.size; omega)
        refine (HX.out _ (by omega) _ _).mono ?_
        rintro e w7 ⟨rfl, B7⟩
        have HB7 := Lib.hid (HB6.out.trans (B7.mono HB6.out.size))
        clear B7
        go_wp2_with fail
        go_roundw
        case rel => exact ⟨k + 1, by go_num, hlt, HB7.out⟩
        case measure => simp [intOf]; omega
      · obtain rfl : k = 19 := by omega
        go_wp2_with fail
        go_ret
        exact ⟨rfl, HB0.out.trans ((HB2.out.trans (HB.out.mono HB2.out.size)).mono HB0.out.size)⟩
end Go.Proofs.YtcgigllfkaijnaaGreatDoor.Ew
