/-
  The reference's command: by its first word.
  The reference's whole: a command with its input and output.
-/
import Derived.Deep.RegionHeld3
import Derived.Test.YteommneijlelkaaGreatDoorQHRef13
namespace Go.Proofs.YteommneijlelkaaGreatDoor.Hx
open Go.RowKit Go.Proofs.YteommneijlelkaaGreatDoor Go.Maps Go.Proofs.YteommneijlelkaaGreatDoor.Sw
set_option maxRecDepth 100000
section
variable {qb N : Nat} {v x : Value} {k : Hp.K} {st ran : Int} {out : Bs}
theorem bq_yes {y l : Bs} (h : y = l) : ((str y).toList == l) = true := by rw [Lib.toList_data, h]; exact beq_self_eq_true _
theorem bq_no {y l : Bs} (h : ¬ y = l) : ((str y).toList == l) = false := by rw [Lib.toList_data]; exact beq_eq_false_iff_ne.2 h
theorem bq_lit {b : ByteArray} {l : Bs} (h : ¬ b.data.toList = l) : (b.toList == l) = false := by rw [Lib.toList_data]; exact beq_eq_false_iff_ne.2 h
theorem bq_lity {b : ByteArray} {l : Bs} (h : b.data.toList = l) : (b.toList == l) = true := by rw [Lib.toList_data, h]; exact beq_self_eq_true _

set_option maxHeartbeats 4000000 in
theorem rcommand_any (w : World) (m : Nat) (y : Bs) (ws : List Bs) (hR : RefAt w qb v k st ran out) (hO : Hp.Ok k m) (h0 : k.outp = []) (hN : N ≤ w.heap.size) (hx : RWs w qb N x (y :: ws)) (hm : 2 * m + Hp.wtL ws + 3 ≤ 100000) :
    Calls Tryz.prog 58 #[.pointer (some ⟨qb, 0, none⟩), x] w (RefPost w qb st ran out (Hp.doA k y ws)) := by
  have hlt := hR.lt
  obtain ⟨a, c, rfl, hc⟩ := Px.Rg.shape hx
  obtain ⟨b, o, rfl, _, hb, hy⟩ := RWs.cell hx (by simp)
  have e0 : w.cell? ⟨b, o, none⟩ = some (.string (str y)) := hy 0 (by simp)
  have hcl : ws.length + 1 ≤ c := hc
  have HT := Lib.hid fun (a : Option Addr) (ha : c = 1 ∨ a = some ⟨b, o + 1, none⟩) => show RWs w qb N (.slice a ws.length (c - 1)) ws from RWs.drop hx 1 (by simp) a ha
  have HR := Lib.hid hR
  have HOk := Lib.hid hO
  have hdir := hO.dir
  have hly : ∀ z ∈ ws, m + z.length + 2 ≤ 100000 := fun z hz => by have := Hp.wtL_mem hz; omega
  have HLY := Lib.hid hly
  have hwt : Hp.wtL ws ≤ 100000 := by omega
  have hw2 := wtL_twice ws
  have H0 := Lib.hid h0
  clear hx hy hc hR hO h0 hly
  by_cases h0 : y = [116, 114, 117, 101]
  · have HE : Hid (Hp.doA k y ws = (k, 0)) := Lib.hid (by rw [h0]; rfl)
    have q0 := bq_yes h0
    clear h0
    go_enter Tryz.func58, Tryz.ntmps58
    go_wp2_with fail
    go_ret
    rw [HE.out]
    exact ⟨rfl, ⟨_, HR.out⟩, .refl _ _⟩
  have q0 := bq_no h0
  by_cases h1 : y = [102, 97, 108, 115, 101]
  · have HE : Hid (Hp.doA k y ws = (k, 1)) := Lib.hid (by rw [h1]; rfl)
    have q1 := bq_yes h1
    clear h0 h1
    go_enter Tryz.func58, Tryz.ntmps58
    go_wp2_with fail
    go_ret
    rw [HE.out]
    exact ⟨rfl, ⟨_, HR.out⟩, .refl _ _⟩
  have q1 := bq_no h1
  by_cases h2 : y = [101, 99, 104, 111]
  · have HE : Hid (Hp.doA k y ws = Hp.echoA k ws) := Lib.hid (by rw [h2]; rfl)
    have q2 := bq_yes h2
    clear h0 h1 h2
    go_enter Tryz.func58, Tryz.ntmps58
    go_wp2_with (go_at_call 95; refine (recho_any w HR.out hN (HT.out _ (by by_cases h : c = 1 <;> simp [h])) hwt).mono ?_; rintro e w1 ⟨rfl, hv1, K1⟩)
    all_goals go_ret
    all_goals rw [HE.out]
    all_goals exact ⟨rfl, hv1, K1⟩
  have q2 := bq_no h2
  by_cases h3 : y = [99, 97, 116]
  · have HE : Hid (Hp.doA k y ws = Hp.cat k ws) := Lib.hid (by rw [h3]; rfl)
    have q3 := bq_yes h3
    clear h0 h1 h2 h3
    go_enter Tryz.func58, Tryz.ntmps58
    go_wp2_with (go_at_call 96; refine (rcat_any w HR.out HOk.out.fine (by omega) hN (HT.out _ (by by_cases h : c = 1 <;> simp [h])) (fun z hz => by have := HLY.out z hz; omega) (by omega) HOk.out.inp (by rw [H0.out]; exact Nat.zero_le _)).mono ?_; rintro e w1 ⟨rfl, hv1, K1⟩)
    all_goals go_ret
    all_goals rw [HE.out]
    all_goals exact ⟨rfl, hv1, K1⟩
  have q3 := bq_no h3
  by_cases h4 : y = [99, 112]
  · have HE : Hid (Hp.doA k y ws = Hp.cpA k ws) := Lib.hid (by rw [h4]; rfl)
    have q4 := bq_yes h4
    clear h0 h1 h2 h3 h4
    go_enter Tryz.func58, Tryz.ntmps58
    go_wp2_with (go_at_call 97; refine (rcopied_any w HR.out HOk.out.fine (fun p => Hp.read_len HOk.out p) (HT.out _ (by by_cases h : c = 1 <;> simp [h])) hN (by omega) (by omega)).mono ?_; rintro e w1 ⟨rfl, hv1, K1⟩)
    all_goals go_ret
    all_goals rw [HE.out]
    all_goals exact ⟨rfl, hv1, K1⟩
  have q4 := bq_no h4
  by_cases h5 : y = [109, 118]
  · have HE : Hid (Hp.doA k y ws = Hp.mvA k ws) := Lib.hid (by rw [h5]; rfl)
    have q5 := bq_yes h5
    clear h0 h1 h2 h3 h4 h5
    go_enter Tryz.func58, Tryz.ntmps58
    go_wp2_with (go_at_call 98; refine (rmoved_any w HR.out HOk.out.fine HOk.out.closed (HT.out _ (by by_cases h : c = 1 <;> simp [h])) hN (by omega) (by omega)).mono ?_; rintro e w1 ⟨rfl, hv1, K1⟩)
    all_goals go_ret
    all_goals rw [HE.out]
    all_goals exact ⟨rfl, hv1, K1⟩
  have q5 := bq_no h5
  by_cases h6 : y = [114, 109]
  · have HE : Hid (Hp.doA k y ws = Hp.rmA k ws) := Lib.hid (by rw [h6]; rfl)
    replace e0 : w.cell? ⟨b, o, none⟩ = some (.string ⟨#[114, 109]⟩) := by rw [e0, h6]; rfl
    have r0 : ((⟨#[114, 109]⟩ : ByteArray).toList == [116, 114, 117, 101]) = false := bq_lit (by decide)
    have r1 : ((⟨#[114, 109]⟩ : ByteArray).toList == [102, 97, 108, 115, 101]) = false := bq_lit (by decide)
    have r2 : ((⟨#[114, 109]⟩ : ByteArray).toList == [101, 99, 104, 111]) = false := bq_lit (by decide)
    have r3 : ((⟨#[114, 109]⟩ : ByteArray).toList == [99, 97, 116]) = false := bq_lit (by decide)
    have r4 : ((⟨#[114, 109]⟩ : ByteArray).toList == [99, 112]) = false := bq_lit (by decide)
    have r5 : ((⟨#[114, 109]⟩ : ByteArray).toList == [109, 118]) = false := bq_lit (by decide)
    have r6 : ((⟨#[114, 109]⟩ : ByteArray).toList == [114, 109]) = true := bq_lity rfl
    have eN : b ≠ qb ∧ b < w.heap.size := ⟨hb.2, Nat.lt_of_lt_of_le hb.1 hN⟩
    clear h0 h1 h2 h3 h4 h5 h6 q0 q1 q2 q3 q4 q5
    by_cases hc1 : c = 1
    · have hws0 : ws.length = 0 := by omega
      obtain rfl : ws = [] := List.length_eq_zero_iff.1 hws0
      subst hc1
      have HD : Hid (RefAt w.drew qb v k st ran out) := Lib.hid (HR.out.below (Below.refl _ _).drew)
      have E0 : w.drew.cell? ⟨b, o, none⟩ = some (.string ⟨#[114, 109]⟩) := e0
      skip
      go_enter Tryz.func58, Tryz.ntmps58
      go_wp2_with fail
      go_region_held3 (fun W => W.cell? ⟨b, o, none⟩ = some (.string ⟨#[114, 109]⟩))
        (first | exact E0 | exact E1)
        (first | (go_at_call 99; refine (rrm_nil w.drew b o 0 HD.out).mono ?_; rintro e w1 ⟨rfl, hv1, K1⟩; have E1 : w1.cell? ⟨b, o, none⟩ = some (.string ⟨#[114, 109]⟩) := (K1.cell (p := ⟨b, o, none⟩) eN.2 (by simp [eN.1])).trans E0))
      all_goals go_wp2_with fail
      all_goals go_ret
      all_goals rw [HE.out]
      all_goals exact ⟨rfl, hv1, (Kept.of_below (Below.refl _ w).drew).trans K1⟩
    · have hc2 : ¬ c = 1 := hc1
      have i1 : (1 : Int) ≤ (ws.length : Int) + 1 := by omega
      have i2 : (ws.length : Int) + 1 ≤ (c : Int) := by omega
      have i3 : (1 : Int) ≤ (c : Int) := by omega
      have i4 : ((ws.length : Int) + 1 - 1).toNat = ws.length := by omega
      have i5 : ((c : Int) - 1).toNat = c - 1 := by omega
      by_cases hw0 : ws = []
      · subst hw0
        have HD : Hid (RefAt w.drew qb v k st ran out) := Lib.hid (HR.out.below (Below.refl _ _).drew)
        have E0 : w.drew.cell? ⟨b, o, none⟩ = some (.string ⟨#[114, 109]⟩) := e0
        skip
        go_enter Tryz.func58, Tryz.ntmps58
        go_wp2_with fail
        go_region_held3 (fun W => W.cell? ⟨b, o, none⟩ = some (.string ⟨#[114, 109]⟩))
          (first | exact E0 | exact E1)
          (first | (go_at_call 99; refine (rrm_nil w.drew b (o + 1) (c - 1) HD.out).mono ?_; rintro e w1 ⟨rfl, hv1, K1⟩; have E1 : w1.cell? ⟨b, o, none⟩ = some (.string ⟨#[114, 109]⟩) := (K1.cell (p := ⟨b, o, none⟩) eN.2 (by simp [eN.1])).trans E0))
        all_goals go_wp2_with fail
        all_goals go_ret
        all_goals rw [HE.out]
        all_goals exact ⟨rfl, hv1, (Kept.of_below (Below.refl _ w).drew).trans K1⟩
      · skip
        have HD : Hid (RefAt w.drew qb v k st ran out) := Lib.hid (HR.out.below (Below.refl _ _).drew)
        have E0 : w.drew.cell? ⟨b, o, none⟩ = some (.string ⟨#[114, 109]⟩) := e0
        have HX : Hid (RWs w.drew qb N (.slice (some ⟨b, o + 1, none⟩) ws.length (c - 1)) ws) := Lib.hid ((HT.out (some ⟨b, o + 1, none⟩) (.inr rfl)).keep fun b hb => rfl)
        go_enter Tryz.func58, Tryz.ntmps58
        go_wp2_with fail
        go_region_held3 (fun W => W.cell? ⟨b, o, none⟩ = some (.string ⟨#[114, 109]⟩))
          (first | exact E0 | exact E1)
          (first | (go_at_call 99; refine (rrm_any w.drew m HD.out HOk.out hN HX.out (fun z hz => HLY.out z hz) hwt hw0).mono ?_; rintro e w1 ⟨rfl, hv1, K1⟩; have E1 : w1.cell? ⟨b, o, none⟩ = some (.string ⟨#[114, 109]⟩) := (K1.cell (p := ⟨b, o, none⟩) eN.2 (by simp [eN.1])).trans E0))
        all_goals go_wp2_with fail
        all_goals go_ret
        all_goals rw [HE.out]
        all_goals exact ⟨rfl, hv1, (Kept.of_below (Below.refl _ w).drew).trans K1⟩
  have q6 := bq_no h6
  by_cases h7 : y = [116, 111, 117, 99, 104]
  · have HE : Hid (Hp.doA k y ws = Hp.touchC k ws) := Lib.hid (by rw [h7]; rfl)
    replace e0 : w.cell? ⟨b, o, none⟩ = some (.string ⟨#[116, 111, 117, 99, 104]⟩) := by rw [e0, h7]; rfl
    have r0 : ((⟨#[116, 111, 117, 99, 104]⟩ : ByteArray).toList == [116, 114, 117, 101]) = false := bq_lit (by decide)
    have r1 : ((⟨#[116, 111, 117, 99, 104]⟩ : ByteArray).toList == [102, 97, 108, 115, 101]) = false := bq_lit (by decide)
    have r2 : ((⟨#[116, 111, 117, 99, 104]⟩ : ByteArray).toList == [101, 99, 104, 111]) = false := bq_lit (by decide)
    have r3 : ((⟨#[116, 111, 117, 99, 104]⟩ : ByteArray).toList == [99, 97, 116]) = false := bq_lit (by decide)
    have r4 : ((⟨#[116, 111, 117, 99, 104]⟩ : ByteArray).toList == [99, 112]) = false := bq_lit (by decide)
    have r5 : ((⟨#[116, 111, 117, 99, 104]⟩ : ByteArray).toList == [109, 118]) = false := bq_lit (by decide)
    have r6 : ((⟨#[116, 111, 117, 99, 104]⟩ : ByteArray).toList == [114, 109]) = false := bq_lit (by decide)
    have r7 : ((⟨#[116, 111, 117, 99, 104]⟩ : ByteArray).toList == [116, 111, 117, 99, 104]) = true := bq_lity rfl
    have eN : b ≠ qb ∧ b < w.heap.size := ⟨hb.2, Nat.lt_of_lt_of_le hb.1 hN⟩
    clear h0 h1 h2 h3 h4 h5 h6 h7 q0 q1 q2 q3 q4 q5 q6
    by_cases hc1 : c = 1
    · have hws0 : ws.length = 0 := by omega
      obtain rfl : ws = [] := List.length_eq_zero_iff.1 hws0
      subst hc1
      have HD : Hid (RefAt w.drew qb v k st ran out) := Lib.hid (HR.out.below (Below.refl _ _).drew)
      have E0 : w.drew.cell? ⟨b, o, none⟩ = some (.string ⟨#[116, 111, 117, 99, 104]⟩) := e0
      have HX : Hid (RWs w.drew qb N (.slice (some ⟨b, o, none⟩) 0 0) []) := Lib.hid ((HT.out (some ⟨b, o, none⟩) (.inl rfl)).keep fun b hb => rfl)
      go_enter Tryz.func58, Tryz.ntmps58
      go_wp2_with fail
      go_region_held3 (fun W => W.cell? ⟨b, o, none⟩ = some (.string ⟨#[116, 111, 117, 99, 104]⟩))
        (first | exact E0 | exact E1)
        (first | (go_at_call 99; refine (rtouch_any w.drew m HD.out HOk.out hN HX.out (fun z hz => HLY.out z hz) hwt).mono ?_; rintro e w1 ⟨rfl, hv1, K1⟩; have E1 : w1.cell? ⟨b, o, none⟩ = some (.string ⟨#[116, 111, 117, 99, 104]⟩) := (K1.cell (p := ⟨b, o, none⟩) eN.2 (by simp [eN.1])).trans E0))
      all_goals go_wp2_with fail
      all_goals go_ret
      all_goals rw [HE.out]
      all_goals exact ⟨rfl, hv1, (Kept.of_below (Below.refl _ w).drew).trans K1⟩
    · have hc2 : ¬ c = 1 := hc1
      have i1 : (1 : Int) ≤ (ws.length : Int) + 1 := by omega
      have i2 : (ws.length : Int) + 1 ≤ (c : Int) := by omega
      have i3 : (1 : Int) ≤ (c : Int) := by omega
      have i4 : ((ws.length : Int) + 1 - 1).toNat = ws.length := by omega
      have i5 : ((c : Int) - 1).toNat = c - 1 := by omega
      have HD : Hid (RefAt w.drew qb v k st ran out) := Lib.hid (HR.out.below (Below.refl _ _).drew)
      have E0 : w.drew.cell? ⟨b, o, none⟩ = some (.string ⟨#[116, 111, 117, 99, 104]⟩) := e0
      have HX : Hid (RWs w.drew qb N (.slice (some ⟨b, o + 1, none⟩) ws.length (c - 1)) ws) := Lib.hid ((HT.out (some ⟨b, o + 1, none⟩) (.inr rfl)).keep fun b hb => rfl)
      go_enter Tryz.func58, Tryz.ntmps58
      go_wp2_with fail
      go_region_held3 (fun W => W.cell? ⟨b, o, none⟩ = some (.string ⟨#[116, 111, 117, 99, 104]⟩))
        (first | exact E0 | exact E1)
        (first | (go_at_call 99; refine (rtouch_any w.drew m HD.out HOk.out hN HX.out (fun z hz => HLY.out z hz) hwt).mono ?_; rintro e w1 ⟨rfl, hv1, K1⟩; have E1 : w1.cell? ⟨b, o, none⟩ = some (.string ⟨#[116, 111, 117, 99, 104]⟩) := (K1.cell (p := ⟨b, o, none⟩) eN.2 (by simp [eN.1])).trans E0))
      all_goals go_wp2_with fail
      all_goals go_ret
      all_goals rw [HE.out]
      all_goals exact ⟨rfl, hv1, (Kept.of_below (Below.refl _ w).drew).trans K1⟩
  have q7 := bq_no h7
  by_cases h8 : y = [109, 107, 100, 105, 114]
  · have HE : Hid (Hp.doA k y ws = Hp.mkdirC k ws) := Lib.hid (by rw [h8]; rfl)
    replace e0 : w.cell? ⟨b, o, none⟩ = some (.string ⟨#[109, 107, 100, 105, 114]⟩) := by rw [e0, h8]; rfl
    have r0 : ((⟨#[109, 107, 100, 105, 114]⟩ : ByteArray).toList == [116, 114, 117, 101]) = false := bq_lit (by decide)
    have r1 : ((⟨#[109, 107, 100, 105, 114]⟩ : ByteArray).toList == [102, 97, 108, 115, 101]) = false := bq_lit (by decide)
    have r2 : ((⟨#[109, 107, 100, 105, 114]⟩ : ByteArray).toList == [101, 99, 104, 111]) = false := bq_lit (by decide)
    have r3 : ((⟨#[109, 107, 100, 105, 114]⟩ : ByteArray).toList == [99, 97, 116]) = false := bq_lit (by decide)
    have r4 : ((⟨#[109, 107, 100, 105, 114]⟩ : ByteArray).toList == [99, 112]) = false := bq_lit (by decide)
    have r5 : ((⟨#[109, 107, 100, 105, 114]⟩ : ByteArray).toList == [109, 118]) = false := bq_lit (by decide)
    have r6 : ((⟨#[109, 107, 100, 105, 114]⟩ : ByteArray).toList == [114, 109]) = false := bq_lit (by decide)
    have r7 : ((⟨#[109, 107, 100, 105, 114]⟩ : ByteArray).toList == [116, 111, 117, 99, 104]) = false := bq_lit (by decide)
    have r8 : ((⟨#[109, 107, 100, 105, 114]⟩ : ByteArray).toList == [109, 107, 100, 105, 114]) = true := bq_lity rfl
    have eN : b ≠ qb ∧ b < w.heap.size := ⟨hb.2, Nat.lt_of_lt_of_le hb.1 hN⟩
    clear h0 h1 h2 h3 h4 h5 h6 h7 h8 q0 q1 q2 q3 q4 q5 q6 q7
    by_cases hc1 : c = 1
    · have hws0 : ws.length = 0 := by omega
      obtain rfl : ws = [] := List.length_eq_zero_iff.1 hws0
      subst hc1
      have HD : Hid (RefAt w.drew qb v k st ran out) := Lib.hid (HR.out.below (Below.refl _ _).drew)
      have E0 : w.drew.cell? ⟨b, o, none⟩ = some (.string ⟨#[109, 107, 100, 105, 114]⟩) := e0
      skip
      go_enter Tryz.func58, Tryz.ntmps58
      go_wp2_with fail
      go_region_held3 (fun W => W.cell? ⟨b, o, none⟩ = some (.string ⟨#[109, 107, 100, 105, 114]⟩))
        (first | exact E0 | exact E1)
        (first | (go_at_call 99; refine (rmkdir_nil w.drew b o 0 HD.out).mono ?_; rintro e w1 ⟨rfl, hv1, K1⟩; have E1 : w1.cell? ⟨b, o, none⟩ = some (.string ⟨#[109, 107, 100, 105, 114]⟩) := (K1.cell (p := ⟨b, o, none⟩) eN.2 (by simp [eN.1])).trans E0))
      all_goals go_wp2_with fail
      all_goals go_ret
      all_goals rw [HE.out]
      all_goals exact ⟨rfl, hv1, (Kept.of_below (Below.refl _ w).drew).trans K1⟩
    · have hc2 : ¬ c = 1 := hc1
      have i1 : (1 : Int) ≤ (ws.length : Int) + 1 := by omega
      have i2 : (ws.length : Int) + 1 ≤ (c : Int) := by omega
      have i3 : (1 : Int) ≤ (c : Int) := by omega
      have i4 : ((ws.length : Int) + 1 - 1).toNat = ws.length := by omega
      have i5 : ((c : Int) - 1).toNat = c - 1 := by omega
      by_cases hw0 : ws = []
      · subst hw0
        have HD : Hid (RefAt w.drew qb v k st ran out) := Lib.hid (HR.out.below (Below.refl _ _).drew)
        have E0 : w.drew.cell? ⟨b, o, none⟩ = some (.string ⟨#[109, 107, 100, 105, 114]⟩) := e0
        skip
        go_enter Tryz.func58, Tryz.ntmps58
        go_wp2_with fail
        go_region_held3 (fun W => W.cell? ⟨b, o, none⟩ = some (.string ⟨#[109, 107, 100, 105, 114]⟩))
          (first | exact E0 | exact E1)
          (first | (go_at_call 99; refine (rmkdir_nil w.drew b (o + 1) (c - 1) HD.out).mono ?_; rintro e w1 ⟨rfl, hv1, K1⟩; have E1 : w1.cell? ⟨b, o, none⟩ = some (.string ⟨#[109, 107, 100, 105, 114]⟩) := (K1.cell (p := ⟨b, o, none⟩) eN.2 (by simp [eN.1])).trans E0))
        all_goals go_wp2_with fail
        all_goals go_ret
        all_goals rw [HE.out]
        all_goals exact ⟨rfl, hv1, (Kept.of_below (Below.refl _ w).drew).trans K1⟩
      · skip
        have HD : Hid (RefAt w.drew qb v k st ran out) := Lib.hid (HR.out.below (Below.refl _ _).drew)
        have E0 : w.drew.cell? ⟨b, o, none⟩ = some (.string ⟨#[109, 107, 100, 105, 114]⟩) := e0
        have HX : Hid (RWs w.drew qb N (.slice (some ⟨b, o + 1, none⟩) ws.length (c - 1)) ws) := Lib.hid ((HT.out (some ⟨b, o + 1, none⟩) (.inr rfl)).keep fun b hb => rfl)
        go_enter Tryz.func58, Tryz.ntmps58
        go_wp2_with fail
        go_region_held3 (fun W => W.cell? ⟨b, o, none⟩ = some (.string ⟨#[109, 107, 100, 105, 114]⟩))
          (first | exact E0 | exact E1)
          (first | (go_at_call 99; refine (rmkdir_any w.drew m HD.out HOk.out hN HX.out (fun z hz => HLY.out z hz) hwt hw0).mono ?_; rintro e w1 ⟨rfl, hv1, K1⟩; have E1 : w1.cell? ⟨b, o, none⟩ = some (.string ⟨#[109, 107, 100, 105, 114]⟩) := (K1.cell (p := ⟨b, o, none⟩) eN.2 (by simp [eN.1])).trans E0))
        all_goals go_wp2_with fail
        all_goals go_ret
        all_goals rw [HE.out]
        all_goals exact ⟨rfl, hv1, (Kept.of_below (Below.refl _ w).drew).trans K1⟩
  have q8 := bq_no h8
  by_cases h9 : y = [116, 101, 115, 116]
  · have HE : Hid (Hp.doA k y ws = (k, Hp.testA k ws)) := Lib.hid (by rw [h9]; rfl)
    have q9 := bq_yes h9
    clear h0 h1 h2 h3 h4 h5 h6 h7 h8 h9
    go_enter Tryz.func58, Tryz.ntmps58
    go_wp2_with (go_at_call 100; refine (rtest_any w HR.out HOk.out.fine (by omega) (HT.out _ (by by_cases h : c = 1 <;> simp [h])) (fun z hz => by have := HLY.out z hz; omega) (by omega)).mono ?_; rintro e w1 ⟨rfl, hv1, K1⟩)
    all_goals go_ret
    all_goals rw [HE.out]
    all_goals exact ⟨rfl, hv1, K1⟩
  have q9 := bq_no h9
  by_cases h10 : y = [99, 100]
  · have HE : Hid (Hp.doA k y ws = Hp.cdA k ws) := Lib.hid (by rw [h10]; rfl)
    have q10 := bq_yes h10
    clear h0 h1 h2 h3 h4 h5 h6 h7 h8 h9 h10
    go_enter Tryz.func58, Tryz.ntmps58
    go_wp2_with (go_at_call 101; refine (rcd_any w HR.out HOk.out.fine (by omega) (HT.out _ (by by_cases h : c = 1 <;> simp [h])) (fun z hz => by have := HLY.out z hz; omega) (by omega)).mono ?_; rintro e w1 ⟨rfl, hv1, K1⟩)
    all_goals go_ret
    all_goals rw [HE.out]
    all_goals exact ⟨rfl, hv1, K1⟩
  have q10 := bq_no h10
  have HE : Hid (Hp.doA k y ws = (k, 127)) := Lib.hid (by unfold Hp.doA Hp.nameA; rw [if_neg h0, if_neg h1, if_neg h2, if_neg h3, if_neg h4, if_neg h5, if_neg h6, if_neg h7, if_neg h8, if_neg h9, if_neg h10])
  clear h0 h1 h2 h3 h4 h5 h6 h7 h8 h9 h10
  go_enter Tryz.func58, Tryz.ntmps58
  go_wp2_with fail
  go_ret
  rw [HE.out]
  exact ⟨rfl, ⟨_, HR.out⟩, .refl _ _⟩
end
end Go.Proofs.YteommneijlelkaaGreatDoor.Hx
namespace Go.Proofs.YteommneijlelkaaGreatDoor.Hx
open Go.RowKit Go.Proofs.YteommneijlelkaaGreatDoor Go.Maps Go.Proofs.YteommneijlelkaaGreatDoor.Sw
set_option maxRecDepth 100000
abbrev CT : TypeId := 97
section
variable {qb N : Nat} {v x : Value} {k : Hp.K} {st ran : Int} {out : Bs}
theorem cat_short : ∀ (l : List Bs) (k : Hp.K) (s : Nat), (k.code = 0 → k.outp.length ≤ 1048576) → (Hp.catA k l s).1.code = 0 → (Hp.catA k l s).1.outp.length ≤ 1048576
  | [], k, s, h, h0 => h h0
  | a :: r, k, s, h, h0 => by
    unfold Hp.catA at h0 ⊢
    split at h0
    · rename_i hc; exact absurd h0 hc
    · rename_i hc
      rw [if_neg hc]
      cases hj : Hp.joinP k.d a with
      | none =>
        rw [hj] at h0
        exact cat_short r k 1 h h0
      | some p =>
        rw [hj] at h0
        simp only at h0 ⊢
        split at h0
        · rename_i hr
          rw [if_pos hr]
          refine cat_short r _ s (fun h1 => ?_) h0
          simp only at h1
          split at h1
          · cases h1
          · show (k.outp ++ (Hp.readP k p).1).length ≤ _; omega
        · rename_i hr
          rw [if_neg hr]
          exact cat_short r k 1 h h0
theorem one_outp (a : Hp.Act) (k : Hp.K) (p : Bs) : (Hp.oneA a k p).1.outp = k.outp := by
  unfold Hp.oneA
  split
  · split <;> rfl
  · rfl
  · rfl
theorem each_outp (a : Hp.Act) : ∀ (l : List Bs) (k : Hp.K) (s : Nat), (Hp.eachA a k l s).1.outp = k.outp
  | [], _, _ => rfl
  | x :: r, k, s => by
    unfold Hp.eachA
    split
    · rfl
    · split
      · exact each_outp a r k 1
      · exact (each_outp a r _ _).trans (one_outp a k _)
theorem do_short {k : Hp.K} {m : Nat} (h0 : k.outp = []) (hi : k.inp.length ≤ 1048576) (y : Bs) (ws : List Bs) (hm : 2 * m + Hp.wtL ws + 3 ≤ 100000) (hc : (Hp.doA k y ws).1.code = 0) : (Hp.doA k y ws).1.outp.length ≤ 1048576 := by
  have hz : k.outp.length = 0 := by rw [h0]; rfl
  have hs := Hp.spaced_len ws
  unfold Hp.doA at hc ⊢
  cases hn : Hp.nameA y with
  | none => simp only; omega
  | some n =>
    rw [hn] at hc
    cases n with
    | true_ => simp only; omega
    | false_ => simp only; omega
    | echo =>
      simp only
      unfold Hp.echoA
      split
      · rename_i r
        have h1 := Hp.spaced_len r
        have e : Hp.wtL ([45, 110] :: r) = (2 + 2) + Hp.wtL r := rfl
        show (Hp.spaced r).length ≤ _; omega
      · show (Hp.spaced ws ++ [10]).length ≤ _; rw [List.length_append]; simp; omega
    | cat =>
      simp only at hc ⊢
      unfold Hp.cat at hc ⊢
      split at hc
      · rename_i hl
        rw [if_pos hl]
        exact cat_short ws _ 0 (fun _ => hi) hc
      · rename_i hl
        rw [if_neg hl]
        exact cat_short ws k 0 (fun _ => by omega) hc
    | cp =>
      simp only
      unfold Hp.cpA
      split
      · show k.outp.length ≤ _; omega
      · split
        · show k.outp.length ≤ _; omega
        · split
          · show k.outp.length ≤ _; omega
          · show k.outp.length ≤ _; omega
    | mv =>
      simp only
      unfold Hp.mvA
      split
      · show k.outp.length ≤ _; omega
      · show k.outp.length ≤ _; omega
    | rm =>
      simp only
      unfold Hp.rmA
      split
      · show k.outp.length ≤ _; omega
      · split
        · show k.outp.length ≤ _; omega
        · rw [each_outp]; omega
    | touch =>
      simp only
      unfold Hp.touchC
      split
      · show k.outp.length ≤ _; omega
      · rw [each_outp]; omega
    | mkdir =>
      simp only
      unfold Hp.mkdirC
      split
      · show k.outp.length ≤ _; omega
      · split
        · show k.outp.length ≤ _; omega
        · rw [each_outp]; omega
    | test => show k.outp.length ≤ _; omega
    | cd =>
      simp only
      unfold Hp.cdA
      split
      · split
        · show k.outp.length ≤ _; omega
        · split
          · show k.outp.length ≤ _; omega
          · show k.outp.length ≤ _; omega
      · show k.outp.length ≤ _; omega
/-- What whole returns. -/
def WholePost (w : World) (qb : Nat) (st ran : Int) (r : Hp.K × Bs × Nat) (e : Ending) (w' : World) : Prop :=
  e = .returned (.int .i64 r.2.2) ∧ (∃ v, RefAt w' qb v r.1 st ran r.2.1) ∧ Kept [qb] w w'
theorem RefAt.clean {w : World} (h : RefAt w qb v k st ran out) (o : Obj) : RefAt (((w.setCell ⟨qb, 7, none⟩ (.string ⟨#[]⟩)).setCell ⟨qb, 8, none⟩ (.string ⟨#[]⟩)).alloc o) qb v ⟨k.s, k.d, k.code, [], []⟩ st ran out :=
  ((h.setIn []).setOutp []).below ((Below.refl _ _).alloc (Nat.le_refl _) o)
theorem kept_clean (w : World) (o : Obj) : Kept [qb] w (((w.setCell ⟨qb, 7, none⟩ (.string ⟨#[]⟩)).setCell ⟨qb, 8, none⟩ (.string ⟨#[]⟩)).alloc o) :=
  (kept_set (kept_set (Kept.refl _ _) (by simp) _) (by simp) _).alloc _
theorem box_clean (w : World) (o : Obj) : (((w.setCell ⟨qb, 7, none⟩ (.string ⟨#[]⟩)).setCell ⟨qb, 8, none⟩ (.string ⟨#[]⟩)).alloc o).heap[w.heap.size]? = some o :=
  heap_new _ o (by simp)

set_option maxHeartbeats 8000000 in
theorem rwhole_any (w : World) (m : Nat) (c : Pp.C) (y : Bs) (ws : List Bs) (vw vt : Value) (hR : RefAt w qb v k st ran out) (hO : Hp.Ok k m) (hN : N ≤ w.heap.size) (hxw : RWs w qb N vw c.ws) (hxt : RGs w qb N vt c.to) (hc : c.ws = y :: ws) (hm : 2 * m + Hp.wC c + 3 ≤ 100000) (hout : out.length ≤ 1048576) (h8 : c.to.length ≤ 100000) :
    Calls Tryz.prog 31 #[.pointer (some ⟨qb, 0, none⟩), .agg #[.int .i64 (c.on : Int), vw, vt]] w (WholePost w qb st ran (Hp.wholeA k.s k.d k.code out c)) := by
  have hlt := hR.lt
  obtain ⟨va, vn, vc, rfl⟩ := hR.files.shape
  obtain ⟨aw, cw, rfl, _⟩ := Px.Rg.shape hxw
  obtain ⟨at_, ct, rfl, _⟩ := Px.Rg.shape hxt
  have hwC : Hp.wC c = Hp.wtL c.ws + Hp.gtL c.to := rfl
  have hwt : Hp.wtL c.ws = (y.length + 2) + Hp.wtL ws := by rw [hc]; rfl
  have HC0 := Lib.hid (hR.clean (.cells #[.int .i64 (c.on : Int), .slice aw c.ws.length cw, .slice at_ c.to.length ct] CT))
  have HK0 := Lib.hid (kept_clean (qb := qb) w (.cells #[.int .i64 (c.on : Int), .slice aw c.ws.length cw, .slice at_ c.to.length ct] CT))
  have HB0 := Lib.hid (box_clean (qb := qb) w (.cells #[.int .i64 (c.on : Int), .slice aw c.ws.length cw, .slice at_ c.to.length ct] CT))
  have hOk0 : Hp.Ok ⟨k.s, k.d, k.code, [], []⟩ m := ⟨hO.fine, hO.closed, hO.dir, Nat.zero_le _, Nat.zero_le _⟩
  have hga : ∀ g ∈ c.to, m + g.p.length + 2 ≤ 100000 := fun g hg => by have := Hp.gtL_mem hg; omega
  obtain ⟨q1, q2, q3, q4⟩ := Hp.open_ok c.to ⟨k.s, k.d, k.code, [], []⟩ m [] hOk0 hga
  have HWs0 := Lib.hid (hxw.kept HK0.out hN)
  have HGs0 := Lib.hid (hxt.kept HK0.out hN)
  have HOp := Lib.hid (ropen_any _ m HC0.out hOk0 (Nat.le_trans hN HK0.out.size) HGs0.out hga h8)
  have hqn : w.heap.size ≠ qb := by omega
  have b2 := cell_at (i := 2) HB0.out rfl
  obtain ⟨c0, c1, c2, c3, c4, c5, c6, c7, c8⟩ := hR.cells
  have z7 := hR.frozen 7
  have f7 := hR.below ((Below.refl w.heap.size w).alloc (Nat.le_refl _) (.cells #[.int .i64 (c.on : Int), .slice aw c.ws.length cw, .slice at_ c.to.length ct] CT))
  obtain ⟨a0, a1, a2, a3, a4, a5, a6, a7, a8⟩ := f7.cells
  have y7 := f7.frozen 7
  have f8 := (hR.setIn []).below ((Below.refl _ _).alloc (Nat.le_refl _) (.cells #[.int .i64 (c.on : Int), .slice aw c.ws.length cw, .slice at_ c.to.length ct] CT))
  have d8 : ((w.setCell ⟨qb, 7, none⟩ (.string ⟨#[]⟩)).alloc (.cells #[.int .i64 (c.on : Int), .slice aw c.ws.length cw, .slice at_ c.to.length ct] CT)).cell? ⟨qb, 8, none⟩ = some (.string (str k.outp)) := f8.cells.2.2.2.2.2.2.2.2
  have z8 : ((w.setCell ⟨qb, 7, none⟩ (.string ⟨#[]⟩)).alloc (.cells #[.int .i64 (c.on : Int), .slice aw c.ws.length cw, .slice at_ c.to.length ct] CT)).frozen? ⟨qb, 8, none⟩ = false := f8.frozen 8
  have hNN := hN
  have HCW := Lib.hid hc
  clear f7 f8 hxw hxt hR hga hOk0 hc
  obtain ⟨⟨k1, od⟩, hop⟩ : ∃ r, Hp.openA ⟨k.s, k.d, k.code, [], []⟩ c.to [] = r := ⟨_, rfl⟩
  have HOPE := Lib.hid hop
  rw [hop] at q1 q2 q3 q4 HOp
  dsimp only at q1 q2 q3 q4
  clear hop
  cases od with
  | none =>
    have HE : Hid (Hp.wholeA k.s k.d k.code out c = (k1, out, 1)) := Lib.hid (by unfold Hp.wholeA; rw [HOPE.out])
    clear q1 q2 q3 q4
    go_enter Tryz.func31, Tryz.ntmps31
    go_wp2_with fail
    generalize ((w.setCell ⟨qb, 7, none⟩ (.string ⟨#[]⟩)).setCell ⟨qb, 8, none⟩ (.string ⟨#[]⟩)).alloc (.cells #[.int .i64 (c.on : Int), .slice aw c.ws.length cw, .slice at_ c.to.length ct] CT) = w1 at *
    refine HOp.out.mono ?_
    rintro e w2 ⟨rfl, ⟨v2, hR2⟩, K2⟩
    have HR2 := Lib.hid hR2
    clear hR2
    go_wp2_with fail
    go_ret
    rw [HE.out]
    exact ⟨rfl, ⟨_, HR2.out⟩, HK0.out.trans K2⟩
  | some dst =>
    have hdst : dst.length ≤ 100000 := by
      rcases q4 dst rfl with e | e
      · rw [e]; simp
      · exact e
    have hmm : 2 * m + Hp.wtL ws + 3 ≤ 100000 := by omega
    obtain ⟨⟨k2, s2⟩, hdo⟩ : ∃ r, Hp.doA k1 y ws = r := ⟨_, rfl⟩
    have hok2 := Hp.do_ok q1 y ws hmm q3
    have hsh := do_short q3 q1.inp y ws hmm
    rw [hdo] at hok2 hsh
    dsimp only at hok2 hsh
    have HSH := Lib.hid hsh
    have HWH : Hid (Hp.wholeA k.s k.d k.code out c = Hp.tellA k2 s2 out dst) := Lib.hid (by
      unfold Hp.wholeA
      rw [HOPE.out]
      simp only
      rw [HCW.out]
      simp only [List.headD_cons, List.tail_cons]
      rw [hdo])
    have HCm := Lib.hid fun (W : World) (v' : Value) (h : RefAt W qb v' k1 st ran out) (hx : RWs W qb N (.slice aw c.ws.length cw) c.ws) (hn : N ≤ W.heap.size) => show Calls Tryz.prog 58 #[.pointer (some ⟨qb, 0, none⟩), .slice aw c.ws.length cw] W (RefPost W qb st ran out (k2, s2)) from by
      rw [← hdo]
      exact rcommand_any W m y ws h q1 q3 hn (by have e := HCW.out; rw [e] at hx ⊢; exact hx) hmm
    have HOk2 := Lib.hid hok2
    clear hdo hok2 q1 q2 q3 q4 hsh
    go_enter Tryz.func31, Tryz.ntmps31
    go_wp2_with fail
    generalize ((w.setCell ⟨qb, 7, none⟩ (.string ⟨#[]⟩)).setCell ⟨qb, 8, none⟩ (.string ⟨#[]⟩)).alloc (.cells #[.int .i64 (c.on : Int), .slice aw c.ws.length cw, .slice at_ c.to.length ct] CT) = w1 at *
    refine HOp.out.mono ?_
    rintro e w2 ⟨rfl, ⟨v2, hR2⟩, K2⟩
    have b1 := cell_at (i := 1) ((K2.block w.heap.size (Array.getElem?_eq_some_iff.1 HB0.out).1 (by simpa using hqn)).trans HB0.out) rfl
    have b1 : w2.cell? ⟨w.heap.size, 1, none⟩ = some (.slice aw c.ws.length cw) := b1
    have HR2 := Lib.hid hR2
    have HK2 := Lib.hid (HK0.out.trans K2)
    have hN2 : N ≤ w2.heap.size := Nat.le_trans hNN HK2.out.size
    have HWs2 := Lib.hid (HWs0.out.kept K2 (Nat.le_trans hNN HK0.out.size))
    clear hR2 K2
    go_wp2_with fail
    refine (HCm.out _ _ HR2.out HWs2.out hN2).mono ?_
    rintro e w3 ⟨rfl, ⟨v3, hR3⟩, K3⟩
    obtain ⟨g0, g1, g2, g3, g4, g5, g6, g7, g8⟩ := hR3.cells
    have hlt3 := hR3.lt
    have HR3 := Lib.hid hR3
    have HK3 := Lib.hid (HK2.out.trans K3)
    obtain ⟨va3, vn3, vc3, rfl⟩ := hR3.files.shape
    clear K3 HCm HWs2
    dsimp only at g6 g8
    by_cases hcode : k2.code = 0
    · have hq : (k2.code != 0) = false := by simp [hcode]
      have hop2 := HSH.out hcode
      have s1 : (str out).size ≤ 1048576 := by rw [← bs_len, bs_str]; exact hout
      have s2' : (str k2.outp).size ≤ 1048576 := by rw [← bs_len, bs_str]; exact hop2
      by_cases hd0 : dst = []
      · subst hd0
        have hcat : ¬ 9223372036854775807 < (str out).size + (str k2.outp).size := by omega
        have hsz : (str (out ++ k2.outp)).size = (out ++ k2.outp).length := by rw [← bs_len, bs_str]
        have hsum : (str out ++ str k2.outp).size = (str out).size + (str k2.outp).size := ByteArray.size_append
        have happ : str out ++ str k2.outp = str (out ++ k2.outp) := str_app _ _
        have hde : (str ([] : Bs)).toList = [] := by rw [Lib.toList_data]; rfl
        have hRd := hR3.below (Below.refl _ _).drew
        have f4 := hRd.frozen 4
        have f6d := hRd.frozen 6
        obtain ⟨e0, e1, e2, e3, e4, e5, e6, e7, e8⟩ := hRd.cells
        have HRO := Lib.hid (hRd.setOut (out ++ k2.outp))
        have f6 := HRO.out.frozen 6
        obtain ⟨u0, u1, u2, u3, u4, u5, u6, u7, u8⟩ := HRO.out.cells
        rw [← happ] at f6 u4 u6
        dsimp only at u6 e6 e8
        have HAP := Lib.hid happ
        have HKd := Lib.hid (HK3.out.below (Below.refl _ _).drew)
        by_cases hbig : 1048576 < (out ++ k2.outp).length
        · have HE : Hid (Hp.tellA k2 s2 out [] = (⟨k2.s, k2.d, 12, k2.inp, k2.outp⟩, out ++ k2.outp, s2)) := Lib.hid (by unfold Hp.tellA; rw [if_neg (by simpa using hcode), if_pos rfl, if_pos hbig])
          have hqb : (1048576 : Int) < ((str out).size : Int) + ((str k2.outp).size : Int) := by rw [happ] at hsum; omega
          clear hR3 hRd happ hsz hsum hbig hcode
          go_wp2_with fail
          go_still_tail 12, (by kernel_rfl)
          change wpList _ _ _ _ _ w3.drew
          generalize w3.drew = wd at *
          go_wp2_with fail
          go_ret
          rw [HWH.out, HE.out]
          have HX := HRO.out.setCode 12
          rw [← HAP.out] at HX
          exact ⟨rfl, ⟨_, HX⟩, kept_set (kept_set HKd.out (by simp) _) (by simp) _⟩
        · have HE : Hid (Hp.tellA k2 s2 out [] = (⟨k2.s, k2.d, k2.code, k2.inp, k2.outp⟩, out ++ k2.outp, s2)) := Lib.hid (by unfold Hp.tellA; rw [if_neg (by simpa using hcode), if_pos rfl, if_neg hbig])
          have hqb : ¬ (1048576 : Int) < ((str out).size : Int) + ((str k2.outp).size : Int) := by rw [happ] at hsum; omega
          clear hR3 hRd happ hsz hsum hbig hcode
          go_wp2_with fail
          go_still_tail 12, (by kernel_rfl)
          change wpList _ _ _ _ _ w3.drew
          generalize w3.drew = wd at *
          go_wp2_with fail
          go_ret
          rw [HWH.out, HE.out]
          have HX := HRO.out
          rw [← HAP.out] at HX
          exact ⟨rfl, ⟨_, HX⟩, kept_set HKd.out (by simp) _⟩
      · have hde : ¬ (str dst).toList = [] := by rw [Lib.toList_data]; exact hd0
        have hdf : (str dst).toList.isEmpty = false := by cases h : (str dst).toList with | nil => exact absurd h hde | cons => rfl
        by_cases ho0 : k2.outp = []
        · have hoe : (str k2.outp).toList = [] := by rw [Lib.toList_data]; exact ho0
          have HE : Hid (Hp.tellA k2 s2 out dst = (k2, out, s2)) := Lib.hid (by unfold Hp.tellA; rw [if_neg (by simpa using hcode), if_neg hd0, if_pos ho0])
          clear hR3 hcode hd0 ho0
          go_wp2_with fail
          go_ret
          rw [HWH.out, HE.out]
          exact ⟨rfl, ⟨_, HR3.out⟩, HK3.out⟩
        · have hoe : ¬ (str k2.outp).toList = [] := by rw [Lib.toList_data]; exact ho0
          have hof : (str k2.outp).toList.isEmpty = false := by cases h : (str k2.outp).toList with | nil => exact absurd h hoe | cons => rfl
          obtain ⟨⟨s4, cd⟩, hq4⟩ : ∃ q, writeA k2.s dst k2.outp true = q := ⟨_, rfl⟩
          have hte : Hp.tellA k2 s2 out dst = ((k2.took (s4, cd)).1, out, if (k2.took (s4, cd)).2 ≠ 0 ∧ s2 = 0 then 1 else s2) := by
            unfold Hp.tellA
            rw [if_neg (by simpa using hcode), if_neg hd0, if_neg ho0, hq4]
          have hds : (str dst).size ≤ 100000 := by rw [← bs_len, bs_str]; exact hdst
          have HRm := Lib.hid fun (W : World) (h : RFiles W (.slice va3 vn3 vc3) k2.s.L) => RWrite_any W _ k2.s (str dst) (str k2.outp) true HOk2.out.fine (by omega) (by omega) h
          rw [bs_str, bs_str, hq4] at HRm
          have HV3 := Lib.hid (hR3.files.own_lt)
          have HTE := Lib.hid hte
          clear hR3 hcode hd0 ho0 hq4 hte
          go_upto_region 16 with (fail)
          go_cut [8, 9] (fun v12 v13 wx => ∃ b12 u, v12 = .pointer (some ⟨b12, 0, none⟩) ∧ v13 = .int .i64 cd ∧ Wrote w3 (.slice va3 vn3 vc3) (s4, cd) b12 u wx)
          case first =>
            have HSX := Lib.hid (show ∀ W, Below w3.heap.size w3 W → W.cell? ⟨qb, 0, none⟩ = some (.slice va3 vn3 vc3) ∧ W.cell? ⟨qb, 1, none⟩ = some (.int .i64 k2.s.c) ∧ W.cell? ⟨qb, 8, none⟩ = some (.string (str k2.outp)) from fun W h => ⟨(h.cell (p := ⟨qb, 0, none⟩) hlt3).trans g0, (h.cell (p := ⟨qb, 1, none⟩) hlt3).trans g1, (h.cell (p := ⟨qb, 8, none⟩) hlt3).trans g8⟩)
            have D0 : Below w3.heap.size w3 w3.drew := (Below.refl _ _).drew
            have DA0 := fun o => ((Below.refl w3.heap.size w3).alloc (Nat.le_refl _) o).drew
            go_region_held3 (fun W => W.cell? ⟨qb, 0, none⟩ = some (.slice va3 vn3 vc3) ∧ W.cell? ⟨qb, 1, none⟩ = some (.int .i64 k2.s.c) ∧ W.cell? ⟨qb, 8, none⟩ = some (.string (str k2.outp)))
              ((refine HSX.out _ ?_; first | exact D0 | exact DA0 _ | exact D3 | exact D3.alloc D3.size _ | exact (D3.setCell (Nat.le_refl _) _).setCell (Nat.le_refl _) _))
              (first
                | (go_at_call 59; refine (HRm.out _ (HR3.out.below D0).files).mono ?_; rintro e w5 ⟨u, rfl, hu, ho, B3⟩; have D3 := D0.trans (B3.mono D0.size); obtain ⟨ua, un, uc, rfl⟩ := hu.shape; have HWR : Hid (Wrote w3 (.slice va3 vn3 vc3) (s4, cd) w5.heap.size (.slice ua un uc) (w5.alloc (.cells #[.slice ua un uc, .int .i64 s4.c] RS))) := Lib.hid (Wrote.one (q := (s4, cd)) D0 B3 hu ho); clear hu ho)
                | (go_at_call 59; refine (HRm.out _ (HR3.out.below (DA0 _)).files).mono ?_; rintro e w5 ⟨u, rfl, hu, ho, B3⟩; have D3 := (DA0 _).trans (B3.mono (DA0 _).size); obtain ⟨ua, un, uc, rfl⟩ := hu.shape; obtain ⟨z0, z1, z2, z3⟩ := zero_box B3; have HWR : Hid (Wrote w3 (.slice va3 vn3 vc3) (s4, cd) w3.heap.size (.slice ua un uc) ((w5.setCell ⟨w3.heap.size, 0, none⟩ (.slice ua un uc)).setCell ⟨w3.heap.size, 1, none⟩ (.int .i64 s4.c))) := Lib.hid (Wrote.two (q := (s4, cd)) HV3.out B3 hu ho); clear hu ho))
            all_goals go_wp2_with fail
            all_goals go_meet
            all_goals exact ⟨_, _, rfl, rfl, HWR.out⟩
          case rest =>
            obtain ⟨b12, u, rfl, rfl, hW⟩ := hcut
            obtain ⟨ua, un, uc, rfl⟩ := hW.files.shape
            have t0 := cell_at (i := 0) hW.box rfl
            have t1 := cell_at (i := 1) hW.box rfl
            have HT := Lib.hid (rtook_post w3 wc (.slice ua un uc) (s4, cd) HR3.out hW.below hW.files hW.new)
            clear hW
            generalize k2.took (s4, cd) = tk at *
            obtain ⟨k4, s0⟩ := tk
            by_cases hs0 : s0 = 0
            · subst hs0
              have HE : Hid (Hp.tellA k2 s2 out dst = (k4, out, s2)) := Lib.hid (by rw [HTE.out]; rfl)
              clear HTE
              go_wp2_with fail
              refine HT.out.mono ?_
              rintro e w6 ⟨rfl, hRt, hKt⟩
              have HRt := Lib.hid hRt
              clear hRt
              go_wp2_with fail
              go_ret
              rw [HWH.out, HE.out]
              exact ⟨rfl, ⟨_, HRt.out⟩, HK3.out.trans hKt⟩
            · have hs0b : ((s0 : Int) != 0) = true := by simp; omega
              by_cases hs2 : s2 = 0
              · subst hs2
                have HE : Hid (Hp.tellA k2 0 out dst = (k4, out, 1)) := Lib.hid (by rw [HTE.out]; simp [hs0])
                clear HTE hs0
                go_wp2_with fail
                refine HT.out.mono ?_
                rintro e w6 ⟨rfl, hRt, hKt⟩
                have HRt := Lib.hid hRt
                clear hRt
                go_wp2_with fail
                go_ret
                rw [HWH.out, HE.out]
                exact ⟨rfl, ⟨_, HRt.out⟩, HK3.out.trans hKt⟩
              · have hs2b : ((s2 : Int) == 0) = false := by rw [beq_eq_false_iff_ne]; omega
                have HE : Hid (Hp.tellA k2 s2 out dst = (k4, out, s2)) := Lib.hid (by rw [HTE.out]; simp only; rw [if_neg (fun h => hs2 h.2)])
                clear HTE hs0 hs2
                go_wp2_with fail
                refine HT.out.mono ?_
                rintro e w6 ⟨rfl, hRt, hKt⟩
                have HRt := Lib.hid hRt
                clear hRt
                go_wp2_with fail
                go_ret
                rw [HWH.out, HE.out]
                exact ⟨rfl, ⟨_, HRt.out⟩, HK3.out.trans hKt⟩
    · have hq : (k2.code != 0) = true := by simpa using hcode
      have HE : Hid (Hp.tellA k2 s2 out dst = (k2, out, 1)) := Lib.hid (by unfold Hp.tellA; rw [if_pos hcode])
      clear hR3 hcode
      go_wp2_with fail
      go_ret
      rw [HWH.out, HE.out]
      exact ⟨rfl, ⟨_, HR3.out⟩, HK3.out⟩
end
end Go.Proofs.YteommneijlelkaaGreatDoor.Hx
