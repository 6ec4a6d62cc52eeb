/-
  (*expansion).expand of a text that ends in a reference.
-/
import Derived.Test.YtebagfadcjgllaaGreatDoorXPlain
namespace Go.Proofs.YtebagfadcjgllaaGreatDoor.Xw
open Go.RowKit Go.Proofs.YtebagfadcjgllaaGreatDoor Go.Proofs.YtebagfadcjgllaaGreatDoor.Ww Go.Proofs.YtebagfadcjgllaaGreatDoor.Tw Go.Proofs.YtebagfadcjgllaaGreatDoor.Kw Go.Proofs.YtebagfadcjgllaaGreatDoor.Jw Go.Proofs.YtebagfadcjgllaaGreatDoor.Xb
set_option maxRecDepth 100000

section
variable {xb tb ab lb yb : Nat} {gv kv : Value} {X : List Nat} {L : List Jp.V}
set_option maxHeartbeats 4000000 in
theorem expand_ref (P R : Bs) (d : Int) (B : List (Bs × Unit)) (o : Option Bs) (h0 : (36 : UInt8) ∉ P) (hs : P.length ≤ 1000) (hr : R.length ≤ 1000) (hv : ∀ v, o = some v → v.length ≤ 1000) (h1 : 0 ≤ d) (hd : d < 60)
    (HR : RefC xb tb ab lb yb gv kv X L R [] (d + 1) B o) : ExpandC xb tb ab lb yb gv kv X L (P ++ 36 :: R) d B (o.map (P ++ ·)) := by
  intro w hC
  have hlt := hC.lt
  have hly := hC.busy.lt
  have c6 := hC.cells.2.2.2.2.2
  have f6 := frozen_at hC.box 6
  have hO1 := (On.refl hC).deep (d + 1)
  have c61 : (w.setCell ⟨xb, 6, none⟩ (.int .i64 (d + 1))).cell? ⟨xb, 6, none⟩ = some (.int .i64 (d + 1)) := hO1.cx.cells.2.2.2.2.2
  have HB := Lib.hid (res_new (w.setCell ⟨xb, 6, none⟩ (.int .i64 (d + 1))))
  have hsz : (w.setCell ⟨xb, 6, none⟩ (.int .i64 (d + 1))).heap.size = w.heap.size := by simp [World.setCell]
  have HO := Lib.hid (hO1.below ((Below.refl _ _).alloc (Nat.le_refl _) (.cells #[.pointer none, .slice none 0 0] QT)))
  rw [hsz] at HB
  have hdd : ¬ (60 : Int) < d + 1 := by omega
  have hpp : (str P).size ≤ 1000 := by rw [str_size]; exact hs
  have hss : (str (P ++ 36 :: R)).size ≤ 1000000 := by rw [str_size]; simp; omega
  have HCut := Lib.hid fun W => Cut_yes W (str (P ++ 36 :: R)) hss 36 P R (by rw [by8_str]) h0
  have HR := Lib.hid HR
  have HV := Lib.hid hv
  generalize str (P ++ 36 :: R) = sv at *
  clear hC hO1 h0 hv hss
  go_enter Tryz.func16, Tryz.ntmps16
  go_wp2_with fail
  refine wp_loop_rounds 2 ?_
  rw [rounds_succ]
  go_wp2_with fail
  generalize (w.setCell ⟨xb, 6, none⟩ (.int .i64 (d + 1))).alloc (.cells #[.pointer none, .slice none 0 0] QT) = W0 at *
  refine (HCut.out _).mono ?_
  rintro e w1 ⟨rfl, B1⟩
  have HO1 := Lib.hid (HO.out.below B1)
  have HB1 := Lib.hid (HB.out.below B1)
  clear HB HO B1 HCut
  have HA := Lib.hid (add_any w1 HB1.out (str P) (by simp only [List.length_nil]; omega) HB1.out.lt)
  go_wp2_with fail
  refine HA.out.mono ?_
  rintro e w2 ⟨rfl, bv, hB2, hK2⟩
  rw [by8_str, List.nil_append] at hB2
  have HO2 := Lib.hid (HO1.out.fresh hK2 (by simp [Value.ownBlock]))
  have HB2 := Lib.hid hB2
  clear hB2 hK2 HA HB1 HO1
  go_wp2_with fail
  refine (HR.out _ HO2.out.cx).mono ?_
  cases o with
  | none =>
    rintro e w3 ⟨he, hK3⟩
    unfold failE at he
    subst he
    have HK := Lib.hid (HO2.out.k.trans hK3)
    clear hK3 HO2 HB2 HR HV
    go_wp2_with fail
    exact ⟨rfl, rfl, HK.out⟩
  | some v =>
    rintro e w3 ⟨rfl, hC3, hK3⟩
    have hvl := HV.out v rfl
    have hvs : (str v).size ≤ 1000 := by rw [str_size]; exact hvl
    have HO3 := Lib.hid (HO2.out.call hC3 hK3)
    have HB3 := Lib.hid (HB2.out.kept hK3 (by simp; omega) (by simp; omega))
    have HA := Lib.hid (add_any w3 HB3.out (str v) (by omega) (by have := HB3.out.lt; omega))
    clear hC3 hK3 HB2 HO2 HR HV
    go_wp2_with fail
    refine HA.out.mono ?_
    rintro e w4 ⟨rfl, bv4, hB4, hK4⟩
    rw [by8_str] at hB4
    have HO4 := Lib.hid (HO3.out.fresh hK4 (by
      intro i hi
      rcases List.mem_cons.1 hi with rfl | hi
      · exact Nat.le_refl _
      · have := HB3.out.fresh i hi; omega))
    have HB4 := Lib.hid hB4
    have HCut := Lib.hid fun W => Cut_no W (str []) 36 (by rw [by8_str]; simp)
    clear hB4 hK4 HA HB3 HO3
    go_wp2_with fail
    rw [rounds_succ]
    go_wp2_with fail
    refine (HCut.out _).mono ?_
    rintro e w5 ⟨rfl, B5⟩
    have HO5 := Lib.hid (HO4.out.below B5)
    have HB5 := Lib.hid (HB4.out.below B5)
    have HA := Lib.hid (add_any w5 HB5.out (str []) (by rw [str_size, List.length_append]; simp only [List.length_nil]; omega) (by have := HB5.out.lt; omega))
    clear HB4 HO4 B5 HCut
    go_wp2_with fail
    refine HA.out.mono ?_
    rintro e w6 ⟨rfl, bv6, hB6, hK6⟩
    rw [by8_str, List.append_nil] at hB6
    have HO6 := Lib.hid (HO5.out.fresh hK6 (by
      intro i hi
      rcases List.mem_cons.1 hi with rfl | hi
      · exact Nat.le_refl _
      · have := HB5.out.fresh i hi; omega))
    have HB6 := Lib.hid hB6
    have g6 := HO6.out.cx.cells.2.2.2.2.2
    have k6 := frozen_at HO6.out.cx.box 6
    have hl6 := HO6.out.cx.lt
    have hwr : IntKind.i64.wrap (d + 1 - 1) = d := by rw [show d + 1 - 1 = d by omega]; exact IntWalk.i64_in _ (by omega)
    clear hB6 hK6 HA HB5 HO5
    go_wp2_with fail
    have HO7 := Lib.hid (HO6.out.deep d)
    have HB7 := Lib.hid (HB6.out.kept ((Kept.refl [xb] w6).setCell (p := ⟨xb, 6, none⟩) (.inl (by simp)) (.int .i64 d)) (by simp; omega) (by simp; omega))
    generalize w6.setCell ⟨xb, 6, none⟩ (.int .i64 d) = w7 at *
    refine (String_any _ HB7.out).mono ?_
    rintro e w8 ⟨rfl, hK8⟩
    have HO8 := Lib.hid (HO7.out.fresh hK8 (fun i hi => by have := HB7.out.fresh i hi; omega))
    clear HO7 HB7 HB6 HO6 hK8 g6 k6
    go_wp2_with fail
    go_ret
    exact ⟨rfl, HO8.out.cx, HO8.out.k⟩
end
end Go.Proofs.YtebagfadcjgllaaGreatDoor.Xw
