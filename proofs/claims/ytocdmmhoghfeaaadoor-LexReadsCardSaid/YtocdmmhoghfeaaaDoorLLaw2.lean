/-
  flatironlaw05.LexReads.
-/
import Derived.Test.YtocdmmhoghfeaaaDoorLLaw
namespace Go.Proofs.YtocdmmhoghfeaaaDoor.Lx
open Go.RowKit Go.Proofs.YtocdmmhoghfeaaaDoor
set_option maxRecDepth 100000

theorem LexReadsL_any (w : World) (s : ByteArray) (hs : 1000 < s.size) (hm : s.size ≤ 140737488355328) (hG : Glob w) : Calls Tryd.prog 3 #[.string s] w fun e w' => e = .returned (.bool true) ∧ Below w.heap.size w w' := by
  have hL := lives_any w hG
  have HG := Lib.hid hG
  go_enter Tryd.func3, Tryd.ntmps3
  go_wp2_with fail
  refine hL.mono ?_
  rintro e w1 ⟨rfl, hB1⟩
  have hL2 := lives_any w1 (HG.out.below hB1)
  go_wp2_with fail
  refine hL2.mono ?_
  rintro e w2 ⟨rfl, hB2⟩
  go_wp2_with fail
  go_ret
  exact ⟨rfl, hB1.trans (hB2.mono hB1.size)⟩

set_option maxHeartbeats 8000000 in
theorem LexReads_any (w : World) (s : ByteArray) (hs : s.size ≤ 1000) (hG : Glob w) : Calls Tryd.prog 3 #[.string s] w fun e w' => e = .returned (.bool true) ∧ Below w.heap.size w w' := by
  have hL := lives_any w hG
  have HG := Lib.hid hG
  have HT := Lib.hid fun (W : World) (hB : Below w.heap.size w W) => Tokens_any W s (by omega) (hG.below hB)
  have HR := Lib.hid fun (W : World) => RTokens_any W s (by omega)
  have hlen := fun L (h : Lp.tokA (by8 s) = some L) => Lp.tok_len h
  have hfit := fun L (h : Lp.tokA (by8 s) = some L) => Lp.tok_fit h
  rw [by8_len] at hlen
  clear hG
  go_enter Tryd.func3, Tryd.ntmps3
  go_wp2_with fail
  refine hL.mono ?_
  rintro e w1 ⟨rfl, hB1⟩
  go_wp2_with fail
  refine (HT.out w1 hB1).mono ?_
  cases ho : Lp.tokA (by8 s) with
  | none =>
    rw [ho] at HR
    clear hlen hfit
    rintro e w2 ⟨rfl, hB2⟩
    go_wp2_with fail
    refine (HR.out w2).mono ?_
    rintro e w3 ⟨rfl, hB3⟩
    go_wp2_with fail
    go_ret
    exact ⟨rfl, hB1.trans ((hB2.mono hB1.size).trans (hB3.mono (hB1.trans (hB2.mono hB1.size)).size))⟩
  | some L =>
    rw [ho] at HR
    obtain ⟨hl1, hl2⟩ := hlen L ho
    have HF := Lib.hid (hfit L ho)
    clear hlen hfit
    rintro e w2 ⟨⟨a, c, rfl, hr⟩, hB2⟩
    have hC2 := hB1.trans (hB2.mono hB1.size)
    go_wp2_with fail
    refine (HR.out w2).mono ?_
    rintro e w3 ⟨⟨a3, c3, rfl, hr3⟩, hB3⟩
    have hC3 := hC2.trans (hB3.mono hC2.size)
    have hr' := owns_below hr hB3
    have hshl := Lp.show_len L
    have hSh := Show_any w3 _ a c L hr' (by omega) (fun x hx => ⟨by have := Lp.sum_mem hx; omega, by have := (HF.out x hx).1; omega⟩) (by omega) (HG.out.below hC3)
    go_wp2_with fail
    refine hSh.mono ?_
    rintro e w4 ⟨rfl, hB4⟩
    have hC4 := hC3.trans (hB4.mono hC3.size)
    have hT2 := Tokens_any w4 (str (Lp.showA L)) (by rw [str_size]; omega) (HG.out.below hC4)
    rw [by8_str, Lp.tok_shows L HF.out] at hT2
    have hr4 := owns_below hr' hB4
    have hr34 := owns_below hr3 hB4
    clear hSh
    go_wp2_with fail
    refine hT2.mono ?_
    rintro e w5 ⟨⟨a5, c5, rfl, hr5⟩, hB5⟩
    have hC5 := hC4.trans (hB5.mono hC4.size)
    have hr45 := owns_below hr4 hB5
    have hr35 := owns_below hr34 hB5
    have hO := of_any w5 _ a c L hr45 (by omega)
    clear hT2
    go_wp2_with fail
    refine hO.mono ?_
    rintro e w6 ⟨a6, c6, rfl, hr6, hB6⟩
    have hC6 := hC5.trans (hB6.mono hC5.size)
    have hr36 := owns_below hr35 hB6
    have hr56 := owns_below hr5 hB6
    have hS := same_any w6 _ _ a6 a3 c6 c3 L L true (Lib.hid (decide_eq_true rfl)) hr6 hr36 (by omega) (by omega)
    clear hO
    go_wp2_with fail
    refine hS.mono ?_
    rintro e w7 ⟨rfl, hB7⟩
    have hC7 := hC6.trans (hB7.mono hC6.size)
    have hr37 := owns_below hr36 hB7
    have hr57 := owns_below hr56 hB7
    have hO := of_any w7 _ a5 c5 L hr57 (by omega)
    clear hS
    go_wp2_with fail
    refine hO.mono ?_
    rintro e w8 ⟨a8, c8, rfl, hr8, hB8⟩
    have hC8 := hC7.trans (hB8.mono hC7.size)
    have hr38 := owns_below hr37 hB8
    have hS := same_any w8 _ _ a8 a3 c8 c3 L L true (Lib.hid (decide_eq_true rfl)) hr8 hr38 (by omega) (by omega)
    clear hO
    go_wp2_with fail
    refine hS.mono ?_
    rintro e w9 ⟨rfl, hB9⟩
    go_wp2_with fail
    go_ret
    exact ⟨rfl, hC8.trans (hB9.mono hC8.size)⟩
end Go.Proofs.YtocdmmhoghfeaaaDoor.Lx
