/-
  strings.IndexRune of a rune from 128 on in a text of four bytes below 128: none.
-/
import Derived.Test.YtjjlafbdhpojpaaDoorMRune
namespace Go.Proofs.YtjjlafbdhpojpaaDoor.Mw
open Go.RowKit Go.Proofs.YtjjlafbdhpojpaaDoor Go.Proofs.YtjjlafbdhpojpaaDoor.Ww Go.Proofs.YtjjlafbdhpojpaaDoor.Iw
set_option maxRecDepth 1000000

set_option maxHeartbeats 2000000 in
theorem runeGood_any (w : World) (S : ByteArray) (hS : S.size = 6) (hlow : ∀ k (hk : k < S.size), S[k].toNat < 128) (r : Nat) (h : 128 ≤ r) (h2 : r ≤ 1114111) (hne : ¬ r = 65533) (hv : Lib.validRune r = true) :
    Calls Tryd.prog 91 #[.string S, .int .i32 r] w fun e w' => e = .returned (.int .i64 (-1)) ∧ Below w.heap.size w w' := by
  have hb : ((r : Int) == 65533) = false := by rw [beq_eq_false_iff_ne]; omega
  obtain ⟨t, ht, ht1, ht2, hth⟩ := enc_high r (by omega) (by omega)
  obtain ⟨m, hm⟩ : ∃ m, t.size = m + 1 := ⟨t.size - 1, by omega⟩
  have hts : (t.size : Int) - 1 = m := by omega
  have HV := Lib.hid hv
  have H2 := Lib.hid h2
  have HL := Lib.hid hlow
  have hS1 : 6 ≤ S.size := by omega
  have HT := Lib.hid hth
  have hlt : m < S.size := by omega
  have hlt2 : m < t.size := by omega
  have hneq : ((S[m].toNat : Int) == (t[m].toNat : Int)) = false := by
    have := hlow _ hlt
    have := hth _ hlt2
    rw [beq_eq_false_iff_ne]; omega
  have hneq2 : ((S[m].toNat : Int) != (t[m].toNat : Int)) = true := by
    rw [bne, hneq]; rfl
  have hix := hth _ hlt2
  have HIX := Lib.hid hix
  have HM := Lib.hid hm
  have hm3 : m ≤ 3 := by omega
  clear hv hne h2 hlow hth hS hix hm ht1 ht2
  go_enter Tryd.func91, Tryd.ntmps91
  go_wp2_with (go_at_call 95; go_must (refine (x_ValidRune _ _).mono ?_); rintro e w' ⟨rfl, rfl⟩; rw [HV.out])
  go_step3
  go_wp2
  go_loopw [9] (fun v wr => v = .int .i64 (m : Int) ∧ ∃ n, wr = w'.drewN n) (fun _ _ => 0)
  case atStart => exact ⟨rfl, 0, rfl⟩
  case round =>
    obtain ⟨rfl, n, rfl⟩ := hrel
    have hlo : ∀ k (hk : k < (S.extract (m + 1) S.size).size), (S.extract (m + 1) S.size)[k].toNat < 128 := by
      intro k hk
      rw [ByteArray.size_extract] at hk
      rw [ByteArray.getElem_extract]
      exact HL.out _ (by omega)
    have HLO := Lib.hid hlo
    clear hlo
    go_wp2
    go_step3
    go_wp2
    go_quiet (fail)
    go_wp2
    go_quiet ((go_at_call 94; exact quiet_at (fun W => indexHi_any W _ _ HLO.out HIX.out)))
    go_wp2
    rw [Exit.noGoto_ret]
    go_wp2
    repeat rw [Exit.noGoto_ret]
    go_ret
    exact ⟨rfl, below_drewN (Below.refl _ _) _⟩
end Go.Proofs.YtjjlafbdhpojpaaDoor.Mw
