/-
  flatironref13.subst: each occurrence, changed.
-/
import Derived.Test.YtcgigllfkaijnaaGreatDoorESmall
import Derived.Test.YtcgigllfkaijnaaGreatDoorEJoin
namespace Go.Proofs.YtcgigllfkaijnaaGreatDoor.Ew
open Go.RowKit Go.Proofs.YtcgigllfkaijnaaGreatDoor Go.Proofs.YtcgigllfkaijnaaGreatDoor.Ww Go.Proofs.YtcgigllfkaijnaaGreatDoor.Tw
set_option maxRecDepth 100000

theorem subst_len (a b c : List UInt8) : (Ep.substA a b c).length ≤ c.length * (b.length + 1) + b.length + c.length := by
  unfold Ep.substA
  split
  · rw [List.length_append]; omega
  · rename_i h
    have := Ep.substGo_len a b h c.length c
    omega
/-- What the loop's head knows. -/
def SuRel (w : World) (a b c : ByteArray) (v i : Value) (wr : World) : Prop :=
  ∃ (k : Nat) (q : List UInt8) (ad : Option Addr) (cp : Nat), k ≤ c.size ∧ i = .int .i64 k ∧ v = .slice ad q.length cp ∧ q ++ Ep.substR (by8 a) (by8 b) (by8 c) k = Ep.substA (by8 a) (by8 b) (by8 c) ∧
    wr.ownsRow w.heap.size U8 1 (.slice ad q.length cp) q.length (bytesC q) ∧ Below w.heap.size w wr
theorem SuRel.next {w w1 : World} {a b c : ByteArray} {k' m : Nat} {q' : List UInt8} {ad : Option Addr} {cp : Nat} {iv : Int} (hiv : iv = (k' : Int)) (hk : k' ≤ c.size) (hq : q' ++ Ep.substR (by8 a) (by8 b) (by8 c) k' = Ep.substA (by8 a) (by8 b) (by8 c)) (hm : q'.length = m)
    (hr : w1.ownsRow w.heap.size U8 1 (.slice ad m cp) m (bytesC q')) (hB : Below w.heap.size w w1) : SuRel w a b c (.slice ad m cp) (.int .i64 iv) w1 := by
  subst hm; subst hiv
  exact ⟨k', q', ad, cp, hk, rfl, rfl, hq, hr, hB⟩

set_option maxHeartbeats 4000000 in
theorem Rsubst_any (w : World) (a b c : ByteArray) (ha : a.size ≤ 100000) (hb : b.size ≤ 100000) (hc : c.size ≤ 100000) :
    Calls Tryz.prog 18 #[.string a, .string b, .string c] w fun e w' => e = .returned (.string (str (Ep.substA (by8 a) (by8 b) (by8 c)))) ∧ Below w.heap.size w w' := by
  obtain ⟨i0, hi, hz0, hz1, hz2⟩ := info_parts infoU
  by_cases h0 : by8 a = []
  · have hb1 : (a.toList == []) = true := by rw [toList_by8, h0]; rfl
    have HE : Hid (str (Ep.substA (by8 a) (by8 b) (by8 c)) = c ++ b) := Lib.hid (by
      unfold Ep.substA; rw [if_pos h0]
      exact by8_ext (by rw [by8_add, by8_str]))
    have hcat : ¬ 9223372036854775807 < c.size + b.size := by omega
    clear h0
    go_enter Tryz.func18, Tryz.ntmps18
    go_wp2_with fail
    go_ret
    rw [HE.out]
    exact ⟨rfl, Below.refl _ _⟩
  have hb1 : (a.toList == []) = false := by rw [toList_by8]; exact beq_eq_false_iff_ne.2 h0
  have HA := Lib.hid h0
  have hal : 0 < a.size := by rw [← by8_len]; exact List.length_pos_iff.2 h0
  have HL := Lib.hid (subst_len (by8 a) (by8 b) (by8 c))
  clear h0
  go_enter Tryz.func18, Tryz.ntmps18
  go_wp2_with fail
  go_loopw [7, 8] (fun v i wr => SuRel w a b c v i wr) (fun _ i _ => c.size - (intOf i).toNat)
  case atStart => exact ⟨0, [], none, 0, Nat.zero_le _, rfl, rfl, by rw [Ep.substR_start HA.out]; rfl, World.ownsRow_nil _ _ _ _, Below.refl _ _⟩
  case round =>
    obtain ⟨k, q, ad, cp, hk, rfl, rfl, hq, hrow, hB⟩ := hrel
    have hql : q.length ≤ 10000300000 := by
      have h1 := congrArg List.length hq
      rw [List.length_append] at h1
      have h2 := HL.out
      rw [by8_len, by8_len] at h2
      have h3 : c.size * (b.size + 1) ≤ 100000 * 100001 := Nat.mul_le_mul hc (by omega)
      omega
    have HRow := Lib.hid hrow
    have HB := Lib.hid hB
    by_cases hlt : k < c.size
    · have hk8 : k < (by8 c).length := by rw [by8_len]; exact hlt
      cases ho : Lib.occAt (by8 c) (by8 a) k with
      | true =>
        have hroom : k + a.size ≤ c.size := by
          rcases Lib.occAt_room ho with h | h
          · rw [by8_len, by8_len] at h; exact h
          · exact absurd h HA.out
        have HC := Lib.hid (Rat_any wr c a k true (by omega) (by omega) (by omega) (Lib.hid ho))
        have hbl : b.data.toList.length = b.size := (Lib.size_eq _).symm
        have HQ : Hid ((q ++ b.data.toList) ++ Ep.substR (by8 a) (by8 b) (by8 c) (k + a.size) = Ep.substA (by8 a) (by8 b) (by8 c) ∧ (q ++ b.data.toList).length = q.length + b.size) := Lib.hid ⟨by
          rw [← hq, Ep.substR_hit HA.out hk8 ho, by8_len, List.append_assoc]; rfl, by rw [List.length_append, hbl]⟩
        clear ho hq hrow hB hbl
        go_wp2_with fail
        refine HC.out.mono ?_
        rintro e w' ⟨rfl, rfl⟩
        go_wp2_with (at_builtin; refine Lib.wpList_append_own_string _ rfl _ _ 63 9 rfl w.heap.size U8 i0 Tryz.underlying63 Tryz.underlying9 hi hz0 hz1 hz2 _ _ _ rfl HRow.out b rfl (by unfold maxLen; omega) (by omega) HB.out.size ?_; intro v'' w2 hown2 hgrow2 _; obtain ⟨a3, c3, rfl⟩ := owns_slice hown2)
        go_roundw
        case rel =>
          refine SuRel.next (k' := k + a.size) (by go_num) hroom HQ.out.1 HQ.out.2 ?_ (HB.out.grown hgrow2 HB.out.size fun j ej => (HRow.out.lt j ej).1)
          rw [bytesC_app]
          exact hown2
        case measure => simp [intOf]; omega
      | false =>
        have HC := Lib.hid (Rat_any wr c a k false (by omega) (by omega) (by omega) (Lib.hid ho))
        have HQ : Hid ((q ++ [c[k]]) ++ Ep.substR (by8 a) (by8 b) (by8 c) (k + 1) = Ep.substA (by8 a) (by8 b) (by8 c) ∧ (q ++ [c[k]]).length = q.length + 1) := Lib.hid ⟨by
          rw [← hq, Ep.substR_miss HA.out hk8 ho, List.append_assoc]; rfl, by rw [List.length_append]; rfl⟩
        clear ho hq hrow hB
        go_wp2_with fail
        refine HC.out.mono ?_
        rintro e w' ⟨rfl, rfl⟩
        go_wp2_with (at_builtin; refine wpList_append_own _ rfl _ _ 63 rfl w.heap.size U8 i0 (.int .u8 0) 1 1 Tryz.underlying63 hi hz0 hz1 hz2 rfl (by decide) _ _ _ rfl (HRow.out.alloc _) ⟨wr.heap.size, 0, none⟩ 1 1 [.int .u8 (c[k].toNat : Int)] rfl rfl (one_new _ _ _) (by simp [Value.oneCell']) (by unfold maxLen; omega) (by omega) (by have := HB.out.size; simp; omega) ?_; intro v' w1 hown' hgrow _; obtain ⟨a2, c2, rfl⟩ := owns_slice hown')
        go_roundw
        case rel =>
          refine SuRel.next (k' := k + 1) (by go_num) (by omega) HQ.out.1 HQ.out.2 ?_ ((HB.out.alloc HB.out.size _).grown hgrow (by have := HB.out.size; simp; omega) fun j ej => (HRow.out.lt j ej).1)
          rw [bytesC_app]
          exact hown'
        case measure => simp [intOf]; omega
    · obtain rfl : k = c.size := by omega
      rw [Ep.substR_over (by rw [by8_len]; exact Nat.le_refl _), List.append_nil] at hq
      have HE : Hid (str (Ep.substA (by8 a) (by8 b) (by8 c)) = ⟨q.toArray⟩) := Lib.hid (by rw [← hq]; rfl)
      by_cases h0 : 0 < q.length
      · obtain ⟨g, rfl, _⟩ := owns_addr hrow h0
        have hconv := run_convert_bytes_back (P := Tryz.prog) wr 63 9 5 ⟨g, 0, none⟩ cp q Tryz.underlying63 Tryz.underlying5 Tryz.underlying9
          (fun j hj => by
            have := owns_cell hrow (j := j) (u := .int .u8 (q[j].toNat : Int)) (by simp [bytesC, hj])
            rw [Addr.add_lit, Nat.zero_add]
            exact this)
        clear hq hrow
        go_wp2
        go_ret
        rw [HE.out]
        exact ⟨rfl, HB.out⟩
      · have h1 : q = [] := List.eq_nil_of_length_eq_zero (by omega)
        subst h1
        have hconv : ∀ a, (convert 63 9 (.slice a 0 cp)).run Tryz.prog wr = .ok (.string ⟨#[]⟩) wr := fun a => by
          rw [run_convert_bytes_string wr _ _ 5 a 0 cp Tryz.underlying63 Tryz.underlying5 Tryz.underlying9]
          cases a <;> simp [Conv.bytesToString] <;> rfl
        have hconv1 := hconv ad
        clear hq hrow hconv
        go_wp2
        go_ret
        rw [HE.out]
        exact ⟨rfl, HB.out⟩
end Go.Proofs.YtcgigllfkaijnaaGreatDoor.Ew
