/-
  flatironlaw12.StemChanges, by what package stem's functions return.
-/
import Derived.Deep.RegionHeld3
import Derived.Test.YthhcojfgfdnbnaaWReads
import Derived.Test.YthhcojfgfdnbnaaTLaw
namespace Go.Proofs.Ythhcojfgfdnbnaa.Tw
open Go.RowKit Go.Proofs.Ythhcojfgfdnbnaa Go.Proofs.Ythhcojfgfdnbnaa.Ww
set_option maxRecDepth 100000

def chS (a b x : ByteArray) : ByteArray := str (Tp.changeA (by8 x) (by8 a) (by8 b))
def AllC : Prop := ∀ (w : World) (v : Value) (l : List ByteArray) (a b : ByteArray), Rd w w.heap.size v (strsC l) → l.length ≤ 1000 → (∀ x ∈ l, x.size ≤ 100000) → a.size ≤ 100000 → b.size ≤ 100000 →
  Calls Try.prog 12 #[v, .string a, .string b] w fun e w' => ∃ v', e = .returned v' ∧ Rd w' w'.heap.size v' (strsC (l.map (chS a b))) ∧ Below w.heap.size w w'

set_option maxHeartbeats 2000000 in
theorem changes_long (HC : ChangeC) (HH : HasC) (w : World) (v : Value) (l : List ByteArray) (a b : ByteArray) (hr : Rd w w.heap.size v (strsC l)) (hz : a.size + b.size ≤ 9000000000000000000) (h : 60 < l.length ∨ 400 < a.size + b.size) :
    Calls Try.prog 4 #[v, .string a, .string b] w (TruePost w) := by
  have HL := Lib.hid fun W => lives_any HC HH W
  obtain ⟨va, vc, rfl, _⟩ := hr.shape
  rw [strsC_len] at *
  clear HC HH hr
  by_cases h1 : 60 < l.length
  · have hz1 : (60 : Int) < (l.length : Int) := by omega
    clear h
    go_enter Try.func4, Try.ntmps4
    go_wp2_with fail
    refine (HL.out _).mono ?_
    rintro e w1 ⟨rfl, B1⟩
    go_wp2_with fail
    refine (HL.out _).mono ?_
    rintro e w2 ⟨rfl, B2⟩
    go_wp2_with fail
    go_ret
    exact ⟨rfl, B1.trans (B2.mono B1.size)⟩
  · have hz1 : ¬ (60 : Int) < (l.length : Int) := by omega
    have hz2 : (400 : Int) < (a.size : Int) + (b.size : Int) := by omega
    clear h
    go_enter Try.func4, Try.ntmps4
    go_wp2_with fail
    refine (HL.out _).mono ?_
    rintro e w1 ⟨rfl, B1⟩
    go_wp2_with fail
    refine (HL.out _).mono ?_
    rintro e w2 ⟨rfl, B2⟩
    go_wp2_with fail
    go_ret
    exact ⟨rfl, B1.trans (B2.mono B1.size)⟩

theorem ch_len (a b x : ByteArray) : (chS a b x).size ≤ x.size + a.size + b.size := by
  unfold chS
  rw [str_size]
  unfold Tp.changeA
  split
  · rw [by8_len]; omega
  · rename_i s h
    have h1 := Tp.match_len h
    have h2 := Tp.put_len (by8 b) s
    rw [by8_len] at *
    split
    · rw [by8_len]; omega
    · omega

theorem held_on {w2 W W' : World} {g o : Nat} {u : Value} (hg : g < w2.heap.size) (h : W.cell? ⟨g, o, none⟩ = some u ∧ Below w2.heap.size w2 W) (B : Below W.heap.size W W') : W'.cell? ⟨g, o, none⟩ = some u ∧ Below w2.heap.size w2 W' :=
  ⟨(B.cell (p := ⟨g, o, none⟩) (Nat.lt_of_lt_of_le hg h.2.size)).trans h.1, h.2.trans (B.mono h.2.size)⟩
set_option maxHeartbeats 8000000 in
theorem StemChangesL_any (HC : ChangeC) (HH : HasC) (HA : AllC) (w : World) (v : Value) (l : List ByteArray) (a b : ByteArray) (hr : Rd w w.heap.size v (strsC l)) (hz : a.size + b.size ≤ 9000000000000000000) :
    Calls Try.prog 4 #[v, .string a, .string b] w (TruePost w) := by
  by_cases h : 60 < l.length ∨ 400 < a.size + b.size
  · exact changes_long HC HH w v l a b hr hz h
  have HL := Lib.hid fun W => lives_any HC HH W
  have HALL := Lib.hid HA
  have HCC := Lib.hid HC
  have HR := Lib.hid hr
  obtain ⟨va, vc, rfl, hvc⟩ := hr.shape
  rw [strsC_len] at *
  have hl60 : l.length ≤ 60 := by omega
  have hab : a.size + b.size ≤ 400 := by omega
  have hz1 : ¬ (60 : Int) < (l.length : Int) := by omega
  have hz2 : ¬ (400 : Int) < (a.size : Int) + (b.size : Int) := by omega
  clear HC HH HA hr h hz
  go_enter Try.func4, Try.ntmps4
  go_wp2_with fail
  refine (HL.out _).mono ?_
  rintro e w1 ⟨rfl, B1⟩
  go_wp2_with fail
  go_loopw [30] (fun vi wr => ∃ i : Nat, vi = .int .i64 i ∧ i ≤ l.length ∧ wr = w1 ∧ ∀ j (hj : j < l.length), j < i → l[j].size ≤ 100) (fun vi _ => l.length - (intOf vi).toNat)
  case atStart => exact ⟨0, rfl, Nat.zero_le _, rfl, fun j _ h => absurd h (Nat.not_lt_zero _)⟩
  case round =>
    obtain ⟨i, rfl, hi, rfl, hsz⟩ := hrel
    by_cases hlt : i < l.length
    · obtain ⟨g, o, c', hv, hc', hg, hx⟩ := HR.out.open_ (by rw [strsC_len]; omega)
      rw [strsC_len] at hv hc'
      obtain ⟨rfl, _, rfl⟩ := (Value.slice.injEq ..).mp hv
      have hcx : wr.cell? ⟨g, o + i, none⟩ = some (.string l[i]) := (B1.cell (p := ⟨g, o + i, none⟩) hg).trans (hx i _ (strsC_get l hlt))
      have hki : (i : Int) < l.length := by omega
      have hk0 : (0 : Int) ≤ (i : Int) := Int.natCast_nonneg _
      have hgv : l.length ≤ vc := by omega
      by_cases h100 : l[i].size ≤ 100
      · have hq : ¬ (100 : Int) < (l[i].size : Int) := by omega
        have HS : Hid (∀ j (hj : j < l.length), j < i + 1 → l[j].size ≤ 100) := Lib.hid fun j hj h => by
          by_cases hji : j < i
          · exact hsz j hj hji
          · obtain rfl : j = i := by omega
            exact h100
        clear hx hsz
        generalize l[i] = x at *
        go_wp2_with fail
        go_roundw
        case rel => exact ⟨i + 1, by go_num, hlt, trivial, HS.out⟩
        case measure => simp [intOf]; omega
      · have hq : (100 : Int) < (l[i].size : Int) := by omega
        clear hx hsz
        generalize l[i] = x at *
        go_wp2_with fail
        go_ret
        exact ⟨rfl, B1⟩
    · obtain rfl : i = l.length := by omega
      have hki : ¬ (l.length : Int) < l.length := by omega
      have HS : Hid (∀ x ∈ l, x.size ≤ 100) := Lib.hid fun x hx => by
        obtain ⟨j, hj, e⟩ := List.mem_iff_getElem.1 hx
        have := hsz j hj hj
        rw [e] at this; exact this
      have HB1 := Lib.hid B1
      have HAL := Lib.hid (HALL.out wr _ l a b ((HR.out.below B1).more B1.size) (by omega) (fun x hx => by have := HS.out x hx; omega) (by omega) (by omega))
      clear hsz B1
      go_wp2_with fail
      refine HAL.out.mono ?_
      rintro e w2 ⟨v', rfl, hr2, B2⟩
      obtain ⟨wa, wc, rfl, hwc⟩ := hr2.shape
      rw [strsC_len, List.length_map] at *
      have HR2 := Lib.hid hr2
      have HB2 := Lib.hid (HB1.out.trans (B2.mono HB1.out.size))
      clear hr2 B2
      go_wp2_with fail
      go_loopw [49] (fun vi wr2 => ∃ i : Nat, vi = .int .i64 i ∧ i ≤ l.length ∧ Below w2.heap.size w2 wr2) (fun vi _ => l.length - (intOf vi).toNat)
      case atStart => exact ⟨0, rfl, Nat.zero_le _, Below.refl _ _⟩
      case round =>
        obtain ⟨i, rfl, hi2, hB3⟩ := hrel
        obtain ⟨w3, rfl⟩ : ∃ w3 : World, w3 = wr := ⟨wr, rfl⟩
        have HB3 := Lib.hid hB3
        by_cases hlt : i < l.length
        · obtain ⟨g, o, c', hv, hc', hg, hx⟩ := HR.out.open_ (by rw [strsC_len]; omega)
          rw [strsC_len] at hv hc'
          obtain ⟨rfl, _, rfl⟩ := (Value.slice.injEq ..).mp hv
          obtain ⟨g2, o2, c2, hv2, hc2, hg2, hy⟩ := HR2.out.open_ (by rw [strsC_len, List.length_map]; omega)
          rw [strsC_len, List.length_map] at hv2 hc2
          obtain ⟨rfl, _, rfl⟩ := (Value.slice.injEq ..).mp hv2
          have hcx : w3.cell? ⟨g, o + i, none⟩ = some (.string l[i]) := ((HB2.out.trans (hB3.mono HB2.out.size)).cell (p := ⟨g, o + i, none⟩) hg).trans (hx i _ (strsC_get l hlt))
          have hy1 := hy i _ (strsC_get (l.map (chS a b)) (by rw [List.length_map]; exact hlt))
          rw [List.getElem_map] at hy1
          have hcy : w3.cell? ⟨g2, o2 + i, none⟩ = some (.string (chS a b l[i])) := (hB3.cell (p := ⟨g2, o2 + i, none⟩) hg2).trans hy1
          have hki : (i : Int) < l.length := by omega
          have hk0 : (0 : Int) ≤ (i : Int) := Int.natCast_nonneg _
          have hgv : l.length ≤ vc := by omega
          have hs100 := HS.out l[i] (List.getElem_mem hlt)
          have H1 : Hid (∀ W, Calls Try.prog 13 #[.string l[i], .string a, .string b] W fun e w' => e = .returned (.string (chS a b l[i])) ∧ Below W.heap.size W w') := Lib.hid fun W => RChange_any W l[i] a b (by omega) (by omega) (by omega)
          have H2 : Hid (∀ W, Calls Try.prog 14 #[.string l[i], .string a, .string b] W fun e w' => e = .returned (.string (chS a b l[i])) ∧ Below W.heap.size W w') := Lib.hid fun W => HCC.out W l[i] a b (by omega) (by omega) (by omega)
          have S5 : w3.drew.cell? ⟨g2, o2 + i, none⟩ = some (.string (chS a b l[i])) ∧ Below w2.heap.size w2 w3.drew := ⟨hcy, hB3.drew⟩
          clear hx hy hy1 hB3 hs100
          generalize l[i] = x at *
          go_wp2_with fail
          go_region_held3 (fun W => W.cell? ⟨g2, o2 + i, none⟩ = some (.string (chS a b x)) ∧ Below w2.heap.size w2 W)
            (first | exact S7 | exact S6 | exact S5)
            (first
              | (go_at_call 13; refine (H1.out _).mono ?_; rintro e w6 ⟨rfl, B6⟩; have S6 := held_on hg2 S5 B6)
              | (go_at_call 14; refine (H2.out _).mono ?_; rintro e w7 ⟨rfl, B7⟩; have S7 := held_on hg2 S6 B7))
          all_goals go_wp2_with fail
          all_goals go_roundw
          case rel => exact ⟨i + 1, by go_num, hlt, S7.2⟩
          case measure => simp [intOf]; omega
        · obtain rfl : i = l.length := by omega
          have hki3 : ¬ (l.length : Int) < l.length := by omega
          clear hB3
          go_wp2_with fail
          go_ret
          exact ⟨rfl, HB2.out.trans (HB3.out.mono HB2.out.size)⟩
end Go.Proofs.Ythhcojfgfdnbnaa.Tw
