/-
  flatironlaw15.AutoVars, by what auto.Of returns.
-/
import Derived.Test.YtenokbceamcekaaGreatDoorQAOf
import Derived.Test.YtenokbceamcekaaGreatDoorQAMap
namespace Go.Proofs.YtenokbceamcekaaGreatDoor.Aw
open Go.RowKit Go.Proofs.YtenokbceamcekaaGreatDoor Go.Proofs.YtenokbceamcekaaGreatDoor.Ww Go.Proofs.YtenokbceamcekaaGreatDoor.Tw Go.Proofs.YtenokbceamcekaaGreatDoor.Ew
set_option maxRecDepth 100000

theorem Has.look {w : World} {b : Nat} {L : List (Bs × ByteArray)} {l : List (ByteArray × ByteArray)} (h : Has w b L l) {x t : ByteArray} (hm : (x, t) ∈ l) (hx : x.size ≤ 1000) :
    (Instr.lookup 24 (.map (some b)) (.string x) true).run Tryz.prog w = .ok (.tuple #[.string t, .bool true]) w ∧ (Instr.lookup 24 (.map (some b)) (.string x) false).run Tryz.prog w = .ok (.string t) w := by
  have hr := h.map.run_look (p := x) (by unfold maxLen; omega)
  have hg := h.all _ hm
  have e1 : Kw.valA AK L (by8 x) = t := by unfold Kw.valA; rw [hg]; rfl
  rw [e1, hg] at hr
  exact hr
theorem Has.below {w w' : World} {b : Nat} {L : List (Bs × ByteArray)} {l : List (ByteArray × ByteArray)} (h : Has w b L l) (hb : Below w.heap.size w w') : Has w' b L l := ⟨h.map.below hb, h.len, h.all⟩
theorem ex_auto : allT (plainT ⟨#[100, 47, 120]⟩ ⟨#[]⟩ [⟨#[97]⟩]) = [(⟨#[64]⟩, ⟨#[100, 47, 120]⟩), (⟨#[64, 68]⟩, ⟨#[100]⟩), (⟨#[64, 70]⟩, ⟨#[120]⟩), (⟨#[60]⟩, ⟨#[97]⟩), (⟨#[60, 68]⟩, ⟨#[46]⟩), (⟨#[60, 70]⟩, ⟨#[97]⟩), (⟨#[94]⟩, ⟨#[97]⟩), (⟨#[94, 68]⟩, ⟨#[46]⟩), (⟨#[94, 70]⟩, ⟨#[97]⟩), (⟨#[43]⟩, ⟨#[97]⟩), (⟨#[43, 68]⟩, ⟨#[46]⟩), (⟨#[43, 70]⟩, ⟨#[97]⟩), (⟨#[42]⟩, ⟨#[]⟩), (⟨#[42, 68]⟩, ⟨#[]⟩), (⟨#[42, 70]⟩, ⟨#[]⟩)] := by kernel_rfl
theorem len_map {w : World} {b : Nat} {L : List (Bs × ByteArray)} (h : Kw.MapAt AK w b L) (ty : TypeId) : (Builtin.len_ #[24] ty #[.map (some b)]).run Tryz.prog w = .ok (.int .i64 L.length) w := Kw.MOpt.len (K := AK) (m := some b) h ty
set_option maxHeartbeats 4000000 in
theorem lives_any (H : AutoC) (w : World) (hG : GM w) : Calls Tryz.prog 4 #[] w fun e w' => e = .returned (.bool true) ∧ Below w.heap.size w w' := by
  have hrd := rd_lit w [⟨#[97]⟩] #[.string ⟨#[97]⟩] rfl 1 (Nat.le_refl _)
  have H1 := Lib.hid (H _ ⟨#[100, 47, 120]⟩ ⟨#[]⟩ _ [⟨#[97]⟩] (hG.below ((Below.refl _ w).alloc (Nat.le_refl _) _)) hrd (by decide) (by decide) (by decide) (by decide))
  rw [ex_auto] at H1
  clear hrd H hG
  go_enter Tryz.func4, Tryz.ntmps4
  go_wp2_with fail
  refine H1.out.mono ?_
  rintro e w1 ⟨b, L, rfl, hH, B1⟩
  have l0 := fun ty => len_map hH.out.map ty
  have hL : L.length = 15 := hH.out.len
  rw [hL] at l0
  have l1 := (hH.out.look (x := ⟨#[64, 68]⟩) (t := ⟨#[100]⟩) (by simp) (by decide)).2
  have l2 := (hH.out.look (x := ⟨#[64, 70]⟩) (t := ⟨#[120]⟩) (by simp) (by decide)).2
  have l3 := (hH.out.look (x := ⟨#[60, 68]⟩) (t := ⟨#[46]⟩) (by simp) (by decide)).2
  have HB := Lib.hid (((Below.refl w.heap.size w).alloc (Nat.le_refl _) _).trans (B1.mono (by simp)))
  clear B1 hL
  go_wp2_with fail
  go_ret
  exact ⟨rfl, HB.out⟩
def TruePost (w : World) (e : Ending) (w' : World) : Prop := e = .returned (.bool true) ∧ Below w.heap.size w w'
theorem allT_len (l : List (ByteArray × ByteArray)) : (allT l).length = 3 * l.length := by
  induction l with
  | nil => rfl
  | cons x l ih =>
    rw [show allT (x :: l) = threeT x.1 x.2 ++ allT l from rfl, List.length_append, ih, List.length_cons]
    show 3 + _ = _; omega
set_option maxHeartbeats 2000000 in
theorem auto_long (H : AutoC) (w : World) (hG0 : GM w) (target stem : ByteArray) (v : Value) (needs : List ByteArray) (hr : Rd w w.heap.size v (strsC needs)) (hz : target.size + stem.size ≤ 9000000000000000000) (h : 500 < target.size + stem.size ∨ 60 < needs.length) :
    Calls Tryz.prog 3 #[.string target, .string stem, v] w (TruePost w) := by
  have HLv := Lib.hid fun W h => lives_any H W h
  obtain ⟨a0, c0, rfl, _⟩ := hr.shape
  simp only [strsC_len] at *
  have HG := Lib.hid hG0
  clear H hr hG0
  by_cases h1 : 500 < target.size + stem.size
  · have hz1 : (500 : Int) < (target.size : Int) + (stem.size : Int) := by omega
    clear h
    go_enter Tryz.func3, Tryz.ntmps3
    go_wp2_with fail
    refine (HLv.out _ HG.out).mono ?_
    rintro e w1 ⟨rfl, B1⟩
    go_wp2_with fail
    refine (HLv.out _ (HG.out.below B1)).mono ?_
    rintro e w2 ⟨rfl, B2⟩
    go_wp2_with fail
    go_ret
    exact ⟨rfl, B1.trans (B2.mono B1.size)⟩
  · have hz1 : ¬ (500 : Int) < (target.size : Int) + (stem.size : Int) := by omega
    have hz2 : (60 : Int) < (needs.length : Int) := by omega
    clear h
    go_enter Tryz.func3, Tryz.ntmps3
    go_wp2_with fail
    refine (HLv.out _ HG.out).mono ?_
    rintro e w1 ⟨rfl, B1⟩
    go_wp2_with fail
    refine (HLv.out _ (HG.out.below B1)).mono ?_
    rintro e w2 ⟨rfl, B2⟩
    go_wp2_with fail
    go_ret
    exact ⟨rfl, B1.trans (B2.mono B1.size)⟩

set_option maxHeartbeats 8000000 in
theorem AutoVarsL_any (H : AutoC) (w : World) (hG0 : GM w) (target stem : ByteArray) (v : Value) (needs : List ByteArray) (hr : Rd w w.heap.size v (strsC needs)) (hz : target.size + stem.size ≤ 9000000000000000000) :
    Calls Tryz.prog 3 #[.string target, .string stem, v] w (TruePost w) := by
  by_cases hsz : 500 < target.size + stem.size ∨ 60 < needs.length
  · exact auto_long H w hG0 target stem v needs hr hz hsz
  have hl : needs.length ≤ 60 := by omega
  have ht : target.size ≤ 500 := by omega
  have hst : stem.size ≤ 500 := by omega
  have hz1 : ¬ (500 : Int) < (target.size : Int) + (stem.size : Int) := by omega
  have hz2 : ¬ (60 : Int) < (needs.length : Int) := by omega
  have HLv := Lib.hid fun W h => lives_any H W h
  have HG := Lib.hid hG0
  have HA := Lib.hid fun W v g h hs => H W target stem v needs g h hl hs ht hst
  have HO := Lib.hid fun W v h hs => ROf_any W target stem v needs h hl hs ht hst
  have HR := Lib.hid hr
  obtain ⟨a0, c0, rfl, hc0⟩ := hr.shape
  simp only [strsC_len] at *
  clear H hr hsz hz hG0
  go_enter Tryz.func3, Tryz.ntmps3
  go_wp2_with fail
  refine (HLv.out _ HG.out).mono ?_
  rintro e w1 ⟨rfl, B1⟩
  have HB1 := Lib.hid B1
  clear B1
  go_wp2_with fail
  go_loopw [33] (fun vi wr => ∃ i : Nat, vi = .int .i64 i ∧ i ≤ needs.length ∧ wr = w1 ∧ ∀ j (hj : j < needs.length), j < i → needs[j].size ≤ 100) (fun vi _ => needs.length - (intOf vi).toNat)
  case atStart => exact ⟨0, rfl, Nat.zero_le _, rfl, fun j _ h => absurd h (Nat.not_lt_zero _)⟩
  case round =>
    obtain ⟨i, rfl, hi, rfl, hsz⟩ := hrel
    by_cases hlt : i < needs.length
    · obtain ⟨g, o, c', hv, hc', hg, hx⟩ := HR.out.open_ (by rw [strsC_len]; omega)
      rw [strsC_len] at hv hc'
      obtain ⟨rfl, _, rfl⟩ := (Value.slice.injEq ..).mp hv
      have hcx : wr.cell? ⟨g, o + i, none⟩ = some (.string needs[i]) := (HB1.out.cell (p := ⟨g, o + i, none⟩) hg).trans (hx i _ (strsC_get needs hlt))
      have hki : (i : Int) < needs.length := by omega
      have hk0 : (0 : Int) ≤ (i : Int) := Int.natCast_nonneg _
      have hgv : needs.length ≤ c0 := by omega
      by_cases h100 : needs[i].size ≤ 100
      · have hq : ¬ (100 : Int) < (needs[i].size : Int) := by omega
        have HS : Hid (∀ j (hj : j < needs.length), j < i + 1 → needs[j].size ≤ 100) := Lib.hid fun j hj h => by
          by_cases hji : j < i
          · exact hsz j hj hji
          · obtain rfl : j = i := by omega
            exact h100
        clear hx hsz
        generalize needs[i] = x at *
        go_wp2_with fail
        go_roundw
        case rel => exact ⟨i + 1, by go_num, hlt, trivial, HS.out⟩
        case measure => simp [intOf]; omega
      · have hq : (100 : Int) < (needs[i].size : Int) := by omega
        clear hx hsz
        generalize needs[i] = x at *
        go_wp2_with fail
        go_ret
        exact ⟨rfl, HB1.out⟩
    · obtain rfl : i = needs.length := by omega
      have hki : ¬ (needs.length : Int) < needs.length := by omega
      have HS : ∀ x ∈ needs, x.size ≤ 100 := fun x hx => by
        obtain ⟨j, hj, e⟩ := List.mem_iff_getElem.1 hx
        have := hsz j hj hj
        rw [e] at this; exact this
      have HA1 := Lib.hid (HA.out wr _ (HG.out.below HB1.out) ((HR.out.below HB1.out).more HB1.out.size) HS)
      have HO1 := Lib.hid fun W (hW : Below wr.heap.size wr W) => HO.out W _ ((HR.out.below (HB1.out.trans (hW.mono HB1.out.size))).more (HB1.out.trans (hW.mono HB1.out.size)).size) HS
      clear hsz HS
      go_wp2_with fail
      refine HA1.out.mono ?_
      rintro e w2 ⟨b, L, rfl, hH, B2⟩
      have HB2 := Lib.hid B2
      clear B2
      go_wp2_with fail
      refine (HO1.out _ HB2.out).mono ?_
      rintro e w3 ⟨a3, c3, rfl, hrow, B3⟩
      have HB3 := Lib.hid (HB2.out.trans (B3.mono HB2.out.size))
      have HH := Lib.hid (hH.out.below B3)
      have H15 : Hid ((allT (plainT target stem needs)).length = 15 ∧ ∀ p ∈ allT (plainT target stem needs), p.1.size ≤ 1000) := Lib.hid ⟨by rw [allT_len]; rfl, fun p hp => by
        unfold allT at hp
        obtain ⟨q, hq, hp⟩ := List.mem_flatMap.1 hp
        have hq1 : q.1.size ≤ 1 := by
          unfold plainT at hq
          simp only [List.mem_cons, List.not_mem_nil, or_false] at hq
          rcases hq with rfl | rfl | rfl | rfl | rfl <;> exact Nat.le_refl 1
        unfold threeT at hp
        simp only [List.mem_cons, List.not_mem_nil, or_false] at hp
        have h1 : (⟨#[68]⟩ : ByteArray).size = 1 := rfl
        have h2 : (⟨#[70]⟩ : ByteArray).size = 1 := rfl
        rcases hp with rfl | rfl | rfl
        · show q.1.size ≤ _; omega
        · show (q.1 ++ _).size ≤ _; rw [ByteArray.size_append]; omega
        · show (q.1 ++ _).size ≤ _; rw [ByteArray.size_append]; omega⟩
      clear hH B3
      generalize allT (plainT target stem needs) = pl at *
      obtain ⟨g, hga, hgc⟩ : ∃ g, a3 = some ⟨g, 0, none⟩ ∧ 15 ≤ c3 := by
        rcases hrow.out.2 with ⟨h, h0⟩ | ⟨g, cap, cur, h, hb, hg, hn, hc, hs, ht⟩
        · omega
        · cases h; exact ⟨g, rfl, hn⟩
      subst hga
      have HCell : Hid (∀ k (h : k < pl.length), w3.cell? ⟨g, k * 2, none⟩ = some (.string pl[k].1) ∧ w3.cell? ⟨g, k * 2 + 1, none⟩ = some (.string pl[k].2)) := Lib.hid fun k h => by
        obtain ⟨h1, h2⟩ := pairsC_get pl k h
        have x1 := hrow.out.cells (g := g) rfl _ _ h1
        have x2 := hrow.out.cells (g := g) rfl _ _ h2
        rw [Addr.add_lit, Nat.zero_add] at x1 x2
        exact ⟨x1, x2⟩
      have HG : Hid (g < w3.heap.size) := Lib.hid (hrow.out.lt g rfl).2
      clear hrow
      go_wp2_with fail
      go_loopw [51] (fun vi wr2 => ∃ k : Nat, vi = .int .i64 k ∧ k ≤ 15 ∧ Below w3.heap.size w3 wr2) (fun vi _ => 15 - (intOf vi).toNat)
      case atStart => exact ⟨0, rfl, Nat.zero_le _, Below.refl _ _⟩
      case round =>
        obtain ⟨k, rfl, hk, hB⟩ := hrel
        obtain ⟨w4, rfl⟩ : ∃ w4 : World, w4 = wr := ⟨wr, rfl⟩
        have HB := Lib.hid hB
        by_cases hlt2 : k < 15
        · have hkp : k < pl.length := by have := H15.out.1; omega
          have hki2 : (k : Int) < 15 := by omega
          have hk02 : (0 : Int) ≤ (k : Int) := Int.natCast_nonneg _
          have m0 := (hB.cell (p := ⟨g, k * 2, none⟩) HG.out).trans (HCell.out k hkp).1
          have m1 := (hB.cell (p := ⟨g, k * 2 + 1, none⟩) HG.out).trans (HCell.out k hkp).2
          have hmem := List.getElem_mem hkp
          have hx1 := H15.out.2 _ hmem
          obtain ⟨⟨x, t⟩, hxt⟩ : ∃ p, pl[k] = p := ⟨_, rfl⟩
          rw [hxt] at m0 m1 hmem hx1
          simp only at m0 m1 hx1
          have HLk := Lib.hid fun W (hW : Below w3.heap.size w3 W) => ((HH.out.below hW).look hmem hx1).1
          have et : (t.toList == t.toList) = true := beq_self_eq_true _
          clear hxt hmem hx1 hB
          have hlk := HLk.out (w4.alloc (.cells #[.string x, .string t] PT)) (HB.out.alloc HB.out.size _)
          have HB5 := Lib.hid (HB.out.alloc HB.out.size (.cells #[.string x, .string t] PT))
          go_wp2_with fail
          go_roundw
          case rel => exact ⟨k + 1, by go_num, hlt2, HB5.out⟩
          case measure => simp [intOf]; omega
        · obtain rfl : k = 15 := by omega
          have l0 := fun ty => len_map ((HH.out.below hB).map) ty
          have hL : L.length = 15 := HH.out.len.trans H15.out.1
          rw [hL] at l0
          clear hB hL
          go_wp2_with fail
          go_ret
          exact ⟨rfl, HB1.out.trans ((HB3.out.trans (HB.out.mono HB3.out.size)).mono HB1.out.size)⟩
end Go.Proofs.YtenokbceamcekaaGreatDoor.Aw
