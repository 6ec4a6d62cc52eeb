/-
  The reference's may.
-/
import Derived.Test.YtmmilnmlmgcobaaGreatDoorSRPut
import Derived.Test.YtmmilnmlmgcobaaGreatDoorSPlace
import Derived.Test.YtmmilnmlmgcobaaGreatDoorSPlain2
import Derived.Deep.RegionHeld3
namespace Go.Proofs.YtmmilnmlmgcobaaGreatDoor.Sw
open Go.RowKit Go.Proofs.YtmmilnmlmgcobaaGreatDoor Go.Maps
set_option maxRecDepth 100000

theorem RClean_is (w : World) (p : ByteArray) (b : Bool) (hs : p.size ≤ 900000) (h : Hid (isPath (bs p) = b)) :
    Calls Tryz.prog 20 #[.string p] w fun e w' => e = .returned (.bool b) ∧ Below w.heap.size w w' := by
  have := RClean_any w p hs
  rwa [h.out] at this
theorem rDir_is {p : List UInt8} (h : isPath p = true) : Pt.text (Pt.parts p).dropLast = dirL p := by
  obtain ⟨P, hg, rfl⟩ := path_iff.1 h
  exact rDir_text hg
theorem RDir_is (w : World) (p d : ByteArray) (hs : p.size ≤ 900000) (hc : Hid (isPath (bs p) = true)) (h : Hid (dirL (bs p) = bs d)) :
    Calls Tryz.prog 23 #[.string p] w fun e w' => e = .returned (.string d) ∧ Below w.heap.size w w' := by
  have := RDir_any w p hs
  rwa [rDir_is hc.out, h.out, str_bs] at this

theorem zero_later {w w1 : World} (hB : Below (w.alloc (.cells #[.string ⟨#[]⟩, .string ⟨#[]⟩, .int .i64 0, .bool false] 26)).heap.size (w.alloc (.cells #[.string ⟨#[]⟩, .string ⟨#[]⟩, .int .i64 0, .bool false] 26)) w1) :
    (w1.cell? ⟨w.heap.size, 0, none⟩ = some (.string ⟨#[]⟩) ∧ w1.cell? ⟨w.heap.size, 1, none⟩ = some (.string ⟨#[]⟩) ∧ w1.cell? ⟨w.heap.size, 2, none⟩ = some (.int .i64 0) ∧ w1.cell? ⟨w.heap.size, 3, none⟩ = some (.bool false)) ∧
    (w1.frozen? ⟨w.heap.size, 0, none⟩ = false ∧ w1.frozen? ⟨w.heap.size, 1, none⟩ = false ∧ w1.frozen? ⟨w.heap.size, 2, none⟩ = false ∧ w1.frozen? ⟨w.heap.size, 3, none⟩ = false) ∧ w.heap.size < w1.heap.size := by
  have h1 := (hB.block w.heap.size (by simp)).trans (heap_new w (.cells #[.string ⟨#[]⟩, .string ⟨#[]⟩, .int .i64 0, .bool false] 26) rfl)
  exact ⟨⟨cell_at h1 rfl, cell_at h1 rfl, cell_at h1 rfl, cell_at h1 rfl⟩, ⟨frozen_at h1 0, frozen_at h1 1, frozen_at h1 2, frozen_at h1 3⟩, (Array.getElem?_eq_some_iff.1 h1).1⟩

set_option maxHeartbeats 1000000 in
theorem RMay_get (w : World) (v : Value) (c : Int) (L : List F) (p d gp gt : ByteArray) (gc : Int) (gd ok : Bool) (r : Nat) (y : Bool) (n : Int) (hp : p.size ≤ 900000) (hl : L.length ≤ 100000) (h : RFiles w v L) (hs : Sp.Sorted L)
    (hc : Hid (isPath (bs p) = true)) (h0 : (p.toList == [46]) = false) (hd : Hid (dirL (bs p) = bs d)) (hr : Hid (Sp.pos L (bs p) = (r, y)))
    (hG : ∀ W v, Files W v L → Calls Tryz.prog 38 #[.agg #[v, .int .i64 c], .string d] W fun e w' => e = .returned (.tuple #[.agg #[.string gp, .string gt, .int .i64 gc, .bool gd], .bool ok]) ∧ Below W.heap.size W w')
    (hn : Hid (n = if ok = false then 3 else if gd = false then 4 else if y = false ∧ 4096 ≤ L.length then 12 else 0)) :
    Calls Tryz.prog 62 #[.agg #[v, .int .i64 c], .string p] w (IntPost w n) := by
  obtain ⟨a, cp, rfl⟩ : ∃ a cp, v = .slice a L.length cp := by
    rcases h with ⟨rfl, rfl⟩ | ⟨_, b, cp, rfl, _⟩ <;> exact ⟨_, _, rfl⟩
  obtain ⟨m, hm⟩ : ∃ m, L.length = m := ⟨_, rfl⟩
  have HM := Lib.hid hm
  rw [hm] at h hn
  simp only [hm]
  clear hm
  have hBa := fun x => (Below.refl w.heap.size w).alloc (Nat.le_refl _) x
  go_enter Tryz.func62, Tryz.ntmps62
  go_wp2_with (go_at_call 20; go_must (refine (RClean_is _ p true hp hc).mono ?_); rintro e w1 ⟨rfl, B1⟩)
  have hHB : Hid (∀ W, Below w1.heap.size w1 W → W.heap[w.heap.size]? = some (.cells #[.slice a m cp, .int .i64 c] 34) ∧ Files W (.slice a m cp) L) := Lib.hid fun W hB => by
    have hB0 := (hBa _).trans (B1.mono (hBa (.cells #[.slice a m cp, .int .i64 c] 34)).size)
    have h1 := (B1.block w.heap.size (by simp)).trans (heap_new w (.cells #[.slice a m cp, .int .i64 c] 34) rfl)
    have hlt : w.heap.size < w1.heap.size := (Array.getElem?_eq_some_iff.1 h1).1
    exact ⟨(hB.block w.heap.size hlt).trans h1, (h.below (hB0.trans (hB.mono hB0.size))).files⟩
  have HW : Hid (∀ W, Below w1.heap.size w1 W → (W.cell? ⟨w.heap.size, 0, none⟩ = some (.slice a m cp) ∧ W.cell? ⟨w.heap.size, 1, none⟩ = some (.int .i64 c))) := Lib.hid fun W hB => ⟨cell_at (hHB.out W hB).1 rfl, cell_at (hHB.out W hB).1 rfl⟩
  have e1 := (HW.out w1 (Below.refl _ _)).1
  have e2 := (HW.out w1 (Below.refl _ _)).2
  have hB0 := (hBa _).trans (B1.mono (hBa (.cells #[.slice a m cp, .int .i64 c] 34)).size)
  have D0 : Below w1.heap.size w1 w1.drew := (Below.refl _ _).drew
  have D0A := (Below.refl w1.heap.size w1).alloc (Nat.le_refl _) (.cells #[.string ⟨#[]⟩, .string ⟨#[]⟩, .int .i64 0, .bool false] 26)
  go_region_held3 (fun w' => w'.cell? ⟨w.heap.size, 0, none⟩ = some (.slice a m cp) ∧ w'.cell? ⟨w.heap.size, 1, none⟩ = some (.int .i64 c))
    (first | go_keep | exact HW.out _ D0 | exact HW.out _ D1 | exact HW.out _ D2 | exact HW.out _ (D0.alloc D0.size _) | exact HW.out _ (D1.alloc D1.size _) | exact HW.out _ (D2.alloc D2.size _) | exact HW.out _ ((((D2.setCell (by first | exact D1.size | exact Nat.le_refl _) _).setCell (by first | exact D1.size | exact Nat.le_refl _) _).setCell (by first | exact D1.size | exact Nat.le_refl _) _).setCell (by first | exact D1.size | exact Nat.le_refl _) _) | exact HW.out _ D0A | exact HW.out _ D0A.drew)
    (first
      | (go_at_call 23; refine (RDir_is _ p d hp hc hd).mono ?_; rintro e wa ⟨rfl, Ba⟩; have D1 := D0.trans Ba)
      | (go_at_call 23; refine (RDir_is _ p d hp hc hd).mono ?_; rintro e wa ⟨rfl, Ba⟩; have D1 := ((Below.refl w1.heap.size w1).alloc (Nat.le_refl _) _).drew.trans (Ba.mono (by simp)); have hz5 := zero_later ((Below.refl _ _).drew.trans Ba); obtain ⟨⟨d0, d1, d2, d3⟩, ⟨z0, z1, z2, z3⟩, hzz⟩ := hz5)
      | (go_at_call 38; have hzz2 := hzz; refine (hG _ _ (hHB.out _ D1).2).mono ?_; rintro e wb ⟨rfl, Bb⟩; have D2 := D1.trans (Bb.mono D1.size); have Kb := Kept.of_below (X := []) Bb; replace d0 := (Bb.cell (p := ⟨w1.heap.size, 0, none⟩) hzz2).trans d0; replace d1 := (Bb.cell (p := ⟨w1.heap.size, 1, none⟩) hzz2).trans d1; replace d2 := (Bb.cell (p := ⟨w1.heap.size, 2, none⟩) hzz2).trans d2; replace d3 := (Bb.cell (p := ⟨w1.heap.size, 3, none⟩) hzz2).trans d3; replace z0 := (Kb.frozen (p := ⟨w1.heap.size, 0, none⟩) hzz2 (by simp)).trans z0; replace z1 := (Kb.frozen (p := ⟨w1.heap.size, 1, none⟩) hzz2 (by simp)).trans z1; replace z2 := (Kb.frozen (p := ⟨w1.heap.size, 2, none⟩) hzz2 (by simp)).trans z2; replace z3 := (Kb.frozen (p := ⟨w1.heap.size, 3, none⟩) hzz2 (by simp)).trans z3)
      | (go_at_call 38; refine (hG _ _ (hHB.out _ D1).2).mono ?_; rintro e wb ⟨rfl, Bb⟩; have D2 := D1.trans (Bb.mono D1.size))
      | (go_at_call 38; refine (hG _ _ (hHB.out _ (D1.alloc D1.size _)).2).mono ?_; rintro e wb ⟨rfl, Bb⟩; have D2 := (D1.alloc D1.size _).trans (Bb.mono (D1.alloc D1.size _).size); obtain ⟨⟨d0, d1, d2, d3⟩, ⟨z0, z1, z2, z3⟩, hzz⟩ := zero_later Bb))
  · have DD : Below w1.heap.size w1 (wb.alloc (.cells #[.string gp, .string gt, .int .i64 gc, .bool gd] 26)) := D2.alloc D2.size _
    have g1 := (HW.out _ DD).1
    have g2 := (HW.out _ DD).2
    have hF := (hHB.out _ DD).2
    have hBF := hB0.trans (DD.mono hB0.size)
    have hgo := fun W3 (h : Below w1.heap.size w1 W3) => (HW.out W3 h).1
    cases ok with
    | false =>
      obtain rfl : n = 3 := hn.out
      go_wp2
      go_ret
      exact ⟨rfl, hBF⟩
    | true =>
      cases gd with
      | false =>
        obtain rfl : n = 4 := hn.out
        go_wp2
        go_ret
        exact ⟨rfl, hBF⟩
      | true =>
        have hn : Hid (n = if y = false ∧ 4096 ≤ m then 12 else 0) := Lib.hid hn.out
        go_wp2_with fail
        refine (at_any _ _ c L p hl hF).mono ?_
        rw [hr.out]
        rintro e w3 ⟨rfl, B3⟩
        have g3 := hgo w3 (DD.trans (B3.mono DD.size))
        have hB3 := hBF.trans (B3.mono hBF.size)
        clear g1 g2 hF hgo B3 DD
        cases y with
        | true =>
          obtain rfl : n = 0 := by simpa using hn.out
          go_wp2
          go_ret
          exact ⟨rfl, hB3⟩
        | false =>
          by_cases h4 : 4096 ≤ m
          · obtain rfl : n = 12 := by simpa [h4] using hn.out
            have i4 : (4096 : Int) ≤ m := by omega
            go_wp2
            go_ret
            exact ⟨rfl, hB3⟩
          · obtain rfl : n = 0 := by simpa [h4] using hn.out
            have i4 : ¬ (4096 : Int) ≤ m := by omega
            go_wp2
            go_ret
            exact ⟨rfl, hB3⟩
  · have DD : Below w1.heap.size w1 ((((wb.setCell ⟨wa.heap.size, 0, none⟩ (.string gp)).setCell ⟨wa.heap.size, 1, none⟩ (.string gt)).setCell ⟨wa.heap.size, 2, none⟩ (.int .i64 gc)).setCell ⟨wa.heap.size, 3, none⟩ (.bool gd)) := (((D2.setCell D1.size _).setCell D1.size _).setCell D1.size _).setCell D1.size _
    have g1 := (HW.out _ DD).1
    have g2 := (HW.out _ DD).2
    have hF := (hHB.out _ DD).2
    have hBF := hB0.trans (DD.mono hB0.size)
    have hgo := fun W3 (h : Below w1.heap.size w1 W3) => (HW.out W3 h).1
    cases ok with
    | false =>
      obtain rfl : n = 3 := hn.out
      go_wp2
      go_ret
      exact ⟨rfl, hBF⟩
    | true =>
      cases gd with
      | false =>
        obtain rfl : n = 4 := hn.out
        go_wp2
        go_ret
        exact ⟨rfl, hBF⟩
      | true =>
        have hn : Hid (n = if y = false ∧ 4096 ≤ m then 12 else 0) := Lib.hid hn.out
        go_wp2_with fail
        refine (at_any _ _ c L p hl hF).mono ?_
        rw [hr.out]
        rintro e w3 ⟨rfl, B3⟩
        have g3 := hgo w3 (DD.trans (B3.mono DD.size))
        have hB3 := hBF.trans (B3.mono hBF.size)
        clear g1 g2 hF hgo B3 DD
        cases y with
        | true =>
          obtain rfl : n = 0 := by simpa using hn.out
          go_wp2
          go_ret
          exact ⟨rfl, hB3⟩
        | false =>
          by_cases h4 : 4096 ≤ m
          · obtain rfl : n = 12 := by simpa [h4] using hn.out
            have i4 : (4096 : Int) ≤ m := by omega
            go_wp2
            go_ret
            exact ⟨rfl, hB3⟩
          · obtain rfl : n = 0 := by simpa [h4] using hn.out
            have i4 : ¬ (4096 : Int) ≤ m := by omega
            go_wp2
            go_ret
            exact ⟨rfl, hB3⟩
  · have DD : Below w1.heap.size w1 ((((wb.setCell ⟨w1.heap.size, 0, none⟩ (.string gp)).setCell ⟨w1.heap.size, 1, none⟩ (.string gt)).setCell ⟨w1.heap.size, 2, none⟩ (.int .i64 gc)).setCell ⟨w1.heap.size, 3, none⟩ (.bool gd)) := (((D2.setCell (Nat.le_refl _) _).setCell (Nat.le_refl _) _).setCell (Nat.le_refl _) _).setCell (Nat.le_refl _) _
    have g1 := (HW.out _ DD).1
    have g2 := (HW.out _ DD).2
    have hF := (hHB.out _ DD).2
    have hBF := hB0.trans (DD.mono hB0.size)
    have hgo := fun W3 (h : Below w1.heap.size w1 W3) => (HW.out W3 h).1
    cases ok with
    | false =>
      obtain rfl : n = 3 := hn.out
      go_wp2
      go_ret
      exact ⟨rfl, hBF⟩
    | true =>
      cases gd with
      | false =>
        obtain rfl : n = 4 := hn.out
        go_wp2
        go_ret
        exact ⟨rfl, hBF⟩
      | true =>
        have hn : Hid (n = if y = false ∧ 4096 ≤ m then 12 else 0) := Lib.hid hn.out
        go_wp2_with fail
        refine (at_any _ _ c L p hl hF).mono ?_
        rw [hr.out]
        rintro e w3 ⟨rfl, B3⟩
        have g3 := hgo w3 (DD.trans (B3.mono DD.size))
        have hB3 := hBF.trans (B3.mono hBF.size)
        clear g1 g2 hF hgo B3 DD
        cases y with
        | true =>
          obtain rfl : n = 0 := by simpa using hn.out
          go_wp2
          go_ret
          exact ⟨rfl, hB3⟩
        | false =>
          by_cases h4 : 4096 ≤ m
          · obtain rfl : n = 12 := by simpa [h4] using hn.out
            have i4 : (4096 : Int) ≤ m := by omega
            go_wp2
            go_ret
            exact ⟨rfl, hB3⟩
          · obtain rfl : n = 0 := by simpa [h4] using hn.out
            have i4 : ¬ (4096 : Int) ≤ m := by omega
            go_wp2
            go_ret
            exact ⟨rfl, hB3⟩
end Go.Proofs.YtmmilnmlmgcobaaGreatDoor.Sw
