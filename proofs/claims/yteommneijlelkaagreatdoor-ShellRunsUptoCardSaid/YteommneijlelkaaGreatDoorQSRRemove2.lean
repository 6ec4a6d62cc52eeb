/-
  The reference's may.
  The reference's may, whole; its Write and Touch.
  The reference's Write, whole, and its Touch.
  The reference's Mkdir.
  The reference's Mkdir of all, behind its own call.
  The reference's Mkdir, whole.
  The reference's Move, from its Remove.
  The reference's Remove.
  The reference's Remove and Move, whole.
-/
import Derived.Test.YteommneijlelkaaGreatDoorQSRPut
import Derived.Test.YteommneijlelkaaGreatDoorQSPut
import Derived.Test.YteommneijlelkaaGreatDoorQSPlain2
import Derived.Deep.RegionHeld3
import Derived.Test.YteommneijlelkaaGreatDoorQSAdd
namespace Go.Proofs.YteommneijlelkaaGreatDoor.Sw
open Go.RowKit Go.Proofs.YteommneijlelkaaGreatDoor Go.Maps
set_option maxRecDepth 100000

theorem RClean_is (w : World) (p : ByteArray) (b : Bool) (hs : p.size ≤ 900000) (h : Hid (isPath (bs p) = b)) :
    Calls Tryz.prog 17 #[.string p] w fun e w' => e = .returned (.bool b) ∧ Below w.heap.size w w' := by
  have := RClean_any w p hs
  rwa [h.out] at this
theorem rDir_is {p : List UInt8} (h : isPath p = true) : Pt.text (Pt.parts p).dropLast = dirL p := by
  obtain ⟨P, hg, rfl⟩ := path_iff.1 h
  exact rDir_text hg
theorem RDir_is (w : World) (p d : ByteArray) (hs : p.size ≤ 900000) (hc : Hid (isPath (bs p) = true)) (h : Hid (dirL (bs p) = bs d)) :
    Calls Tryz.prog 20 #[.string p] w fun e w' => e = .returned (.string d) ∧ Below w.heap.size w w' := by
  have := RDir_any w p hs
  rwa [rDir_is hc.out, h.out, str_bs] at this

theorem zero_later {w w1 : World} (hB : Below (w.alloc (.cells #[.string ⟨#[]⟩, .string ⟨#[]⟩, .int .i64 0, .bool false] 44)).heap.size (w.alloc (.cells #[.string ⟨#[]⟩, .string ⟨#[]⟩, .int .i64 0, .bool false] 44)) w1) :
    (w1.cell? ⟨w.heap.size, 0, none⟩ = some (.string ⟨#[]⟩) ∧ w1.cell? ⟨w.heap.size, 1, none⟩ = some (.string ⟨#[]⟩) ∧ w1.cell? ⟨w.heap.size, 2, none⟩ = some (.int .i64 0) ∧ w1.cell? ⟨w.heap.size, 3, none⟩ = some (.bool false)) ∧
    (w1.frozen? ⟨w.heap.size, 0, none⟩ = false ∧ w1.frozen? ⟨w.heap.size, 1, none⟩ = false ∧ w1.frozen? ⟨w.heap.size, 2, none⟩ = false ∧ w1.frozen? ⟨w.heap.size, 3, none⟩ = false) ∧ w.heap.size < w1.heap.size := by
  have h1 := (hB.block w.heap.size (by simp)).trans (heap_new w (.cells #[.string ⟨#[]⟩, .string ⟨#[]⟩, .int .i64 0, .bool false] 44) rfl)
  exact ⟨⟨cell_at h1 rfl, cell_at h1 rfl, cell_at h1 rfl, cell_at h1 rfl⟩, ⟨frozen_at h1 0, frozen_at h1 1, frozen_at h1 2, frozen_at h1 3⟩, (Array.getElem?_eq_some_iff.1 h1).1⟩

set_option maxHeartbeats 1000000 in
theorem RMay_get (w : World) (v : Value) (c : Int) (L : List F) (p d gp gt : ByteArray) (gc : Int) (gd ok : Bool) (r : Nat) (y : Bool) (n : Int) (hp : p.size ≤ 900000) (hl : L.length ≤ 100000) (h : RFiles w v L) (hs : Sp.Sorted L)
    (hc : Hid (isPath (bs p) = true)) (h0 : (p.toList == [46]) = false) (hd : Hid (dirL (bs p) = bs d)) (hr : Hid (Sp.pos L (bs p) = (r, y)))
    (hG : ∀ W v, Files W v L → Calls Tryz.prog 10 #[.agg #[v, .int .i64 c], .string d] W fun e w' => e = .returned (.tuple #[.agg #[.string gp, .string gt, .int .i64 gc, .bool gd], .bool ok]) ∧ Below W.heap.size W w')
    (hn : Hid (n = if ok = false then 3 else if gd = false then 4 else if y = false ∧ 4096 ≤ L.length then 12 else 0)) :
    Calls Tryz.prog 102 #[.agg #[v, .int .i64 c], .string p] w (IntPost w n) := by
  obtain ⟨a, cp, rfl⟩ : ∃ a cp, v = .slice a L.length cp := by
    rcases h with ⟨rfl, rfl⟩ | ⟨_, b, cp, rfl, _⟩ <;> exact ⟨_, _, rfl⟩
  obtain ⟨m, hm⟩ : ∃ m, L.length = m := ⟨_, rfl⟩
  have HM := Lib.hid hm
  rw [hm] at h hn
  simp only [hm]
  clear hm
  have hBa := fun x => (Below.refl w.heap.size w).alloc (Nat.le_refl _) x
  go_enter Tryz.func102, Tryz.ntmps102
  go_wp2_with (go_at_call 17; go_must (refine (RClean_is _ p true hp hc).mono ?_); rintro e w1 ⟨rfl, B1⟩)
  have hHB : Hid (∀ W, Below w1.heap.size w1 W → W.heap[w.heap.size]? = some (.cells #[.slice a m cp, .int .i64 c] 34) ∧ Files W (.slice a m cp) L) := Lib.hid fun W hB => by
    have hB0 := (hBa _).trans (B1.mono (hBa (.cells #[.slice a m cp, .int .i64 c] 34)).size)
    have h1 := (B1.block w.heap.size (by simp)).trans (heap_new w (.cells #[.slice a m cp, .int .i64 c] 34) rfl)
    have hlt : w.heap.size < w1.heap.size := (Array.getElem?_eq_some_iff.1 h1).1
    exact ⟨(hB.block w.heap.size hlt).trans h1, (h.below (hB0.trans (hB.mono hB0.size))).files⟩
  have HW : Hid (∀ W, Below w1.heap.size w1 W → (W.cell? ⟨w.heap.size, 0, none⟩ = some (.slice a m cp) ∧ W.cell? ⟨w.heap.size, 1, none⟩ = some (.int .i64 c))) := Lib.hid fun W hB => ⟨cell_at (hHB.out W hB).1 rfl, cell_at (hHB.out W hB).1 rfl⟩
  have e1 := (HW.out w1 (Below.refl _ _)).1
  have e2 := (HW.out w1 (Below.refl _ _)).2
  have hB0 := (hBa _).trans (B1.mono (hBa (.cells #[.slice a m cp, .int .i64 c] 34)).size)
  have D0 : Below w1.heap.size w1 w1.drew := (Below.refl _ _).drew
  have D0A := (Below.refl w1.heap.size w1).alloc (Nat.le_refl _) (.cells #[.string ⟨#[]⟩, .string ⟨#[]⟩, .int .i64 0, .bool false] 44)
  go_region_held3 (fun w' => w'.cell? ⟨w.heap.size, 0, none⟩ = some (.slice a m cp) ∧ w'.cell? ⟨w.heap.size, 1, none⟩ = some (.int .i64 c))
    (first | go_keep | exact HW.out _ D0 | exact HW.out _ D1 | exact HW.out _ D2 | exact HW.out _ (D0.alloc D0.size _) | exact HW.out _ (D1.alloc D1.size _) | exact HW.out _ (D2.alloc D2.size _) | exact HW.out _ ((((D2.setCell (by first | exact D1.size | exact Nat.le_refl _) _).setCell (by first | exact D1.size | exact Nat.le_refl _) _).setCell (by first | exact D1.size | exact Nat.le_refl _) _).setCell (by first | exact D1.size | exact Nat.le_refl _) _) | exact HW.out _ D0A | exact HW.out _ D0A.drew)
    (first
      | (go_at_call 20; refine (RDir_is _ p d hp hc hd).mono ?_; rintro e wa ⟨rfl, Ba⟩; have D1 := D0.trans Ba)
      | (go_at_call 20; refine (RDir_is _ p d hp hc hd).mono ?_; rintro e wa ⟨rfl, Ba⟩; have D1 := ((Below.refl w1.heap.size w1).alloc (Nat.le_refl _) _).drew.trans (Ba.mono (by simp)); have hz5 := zero_later ((Below.refl _ _).drew.trans Ba); obtain ⟨⟨d0, d1, d2, d3⟩, ⟨z0, z1, z2, z3⟩, hzz⟩ := hz5)
      | (go_at_call 10; have hzz2 := hzz; refine (hG _ _ (hHB.out _ D1).2).mono ?_; rintro e wb ⟨rfl, Bb⟩; have D2 := D1.trans (Bb.mono D1.size); have Kb := Kept.of_below (X := []) Bb; replace d0 := (Bb.cell (p := ⟨w1.heap.size, 0, none⟩) hzz2).trans d0; replace d1 := (Bb.cell (p := ⟨w1.heap.size, 1, none⟩) hzz2).trans d1; replace d2 := (Bb.cell (p := ⟨w1.heap.size, 2, none⟩) hzz2).trans d2; replace d3 := (Bb.cell (p := ⟨w1.heap.size, 3, none⟩) hzz2).trans d3; replace z0 := (Kb.frozen (p := ⟨w1.heap.size, 0, none⟩) hzz2 (by simp)).trans z0; replace z1 := (Kb.frozen (p := ⟨w1.heap.size, 1, none⟩) hzz2 (by simp)).trans z1; replace z2 := (Kb.frozen (p := ⟨w1.heap.size, 2, none⟩) hzz2 (by simp)).trans z2; replace z3 := (Kb.frozen (p := ⟨w1.heap.size, 3, none⟩) hzz2 (by simp)).trans z3)
      | (go_at_call 10; refine (hG _ _ (hHB.out _ D1).2).mono ?_; rintro e wb ⟨rfl, Bb⟩; have D2 := D1.trans (Bb.mono D1.size))
      | (go_at_call 10; refine (hG _ _ (hHB.out _ (D1.alloc D1.size _)).2).mono ?_; rintro e wb ⟨rfl, Bb⟩; have D2 := (D1.alloc D1.size _).trans (Bb.mono (D1.alloc D1.size _).size); obtain ⟨⟨d0, d1, d2, d3⟩, ⟨z0, z1, z2, z3⟩, hzz⟩ := zero_later Bb))
  · have DD : Below w1.heap.size w1 (wb.alloc (.cells #[.string gp, .string gt, .int .i64 gc, .bool gd] 44)) := D2.alloc D2.size _
    have g1 := (HW.out _ DD).1
    have g2 := (HW.out _ DD).2
    have hF := (hHB.out _ DD).2
    have hBF := hB0.trans (DD.mono hB0.size)
    have hgo := fun W3 (h : Below w1.heap.size w1 W3) => (HW.out W3 h).1
    cases ok with
    | false =>
      obtain rfl : n = 3 := hn.out
      go_wp2
      go_ret
      exact ⟨rfl, hBF⟩
    | true =>
      cases gd with
      | false =>
        obtain rfl : n = 4 := hn.out
        go_wp2
        go_ret
        exact ⟨rfl, hBF⟩
      | true =>
        have hn : Hid (n = if y = false ∧ 4096 ≤ m then 12 else 0) := Lib.hid hn.out
        go_wp2_with fail
        refine (at_any _ _ c L p hl hF).mono ?_
        rw [hr.out]
        rintro e w3 ⟨rfl, B3⟩
        have g3 := hgo w3 (DD.trans (B3.mono DD.size))
        have hB3 := hBF.trans (B3.mono hBF.size)
        clear g1 g2 hF hgo B3 DD
        cases y with
        | true =>
          obtain rfl : n = 0 := by simpa using hn.out
          go_wp2
          go_ret
          exact ⟨rfl, hB3⟩
        | false =>
          by_cases h4 : 4096 ≤ m
          · obtain rfl : n = 12 := by simpa [h4] using hn.out
            have i4 : (4096 : Int) ≤ m := by omega
            go_wp2
            go_ret
            exact ⟨rfl, hB3⟩
          · obtain rfl : n = 0 := by simpa [h4] using hn.out
            have i4 : ¬ (4096 : Int) ≤ m := by omega
            go_wp2
            go_ret
            exact ⟨rfl, hB3⟩
  · have DD : Below w1.heap.size w1 ((((wb.setCell ⟨wa.heap.size, 0, none⟩ (.string gp)).setCell ⟨wa.heap.size, 1, none⟩ (.string gt)).setCell ⟨wa.heap.size, 2, none⟩ (.int .i64 gc)).setCell ⟨wa.heap.size, 3, none⟩ (.bool gd)) := (((D2.setCell D1.size _).setCell D1.size _).setCell D1.size _).setCell D1.size _
    have g1 := (HW.out _ DD).1
    have g2 := (HW.out _ DD).2
    have hF := (hHB.out _ DD).2
    have hBF := hB0.trans (DD.mono hB0.size)
    have hgo := fun W3 (h : Below w1.heap.size w1 W3) => (HW.out W3 h).1
    cases ok with
    | false =>
      obtain rfl : n = 3 := hn.out
      go_wp2
      go_ret
      exact ⟨rfl, hBF⟩
    | true =>
      cases gd with
      | false =>
        obtain rfl : n = 4 := hn.out
        go_wp2
        go_ret
        exact ⟨rfl, hBF⟩
      | true =>
        have hn : Hid (n = if y = false ∧ 4096 ≤ m then 12 else 0) := Lib.hid hn.out
        go_wp2_with fail
        refine (at_any _ _ c L p hl hF).mono ?_
        rw [hr.out]
        rintro e w3 ⟨rfl, B3⟩
        have g3 := hgo w3 (DD.trans (B3.mono DD.size))
        have hB3 := hBF.trans (B3.mono hBF.size)
        clear g1 g2 hF hgo B3 DD
        cases y with
        | true =>
          obtain rfl : n = 0 := by simpa using hn.out
          go_wp2
          go_ret
          exact ⟨rfl, hB3⟩
        | false =>
          by_cases h4 : 4096 ≤ m
          · obtain rfl : n = 12 := by simpa [h4] using hn.out
            have i4 : (4096 : Int) ≤ m := by omega
            go_wp2
            go_ret
            exact ⟨rfl, hB3⟩
          · obtain rfl : n = 0 := by simpa [h4] using hn.out
            have i4 : ¬ (4096 : Int) ≤ m := by omega
            go_wp2
            go_ret
            exact ⟨rfl, hB3⟩
  · have DD : Below w1.heap.size w1 ((((wb.setCell ⟨w1.heap.size, 0, none⟩ (.string gp)).setCell ⟨w1.heap.size, 1, none⟩ (.string gt)).setCell ⟨w1.heap.size, 2, none⟩ (.int .i64 gc)).setCell ⟨w1.heap.size, 3, none⟩ (.bool gd)) := (((D2.setCell (Nat.le_refl _) _).setCell (Nat.le_refl _) _).setCell (Nat.le_refl _) _).setCell (Nat.le_refl _) _
    have g1 := (HW.out _ DD).1
    have g2 := (HW.out _ DD).2
    have hF := (hHB.out _ DD).2
    have hBF := hB0.trans (DD.mono hB0.size)
    have hgo := fun W3 (h : Below w1.heap.size w1 W3) => (HW.out W3 h).1
    cases ok with
    | false =>
      obtain rfl : n = 3 := hn.out
      go_wp2
      go_ret
      exact ⟨rfl, hBF⟩
    | true =>
      cases gd with
      | false =>
        obtain rfl : n = 4 := hn.out
        go_wp2
        go_ret
        exact ⟨rfl, hBF⟩
      | true =>
        have hn : Hid (n = if y = false ∧ 4096 ≤ m then 12 else 0) := Lib.hid hn.out
        go_wp2_with fail
        refine (at_any _ _ c L p hl hF).mono ?_
        rw [hr.out]
        rintro e w3 ⟨rfl, B3⟩
        have g3 := hgo w3 (DD.trans (B3.mono DD.size))
        have hB3 := hBF.trans (B3.mono hBF.size)
        clear g1 g2 hF hgo B3 DD
        cases y with
        | true =>
          obtain rfl : n = 0 := by simpa using hn.out
          go_wp2
          go_ret
          exact ⟨rfl, hB3⟩
        | false =>
          by_cases h4 : 4096 ≤ m
          · obtain rfl : n = 12 := by simpa [h4] using hn.out
            have i4 : (4096 : Int) ≤ m := by omega
            go_wp2
            go_ret
            exact ⟨rfl, hB3⟩
          · obtain rfl : n = 0 := by simpa [h4] using hn.out
            have i4 : ¬ (4096 : Int) ≤ m := by omega
            go_wp2
            go_ret
            exact ⟨rfl, hB3⟩
end Go.Proofs.YteommneijlelkaaGreatDoor.Sw
namespace Go.Proofs.YteommneijlelkaaGreatDoor.Sw
open Go.RowKit Go.Proofs.YteommneijlelkaaGreatDoor Go.Maps
set_option maxRecDepth 100000

theorem RMay_any (w : World) (v : Value) (c : Int) (L : List F) (p : ByteArray) (hp : p.size ≤ 900000) (hl : L.length ≤ 100000) (h : RFiles w v L) (hs : Sp.Sorted L) :
    Calls Tryz.prog 102 #[.agg #[v, .int .i64 c], .string p] w (IntPost w (placeA L (bs p))) := by
  cases hc : isPath (bs p) with
  | false =>
    have hC := Lib.hid hc
    have en : placeA L (bs p) = 1 := by rw [placeA, if_pos hc]
    rw [en]
    clear hc en
    have hBa := fun x => (Below.refl w.heap.size w).alloc (Nat.le_refl _) x
    go_enter Tryz.func102, Tryz.ntmps102
    go_wp2_with (go_at_call 17; go_must (refine (RClean_is _ p false hp hC).mono ?_); rintro e w1 ⟨rfl, B1⟩)
    go_ret
    exact ⟨rfl, (hBa _).trans (B1.mono (hBa _).size)⟩
  | true =>
    have hC := Lib.hid hc
    by_cases h0 : (p.toList == [46]) = true
    · have en : placeA L (bs p) = 4 := by rw [placeA, if_neg (by simp [hc]), if_pos (bs_is h0)]
      rw [en]
      clear hc en
      have hBa := fun x => (Below.refl w.heap.size w).alloc (Nat.le_refl _) x
      go_enter Tryz.func102, Tryz.ntmps102
      go_wp2_with (go_at_call 17; go_must (refine (RClean_is _ p true hp hC).mono ?_); rintro e w1 ⟨rfl, B1⟩)
      go_ret
      exact ⟨rfl, (hBa _).trans (B1.mono (hBa _).size)⟩
    · have h0' : (p.toList == [46]) = false := by simpa using h0
      obtain ⟨d, hd⟩ : ∃ d : ByteArray, dirL (bs p) = bs d := ⟨str (dirL (bs p)), rfl⟩
      rcases hr : Sp.pos L (bs p) with ⟨r, y⟩
      have hy : y = (Sp.get L (bs p)).isSome := by have := (Sp.pos_get (p := bs p) hs).1; rwa [hr] at this
      have e1 : placeA L (bs p) = match getR L (bs d) with
        | none => 3
        | some d => if d.d = false then 4 else if Sp.get L (bs p) = none ∧ 4096 ≤ L.length then 12 else 0 := by rw [placeA, if_neg (by simp [hc]), if_neg (bs_not h0'), hd]; rfl
      have e2 : (Sp.get L (bs p) = none) = (y = false) := by rw [hy]; cases Sp.get L (bs p) <;> simp
      cases hg : getR L (bs d) with
      | none =>
        refine RMay_get w v c L p d (str noF.p) (str noF.t) noF.c noF.d false r y _ hp hl h hs hC h0' (Lib.hid hd) (Lib.hid hr) (fun W v hF => RGet_no W v c d hl hF hs (Lib.hid hg)) (Lib.hid ?_)
        rw [e1, hg]
        rfl
      | some g =>
        refine RMay_get w v c L p d (str g.p) (str g.t) g.c g.d true r y _ hp hl h hs hC h0' (Lib.hid hd) (Lib.hid hr) (fun W v hF => RGet_yes W v c d hl hF hs (Lib.hid hg)) (Lib.hid ?_)
        rw [e1, hg]
        dsimp only
        simp only [e2]
        rw [if_neg (show ¬ (true = false) by decide)]

theorem later2 {w w1 : World} {o1 o2 : Obj} (B : Below ((w.alloc o1).alloc o2).heap.size ((w.alloc o1).alloc o2) w1) :
    w1.heap[w.heap.size]? = some o1 ∧ w1.heap[w.heap.size + 1]? = some o2 := by
  have hz1 : (w.alloc o1).heap.size = w.heap.size + 1 := by simp
  exact ⟨(B.block w.heap.size (by simp; omega)).trans ((Below.heap_alloc _ _ _ (by simp)).trans (heap_new _ _ rfl)), (B.block (w.heap.size + 1) (by simp)).trans (heap_new _ _ hz1)⟩

/-- The two boxes of a call that answers a store: its own store, its answer. -/
structure Two (W : World) (n : Nat) (v : Value) (c : Int) : Prop where
  lt : n + 2 ≤ W.heap.size
  H0 : W.heap[n]? = some (.cells #[v, .int .i64 c] 34)
  H1 : W.heap[n + 1]? = some (.cells #[.slice none 0 0, .int .i64 0] 34)
theorem Two.below {W W' : World} {n : Nat} {v : Value} {c : Int} (h : Two W n v c) (hB : Below (n + 2) W W') : Two W' n v c :=
  ⟨Nat.le_trans h.lt hB.size, (hB.block n (by omega)).trans h.H0, (hB.block (n + 1) (by omega)).trans h.H1⟩
theorem Two.new (w : World) (v : Value) (c : Int) : Two ((w.alloc (.cells #[v, .int .i64 c] 34)).alloc (.cells #[.slice none 0 0, .int .i64 0] 34)) w.heap.size v c := by
  obtain ⟨a, b⟩ := later2 (Below.refl _ ((w.alloc (.cells #[v, .int .i64 c] 34)).alloc (.cells #[.slice none 0 0, .int .i64 0] 34)))
  exact ⟨by simp, a, b⟩
theorem Two.cells {W : World} {n : Nat} {v : Value} {c : Int} (h : Two W n v c) :
    (n < W.heap.size ∧ n + 1 < W.heap.size) ∧ (W.cell? ⟨n, 0, none⟩ = some v ∧ W.cell? ⟨n, 1, none⟩ = some (.int .i64 c)) ∧
    (W.cell? ⟨n + 1, 0, none⟩ = some (.slice none 0 0) ∧ W.cell? ⟨n + 1, 1, none⟩ = some (.int .i64 0) ∧ W.frozen? ⟨n + 1, 0, none⟩ = false ∧ W.frozen? ⟨n + 1, 1, none⟩ = false) := by
  have := h.lt
  exact ⟨⟨by omega, by omega⟩, ⟨cell_at h.H0 rfl, cell_at h.H0 rfl⟩, ⟨cell_at h.H1 rfl, cell_at h.H1 rfl, frozen_at h.H1 0, frozen_at h.H1 1⟩⟩
theorem Two.answer {W : World} {n : Nat} {v : Value} {c : Int} (h : Two W n v c) (v' : Value) (c' : Int) :
    (((W.setCell ⟨n + 1, 0, none⟩ v').setCell ⟨n + 1, 1, none⟩ (.int .i64 c')).cell? ⟨n + 1, 0, none⟩ = some v' ∧ ((W.setCell ⟨n + 1, 0, none⟩ v').setCell ⟨n + 1, 1, none⟩ (.int .i64 c')).cell? ⟨n + 1, 1, none⟩ = some (.int .i64 c')) ∧
    ∀ o, (((W.setCell ⟨n + 1, 0, none⟩ v').setCell ⟨n + 1, 1, none⟩ (.int .i64 c')).alloc o).cell? ⟨n + 1, 0, none⟩ = some v' ∧ (((W.setCell ⟨n + 1, 0, none⟩ v').setCell ⟨n + 1, 1, none⟩ (.int .i64 c')).alloc o).cell? ⟨n + 1, 1, none⟩ = some (.int .i64 c') := by
  obtain ⟨_, _, ⟨r0, r1, _, _⟩⟩ := h.cells
  have a0 := (World.cell?_setCell_other (W.setCell ⟨n + 1, 0, none⟩ v') ⟨n + 1, 1, none⟩ ⟨n + 1, 0, none⟩ (.int .i64 c') (by simp)).trans (World.cell?_setCell_same _ _ v' r0)
  have a1 := World.cell?_setCell_same _ _ (.int .i64 c') ((World.cell?_setCell_other W ⟨n + 1, 0, none⟩ ⟨n + 1, 1, none⟩ v' (by simp)).trans r1)
  have hz : ((W.setCell ⟨n + 1, 0, none⟩ v').setCell ⟨n + 1, 1, none⟩ (.int .i64 c')).heap.size = W.heap.size := by simp [World.setCell]
  have hb := fun o => (Below.refl (n + 2) ((W.setCell ⟨n + 1, 0, none⟩ v').setCell ⟨n + 1, 1, none⟩ (.int .i64 c'))).alloc (by rw [hz]; exact h.lt) o
  exact ⟨⟨a0, a1⟩, fun o => ⟨((hb o).cell (p := ⟨n + 1, 0, none⟩) (by simp)).trans a0, ((hb o).cell (p := ⟨n + 1, 1, none⟩) (by simp)).trans a1⟩⟩

set_option maxHeartbeats 1000000 in
theorem RWrite_bad (w : World) (v : Value) (s : St) (p t : ByteArray) (more : Bool) (hp : p.size ≤ 900000) (hl : s.L.length ≤ 100000) (h : RFiles w v s.L) (hs : Sp.Sorted s.L) (n : Int) (hn : Hid (placeA s.L (bs p) = n)) (h0 : ¬ n = 0) :
    Calls Tryz.prog 59 #[.agg #[v, .int .i64 s.c], .string p, .string t, .bool more] w (RPost w v (s, n)) := by
  obtain ⟨a, m, cp, rfl⟩ := h.shape
  obtain ⟨L, c⟩ := s
  have hBa := fun x y => ((Below.refl w.heap.size w).alloc (Nat.le_refl _) x).alloc (by simp) y
  have hT := Two.new w (.slice a m cp) c
  go_enter Tryz.func59, Tryz.ntmps59
  go_wp2_with (go_at_call 102; refine (RMay_any _ _ c L p hp hl (h.below (hBa _ _)) hs).mono ?_; rw [hn.out]; rintro e w1 ⟨rfl, B1⟩; have hT1 := hT.below (B1.mono (by simp)); have hB1 := (hBa _ _).trans (B1.mono (hBa _ _).size); obtain ⟨⟨q0, q1⟩, ⟨m0, m1⟩, ⟨r0, r1, z0, z1⟩⟩ := hT1.cells)
  have hB2 := (hB1.setCell (p := ⟨w.heap.size + 1, 0, none⟩) (by simp) (.slice a m cp)).setCell (p := ⟨w.heap.size + 1, 1, none⟩) (by simp) (.int .i64 c)
  exact bodyPost_ret (v := .tuple #[.agg #[.slice a m cp, .int .i64 c], .int .i64 n]) (by simp [results, Tryz.results59, go_sem, r0, r1]) rfl ⟨_, rfl, h.below hB2, .inl rfl, hB2⟩

set_option maxHeartbeats 1000000 in
theorem RWrite_dir (w : World) (v : Value) (s : St) (p t gp gt : ByteArray) (gc : Int) (ok more : Bool) (hp : p.size ≤ 900000) (hl : s.L.length ≤ 100000) (h : RFiles w v s.L) (hs : Sp.Sorted s.L) (hn : Hid (placeA s.L (bs p) = 0))
    (hG : ∀ W v, Files W v s.L → Calls Tryz.prog 10 #[.agg #[v, .int .i64 s.c], .string p] W fun e w' => e = .returned (.tuple #[.agg #[.string gp, .string gt, .int .i64 gc, .bool true], .bool ok]) ∧ Below W.heap.size W w') :
    Calls Tryz.prog 59 #[.agg #[v, .int .i64 s.c], .string p, .string t, .bool more] w (RPost w v (s, 4)) := by
  obtain ⟨a, m, cp, rfl⟩ := h.shape
  obtain ⟨L, c⟩ := s
  have hBa := fun x y => ((Below.refl w.heap.size w).alloc (Nat.le_refl _) x).alloc (by simp) y
  have hT := Two.new w (.slice a m cp) c
  go_enter Tryz.func59, Tryz.ntmps59
  go_wp2_with (first
    | (go_at_call 102; refine (RMay_any _ _ c L p hp hl (h.below (hBa _ _)) hs).mono ?_; rw [hn.out]; rintro e w1 ⟨rfl, B1⟩; have hT1 := hT.below (B1.mono (by simp)); have hB1 := (hBa _ _).trans (B1.mono (hBa _ _).size); obtain ⟨⟨q0, q1⟩, ⟨m0, m1⟩, ⟨r0, r1, z0, z1⟩⟩ := hT1.cells)
    | (go_at_call 10; refine (hG _ _ (h.below hB1).files).mono ?_; rintro e w2 ⟨rfl, B2⟩; have hT2 := hT1.below (B2.mono hT1.lt); have hB2 := hB1.trans (B2.mono hB1.size); obtain ⟨⟨q0, q1⟩, ⟨m0, m1⟩, ⟨r0, r1, z0, z1⟩⟩ := hT2.cells))
  have hB3 := fun o => ((hB2.setCell (p := ⟨w.heap.size + 1, 0, none⟩) (by simp) (.slice a m cp)).setCell (p := ⟨w.heap.size + 1, 1, none⟩) (by simp) (.int .i64 c)).alloc ((hB2.setCell (p := ⟨w.heap.size + 1, 0, none⟩) (by simp) (.slice a m cp)).setCell (p := ⟨w.heap.size + 1, 1, none⟩) (by simp) (.int .i64 c)).size o
  have hx := (hT2.answer (.slice a m cp) c).2
  exact bodyPost_ret (v := .tuple #[.agg #[.slice a m cp, .int .i64 c], .int .i64 4]) (by simp [results, Tryz.results59, go_sem, (hx _).1, (hx _).2]) rfl ⟨_, rfl, h.below (hB3 _), .inl rfl, hB3 _⟩

set_option maxHeartbeats 1000000 in
theorem RWrite_long (w : World) (v : Value) (s : St) (p t gp gt : ByteArray) (gc : Int) (ok more : Bool) (hp : p.size ≤ 900000) (hl : s.L.length ≤ 100000) (h : RFiles w v s.L) (hs : Sp.Sorted s.L) (hn : Hid (placeA s.L (bs p) = 0))
    (hG : ∀ W v, Files W v s.L → Calls Tryz.prog 10 #[.agg #[v, .int .i64 s.c], .string p] W fun e w' => e = .returned (.tuple #[.agg #[.string gp, .string gt, .int .i64 gc, .bool false], .bool ok]) ∧ Below W.heap.size W w') (hgt : gt.size ≤ 2000000) (ht : t.size ≤ 1048576)
    (hlong : 1048576 < (if more then gt ++ t else t).size) :
    Calls Tryz.prog 59 #[.agg #[v, .int .i64 s.c], .string p, .string t, .bool more] w (RPost w v (s, 12)) := by
  obtain ⟨a, m, cp, rfl⟩ := h.shape
  obtain ⟨L, c⟩ := s
  have hBa := fun x y => ((Below.refl w.heap.size w).alloc (Nat.le_refl _) x).alloc (by simp) y
  have hT := Two.new w (.slice a m cp) c
  cases more with
  | false => exact absurd hlong (by simp; omega)
  | true =>
    replace hlong : 1048576 < (gt ++ t).size := hlong
    have hlong2 : (1048576 : Int) < (gt.size : Int) + t.size := by rw [ByteArray.size_append] at hlong; omega
    clear hlong
    have hm : (gt ++ t).size ≤ maxLen := by rw [ByteArray.size_append]; unfold maxLen; omega
    go_enter Tryz.func59, Tryz.ntmps59
    go_wp2_with (first
    | (go_at_call 102; refine (RMay_any _ _ c L p hp hl (h.below (hBa _ _)) hs).mono ?_; rw [hn.out]; rintro e w1 ⟨rfl, B1⟩; have hT1 := hT.below (B1.mono (by simp)); have hB1 := (hBa _ _).trans (B1.mono (hBa _ _).size); obtain ⟨⟨q0, q1⟩, ⟨m0, m1⟩, ⟨r0, r1, z0, z1⟩⟩ := hT1.cells)
    | (go_at_call 10; refine (hG _ _ (h.below hB1).files).mono ?_; rintro e w2 ⟨rfl, B2⟩; have hT2 := hT1.below (B2.mono hT1.lt); have hB2 := hB1.trans (B2.mono hB1.size); obtain ⟨⟨q0, q1⟩, ⟨m0, m1⟩, ⟨r0, r1, z0, z1⟩⟩ := hT2.cells))
    have hB3 := fun o => ((hB2.setCell (p := ⟨w.heap.size + 1, 0, none⟩) (by simp) (.slice a m cp)).setCell (p := ⟨w.heap.size + 1, 1, none⟩) (by simp) (.int .i64 c)).alloc ((hB2.setCell (p := ⟨w.heap.size + 1, 0, none⟩) (by simp) (.slice a m cp)).setCell (p := ⟨w.heap.size + 1, 1, none⟩) (by simp) (.int .i64 c)).size o
    have hx := (hT2.answer (.slice a m cp) c).2
    exact bodyPost_ret (v := .tuple #[.agg #[.slice a m cp, .int .i64 c], .int .i64 12]) (by simp [results, Tryz.results59, go_sem, (hx _).1, (hx _).2]) rfl ⟨_, rfl, h.below (hB3 _), .inl rfl, hB3 _⟩

set_option maxHeartbeats 1000000 in
theorem RWrite_put (w : World) (v : Value) (s : St) (p t gp gt : ByteArray) (gc : Int) (ok more : Bool) (hp : p.size ≤ 900000) (hl : s.L.length ≤ 100000) (h : RFiles w v s.L) (hs : Sp.Sorted s.L) (hn : Hid (placeA s.L (bs p) = 0))
    (hG : ∀ W v, Files W v s.L → Calls Tryz.prog 10 #[.agg #[v, .int .i64 s.c], .string p] W fun e w' => e = .returned (.tuple #[.agg #[.string gp, .string gt, .int .i64 gc, .bool false], .bool ok]) ∧ Below W.heap.size W w') (_hgt : gt.size ≤ 2000000) (ht : t.size ≤ 1048576)
    (c0 : 0 ≤ s.c) (c1 : s.c < 4611686018427387904) (hlong : (if more then gt ++ t else t).size ≤ 1048576) :
    Calls Tryz.prog 59 #[.agg #[v, .int .i64 s.c], .string p, .string t, .bool more] w (RPost w v (putA s ⟨bs p, bs (if more then gt ++ t else t), 0, false⟩)) := by
  obtain ⟨a, m, cp, rfl⟩ := h.shape
  obtain ⟨L, c⟩ := s
  have hBa := fun x y => ((Below.refl w.heap.size w).alloc (Nat.le_refl _) x).alloc (by simp) y
  have hT := Two.new w (.slice a m cp) c
  generalize hq : putA ⟨L, c⟩ ⟨bs p, bs (if more then gt ++ t else t), 0, false⟩ = q at *
  have hQ := Lib.hid hq
  clear hq
  cases more with
  | false =>
    have hlong2 : ¬ (1048576 : Int) < t.size := by simp at hlong; omega
    have hm : t.size ≤ maxLen := by unfold maxLen; omega
    go_enter Tryz.func59, Tryz.ntmps59
    go_wp2_with (first
    | (go_at_call 102; refine (RMay_any _ _ c L p hp hl (h.below (hBa _ _)) hs).mono ?_; rw [hn.out]; rintro e w1 ⟨rfl, B1⟩; have hT1 := hT.below (B1.mono (by simp)); have hB1 := (hBa _ _).trans (B1.mono (hBa _ _).size); obtain ⟨⟨q0, q1⟩, ⟨m0, m1⟩, ⟨r0, r1, z0, z1⟩⟩ := hT1.cells)
    | (go_at_call 10; refine (hG _ _ (h.below hB1).files).mono ?_; rintro e w2 ⟨rfl, B2⟩; have hT2 := hT1.below (B2.mono hT1.lt); have hB2 := hB1.trans (B2.mono hB1.size); obtain ⟨⟨q0, q1⟩, ⟨m0, m1⟩, ⟨r0, r1, z0, z1⟩⟩ := hT2.cells))
    have hB3 := hB2.alloc hB2.size (.cells #[.string gp, .string gt, .int .i64 gc, .bool false] 44)
    refine (RPut_any _ _ ⟨L, c⟩ p t 0 false hl (h.below hB3) c0 c1).mono ?_
    rw [show putA ⟨L, c⟩ ⟨bs p, bs t, 0, false⟩ = q from hQ.out]
    rintro e w4 ⟨v4, rfl, hR4, hv4, B4⟩
    have hT3 := hT2.below ((Below.refl (w.heap.size + 2) w2).alloc hT2.lt (.cells #[.string gp, .string gt, .int .i64 gc, .bool false] 44))
    have hT4 := hT3.below (B4.mono hT3.lt)
    have hB4 := hB3.trans (B4.mono hB3.size)
    have hne : ∀ b, v4.ownBlock = some b → b ≠ w.heap.size + 1 := fun b hb => by
      rcases hv4 with rfl | hv4
      · have := h.lt b hb; omega
      · have := hv4 b hb; have := hT3.lt; omega
    have hv0 : v4 = .slice a m cp ∨ ∀ b, v4.ownBlock = some b → w.heap.size ≤ b := by
      rcases hv4 with rfl | hv4
      · exact .inl rfl
      · exact .inr fun b hb => by have := hv4 b hb; have := hB3.size; omega
    clear hT hT1 hT2 hT3 hv4 B4 B2 B1 q0 q1 m0 m1 r0 r1 z0 z1
    obtain ⟨⟨q0, q1⟩, ⟨m0, m1⟩, ⟨r0, r1, z0, z1⟩⟩ := hT4.cells
    obtain ⟨a4, m4, cp4, rfl⟩ := hR4.shape
    go_wp2
    have hx := (hT4.answer (.slice a4 m4 cp4) q.1.c).1
    have hB5 := (hB4.setCell (p := ⟨w.heap.size + 1, 0, none⟩) (by simp) (.slice a4 m4 cp4)).setCell (p := ⟨w.heap.size + 1, 1, none⟩) (by simp) (.int .i64 q.1.c)
    exact bodyPost_ret (v := .tuple #[.agg #[.slice a4 m4 cp4, .int .i64 q.1.c], .int .i64 q.2]) (by simp [results, Tryz.results59, go_sem, hx.1, hx.2]) rfl ⟨_, rfl, (hR4.setCell _ _ _ hne).setCell _ _ _ hne, hv0, hB5⟩
  | true =>
    replace hlong : (gt ++ t).size ≤ 1048576 := hlong
    have hlong2 : ¬ (1048576 : Int) < (gt.size : Int) + t.size := by rw [ByteArray.size_append] at hlong; omega
    clear hlong
    have hm : (gt ++ t).size ≤ maxLen := by rw [ByteArray.size_append]; unfold maxLen; omega
    go_enter Tryz.func59, Tryz.ntmps59
    go_wp2_with (first
    | (go_at_call 102; refine (RMay_any _ _ c L p hp hl (h.below (hBa _ _)) hs).mono ?_; rw [hn.out]; rintro e w1 ⟨rfl, B1⟩; have hT1 := hT.below (B1.mono (by simp)); have hB1 := (hBa _ _).trans (B1.mono (hBa _ _).size); obtain ⟨⟨q0, q1⟩, ⟨m0, m1⟩, ⟨r0, r1, z0, z1⟩⟩ := hT1.cells)
    | (go_at_call 10; refine (hG _ _ (h.below hB1).files).mono ?_; rintro e w2 ⟨rfl, B2⟩; have hT2 := hT1.below (B2.mono hT1.lt); have hB2 := hB1.trans (B2.mono hB1.size); obtain ⟨⟨q0, q1⟩, ⟨m0, m1⟩, ⟨r0, r1, z0, z1⟩⟩ := hT2.cells))
    have hB3 := hB2.alloc hB2.size (.cells #[.string gp, .string gt, .int .i64 gc, .bool false] 44)
    refine (RPut_any _ _ ⟨L, c⟩ p (gt ++ t) 0 false hl (h.below hB3) c0 c1).mono ?_
    rw [show putA ⟨L, c⟩ ⟨bs p, bs (gt ++ t), 0, false⟩ = q from hQ.out]
    rintro e w4 ⟨v4, rfl, hR4, hv4, B4⟩
    have hT3 := hT2.below ((Below.refl (w.heap.size + 2) w2).alloc hT2.lt (.cells #[.string gp, .string gt, .int .i64 gc, .bool false] 44))
    have hT4 := hT3.below (B4.mono hT3.lt)
    have hB4 := hB3.trans (B4.mono hB3.size)
    have hne : ∀ b, v4.ownBlock = some b → b ≠ w.heap.size + 1 := fun b hb => by
      rcases hv4 with rfl | hv4
      · have := h.lt b hb; omega
      · have := hv4 b hb; have := hT3.lt; omega
    have hv0 : v4 = .slice a m cp ∨ ∀ b, v4.ownBlock = some b → w.heap.size ≤ b := by
      rcases hv4 with rfl | hv4
      · exact .inl rfl
      · exact .inr fun b hb => by have := hv4 b hb; have := hB3.size; omega
    clear hT hT1 hT2 hT3 hv4 B4 B2 B1 q0 q1 m0 m1 r0 r1 z0 z1
    obtain ⟨⟨q0, q1⟩, ⟨m0, m1⟩, ⟨r0, r1, z0, z1⟩⟩ := hT4.cells
    obtain ⟨a4, m4, cp4, rfl⟩ := hR4.shape
    go_wp2
    have hx := (hT4.answer (.slice a4 m4 cp4) q.1.c).1
    have hB5 := (hB4.setCell (p := ⟨w.heap.size + 1, 0, none⟩) (by simp) (.slice a4 m4 cp4)).setCell (p := ⟨w.heap.size + 1, 1, none⟩) (by simp) (.int .i64 q.1.c)
    exact bodyPost_ret (v := .tuple #[.agg #[.slice a4 m4 cp4, .int .i64 q.1.c], .int .i64 q.2]) (by simp [results, Tryz.results59, go_sem, hx.1, hx.2]) rfl ⟨_, rfl, (hR4.setCell _ _ _ hne).setCell _ _ _ hne, hv0, hB5⟩
end Go.Proofs.YteommneijlelkaaGreatDoor.Sw
namespace Go.Proofs.YteommneijlelkaaGreatDoor.Sw
open Go.RowKit Go.Proofs.YteommneijlelkaaGreatDoor Go.Maps
set_option maxRecDepth 100000

theorem RWrite_any (w : World) (v : Value) (s : St) (p t : ByteArray) (more : Bool) (hF : Fine s) (hp : p.size ≤ 900000) (ht : t.size ≤ 1048576) (h : RFiles w v s.L) :
    Calls Tryz.prog 59 #[.agg #[v, .int .i64 s.c], .string p, .string t, .bool more] w (RPost w v (writeA s (bs p) (bs t) more)) := by
  have hl : s.L.length ≤ 100000 := by have := hF.len; omega
  have hs := hF.sorted
  by_cases h0 : placeA s.L (bs p) = 0
  · have hgr := getR_ne (L := s.L) (ok_ne_root h0)
    have key : ∀ (f : F) (ok : Bool), (Sp.get s.L (bs p)).getD noF = f → (∀ W v, Files W v s.L → Calls Tryz.prog 10 #[.agg #[v, .int .i64 s.c], .string p] W fun e w' => e = .returned (.tuple #[fV f, .bool ok]) ∧ Below W.heap.size W w') →
        Calls Tryz.prog 59 #[.agg #[v, .int .i64 s.c], .string p, .string t, .bool more] w (RPost w v (writeA s (bs p) (bs t) more)) := by
      intro f ok hf hG
      have hft : f.t.length ≤ 1048576 := by rw [← hf]; exact text_of hF _
      obtain ⟨fp, ft, fc, fd⟩ := f
      have hft : ft.length ≤ 1048576 := hft
      have hgs : (str ft).size ≤ 2000000 := by rw [str_len]; omega
      have hwr : writeA s (bs p) (bs t) more = if fd = true then (s, 4) else if 1048576 < (if more then str ft ++ t else t).size then (s, 12) else putA s ⟨bs p, bs (if more then str ft ++ t else t), 0, false⟩ := by
        rw [writeA_ok h0]
        dsimp only
        rw [hf]
        cases more with
        | true =>
          show (if fd = true then (s, (4 : Int)) else if 1048576 < ft.length + (bs t).length then (s, 12) else putA s ⟨bs p, ft ++ bs t, 0, false⟩) = if fd = true then (s, 4) else if 1048576 < (str ft ++ t).size then (s, 12) else putA s ⟨bs p, bs (str ft ++ t), 0, false⟩
          rw [bs_app, bs_str, ByteArray.size_append, str_len, bs_len]
        | false =>
          show (if fd = true then (s, (4 : Int)) else if 1048576 < ([] : List UInt8).length + (bs t).length then (s, 12) else putA s ⟨bs p, [] ++ bs t, 0, false⟩) = if fd = true then (s, 4) else if 1048576 < t.size then (s, 12) else putA s ⟨bs p, bs t, 0, false⟩
          rw [List.nil_append, bs_len, List.length_nil, Nat.zero_add]
      rw [hwr]
      cases fd with
      | true =>
        rw [if_pos rfl]
        exact RWrite_dir w v s p t (str fp) (str ft) fc ok more hp hl h hs (Lib.hid h0) hG
      | false =>
        rw [if_neg (by decide)]
        by_cases hlong : 1048576 < (if more then str ft ++ t else t).size
        · rw [if_pos hlong]
          exact RWrite_long w v s p t (str fp) (str ft) fc ok more hp hl h hs (Lib.hid h0) hG hgs ht hlong
        · rw [if_neg hlong]
          exact RWrite_put w v s p t (str fp) (str ft) fc ok more hp hl h hs (Lib.hid h0) hG hgs ht hF.c0 hF.c1 (by omega)
    cases hg : Sp.get s.L (bs p) with
    | none => exact key noF false (by rw [hg]; rfl) fun W v hf => RGet_no W v s.c p hl hf hs (Lib.hid (by rw [hgr, hg]))
    | some f => exact key f true (by rw [hg]; rfl) fun W v hf => RGet_yes W v s.c p hl hf hs (Lib.hid (by rw [hgr, hg]))
  · rw [writeA_bad h0]
    exact RWrite_bad w v s p t more hp hl h hs _ (Lib.hid rfl) h0

/-- The end of a call that hands on another call's store. -/
theorem RPost.ends {w W : World} {v0 v4 : Value} {L0 : List F} {n : Nat} (h : RFiles w v0 L0) (hn : n = w.heap.size) (hB : Below w.heap.size w W) (hT : n + 2 ≤ W.heap.size)
    (hv4 : v4 = v0 ∨ ∀ b, v4.ownBlock = some b → W.heap.size ≤ b) : (∀ b, v4.ownBlock = some b → b ≠ n + 1) ∧ (v4 = v0 ∨ ∀ b, v4.ownBlock = some b → w.heap.size ≤ b) := by
  subst hn
  constructor
  · intro b hb
    rcases hv4 with rfl | hv4
    · have := h.lt b hb; omega
    · have := hv4 b hb; omega
  · rcases hv4 with rfl | hv4
    · exact .inl rfl
    · exact .inr fun b hb => by have := hv4 b hb; have := hB.size; omega

set_option maxHeartbeats 1000000 in
theorem RTouch_none (w : World) (v : Value) (s : St) (p gp gt : ByteArray) (gc : Int) (hF : Fine s) (hp : p.size ≤ 900000) (h : RFiles w v s.L)
    (hG : ∀ W v, Files W v s.L → Calls Tryz.prog 10 #[.agg #[v, .int .i64 s.c], .string p] W fun e w' => e = .returned (.tuple #[.agg #[.string gp, .string gt, .int .i64 gc, .bool false], .bool false]) ∧ Below W.heap.size W w') :
    Calls Tryz.prog 191 #[.agg #[v, .int .i64 s.c], .string p] w (RPost w v (writeA s (bs p) (bs ⟨#[]⟩) true)) := by
  obtain ⟨a, m, cp, rfl⟩ := h.shape
  obtain ⟨L, c⟩ := s
  have hl : L.length ≤ 100000 := by have := hF.len; simp at this; omega
  have hBa := fun x y => ((Below.refl w.heap.size w).alloc (Nat.le_refl _) x).alloc (by simp) y
  have hT := Two.new w (.slice a m cp) c
  generalize hq : writeA ⟨L, c⟩ (bs p) (bs ⟨#[]⟩) true = q at *
  have hQ := Lib.hid hq
  clear hq
  go_enter Tryz.func191, Tryz.ntmps191
  go_wp2_with (go_at_call 10; refine (hG _ _ (h.below (hBa _ _)).files).mono ?_; rintro e w1 ⟨rfl, B1⟩; have hT1 := hT.below (B1.mono (by simp)); have hB1 := (hBa _ _).trans (B1.mono (hBa _ _).size); obtain ⟨⟨q0, q1⟩, ⟨m0, m1⟩, ⟨r0, r1, z0, z1⟩⟩ := hT1.cells)
  have hB3 := hB1.alloc hB1.size (.cells #[.string gp, .string gt, .int .i64 gc, .bool false] 44)
  refine (RWrite_any _ _ ⟨L, c⟩ p ⟨#[]⟩ true hF hp (by decide) (h.below hB3)).mono ?_
  rw [show writeA ⟨L, c⟩ (bs p) (bs ⟨#[]⟩) true = q from hQ.out]
  rintro e w4 ⟨v4, rfl, hR4, hv4, B4⟩
  have hT3 := hT1.below ((Below.refl (w.heap.size + 2) w1).alloc hT1.lt (.cells #[.string gp, .string gt, .int .i64 gc, .bool false] 44))
  have hT4 := hT3.below (B4.mono hT3.lt)
  have hB4 := hB3.trans (B4.mono hB3.size)
  obtain ⟨hne, hv0⟩ := RPost.ends h rfl hB3 hT3.lt hv4
  clear hT hT1 hT3 hv4 B4 B1 q0 q1 m0 m1 r0 r1 z0 z1
  obtain ⟨⟨q0, q1⟩, ⟨m0, m1⟩, ⟨r0, r1, z0, z1⟩⟩ := hT4.cells
  obtain ⟨a4, m4, cp4, rfl⟩ := hR4.shape
  go_wp2
  have hx := (hT4.answer (.slice a4 m4 cp4) q.1.c).1
  have hB5 := (hB4.setCell (p := ⟨w.heap.size + 1, 0, none⟩) (by simp) (.slice a4 m4 cp4)).setCell (p := ⟨w.heap.size + 1, 1, none⟩) (by simp) (.int .i64 q.1.c)
  exact bodyPost_ret (v := .tuple #[.agg #[.slice a4 m4 cp4, .int .i64 q.1.c], .int .i64 q.2]) (by simp [results, Tryz.results191, go_sem, hx.1, hx.2]) rfl ⟨_, rfl, (hR4.setCell _ _ _ hne).setCell _ _ _ hne, hv0, hB5⟩

set_option maxHeartbeats 1000000 in
theorem RTouch_file (w : World) (v : Value) (s : St) (p gp gt : ByteArray) (gc : Int) (hF : Fine s) (hp : p.size ≤ 900000) (h : RFiles w v s.L)
    (hG : ∀ W v, Files W v s.L → Calls Tryz.prog 10 #[.agg #[v, .int .i64 s.c], .string p] W fun e w' => e = .returned (.tuple #[.agg #[.string gp, .string gt, .int .i64 gc, .bool false], .bool true]) ∧ Below W.heap.size W w') :
    Calls Tryz.prog 191 #[.agg #[v, .int .i64 s.c], .string p] w (RPost w v (writeA s (bs p) (bs ⟨#[]⟩) true)) := by
  obtain ⟨a, m, cp, rfl⟩ := h.shape
  obtain ⟨L, c⟩ := s
  have hl : L.length ≤ 100000 := by have := hF.len; simp at this; omega
  have hBa := fun x y => ((Below.refl w.heap.size w).alloc (Nat.le_refl _) x).alloc (by simp) y
  have hT := Two.new w (.slice a m cp) c
  generalize hq : writeA ⟨L, c⟩ (bs p) (bs ⟨#[]⟩) true = q at *
  have hQ := Lib.hid hq
  clear hq
  go_enter Tryz.func191, Tryz.ntmps191
  go_wp2_with (go_at_call 10; refine (hG _ _ (h.below (hBa _ _)).files).mono ?_; rintro e w1 ⟨rfl, B1⟩; have hT1 := hT.below (B1.mono (by simp)); have hB1 := (hBa _ _).trans (B1.mono (hBa _ _).size); obtain ⟨⟨q0, q1⟩, ⟨m0, m1⟩, ⟨r0, r1, z0, z1⟩⟩ := hT1.cells)
  have hB3 := hB1.alloc hB1.size (.cells #[.string gp, .string gt, .int .i64 gc, .bool false] 44)
  refine (RWrite_any _ _ ⟨L, c⟩ p ⟨#[]⟩ true hF hp (by decide) (h.below hB3)).mono ?_
  rw [show writeA ⟨L, c⟩ (bs p) (bs ⟨#[]⟩) true = q from hQ.out]
  rintro e w4 ⟨v4, rfl, hR4, hv4, B4⟩
  have hT3 := hT1.below ((Below.refl (w.heap.size + 2) w1).alloc hT1.lt (.cells #[.string gp, .string gt, .int .i64 gc, .bool false] 44))
  have hT4 := hT3.below (B4.mono hT3.lt)
  have hB4 := hB3.trans (B4.mono hB3.size)
  obtain ⟨hne, hv0⟩ := RPost.ends h rfl hB3 hT3.lt hv4
  clear hT hT1 hT3 hv4 B4 B1 q0 q1 m0 m1 r0 r1 z0 z1
  obtain ⟨⟨q0, q1⟩, ⟨m0, m1⟩, ⟨r0, r1, z0, z1⟩⟩ := hT4.cells
  obtain ⟨a4, m4, cp4, rfl⟩ := hR4.shape
  go_wp2
  have hx := (hT4.answer (.slice a4 m4 cp4) q.1.c).1
  have hB5 := (hB4.setCell (p := ⟨w.heap.size + 1, 0, none⟩) (by simp) (.slice a4 m4 cp4)).setCell (p := ⟨w.heap.size + 1, 1, none⟩) (by simp) (.int .i64 q.1.c)
  exact bodyPost_ret (v := .tuple #[.agg #[.slice a4 m4 cp4, .int .i64 q.1.c], .int .i64 q.2]) (by simp [results, Tryz.results191, go_sem, hx.1, hx.2]) rfl ⟨_, rfl, (hR4.setCell _ _ _ hne).setCell _ _ _ hne, hv0, hB5⟩

set_option maxHeartbeats 1000000 in
theorem RTouch_root (w : World) (v : Value) (s : St) (p gp gt : ByteArray) (gc : Int) (hF : Fine s) (hp : p.size ≤ 900000) (h : RFiles w v s.L) (h0 : (p.toList == [46]) = true)
    (hG : ∀ W v, Files W v s.L → Calls Tryz.prog 10 #[.agg #[v, .int .i64 s.c], .string p] W fun e w' => e = .returned (.tuple #[.agg #[.string gp, .string gt, .int .i64 gc, .bool true], .bool true]) ∧ Below W.heap.size W w') :
    Calls Tryz.prog 191 #[.agg #[v, .int .i64 s.c], .string p] w (RPost w v (writeA s (bs p) (bs ⟨#[]⟩) true)) := by
  obtain ⟨a, m, cp, rfl⟩ := h.shape
  obtain ⟨L, c⟩ := s
  have hl : L.length ≤ 100000 := by have := hF.len; simp at this; omega
  have hBa := fun x y => ((Below.refl w.heap.size w).alloc (Nat.le_refl _) x).alloc (by simp) y
  have hT := Two.new w (.slice a m cp) c
  generalize hq : writeA ⟨L, c⟩ (bs p) (bs ⟨#[]⟩) true = q at *
  have hQ := Lib.hid hq
  clear hq
  go_enter Tryz.func191, Tryz.ntmps191
  go_wp2_with (go_at_call 10; refine (hG _ _ (h.below (hBa _ _)).files).mono ?_; rintro e w1 ⟨rfl, B1⟩; have hT1 := hT.below (B1.mono (by simp)); have hB1 := (hBa _ _).trans (B1.mono (hBa _ _).size); obtain ⟨⟨q0, q1⟩, ⟨m0, m1⟩, ⟨r0, r1, z0, z1⟩⟩ := hT1.cells)
  have hB3 := hB1.alloc hB1.size (.cells #[.string gp, .string gt, .int .i64 gc, .bool true] 44)
  refine (RWrite_any _ _ ⟨L, c⟩ p ⟨#[]⟩ true hF hp (by decide) (h.below hB3)).mono ?_
  rw [show writeA ⟨L, c⟩ (bs p) (bs ⟨#[]⟩) true = q from hQ.out]
  rintro e w4 ⟨v4, rfl, hR4, hv4, B4⟩
  have hT3 := hT1.below ((Below.refl (w.heap.size + 2) w1).alloc hT1.lt (.cells #[.string gp, .string gt, .int .i64 gc, .bool true] 44))
  have hT4 := hT3.below (B4.mono hT3.lt)
  have hB4 := hB3.trans (B4.mono hB3.size)
  obtain ⟨hne, hv0⟩ := RPost.ends h rfl hB3 hT3.lt hv4
  clear hT hT1 hT3 hv4 B4 B1 q0 q1 m0 m1 r0 r1 z0 z1
  obtain ⟨⟨q0, q1⟩, ⟨m0, m1⟩, ⟨r0, r1, z0, z1⟩⟩ := hT4.cells
  obtain ⟨a4, m4, cp4, rfl⟩ := hR4.shape
  go_wp2
  have hx := (hT4.answer (.slice a4 m4 cp4) q.1.c).1
  have hB5 := (hB4.setCell (p := ⟨w.heap.size + 1, 0, none⟩) (by simp) (.slice a4 m4 cp4)).setCell (p := ⟨w.heap.size + 1, 1, none⟩) (by simp) (.int .i64 q.1.c)
  exact bodyPost_ret (v := .tuple #[.agg #[.slice a4 m4 cp4, .int .i64 q.1.c], .int .i64 q.2]) (by simp [results, Tryz.results191, go_sem, hx.1, hx.2]) rfl ⟨_, rfl, (hR4.setCell _ _ _ hne).setCell _ _ _ hne, hv0, hB5⟩

set_option maxHeartbeats 1000000 in
theorem RTouch_dir (w : World) (v : Value) (s : St) (p gp gt : ByteArray) (gc : Int) (hF : Fine s) (_hp : p.size ≤ 900000) (h : RFiles w v s.L) (h0 : (p.toList == [46]) = false)
    (hG : ∀ W v, Files W v s.L → Calls Tryz.prog 10 #[.agg #[v, .int .i64 s.c], .string p] W fun e w' => e = .returned (.tuple #[.agg #[.string gp, .string gt, .int .i64 gc, .bool true], .bool true]) ∧ Below W.heap.size W w') :
    Calls Tryz.prog 191 #[.agg #[v, .int .i64 s.c], .string p] w (RPost w v (putA s ⟨bs gp, bs gt, gc, true⟩)) := by
  obtain ⟨a, m, cp, rfl⟩ := h.shape
  obtain ⟨L, c⟩ := s
  have hl : L.length ≤ 100000 := by have := hF.len; simp at this; omega
  have hBa := fun x y => ((Below.refl w.heap.size w).alloc (Nat.le_refl _) x).alloc (by simp) y
  have hT := Two.new w (.slice a m cp) c
  generalize hq : putA ⟨L, c⟩ ⟨bs gp, bs gt, gc, true⟩ = q at *
  have hQ := Lib.hid hq
  clear hq
  go_enter Tryz.func191, Tryz.ntmps191
  go_wp2_with (go_at_call 10; refine (hG _ _ (h.below (hBa _ _)).files).mono ?_; rintro e w1 ⟨rfl, B1⟩; have hT1 := hT.below (B1.mono (by simp)); have hB1 := (hBa _ _).trans (B1.mono (hBa _ _).size); obtain ⟨⟨q0, q1⟩, ⟨m0, m1⟩, ⟨r0, r1, z0, z1⟩⟩ := hT1.cells)
  have hB3 := hB1.alloc hB1.size (.cells #[.string gp, .string gt, .int .i64 gc, .bool true] 44)
  refine (RPut_any _ _ ⟨L, c⟩ gp gt gc true hl (h.below hB3) hF.c0 hF.c1).mono ?_
  rw [show putA ⟨L, c⟩ ⟨bs gp, bs gt, gc, true⟩ = q from hQ.out]
  rintro e w4 ⟨v4, rfl, hR4, hv4, B4⟩
  have hT3 := hT1.below ((Below.refl (w.heap.size + 2) w1).alloc hT1.lt (.cells #[.string gp, .string gt, .int .i64 gc, .bool true] 44))
  have hT4 := hT3.below (B4.mono hT3.lt)
  have hB4 := hB3.trans (B4.mono hB3.size)
  obtain ⟨hne, hv0⟩ := RPost.ends h rfl hB3 hT3.lt hv4
  clear hT hT1 hT3 hv4 B4 B1 q0 q1 m0 m1 r0 r1 z0 z1
  obtain ⟨⟨q0, q1⟩, ⟨m0, m1⟩, ⟨r0, r1, z0, z1⟩⟩ := hT4.cells
  obtain ⟨a4, m4, cp4, rfl⟩ := hR4.shape
  go_wp2
  have hx := (hT4.answer (.slice a4 m4 cp4) q.1.c).1
  have hB5 := (hB4.setCell (p := ⟨w.heap.size + 1, 0, none⟩) (by simp) (.slice a4 m4 cp4)).setCell (p := ⟨w.heap.size + 1, 1, none⟩) (by simp) (.int .i64 q.1.c)
  exact bodyPost_ret (v := .tuple #[.agg #[.slice a4 m4 cp4, .int .i64 q.1.c], .int .i64 q.2]) (by simp [results, Tryz.results191, go_sem, hx.1, hx.2]) rfl ⟨_, rfl, (hR4.setCell _ _ _ hne).setCell _ _ _ hne, hv0, hB5⟩

theorem RTouch_any (w : World) (v : Value) (s : St) (p : ByteArray) (hF : Fine s) (hp : p.size ≤ 900000) (h : RFiles w v s.L) :
    Calls Tryz.prog 191 #[.agg #[v, .int .i64 s.c], .string p] w (RPost w v (touchA s (bs p))) := by
  have hl : s.L.length ≤ 100000 := by have := hF.len; omega
  rw [← touch_eq]
  unfold rTouch
  cases hg : getR s.L (bs p) with
  | none => exact RTouch_none w v s p (str noF.p) (str noF.t) noF.c hF hp h fun W v hf => RGet_no W v s.c p hl hf hF.sorted (Lib.hid hg)
  | some f =>
    obtain ⟨fp, ft, fc, fd⟩ := f
    have hG := fun W v hf => RGet_yes W v s.c p hl hf hF.sorted (Lib.hid hg)
    dsimp only
    cases fd with
    | false =>
      rw [if_neg (by simp)]
      exact RTouch_file w v s p (str fp) (str ft) fc hF hp h hG
    | true =>
      by_cases h0 : (p.toList == [46]) = true
      · rw [if_neg (by rw [bs_is h0]; simp)]
        exact RTouch_root w v s p (str fp) (str ft) fc hF hp h h0 hG
      · have h0 : (p.toList == [46]) = false := by simpa using h0
        rw [if_pos ⟨rfl, bs_not h0⟩]
        exact RTouch_dir w v s p (str fp) (str ft) fc hF hp h h0 hG
end Go.Proofs.YteommneijlelkaaGreatDoor.Sw
namespace Go.Proofs.YteommneijlelkaaGreatDoor.Sw
open Go.RowKit Go.Proofs.YteommneijlelkaaGreatDoor Go.Maps
set_option maxRecDepth 100000


set_option maxHeartbeats 1000000 in
theorem RMkdir_bad (w : World) (v : Value) (s : St) (p _gp _gt : ByteArray) (_gc : Int) (all : Bool) (hF : Fine s) (hp : p.size ≤ 900000) (h : RFiles w v s.L) (hC : Hid (isPath (bs p) = false)) :
    Calls Tryz.prog 192 #[.agg #[v, .int .i64 s.c], .string p, .bool all] w (RPost w v (s, 1)) := by
  obtain ⟨a, m, cp, rfl⟩ := h.shape
  obtain ⟨L, c⟩ := s
  have hl : L.length ≤ 100000 := by have := hF.len; simp at this; omega
  have hBa := fun x y => ((Below.refl w.heap.size w).alloc (Nat.le_refl _) x).alloc (by simp) y
  have hT := Two.new w (.slice a m cp) c
  go_enter Tryz.func192, Tryz.ntmps192
  go_wp2_with (go_at_call 17; refine (RClean_is _ p false hp hC).mono ?_; rintro e w1 ⟨rfl, B1⟩; have hT1 := hT.below (B1.mono (by simp)); have hB1 := (hBa _ _).trans (B1.mono (hBa _ _).size); obtain ⟨⟨q0, q1⟩, ⟨m0, m1⟩, ⟨r0, r1, z0, z1⟩⟩ := hT1.cells)
  have hB3 := (hB1.setCell (p := ⟨w.heap.size + 1, 0, none⟩) (by simp) (.slice a m cp)).setCell (p := ⟨w.heap.size + 1, 1, none⟩) (by simp) (.int .i64 c)
  have hx := (hT1.answer (.slice a m cp) c).1
  exact bodyPost_ret (v := .tuple #[.agg #[.slice a m cp, .int .i64 c], .int .i64 1]) (by simp [results, Tryz.results192, go_sem, hx.1, hx.2]) rfl ⟨_, rfl, h.below hB3, .inl rfl, hB3⟩

set_option maxHeartbeats 1000000 in
theorem RMkdir_there (w : World) (v : Value) (s : St) (p gp gt : ByteArray) (gc : Int) (_all : Bool) (hF : Fine s) (hp : p.size ≤ 900000) (h : RFiles w v s.L) (hC : Hid (isPath (bs p) = true))
    (hG : ∀ W v, Files W v s.L → Calls Tryz.prog 10 #[.agg #[v, .int .i64 s.c], .string p] W fun e w' => e = .returned (.tuple #[.agg #[.string gp, .string gt, .int .i64 gc, .bool true], .bool true]) ∧ Below W.heap.size W w') :
    Calls Tryz.prog 192 #[.agg #[v, .int .i64 s.c], .string p, .bool true] w (RPost w v (s, 0)) := by
  obtain ⟨a, m, cp, rfl⟩ := h.shape
  obtain ⟨L, c⟩ := s
  have hl : L.length ≤ 100000 := by have := hF.len; simp at this; omega
  have hBa := fun x y => ((Below.refl w.heap.size w).alloc (Nat.le_refl _) x).alloc (by simp) y
  have hT := Two.new w (.slice a m cp) c
  go_enter Tryz.func192, Tryz.ntmps192
  go_wp2_with (first | (go_at_call 17; refine (RClean_is _ p true hp hC).mono ?_; rintro e w1 ⟨rfl, B1⟩; have hT1 := hT.below (B1.mono (by simp)); have hB1 := (hBa _ _).trans (B1.mono (hBa _ _).size); obtain ⟨⟨q0, q1⟩, ⟨m0, m1⟩, ⟨r0, r1, z0, z1⟩⟩ := hT1.cells) | (go_at_call 10; refine (hG _ _ (h.below hB1).files).mono ?_; rintro e w2 ⟨rfl, B2⟩; have hT2 := hT1.below (B2.mono hT1.lt); have hB2 := hB1.trans (B2.mono hB1.size); obtain ⟨⟨q0, q1⟩, ⟨m0, m1⟩, ⟨r0, r1, z0, z1⟩⟩ := hT2.cells))
  have hB3 := ((hB2.setCell (p := ⟨w.heap.size + 1, 0, none⟩) (by simp) (.slice a m cp)).setCell (p := ⟨w.heap.size + 1, 1, none⟩) (by simp) (.int .i64 c)).alloc ((hB2.setCell (p := ⟨w.heap.size + 1, 0, none⟩) (by simp) (.slice a m cp)).setCell (p := ⟨w.heap.size + 1, 1, none⟩) (by simp) (.int .i64 c)).size (.cells #[.string gp, .string gt, .int .i64 gc, .bool true] 44)
  have hx := (hT2.answer (.slice a m cp) c).2 (.cells #[.string gp, .string gt, .int .i64 gc, .bool true] 44)
  exact bodyPost_ret (v := .tuple #[.agg #[.slice a m cp, .int .i64 c], .int .i64 0]) (by simp [results, Tryz.results192, go_sem, hx.1, hx.2]) rfl ⟨_, rfl, h.below hB3, .inl rfl, hB3⟩

set_option maxHeartbeats 1000000 in
theorem RMkdir_dir (w : World) (v : Value) (s : St) (p gp gt : ByteArray) (gc : Int) (_all : Bool) (hF : Fine s) (hp : p.size ≤ 900000) (h : RFiles w v s.L) (hC : Hid (isPath (bs p) = true))
    (hG : ∀ W v, Files W v s.L → Calls Tryz.prog 10 #[.agg #[v, .int .i64 s.c], .string p] W fun e w' => e = .returned (.tuple #[.agg #[.string gp, .string gt, .int .i64 gc, .bool true], .bool true]) ∧ Below W.heap.size W w') :
    Calls Tryz.prog 192 #[.agg #[v, .int .i64 s.c], .string p, .bool false] w (RPost w v (s, 4)) := by
  obtain ⟨a, m, cp, rfl⟩ := h.shape
  obtain ⟨L, c⟩ := s
  have hl : L.length ≤ 100000 := by have := hF.len; simp at this; omega
  have hBa := fun x y => ((Below.refl w.heap.size w).alloc (Nat.le_refl _) x).alloc (by simp) y
  have hT := Two.new w (.slice a m cp) c
  go_enter Tryz.func192, Tryz.ntmps192
  go_wp2_with (first | (go_at_call 17; refine (RClean_is _ p true hp hC).mono ?_; rintro e w1 ⟨rfl, B1⟩; have hT1 := hT.below (B1.mono (by simp)); have hB1 := (hBa _ _).trans (B1.mono (hBa _ _).size); obtain ⟨⟨q0, q1⟩, ⟨m0, m1⟩, ⟨r0, r1, z0, z1⟩⟩ := hT1.cells) | (go_at_call 10; refine (hG _ _ (h.below hB1).files).mono ?_; rintro e w2 ⟨rfl, B2⟩; have hT2 := hT1.below (B2.mono hT1.lt); have hB2 := hB1.trans (B2.mono hB1.size); obtain ⟨⟨q0, q1⟩, ⟨m0, m1⟩, ⟨r0, r1, z0, z1⟩⟩ := hT2.cells))
  have hB3 := ((hB2.setCell (p := ⟨w.heap.size + 1, 0, none⟩) (by simp) (.slice a m cp)).setCell (p := ⟨w.heap.size + 1, 1, none⟩) (by simp) (.int .i64 c)).alloc ((hB2.setCell (p := ⟨w.heap.size + 1, 0, none⟩) (by simp) (.slice a m cp)).setCell (p := ⟨w.heap.size + 1, 1, none⟩) (by simp) (.int .i64 c)).size (.cells #[.string gp, .string gt, .int .i64 gc, .bool true] 44)
  have hx := (hT2.answer (.slice a m cp) c).2 (.cells #[.string gp, .string gt, .int .i64 gc, .bool true] 44)
  exact bodyPost_ret (v := .tuple #[.agg #[.slice a m cp, .int .i64 c], .int .i64 4]) (by simp [results, Tryz.results192, go_sem, hx.1, hx.2]) rfl ⟨_, rfl, h.below hB3, .inl rfl, hB3⟩

set_option maxHeartbeats 1000000 in
theorem RMkdir_file (w : World) (v : Value) (s : St) (p gp gt : ByteArray) (gc : Int) (all : Bool) (hF : Fine s) (hp : p.size ≤ 900000) (h : RFiles w v s.L) (hC : Hid (isPath (bs p) = true))
    (hG : ∀ W v, Files W v s.L → Calls Tryz.prog 10 #[.agg #[v, .int .i64 s.c], .string p] W fun e w' => e = .returned (.tuple #[.agg #[.string gp, .string gt, .int .i64 gc, .bool false], .bool true]) ∧ Below W.heap.size W w') :
    Calls Tryz.prog 192 #[.agg #[v, .int .i64 s.c], .string p, .bool all] w (RPost w v (s, 4)) := by
  obtain ⟨a, m, cp, rfl⟩ := h.shape
  obtain ⟨L, c⟩ := s
  have hl : L.length ≤ 100000 := by have := hF.len; simp at this; omega
  have hBa := fun x y => ((Below.refl w.heap.size w).alloc (Nat.le_refl _) x).alloc (by simp) y
  have hT := Two.new w (.slice a m cp) c
  go_enter Tryz.func192, Tryz.ntmps192
  go_wp2_with (first | (go_at_call 17; refine (RClean_is _ p true hp hC).mono ?_; rintro e w1 ⟨rfl, B1⟩; have hT1 := hT.below (B1.mono (by simp)); have hB1 := (hBa _ _).trans (B1.mono (hBa _ _).size); obtain ⟨⟨q0, q1⟩, ⟨m0, m1⟩, ⟨r0, r1, z0, z1⟩⟩ := hT1.cells) | (go_at_call 10; refine (hG _ _ (h.below hB1).files).mono ?_; rintro e w2 ⟨rfl, B2⟩; have hT2 := hT1.below (B2.mono hT1.lt); have hB2 := hB1.trans (B2.mono hB1.size); obtain ⟨⟨q0, q1⟩, ⟨m0, m1⟩, ⟨r0, r1, z0, z1⟩⟩ := hT2.cells))
  have hB3 := ((hB2.setCell (p := ⟨w.heap.size + 1, 0, none⟩) (by simp) (.slice a m cp)).setCell (p := ⟨w.heap.size + 1, 1, none⟩) (by simp) (.int .i64 c)).alloc ((hB2.setCell (p := ⟨w.heap.size + 1, 0, none⟩) (by simp) (.slice a m cp)).setCell (p := ⟨w.heap.size + 1, 1, none⟩) (by simp) (.int .i64 c)).size (.cells #[.string gp, .string gt, .int .i64 gc, .bool false] 44)
  have hx := (hT2.answer (.slice a m cp) c).2 (.cells #[.string gp, .string gt, .int .i64 gc, .bool false] 44)
  exact bodyPost_ret (v := .tuple #[.agg #[.slice a m cp, .int .i64 c], .int .i64 4]) (by simp [results, Tryz.results192, go_sem, hx.1, hx.2]) rfl ⟨_, rfl, h.below hB3, .inl rfl, hB3⟩

set_option maxHeartbeats 1000000 in
theorem RMkdir_one_no (w : World) (v : Value) (s : St) (p gp gt : ByteArray) (gc : Int) (_all : Bool) (hF : Fine s) (hp : p.size ≤ 900000) (h : RFiles w v s.L) (hC : Hid (isPath (bs p) = true)) (n : Int) (hn : Hid (placeA s.L (bs p) = n)) (h0 : ¬ n = 0)
    (hG : ∀ W v, Files W v s.L → Calls Tryz.prog 10 #[.agg #[v, .int .i64 s.c], .string p] W fun e w' => e = .returned (.tuple #[.agg #[.string gp, .string gt, .int .i64 gc, .bool false], .bool false]) ∧ Below W.heap.size W w') :
    Calls Tryz.prog 192 #[.agg #[v, .int .i64 s.c], .string p, .bool false] w (RPost w v (s, n)) := by
  obtain ⟨a, m, cp, rfl⟩ := h.shape
  obtain ⟨L, c⟩ := s
  have hl : L.length ≤ 100000 := by have := hF.len; simp at this; omega
  have hBa := fun x y => ((Below.refl w.heap.size w).alloc (Nat.le_refl _) x).alloc (by simp) y
  have hT := Two.new w (.slice a m cp) c
  go_enter Tryz.func192, Tryz.ntmps192
  go_wp2_with (first | (go_at_call 17; refine (RClean_is _ p true hp hC).mono ?_; rintro e w1 ⟨rfl, B1⟩; have hT1 := hT.below (B1.mono (by simp)); have hB1 := (hBa _ _).trans (B1.mono (hBa _ _).size); obtain ⟨⟨q0, q1⟩, ⟨m0, m1⟩, ⟨r0, r1, z0, z1⟩⟩ := hT1.cells) | (go_at_call 10; refine (hG _ _ (h.below hB1).files).mono ?_; rintro e w2 ⟨rfl, B2⟩; have hT2 := hT1.below (B2.mono hT1.lt); have hB2 := hB1.trans (B2.mono hB1.size); obtain ⟨⟨q0, q1⟩, ⟨m0, m1⟩, ⟨r0, r1, z0, z1⟩⟩ := hT2.cells; have hB2a := hB2.alloc hB2.size (.cells #[.string gp, .string gt, .int .i64 gc, .bool false] 44); have hT2a := hT2.below ((Below.refl (w.heap.size + 2) w2).alloc hT2.lt (.cells #[.string gp, .string gt, .int .i64 gc, .bool false] 44))) | (go_at_call 102; refine (RMay_any _ _ c L p hp hl (h.below hB2a) hF.sorted).mono ?_; rw [hn.out]; rintro e w3 ⟨rfl, B3⟩; have hT3 := hT2a.below (B3.mono hT2a.lt); have hB3 := hB2a.trans (B3.mono hB2a.size); obtain ⟨⟨q0, q1⟩, ⟨m0, m1⟩, ⟨r0, r1, z0, z1⟩⟩ := hT3.cells))
  have hB4 := (hB3.setCell (p := ⟨w.heap.size + 1, 0, none⟩) (by simp) (.slice a m cp)).setCell (p := ⟨w.heap.size + 1, 1, none⟩) (by simp) (.int .i64 c)
  have hx := (hT3.answer (.slice a m cp) c).1
  exact bodyPost_ret (v := .tuple #[.agg #[.slice a m cp, .int .i64 c], .int .i64 n]) (by simp [results, Tryz.results192, go_sem, hx.1, hx.2]) rfl ⟨_, rfl, h.below hB4, .inl rfl, hB4⟩

set_option maxHeartbeats 1000000 in
theorem RMkdir_one (w : World) (v : Value) (s : St) (p gp gt : ByteArray) (gc : Int) (_all : Bool) (hF : Fine s) (hp : p.size ≤ 900000) (h : RFiles w v s.L) (hC : Hid (isPath (bs p) = true)) (hn : Hid (placeA s.L (bs p) = 0))
    (hG : ∀ W v, Files W v s.L → Calls Tryz.prog 10 #[.agg #[v, .int .i64 s.c], .string p] W fun e w' => e = .returned (.tuple #[.agg #[.string gp, .string gt, .int .i64 gc, .bool false], .bool false]) ∧ Below W.heap.size W w') :
    Calls Tryz.prog 192 #[.agg #[v, .int .i64 s.c], .string p, .bool false] w (RPost w v (putA s ⟨bs p, [], 0, true⟩)) := by
  obtain ⟨a, m, cp, rfl⟩ := h.shape
  obtain ⟨L, c⟩ := s
  have hl : L.length ≤ 100000 := by have := hF.len; simp at this; omega
  have hBa := fun x y => ((Below.refl w.heap.size w).alloc (Nat.le_refl _) x).alloc (by simp) y
  have hT := Two.new w (.slice a m cp) c
  generalize hq : putA ⟨L, c⟩ ⟨bs p, [], 0, true⟩ = q at *
  have hQ := Lib.hid hq
  clear hq
  go_enter Tryz.func192, Tryz.ntmps192
  go_wp2_with (first | (go_at_call 17; refine (RClean_is _ p true hp hC).mono ?_; rintro e w1 ⟨rfl, B1⟩; have hT1 := hT.below (B1.mono (by simp)); have hB1 := (hBa _ _).trans (B1.mono (hBa _ _).size); obtain ⟨⟨q0, q1⟩, ⟨m0, m1⟩, ⟨r0, r1, z0, z1⟩⟩ := hT1.cells) | (go_at_call 10; refine (hG _ _ (h.below hB1).files).mono ?_; rintro e w2 ⟨rfl, B2⟩; have hT2 := hT1.below (B2.mono hT1.lt); have hB2 := hB1.trans (B2.mono hB1.size); obtain ⟨⟨q0, q1⟩, ⟨m0, m1⟩, ⟨r0, r1, z0, z1⟩⟩ := hT2.cells; have hB2a := hB2.alloc hB2.size (.cells #[.string gp, .string gt, .int .i64 gc, .bool false] 44); have hT2a := hT2.below ((Below.refl (w.heap.size + 2) w2).alloc hT2.lt (.cells #[.string gp, .string gt, .int .i64 gc, .bool false] 44))) | (go_at_call 102; refine (RMay_any _ _ c L p hp hl (h.below hB2a) hF.sorted).mono ?_; rw [hn.out]; rintro e w3 ⟨rfl, B3⟩; have hT3 := hT2a.below (B3.mono hT2a.lt); have hB3 := hB2a.trans (B3.mono hB2a.size); obtain ⟨⟨q0, q1⟩, ⟨m0, m1⟩, ⟨r0, r1, z0, z1⟩⟩ := hT3.cells))
  refine (RPut_any _ _ ⟨L, c⟩ p ⟨#[]⟩ 0 true hl (h.below hB3) hF.c0 hF.c1).mono ?_
  rw [show putA ⟨L, c⟩ ⟨bs p, bs ⟨#[]⟩, 0, true⟩ = q from hQ.out]
  rintro e w4 ⟨v4, rfl, hR4, hv4, B4⟩
  have hT4 := hT3.below (B4.mono hT3.lt)
  have hB4 := hB3.trans (B4.mono hB3.size)
  obtain ⟨hne, hv0⟩ := RPost.ends h rfl hB3 hT3.lt hv4
  clear hT hT1 hT2 hT2a hT3 hv4 B4 B3 B2 B1 q0 q1 m0 m1 r0 r1 z0 z1
  obtain ⟨⟨q0, q1⟩, ⟨m0, m1⟩, ⟨r0, r1, z0, z1⟩⟩ := hT4.cells
  obtain ⟨a4, m4, cp4, rfl⟩ := hR4.shape
  go_wp2
  have hx := (hT4.answer (.slice a4 m4 cp4) q.1.c).1
  have hB5 := (hB4.setCell (p := ⟨w.heap.size + 1, 0, none⟩) (by simp) (.slice a4 m4 cp4)).setCell (p := ⟨w.heap.size + 1, 1, none⟩) (by simp) (.int .i64 q.1.c)
  exact bodyPost_ret (v := .tuple #[.agg #[.slice a4 m4 cp4, .int .i64 q.1.c], .int .i64 q.2]) (by simp [results, Tryz.results192, go_sem, hx.1, hx.2]) rfl ⟨_, rfl, (hR4.setCell _ _ _ hne).setCell _ _ _ hne, hv0, hB5⟩
end Go.Proofs.YteommneijlelkaaGreatDoor.Sw
namespace Go.Proofs.YteommneijlelkaaGreatDoor.Sw
open Go.RowKit Go.Proofs.YteommneijlelkaaGreatDoor Go.Maps
set_option maxRecDepth 100000

theorem zero_store {w w1 : World} (hB : Below (w.alloc (.cells #[.slice none 0 0, .int .i64 0] 34)).heap.size (w.alloc (.cells #[.slice none 0 0, .int .i64 0] 34)) w1) :
    (w1.cell? ⟨w.heap.size, 0, none⟩ = some (.slice none 0 0) ∧ w1.cell? ⟨w.heap.size, 1, none⟩ = some (.int .i64 0)) ∧
    (w1.frozen? ⟨w.heap.size, 0, none⟩ = false ∧ w1.frozen? ⟨w.heap.size, 1, none⟩ = false) ∧ w.heap.size < w1.heap.size := by
  have h1 := (hB.block w.heap.size (by simp)).trans (heap_new w (.cells #[.slice none 0 0, .int .i64 0] 34) rfl)
  exact ⟨⟨cell_at h1 rfl, cell_at h1 rfl⟩, ⟨frozen_at h1 0, frozen_at h1 1⟩, (Array.getElem?_eq_some_iff.1 h1).1⟩

theorem Two.put {W : World} {n : Nat} {v : Value} {c : Int} (h : Two W n v c) (v' : Value) (c' : Int) : Two ((W.setCell ⟨n, 0, none⟩ v').setCell ⟨n, 1, none⟩ (.int .i64 c')) n v' c' := by
  have hc := h.H0
  refine ⟨by simpa [World.setCell] using h.lt, by simp [World.setCell, Array.getElem?_modify, hc], ?_⟩
  rw [heap_setCell_other _ _ _ _ (by simp), heap_setCell_other _ _ _ _ (by simp)]
  exact h.H1

/-- Where the walk stands behind the region: the caller's two boxes, the box of the new store, its list. -/
structure Rec (w w3 W : World) (b : Nat) (v v5 : Value) (c : Int) (t : St) : Prop where
  two : Two W w.heap.size v c
  x0 : W.cell? ⟨b, 0, none⟩ = some v5
  x1 : W.cell? ⟨b, 1, none⟩ = some (.int .i64 t.c)
  blt : b < W.heap.size
  bge : w.heap.size + 2 ≤ b
  files : RFiles W v5 t.L
  old : v5 = v ∨ ∀ b, v5.ownBlock = some b → w.heap.size + 2 ≤ b
  below : Below w3.heap.size w3 W

theorem Rec.last {w w3 wb : World} {v v5 : Value} {c : Int} {t : St} (hT : Two w3 w.heap.size v c) (D2 : Below w3.heap.size w3 wb) (hR : RFiles wb v5 t.L) (hv : v5 = v ∨ ∀ b, v5.ownBlock = some b → w3.heap.size ≤ b) :
    Rec w w3 (wb.alloc (.cells #[v5, .int .i64 t.c] 34)) wb.heap.size v v5 c t := by
  have D3 := D2.alloc D2.size (.cells #[v5, .int .i64 t.c] 34)
  have hl := hT.lt
  have hl2 := D2.size
  have hn := heap_new wb (.cells #[v5, .int .i64 t.c] 34) rfl
  refine ⟨hT.below (D3.mono hT.lt), cell_at hn rfl, cell_at hn rfl, by simp, by omega, hR.below ((Below.refl _ _).alloc (Nat.le_refl _) _), ?_, D3⟩
  rcases hv with hv | hv
  · exact .inl hv
  · exact .inr fun b hb => by have := hv b hb; omega

theorem Rec.sets {w w3 wb : World} {b : Nat} {v v5 : Value} {c : Int} {t : St} {u0 u1 : Value} (hT : Two w3 w.heap.size v c) (D2 : Below w3.heap.size w3 wb) (hR : RFiles wb v5 t.L) (hv : v5 = v ∨ ∀ k, v5.ownBlock = some k → b < k)
    (hv3 : v5 = v ∨ ∀ b, v5.ownBlock = some b → w3.heap.size ≤ b) (hv0 : ∀ k, v.ownBlock = some k → k < w.heap.size) (hb : w3.heap.size ≤ b) (hlt : b < wb.heap.size) (d0 : wb.cell? ⟨b, 0, none⟩ = some u0) (d1 : wb.cell? ⟨b, 1, none⟩ = some u1) :
    Rec w w3 ((wb.setCell ⟨b, 0, none⟩ v5).setCell ⟨b, 1, none⟩ (.int .i64 t.c)) b v v5 c t := by
  have D3 := (D2.setCell (p := ⟨b, 0, none⟩) hb v5).setCell (p := ⟨b, 1, none⟩) hb (.int .i64 t.c)
  have hl := hT.lt
  have hne : ∀ k, v5.ownBlock = some k → k ≠ b := fun k hk => by
    rcases hv with rfl | hv
    · have := hv0 k hk; omega
    · have := hv k hk; omega
  refine ⟨hT.below (D3.mono hT.lt), ?_, ?_, by simpa [World.setCell] using hlt, by omega, (hR.setCell _ _ _ hne).setCell _ _ _ hne, ?_, D3⟩
  · exact (World.cell?_setCell_other (wb.setCell ⟨b, 0, none⟩ v5) ⟨b, 1, none⟩ ⟨b, 0, none⟩ (.int .i64 t.c) (by simp)).trans (World.cell?_setCell_same _ _ v5 d0)
  · exact World.cell?_setCell_same _ _ (.int .i64 t.c) ((World.cell?_setCell_other wb ⟨b, 0, none⟩ ⟨b, 1, none⟩ v5 (by simp)).trans d1)
  · rcases hv3 with hv | hv
    · exact .inl hv
    · exact .inr fun b hb => by have := hv b hb; omega

theorem Rec.ends {w w3 W : World} {b : Nat} {v v5 : Value} {c : Int} {t : St} (h : Rec w w3 W b v v5 c t) (hv0 : ∀ k, v.ownBlock = some k → k < w.heap.size) :
    (∀ k, v5.ownBlock = some k → k ≠ w.heap.size) ∧ (∀ k, v5.ownBlock = some k → k ≠ w.heap.size + 1) ∧ (v5 = v ∨ ∀ k, v5.ownBlock = some k → w.heap.size ≤ k) := by
  refine ⟨fun k hk => ?_, fun k hk => ?_, ?_⟩
  · rcases h.old with rfl | h
    · have := hv0 k hk; omega
    · have := h k hk; omega
  · rcases h.old with rfl | h
    · have := hv0 k hk; omega
    · have := h k hk; omega
  · rcases h.old with h | h
    · exact .inl h
    · exact .inr fun k hk => by have := h k hk; omega

set_option maxHeartbeats 1000000 in
theorem RMkdir_rec_bad (w : World) (v : Value) (s : St) (p gp gt : ByteArray) (gc : Int) (_all : Bool) (hF : Fine s) (hp : p.size ≤ 900000) (h : RFiles w v s.L) (hC : Hid (isPath (bs p) = true)) (d : ByteArray) (hd : Hid (dirL (bs p) = bs d)) (t : St) (n : Int) (hRec : ∀ W, Below w.heap.size w W → Calls Tryz.prog 192 #[.agg #[v, .int .i64 s.c], .string d, .bool true] W (RPost W v (t, n))) (h0 : ¬ n = 0)
    (hG : ∀ W v, Files W v s.L → Calls Tryz.prog 10 #[.agg #[v, .int .i64 s.c], .string p] W fun e w' => e = .returned (.tuple #[.agg #[.string gp, .string gt, .int .i64 gc, .bool false], .bool false]) ∧ Below W.heap.size W w') :
    Calls Tryz.prog 192 #[.agg #[v, .int .i64 s.c], .string p, .bool true] w (RPost w v (t, n)) := by
  obtain ⟨a, m, cp, rfl⟩ := h.shape
  obtain ⟨L, c⟩ := s
  have hl : L.length ≤ 100000 := by have := hF.len; simp at this; omega
  have hBa := fun x y => ((Below.refl w.heap.size w).alloc (Nat.le_refl _) x).alloc (by simp) y
  have hT := Two.new w (.slice a m cp) c
  go_enter Tryz.func192, Tryz.ntmps192
  go_wp2_with (first | (go_at_call 17; refine (RClean_is _ p true hp hC).mono ?_; rintro e w1 ⟨rfl, B1⟩; have hT1 := hT.below (B1.mono (by simp)); have hB1 := (hBa _ _).trans (B1.mono (hBa _ _).size); obtain ⟨⟨q0, q1⟩, ⟨m0, m1⟩, ⟨r0, r1, z0, z1⟩⟩ := hT1.cells) | (go_at_call 10; refine (hG _ _ (h.below hB1).files).mono ?_; rintro e w2 ⟨rfl, B2⟩; have hT2 := hT1.below (B2.mono hT1.lt); have hB2 := hB1.trans (B2.mono hB1.size); obtain ⟨⟨q0, q1⟩, ⟨m0, m1⟩, ⟨r0, r1, z0, z1⟩⟩ := hT2.cells; have hB3 := hB2.alloc hB2.size (.cells #[.string gp, .string gt, .int .i64 gc, .bool false] 44); have hT3 := hT2.below ((Below.refl (w.heap.size + 2) w2).alloc hT2.lt (.cells #[.string gp, .string gt, .int .i64 gc, .bool false] 44))))
  generalize w2.alloc (.cells #[.string gp, .string gt, .int .i64 gc, .bool false] 44) = w3 at *
  clear q0 q1 m0 m1 r0 r1 z0 z1
  obtain ⟨⟨q0, q1⟩, ⟨m0, m1⟩, ⟨r0, r1, z0, z1⟩⟩ := hT3.cells
  have hv00 := h.lt
  have HT := Lib.hid hT3
  have HB := Lib.hid hB3
  have HS : Hid (∀ w', Below w3.heap.size w3 w' → (w'.cell? ⟨w.heap.size, 0, none⟩ = some (.slice a m cp) ∧ w'.cell? ⟨w.heap.size, 1, none⟩ = some (.int .i64 c))) := Lib.hid fun w' hB => by
    have := (HT.out.below (hB.mono HT.out.lt)).cells
    exact this.2.1
  have D0 : Below w3.heap.size w3 w3.drew := (Below.refl _ _).drew
  have D0A := (Below.refl w3.heap.size w3).alloc (Nat.le_refl _) (.cells #[.slice none 0 0, .int .i64 0] 34)
  clear B1 B2 hT hT1 hT2 hT3 hB1 hB2 hB3 hG r0 r1 z0 z1
  go_region_held3 (fun w' => w'.cell? ⟨w.heap.size, 0, none⟩ = some (.slice a m cp) ∧ w'.cell? ⟨w.heap.size, 1, none⟩ = some (.int .i64 c))
    (first | go_keep | exact HS.out _ D0 | exact HS.out _ D1 | exact HS.out _ D2 | exact HS.out _ (D0.alloc D0.size _) | exact HS.out _ (D1.alloc D1.size _) | exact HS.out _ (D2.alloc D2.size _) | exact HS.out _ ((D2.setCell (by first | exact D1.size | exact Nat.le_refl _) _).setCell (by first | exact D1.size | exact Nat.le_refl _) _) | exact HS.out _ D0A | exact HS.out _ D0A.drew)
    (first
      | (go_at_call 20; refine (RDir_is _ p d hp hC hd).mono ?_; rintro e wa ⟨rfl, Ba⟩; have D1 := D0.trans Ba)
      | (go_at_call 20; refine (RDir_is _ p d hp hC hd).mono ?_; rintro e wa ⟨rfl, Ba⟩; have D1 := ((Below.refl w3.heap.size w3).alloc (Nat.le_refl _) _).drew.trans (Ba.mono (by simp)); have hz5 := zero_store ((Below.refl _ _).drew.trans Ba); obtain ⟨⟨d0, d1⟩, ⟨z0, z1⟩, hzz⟩ := hz5)
      | (go_at_call 192; have hzz2 := hzz; refine (hRec _ (HB.out.trans (D1.mono HB.out.size))).mono ?_; rintro e wb ⟨v5, rfl, hR5, hv5, Bb⟩; obtain ⟨a5, m5, cp5, rfl⟩ := hR5.shape; have D2 := D1.trans (Bb.mono D1.size); have Kb := Kept.of_below (X := []) Bb; replace d0 := (Bb.cell (p := ⟨w3.heap.size, 0, none⟩) hzz2).trans d0; replace d1 := (Bb.cell (p := ⟨w3.heap.size, 1, none⟩) hzz2).trans d1; replace z0 := (Kb.frozen (p := ⟨w3.heap.size, 0, none⟩) hzz2 (by simp)).trans z0; replace z1 := (Kb.frozen (p := ⟨w3.heap.size, 1, none⟩) hzz2 (by simp)).trans z1)
      | (go_at_call 192; refine (hRec _ (HB.out.trans (D1.mono HB.out.size))).mono ?_; rintro e wb ⟨v5, rfl, hR5, hv5, Bb⟩; obtain ⟨a5, m5, cp5, rfl⟩ := hR5.shape; have D2 := D1.trans (Bb.mono D1.size))
      | (go_at_call 192; refine (hRec _ (HB.out.trans ((D1.alloc D1.size _).mono HB.out.size))).mono ?_; rintro e wb ⟨v5, rfl, hR5, hv5, Bb⟩; obtain ⟨a5, m5, cp5, rfl⟩ := hR5.shape; have D2 := (D1.alloc D1.size _).trans (Bb.mono (D1.alloc D1.size _).size); obtain ⟨⟨d0, d1⟩, ⟨z0, z1⟩, hzz⟩ := zero_store Bb))
  · have hY := Rec.last HT.out D2 hR5 (hv5.imp id fun hv b hb => by have := hv b hb; have := D1.size; omega)
    generalize wb.alloc (.cells #[(.slice a5 m5 cp5), .int .i64 t.c] 34) = W5 at hY ⊢
    generalize wb.heap.size = b5 at hY ⊢
    clear D0 D0A q0 q1 m0 m1 hR5 hv5
    have hB5 := HB.out.trans (hY.below.mono HB.out.size)
    obtain ⟨hn0, hn1, hv0⟩ := hY.ends hv00
    obtain ⟨⟨q0, q1⟩, ⟨m0, m1⟩, ⟨r0, r1, z0, z1⟩⟩ := hY.two.cells
    have x0 := hY.x0
    have x1 := hY.x1
    have y0 := frozen_at hY.two.H0 0
    have y1 := frozen_at hY.two.H0 1
    have qb := hY.blt
    have qg := hY.bge
    go_wp2
    have hx := (hY.two.answer (.slice a5 m5 cp5) t.c).1
    have hB6 := (hB5.setCell (p := ⟨w.heap.size + 1, 0, none⟩) (by simp) (.slice a5 m5 cp5)).setCell (p := ⟨w.heap.size + 1, 1, none⟩) (by simp) (.int .i64 t.c)
    exact bodyPost_ret (v := .tuple #[.agg #[(.slice a5 m5 cp5), .int .i64 t.c], .int .i64 n]) (by simp [results, Tryz.results192, go_sem, hx.1, hx.2]) rfl ⟨_, rfl, (hY.files.setCell _ _ _ hn1).setCell _ _ _ hn1, hv0, hB6⟩
  · have hY := Rec.sets HT.out D2 hR5 (b := wa.heap.size) (hv5.imp id fun hv b hb => by have := hv b hb; simp at this; omega) (hv5.imp id fun hv b hb => by have := hv b hb; simp at this; have := D1.size; omega) hv00 D1.size hzz d0 d1
    generalize (wb.setCell ⟨wa.heap.size, 0, none⟩ (.slice a5 m5 cp5)).setCell ⟨wa.heap.size, 1, none⟩ (.int .i64 t.c) = W5 at hY ⊢
    generalize wa.heap.size = b5 at hY ⊢
    clear D0 D0A q0 q1 m0 m1 hR5 hv5
    have hB5 := HB.out.trans (hY.below.mono HB.out.size)
    obtain ⟨hn0, hn1, hv0⟩ := hY.ends hv00
    obtain ⟨⟨q0, q1⟩, ⟨m0, m1⟩, ⟨r0, r1, z0, z1⟩⟩ := hY.two.cells
    have x0 := hY.x0
    have x1 := hY.x1
    have y0 := frozen_at hY.two.H0 0
    have y1 := frozen_at hY.two.H0 1
    have qb := hY.blt
    have qg := hY.bge
    go_wp2
    have hx := (hY.two.answer (.slice a5 m5 cp5) t.c).1
    have hB6 := (hB5.setCell (p := ⟨w.heap.size + 1, 0, none⟩) (by simp) (.slice a5 m5 cp5)).setCell (p := ⟨w.heap.size + 1, 1, none⟩) (by simp) (.int .i64 t.c)
    exact bodyPost_ret (v := .tuple #[.agg #[(.slice a5 m5 cp5), .int .i64 t.c], .int .i64 n]) (by simp [results, Tryz.results192, go_sem, hx.1, hx.2]) rfl ⟨_, rfl, (hY.files.setCell _ _ _ hn1).setCell _ _ _ hn1, hv0, hB6⟩
  · have hY := Rec.sets HT.out D2 hR5 (b := w3.heap.size) (hv5.imp id fun hv b hb => by have := hv b hb; omega) (hv5.imp id fun hv b hb => by have := hv b hb; have := D1.size; omega) hv00 (Nat.le_refl _) (by have := Bb.size; omega) d0 d1
    generalize (wb.setCell ⟨w3.heap.size, 0, none⟩ (.slice a5 m5 cp5)).setCell ⟨w3.heap.size, 1, none⟩ (.int .i64 t.c) = W5 at hY ⊢
    generalize hb3 : w3.heap.size = b5 at hY ⊢
    clear hb3
    clear D0 D0A q0 q1 m0 m1 hR5 hv5
    have hB5 := HB.out.trans (hY.below.mono HB.out.size)
    obtain ⟨hn0, hn1, hv0⟩ := hY.ends hv00
    obtain ⟨⟨q0, q1⟩, ⟨m0, m1⟩, ⟨r0, r1, z0, z1⟩⟩ := hY.two.cells
    have x0 := hY.x0
    have x1 := hY.x1
    have y0 := frozen_at hY.two.H0 0
    have y1 := frozen_at hY.two.H0 1
    have qb := hY.blt
    have qg := hY.bge
    go_wp2
    have hx := (hY.two.answer (.slice a5 m5 cp5) t.c).1
    have hB6 := (hB5.setCell (p := ⟨w.heap.size + 1, 0, none⟩) (by simp) (.slice a5 m5 cp5)).setCell (p := ⟨w.heap.size + 1, 1, none⟩) (by simp) (.int .i64 t.c)
    exact bodyPost_ret (v := .tuple #[.agg #[(.slice a5 m5 cp5), .int .i64 t.c], .int .i64 n]) (by simp [results, Tryz.results192, go_sem, hx.1, hx.2]) rfl ⟨_, rfl, (hY.files.setCell _ _ _ hn1).setCell _ _ _ hn1, hv0, hB6⟩

set_option maxHeartbeats 1000000 in
theorem RMkdir_rec_no (w : World) (v : Value) (s : St) (p gp gt : ByteArray) (gc : Int) (_all : Bool) (hF : Fine s) (hp : p.size ≤ 900000) (h : RFiles w v s.L) (hC : Hid (isPath (bs p) = true)) (d : ByteArray) (hd : Hid (dirL (bs p) = bs d)) (t : St) (hFt : Fine t) (hRec : ∀ W, Below w.heap.size w W → Calls Tryz.prog 192 #[.agg #[v, .int .i64 s.c], .string d, .bool true] W (RPost W v (t, 0))) (n : Int) (hn : Hid (placeA t.L (bs p) = n)) (h0 : ¬ n = 0)
    (hG : ∀ W v, Files W v s.L → Calls Tryz.prog 10 #[.agg #[v, .int .i64 s.c], .string p] W fun e w' => e = .returned (.tuple #[.agg #[.string gp, .string gt, .int .i64 gc, .bool false], .bool false]) ∧ Below W.heap.size W w') :
    Calls Tryz.prog 192 #[.agg #[v, .int .i64 s.c], .string p, .bool true] w (RPost w v (t, n)) := by
  obtain ⟨a, m, cp, rfl⟩ := h.shape
  obtain ⟨L, c⟩ := s
  have hl : L.length ≤ 100000 := by have := hF.len; simp at this; omega
  have hBa := fun x y => ((Below.refl w.heap.size w).alloc (Nat.le_refl _) x).alloc (by simp) y
  have hT := Two.new w (.slice a m cp) c
  go_enter Tryz.func192, Tryz.ntmps192
  go_wp2_with (first | (go_at_call 17; refine (RClean_is _ p true hp hC).mono ?_; rintro e w1 ⟨rfl, B1⟩; have hT1 := hT.below (B1.mono (by simp)); have hB1 := (hBa _ _).trans (B1.mono (hBa _ _).size); obtain ⟨⟨q0, q1⟩, ⟨m0, m1⟩, ⟨r0, r1, z0, z1⟩⟩ := hT1.cells) | (go_at_call 10; refine (hG _ _ (h.below hB1).files).mono ?_; rintro e w2 ⟨rfl, B2⟩; have hT2 := hT1.below (B2.mono hT1.lt); have hB2 := hB1.trans (B2.mono hB1.size); obtain ⟨⟨q0, q1⟩, ⟨m0, m1⟩, ⟨r0, r1, z0, z1⟩⟩ := hT2.cells; have hB3 := hB2.alloc hB2.size (.cells #[.string gp, .string gt, .int .i64 gc, .bool false] 44); have hT3 := hT2.below ((Below.refl (w.heap.size + 2) w2).alloc hT2.lt (.cells #[.string gp, .string gt, .int .i64 gc, .bool false] 44))))
  generalize w2.alloc (.cells #[.string gp, .string gt, .int .i64 gc, .bool false] 44) = w3 at *
  clear q0 q1 m0 m1 r0 r1 z0 z1
  obtain ⟨⟨q0, q1⟩, ⟨m0, m1⟩, ⟨r0, r1, z0, z1⟩⟩ := hT3.cells
  have hv00 := h.lt
  have HT := Lib.hid hT3
  have HB := Lib.hid hB3
  have HS : Hid (∀ w', Below w3.heap.size w3 w' → (w'.cell? ⟨w.heap.size, 0, none⟩ = some (.slice a m cp) ∧ w'.cell? ⟨w.heap.size, 1, none⟩ = some (.int .i64 c))) := Lib.hid fun w' hB => by
    have := (HT.out.below (hB.mono HT.out.lt)).cells
    exact this.2.1
  have D0 : Below w3.heap.size w3 w3.drew := (Below.refl _ _).drew
  have D0A := (Below.refl w3.heap.size w3).alloc (Nat.le_refl _) (.cells #[.slice none 0 0, .int .i64 0] 34)
  clear B1 B2 hT hT1 hT2 hT3 hB1 hB2 hB3 hG r0 r1 z0 z1
  go_region_held3 (fun w' => w'.cell? ⟨w.heap.size, 0, none⟩ = some (.slice a m cp) ∧ w'.cell? ⟨w.heap.size, 1, none⟩ = some (.int .i64 c))
    (first | go_keep | exact HS.out _ D0 | exact HS.out _ D1 | exact HS.out _ D2 | exact HS.out _ (D0.alloc D0.size _) | exact HS.out _ (D1.alloc D1.size _) | exact HS.out _ (D2.alloc D2.size _) | exact HS.out _ ((D2.setCell (by first | exact D1.size | exact Nat.le_refl _) _).setCell (by first | exact D1.size | exact Nat.le_refl _) _) | exact HS.out _ D0A | exact HS.out _ D0A.drew)
    (first
      | (go_at_call 20; refine (RDir_is _ p d hp hC hd).mono ?_; rintro e wa ⟨rfl, Ba⟩; have D1 := D0.trans Ba)
      | (go_at_call 20; refine (RDir_is _ p d hp hC hd).mono ?_; rintro e wa ⟨rfl, Ba⟩; have D1 := ((Below.refl w3.heap.size w3).alloc (Nat.le_refl _) _).drew.trans (Ba.mono (by simp)); have hz5 := zero_store ((Below.refl _ _).drew.trans Ba); obtain ⟨⟨d0, d1⟩, ⟨z0, z1⟩, hzz⟩ := hz5)
      | (go_at_call 192; have hzz2 := hzz; refine (hRec _ (HB.out.trans (D1.mono HB.out.size))).mono ?_; rintro e wb ⟨v5, rfl, hR5, hv5, Bb⟩; obtain ⟨a5, m5, cp5, rfl⟩ := hR5.shape; have D2 := D1.trans (Bb.mono D1.size); have Kb := Kept.of_below (X := []) Bb; replace d0 := (Bb.cell (p := ⟨w3.heap.size, 0, none⟩) hzz2).trans d0; replace d1 := (Bb.cell (p := ⟨w3.heap.size, 1, none⟩) hzz2).trans d1; replace z0 := (Kb.frozen (p := ⟨w3.heap.size, 0, none⟩) hzz2 (by simp)).trans z0; replace z1 := (Kb.frozen (p := ⟨w3.heap.size, 1, none⟩) hzz2 (by simp)).trans z1)
      | (go_at_call 192; refine (hRec _ (HB.out.trans (D1.mono HB.out.size))).mono ?_; rintro e wb ⟨v5, rfl, hR5, hv5, Bb⟩; obtain ⟨a5, m5, cp5, rfl⟩ := hR5.shape; have D2 := D1.trans (Bb.mono D1.size))
      | (go_at_call 192; refine (hRec _ (HB.out.trans ((D1.alloc D1.size _).mono HB.out.size))).mono ?_; rintro e wb ⟨v5, rfl, hR5, hv5, Bb⟩; obtain ⟨a5, m5, cp5, rfl⟩ := hR5.shape; have D2 := (D1.alloc D1.size _).trans (Bb.mono (D1.alloc D1.size _).size); obtain ⟨⟨d0, d1⟩, ⟨z0, z1⟩, hzz⟩ := zero_store Bb))
  · have hY := Rec.last HT.out D2 hR5 (hv5.imp id fun hv b hb => by have := hv b hb; have := D1.size; omega)
    generalize wb.alloc (.cells #[(.slice a5 m5 cp5), .int .i64 t.c] 34) = W5 at hY ⊢
    generalize wb.heap.size = b5 at hY ⊢
    clear D0 D0A q0 q1 m0 m1 hR5 hv5
    have hB5 := HB.out.trans (hY.below.mono HB.out.size)
    obtain ⟨hn0, hn1, hv0⟩ := hY.ends hv00
    obtain ⟨⟨q0, q1⟩, ⟨m0, m1⟩, ⟨r0, r1, z0, z1⟩⟩ := hY.two.cells
    have x0 := hY.x0
    have x1 := hY.x1
    have y0 := frozen_at hY.two.H0 0
    have y1 := frozen_at hY.two.H0 1
    have qb := hY.blt
    have qg := hY.bge
    have hlt : t.L.length ≤ 100000 := by have := hFt.len; omega
    have hT6 := hY.two.put (.slice a5 m5 cp5) t.c
    have hR6 := (hY.files.setCell _ 0 (.slice a5 m5 cp5) hn0).setCell _ 1 (.int .i64 t.c) hn0
    have hB6 := (hB5.setCell (p := ⟨w.heap.size, 0, none⟩) (by simp) (.slice a5 m5 cp5)).setCell (p := ⟨w.heap.size, 1, none⟩) (by simp) (.int .i64 t.c)
    have hBo := (Below.refl w.heap.size W5)
    clear hBo
    go_wp2_with (go_at_call 102; refine (RMay_any _ _ t.c t.L p hp hlt hR6 hFt.sorted).mono ?_; rw [hn.out]; rintro e w7 ⟨rfl, B7⟩; have hT7 := hT6.below (B7.mono hT6.lt); have hB7 := hB6.trans (B7.mono hB6.size); have hR7 := hR6.below B7; obtain ⟨⟨q0, q1⟩, ⟨m0, m1⟩, ⟨r0, r1, z0, z1⟩⟩ := hT7.cells)
    have hx := (hT7.answer (.slice a5 m5 cp5) t.c).1
    have hB8 := (hB7.setCell (p := ⟨w.heap.size + 1, 0, none⟩) (by simp) (.slice a5 m5 cp5)).setCell (p := ⟨w.heap.size + 1, 1, none⟩) (by simp) (.int .i64 t.c)
    exact bodyPost_ret (v := .tuple #[.agg #[(.slice a5 m5 cp5), .int .i64 t.c], .int .i64 n]) (by simp [results, Tryz.results192, go_sem, hx.1, hx.2]) rfl ⟨_, rfl, (hR7.setCell _ _ _ hn1).setCell _ _ _ hn1, hv0, hB8⟩
  · have hY := Rec.sets HT.out D2 hR5 (b := wa.heap.size) (hv5.imp id fun hv b hb => by have := hv b hb; simp at this; omega) (hv5.imp id fun hv b hb => by have := hv b hb; simp at this; have := D1.size; omega) hv00 D1.size hzz d0 d1
    generalize (wb.setCell ⟨wa.heap.size, 0, none⟩ (.slice a5 m5 cp5)).setCell ⟨wa.heap.size, 1, none⟩ (.int .i64 t.c) = W5 at hY ⊢
    generalize wa.heap.size = b5 at hY ⊢
    clear D0 D0A q0 q1 m0 m1 hR5 hv5
    have hB5 := HB.out.trans (hY.below.mono HB.out.size)
    obtain ⟨hn0, hn1, hv0⟩ := hY.ends hv00
    obtain ⟨⟨q0, q1⟩, ⟨m0, m1⟩, ⟨r0, r1, z0, z1⟩⟩ := hY.two.cells
    have x0 := hY.x0
    have x1 := hY.x1
    have y0 := frozen_at hY.two.H0 0
    have y1 := frozen_at hY.two.H0 1
    have qb := hY.blt
    have qg := hY.bge
    have hlt : t.L.length ≤ 100000 := by have := hFt.len; omega
    have hT6 := hY.two.put (.slice a5 m5 cp5) t.c
    have hR6 := (hY.files.setCell _ 0 (.slice a5 m5 cp5) hn0).setCell _ 1 (.int .i64 t.c) hn0
    have hB6 := (hB5.setCell (p := ⟨w.heap.size, 0, none⟩) (by simp) (.slice a5 m5 cp5)).setCell (p := ⟨w.heap.size, 1, none⟩) (by simp) (.int .i64 t.c)
    have hBo := (Below.refl w.heap.size W5)
    clear hBo
    go_wp2_with (go_at_call 102; refine (RMay_any _ _ t.c t.L p hp hlt hR6 hFt.sorted).mono ?_; rw [hn.out]; rintro e w7 ⟨rfl, B7⟩; have hT7 := hT6.below (B7.mono hT6.lt); have hB7 := hB6.trans (B7.mono hB6.size); have hR7 := hR6.below B7; obtain ⟨⟨q0, q1⟩, ⟨m0, m1⟩, ⟨r0, r1, z0, z1⟩⟩ := hT7.cells)
    have hx := (hT7.answer (.slice a5 m5 cp5) t.c).1
    have hB8 := (hB7.setCell (p := ⟨w.heap.size + 1, 0, none⟩) (by simp) (.slice a5 m5 cp5)).setCell (p := ⟨w.heap.size + 1, 1, none⟩) (by simp) (.int .i64 t.c)
    exact bodyPost_ret (v := .tuple #[.agg #[(.slice a5 m5 cp5), .int .i64 t.c], .int .i64 n]) (by simp [results, Tryz.results192, go_sem, hx.1, hx.2]) rfl ⟨_, rfl, (hR7.setCell _ _ _ hn1).setCell _ _ _ hn1, hv0, hB8⟩
  · have hY := Rec.sets HT.out D2 hR5 (b := w3.heap.size) (hv5.imp id fun hv b hb => by have := hv b hb; omega) (hv5.imp id fun hv b hb => by have := hv b hb; have := D1.size; omega) hv00 (Nat.le_refl _) (by have := Bb.size; omega) d0 d1
    generalize (wb.setCell ⟨w3.heap.size, 0, none⟩ (.slice a5 m5 cp5)).setCell ⟨w3.heap.size, 1, none⟩ (.int .i64 t.c) = W5 at hY ⊢
    generalize hb3 : w3.heap.size = b5 at hY ⊢
    clear hb3
    clear D0 D0A q0 q1 m0 m1 hR5 hv5
    have hB5 := HB.out.trans (hY.below.mono HB.out.size)
    obtain ⟨hn0, hn1, hv0⟩ := hY.ends hv00
    obtain ⟨⟨q0, q1⟩, ⟨m0, m1⟩, ⟨r0, r1, z0, z1⟩⟩ := hY.two.cells
    have x0 := hY.x0
    have x1 := hY.x1
    have y0 := frozen_at hY.two.H0 0
    have y1 := frozen_at hY.two.H0 1
    have qb := hY.blt
    have qg := hY.bge
    have hlt : t.L.length ≤ 100000 := by have := hFt.len; omega
    have hT6 := hY.two.put (.slice a5 m5 cp5) t.c
    have hR6 := (hY.files.setCell _ 0 (.slice a5 m5 cp5) hn0).setCell _ 1 (.int .i64 t.c) hn0
    have hB6 := (hB5.setCell (p := ⟨w.heap.size, 0, none⟩) (by simp) (.slice a5 m5 cp5)).setCell (p := ⟨w.heap.size, 1, none⟩) (by simp) (.int .i64 t.c)
    have hBo := (Below.refl w.heap.size W5)
    clear hBo
    go_wp2_with (go_at_call 102; refine (RMay_any _ _ t.c t.L p hp hlt hR6 hFt.sorted).mono ?_; rw [hn.out]; rintro e w7 ⟨rfl, B7⟩; have hT7 := hT6.below (B7.mono hT6.lt); have hB7 := hB6.trans (B7.mono hB6.size); have hR7 := hR6.below B7; obtain ⟨⟨q0, q1⟩, ⟨m0, m1⟩, ⟨r0, r1, z0, z1⟩⟩ := hT7.cells)
    have hx := (hT7.answer (.slice a5 m5 cp5) t.c).1
    have hB8 := (hB7.setCell (p := ⟨w.heap.size + 1, 0, none⟩) (by simp) (.slice a5 m5 cp5)).setCell (p := ⟨w.heap.size + 1, 1, none⟩) (by simp) (.int .i64 t.c)
    exact bodyPost_ret (v := .tuple #[.agg #[(.slice a5 m5 cp5), .int .i64 t.c], .int .i64 n]) (by simp [results, Tryz.results192, go_sem, hx.1, hx.2]) rfl ⟨_, rfl, (hR7.setCell _ _ _ hn1).setCell _ _ _ hn1, hv0, hB8⟩

set_option maxHeartbeats 1000000 in
theorem RMkdir_rec (w : World) (v : Value) (s : St) (p gp gt : ByteArray) (gc : Int) (_all : Bool) (hF : Fine s) (hp : p.size ≤ 900000) (h : RFiles w v s.L) (hC : Hid (isPath (bs p) = true)) (d : ByteArray) (hd : Hid (dirL (bs p) = bs d)) (t : St) (hFt : Fine t) (hRec : ∀ W, Below w.heap.size w W → Calls Tryz.prog 192 #[.agg #[v, .int .i64 s.c], .string d, .bool true] W (RPost W v (t, 0))) (hn : Hid (placeA t.L (bs p) = 0))
    (hG : ∀ W v, Files W v s.L → Calls Tryz.prog 10 #[.agg #[v, .int .i64 s.c], .string p] W fun e w' => e = .returned (.tuple #[.agg #[.string gp, .string gt, .int .i64 gc, .bool false], .bool false]) ∧ Below W.heap.size W w') :
    Calls Tryz.prog 192 #[.agg #[v, .int .i64 s.c], .string p, .bool true] w (RPost w v (putA t ⟨bs p, [], 0, true⟩)) := by
  obtain ⟨a, m, cp, rfl⟩ := h.shape
  obtain ⟨L, c⟩ := s
  have hl : L.length ≤ 100000 := by have := hF.len; simp at this; omega
  have hBa := fun x y => ((Below.refl w.heap.size w).alloc (Nat.le_refl _) x).alloc (by simp) y
  have hT := Two.new w (.slice a m cp) c
  generalize hq : putA t ⟨bs p, [], 0, true⟩ = q at *
  have hQ := Lib.hid hq
  clear hq
  go_enter Tryz.func192, Tryz.ntmps192
  go_wp2_with (first | (go_at_call 17; refine (RClean_is _ p true hp hC).mono ?_; rintro e w1 ⟨rfl, B1⟩; have hT1 := hT.below (B1.mono (by simp)); have hB1 := (hBa _ _).trans (B1.mono (hBa _ _).size); obtain ⟨⟨q0, q1⟩, ⟨m0, m1⟩, ⟨r0, r1, z0, z1⟩⟩ := hT1.cells) | (go_at_call 10; refine (hG _ _ (h.below hB1).files).mono ?_; rintro e w2 ⟨rfl, B2⟩; have hT2 := hT1.below (B2.mono hT1.lt); have hB2 := hB1.trans (B2.mono hB1.size); obtain ⟨⟨q0, q1⟩, ⟨m0, m1⟩, ⟨r0, r1, z0, z1⟩⟩ := hT2.cells; have hB3 := hB2.alloc hB2.size (.cells #[.string gp, .string gt, .int .i64 gc, .bool false] 44); have hT3 := hT2.below ((Below.refl (w.heap.size + 2) w2).alloc hT2.lt (.cells #[.string gp, .string gt, .int .i64 gc, .bool false] 44))))
  generalize w2.alloc (.cells #[.string gp, .string gt, .int .i64 gc, .bool false] 44) = w3 at *
  clear q0 q1 m0 m1 r0 r1 z0 z1
  obtain ⟨⟨q0, q1⟩, ⟨m0, m1⟩, ⟨r0, r1, z0, z1⟩⟩ := hT3.cells
  have hv00 := h.lt
  have HT := Lib.hid hT3
  have HB := Lib.hid hB3
  have HS : Hid (∀ w', Below w3.heap.size w3 w' → (w'.cell? ⟨w.heap.size, 0, none⟩ = some (.slice a m cp) ∧ w'.cell? ⟨w.heap.size, 1, none⟩ = some (.int .i64 c))) := Lib.hid fun w' hB => by
    have := (HT.out.below (hB.mono HT.out.lt)).cells
    exact this.2.1
  have D0 : Below w3.heap.size w3 w3.drew := (Below.refl _ _).drew
  have D0A := (Below.refl w3.heap.size w3).alloc (Nat.le_refl _) (.cells #[.slice none 0 0, .int .i64 0] 34)
  clear B1 B2 hT hT1 hT2 hT3 hB1 hB2 hB3 hG r0 r1 z0 z1
  go_region_held3 (fun w' => w'.cell? ⟨w.heap.size, 0, none⟩ = some (.slice a m cp) ∧ w'.cell? ⟨w.heap.size, 1, none⟩ = some (.int .i64 c))
    (first | go_keep | exact HS.out _ D0 | exact HS.out _ D1 | exact HS.out _ D2 | exact HS.out _ (D0.alloc D0.size _) | exact HS.out _ (D1.alloc D1.size _) | exact HS.out _ (D2.alloc D2.size _) | exact HS.out _ ((D2.setCell (by first | exact D1.size | exact Nat.le_refl _) _).setCell (by first | exact D1.size | exact Nat.le_refl _) _) | exact HS.out _ D0A | exact HS.out _ D0A.drew)
    (first
      | (go_at_call 20; refine (RDir_is _ p d hp hC hd).mono ?_; rintro e wa ⟨rfl, Ba⟩; have D1 := D0.trans Ba)
      | (go_at_call 20; refine (RDir_is _ p d hp hC hd).mono ?_; rintro e wa ⟨rfl, Ba⟩; have D1 := ((Below.refl w3.heap.size w3).alloc (Nat.le_refl _) _).drew.trans (Ba.mono (by simp)); have hz5 := zero_store ((Below.refl _ _).drew.trans Ba); obtain ⟨⟨d0, d1⟩, ⟨z0, z1⟩, hzz⟩ := hz5)
      | (go_at_call 192; have hzz2 := hzz; refine (hRec _ (HB.out.trans (D1.mono HB.out.size))).mono ?_; rintro e wb ⟨v5, rfl, hR5, hv5, Bb⟩; obtain ⟨a5, m5, cp5, rfl⟩ := hR5.shape; have D2 := D1.trans (Bb.mono D1.size); have Kb := Kept.of_below (X := []) Bb; replace d0 := (Bb.cell (p := ⟨w3.heap.size, 0, none⟩) hzz2).trans d0; replace d1 := (Bb.cell (p := ⟨w3.heap.size, 1, none⟩) hzz2).trans d1; replace z0 := (Kb.frozen (p := ⟨w3.heap.size, 0, none⟩) hzz2 (by simp)).trans z0; replace z1 := (Kb.frozen (p := ⟨w3.heap.size, 1, none⟩) hzz2 (by simp)).trans z1)
      | (go_at_call 192; refine (hRec _ (HB.out.trans (D1.mono HB.out.size))).mono ?_; rintro e wb ⟨v5, rfl, hR5, hv5, Bb⟩; obtain ⟨a5, m5, cp5, rfl⟩ := hR5.shape; have D2 := D1.trans (Bb.mono D1.size))
      | (go_at_call 192; refine (hRec _ (HB.out.trans ((D1.alloc D1.size _).mono HB.out.size))).mono ?_; rintro e wb ⟨v5, rfl, hR5, hv5, Bb⟩; obtain ⟨a5, m5, cp5, rfl⟩ := hR5.shape; have D2 := (D1.alloc D1.size _).trans (Bb.mono (D1.alloc D1.size _).size); obtain ⟨⟨d0, d1⟩, ⟨z0, z1⟩, hzz⟩ := zero_store Bb))
  · have hY := Rec.last HT.out D2 hR5 (hv5.imp id fun hv b hb => by have := hv b hb; have := D1.size; omega)
    generalize wb.alloc (.cells #[(.slice a5 m5 cp5), .int .i64 t.c] 34) = W5 at hY ⊢
    generalize wb.heap.size = b5 at hY ⊢
    clear D0 D0A q0 q1 m0 m1 hR5 hv5
    have hB5 := HB.out.trans (hY.below.mono HB.out.size)
    obtain ⟨hn0, hn1, hv0⟩ := hY.ends hv00
    obtain ⟨⟨q0, q1⟩, ⟨m0, m1⟩, ⟨r0, r1, z0, z1⟩⟩ := hY.two.cells
    have x0 := hY.x0
    have x1 := hY.x1
    have y0 := frozen_at hY.two.H0 0
    have y1 := frozen_at hY.two.H0 1
    have qb := hY.blt
    have qg := hY.bge
    have hlt : t.L.length ≤ 100000 := by have := hFt.len; omega
    have hT6 := hY.two.put (.slice a5 m5 cp5) t.c
    have hR6 := (hY.files.setCell _ 0 (.slice a5 m5 cp5) hn0).setCell _ 1 (.int .i64 t.c) hn0
    have hB6 := (hB5.setCell (p := ⟨w.heap.size, 0, none⟩) (by simp) (.slice a5 m5 cp5)).setCell (p := ⟨w.heap.size, 1, none⟩) (by simp) (.int .i64 t.c)
    have hBo := (Below.refl w.heap.size W5)
    clear hBo
    go_wp2_with (go_at_call 102; refine (RMay_any _ _ t.c t.L p hp hlt hR6 hFt.sorted).mono ?_; rw [hn.out]; rintro e w7 ⟨rfl, B7⟩; have hT7 := hT6.below (B7.mono hT6.lt); have hB7 := hB6.trans (B7.mono hB6.size); have hR7 := hR6.below B7; obtain ⟨⟨q0, q1⟩, ⟨m0, m1⟩, ⟨r0, r1, z0, z1⟩⟩ := hT7.cells)
    refine (RPut_any _ _ t p ⟨#[]⟩ 0 true hlt hR7 hFt.c0 hFt.c1).mono ?_
    rw [show putA t ⟨bs p, bs ⟨#[]⟩, 0, true⟩ = q from hQ.out]
    rintro e w8 ⟨v8, rfl, hR8, hv8, B8⟩
    have hT8 := hT7.below (B8.mono hT7.lt)
    have hB8 := hB7.trans (B8.mono hB7.size)
    have hge := hT7.lt
    have hge2 := hB7.size
    have hne : ∀ k, v8.ownBlock = some k → k ≠ w.heap.size + 1 := fun k hk => by
      rcases hv8 with rfl | hv8
      · exact hn1 k hk
      · have := hv8 k hk; omega
    have hv9 : v8 = .slice a m cp ∨ ∀ k, v8.ownBlock = some k → w.heap.size ≤ k := by
      rcases hv8 with rfl | hv8
      · exact hv0
      · exact .inr fun k hk => by have := hv8 k hk; omega
    clear hT6 hT7 hv8 B8 B7 q0 q1 m0 m1 r0 r1 z0 z1
    obtain ⟨⟨q0, q1⟩, ⟨m0, m1⟩, ⟨r0, r1, z0, z1⟩⟩ := hT8.cells
    obtain ⟨a8, m8, cp8, rfl⟩ := hR8.shape
    go_wp2
    have hx := (hT8.answer (.slice a8 m8 cp8) q.1.c).1
    have hB9 := (hB8.setCell (p := ⟨w.heap.size + 1, 0, none⟩) (by simp) (.slice a8 m8 cp8)).setCell (p := ⟨w.heap.size + 1, 1, none⟩) (by simp) (.int .i64 q.1.c)
    exact bodyPost_ret (v := .tuple #[.agg #[.slice a8 m8 cp8, .int .i64 q.1.c], .int .i64 q.2]) (by simp [results, Tryz.results192, go_sem, hx.1, hx.2]) rfl ⟨_, rfl, (hR8.setCell _ _ _ hne).setCell _ _ _ hne, hv9, hB9⟩
  · have hY := Rec.sets HT.out D2 hR5 (b := wa.heap.size) (hv5.imp id fun hv b hb => by have := hv b hb; simp at this; omega) (hv5.imp id fun hv b hb => by have := hv b hb; simp at this; have := D1.size; omega) hv00 D1.size hzz d0 d1
    generalize (wb.setCell ⟨wa.heap.size, 0, none⟩ (.slice a5 m5 cp5)).setCell ⟨wa.heap.size, 1, none⟩ (.int .i64 t.c) = W5 at hY ⊢
    generalize wa.heap.size = b5 at hY ⊢
    clear D0 D0A q0 q1 m0 m1 hR5 hv5
    have hB5 := HB.out.trans (hY.below.mono HB.out.size)
    obtain ⟨hn0, hn1, hv0⟩ := hY.ends hv00
    obtain ⟨⟨q0, q1⟩, ⟨m0, m1⟩, ⟨r0, r1, z0, z1⟩⟩ := hY.two.cells
    have x0 := hY.x0
    have x1 := hY.x1
    have y0 := frozen_at hY.two.H0 0
    have y1 := frozen_at hY.two.H0 1
    have qb := hY.blt
    have qg := hY.bge
    have hlt : t.L.length ≤ 100000 := by have := hFt.len; omega
    have hT6 := hY.two.put (.slice a5 m5 cp5) t.c
    have hR6 := (hY.files.setCell _ 0 (.slice a5 m5 cp5) hn0).setCell _ 1 (.int .i64 t.c) hn0
    have hB6 := (hB5.setCell (p := ⟨w.heap.size, 0, none⟩) (by simp) (.slice a5 m5 cp5)).setCell (p := ⟨w.heap.size, 1, none⟩) (by simp) (.int .i64 t.c)
    have hBo := (Below.refl w.heap.size W5)
    clear hBo
    go_wp2_with (go_at_call 102; refine (RMay_any _ _ t.c t.L p hp hlt hR6 hFt.sorted).mono ?_; rw [hn.out]; rintro e w7 ⟨rfl, B7⟩; have hT7 := hT6.below (B7.mono hT6.lt); have hB7 := hB6.trans (B7.mono hB6.size); have hR7 := hR6.below B7; obtain ⟨⟨q0, q1⟩, ⟨m0, m1⟩, ⟨r0, r1, z0, z1⟩⟩ := hT7.cells)
    refine (RPut_any _ _ t p ⟨#[]⟩ 0 true hlt hR7 hFt.c0 hFt.c1).mono ?_
    rw [show putA t ⟨bs p, bs ⟨#[]⟩, 0, true⟩ = q from hQ.out]
    rintro e w8 ⟨v8, rfl, hR8, hv8, B8⟩
    have hT8 := hT7.below (B8.mono hT7.lt)
    have hB8 := hB7.trans (B8.mono hB7.size)
    have hge := hT7.lt
    have hge2 := hB7.size
    have hne : ∀ k, v8.ownBlock = some k → k ≠ w.heap.size + 1 := fun k hk => by
      rcases hv8 with rfl | hv8
      · exact hn1 k hk
      · have := hv8 k hk; omega
    have hv9 : v8 = .slice a m cp ∨ ∀ k, v8.ownBlock = some k → w.heap.size ≤ k := by
      rcases hv8 with rfl | hv8
      · exact hv0
      · exact .inr fun k hk => by have := hv8 k hk; omega
    clear hT6 hT7 hv8 B8 B7 q0 q1 m0 m1 r0 r1 z0 z1
    obtain ⟨⟨q0, q1⟩, ⟨m0, m1⟩, ⟨r0, r1, z0, z1⟩⟩ := hT8.cells
    obtain ⟨a8, m8, cp8, rfl⟩ := hR8.shape
    go_wp2
    have hx := (hT8.answer (.slice a8 m8 cp8) q.1.c).1
    have hB9 := (hB8.setCell (p := ⟨w.heap.size + 1, 0, none⟩) (by simp) (.slice a8 m8 cp8)).setCell (p := ⟨w.heap.size + 1, 1, none⟩) (by simp) (.int .i64 q.1.c)
    exact bodyPost_ret (v := .tuple #[.agg #[.slice a8 m8 cp8, .int .i64 q.1.c], .int .i64 q.2]) (by simp [results, Tryz.results192, go_sem, hx.1, hx.2]) rfl ⟨_, rfl, (hR8.setCell _ _ _ hne).setCell _ _ _ hne, hv9, hB9⟩
  · have hY := Rec.sets HT.out D2 hR5 (b := w3.heap.size) (hv5.imp id fun hv b hb => by have := hv b hb; omega) (hv5.imp id fun hv b hb => by have := hv b hb; have := D1.size; omega) hv00 (Nat.le_refl _) (by have := Bb.size; omega) d0 d1
    generalize (wb.setCell ⟨w3.heap.size, 0, none⟩ (.slice a5 m5 cp5)).setCell ⟨w3.heap.size, 1, none⟩ (.int .i64 t.c) = W5 at hY ⊢
    generalize hb3 : w3.heap.size = b5 at hY ⊢
    clear hb3
    clear D0 D0A q0 q1 m0 m1 hR5 hv5
    have hB5 := HB.out.trans (hY.below.mono HB.out.size)
    obtain ⟨hn0, hn1, hv0⟩ := hY.ends hv00
    obtain ⟨⟨q0, q1⟩, ⟨m0, m1⟩, ⟨r0, r1, z0, z1⟩⟩ := hY.two.cells
    have x0 := hY.x0
    have x1 := hY.x1
    have y0 := frozen_at hY.two.H0 0
    have y1 := frozen_at hY.two.H0 1
    have qb := hY.blt
    have qg := hY.bge
    have hlt : t.L.length ≤ 100000 := by have := hFt.len; omega
    have hT6 := hY.two.put (.slice a5 m5 cp5) t.c
    have hR6 := (hY.files.setCell _ 0 (.slice a5 m5 cp5) hn0).setCell _ 1 (.int .i64 t.c) hn0
    have hB6 := (hB5.setCell (p := ⟨w.heap.size, 0, none⟩) (by simp) (.slice a5 m5 cp5)).setCell (p := ⟨w.heap.size, 1, none⟩) (by simp) (.int .i64 t.c)
    have hBo := (Below.refl w.heap.size W5)
    clear hBo
    go_wp2_with (go_at_call 102; refine (RMay_any _ _ t.c t.L p hp hlt hR6 hFt.sorted).mono ?_; rw [hn.out]; rintro e w7 ⟨rfl, B7⟩; have hT7 := hT6.below (B7.mono hT6.lt); have hB7 := hB6.trans (B7.mono hB6.size); have hR7 := hR6.below B7; obtain ⟨⟨q0, q1⟩, ⟨m0, m1⟩, ⟨r0, r1, z0, z1⟩⟩ := hT7.cells)
    refine (RPut_any _ _ t p ⟨#[]⟩ 0 true hlt hR7 hFt.c0 hFt.c1).mono ?_
    rw [show putA t ⟨bs p, bs ⟨#[]⟩, 0, true⟩ = q from hQ.out]
    rintro e w8 ⟨v8, rfl, hR8, hv8, B8⟩
    have hT8 := hT7.below (B8.mono hT7.lt)
    have hB8 := hB7.trans (B8.mono hB7.size)
    have hge := hT7.lt
    have hge2 := hB7.size
    have hne : ∀ k, v8.ownBlock = some k → k ≠ w.heap.size + 1 := fun k hk => by
      rcases hv8 with rfl | hv8
      · exact hn1 k hk
      · have := hv8 k hk; omega
    have hv9 : v8 = .slice a m cp ∨ ∀ k, v8.ownBlock = some k → w.heap.size ≤ k := by
      rcases hv8 with rfl | hv8
      · exact hv0
      · exact .inr fun k hk => by have := hv8 k hk; omega
    clear hT6 hT7 hv8 B8 B7 q0 q1 m0 m1 r0 r1 z0 z1
    obtain ⟨⟨q0, q1⟩, ⟨m0, m1⟩, ⟨r0, r1, z0, z1⟩⟩ := hT8.cells
    obtain ⟨a8, m8, cp8, rfl⟩ := hR8.shape
    go_wp2
    have hx := (hT8.answer (.slice a8 m8 cp8) q.1.c).1
    have hB9 := (hB8.setCell (p := ⟨w.heap.size + 1, 0, none⟩) (by simp) (.slice a8 m8 cp8)).setCell (p := ⟨w.heap.size + 1, 1, none⟩) (by simp) (.int .i64 q.1.c)
    exact bodyPost_ret (v := .tuple #[.agg #[.slice a8 m8 cp8, .int .i64 q.1.c], .int .i64 q.2]) (by simp [results, Tryz.results192, go_sem, hx.1, hx.2]) rfl ⟨_, rfl, (hR8.setCell _ _ _ hne).setCell _ _ _ hne, hv9, hB9⟩
end Go.Proofs.YteommneijlelkaaGreatDoor.Sw
namespace Go.Proofs.YteommneijlelkaaGreatDoor.Sw
open Go.RowKit Go.Proofs.YteommneijlelkaaGreatDoor Go.Maps
set_option maxRecDepth 100000

theorem put_fine {s : St} (h : Fine s) {p : List UInt8} (hp : p.length ≤ 100000) (h0 : placeA s.L p = 0) : Fine (putA s ⟨p, [], 0, true⟩).1 := by
  obtain ⟨P, x, k1, k2, k3, k4⟩ := place_ok h.sorted h0
  exact h.put (by simp) hp k4
theorem rMk_fine : ∀ (n : Nat) {s : St} {p : List UInt8}, Fine s → p.length ≤ 100000 → Fine (rMk n s p).1
  | 0, s, p, h, _ => h
  | n + 1, s, p, h, hp => by
    rw [rMk]
    split
    · exact h
    · rename_i hc
      split
      · split <;> exact h
      · have hd : (dirL p).length ≤ 100000 := Nat.le_trans (dirL_len p (List.length_pos_iff.2 (isPath_ne (by simpa using hc)))) hp
        have ih := rMk_fine n h hd
        split
        · exact ih
        · split
          · exact ih
          · rename_i h3
            exact put_fine ih hp (by simpa using h3)

theorem RMk_any : ∀ (n : Nat) (w : World) (v : Value) (s : St) (p : ByteArray), Fine s → p.size ≤ 100000 → RFiles w v s.L → 0 < n → (∀ P, AllGood P → bs p = Pt.text P → P.length < n) →
    Calls Tryz.prog 192 #[.agg #[v, .int .i64 s.c], .string p, .bool true] w (RPost w v (rMk n s (bs p)))
  | 0, _, _, _, _, _, _, _, h0, _ => absurd h0 (Nat.lt_irrefl _)
  | n + 1, w, v, s, p, hF, hp, h, _, hP => by
    have hl : s.L.length ≤ 100000 := by have := hF.len; omega
    have hp9 : p.size ≤ 900000 := by omega
    rw [rMk]
    cases hc : isPath (bs p) with
    | false => exact RMkdir_bad w v s p ⟨#[]⟩ ⟨#[]⟩ 0 true hF hp9 h (Lib.hid hc)
    | true =>
      rw [if_neg (by decide)]
      cases hg : getR s.L (bs p) with
      | some f =>
        obtain ⟨fp, ft, fc, fd⟩ := f
        have hG := fun W v hf => RGet_yes W v s.c p hl hf hF.sorted (Lib.hid hg)
        cases fd with
        | true => exact RMkdir_there w v s p (str fp) (str ft) fc true hF hp9 h (Lib.hid hc) hG
        | false => exact RMkdir_file w v s p (str fp) (str ft) fc true hF hp9 h (Lib.hid hc) hG
      | none =>
        have hG := fun W v hf => RGet_no W v s.c p hl hf hF.sorted (Lib.hid hg)
        obtain ⟨P, hgood, hpP⟩ := path_iff.1 hc
        obtain ⟨Q, x, rfl⟩ := snoc_of (P := P) (by rintro rfl; rw [hpP] at hg; cases hg)
        have hlen := hP _ hgood hpP
        have hdQ : dirL (bs p) = Pt.text Q := by rw [hpP, dirL_snoc hgood]
        have hdl : (dirL (bs p)).length ≤ (bs p).length := dirL_len _ (List.length_pos_iff.2 (isPath_ne hc))
        have hds : (str (dirL (bs p))).size ≤ 100000 := by rw [str_len]; rw [bs_len] at hdl; omega
        have hd : dirL (bs p) = bs (str (dirL (bs p))) := rfl
        have ih := fun W (hB : Below w.heap.size w W) => RMk_any n W v s (str (dirL (bs p))) hF hds (h.below hB) (by simp at hlen; omega) (fun P' hg' e => by
          rw [← hd, hdQ] at e
          rw [← text_inj hgood.cut hg' e]
          simp at hlen; omega)
        have hFt : Fine (rMk n s (dirL (bs p))).1 := rMk_fine n hF (by rw [bs_len] at hdl; omega)
        rw [← hd] at ih
        dsimp only
        generalize rMk n s (dirL (bs p)) = r at ih hFt ⊢
        obtain ⟨t, e⟩ := r
        dsimp only at ih hFt ⊢
        by_cases h1 : e = 0
        · subst h1
          rw [if_neg (by simp)]
          by_cases h2 : placeA t.L (bs p) = 0
          · rw [if_neg (by simp [h2])]
            exact RMkdir_rec w v s p (str noF.p) (str noF.t) noF.c true hF hp9 h (Lib.hid hc) (str (dirL (bs p))) (Lib.hid hd) t hFt ih (Lib.hid h2) hG
          · rw [if_pos h2]
            exact RMkdir_rec_no w v s p (str noF.p) (str noF.t) noF.c true hF hp9 h (Lib.hid hc) (str (dirL (bs p))) (Lib.hid hd) t hFt ih _ (Lib.hid rfl) h2 hG
        · rw [if_pos h1]
          exact RMkdir_rec_bad w v s p (str noF.p) (str noF.t) noF.c true hF hp9 h (Lib.hid hc) (str (dirL (bs p))) (Lib.hid hd) t e ih h1 hG

theorem RMkdir_any (w : World) (v : Value) (s : St) (p : ByteArray) (all : Bool) (hF : Fine s) (hC : Closed s.L) (hp : p.size ≤ 100000) (h : RFiles w v s.L) :
    Calls Tryz.prog 192 #[.agg #[v, .int .i64 s.c], .string p, .bool all] w (RPost w v (mkdirA s (bs p) all)) := by
  have hl : s.L.length ≤ 100000 := by have := hF.len; omega
  have hp9 : p.size ≤ 900000 := by omega
  rw [← mkdir_eq hC hF.sorted (p.size + 1) (bs p) all (by rw [bs_len]; omega)]
  unfold rMkdir
  cases all with
  | true =>
    rw [if_pos rfl]
    refine RMk_any _ w v s p hF hp h (by omega) fun P hg e => ?_
    have := parts_lt hg
    rw [← e, bs_len] at this
    omega
  | false =>
    rw [if_neg (by decide)]
    cases hc : isPath (bs p) with
    | false => exact RMkdir_bad w v s p ⟨#[]⟩ ⟨#[]⟩ 0 false hF hp9 h (Lib.hid hc)
    | true =>
      rw [if_neg (by decide)]
      unfold mk1
      cases hg : getR s.L (bs p) with
      | some f =>
        obtain ⟨fp, ft, fc, fd⟩ := f
        have hG := fun W v hf => RGet_yes W v s.c p hl hf hF.sorted (Lib.hid hg)
        dsimp only
        rw [if_neg (by simp)]
        cases fd with
        | true => exact RMkdir_dir w v s p (str fp) (str ft) fc false hF hp9 h (Lib.hid hc) hG
        | false => exact RMkdir_file w v s p (str fp) (str ft) fc false hF hp9 h (Lib.hid hc) hG
      | none =>
        have hG := fun W v hf => RGet_no W v s.c p hl hf hF.sorted (Lib.hid hg)
        dsimp only
        by_cases h2 : placeA s.L (bs p) = 0
        · rw [if_neg (by simp [h2])]
          exact RMkdir_one w v s p (str noF.p) (str noF.t) noF.c false hF hp9 h (Lib.hid hc) (Lib.hid h2) hG
        · rw [if_pos h2]
          exact RMkdir_one_no w v s p (str noF.p) (str noF.t) noF.c false hF hp9 h (Lib.hid hc) _ (Lib.hid rfl) h2 hG
end Go.Proofs.YteommneijlelkaaGreatDoor.Sw
namespace Go.Proofs.YteommneijlelkaaGreatDoor.Sw
open Go.RowKit Go.Proofs.YteommneijlelkaaGreatDoor Go.Maps
set_option maxRecDepth 100000

set_option maxHeartbeats 1000000 in
theorem RMove_read (w : World) (v : Value) (s : St) (p q tx : ByteArray) (n : Int) (hF : Fine s) (_hp : p.size ≤ 900000) (_hq : q.size ≤ 900000) (h : RFiles w v s.L) (hR : Hid (readA (getR s.L (bs p)) = (bs tx, n))) (h0 : ¬ n = 0) :
    Calls Tryz.prog 143 #[.agg #[v, .int .i64 s.c], .string p, .string q] w (RPost w v (s, n)) := by
  obtain ⟨a, m, cp, rfl⟩ := h.shape
  obtain ⟨L, c⟩ := s
  have hl : L.length ≤ 100000 := by have := hF.len; simp at this; omega
  have hBa := fun x y => ((Below.refl w.heap.size w).alloc (Nat.le_refl _) x).alloc (by simp) y
  have hT := Two.new w (.slice a m cp) c
  go_enter Tryz.func143, Tryz.ntmps143
  go_wp2_with (go_at_call 94; refine (RRead_any _ _ c p _ hl (h.below (hBa _ _)).files hF.sorted (Lib.hid rfl)).mono ?_; rw [hR.out]; rintro e w1 ⟨rfl, B1⟩; have hT1 := hT.below (B1.mono (by simp)); have hB1 := (hBa _ _).trans (B1.mono (hBa _ _).size); obtain ⟨⟨q0, q1⟩, ⟨m0, m1⟩, ⟨r0, r1, z0, z1⟩⟩ := hT1.cells)
  have hB3 := (hB1.setCell (p := ⟨w.heap.size + 1, 0, none⟩) (by simp) (.slice a m cp)).setCell (p := ⟨w.heap.size + 1, 1, none⟩) (by simp) (.int .i64 c)
  have hx := (hT1.answer (.slice a m cp) c).1
  exact bodyPost_ret (v := .tuple #[.agg #[.slice a m cp, .int .i64 c], .int .i64 n]) (by simp [results, Tryz.results143, go_sem, hx.1, hx.2]) rfl ⟨_, rfl, h.below hB3, .inl rfl, hB3⟩

set_option maxHeartbeats 1000000 in
theorem RMove_same (w : World) (v : Value) (s : St) (p q tx : ByteArray) (n : Int) (hF : Fine s) (_hp : p.size ≤ 900000) (_hq : q.size ≤ 900000) (h : RFiles w v s.L) (hR : Hid (readA (getR s.L (bs p)) = (bs tx, n))) (h0 : n = 0) (hpq : (p.toList == q.toList) = true) :
    Calls Tryz.prog 143 #[.agg #[v, .int .i64 s.c], .string p, .string q] w (RPost w v (s, 1)) := by
  subst h0
  obtain ⟨a, m, cp, rfl⟩ := h.shape
  obtain ⟨L, c⟩ := s
  have hl : L.length ≤ 100000 := by have := hF.len; simp at this; omega
  have hBa := fun x y => ((Below.refl w.heap.size w).alloc (Nat.le_refl _) x).alloc (by simp) y
  have hT := Two.new w (.slice a m cp) c
  go_enter Tryz.func143, Tryz.ntmps143
  go_wp2_with (go_at_call 94; refine (RRead_any _ _ c p _ hl (h.below (hBa _ _)).files hF.sorted (Lib.hid rfl)).mono ?_; rw [hR.out]; rintro e w1 ⟨rfl, B1⟩; have hT1 := hT.below (B1.mono (by simp)); have hB1 := (hBa _ _).trans (B1.mono (hBa _ _).size); obtain ⟨⟨q0, q1⟩, ⟨m0, m1⟩, ⟨r0, r1, z0, z1⟩⟩ := hT1.cells)
  have hB3 := (hB1.setCell (p := ⟨w.heap.size + 1, 0, none⟩) (by simp) (.slice a m cp)).setCell (p := ⟨w.heap.size + 1, 1, none⟩) (by simp) (.int .i64 c)
  have hx := (hT1.answer (.slice a m cp) c).1
  exact bodyPost_ret (v := .tuple #[.agg #[.slice a m cp, .int .i64 c], .int .i64 1]) (by simp [results, Tryz.results143, go_sem, hx.1, hx.2]) rfl ⟨_, rfl, h.below hB3, .inl rfl, hB3⟩

set_option maxHeartbeats 1000000 in
theorem RMove_write (w : World) (v : Value) (s : St) (p q tx : ByteArray) (n : Int) (hF : Fine s) (_hp : p.size ≤ 900000) (hq : q.size ≤ 900000) (h : RFiles w v s.L) (hR : Hid (readA (getR s.L (bs p)) = (bs tx, n))) (h0 : n = 0) (hpq : (p.toList == q.toList) = false) (htx : tx.size ≤ 1048576) (t : St) (k : Int) (hW : Hid (writeA s (bs q) (bs tx) false = (t, k))) (hk : ¬ k = 0) :
    Calls Tryz.prog 143 #[.agg #[v, .int .i64 s.c], .string p, .string q] w (RPost w v (s, k)) := by
  subst h0
  obtain ⟨a, m, cp, rfl⟩ := h.shape
  obtain ⟨L, c⟩ := s
  have hl : L.length ≤ 100000 := by have := hF.len; simp at this; omega
  have hBa := fun x y => ((Below.refl w.heap.size w).alloc (Nat.le_refl _) x).alloc (by simp) y
  have hT := Two.new w (.slice a m cp) c
  go_enter Tryz.func143, Tryz.ntmps143
  go_wp2_with (first | (go_at_call 94; refine (RRead_any _ _ c p _ hl (h.below (hBa _ _)).files hF.sorted (Lib.hid rfl)).mono ?_; rw [hR.out]; rintro e w1 ⟨rfl, B1⟩; have hT1 := hT.below (B1.mono (by simp)); have hB1 := (hBa _ _).trans (B1.mono (hBa _ _).size); obtain ⟨⟨q0, q1⟩, ⟨m0, m1⟩, ⟨r0, r1, z0, z1⟩⟩ := hT1.cells) | (go_at_call 59; refine (RWrite_any _ _ ⟨L, c⟩ q tx false hF hq htx (h.below hB1)).mono ?_; rw [hW.out]; rintro e w2 ⟨v5, rfl, hR5, hv5, B2⟩; obtain ⟨a5, m5, cp5, rfl⟩ := hR5.shape; have hT2 := hT1.below (B2.mono hT1.lt); have hB2 := hB1.trans (B2.mono hB1.size); obtain ⟨⟨q0, q1⟩, ⟨m0, m1⟩, ⟨r0, r1, z0, z1⟩⟩ := hT2.cells))
  have hB3 := ((hB2.setCell (p := ⟨w.heap.size + 1, 0, none⟩) (by simp) (.slice a m cp)).setCell (p := ⟨w.heap.size + 1, 1, none⟩) (by simp) (.int .i64 c)).alloc ((hB2.setCell (p := ⟨w.heap.size + 1, 0, none⟩) (by simp) (.slice a m cp)).setCell (p := ⟨w.heap.size + 1, 1, none⟩) (by simp) (.int .i64 c)).size (.cells #[.slice a5 m5 cp5, .int .i64 t.c] 34)
  have hx := (hT2.answer (.slice a m cp) c).2 (.cells #[.slice a5 m5 cp5, .int .i64 t.c] 34)
  exact bodyPost_ret (v := .tuple #[.agg #[.slice a m cp, .int .i64 c], .int .i64 k]) (by simp [results, Tryz.results143, go_sem, hx.1, hx.2]) rfl ⟨_, rfl, h.below hB3, .inl rfl, hB3⟩

set_option maxHeartbeats 1000000 in
theorem RMove_rem (w : World) (v : Value) (s : St) (p q tx : ByteArray) (n : Int) (hF : Fine s) (_hp : p.size ≤ 900000) (hq : q.size ≤ 900000) (h : RFiles w v s.L) (hR : Hid (readA (getR s.L (bs p)) = (bs tx, n))) (h0 : n = 0) (hpq : (p.toList == q.toList) = false) (htx : tx.size ≤ 1048576) (t : St) (k : Int) (hW : Hid (writeA s (bs q) (bs tx) false = (t, k))) (hk : k = 0)
    (hRem : ∀ W v, RFiles W v t.L → Calls Tryz.prog 190 #[.agg #[v, .int .i64 t.c], .string p, .bool false] W (RPost W v (rRemove t (bs p) false))) :
    Calls Tryz.prog 143 #[.agg #[v, .int .i64 s.c], .string p, .string q] w (RPost w v (rRemove t (bs p) false)) := by
  subst h0
  subst hk
  obtain ⟨a, m, cp, rfl⟩ := h.shape
  obtain ⟨L, c⟩ := s
  have hl : L.length ≤ 100000 := by have := hF.len; simp at this; omega
  have hBa := fun x y => ((Below.refl w.heap.size w).alloc (Nat.le_refl _) x).alloc (by simp) y
  have hT := Two.new w (.slice a m cp) c
  go_enter Tryz.func143, Tryz.ntmps143
  go_wp2_with (first | (go_at_call 94; refine (RRead_any _ _ c p _ hl (h.below (hBa _ _)).files hF.sorted (Lib.hid rfl)).mono ?_; rw [hR.out]; rintro e w1 ⟨rfl, B1⟩; have hT1 := hT.below (B1.mono (by simp)); have hB1 := (hBa _ _).trans (B1.mono (hBa _ _).size); obtain ⟨⟨q0, q1⟩, ⟨m0, m1⟩, ⟨r0, r1, z0, z1⟩⟩ := hT1.cells) | (go_at_call 59; refine (RWrite_any _ _ ⟨L, c⟩ q tx false hF hq htx (h.below hB1)).mono ?_; rw [hW.out]; rintro e w2 ⟨v5, rfl, hR5, hv5, B2⟩; obtain ⟨a5, m5, cp5, rfl⟩ := hR5.shape; have hT2 := hT1.below (B2.mono hT1.lt); have hB2 := hB1.trans (B2.mono hB1.size); obtain ⟨⟨q0, q1⟩, ⟨m0, m1⟩, ⟨r0, r1, z0, z1⟩⟩ := hT2.cells))
  have hB3 := hB2.alloc hB2.size (.cells #[.slice a5 m5 cp5, .int .i64 t.c] 34)
  have hT3 := hT2.below ((Below.refl (w.heap.size + 2) w2).alloc hT2.lt (.cells #[.slice a5 m5 cp5, .int .i64 t.c] 34))
  have hR3 := hR5.below ((Below.refl _ _).alloc (Nat.le_refl _) (.cells #[.slice a5 m5 cp5, .int .i64 t.c] 34))
  refine (hRem _ _ hR3).mono ?_
  rintro e w4 ⟨v4, rfl, hR4, hv4, B4⟩
  have hT4 := hT3.below (B4.mono hT3.lt)
  have hB4 := hB3.trans (B4.mono hB3.size)
  have hb1 := hB1.size
  have hl1 := hT1.lt
  have hl3 := hT3.lt
  have hb3 := hB3.size
  have hlo := h.lt
  have hne : ∀ b, v4.ownBlock = some b → b ≠ w.heap.size + 1 := fun b hb => by
    rcases hv4 with rfl | hv4
    · rcases hv5 with e | hv5
      · have := hlo b (by rw [← e]; exact hb); omega
      · have := hv5 b hb; omega
    · have := hv4 b hb; omega
  have hv0 : v4 = .slice a m cp ∨ ∀ b, v4.ownBlock = some b → w.heap.size ≤ b := by
    rcases hv4 with rfl | hv4
    · rcases hv5 with e | hv5
      · exact .inl e
      · exact .inr fun b hb => by have := hv5 b hb; omega
    · exact .inr fun b hb => by have := hv4 b hb; omega
  clear hT hT1 hT2 hT3 hv4 hv5 B4 B2 B1 q0 q1 m0 m1 r0 r1 z0 z1
  obtain ⟨⟨q0, q1⟩, ⟨m0, m1⟩, ⟨r0, r1, z0, z1⟩⟩ := hT4.cells
  obtain ⟨a4, m4, cp4, rfl⟩ := hR4.shape
  go_wp2
  have hx := (hT4.answer (.slice a4 m4 cp4) (rRemove t (bs p) false).1.c).1
  have hB5 := (hB4.setCell (p := ⟨w.heap.size + 1, 0, none⟩) (by simp) (.slice a4 m4 cp4)).setCell (p := ⟨w.heap.size + 1, 1, none⟩) (by simp) (.int .i64 (rRemove t (bs p) false).1.c)
  exact bodyPost_ret (v := .tuple #[.agg #[.slice a4 m4 cp4, .int .i64 (rRemove t (bs p) false).1.c], .int .i64 (rRemove t (bs p) false).2]) (by simp [results, Tryz.results143, go_sem, hx.1, hx.2]) rfl ⟨_, rfl, (hR4.setCell _ _ _ hne).setCell _ _ _ hne, hv0, hB5⟩

theorem RMove_any (w : World) (v : Value) (s : St) (p q : ByteArray) (hF : Fine s) (hC : Closed s.L) (hp : p.size ≤ 100000) (hq : q.size ≤ 100000) (h : RFiles w v s.L)
    (hRem : ∀ W v t, Fine t → RFiles W v t.L → Calls Tryz.prog 190 #[.agg #[v, .int .i64 t.c], .string p, .bool false] W (RPost W v (rRemove t (bs p) false))) :
    Calls Tryz.prog 143 #[.agg #[v, .int .i64 s.c], .string p, .string q] w (RPost w v (moveA s (bs p) (bs q))) := by
  have hp9 : p.size ≤ 900000 := by omega
  have hq9 : q.size ≤ 900000 := by omega
  have htl := read_len hF (bs p)
  rw [← move_eq hC hF.sorted]
  unfold rMove
  rcases hr : readA (getR s.L (bs p)) with ⟨tx, n⟩
  rw [hr] at htl
  have hR : readA (getR s.L (bs p)) = (bs (str tx), n) := hr
  have htx : (str tx).size ≤ 1048576 := by rw [str_len]; exact htl
  dsimp only
  by_cases h0 : n = 0
  · rw [if_neg (by simp [h0])]
    by_cases he : bs p = bs q
    · rw [if_pos he]
      exact RMove_same w v s p q (str tx) n hF hp9 hq9 h (Lib.hid hR) h0 (by rw [Lib.toList_data, Lib.toList_data]; exact beq_iff_eq.2 he)
    · rw [if_neg he]
      have hpq : (p.toList == q.toList) = false := by rw [Lib.toList_data, Lib.toList_data, beq_eq_false_iff_ne]; exact he
      have hFt := hF.write (p := bs q) (t := tx) (by rw [bs_len]; exact hq) false
      rcases hw : writeA s (bs q) tx false with ⟨t, k⟩
      rw [hw] at hFt
      have hW : writeA s (bs q) (bs (str tx)) false = (t, k) := hw
      dsimp only
      by_cases hk : k = 0
      · rw [if_neg (by simp [hk])]
        exact RMove_rem w v s p q (str tx) n hF hp9 hq9 h (Lib.hid hR) h0 hpq htx t k (Lib.hid hW) hk (fun W v hf => hRem W v t hFt hf)
      · rw [if_pos hk]
        exact RMove_write w v s p q (str tx) n hF hp9 hq9 h (Lib.hid hR) h0 hpq htx t k (Lib.hid hW) hk
  · rw [if_pos h0]
    exact RMove_read w v s p q (str tx) n hF hp9 hq9 h (Lib.hid hR) h0
end Go.Proofs.YteommneijlelkaaGreatDoor.Sw
namespace Go.Proofs.YteommneijlelkaaGreatDoor.Sw
open Go.RowKit Go.Proofs.YteommneijlelkaaGreatDoor Go.Maps
set_option maxRecDepth 100000

set_option maxHeartbeats 2000000 in
theorem RRemove_root (w : World) (v : Value) (s : St) (p _gp _gt : ByteArray) (_gc : Int) (_gd all : Bool) (hF : Fine s) (_hp : p.size ≤ 100000) (h : RFiles w v s.L) (h0 : (p.toList == [46]) = true) :
    Calls Tryz.prog 190 #[.agg #[v, .int .i64 s.c], .string p, .bool all] w (RPost w v (s, 1)) := by
  obtain ⟨a, m, cp, rfl⟩ := h.shape
  obtain ⟨L, c⟩ := s
  have hl : L.length ≤ 100000 := by have := hF.len; simp at this; omega
  have hBa := fun x y => ((Below.refl w.heap.size w).alloc (Nat.le_refl _) x).alloc (by simp) y
  have hT := Two.new w (.slice a m cp) c
  go_enter Tryz.func190, Tryz.ntmps190
  go_wp2
  exact bodyPost_ret (v := .tuple #[.agg #[.slice a m cp, .int .i64 c], .int .i64 1]) (by simp [results, Tryz.results190, go_sem]) rfl ⟨_, rfl, h.below (hBa _ _), .inl rfl, hBa _ _⟩

set_option maxHeartbeats 2000000 in
theorem RRemove_none (w : World) (v : Value) (s : St) (p gp gt : ByteArray) (gc : Int) (gd all : Bool) (hF : Fine s) (_hp : p.size ≤ 100000) (h : RFiles w v s.L) (h0 : (p.toList == [46]) = false)
    (hG : ∀ W v, Files W v s.L → Calls Tryz.prog 10 #[.agg #[v, .int .i64 s.c], .string p] W fun e w' => e = .returned (.tuple #[.agg #[.string gp, .string gt, .int .i64 gc, .bool gd], .bool false]) ∧ Below W.heap.size W w') :
    Calls Tryz.prog 190 #[.agg #[v, .int .i64 s.c], .string p, .bool all] w (RPost w v (s, 3)) := by
  obtain ⟨a, m, cp, rfl⟩ := h.shape
  obtain ⟨L, c⟩ := s
  have hl : L.length ≤ 100000 := by have := hF.len; simp at this; omega
  have hBa := fun x y => ((Below.refl w.heap.size w).alloc (Nat.le_refl _) x).alloc (by simp) y
  have hT := Two.new w (.slice a m cp) c
  go_enter Tryz.func190, Tryz.ntmps190
  go_wp2_with (go_at_call 10; refine (hG _ _ (h.below (hBa _ _)).files).mono ?_; rintro e w1 ⟨rfl, B1⟩; have hT1 := hT.below (B1.mono (by simp)); have hB1 := (hBa _ _).trans (B1.mono (hBa _ _).size); obtain ⟨⟨q0, q1⟩, ⟨m0, m1⟩, ⟨r0, r1, z0, z1⟩⟩ := hT1.cells)
  have hB3 := ((hB1.setCell (p := ⟨w.heap.size + 1, 0, none⟩) (by simp) (.slice a m cp)).setCell (p := ⟨w.heap.size + 1, 1, none⟩) (by simp) (.int .i64 c)).alloc ((hB1.setCell (p := ⟨w.heap.size + 1, 0, none⟩) (by simp) (.slice a m cp)).setCell (p := ⟨w.heap.size + 1, 1, none⟩) (by simp) (.int .i64 c)).size (.cells #[.string gp, .string gt, .int .i64 gc, .bool gd] 44)
  have hx := (hT1.answer (.slice a m cp) c).2 (.cells #[.string gp, .string gt, .int .i64 gc, .bool gd] 44)
  exact bodyPost_ret (v := .tuple #[.agg #[.slice a m cp, .int .i64 c], .int .i64 3]) (by simp [results, Tryz.results190, go_sem, hx.1, hx.2]) rfl ⟨_, rfl, h.below hB3, .inl rfl, hB3⟩

def RemRel (w2 : World) (L : List F) (p : List UInt8) (v10 v11 v12 : Value) (wr : World) : Prop :=
  ∃ k : Nat, k ≤ L.length ∧ v12 = .int .i64 k ∧ v11 = .int .i64 (((L.take k).filter fun g => inR g.p p).length : Nat) ∧
    wr.ownsRow w2.heap.size 44 4 v10 ((L.take k).filter fun g => !inR g.p p).length (fCs ((L.take k).filter fun g => !inR g.p p)) ∧ (((L.take k).filter fun g => !inR g.p p) = [] → v10 = .slice none 0 0) ∧ Below w2.heap.size w2 wr

theorem owns_below {wr w3 : World} {base : Nat} {e : TypeId} {z : Nat} {v : Value} {n : Nat} {xs : List Value} (h : wr.ownsRow base e z v n xs) (B : Below wr.heap.size wr w3) : w3.ownsRow base e z v n xs := by
  refine ⟨h.1, ?_⟩
  rcases h.2 with h | ⟨g, cap, cur, h1, h2, h3, h4⟩
  · exact .inl h
  · exact .inr ⟨g, cap, cur, h1, h2, (B.block g (Array.getElem?_eq_some_iff.1 h3).1).trans h3, h4⟩
theorem Two.put0 {W : World} {n : Nat} {v : Value} {c : Int} (h : Two W n v c) (v' : Value) : Two (W.setCell ⟨n, 0, none⟩ v') n v' c := by
  have hc := h.H0
  refine ⟨by simpa [World.setCell] using h.lt, by simp [World.setCell, Array.getElem?_modify, hc], ?_⟩
  rw [heap_setCell_other _ _ _ _ (by simp)]
  exact h.H1
theorem RIn_is (w : World) (f : List UInt8) (p : ByteArray) (b : Bool) (hf : f.length ≤ 100000) (hp : p.size ≤ 100000) (h : Hid (inR f (bs p) = b)) :
    Calls Tryz.prog 214 #[.string (str f), .string p] w fun e w' => e = .returned (.bool b) ∧ Below w.heap.size w w' := by
  have := RIn_any w (str f) p (by rw [str_len]; omega) (by omega)
  have e : (Pt.parts (bs p)).isPrefixOf (Pt.parts (bs (str f))) = b := h.out
  rwa [e] at this

theorem rem_in {w2 : World} {L : List F} {p : List UInt8} {v10 : Value} {wr w3 : World} {k : Nat} (hk : k < L.length) (hi : inR L[k].p p = true)
    (ho : wr.ownsRow w2.heap.size 44 4 v10 ((L.take k).filter fun g => !inR g.p p).length (fCs ((L.take k).filter fun g => !inR g.p p))) (hnil : ((L.take k).filter fun g => !inR g.p p) = [] → v10 = .slice none 0 0) (hB : Below w2.heap.size w2 wr) (B3 : Below wr.heap.size wr w3) :
    RemRel w2 L p v10 (.int .i64 ((((L.take k).filter fun g => inR g.p p).length : Nat) + 1)) (.int .i64 ((k : Int) + 1)) w3 := by
  have e1 : (L.take (k + 1)).filter (fun g => !inR g.p p) = (L.take k).filter fun g => !inR g.p p := by
    rw [List.take_succ_eq_append_getElem hk, List.filter_append]; simp [hi]
  have e2 : (L.take (k + 1)).filter (fun g => inR g.p p) = ((L.take k).filter fun g => inR g.p p) ++ [L[k]] := by
    rw [List.take_succ_eq_append_getElem hk, List.filter_append]; simp [hi]
  refine ⟨k + 1, hk, by simp, by rw [e2]; simp, ?_, by rw [e1]; exact hnil, hB.trans (B3.mono hB.size)⟩
  rw [e1]
  exact owns_below ho B3

theorem rem_out {w2 : World} {L : List F} {p : List UInt8} {v' : Value} {w' : World} {k : Nat} (hk : k < L.length) (hi : inR L[k].p p = false)
    (ho : w'.ownsRow w2.heap.size 44 4 v' (((L.take k).filter fun g => !inR g.p p).length + 1) (fCs ((L.take k).filter fun g => !inR g.p p) ++ [.string (str L[k].p), .string (str L[k].t), .int .i64 L[k].c, .bool L[k].d])) (hB : Below w2.heap.size w2 w') :
    RemRel w2 L p v' (.int .i64 (((L.take k).filter fun g => inR g.p p).length : Nat)) (.int .i64 ((k : Int) + 1)) w' := by
  have e1 : (L.take (k + 1)).filter (fun g => !inR g.p p) = ((L.take k).filter fun g => !inR g.p p) ++ [L[k]] := by
    rw [List.take_succ_eq_append_getElem hk, List.filter_append]; simp [hi]
  have e2 : (L.take (k + 1)).filter (fun g => inR g.p p) = (L.take k).filter fun g => inR g.p p := by
    rw [List.take_succ_eq_append_getElem hk, List.filter_append]; simp [hi]
  refine ⟨k + 1, hk, by simp, by rw [e2], ?_, by rw [e1]; simp, hB⟩
  rw [e1, List.length_append, fCs_app]
  exact ho

set_option maxHeartbeats 2000000 in
theorem RRemove_some (w : World) (v : Value) (s : St) (p gp gt : ByteArray) (gc : Int) (gd all : Bool) (hF : Fine s) (hp : p.size ≤ 100000) (h : RFiles w v s.L) (h0 : (p.toList == [46]) = false)
    (hG : ∀ W v, Files W v s.L → Calls Tryz.prog 10 #[.agg #[v, .int .i64 s.c], .string p] W fun e w' => e = .returned (.tuple #[.agg #[.string gp, .string gt, .int .i64 gc, .bool gd], .bool true]) ∧ Below W.heap.size W w') :
    Calls Tryz.prog 190 #[.agg #[v, .int .i64 s.c], .string p, .bool all] w (RPost w v (if gd = true ∧ all = false ∧ 1 < (s.L.filter fun g => inR g.p (bs p)).length then (s, 4) else (⟨s.L.filter fun g => !inR g.p (bs p), s.c⟩, 0))) := by
  obtain ⟨a, m, cp, rfl⟩ := h.shape
  obtain ⟨L, c⟩ := s
  have hl : L.length ≤ 100000 := by have := hF.len; simp at this; omega
  have hBa := fun x y => ((Below.refl w.heap.size w).alloc (Nat.le_refl _) x).alloc (by simp) y
  have hT := Two.new w (.slice a m cp) c
  obtain ⟨i0, hi, hz0, hz1, hz2⟩ := info_parts infoF
  obtain rfl : m = L.length := by
    rcases h with ⟨rfl, e⟩ | ⟨_, _, _, e, _⟩ <;> (cases e; rfl)
  go_enter Tryz.func190, Tryz.ntmps190
  go_wp2_with (go_at_call 10; refine (hG _ _ (h.below (hBa _ _)).files).mono ?_; rintro e w1 ⟨rfl, B1⟩; have hT1 := hT.below (B1.mono (by simp)); have hB1 := (hBa _ _).trans (B1.mono (hBa _ _).size); obtain ⟨⟨q0, q1⟩, ⟨m0, m1⟩, ⟨r0, r1, z0, z1⟩⟩ := hT1.cells)
  have hBf := hB1.alloc hB1.size (.cells #[.string gp, .string gt, .int .i64 gc, .bool gd] 44)
  have hTf := hT1.below ((Below.refl (w.heap.size + 2) w1).alloc hT1.lt (.cells #[.string gp, .string gt, .int .i64 gc, .bool gd] 44))
  have hx3 : (w1.alloc (.cells #[.string gp, .string gt, .int .i64 gc, .bool gd] 44)).cell? ⟨w1.heap.size, 3, none⟩ = some (.bool gd) := cell_at (heap_new w1 (.cells #[.string gp, .string gt, .int .i64 gc, .bool gd] 44) rfl) rfl
  have hbf : w1.heap.size < (w1.alloc (.cells #[.string gp, .string gt, .int .i64 gc, .bool gd] 44)).heap.size := by simp
  generalize w1.alloc (.cells #[.string gp, .string gt, .int .i64 gc, .bool gd] 44) = w2 at *
  generalize w1.heap.size = bf at *
  clear B1 hT hT1 hB1 q0 q1 m0 m1 r0 r1 z0 z1 hG hBa
  have HW : Hid (∀ W, Below w2.heap.size w2 W → (W.cell? ⟨w.heap.size, 0, none⟩ = some (.slice a L.length cp) ∧ W.cell? ⟨w.heap.size, 1, none⟩ = some (.int .i64 c) ∧ W.cell? ⟨bf, 3, none⟩ = some (.bool gd))) := Lib.hid fun W hB => by
    have := (hTf.below (hB.mono hTf.lt)).cells
    exact ⟨this.2.1.1, this.2.1.2, (hB.cell (p := ⟨bf, 3, none⟩) hbf).trans hx3⟩
  go_loopw [10, 11, 12] (fun v10 v11 v12 wr => RemRel w2 L (bs p) v10 v11 v12 wr) (fun _ _ v _ => L.length - (intOf v).toNat)
  case atStart => exact ⟨0, Nat.zero_le _, rfl, rfl, World.ownsRow_nil _ _ _ _, fun _ => rfl, Below.refl _ _⟩
  case round =>
    obtain ⟨k, hk, rfl, rfl, ho, hnil, hB⟩ := hrel
    obtain ⟨g0, g1, g3⟩ := HW.out wr hB
    by_cases hlt : k < L.length
    · rcases h with ⟨rfl, _⟩ | ⟨_, b, cp', e, h2, h3, h4⟩
      · exact absurd hlt (by simp)
      cases e
      have HC : Hid (∀ W, Below wr.heap.size wr W → (W.cell? ⟨b, k * 4, none⟩ = some (.string (str L[k].p)) ∧ W.cell? ⟨b, k * 4 + 1, none⟩ = some (.string (str L[k].t)) ∧ W.cell? ⟨b, k * 4 + 2, none⟩ = some (.int .i64 L[k].c) ∧ W.cell? ⟨b, k * 4 + 3, none⟩ = some (.bool L[k].d))) := Lib.hid fun W hBW => by
        have hBB := hBf.trans ((hB.trans (hBW.mono hB.size)).mono hBf.size)
        have e : ∀ i u, i < 4 → (fC L[k])[i]? = some u → W.cell? ⟨b, k * 4 + i, none⟩ = some u := fun i u hi hu => (hBB.cell (p := ⟨b, k * 4 + i, none⟩) h3).trans (h4 _ u (by rw [rfCs_get hlt hi]; exact hu))
        exact ⟨e 0 _ (by decide) rfl, e 1 _ (by decide) rfl, e 2 _ (by decide) rfl, e 3 _ (by decide) rfl⟩
      obtain ⟨x0, x1, x2, x3⟩ := HC.out wr (Below.refl _ _)
      have HP : Hid (L[k].p.length ≤ 100000) := Lib.hid (hF.path _ (List.getElem_mem hlt))
      have hki : (k : Int) < L.length := by omega
      cases hin : inR L[k].p (bs p) with
      | true =>
        have HI := Lib.hid hin
        have HO := Lib.hid ho
        have HNil := Lib.hid hnil
        clear hin ho hnil h4 hx3 hTf
        have hcn : (((L.take k).filter fun g => inR g.p (bs p)).length : Nat) ≤ 100000 := by
          have h1 := List.length_filter_le (fun g => inR g.p (bs p)) (L.take k)
          have h2 := List.length_take_le k L
          omega
        go_wp2_with (go_at_call 214; refine (RIn_is _ _ p true HP.out hp HI).mono ?_; rintro e w3 ⟨rfl, B3⟩; obtain ⟨g0, g1, g3⟩ := HW.out w3 (hB.trans (B3.mono hB.size)))
        exact ⟨rem_in hlt HI.out HO.out HNil.out hB B3, by simp [intOf]; omega⟩
      | false =>
        have HI := Lib.hid hin
        obtain ⟨a10, c10, rfl⟩ := owns_slice ho
        have HO := Lib.hid ho
        clear hin ho hnil h4 hx3 hTf
        have hcn : (((L.take k).filter fun g => !inR g.p (bs p)).length : Nat) ≤ 100000 := by
          have h1 := List.length_filter_le (fun g => !inR g.p (bs p)) (L.take k)
          have h2 := List.length_take_le k L
          omega
        obtain ⟨fp, hfp⟩ : ∃ f, L[k] = f := ⟨_, rfl⟩
        have HF := Lib.hid hfp
        rw [hfp] at HC x0 x1 x2 x3 HP HI
        clear hfp
        go_wp2_with (first
          | (go_at_call 214; refine (RIn_is _ _ p false HP.out hp HI).mono ?_; rintro e w3 ⟨rfl, B3⟩; obtain ⟨g0, g1, g3⟩ := HW.out w3 (hB.trans (B3.mono hB.size)); obtain ⟨x0, x1, x2, x3⟩ := HC.out w3 B3; have h3w : b < w3.heap.size := (by have := hBf.size; have := hB.size; have := B3.size; omega); have hsz : w2.heap.size ≤ w3.heap.size := (by have := hB.size; have := B3.size; omega); have HO3 := owns_below HO.out B3; have HN3 := four_new w3 (.string (str fp.p)) (.string (str fp.t)) (.int .i64 fp.c) (.bool fp.d) 44; have D3 := hB.trans (B3.mono hB.size))
          | (at_builtin; refine wpList_append_own _ rfl _ _ 22 rfl w2.heap.size 44 i0 (.agg #[.string ByteArray.empty, .string ByteArray.empty, .int .i64 0, .bool false]) 4 48 Tryz.underlying22 hi hz0 hz1 hz2 rfl (by decide) _ _ _ rfl (HO3.alloc _) ⟨w3.heap.size, 0, none⟩ 1 1 [.string (str fp.p), .string (str fp.t), .int .i64 fp.c, .bool fp.d] rfl rfl HN3 (by simp [Value.oneCell']) (by unfold maxLen; omega) (by omega) (by simp; omega) ?_; intro v4 w4 hown4 hgrow4 _))
        have D4 := (D3.alloc hsz _).grown hgrow4 (by simp; omega) (fun j e => (HO3.lt j e).1)
        have hH := HF.out
        subst hH
        exact ⟨rem_out hlt HI.out hown4 D4, by simp [intOf]; omega⟩
    · obtain rfl : k = L.length := by omega
      simp only [List.take_length] at ho hnil ⊢
      have hT5 := hTf.below (hB.mono hTf.lt)
      have hB5 := hBf.trans (hB.mono hBf.size)
      have hge := hTf.lt
      obtain ⟨⟨q0, q1⟩, ⟨m0, m1⟩, ⟨r0, r1, z0, z1⟩⟩ := hT5.cells
      have y0 := frozen_at hT5.H0 0
      obtain ⟨a10, c10, rfl⟩ := owns_slice ho
      have hx := ((hT5.put0 (.slice a10 (L.filter fun g => !inR g.p (bs p)).length c10)).answer (.slice a10 (L.filter fun g => !inR g.p (bs p)).length c10) c).1
      have hx4 := (hT5.answer (.slice a L.length cp) c).1
      have o5 := owns_kept_cell (owns_kept_cell (owns_kept_cell ho (a := w.heap.size) (by omega) 0 (.slice a10 (L.filter fun g => !inR g.p (bs p)).length c10)) (a := w.heap.size + 1) (by omega) 0 (.slice a10 (L.filter fun g => !inR g.p (bs p)).length c10)) (a := w.heap.size + 1) (by omega) 1 (.int .i64 c)
      have B6 := ((hB5.setCell (p := ⟨w.heap.size, 0, none⟩) (by simp) (.slice a10 (L.filter fun g => !inR g.p (bs p)).length c10)).setCell (p := ⟨w.heap.size + 1, 0, none⟩) (by simp) (.slice a10 (L.filter fun g => !inR g.p (bs p)).length c10)).setCell (p := ⟨w.heap.size + 1, 1, none⟩) (by simp) (.int .i64 c)
      have B4 := (hB5.setCell (p := ⟨w.heap.size + 1, 0, none⟩) (by simp) (.slice a L.length cp)).setCell (p := ⟨w.heap.size + 1, 1, none⟩) (by simp) (.int .i64 c)
      have F6 := RFiles.of_own o5 hnil
      have F4 := h.below B4
      have V6 : ∀ b, (Value.slice a10 (L.filter fun g => !inR g.p (bs p)).length c10).ownBlock = some b → w.heap.size ≤ b := fun b hb => by have := (o5.lt b hb).1; omega
      clear ho hnil o5 hx3 hTf h
      have HF6 := Lib.hid F6
      have HF4 := Lib.hid F4
      have HV6 := Lib.hid V6
      have HX := Lib.hid hx
      have HX4 := Lib.hid hx4
      clear F6 F4 V6 hx hx4
      by_cases hbig : gd = true ∧ all = false ∧ 1 < (L.filter fun g => inR g.p (bs p)).length
      · have HR : Hid ((if gd = true ∧ all = false ∧ 1 < (L.filter fun g => inR g.p (bs p)).length then ((⟨L, c⟩ : St), (4 : Int)) else (⟨L.filter fun g => !inR g.p (bs p), c⟩, 0)) = (⟨L, c⟩, 4)) := Lib.hid (if_pos hbig)
        obtain ⟨rfl, rfl, h1⟩ := hbig
        have i1 : (1 : Int) < ((L.filter fun g => inR g.p (bs p)).length : Nat) := by omega
        go_wp2
        refine bodyPost_ret (v := .tuple #[.agg #[.slice a L.length cp, .int .i64 c], .int .i64 4]) (by simp [results, Tryz.results190, go_sem, HX4.out.1, HX4.out.2]) rfl ?_
        try rw [HR.out]
        exact ⟨_, rfl, HF4.out, .inl rfl, B4⟩
      · have HR : Hid ((if gd = true ∧ all = false ∧ 1 < (L.filter fun g => inR g.p (bs p)).length then ((⟨L, c⟩ : St), (4 : Int)) else (⟨L.filter fun g => !inR g.p (bs p), c⟩, 0)) = (⟨L.filter fun g => !inR g.p (bs p), c⟩, 0)) := Lib.hid (if_neg hbig)
        cases gd with
        | false =>
          go_wp2
          refine bodyPost_ret (v := .tuple #[.agg #[.slice a10 (L.filter fun g => !inR g.p (bs p)).length c10, .int .i64 c], .int .i64 0]) (by simp [results, Tryz.results190, go_sem, HX.out.1, HX.out.2]) rfl ?_
          try rw [HR.out]
          exact ⟨_, rfl, HF6.out, .inr HV6.out, B6⟩
        | true =>
          cases all with
          | true =>
            go_wp2
            refine bodyPost_ret (v := .tuple #[.agg #[.slice a10 (L.filter fun g => !inR g.p (bs p)).length c10, .int .i64 c], .int .i64 0]) (by simp [results, Tryz.results190, go_sem, HX.out.1, HX.out.2]) rfl ?_
            try rw [HR.out]
            exact ⟨_, rfl, HF6.out, .inr HV6.out, B6⟩
          | false =>
            have i1 : ¬ (1 : Int) < ((L.filter fun g => inR g.p (bs p)).length : Nat) := fun e => hbig ⟨rfl, rfl, by omega⟩
            go_wp2
            refine bodyPost_ret (v := .tuple #[.agg #[.slice a10 (L.filter fun g => !inR g.p (bs p)).length c10, .int .i64 c], .int .i64 0]) (by simp [results, Tryz.results190, go_sem, HX.out.1, HX.out.2]) rfl ?_
            try rw [HR.out]
            exact ⟨_, rfl, HF6.out, .inr HV6.out, B6⟩
end Go.Proofs.YteommneijlelkaaGreatDoor.Sw
namespace Go.Proofs.YteommneijlelkaaGreatDoor.Sw
open Go.RowKit Go.Proofs.YteommneijlelkaaGreatDoor Go.Maps
set_option maxRecDepth 100000

theorem RRemove_any (w : World) (v : Value) (s : St) (p : ByteArray) (all : Bool) (hF : Fine s) (hp : p.size ≤ 100000) (h : RFiles w v s.L) :
    Calls Tryz.prog 190 #[.agg #[v, .int .i64 s.c], .string p, .bool all] w (RPost w v (rRemove s (bs p) all)) := by
  have hl : s.L.length ≤ 100000 := by have := hF.len; omega
  unfold rRemove
  by_cases h0 : (p.toList == [46]) = true
  · rw [if_pos (bs_is h0)]
    exact RRemove_root w v s p ⟨#[]⟩ ⟨#[]⟩ 0 false all hF hp h h0
  · have h0 : (p.toList == [46]) = false := by simpa using h0
    rw [if_neg (bs_not h0)]
    cases hg : getR s.L (bs p) with
    | none => exact RRemove_none w v s p (str noF.p) (str noF.t) noF.c noF.d all hF hp h h0 fun W v hf => RGet_no W v s.c p hl hf hF.sorted (Lib.hid hg)
    | some f => exact RRemove_some w v s p (str f.p) (str f.t) f.c f.d all hF hp h h0 fun W v hf => RGet_yes W v s.c p hl hf hF.sorted (Lib.hid hg)

theorem RRemoveA_any (w : World) (v : Value) (s : St) (p : ByteArray) (all : Bool) (hF : Fine s) (hC : Closed s.L) (hp : p.size ≤ 100000) (h : RFiles w v s.L) :
    Calls Tryz.prog 190 #[.agg #[v, .int .i64 s.c], .string p, .bool all] w (RPost w v (removeA s (bs p) all)) := by
  rw [← remove_eq hC hF.sorted]
  exact RRemove_any w v s p all hF hp h

theorem RMoveA_any (w : World) (v : Value) (s : St) (p q : ByteArray) (hF : Fine s) (hC : Closed s.L) (hp : p.size ≤ 100000) (hq : q.size ≤ 100000) (h : RFiles w v s.L) :
    Calls Tryz.prog 143 #[.agg #[v, .int .i64 s.c], .string p, .string q] w (RPost w v (moveA s (bs p) (bs q))) :=
  RMove_any w v s p q hF hC hp hq h fun W v t hFt hf => RRemove_any W v t p false hFt hp hf
end Go.Proofs.YteommneijlelkaaGreatDoor.Sw
