/-
  The reference's Same.
-/
import Derived.Test.YtmmilnmlmgcobaaGreatDoorSRList2
import Derived.Test.YtmmilnmlmgcobaaGreatDoorSEqual
namespace Go.Proofs.YtmmilnmlmgcobaaGreatDoor.Sw
open Go.RowKit Go.Proofs.YtmmilnmlmgcobaaGreatDoor Go.Maps
set_option maxRecDepth 100000

theorem PlainPost.own {w w' : World} {M : List F} {e : Ending} (h : PlainPost w M e w') : ∃ a cp, e = .returned (.slice a M.length cp) ∧ RFiles w' (.slice a M.length cp) M ∧ Below w.heap.size w w' := by
  obtain ⟨v, rfl, hR, _, hB⟩ := h
  rcases hR with ⟨rfl, rfl⟩ | ⟨h0, b, cp, rfl, h2, h3, h4⟩
  · exact ⟨none, 0, rfl, .inl ⟨rfl, rfl⟩, hB⟩
  · exact ⟨_, cp, rfl, .inr ⟨h0, b, cp, rfl, h2, h3, h4⟩, hB⟩

set_option maxHeartbeats 2000000 in
theorem RSame_any (w : World) (v u : Value) (c d : Int) (L M : List F) (p : ByteArray) (hl : L.length ≤ 100000) (hm : M.length ≤ 100000) (h : RFiles w v L) (k : RFiles w u M) (hs : Sp.Sorted L) (ks : Sp.Sorted M) :
    Calls Tryz.prog 12 #[.agg #[v, .int .i64 c], .agg #[u, .int .i64 d], .string p] w fun e w' => e = .returned (.bool (sameA L M (bs p))) ∧ Below w.heap.size w w' := by
  obtain ⟨a, n, cp, rfl⟩ := h.shape
  obtain ⟨a', n', cp', rfl⟩ := k.shape
  have hBa := fun x y => ((Below.refl w.heap.size w).alloc (Nat.le_refl _) x).alloc (by simp) y
  have tok : True := trivial
  have g2 := (later2 (Below.refl _ ((w.alloc (.cells #[.slice a n cp, .int .i64 c] 34)).alloc (.cells #[.slice a' n' cp', .int .i64 d] 34)))).2
  go_enter Tryz.func12, Tryz.ntmps12
  have hsame := same_iff hs ks (bs p)
  have hlx := Nat.le_trans (plain_len L (bs p)) hl
  have hly := Nat.le_trans (plain_len M (bs p)) hm
  have hPX := fun W (B : Below w.heap.size w W) => RPlain_any W _ c L p hl (h.below B)
  have hPY := fun W (B : Below w.heap.size w W) => RPlain_any W _ d M p hm (k.below B)
  generalize plainA L (bs p) = X at *
  generalize plainA M (bs p) = Y at *
  have HSame := Lib.hid hsame
  clear hsame
  by_cases hlen : X.length = Y.length
  · have hi : (X.length : Int) = Y.length := by omega
    go_wp2_with (first
      | (go_at_call 46; have _t := tok; refine (hPX _ (hBa _ _)).mono ?_; rintro e w1 hpost; obtain ⟨x, xc, rfl, hX, B1⟩ := hpost.own; clear tok _t; have q0 := cell_at ((B1.block (w.heap.size + 1) (by simp)).trans g2) (i := 0) rfl; have q1 := cell_at ((B1.block (w.heap.size + 1) (by simp)).trans g2) (i := 1) rfl; have hB1 := (hBa _ _).trans (B1.mono (hBa _ _).size))
      | (go_at_call 46; refine (hPY _ hB1).mono ?_; rintro e w2 hpost; obtain ⟨y, yc, rfl, hY, B2⟩ := hpost.own; have hB2 := hB1.trans (B2.mono hB1.size); have hX2 := hX.below B2))
    go_loopw [9] (fun v9 wr => ∃ i : Nat, i ≤ X.length ∧ v9 = .int .i64 i ∧ (∀ j, j < i → X[j]? = Y[j]?) ∧ Below w2.heap.size w2 wr) (fun v _ => X.length - (intOf v).toNat)
    case atStart => exact ⟨0, Nat.zero_le _, rfl, fun j hj => absurd hj (Nat.not_lt_zero _), Below.refl _ _⟩
    case round =>
      obtain ⟨i, hix, rfl, hj, hB⟩ := hrel
      by_cases hlt : i < X.length
      · have hlt2 : i < Y.length := by omega
        rcases hX2 with ⟨rfl, _⟩ | ⟨_, b1, cp1, e1, h12, h13, h14⟩
        · exact absurd hlt (by simp)
        cases e1
        rcases hY with ⟨rfl, _⟩ | ⟨_, b2, cp2, e2, h22, h23, h24⟩
        · exact absurd hlt2 (by simp)
        cases e2
        have e1 : ∀ j u, j < 4 → (fC X[i])[j]? = some u → wr.cell? ⟨b1, i * 4 + j, none⟩ = some u := fun j u hj hu => (hB.cell (p := ⟨b1, i * 4 + j, none⟩) h13).trans (h14 _ u (by rw [rfCs_get hlt hj]; exact hu))
        have e2 : ∀ j u, j < 4 → (fC Y[i])[j]? = some u → wr.cell? ⟨b2, i * 4 + j, none⟩ = some u := fun j u hj hu => (hB.cell (p := ⟨b2, i * 4 + j, none⟩) h23).trans (h24 _ u (by rw [rfCs_get hlt2 hj]; exact hu))
        have x0 : wr.cell? ⟨b1, i * 4, none⟩ = some (.string (str X[i].p)) := e1 0 _ (by decide) rfl
        have x1 : wr.cell? ⟨b1, i * 4 + 1, none⟩ = some (.string (str X[i].t)) := e1 1 _ (by decide) rfl
        have x2 : wr.cell? ⟨b1, i * 4 + 2, none⟩ = some (.int .i64 X[i].c) := e1 2 _ (by decide) rfl
        have x3 : wr.cell? ⟨b1, i * 4 + 3, none⟩ = some (.bool X[i].d) := e1 3 _ (by decide) rfl
        have y0 : wr.cell? ⟨b2, i * 4, none⟩ = some (.string (str Y[i].p)) := e2 0 _ (by decide) rfl
        have y1 : wr.cell? ⟨b2, i * 4 + 1, none⟩ = some (.string (str Y[i].t)) := e2 1 _ (by decide) rfl
        have y2 : wr.cell? ⟨b2, i * 4 + 2, none⟩ = some (.int .i64 Y[i].c) := e2 2 _ (by decide) rfl
        have y3 : wr.cell? ⟨b2, i * 4 + 3, none⟩ = some (.bool Y[i].d) := e2 3 _ (by decide) rfl
        have hki : (i : Int) < X.length := by omega
        have hki2 : (i : Int) < Y.length := by omega
        have hgd := guardF
        clear e1 e2 h14 h24
        by_cases heq : X[i] = Y[i]
        · have hq := fun W => neq_same X[i] W
          have HJ : Hid (∀ j, j < i + 1 → X[j]? = Y[j]?) := Lib.hid fun j h => by
            rcases Nat.lt_or_ge j i with h1 | h1
            · exact hj j h1
            · obtain rfl : j = i := by omega
              rw [List.getElem?_eq_getElem hlt, List.getElem?_eq_getElem hlt2, heq]
          rw [← heq] at y0 y1 y2 y3
          clear heq hj
          generalize X[i] = f at *
          go_wp2_with fail
          go_quiet (fail)
          go_wp2_with fail
          go_roundw
          case rel => exact ⟨i + 1, hlt, by go_num, HJ.out, below_drewS hB _⟩
          case measure => simp [intOf]; omega
        · have hq := fun W => neq_diff heq W
          have HF : Hid (sameA L M (bs p) = false) := Lib.hid (by
            cases hs9 : sameA L M (bs p) with
            | false => rfl
            | true =>
              have := HSame.out.1 hs9
              subst this
              exact absurd rfl heq)
          have hB5 := hB2.trans (hB.mono hB2.size)
          clear heq hj
          generalize X[i] = f at *
          generalize Y[i] = g at *
          go_wp2_with fail
          go_quiet (fail)
          go_wp2_with fail
          go_ret
          exact ⟨by rw [HF.out]; rfl, below_drewS hB5 _⟩
      · obtain rfl : i = X.length := by omega
        have HT : Hid (sameA L M (bs p) = true) := Lib.hid (HSame.out.2 (List.ext_getElem? fun j => by
          rcases Nat.lt_or_ge j X.length with h1 | h1
          · exact hj j h1
          · rw [List.getElem?_eq_none h1, List.getElem?_eq_none (by omega)]))
        have hB5 := hB2.trans (hB.mono hB2.size)
        clear hj
        go_wp2
        go_ret
        exact ⟨by rw [HT.out]; rfl, hB5⟩
  · have hi : ¬ (X.length : Int) = Y.length := by omega
    have HF : Hid (sameA L M (bs p) = false) := Lib.hid (by
      cases hq : sameA L M (bs p) with
      | false => rfl
      | true => exact absurd (congrArg List.length (HSame.out.1 hq)) hlen)
    go_wp2_with (first
      | (go_at_call 46; have _t := tok; refine (hPX _ (hBa _ _)).mono ?_; rintro e w1 hpost; obtain ⟨x, xc, rfl, hX, B1⟩ := hpost.own; clear tok _t; have q0 := cell_at ((B1.block (w.heap.size + 1) (by simp)).trans g2) (i := 0) rfl; have q1 := cell_at ((B1.block (w.heap.size + 1) (by simp)).trans g2) (i := 1) rfl; have hB1 := (hBa _ _).trans (B1.mono (hBa _ _).size))
      | (go_at_call 46; refine (hPY _ hB1).mono ?_; rintro e w2 hpost; obtain ⟨y, yc, rfl, hY, B2⟩ := hpost.own; have hB2 := hB1.trans (B2.mono hB1.size); have hX2 := hX.below B2))
    go_ret
    exact ⟨by rw [HF.out]; rfl, hB2⟩
end Go.Proofs.YtmmilnmlmgcobaaGreatDoor.Sw
