/-
  The reference's Get and Read.
-/
import Derived.Test.YtmmilnmlmgcobaaGreatDoorSRClean
import Derived.Test.YtmmilnmlmgcobaaGreatDoorSAdd
namespace Go.Proofs.YtmmilnmlmgcobaaGreatDoor.Sw
open Go.RowKit Go.Proofs.YtmmilnmlmgcobaaGreatDoor Go.Maps
set_option maxRecDepth 100000

theorem pos_yes_get {L : List F} {p : List UInt8} {f : F} (hs : Sp.Sorted L) (h : Sp.get L p = some f) : ∃ k : Nat, ∃ hk : k < L.length, Sp.pos L p = (k, true) ∧ L[k] = f := by
  obtain ⟨h1, h2⟩ := Sp.pos_yes hs h
  obtain ⟨hk, he⟩ := List.getElem?_eq_some_iff.1 h2
  exact ⟨_, hk, by rw [← h1], he⟩

theorem frozen_new4 (w : World) {n : Nat} (cs : Array Value) {T : TypeId} (hz : w.heap.size = n) (i : Nat) : (w.alloc (.cells cs T)).frozen? ⟨n, i, none⟩ = false := by
  subst hz
  have e : (w.alloc (.cells cs T)).heap[w.heap.size]? = some (.cells cs T) := Array.getElem?_push_size
  unfold World.frozen?
  rw [e]
  simp

set_option maxHeartbeats 1000000 in
theorem RGet_yes (w : World) (v : Value) (c : Int) {L : List F} (p : ByteArray) {f : F} (hl : L.length ≤ 100000) (hF : Files w v L) (hs : Sp.Sorted L) (hf : Hid (getR L (bs p) = some f)) :
    Calls Tryz.prog 38 #[.agg #[v, .int .i64 c], .string p] w fun e w' => e = .returned (.tuple #[fV f, .bool true]) ∧ Below w.heap.size w w' := by
  by_cases h0 : (p.toList == [46]) = true
  · have hr : rootF = f := by have := hf.out; rw [bs_is h0] at this; exact Option.some.inj this
    subst hr
    go_enter Tryz.func38, Tryz.ntmps38
    go_wp2
    exact bodyPost_ret (v := .tuple #[fV rootF, .bool true]) (by simp [results, Tryz.results38, go_sem]; rfl) rfl ⟨rfl, (((Below.refl _ w).alloc (Nat.le_refl _) _).alloc (by simp) _)⟩
  · have h0' : (p.toList == [46]) = false := by simpa using h0
    obtain ⟨k, hk, hpos, hkf⟩ := pos_yes_get hs (by have := hf.out; rwa [getR_ne (bs_not h0')] at this)
    have HP := Lib.hid hpos
    have hF0 := hF
    rcases hF with ⟨rfl, _⟩ | ⟨b, o, cp, rfl, hb, hC⟩
    · exact absurd hk (by simp)
    have hc := hC k hk
    rw [hkf] at hc
    have HC := Lib.hid hc
    have hB1 := fun x y => ((Below.refl w.heap.size w).alloc (Nat.le_refl _) x).alloc (by simp) y
    clear h0 hpos hkf hc hC hs
    go_enter Tryz.func38, Tryz.ntmps38
    go_wp2_with fail
    refine (at_any _ _ c L p hl (hF0.below (hB1 _ _)) ).mono ?_
    rintro e w1 ⟨rfl, B1⟩
    have hk1 := Kept.of_below (X := []) B1
    have e1 := fun (q : Addr) h => hk1.cell (p := q) h (by simp)
    have e0 := fun (q : Addr) h => (Kept.of_below (X := []) (hB1 (.cells #[.slice (some ⟨b, o, none⟩) L.length cp, .int .i64 c] 34) (.cells #[.string ⟨#[]⟩, .string ⟨#[]⟩, .int .i64 0, .bool false] 26))).cell (p := q) h (by simp)
    obtain ⟨x0, x1, x2, x3⟩ := HC.out
    have c0 := ((e1 _ (by simp; omega)).trans (e0 ⟨b, o + k * 4, none⟩ hb)).trans x0
    have c1 := ((e1 _ (by simp; omega)).trans (e0 ⟨b, o + k * 4 + 1, none⟩ hb)).trans x1
    have c2 := ((e1 _ (by simp; omega)).trans (e0 ⟨b, o + k * 4 + 2, none⟩ hb)).trans x2
    have c3 := ((e1 _ (by simp; omega)).trans (e0 ⟨b, o + k * 4 + 3, none⟩ hb)).trans x3
    obtain ⟨d0, d1, d2, d3⟩ := file_later (p := []) (t := []) B1
    have hB2 := (hB1 _ _).trans (B1.mono (by simp; omega))
    have hz : (w.alloc (.cells #[.slice (some ⟨b, o, none⟩) L.length cp, .int .i64 c] 34)).heap.size = w.heap.size + 1 := by simp
    rw [hz] at d0 d1 d2 d3
    have hfz := fun i => (hk1.frozen (p := ⟨w.heap.size + 1, i, none⟩) (by simp) (by simp)).trans (frozen_new4 (w.alloc (.cells #[.slice (some ⟨b, o, none⟩) L.length cp, .int .i64 c] 34)) _ hz i)
    have z0 := hfz 0
    have z1 := hfz 1
    have z2 := hfz 2
    have z3 := hfz 3
    clear hfz
    clear x0 x1 x2 x3 e0
    rw [HP.out]
    go_wp2
    have hBl : Below w.heap.size w ((((w1.setCell ⟨w.heap.size + 1, 0, none⟩ (.string (str f.p))).setCell ⟨w.heap.size + 1, 1, none⟩ (.string (str f.t))).setCell ⟨w.heap.size + 1, 2, none⟩ (.int .i64 f.c)).setCell ⟨w.heap.size + 1, 3, none⟩ (.bool f.d)) :=
      (((hB2.setCell (by simp) _).setCell (by simp) _).setCell (by simp) _).setCell (by simp) _
    exact bodyPost_ret (v := .tuple #[fV f, .bool true]) (by simp [results, Tryz.results38, go_sem, d0, d1, d2, d3]; rfl) rfl ⟨rfl, hBl⟩

set_option maxHeartbeats 1000000 in
theorem RGet_no (w : World) (v : Value) (c : Int) {L : List F} (p : ByteArray) (hl : L.length ≤ 100000) (hF : Files w v L) (hs : Sp.Sorted L) (hf : Hid (getR L (bs p) = none)) :
    Calls Tryz.prog 38 #[.agg #[v, .int .i64 c], .string p] w fun e w' => e = .returned (.tuple #[fV noF, .bool false]) ∧ Below w.heap.size w w' := by
  have hne : bs p ≠ [46] := fun e => by have := hf.out; rw [e] at this; cases this
  have h0' : (p.toList == [46]) = false := by rw [Lib.toList_data, beq_eq_false_iff_ne]; exact hne
  have hp2 : Hid ((Sp.pos L (bs p)).2 = false) := Lib.hid (Sp.pos_no hs (by have := hf.out; rwa [getR_ne hne] at this))
  obtain ⟨k, hk⟩ : ∃ k, (Sp.pos L (bs p)).1 = k := ⟨_, rfl⟩
  have HP : Hid (Sp.pos L (bs p) = (k, false)) := Lib.hid (Prod.ext hk hp2.out)
  have hB1 := fun x y => ((Below.refl w.heap.size w).alloc (Nat.le_refl _) x).alloc (by simp) y
  clear hk hp2 hne
  obtain ⟨a, n, cp, rfl⟩ : ∃ a n cp, v = .slice a n cp := by
    rcases hF with ⟨_, a, cp, rfl⟩ | ⟨b, o, cp, rfl, _⟩
    · exact ⟨a, 0, cp, rfl⟩
    · exact ⟨_, _, cp, rfl⟩
  go_enter Tryz.func38, Tryz.ntmps38
  go_wp2_with fail
  refine (at_any _ _ c L p hl (hF.below (hB1 _ _))).mono ?_
  rintro e w1 ⟨rfl, B1⟩
  have hk1 := Kept.of_below (X := []) B1
  obtain ⟨d0, d1, d2, d3⟩ := file_later (p := []) (t := []) B1
  have hB2 := (hB1 _ _).trans (B1.mono (by simp; omega))
  have hz : (w.alloc (.cells #[.slice a n cp, .int .i64 c] 34)).heap.size = w.heap.size + 1 := by simp
  rw [hz] at d0 d1 d2 d3
  have hfz := fun i => (hk1.frozen (p := ⟨w.heap.size + 1, i, none⟩) (by simp) (by simp)).trans (frozen_new4 (w.alloc (.cells #[.slice a n cp, .int .i64 c] 34)) _ hz i)
  have z0 := hfz 0
  have z1 := hfz 1
  have z2 := hfz 2
  have z3 := hfz 3
  clear hfz
  rw [HP.out]
  go_wp2
  have hBl : Below w.heap.size w ((((w1.setCell ⟨w.heap.size + 1, 0, none⟩ (.string ⟨#[]⟩)).setCell ⟨w.heap.size + 1, 1, none⟩ (.string ⟨#[]⟩)).setCell ⟨w.heap.size + 1, 2, none⟩ (.int .i64 0)).setCell ⟨w.heap.size + 1, 3, none⟩ (.bool false)) :=
    (((hB2.setCell (by simp) _).setCell (by simp) _).setCell (by simp) _).setCell (by simp) _
  exact bodyPost_ret (v := .tuple #[fV noF, .bool false]) (by simp [results, Tryz.results38, go_sem, d0, d1, d2, d3]; rfl) rfl ⟨rfl, hBl⟩

theorem RRead_any (w : World) (v : Value) (c : Int) {L : List F} (p : ByteArray) (r : Option F) (hl : L.length ≤ 100000) (hF : Files w v L) (hs : Sp.Sorted L) (hf : Hid (getR L (bs p) = r)) :
    Calls Tryz.prog 39 #[.agg #[v, .int .i64 c], .string p] w (ReadPost w (readA r).1 (readA r).2) := by
  have B0 := fun x => (Below.refl w.heap.size w).alloc (Nat.le_refl _) x
  cases r with
  | none =>
    go_enter Tryz.func39, Tryz.ntmps39
    go_wp2_with fail
    refine (RGet_no _ v c p hl (hF.below (B0 _)) hs hf).mono ?_
    rintro e w1 ⟨rfl, B1⟩
    unfold fV noF
    have hB1 := fun x => ((B0 _).trans (B1.mono (B0 _).size)).alloc ((B0 _).trans (B1.mono (B0 _).size)).size x
    go_wp2
    go_ret2
    exact ⟨rfl, hB1 _⟩
  | some f =>
    obtain ⟨fp, ft, fc, fd⟩ := f
    cases fd <;>
    · go_enter Tryz.func39, Tryz.ntmps39
      go_wp2_with fail
      refine (RGet_yes _ v c p hl (hF.below (B0 _)) hs hf).mono ?_
      rintro e w1 ⟨rfl, B1⟩
      unfold fV
      have hB1 := fun x => ((B0 _).trans (B1.mono (B0 _).size)).alloc ((B0 _).trans (B1.mono (B0 _).size)).size x
      go_wp2
      go_ret2
      exact ⟨rfl, hB1 _⟩
end Go.Proofs.YtmmilnmlmgcobaaGreatDoor.Sw
