/-
  (*Store).place and put: the error of checking a place; a file of the next time.
-/
import Derived.Test.YtmmilnmlmgcobaaGreatDoorSGet
namespace Go.Proofs.YtmmilnmlmgcobaaGreatDoor.Sw
open Go.RowKit Go.Proofs.YtmmilnmlmgcobaaGreatDoor Go.Maps
set_option maxRecDepth 100000

/-- What place answers. -/
def placeA (L : List F) (p : List UInt8) : Int :=
  if isPath p = false then 1 else if p = [46] then 4 else match getR L (dirL p) with
    | none => 3
    | some d => if d.d = false then 4 else if Sp.get L p = none ∧ 4096 ≤ L.length then 12 else 0

theorem dirL_len (s : List UInt8) (h : 1 ≤ s.length) : (dirL s).length ≤ s.length := by
  unfold dirL
  split
  · rw [List.length_take]; omega
  · simpa using h
theorem isPath_ne {s : List UInt8} (h : isPath s = true) : s ≠ [] := by
  intro e; subst e
  unfold isPath at h
  have h := of_decide_eq_true h
  cases h

theorem place_nil (w : World) (p : ByteArray) :
    Calls Tryz.prog 47 #[.pointer none, .string p] w fun e w' => e = .returned (.int .i64 1) ∧ w = w' := by
  go_enter Tryz.func47, Tryz.ntmps47
  go_wp2
  go_ret
  exact ⟨rfl, rfl⟩

def IntPost (w : World) (n : Int) (e : Ending) (w' : World) : Prop := e = .returned (.int .i64 n) ∧ Below w.heap.size w w'

theorem clean_is (w : World) (p : ByteArray) (b : Bool) (hs : p.size ≤ 1000000) (h : Hid (isPath (bs p) = b)) :
    Calls Tryz.prog 49 #[.string p] w fun e w' => e = .returned (.bool b) ∧ Below w.heap.size w w' := by
  have := Clean_any w p (by omega)
  rwa [h.out] at this
theorem dir_is (w : World) (p d : ByteArray) (hs : p.size ≤ 1000000) (h : Hid (dirL (bs p) = bs d)) :
    Calls Tryz.prog 55 #[.string p] w fun e w' => e = .returned (.string d) ∧ w = w' := by
  have := Dir_any w p hs
  rwa [h.out, str_bs] at this

set_option maxHeartbeats 1000000 in
theorem place_any (w : World) {sb bm : Nat} {L : List F} {c : Int} (p : ByteArray) (n : Int) (hS : StoreAt w sb bm L c) (hp : p.size ≤ 1000000) (hn : Hid (placeA L (bs p) = n)) :
    Calls Tryz.prog 47 #[.pointer (some ⟨sb, 0, none⟩), .string p] w (IntPost w n) := by
  cases hc : isPath (bs p) with
  | false =>
    have hC := Lib.hid hc
    have en : n = 1 := by rw [← hn.out, placeA, if_pos hc]
    subst en
    clear hc hn
    go_enter Tryz.func47, Tryz.ntmps47
    go_wp2_with (go_at_call 49; go_must (refine (clean_is _ p false hp hC).mono ?_); rintro e w1 ⟨rfl, B1⟩)
    go_ret
    exact ⟨rfl, B1⟩
  | true =>
    have hC := Lib.hid hc
    by_cases h0 : (p.toList == [46]) = true
    · have en : n = 4 := by rw [← hn.out, placeA, if_neg (by simp [hc]), if_pos (bs_is h0)]
      subst en
      clear hc hn
      go_enter Tryz.func47, Tryz.ntmps47
      go_wp2_with (go_at_call 49; go_must (refine (clean_is _ p true hp hC).mono ?_); rintro e w1 ⟨rfl, B1⟩)
      go_ret
      exact ⟨rfl, B1⟩
    · have h0' : (p.toList == [46]) = false := by simpa using h0
      have e1 : placeA L (bs p) = match getR L (dirL (bs p)) with
        | none => 3
        | some d => if d.d = false then 4 else if Sp.get L (bs p) = none ∧ 4096 ≤ L.length then 12 else 0 := by rw [placeA, if_neg (by simp [hc]), if_neg (bs_not h0')]
      have hl := dirL_len (bs p) (List.length_pos_iff.2 (isPath_ne hc))
      obtain ⟨d, hd⟩ : ∃ d : ByteArray, dirL (bs p) = bs d := ⟨str (dirL (bs p)), rfl⟩
      rw [hd] at e1 hl
      have hds : d.size ≤ 1000000 := by rw [bs_len, bs_len] at hl; omega
      have hdm : d.size ≤ maxLen := by unfold maxLen; omega
      have hpm : p.size ≤ maxLen := by unfold maxLen; omega
      have hD := Lib.hid hd
      rw [hn.out] at e1
      clear hn hc hd hl h0
      cases hg : getR L (bs d) with
      | none =>
        have en : n = 3 := by rw [e1, hg]
        have hG := Lib.hid hg
        subst en
        clear e1 hg
        go_enter Tryz.func47, Tryz.ntmps47
        go_wp2_with (go_at_call 49; go_must (refine (clean_is _ p true hp hC).mono ?_); rintro e w1 ⟨rfl, B1⟩)
        go_wp2_with (go_at_call 55; go_must (refine (dir_is _ p d hp hD).mono ?_); rintro e w2 ⟨rfl, rfl⟩)
        go_wp2_with fail
        refine (Get_no _ d (hS.below B1) hdm hG).mono ?_
        rintro e w2 ⟨rfl, B2⟩
        have B12 := B1.trans (B2.mono B1.size)
        unfold fV
        go_wp2
        go_ret
        exact ⟨rfl, B12.alloc B12.size _⟩
      | some g =>
        have hG := Lib.hid hg
        obtain ⟨gp, gt, gc, gd⟩ := g
        cases gd with
        | false =>
          have en : n = 4 := by rw [e1, hg]; rfl
          subst en
          clear e1 hg
          go_enter Tryz.func47, Tryz.ntmps47
          go_wp2_with (go_at_call 49; go_must (refine (clean_is _ p true hp hC).mono ?_); rintro e w1 ⟨rfl, B1⟩)
          go_wp2_with (go_at_call 55; go_must (refine (dir_is _ p d hp hD).mono ?_); rintro e w2 ⟨rfl, rfl⟩)
          go_wp2_with fail
          refine (Get_yes _ d (hS.below B1) hdm hG).mono ?_
          rintro e w2 ⟨rfl, B2⟩
          have B12 := B1.trans (B2.mono B1.size)
          unfold fV
          go_wp2
          go_ret
          exact ⟨rfl, B12.alloc B12.size _⟩
        | true =>
          cases hq : Sp.get L (bs p) with
          | some q =>
            have hQ := Lib.hid hq
            have en : n = 0 := by rw [e1, hg, hq]; rfl
            subst en
            clear e1 hg hq
            go_enter Tryz.func47, Tryz.ntmps47
            go_wp2_with (go_at_call 49; go_must (refine (clean_is _ p true hp hC).mono ?_); rintro e w1 ⟨rfl, B1⟩)
            go_wp2_with (go_at_call 55; go_must (refine (dir_is _ p d hp hD).mono ?_); rintro e w2 ⟨rfl, rfl⟩)
            go_wp2_with fail
            refine (Get_yes _ d (hS.below B1) hdm hG).mono ?_
            rintro e w2 ⟨rfl, B2⟩
            have B12 := B1.trans (B2.mono B1.size)
            have hS2 := hS.below B12
            have c1 := hS2.c1
            have hlt := hS2.lt
            have hM := hS2.map
            clear hS hS2
            unfold fV
            go_wp2_with (at_lookup; refine wpList_look_yes _ rfl _ _ rfl rfl rfl (hM.alloc _) hpm hQ ?_)
            go_ret
            exact ⟨rfl, (B12.alloc B12.size _).alloc (by have := B12.size; simp; omega) _⟩
          | none =>
            have hQ := Lib.hid hq
            have hn2 : n = if 4096 ≤ L.length then 12 else 0 := by rw [e1, hg, hq]; simp
            clear e1 hg hq
            by_cases h4 : 4096 ≤ L.length
            · rw [if_pos h4] at hn2
              subst hn2
              have i4 : (4096 : Int) ≤ L.length := by omega
              go_enter Tryz.func47, Tryz.ntmps47
              go_wp2_with (go_at_call 49; go_must (refine (clean_is _ p true hp hC).mono ?_); rintro e w1 ⟨rfl, B1⟩)
              go_wp2_with (go_at_call 55; go_must (refine (dir_is _ p d hp hD).mono ?_); rintro e w2 ⟨rfl, rfl⟩)
              go_wp2_with fail
              refine (Get_yes _ d (hS.below B1) hdm hG).mono ?_
              rintro e w2 ⟨rfl, B2⟩
              have B12 := B1.trans (B2.mono B1.size)
              have hS2 := hS.below B12
              have c1 := hS2.c1
              have hlt := hS2.lt
              have hM := hS2.map
              clear hS hS2
              unfold fV
              have hlen := fun (o1 o2 : Obj) ty => ((hM.alloc o1).alloc o2).len ty
              go_wp2_with (at_lookup; refine wpList_look_no _ rfl _ _ rfl rfl rfl (hM.alloc _) hpm hQ ?_)
              go_ret
              exact ⟨rfl, (B12.alloc B12.size _).alloc (by have := B12.size; simp; omega) _⟩
            · rw [if_neg h4] at hn2
              subst hn2
              have i4 : ¬ (4096 : Int) ≤ L.length := by omega
              go_enter Tryz.func47, Tryz.ntmps47
              go_wp2_with (go_at_call 49; go_must (refine (clean_is _ p true hp hC).mono ?_); rintro e w1 ⟨rfl, B1⟩)
              go_wp2_with (go_at_call 55; go_must (refine (dir_is _ p d hp hD).mono ?_); rintro e w2 ⟨rfl, rfl⟩)
              go_wp2_with fail
              refine (Get_yes _ d (hS.below B1) hdm hG).mono ?_
              rintro e w2 ⟨rfl, B2⟩
              have B12 := B1.trans (B2.mono B1.size)
              have hS2 := hS.below B12
              have c1 := hS2.c1
              have hlt := hS2.lt
              have hM := hS2.map
              clear hS hS2
              unfold fV
              have hlen := fun (o1 o2 : Obj) ty => ((hM.alloc o1).alloc o2).len ty
              go_wp2_with (at_lookup; refine wpList_look_no _ rfl _ _ rfl rfl rfl (hM.alloc _) hpm hQ ?_)
              go_ret
              exact ⟨rfl, (B12.alloc B12.size _).alloc (by have := B12.size; simp; omega) _⟩
end Go.Proofs.YtmmilnmlmgcobaaGreatDoor.Sw
