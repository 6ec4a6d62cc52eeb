/-
  (*Store).Move; every call leaves a store as every store is.
-/
import Derived.Test.YtmmilnmlmgcobaaGreatDoorSRemove
import Derived.Test.YtmmilnmlmgcobaaGreatDoorSMkdir
namespace Go.Proofs.YtmmilnmlmgcobaaGreatDoor.Sw
open Go.RowKit Go.Proofs.YtmmilnmlmgcobaaGreatDoor Go.Maps
set_option maxRecDepth 100000

theorem Fine.write {s : St} (h : Fine s) {p t : List UInt8} (hp : p.length ≤ 100000) (more : Bool) : Fine (writeA s p t more).1 := by
  by_cases h0 : placeA s.L p = 0
  · rw [writeA_ok h0]
    have hm : ∀ (d : Bool) (old : List UInt8), Fine (if d = true then (s, (4 : Int)) else if 1048576 < old.length + t.length then (s, 12) else putA s ⟨p, old ++ t, 0, false⟩).1 := fun d old => by
      split
      · exact h
      · split
        · exact h
        · rename_i h2
          exact h.put (f := ⟨p, old ++ t, 0, false⟩) (by show (old ++ t).length ≤ _; rw [List.length_append]; omega) hp (place_room h0)
    exact hm _ _
  · rw [writeA_bad h0]; exact h

theorem Fine.touch {s : St} (h : Fine s) {p : List UInt8} (hp : p.length ≤ 100000) : Fine (touchA s p).1 := by
  unfold touchA
  split
  · exact h.write hp false
  · rename_i f hf
    split
    · rename_i h2
      have hg : Sp.get s.L p = some f := by rw [← getR_ne h2.2]; exact hf
      obtain ⟨m1, m2⟩ := (Sp.get_some h.sorted).1 hg
      exact h.put (h.text f m1) (h.path f m1) (.inl (by rw [m2, hg]; rfl))
    · exact h.write hp false

theorem Fine.mkAll : ∀ (l : List (List UInt8)) {s : St}, Fine s → (∀ q ∈ l, q.length ≤ 100000) → Fine (mkAll s l).1
  | [], _, h, _ => h
  | q :: r, s, h, hl => by
    rw [mkAll_cons]
    have h1 := h.mk1 (hl q (by simp)) true
    split
    · exact h1
    · exact Fine.mkAll r h1 fun x hx => hl x (by simp [hx])
theorem heads_len : ∀ (r pre : List UInt8), ∀ q ∈ heads pre r, q.length ≤ pre.length + r.length
  | [], pre, q, h => by simp [heads] at h
  | c :: r, pre, q, h => by
    unfold heads at h
    have ih := heads_len r (pre ++ [c])
    split at h
    · rcases List.mem_cons.1 h with rfl | h
      · simp
      · have := ih q h; simp at this ⊢; omega
    · have := ih q h; simp at this ⊢; omega
theorem Fine.mkdir {s : St} (h : Fine s) {p : List UInt8} (hp : p.length ≤ 100000) (all : Bool) : Fine (mkdirA s p all).1 := by
  have h1 := Fine.mkAll (heads [] p) h fun q hq => by have := heads_len p [] q hq; simp at this; omega
  unfold mkdirA
  split
  · exact h
  · split
    · exact h.mk1 hp false
    · split
      · exact h1
      · exact h1.mk1 hp true

theorem Fine.remove {s : St} (h : Fine s) (p : List UInt8) (all : Bool) : Fine (removeA s p all).1 := by
  unfold removeA
  split
  · exact h
  · split
    · exact h
    · split
      · exact h
      · refine ⟨sorted_filter h.sorted _, h.c0, h.c1, Nat.le_trans (List.length_filter_le _ _) h.len, fun f hf => h.text f (List.mem_filter.1 hf).1, fun f hf => h.path f (List.mem_filter.1 hf).1⟩

def moveA (s : St) (a b : List UInt8) : St × Int :=
  if (readA (getR s.L a)).2 ≠ 0 then (s, (readA (getR s.L a)).2) else if a = b then (s, 1) else
  if (writeA s b (readA (getR s.L a)).1 false).2 ≠ 0 then writeA s b (readA (getR s.L a)).1 false else removeA (writeA s b (readA (getR s.L a)).1 false).1 a false
theorem Fine.move {s : St} (h : Fine s) {a b : List UInt8} (hb : b.length ≤ 100000) : Fine (moveA s a b).1 := by
  have h1 := h.write (t := (readA (getR s.L a)).1) hb false
  unfold moveA
  split
  · exact h
  · split
    · exact h
    · split
      · exact h1
      · exact h1.remove a false

theorem read_len {s : St} (h : Fine s) (p : List UInt8) : (readA (getR s.L p)).1.length ≤ 1048576 := by
  cases hg : getR s.L p with
  | none => simp [readA]
  | some f =>
    have := getR_text h hg
    unfold readA
    simp only
    split
    · simp
    · exact this

set_option maxHeartbeats 2000000 in
theorem Move_any (w : World) {sb bm : Nat} {s : St} (p q : ByteArray) (hS : StoreAt w sb bm s.L s.c) (hF : Fine s) (hp : p.size ≤ 100000) (hq : q.size ≤ 100000) :
    Calls Tryz.prog 33 #[.pointer (some ⟨sb, 0, none⟩), .string p, .string q] w (OpPost w sb bm (moveA s (bs p) (bs q))) := by
  have hpm : p.size ≤ maxLen := by unfold maxLen; omega
  have hR := Read_any w p _ hS hpm (Lib.hid rfl)
  have hrl := read_len hF (bs p)
  obtain ⟨⟨t, n⟩, hr⟩ : ∃ r, readA (getR s.L (bs p)) = r := ⟨_, rfl⟩
  rw [hr] at hR hrl
  simp only at hrl
  have hmv : moveA s (bs p) (bs q) = if n ≠ 0 then (s, n) else if bs p = bs q then (s, 1) else
    if (writeA s (bs q) t false).2 ≠ 0 then writeA s (bs q) t false else removeA (writeA s (bs q) t false).1 (bs p) false := by unfold moveA; rw [hr]
  have HR := Lib.hid hR
  clear hR hr
  by_cases h0 : n = 0
  · subst h0
    rw [if_neg (by simp)] at hmv
    by_cases hpq : (p.toList == q.toList) = true
    · rw [if_pos (by rw [Lib.toList_data, Lib.toList_data] at hpq; exact eq_of_beq hpq)] at hmv
      have HE := Lib.hid hmv
      clear hmv
      go_enter Tryz.func33, Tryz.ntmps33
      go_wp2_with (go_at_call 15; go_must (refine HR.out.mono ?_); rintro e w1 ⟨rfl, B1⟩)
      go_ret
      rw [HE.out]
      exact ⟨rfl, hS.below B1, .of_below B1⟩
    · have hpq' : (p.toList == q.toList) = false := by simpa using hpq
      rw [if_neg (by intro e; rw [Lib.toList_data, Lib.toList_data] at hpq; exact hpq (beq_iff_eq.2 e))] at hmv
      have hW := fun w1 (B1 : Below w.heap.size w w1) => Write_any w1 q (str t) false (hS.below B1) hF (by omega) (by rw [str_len]; omega)
      rw [bs_str] at hW
      have hF2 := hF.write (p := bs q) (t := t) (by rw [bs_len]; exact hq) false
      obtain ⟨⟨u, m⟩, hu⟩ : ∃ r, writeA s (bs q) t false = r := ⟨_, rfl⟩
      rw [hu] at hW hmv hF2
      simp only at hmv hF2
      have HW := Lib.hid hW
      clear hW hu hpq
      by_cases hm : m = 0
      · subst hm
        rw [if_neg (by simp)] at hmv
        have HE := Lib.hid hmv
        clear hmv
        go_enter Tryz.func33, Tryz.ntmps33
        go_wp2_with (go_at_call 15; go_must (refine HR.out.mono ?_); rintro e w1 ⟨rfl, B1⟩)
        go_wp2_with (go_at_call 13; go_must (refine (HW.out _ B1).mono ?_); rintro e w2 ⟨rfl, hS2, hK2⟩)
        have HM := Lib.hid (Remove_any w2 p false hS2 hF2 (by omega))
        go_wp2_with (go_at_call 31; go_must (refine HM.out.mono ?_); rintro e w3 ⟨rfl, hS3, hK3⟩)
        go_ret
        rw [HE.out]
        exact ⟨rfl, hS3, ((Kept.of_below B1).trans hK2).trans hK3⟩
      · rw [if_pos hm] at hmv
        have hm' : (m == 0) = false := by simpa using hm
        have HE := Lib.hid hmv
        clear hmv
        go_enter Tryz.func33, Tryz.ntmps33
        go_wp2_with (go_at_call 15; go_must (refine HR.out.mono ?_); rintro e w1 ⟨rfl, B1⟩)
        go_wp2_with (go_at_call 13; go_must (refine (HW.out _ B1).mono ?_); rintro e w2 ⟨rfl, hS2, hK2⟩)
        go_ret
        rw [HE.out]
        exact ⟨rfl, hS2, (Kept.of_below B1).trans hK2⟩
  · rw [if_pos h0] at hmv
    have h0' : (n == 0) = false := by simpa using h0
    have HE := Lib.hid hmv
    clear hmv
    go_enter Tryz.func33, Tryz.ntmps33
    go_wp2_with (go_at_call 15; go_must (refine HR.out.mono ?_); rintro e w1 ⟨rfl, B1⟩)
    go_ret
    rw [HE.out]
    exact ⟨rfl, hS.below B1, .of_below B1⟩
end Go.Proofs.YtmmilnmlmgcobaaGreatDoor.Sw
