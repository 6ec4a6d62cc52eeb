/-
  vars.New, (*Table).Get, wrong.
-/
import Derived.Test.YtebagfadcjgllaaGreatDoorJTab
import Derived.Test.YtebagfadcjgllaaGreatDoorJSmall0
namespace Go.Proofs.YtebagfadcjgllaaGreatDoor.Jw
open Go.RowKit Go.Proofs.YtebagfadcjgllaaGreatDoor Go.Proofs.YtebagfadcjgllaaGreatDoor.Ww Go.Proofs.YtebagfadcjgllaaGreatDoor.Tw Go.Proofs.YtebagfadcjgllaaGreatDoor.Kw
set_option maxRecDepth 100000

theorem Grown.nil (w : World) (O : Bs → List Nat) : Grown w [] O := ⟨fun e h => (by cases h), fun e h => (by cases h)⟩
theorem PNew_any (w : World) : Calls Tryz.prog 9 #[] w fun e w' => e = .returned (.pointer (some ⟨w.heap.size, 0, none⟩)) ∧ Tab w' w.heap.size [w.heap.size] [] [] false ∧ Below w.heap.size w w' := by
  have hb := heap_last w (.cells #[.map none, .map none, .bool false] PT)
  have hB := (Below.refl w.heap.size w).alloc (Nat.le_refl _) (.cells #[.map none, .map none, .bool false] PT)
  have HB := Lib.hid hb
  clear hb
  go_enter Tryz.func9, Tryz.ntmps9
  go_wp2
  go_ret
  refine ⟨rfl, ⟨[], none, none, fun _ => [], ⟨HB.out, rfl, rfl, fun b h => (by cases h), fun e h => (by cases h), Grown.nil _ _, by simp, fun b h => (by cases h), fun b h => (by cases h), fun e h => (by cases h)⟩, rfl⟩, hB⟩

set_option maxHeartbeats 2000000 in
theorem PWrong_any (w : World) (v : Jp.V) : Calls Tryz.prog 17 #[.agg (vA v)] w fun e w' => e = .returned (.bool (!Jp.rightA v)) ∧ Below w.heap.size w w' := by
  have HB := Lib.hid ((Below.refl w.heap.size w).alloc (Nat.le_refl _) (.cells (vA v) PV))
  have hb := heap_last w (.cells (vA v) PV)
  have c0 := cell_at (i := 0) hb rfl
  have c1 := cell_at (i := 1) hb rfl
  have c2 := cell_at (i := 2) hb rfl
  have c3 := cell_at (i := 3) hb rfl
  clear hb
  unfold vA at *
  by_cases h0 : v.n = []
  · have HR : Hid (Jp.rightA v = false) := Lib.hid (by unfold Jp.rightA; rw [h0]; rfl)
    have e0 := emp_yes h0
    clear h0
    go_enter Tryz.func17, Tryz.ntmps17
    go_wp2_with fail
    go_ret
    exact ⟨ret_bool (by rw [HR.out]; rfl), HB.out⟩
  · have e0 := emp_no h0
    have e1 := emp_is h0
    by_cases h1 : 0 ≤ v.f
    · by_cases h2 : v.f ≤ 4
      · have HR : Hid (Jp.rightA v = true) := Lib.hid (by
          unfold Jp.rightA
          rw [decide_eq_true h1, decide_eq_true h2]
          cases hn : v.n with
          | nil => exact absurd hn h0
          | cons => rfl)
        have k1 : ¬ v.f < 0 := by omega
        have k2 : ¬ 4 < v.f := by omega
        clear h0
        go_enter Tryz.func17, Tryz.ntmps17
        go_wp2_with fail
        go_ret
        exact ⟨ret_bool (by rw [HR.out]; rfl), HB.out⟩
      · have HR : Hid (Jp.rightA v = false) := Lib.hid (by
          unfold Jp.rightA
          rw [decide_eq_false h2, Bool.and_false, Bool.and_false])
        have k1 : ¬ v.f < 0 := by omega
        have k2 : 4 < v.f := by omega
        clear h0
        go_enter Tryz.func17, Tryz.ntmps17
        go_wp2_with fail
        go_ret
        exact ⟨ret_bool (by rw [HR.out]; rfl), HB.out⟩
    · have HR : Hid (Jp.rightA v = false) := Lib.hid (by
        unfold Jp.rightA
        rw [decide_eq_false h1, Bool.false_and, Bool.and_false])
      have k1 : v.f < 0 := by omega
      clear h0
      go_enter Tryz.func17, Tryz.ntmps17
      go_wp2_with fail
      go_ret
      exact ⟨ret_bool (by rw [HR.out]; rfl), HB.out⟩

theorem PGet_nil (w : World) (p : ByteArray) :
    Calls Tryz.prog 53 #[.pointer none, .string p] w fun e w' => e = gV none ∧ Below w.heap.size w w' := by
  go_enter Tryz.func53, Tryz.ntmps53
  go_wp2
  exact bodyPost_ret (v := .tuple #[.agg zeroV, .bool false]) (by simp [results, Tryz.results53, go_sem]; rfl) rfl ⟨rfl, ((Below.refl _ w).alloc (Nat.le_refl _) _)⟩

theorem PGet_at (w : World) {tb : Nat} {X : List Nat} {E : List (Bs × KE)} {M : List (Bs × Int)} {all : Bool} {mv mn : Option Nat} {O : Bs → List Nat} (h : TabAt w tb X E M all mv mn O) (p : ByteArray) (hp : p.size ≤ maxLen) (v : Jp.V) (q : Option Addr) (b : Bool)
    (hV : Hid (keV (valA KK E (by8 p)) = .agg #[.string (str v.n), .string (str v.x), .bool v.s, .int .i64 v.f, .pointer q] ∧ (Kp.get E (by8 p)).isSome = b)) :
    Calls Tryz.prog 53 #[.pointer (some ⟨tb, 0, none⟩), .string p] w fun e w' => e = .returned (.tuple #[.agg (vA v), .bool b]) ∧ Below w.heap.size w w' := by
  have c0 := h.c0
  have hlt := h.lt
  have hM := h.vars.below ((Below.refl w.heap.size w).alloc (Nat.le_refl _) (.cells zeroV PV))
  clear h
  go_enter Tryz.func53, Tryz.ntmps53
  go_wp2_with (at_lookup; refine wpList_look_ok (K := KK) _ rfl _ _ rfl rfl rfl hM hp (.agg #[.string (str v.n), .string (str v.x), .bool v.s, .int .i64 v.f, .pointer q]) b hV ?_)
  exact bodyPost_ret (v := .tuple #[.agg (vA v), .bool b]) (by simp [results, Tryz.results53, go_sem]; rfl) rfl ⟨rfl, (((Below.refl _ w).alloc (Nat.le_refl _) _).alloc (by simp) _)⟩

/-- What is at a name. -/
theorem TabAt.got {w : World} {tb : Nat} {X : List Nat} {E : List (Bs × KE)} {M : List (Bs × Int)} {all : Bool} {mv mn : Option Nat} {O : Bs → List Nat} (h : TabAt w tb X E M all mv mn O) (p : Bs) :
    (Jp.getA (E.map fun e => e.2.v) p = none ∧ valA KK E p = ke0 ∧ (Kp.get E p).isSome = false) ∨ ∃ e ∈ E, Kp.get E p = some e ∧ e.1 = p ∧ Jp.getA (E.map fun e => e.2.v) p = some e.2.v ∧ valA KK E p = e.2 ∧ (Kp.get E p).isSome = true := by
  have hg := get_map h.keys p
  cases hq : Kp.get E p with
  | none =>
    refine .inl ⟨by rw [hg, hq]; rfl, ?_, rfl⟩
    unfold valA; rw [hq]; rfl
  | some e =>
    have he := (Kp.get_some h.vars.sorted).1 hq
    refine .inr ⟨e, he.1, rfl, he.2, by rw [hg, hq]; rfl, ?_, rfl⟩
    unfold valA; rw [hq]; rfl

/-- (*Table).Get. -/
theorem PGet_any (w : World) {tb : Nat} {X : List Nat} {L : List Jp.V} {M : List (Bs × Int)} {all : Bool} (h : Tab w tb X L M all) (p : ByteArray) (hp : p.size ≤ maxLen) :
    Calls Tryz.prog 53 #[.pointer (some ⟨tb, 0, none⟩), .string p] w fun e w' => e = gV (Jp.getA L (by8 p)) ∧ Below w.heap.size w w' := by
  obtain ⟨E, mv, mn, O, h, rfl⟩ := h
  rcases h.got (by8 p) with ⟨h1, h2, h3⟩ | ⟨e, he, h0, hk, h1, h2, h3⟩
  · rw [h1]
    exact PGet_at w h p hp Jp.zero none false (Lib.hid ⟨by rw [h2]; rfl, h3⟩)
  · rw [h1]
    obtain ⟨e1, v, g⟩ := e
    dsimp only at *
    exact PGet_at w h p hp v _ true (Lib.hid ⟨by rw [h2]; rfl, h3⟩)
end Go.Proofs.YtebagfadcjgllaaGreatDoor.Jw
