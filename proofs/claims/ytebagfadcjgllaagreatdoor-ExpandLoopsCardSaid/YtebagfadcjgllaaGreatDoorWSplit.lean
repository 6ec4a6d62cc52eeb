/-
  words.Split: the words, in a slice of its own.
-/
import Derived.Maps.AppendAt
import Derived.Test.YtebagfadcjgllaaGreatDoorWReads
import Derived.Test.YtebagfadcjgllaaGreatDoorWEach
namespace Go.Proofs.YtebagfadcjgllaaGreatDoor.Ww
open Go.RowKit Go.Shelf Go.Proofs.YtebagfadcjgllaaGreatDoor
attribute [local go_sem] Oper.semAt_some
set_option maxRecDepth 100000

theorem infoS : (Tryz.prog.info? ST).map (fun i => (i.zero, i.size, i.bytes)) = some (some (.string ByteArray.empty), 1, 16) := by kernel_rfl
theorem owns_weaken {w : World} {base b' : Nat} {e : TypeId} {size : Nat} {v : Value} {n : Nat} {xs : List Value} (h : w.ownsRow base e size v n xs) (hb : b' ≤ base) : w.ownsRow b' e size v n xs := by
  refine ⟨h.1, ?_⟩
  rcases h.2 with h | ⟨g, cap, cur, h1, h2, h3⟩
  · exact .inl h
  · exact .inr ⟨g, cap, cur, h1, Nat.le_trans hb h2, h3⟩
def wordsS (s : ByteArray) : List ByteArray := (Wp.items (by8 s)).map (part s)
theorem wordsS_len (s : ByteArray) : (wordsS s).length = (Wp.items (by8 s)).length := by simp [wordsS]
theorem items_size (s : ByteArray) : (Wp.items (by8 s)).length ≤ s.size := by have := Wp.items_len (by8 s); rwa [by8_len] at this

/-- What the loop's head knows: the words so far, in a box; the text, in its box. -/
def SpI (w : World) (s : ByteArray) (pre : List (Nat × Nat)) (W : World) : Prop :=
  (∃ v, Boxed W w.heap.size 25 v ∧ W.ownsRow (w.heap.size + 2) ST 1 v pre.length (strsC (pre.map (part s))) ∧ True) ∧ Boxed W (w.heap.size + 1) ST (.string s) ∧ Below w.heap.size w W
theorem SpI.own (w : World) (s : ByteArray) (B : Nat) (hB : w.heap.size ≤ B) : OwnFrom B (SpI w s) :=
  OwnFrom.and (Own.from (holdsRow_own (w.heap.size + 2) w.heap.size 25 ST 1 (fun pre : List (Nat × Nat) => pre.length) (fun pre => strsC (pre.map (part s))) (fun _ _ => True)) _)
    (OwnFrom.and (Own.from (boxed_own (w.heap.size + 1) ST (fun _ : List (Nat × Nat) => .string s)) _) (ownFrom_below (Nat.le_refl _) hB))

set_option maxHeartbeats 4000000 in
theorem Split_any (w : World) (s : ByteArray) (hs : s.size ≤ 100000000) :
    Calls Tryz.prog 85 #[.string s] w fun e w' => ∃ v, e = .returned v ∧ w'.ownsRow (w.heap.size + 2) ST 1 v (wordsS s).length (strsC (wordsS s)) ∧ Below w.heap.size w w' := by
  obtain ⟨i0, hi, hz0, hz1, hz2⟩ := info_parts infoS
  have hil := items_size s
  refine (callsIn_wide (n := 9)).1 ?_
  refine callsIn_of_wp_marks Tryz.func85 rfl trivial ?_ rfl
  simp only [Tryz.ntmps85, List.size_toArray, List.length_cons, List.length_nil, Nat.reduceAdd, Nat.reduceSub, Array.replicate_succ, Array.replicate_zero, List.push_toArray, List.append_toArray, List.nil_append, List.cons_append]
  gi_wp2_with (refine ⟨trivial, ?_⟩; gi_at_call 35; refine (callsIn_wide.2 (Each_any _ s)).mono ?_; rintro e w' ⟨rfl, rfl⟩)
  have k0 := Boxed.new w 25 (.slice none 0 0)
  have k1 := Boxed.new (w.alloc (.cells #[.slice none 0 0] 25)) ST (.string s)
  simp only [World.size_alloc] at k1
  have hB0 : Below w.heap.size w ((w.alloc (.cells #[.slice none 0 0] 25)).alloc (.cells #[.string s] ST)) := ((Below.refl _ w).alloc (Nat.le_refl _) _).alloc (by simp) _
  refine range_law (by omega) (gf := 49) (lb := #[.pointer (some ⟨w.heap.size + 1, 0, none⟩)]) rfl (enters_of Tryz.func49 (by kernel_rfl) rfl)
    (each_iters _ (by omega) (w.heap.size + 1) s (by omega) _ k1) mineE_keeps (keepB_trans _) (keepB_put (by simp)) (fun _ => rfl)
    (SpI w s) (fun _ _ _ => False) (SpI.own w s _ (by simp; omega)) (fun _ _ _ _ _ h _ _ => h) (fun _ X Y h e => by cases e; exact h)
    ⟨⟨_, k0.alloc _, World.ownsRow_nil _ _ _ _, trivial⟩, k1, hB0⟩
    (fun x => { tmps := #[.string s, undef, .slice none 0 0, .pointer (some ⟨w.heap.size, 0, none⟩), undef, .string (part s x), .string s, .func (.func 49) #[] #[.pointer (some ⟨w.heap.size + 1, 0, none⟩)], .int .i64 (x.1 : Int), .string (part s x), undef, undef, undef, undef, undef], defers := [] }) ?assign ?body ?done ?stop
  case assign =>
    intro l x W K hK
    gi_wp2
    exact hK
  case body =>
    rintro l pre x W ⟨⟨v, hv, hrow, _⟩, hs1, hB⟩ hsp
    have hpl : (pre ++ [x]).length ≤ (Wp.items (by8 s)).length := hsp.length_le
    simp only [List.length_append, List.length_singleton] at hpl
    have cv0 := hv.cell
    have fv0 := hv.frozen
    clear k0 k1 hB0
    gi_wp2_with (gi_at_builtin; refine wpListIn_append_own _ rfl _ _ 25 rfl (w.heap.size + 2) ST i0 (.string ByteArray.empty) 1 16 Tryz.underlying25 hi hz0 hz1 hz2 rfl (by decide) _ _ _ rfl (hrow.alloc _) ⟨W.heap.size, 0, none⟩ 1 1 [.string (part s x)] rfl rfl (cell_one_new _ _ _) (by simp [Value.oneCell']) (by unfold maxLen; omega) (by omega) (by have := hs1.lt; simp; omega) ?_; intro v' w1 hown' hgrow _; obtain ⟨g', cap', rfl⟩ := ownsRow_succ hown'; obtain ⟨hv1, hv2, _, hk2, hb2⟩ := hv.appended (by decide) (owns_weaken hrow (Nat.le_add_right _ 2)) hB.size (Nat.le_refl _) (owns_weaken hown' (Nat.le_add_right _ 2)) hgrow; have hr2 := hown'.kept (grownBy_setCell' w1 w.heap.size (.slice (some ⟨g', 0, none⟩) (pre.length + 1) cap')) (.inr (hv1.not_row (by decide) hown').symm); have hc1 := hv1.cell; have hf1 := hv1.frozen)
    have hs2 := ((hs1.alloc (.cells #[.string (part s x)] ST)).kept hgrow (fun e => by have := (hrow.lt _ e.symm).1; omega)).other (B' := w.heap.size) (by omega) (.slice (some ⟨g', 0, none⟩) (pre.length + 1) cap')
    refine ⟨hk2, hs2.trans hs1.symm, ⟨_, hv2, ?_, trivial⟩, hs2, hB.trans hb2⟩
    rw [List.map_append, List.length_append]
    simpa [strsC] using hr2
  case done =>
    rintro D xs W hD rfl ⟨⟨v, hv, hrow, _⟩, hs1, hB⟩ hK
    have hvc := hv.cell
    clear k0 k1 hB0
    gi_wp2
    refine ⟨by simp, .inl ⟨_, _, rfl, run_takeDeferred hK, ?_⟩⟩
    exact ⟨_, results_tmp rfl _ _ _, v, rfl, by rw [wordsS_len]; exact ownsRow_putObj hrow _ hK rfl, hB.trans (belowK_b (w := w) (Nat.le_refl _) W D _ _ (by simp at hD; omega) hK rfl rfl)⟩
  case stop =>
    rintro D c pre W _ _ h _
    exact h.elim
end Go.Proofs.YtebagfadcjgllaaGreatDoor.Ww
