/-
  expand.changed, at the chapter's example: how long its words are once they are changed.
-/
import Derived.Test.YtebagfadcjgllaaGreatDoorWSplit
import Derived.Test.YtebagfadcjgllaaGreatDoorTAll0
namespace Go.Proofs.YtebagfadcjgllaaGreatDoor.Xc
open Go.RowKit Go.Shelf Go.Proofs.YtebagfadcjgllaaGreatDoor Go.Proofs.YtebagfadcjgllaaGreatDoor.Ww Go.Proofs.YtebagfadcjgllaaGreatDoor.Tw
attribute [local go_sem] Oper.semAt_some
set_option maxRecDepth 100000

abbrev IT : TypeId := 3
abbrev BoT : TypeId := 4
abbrev SS : TypeId := 9
/-- a.c b.c, %.c, %.o. -/
def sX : ByteArray := str [97, 46, 99, 32, 98, 46, 99]
def fX : ByteArray := str [37, 46, 99]
def tX : ByteArray := str [37, 46, 111]
theorem items_X : Wp.items (by8 sX) = [(0, 3), (4, 7)] := by decide
theorem words_X : wordsS sX = [str [97, 46, 99], str [98, 46, 99]] := by
  unfold wordsS
  rw [items_X]; rfl
theorem word_X {x : Nat × Nat} (h : x ∈ Wp.items (by8 sX)) : ∃ c, Ww.part sX x = str [c, 46, 99] ∧ Tp.matchA (by8 fX) (by8 (Ww.part sX x)) = some [c] := by
  rw [items_X] at h
  rcases List.mem_cons.1 h with rfl | h
  · exact ⟨97, by rfl, by decide⟩
  · rcases List.mem_cons.1 h with rfl | h
    · exact ⟨98, by rfl, by decide⟩
    · cases h

def CI (w : World) (kb : Nat) (pre : List (Nat × Nat)) (W : World) : Prop :=
  Boxed W w.heap.size SS (.string fX) ∧ Boxed W (w.heap.size + 1) SS (.string tX) ∧ Boxed W kb BoT (.bool true) ∧ Boxed W (kb + 1) IT (.int .i64 ((3 * pre.length : Nat) : Int)) ∧ Boxed W (kb + 2) SS (.string sX) ∧ Below w.heap.size w W
def BX (w : World) (kb : Nat) (n : Int) (W : World) : Prop :=
  Boxed W w.heap.size SS (.string fX) ∧ Boxed W (w.heap.size + 1) SS (.string tX) ∧ Boxed W kb BoT (.bool true) ∧ Boxed W (kb + 1) IT (.int .i64 n) ∧ Boxed W (kb + 2) SS (.string sX) ∧ Below w.heap.size w W
theorem BX.set {w W : World} {kb : Nat} {n : Int} (h : BX w kb n W) (hk : w.heap.size + 1 < kb) (m : Int) : BX w kb m (W.setCell ⟨kb + 1, 0, none⟩ (.int .i64 m)) :=
  ⟨h.1.other (by omega) _, h.2.1.other (by omega) _, h.2.2.1.other (by omega) _, h.2.2.2.1.set _, h.2.2.2.2.1.other (by omega) _, h.2.2.2.2.2.setCell (p := ⟨kb + 1, 0, none⟩) (by show w.heap.size ≤ kb + 1; omega) _⟩
theorem BX.below {w W W' : World} {kb : Nat} {n : Int} (h : BX w kb n W) (hB : Below W.heap.size W W') : BX w kb n W' :=
  ⟨(hB.block _ h.1.lt).trans h.1, (hB.block _ h.2.1.lt).trans h.2.1, (hB.block _ h.2.2.1.lt).trans h.2.2.1, (hB.block _ h.2.2.2.1.lt).trans h.2.2.2.1, (hB.block _ h.2.2.2.2.1.lt).trans h.2.2.2.2.1, h.2.2.2.2.2.trans (hB.mono h.2.2.2.2.2.size)⟩
theorem keeps_below {W W' : World} (h : Below W.heap.size W W') : KeepsOthers W W' := ⟨h.size, fun k _ hk _ => (h.block k (Array.getElem?_eq_some_iff.1 hk).1).trans hk⟩
theorem CI.own (w : World) (kb : Nat) (B : Nat) (hB : w.heap.size ≤ B) : OwnFrom B (CI w kb) :=
  OwnFrom.and (Own.from (boxed_own w.heap.size SS (fun _ : List (Nat × Nat) => .string fX)) _) (OwnFrom.and (Own.from (boxed_own (w.heap.size + 1) SS (fun _ : List (Nat × Nat) => .string tX)) _) (OwnFrom.and (Own.from (boxed_own kb BoT (fun _ : List (Nat × Nat) => .bool true)) _)
    (OwnFrom.and (Own.from (boxed_own (kb + 1) IT (fun pre : List (Nat × Nat) => .int .i64 ((3 * pre.length : Nat) : Int))) _) (OwnFrom.and (Own.from (boxed_own (kb + 2) SS (fun _ : List (Nat × Nat) => .string sX)) _) (ownFrom_below (Nat.le_refl _) hB)))))

set_option maxHeartbeats 4000000 in
theorem changed_X (w : World) : Calls Tryz.prog 83 #[.string sX, .string fX, .string tX] w fun e w' => e = .returned (.int .i64 6) ∧ Below w.heap.size w w' := by
  have HH1 := Lib.hid fun W => Has_any W fX (by decide)
  have HH2 := Lib.hid fun W => Has_any W tX (by decide)
  rw [show (Tp.atA (by8 fX)).isSome = true by decide] at HH1
  rw [show (Tp.atA (by8 tX)).isSome = true by decide] at HH2
  have hs : sX.size ≤ 1000 := by decide
  refine (callsIn_wide (n := 9)).1 ?_
  refine callsIn_of_wp_marks Tryz.func83 rfl trivial ?_ rfl
  simp only [Tryz.ntmps83, List.size_toArray, List.length_cons, List.length_nil, Nat.reduceAdd, Nat.reduceSub, Array.replicate_succ, Array.replicate_zero, List.push_toArray, List.append_toArray, List.nil_append, List.cons_append]
  gi_wp2_with fail
  refine ⟨trivial, (callsIn_wide.2 (HH1.out _)).mono ?_⟩
  rintro e w1 ⟨rfl, B1⟩
  have f1 := Boxed.new w SS (.string fX)
  have t1 := Boxed.new (w.alloc (.cells #[.string fX] SS)) SS (.string tX)
  simp only [World.size_alloc] at t1
  have hB0 : Below w.heap.size w ((w.alloc (.cells #[.string fX] SS)).alloc (.cells #[.string tX] SS)) := ((Below.refl _ w).alloc (Nat.le_refl _) _).alloc (by simp) _
  have HF := Lib.hid ((B1.block _ (f1.alloc _).lt).trans (f1.alloc (.cells #[.string tX] SS)))
  have HT := Lib.hid ((B1.block _ t1.lt).trans t1)
  have HB := Lib.hid (hB0.trans (B1.mono hB0.size))
  have ct := Boxed.cell HT.out
  clear f1 t1 hB0 B1 HH1
  gi_wp2_with fail
  refine ⟨trivial, (callsIn_wide.2 (HH2.out _)).mono ?_⟩
  rintro e w2 ⟨rfl, B2⟩
  have HF2 := Lib.hid ((B2.block _ (Boxed.lt HF.out)).trans HF.out)
  have HT2 := Lib.hid ((B2.block _ (Boxed.lt HT.out)).trans HT.out)
  have HB2 := Lib.hid (HB.out.trans (B2.mono HB.out.size))
  clear HF HT HB HH2 B2 ct
  gi_wp2_with (refine ⟨trivial, ?_⟩; gi_at_call 35; refine (callsIn_wide.2 (Ww.Each_any _ sX)).mono ?_; rintro e w' ⟨rfl, rfl⟩)
  have k0 := Boxed.new w2 BoT (.bool true)
  have k1 := Boxed.new (w2.alloc (.cells #[.bool true] BoT)) IT (.int .i64 0)
  have k2 := Boxed.new ((w2.alloc (.cells #[.bool true] BoT)).alloc (.cells #[.int .i64 0] IT)) SS (.string sX)
  have A1 := (Below.refl w2.heap.size w2).alloc (Nat.le_refl _) (.cells #[.bool true] BoT)
  have A2 := A1.alloc A1.size (.cells #[.int .i64 0] IT)
  have A3 := A2.alloc A2.size (.cells #[.string sX] SS)
  simp only [World.size_alloc] at k1 k2
  have hF3 := (A3.block _ (Boxed.lt HF2.out)).trans HF2.out
  have hT3 := (A3.block _ (Boxed.lt HT2.out)).trans HT2.out
  have hB3 := HB2.out.trans (A3.mono HB2.out.size)
  have hw2 : w.heap.size + 1 < w2.heap.size := Boxed.lt HT2.out
  have hI0 : CI w w2.heap.size [] (((w2.alloc (.cells #[.bool true] BoT)).alloc (.cells #[.int .i64 0] IT)).alloc (.cells #[.string sX] SS)) := ⟨hF3, hT3, (k0.alloc _).alloc _, k1.alloc _, k2, hB3⟩
  refine range_law (by omega) (gf := 49) (lb := #[.pointer (some ⟨w2.heap.size + 1 + 1, 0, none⟩)]) rfl (enters_of Tryz.func49 (by kernel_rfl) rfl)
    (each_iters _ (by omega) (w2.heap.size + 1 + 1) sX (by omega) _ k2) mineE_keeps (keepB_trans _) (keepB_put (by simp)) (fun _ => rfl)
    (CI w w2.heap.size) (fun _ _ _ => False) (CI.own w w2.heap.size _ (by simp; omega)) (fun _ _ _ _ _ h _ _ => h) (fun _ X Y h e => by cases e; exact h)
    hI0
    ?a1 ?assign ?body ?done ?stop
  case assign =>
    intro l x W K hK
    gi_wp2
    exact hK
  case body =>
    rintro l pre x W ⟨hf, ht, hk, hn, hsb, hB⟩ hsp
    clear k0 k1 k2 A1 A2 A3 hF3 hT3 hB3 hI0
    have hpl := hsp.length_le
    rw [items_X] at hpl
    simp only [List.length_append, List.length_cons, List.length_nil] at hpl
    obtain ⟨c, hx, hm⟩ := word_X (hsp.subset (List.mem_append_right pre (List.mem_singleton.2 rfl)))
    have HM := Lib.hid fun W => Match_any W fX (str [c, 46, 99]) (by decide) (by rw [str_size]; simp)
    rw [← hx, hm] at HM
    have hz : (Ww.part sX x).size = 3 := by rw [hx]; rfl
    have hfz : fX.size = 3 := rfl
    have htz : tX.size = 3 := rfl
    have hcz : (str [c]).size = 1 := rfl
    have cf := hf.cell
    have ct := ht.cell
    have ck := hk.cell
    have cn := hn.cell
    have fn := hn.frozen
    have lf := hf.lt
    have lt := ht.lt
    have lk := hk.lt
    have ln := hn.lt
    unfold mV at HM
    dsimp only at HM
    clear hx hm
    have hX0 : BX w w2.heap.size _ W := ⟨hf, ht, hk, hn, hsb, hB⟩
    have hX1 := hX0.set hw2 (3 * (pre.length : Int) + 3)
    have hK1 := KeepsOthers.setCell W ⟨w2.heap.size + 1, 0, none⟩ (.int .i64 (3 * (pre.length : Int) + 3))
    have hS1 : (W.setCell ⟨w2.heap.size + 1, 0, none⟩ (.int .i64 (3 * (pre.length : Int) + 3))).heap[w2.heap.size + 2]? = W.heap[w2.heap.size + 2]? := Below.heap_setCell _ _ _ _ (by simp)
    have HX1 := Lib.hid hX1
    have HK1 := Lib.hid hK1
    have HS1 := Lib.hid hS1
    clear hX0 hX1 hK1 hS1 hf ht hk hn hsb hB
    gi_wp2_with fail
    refine ⟨trivial, (CallsIn.inRound l (callsIn_wide.2 (HM.out _))).mono ?_⟩
    rintro e w5 ⟨rfl, B5⟩
    have HX5 := Lib.hid (HX1.out.below B5)
    have HK5 := Lib.hid (HK1.out.trans (keeps_below B5))
    have HS5 := Lib.hid ((B5.block _ (Boxed.lt HX1.out.2.2.2.2.1)).trans HS1.out)
    clear HX1 HK1 HS1 B5 cf ct ck cn fn lf lt lk ln HM
    obtain ⟨hf, ht, hk, hn, hsb, hB⟩ := HX5.out
    have cf := hf.cell
    have ct := ht.cell
    have ck := hk.cell
    have cn := hn.cell
    have fn := hn.frozen
    have lf := hf.lt
    have lt := ht.lt
    have lk := hk.lt
    have ln := hn.lt
    have hX6 := HX5.out.set hw2 (3 * (pre.length : Int) + 3)
    have ck6 := hX6.2.2.1.cell
    have cn6 := hX6.2.2.2.1.cell
    have fn6 := hX6.2.2.2.1.frozen
    have HX7 := Lib.hid (hX6.set hw2 (3 * (pre.length : Int) + 3))
    have HK7 := Lib.hid ((HK5.out.trans (KeepsOthers.setCell _ ⟨w2.heap.size + 1, 0, none⟩ (.int .i64 (3 * (pre.length : Int) + 3)))).trans (KeepsOthers.setCell _ ⟨w2.heap.size + 1, 0, none⟩ (.int .i64 (3 * (pre.length : Int) + 3))))
    have HS7 := Lib.hid ((Below.heap_setCell _ ⟨w2.heap.size + 1, 0, none⟩ (.int .i64 (3 * (pre.length : Int) + 3)) (w2.heap.size + 2) (by simp)).trans ((Below.heap_setCell w5 ⟨w2.heap.size + 1, 0, none⟩ (.int .i64 (3 * (pre.length : Int) + 3)) (w2.heap.size + 2) (by simp)).trans HS5.out))
    clear hf ht hk hn hsb hB hX6 HK5 HS5
    gi_wp2_with fail
    exact ⟨HK7.out, HS7.out, (show BX w w2.heap.size ((3 * (pre ++ [x]).length : Nat) : Int) _ from by rw [show ((3 * (pre ++ [x]).length : Nat) : Int) = 3 * (pre.length : Int) + 3 by simp; omega]; exact HX7.out)⟩
  case done =>
    rintro D xs W hD rfl ⟨hf, ht, hk, hn, hsb, hB⟩ hK
    rw [items_X] at hn
    have cn : W.cell? ⟨w2.heap.size + 1, 0, none⟩ = some (.int .i64 6) := hn.cell
    clear k0 k1 k2 A1 A2 A3 hF3 hT3 hB3 hI0
    have HB3 := Lib.hid hB
    clear hf ht hk hn hsb hB
    gi_wp2
    refine ⟨by simp, .inl ⟨_, _, rfl, run_takeDeferred hK, ?_⟩⟩
    exact ⟨_, results_tmp rfl _ _ _, rfl, HB3.out.trans (belowK_b (w := w) (Nat.le_refl _) W D _ _ (by simp at hD; omega) hK rfl rfl)⟩
  case stop =>
    rintro D c pre W _ _ h _
    exact h.elim
end Go.Proofs.YtebagfadcjgllaaGreatDoor.Xc
