/-
  package text: filter and filter-out.
-/
import Derived.Laws.EntriesVeiled
import Derived.Test.YtenokbceamcekaaGreatDoorQEPMatch
import Derived.Test.YtenokbceamcekaaGreatDoorQEEach
namespace Go.Proofs.YtenokbceamcekaaGreatDoor.Ew
open Go.RowKit Go.Shelf Go.Proofs.YtenokbceamcekaaGreatDoor Go.Proofs.YtenokbceamcekaaGreatDoor.Ww Go.Proofs.YtenokbceamcekaaGreatDoor.Tw
attribute [local go_sem] Oper.semAt_some
set_option maxRecDepth 100000

abbrev FB : TypeId := 99
/-- What the loop's head knows: the words so far, in a box; the text, in its box. B: where the loop's own blocks begin. -/
def KeI (w2 : World) (cl : Value) (s : ByteArray) (P : List ByteArray) (q : Bool) (pre : List (Nat × Nat)) (W : World) : Prop :=
  (∃ v, Boxed W (w2.heap.size + 1) LT v ∧ W.ownsRow (w2.heap.size + 3) ST 1 v (keptS P q (pre.map (Ww.part s))).length (strsC (keptS P q (pre.map (Ww.part s)))) ∧ True) ∧ Boxed W (w2.heap.size + 1 + 1) ST (.string s) ∧ Boxed W w2.heap.size FB cl ∧ Below w2.heap.size w2 W
theorem KeI.own (w2 : World) (cl : Value) (s : ByteArray) (P : List ByteArray) (q : Bool) (B : Nat) (hB : w2.heap.size ≤ B) : OwnFrom B (KeI w2 cl s P q) :=
  OwnFrom.and (Own.from (holdsRow_own (w2.heap.size + 3) (w2.heap.size + 1) LT ST 1 (fun pre : List (Nat × Nat) => (keptS P q (pre.map (Ww.part s))).length) (fun pre => strsC (keptS P q (pre.map (Ww.part s)))) (fun _ _ => True)) _)
    (OwnFrom.and (Own.from (boxed_own (w2.heap.size + 1 + 1) ST (fun _ : List (Nat × Nat) => .string s)) _) (OwnFrom.and (Own.from (boxed_own w2.heap.size FB (fun _ : List (Nat × Nat) => cl)) _) (ownFrom_below (Nat.le_refl _) hB)))
theorem kept_snoc (P : List ByteArray) (q : Bool) (l : List ByteArray) (x : ByteArray) : keptS P q (l ++ [x]) = keptS P q l ++ (if ofS P x = q then [x] else []) := by
  unfold keptS
  rw [List.filter_append]
  congr 1
  by_cases h : ofS P x = q
  · rw [if_pos h, List.filter_cons_of_pos (by rw [h]; exact beq_self_eq_true q)]; rfl
  · rw [if_neg h, List.filter_cons_of_neg (by rw [beq_iff_eq]; exact h)]; rfl
/-- One word more that is kept. -/
theorem KeI.next {w2 W w5 w6 : World} {s : ByteArray} {P : List ByteArray} {q : Bool} {pre : List (Nat × Nat)} {x : Nat × Nat} {v cl : Value} {a2 : Option Addr} {c2 n : Nat} {o : Obj} (hn : (keptS P q (pre.map (Ww.part s))).length = n) (hv : Boxed W (w2.heap.size + 1) LT v)
    (hrow : W.ownsRow (w2.heap.size + 3) ST 1 v n (strsC (keptS P q (pre.map (Ww.part s))))) (hs1 : Boxed W (w2.heap.size + 1 + 1) ST (.string s)) (hcl : Boxed W w2.heap.size FB cl) (hB : Below w2.heap.size w2 W) (B5 : Below W.heap.size W w5) (hq : ofS P (Ww.part s x) = q)
    (hown : w6.ownsRow (w2.heap.size + 3) ST 1 (.slice a2 (n + 1) c2) (n + 1) (strsC (keptS P q (pre.map (Ww.part s))) ++ [.string (Ww.part s x)])) (hgrow : (w5.alloc o).grownBy w6 v.ownBlock) :
    Boxed w6 (w2.heap.size + 1) LT v ∧ KeepsOthers W (w6.setCell ⟨w2.heap.size + 1, 0, none⟩ (.slice a2 (n + 1) c2)) ∧ KeepB (w2.heap.size + 1 + 1) W (w6.setCell ⟨w2.heap.size + 1, 0, none⟩ (.slice a2 (n + 1) c2)) ∧ KeI w2 cl s P q (pre ++ [x]) (w6.setCell ⟨w2.heap.size + 1, 0, none⟩ (.slice a2 (n + 1) c2)) := by
  have hv5 : Boxed w5 (w2.heap.size + 1) LT v := (B5.block _ hv.lt).trans hv
  have hs5 : Boxed w5 (w2.heap.size + 1 + 1) ST (.string s) := (B5.block _ hs1.lt).trans hs1
  have hrow5 := owns_below hrow B5
  have hB5 : Below w2.heap.size w2 w5 := hB.trans (B5.mono hB.size)
  obtain ⟨hv1, hv2, _, hk2, hb2⟩ := hv5.appended (by decide) (owns_weaken hrow5 (Nat.le_add_right _ 3)) hB5.size (Nat.le_add_right _ 1) (owns_weaken hown (Nat.le_add_right _ 3)) hgrow
  have hr2 := hown.kept (grownBy_setCell' w6 (w2.heap.size + 1) (.slice a2 (n + 1) c2)) (.inr (hv1.not_row (by decide) hown).symm)
  have hcl5 : Boxed w5 w2.heap.size FB cl := (B5.block _ hcl.lt).trans hcl
  have hcl2 := ((hcl5.alloc o).kept hgrow (fun e => by have := (hrow5.lt _ e.symm).1; omega)).other (B' := w2.heap.size + 1) (by omega) (.slice a2 (n + 1) c2)
  have hs2 := ((hs5.alloc o).kept hgrow (fun e => by have := (hrow5.lt _ e.symm).1; omega)).other (B' := w2.heap.size + 1) (by omega) (.slice a2 (n + 1) c2)
  refine ⟨hv1, (keeps_below B5).trans hk2, hs2.trans hs1.symm, ⟨_, hv2, ?_, trivial⟩, hs2, hcl2, hB5.trans hb2⟩
  rw [List.map_append, List.map_singleton, kept_snoc, if_pos hq, List.length_append, hn]
  simpa [strsC] using hr2
/-- One word more that isn't. -/
theorem KeI.skip {w2 W w5 : World} {s : ByteArray} {P : List ByteArray} {q : Bool} {pre : List (Nat × Nat)} {x : Nat × Nat} {v cl : Value} {n : Nat} (hn : (keptS P q (pre.map (Ww.part s))).length = n) (hv : Boxed W (w2.heap.size + 1) LT v)
    (hrow : W.ownsRow (w2.heap.size + 3) ST 1 v n (strsC (keptS P q (pre.map (Ww.part s))))) (hs1 : Boxed W (w2.heap.size + 1 + 1) ST (.string s)) (hcl : Boxed W w2.heap.size FB cl) (hB : Below w2.heap.size w2 W) (B5 : Below W.heap.size W w5) (hq : ¬ ofS P (Ww.part s x) = q) :
    KeepsOthers W w5 ∧ KeepB (w2.heap.size + 1 + 1) W w5 ∧ KeI w2 cl s P q (pre ++ [x]) w5 := by
  have hv5 : Boxed w5 (w2.heap.size + 1) LT v := (B5.block _ hv.lt).trans hv
  have hs5 : Boxed w5 (w2.heap.size + 1 + 1) ST (.string s) := (B5.block _ hs1.lt).trans hs1
  refine ⟨keeps_below B5, B5.block _ hs1.lt, ⟨v, hv5, ?_, trivial⟩, hs5, (B5.block _ hcl.lt).trans hcl, hB.trans (B5.mono hB.size)⟩
  rw [List.map_append, List.map_singleton, kept_snoc, if_neg hq, List.append_nil, hn]
  exact owns_below hrow B5
theorem eg_matcher1 : ∀ args w, (callFunc 110 args).run Tryz.prog w = .ok (.enter 110 args) w := enters_of Tryz.func110 (by kernel_rfl) rfl
set_option maxHeartbeats 4000000 in
theorem filter1_any (w : World) (pt s : ByteArray) (hp : pt.size ≤ 9000) (hs : s.size ≤ 9000) (cb : Nat) (q : Bool) (hbox : Boxed w cb 4 (.bool q)) :
    Calls Tryz.prog 90 #[.string pt, .string s, .pointer (some ⟨cb, 0, none⟩)] w fun e w' => e = .returned (.string (joinS (keptS (wordsS pt) q (wordsS s)))) ∧ Below w.heap.size w w' := by
  obtain ⟨i0, hi, hz0, hz1, hz2⟩ := info_parts infoS
  have hil := items_size s
  have hwp := words_few pt
  have hmx : Tryz.prog.follows .mixedOrders = true := by kernel_rfl
  have HBX := Lib.hid hbox
  have HSp := Lib.hid (PSplit_any w pt (by omega))
  have HSz : Hid (∀ p ∈ wordsS pt, p.size ≤ 100000) := Lib.hid fun p h => by have := words_size h; omega
  have HSw : Hid (∀ p ∈ wordsS s, p.size ≤ 100000) := Lib.hid fun p h => by have := words_size h; omega
  generalize wordsS pt = P at *
  have HE : Hid ((Wp.items (by8 s)).map (Ww.part s) = wordsS s) := Lib.hid rfl
  have hwl := words_few s
  clear hbox
  refine (callsIn_wide (n := 9)).1 ?_
  refine callsIn_of_wp_marks Tryz.func90 rfl trivial ?_ rfl
  simp only [Tryz.ntmps90, List.size_toArray, List.length_cons, List.length_nil, Nat.reduceAdd, Nat.reduceSub, Array.replicate_succ, Array.replicate_zero, List.push_toArray, List.append_toArray, List.nil_append, List.cons_append]
  gi_wp2_with (first
    | (refine ⟨trivial, ?_⟩; gi_at_call 19; refine (callsIn_wide.2 HSp.out).mono ?_; rintro e w1 ⟨a1, c1, rfl, HO1, B1⟩; have HB1 := Lib.hid B1; have HMr := Lib.hid (matcher_any w1 (.slice a1 P.length c1) P (Rd.of_own HO1.out) (by omega) HSz.out); clear B1)
    | (refine ⟨trivial, ?_⟩; gi_at_call 91; refine (callsIn_wide.2 HMr.out).mono ?_; rintro e w2 ⟨rfl, hM2, B2⟩; obtain ⟨vm, km, hM2⟩ := hM2; have HM2 := Lib.hid hM2; have HB2 := Lib.hid (HB1.out.trans (B2.mono HB1.out.size)); clear hM2 B2)
    | (refine ⟨trivial, ?_⟩; gi_at_call 38; refine (callsIn_wide.2 (Ww.Each_any _ s)).mono ?_; rintro e w' ⟨rfl, rfl⟩))
  obtain ⟨cl, HCL⟩ : ∃ cl : Value, Hid (cl = .func (.func 110) #[] #[.pointer (some ⟨w1.heap.size + 1, 0, none⟩), .pointer (some ⟨w1.heap.size + 1 + 1, 0, none⟩)]) := ⟨_, Lib.hid rfl⟩
  have k0 := Boxed.new w2 FB cl
  have k1 := Boxed.new (w2.alloc (.cells #[cl] FB)) LT (.slice none 0 0)
  have k2 := Boxed.new ((w2.alloc (.cells #[cl] FB)).alloc (.cells #[.slice none 0 0] LT)) ST (.string s)
  simp only [World.size_alloc] at k1 k2
  have hB0 : Below w2.heap.size w2 (((w2.alloc (.cells #[cl] FB)).alloc (.cells #[.slice none 0 0] LT)).alloc (.cells #[.string s] ST)) := (((Below.refl _ w2).alloc (Nat.le_refl _) _).alloc (by simp) _).alloc (by simp; omega) _
  rw [← HCL.out]
  refine range_law (by omega) (gf := 48) (lb := #[.pointer (some ⟨w2.heap.size + 1 + 1, 0, none⟩)]) rfl (enters_of Tryz.func48 (by kernel_rfl) rfl)
    (each_iters _ (by omega) (w2.heap.size + 1 + 1) s (by omega) _ k2) mineE_keeps (keepB_trans _) (keepB_put (by simp)) (fun _ => rfl)
    (KeI w2 cl s P q) (fun _ _ _ => False) (KeI.own w2 cl s P q _ (by simp; omega)) (fun _ _ _ _ _ h _ _ => h) (fun _ X Y h e => by cases e; exact h)
    ⟨⟨_, k1.alloc _, World.ownsRow_nil _ _ _ _, trivial⟩, k2, (k0.alloc _).alloc _, hB0⟩
    ?a1 ?assign ?body ?done ?stop
  case assign =>
    intro l x W K hK
    gi_wp2
    exact hK
  case body =>
    rintro l pre x W ⟨⟨v, hv, hrow, _⟩, hs1, hcl, hB⟩ hsp
    have hpl : (pre ++ [x]).length ≤ (Wp.items (by8 s)).length := hsp.length_le
    simp only [List.length_append, List.length_singleton] at hpl
    have hkl := kept_len P q (pre.map (Ww.part s))
    rw [List.length_map] at hkl
    obtain ⟨n, HNn⟩ : ∃ n, Hid ((keptS P q (pre.map (Ww.part s))).length = n) := ⟨_, Lib.hid rfl⟩
    rw [HNn.out] at hrow hkl
    have HWB := Lib.hid (HB2.out.trans (hB.mono HB2.out.size))
    have hcb : Boxed W cb 4 (.bool q) := (HWB.out.block _ HBX.out.lt).trans HBX.out
    have ccb := hcb.cell
    have ccl := hcl.cell
    rw [HCL.out] at ccl
    have HM := Lib.hid (HM2.out.below hB)
    have hps := part_size s x
    have HC := Lib.hid (matcher1_any W.drew w1.heap.size vm P km (Ww.part s x) (HM.out.below (Below.refl _ W).drew) (by omega) HSz.out (by omega))
    have HV := Lib.hid hv
    have HRow := Lib.hid hrow
    have HNx := Lib.hid fun w5 w6 a2 c2 o => @KeI.next w2 W w5 w6 s P q pre x v cl a2 c2 n o HNn.out hv hrow hs1 hcl hB
    have HSk := Lib.hid fun w5 => @KeI.skip w2 W w5 s P q pre x v cl n HNn.out hv hrow hs1 hcl hB
    have hws : w2.heap.size + 3 ≤ W.heap.size := hs1.lt
    clear hrow hv hs1 hcl hB k0 k1 k2 hB0 hcb
    obtain ⟨b, HBb⟩ : ∃ b, Hid (ofS P (Ww.part s x) = b) := ⟨_, Lib.hid rfl⟩
    rw [HBb.out] at HC HNx HSk
    generalize Ww.part s x = r at *
    by_cases hbq : b = q
    · subst hbq
      gi_wp2
      gi_region_with_o (refine ⟨trivial, ?_⟩; gi_at_call 110; refine (CallsIn.inRound l (callsIn_wide.2 HC.out)).mono ?_; rintro e w5 ⟨rfl, B5⟩; have ccb5 := (B5.cell (p := ⟨cb, 0, none⟩) (by have h1 := HBX.out.lt; have h2 := HWB.out.size; show cb < W.heap.size; omega)).trans ccb; have HB5 := Lib.hid (((Below.refl W.heap.size W).drew).trans B5); have HRow5 := Lib.hid (owns_below HRow.out HB5.out); have hv5 : Boxed w5 (w2.heap.size + 1) LT v := (HB5.out.block _ HV.out.lt).trans HV.out; have cv5 := hv5.cell; have hs5 := HB5.out.size; clear hv5 B5)
      all_goals (gi_wp2_with (gi_at_builtin; refine wpListIn_append_own _ rfl _ _ LT rfl (w2.heap.size + 3) ST i0 (.string ByteArray.empty) 1 16 Tryz.underlying22 hi hz0 hz1 hz2 rfl (by decide) _ _ _ rfl (HRow5.out.alloc _) ⟨w5.heap.size, 0, none⟩ 1 1 [.string r] rfl rfl (cell_one_new _ _ _) (by simp [Value.oneCell']) (by unfold maxLen; omega) (by omega) (by simp; omega) ?_; intro v' w6 own6 grew6 _; obtain ⟨a2, c2, rfl⟩ := owns_slice own6; obtain ⟨hv6, hko, hkb, hn⟩ := HNx.out _ _ _ _ _ HB5.out (by trivial) own6 grew6; have cv6 := hv6.cell; have fv6 := hv6.frozen; have HKO := Lib.hid hko; have HKB := Lib.hid hkb; have HNN := Lib.hid hn; clear hko hkb hn hv6 own6 grew6); exact ⟨HKO.out, HKB.out, HNN.out⟩)
    · have hne : (b == q) = false := beq_eq_false_iff_ne.2 hbq
      gi_wp2
      gi_region_with_o (refine ⟨trivial, ?_⟩; gi_at_call 110; refine (CallsIn.inRound l (callsIn_wide.2 HC.out)).mono ?_; rintro e w5 ⟨rfl, B5⟩; have ccb5 := (B5.cell (p := ⟨cb, 0, none⟩) (by have h1 := HBX.out.lt; have h2 := HWB.out.size; show cb < W.heap.size; omega)).trans ccb; have HB5 := Lib.hid (((Below.refl W.heap.size W).drew).trans B5); have HRow5 := Lib.hid (owns_below HRow.out HB5.out); have hv5 : Boxed w5 (w2.heap.size + 1) LT v := (HB5.out.block _ HV.out.lt).trans HV.out; have cv5 := hv5.cell; have hs5 := HB5.out.size; clear hv5 B5)
      all_goals (gi_wp2; exact HSk.out _ HB5.out (by first | trivial | exact hbq))
  case done =>
    rintro D xs W hD rfl ⟨⟨v, hv, hrow, _⟩, hs1, hcl, hB⟩ hK
    have hvc := hv.cell
    rw [HE.out] at hrow
    have HL := Lib.hid (PJoin_any W v (keptS P q (wordsS s)) (Rd.of_own hrow) (by have := kept_len P q (wordsS s); omega) (fun y hy => HSw.out y (List.mem_filter.1 hy).1))
    have HB := Lib.hid (HB2.out.trans (hB.mono HB2.out.size))
    have HK := Lib.hid hK
    have hD' : w2.heap.size + 3 ≤ D := by simp at hD; omega
    have hDW : D < W.heap.size := (Array.getElem?_eq_some_iff.1 hK).1
    have hw2 := HB2.out.size
    obtain ⟨a0, c0, rfl⟩ := owns_slice hrow
    clear k0 k1 k2 hB0 hv hs1 hrow hcl hB hK
    gi_wp2_with (refine ⟨trivial, ?_⟩; gi_at_call 8; refine (callsIn_wide.2 HL.out).mono ?_; rintro e w3 ⟨rfl, B3⟩)
    have hK3 := (B3.block D hDW).trans HK.out
    refine ⟨by simp, .inl ⟨_, _, rfl, run_takeDeferred hK3, ?_⟩⟩
    exact ⟨_, results_tmp rfl _ _ _, rfl, (HB.out.trans (B3.mono HB.out.size)).trans (belowK_b (w := w) (Nat.le_refl _) w3 D _ _ (by omega) hK3 rfl rfl)⟩
  case stop =>
    rintro D c pre W _ _ h _
    exact h.elim
end Go.Proofs.YtenokbceamcekaaGreatDoor.Ew
