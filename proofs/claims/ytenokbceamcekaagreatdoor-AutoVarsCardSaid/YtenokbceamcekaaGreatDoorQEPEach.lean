/-
  text.each: a text's words, each changed by a function, those that aren't empty put together.
-/
import Derived.Test.YtenokbceamcekaaGreatDoorQEPFunc
namespace Go.Proofs.YtenokbceamcekaaGreatDoor.Ew
open Go.RowKit Go.Shelf Go.Proofs.YtenokbceamcekaaGreatDoor Go.Proofs.YtenokbceamcekaaGreatDoor.Ww Go.Proofs.YtenokbceamcekaaGreatDoor.Tw
attribute [local go_sem] Oper.semAt_some
set_option maxRecDepth 100000


abbrev FT : TypeId := 36
/-- What the loop's head knows: the answers so far, in a box; the text, in its box. -/
def EaI (w : World) (s : ByteArray) (f : ByteArray → ByteArray) (pre : List (Nat × Nat)) (W : World) : Prop :=
  (∃ v, Boxed W w.heap.size LT v ∧ W.ownsRow (w.heap.size + 2) ST 1 v pre.length (strsC (pre.map fun x => f (Ww.part s x))) ∧ True) ∧ Boxed W (w.heap.size + 1) ST (.string s) ∧ Below w.heap.size w W
theorem EaI.own (w : World) (s : ByteArray) (f : ByteArray → ByteArray) (B : Nat) (hB : w.heap.size ≤ B) : OwnFrom B (EaI w s f) :=
  OwnFrom.and (Own.from (holdsRow_own (w.heap.size + 2) w.heap.size LT ST 1 (fun pre : List (Nat × Nat) => pre.length) (fun pre => strsC (pre.map fun x => f (Ww.part s x))) (fun _ _ => True)) _)
    (OwnFrom.and (Own.from (boxed_own (w.heap.size + 1) ST (fun _ : List (Nat × Nat) => .string s)) _) (ownFrom_below (Nat.le_refl _) hB))
/-- An append at a step of a region that draws its order, in a round. -/
theorem step_append_own_in {F : Fence} {k : Nat} {P : Program} {ops : Array Oper} {o : Oper} {a : Act} {w : World} {K : Act → World → Prop} {Q : Exit → Act → World → Prop} {E : Prop} (hgd : o.guard = none) (s x : Operand) (t : TypeId)
    (ho : o.op = .call { callee := .builtin .append, args := #[s, x], argTypes := #[t, t] })
    (base : Nat) (e : TypeId) (i : TypeInfo) (z : Value) (size bytes : Nat) (ht : P.underlying t = some (.slice e)) (hi : P.info? e = some i) (hz : i.zero = some z)
    (hsize : i.size = size) (hby : i.bytes = bytes) (hzs : z.cells.size = size) (hsz : 0 < size)
    (v : Value) (n : Nat) (xs : List Value) (hs : a.eval s = v) (hown : w.ownsRow base e size v n xs) (ad : Addr) (m c : Nat) (news : List Value) (hx : a.eval x = .slice (some ad) m c) (hl : news.length = m * size)
    (hnews : ∀ j u, news[j]? = some u → w.cell? (ad.add j) = some u) (h1 : ∀ u ∈ news, u.oneCell' = true)
    (h63 : n + m ≤ maxLen) (hbytes : (n + m) * bytes ≤ 140737488355328) (hbase : base ≤ w.heap.size)
    (h : ∀ v' w', w'.ownsRow base e size v' (n + m) (xs ++ news) → w.grownBy w' v.ownBlock → (v'.ownBlock = v.ownBlock ∨ v'.ownBlock = some w.heap.size) → K (a.put o.dst v') w') :
    if Region.wanted o (yielded ops a.tmps) = true then Oper.wpIn F k P o a w K Q else E := by
  rw [if_pos (by simp [Region.wanted, hgd])]
  obtain ⟨v', w', run, own, grew, _, hat⟩ := run_append_own_at (P := P) (w := w) base t o.type e i z size bytes ht hi hz hsize hby hzs hsz v n xs hown ad m c news hl hnews h1 h63 hbytes hbase
  unfold Oper.wpIn
  refine ⟨?_, ?_⟩
  · simp [Oper.about, ho, resolve, Target.leads, Sem.run_pure]
  · rw [Oper.semAt_plain F _ _ (by rw [ho]; intro c hc'; cases hc')]
    simp [execOp, ho, resolve, invoke, builtin, hs, hx, run, Result.andThen]
    exact h v' w' own grew hat
/-- One word more. -/
theorem EaI.next {w W w5 w6 : World} {s : ByteArray} {f : ByteArray → ByteArray} {pre : List (Nat × Nat)} {x : Nat × Nat} {v : Value} {a2 : Option Addr} {c2 : Nat} {o : Obj} (hv : Boxed W w.heap.size LT v)
    (hrow : W.ownsRow (w.heap.size + 2) ST 1 v pre.length (strsC (pre.map fun x => f (Ww.part s x)))) (hs1 : Boxed W (w.heap.size + 1) ST (.string s)) (hB : Below w.heap.size w W) (B5 : Below W.heap.size W.drew w5)
    (hown : w6.ownsRow (w.heap.size + 2) ST 1 (.slice a2 (pre.length + 1) c2) (pre.length + 1) (strsC (pre.map fun x => f (Ww.part s x)) ++ [.string (f (Ww.part s x))])) (hgrow : (w5.alloc o).grownBy w6 v.ownBlock) :
    Boxed w6 w.heap.size LT v ∧ KeepsOthers W (w6.setCell ⟨w.heap.size, 0, none⟩ (.slice a2 (pre.length + 1) c2)) ∧ KeepB (w.heap.size + 1) W (w6.setCell ⟨w.heap.size, 0, none⟩ (.slice a2 (pre.length + 1) c2)) ∧ EaI w s f (pre ++ [x]) (w6.setCell ⟨w.heap.size, 0, none⟩ (.slice a2 (pre.length + 1) c2)) := by
  have B5' : Below W.drew.heap.size W.drew w5 := B5
  have hv5 : Boxed w5 w.heap.size LT v := (B5.block _ hv.lt).trans hv
  have hs5 : Boxed w5 (w.heap.size + 1) ST (.string s) := (B5.block _ hs1.lt).trans hs1
  have hrow5 := owns_below hrow.drew B5'
  have hB5 : Below w.heap.size w w5 := hB.drew.trans (B5'.mono hB.size)
  obtain ⟨hv1, hv2, _, hk2, hb2⟩ := hv5.appended (by decide) (owns_weaken hrow5 (Nat.le_add_right _ 2)) hB5.size (Nat.le_refl _) (owns_weaken hown (Nat.le_add_right _ 2)) hgrow
  have hr2 := hown.kept (grownBy_setCell' w6 w.heap.size (.slice a2 (pre.length + 1) c2)) (.inr (hv1.not_row (by decide) hown).symm)
  have hs2 := ((hs5.alloc o).kept hgrow (fun e => by have := (hrow5.lt _ e.symm).1; omega)).other (B' := w.heap.size) (by omega) (.slice a2 (pre.length + 1) c2)
  refine ⟨hv1, ((KeepsOthers.drew W).trans (keeps_below B5')).trans hk2, hs2.trans hs1.symm, ⟨_, hv2, ?_, trivial⟩, hs2, hB5.trans hb2⟩
  rw [List.map_append, List.length_append]
  simpa [strsC] using hr2

set_option maxHeartbeats 4000000 in
theorem each1_any (w : World) (s : ByteArray) (hs : s.size ≤ 9000) (cb : Nat) (g : Nat) (lb : Array Value) (f : ByteArray → ByteArray) (eg : ∀ args w, (callFunc g args).run Tryz.prog w = .ok (.enter g args) w)
    (hbox : Boxed w cb FT (.func (.func g) #[] lb)) (HG : ∀ W x, Below w.heap.size w W → x.size ≤ 9000 → Calls Tryz.prog g (#[.string x] ++ lb) W fun e w' => e = .returned (.string (f x)) ∧ Below W.heap.size W w') (hf : ∀ x, x.size ≤ 9000 → (f x).size ≤ 100000) :
    Calls Tryz.prog 95 #[.string s, .pointer (some ⟨cb, 0, none⟩)] w fun e w' => e = .returned (.string (joinS (eachS f (wordsS s)))) ∧ Below w.heap.size w w' := by
  obtain ⟨i0, hi, hz0, hz1, hz2⟩ := info_parts infoS
  have hil := items_size s
  have hmx : Tryz.prog.follows .mixedOrders = true := by kernel_rfl
  have HGG := Lib.hid HG
  have HF := Lib.hid hf
  have HBX := Lib.hid hbox
  clear HG hf hbox
  refine (callsIn_wide (n := 9)).1 ?_
  refine callsIn_of_wp_marks Tryz.func95 rfl trivial ?_ rfl
  simp only [Tryz.ntmps95, List.size_toArray, List.length_cons, List.length_nil, Nat.reduceAdd, Nat.reduceSub, Array.replicate_succ, Array.replicate_zero, List.push_toArray, List.append_toArray, List.nil_append, List.cons_append]
  gi_wp2_with (refine ⟨trivial, ?_⟩; gi_at_call 38; refine (callsIn_wide.2 (Ww.Each_any _ s)).mono ?_; rintro e w' ⟨rfl, rfl⟩)
  have k0 := Boxed.new w LT (.slice none 0 0)
  have k1 := Boxed.new (w.alloc (.cells #[.slice none 0 0] LT)) ST (.string s)
  simp only [World.size_alloc] at k1
  have hB0 : Below w.heap.size w ((w.alloc (.cells #[.slice none 0 0] LT)).alloc (.cells #[.string s] ST)) := ((Below.refl _ w).alloc (Nat.le_refl _) _).alloc (by simp) _
  refine range_law (by omega) (gf := 48) (lb := #[.pointer (some ⟨w.heap.size + 1, 0, none⟩)]) rfl (enters_of Tryz.func48 (by kernel_rfl) rfl)
    (each_iters _ (by omega) (w.heap.size + 1) s (by omega) _ k1) mineE_keeps (keepB_trans _) (keepB_put (by simp)) (fun _ => rfl)
    (EaI w s f) (fun _ _ _ => False) (EaI.own w s f _ (by simp; omega)) (fun _ _ _ _ _ h _ _ => h) (fun _ X Y h e => by cases e; exact h)
    ⟨⟨_, k0.alloc _, World.ownsRow_nil _ _ _ _, trivial⟩, k1, hB0⟩
    ?a1 ?assign ?body ?done ?stop
  case assign =>
    intro l x W K hK
    gi_wp2
    exact hK
  case body =>
    rintro l pre x W ⟨⟨v, hv, hrow, _⟩, hs1, hB⟩ hsp
    have hpl : (pre ++ [x]).length ≤ (Wp.items (by8 s)).length := hsp.length_le
    simp only [List.length_append, List.length_singleton] at hpl
    have cv0 := hv.cell
    have fv0 := hv.frozen
    have hcb : Boxed W cb FT (.func (.func g) #[] lb) := (hB.block _ HBX.out.lt).trans HBX.out
    have ccb := hcb.cell
    have HC := Lib.hid (HGG.out W.drew (Ww.part s x) hB.drew (by have := part_size s x; omega))
    have HNx := Lib.hid fun w5 w6 a2 c2 o => @EaI.next w W w5 w6 s f pre x v a2 c2 o hv hrow hs1 hB
    have HRow := Lib.hid hrow.drew
    have HV := Lib.hid hv
    have hws : w.heap.size + 2 ≤ W.heap.size := hs1.lt
    clear hrow hv hs1 hB hcb k0 k1 hB0
    obtain ⟨r, hr⟩ : ∃ r, f (Ww.part s x) = r := ⟨_, rfl⟩
    rw [hr] at HC HNx
    clear hr
    -- the region, order by order (printed by wip/tools/geneach.py)
    gi_wp2
    refine wpIn_region_any (by assumption) ?_
    change wpAnyIn _ _ _ _ _ _ _ _ _ (World.drew _)
    refine wpAnyIn_ready (rs := [0, 1, 2]) (by kernel_rfl) (by simp) ?_
    refine AllReadyIn.cons rfl (fun K hK => ?_) ?_
    · go_simp
      refine hK _ _ ?_
      clear hK K
      refine wpAnyIn_ready (rs := [1, 2]) (by kernel_rfl) (by simp) ?_
      refine AllReadyIn.cons rfl (fun K hK => ?_) ?_
      · go_simp
        refine hK _ _ ?_
        clear hK K
        refine wpAnyIn_ready (rs := [2]) (by kernel_rfl) (by simp) ?_
        refine AllReadyIn.cons rfl (fun K hK => ?_) ?_
        · go_simp
          refine hK _ _ ?_
          clear hK K
          refine wpAnyIn_ready (rs := [3]) (by kernel_rfl) (by simp) ?_
          refine AllReadyIn.cons rfl (fun K hK => ?_) ?_
          · go_simp; refine ⟨trivial, ?_⟩; gi_at_fn g; refine (CallsIn.inRound l (callsIn_wide.2 HC.out)).mono ?_; rintro e w5 ⟨rfl, B5⟩; have hs5 := B5.size; have HO5 := Lib.hid (owns_below HRow.out B5); have hv5 : Boxed w5 w.heap.size LT v := (B5.block _ HV.out.lt).trans HV.out; have cv5 := hv5.cell; have cv5a := (hv5.alloc (.cells #[.string r] ST)).cell; clear hv5
            go_simp
            refine hK _ _ ?_
            clear hK K
            refine wpAnyIn_ready (rs := [4]) (by kernel_rfl) (by simp) ?_
            refine AllReadyIn.cons rfl (fun K hK => ?_) ?_
            · go_simp
              refine hK _ _ ?_
              clear hK K
              refine wpAnyIn_ready (rs := [5]) (by kernel_rfl) (by simp) ?_
              refine AllReadyIn.cons rfl (fun K hK => ?_) ?_
              · refine step_append_own_in rfl _ _ LT rfl (w.heap.size + 2) ST i0 (.string ByteArray.empty) 1 16 Tryz.underlying22 hi hz0 hz1 hz2 rfl (by decide) v pre.length _ (by simp [go_sem]) (HO5.out.alloc _) ⟨w5.heap.size, 0, none⟩ 1 1 [.string r] (by simp [go_sem]) rfl (cell_one_new _ _ _) (by simp [Value.oneCell']) (by unfold maxLen; omega) (by omega) (by simp at hs5 ⊢; omega) ?_
                intro v' w6 own6 grew6 _
                obtain ⟨a2, c2, rfl⟩ := owns_slice own6
                obtain ⟨hv6, hko, hkb, hn⟩ := HNx.out _ _ _ _ _ B5 own6 grew6
                have cv6 := hv6.cell
                have fv6 := hv6.frozen
                have HKO := Lib.hid hko
                have HKB := Lib.hid hkb
                have HNN := Lib.hid hn
                clear hko hkb hn hv6 own6 grew6 B5
                refine hK _ _ ?_
                clear hK K
                refine wpAnyIn_ready (rs := [6]) (by kernel_rfl) (by simp) ?_
                refine AllReadyIn.cons rfl (fun K hK => ?_) ?_
                · go_simp
                  refine hK _ _ ?_
                  clear hK K
                  refine wpAnyIn_done (by kernel_rfl) ?_ _
                  gi_wp2
                  exact ⟨HKO.out, HKB.out, HNN.out⟩
                exact AllReadyIn.nil
              exact AllReadyIn.nil
            exact AllReadyIn.nil
          exact AllReadyIn.nil
        exact AllReadyIn.nil
      refine AllReadyIn.cons rfl (fun K hK => ?_) ?_
      · go_simp
        refine hK _ _ ?_
        clear hK K
        refine wpAnyIn_ready (rs := [1]) (by kernel_rfl) (by simp) ?_
        refine AllReadyIn.cons rfl (fun K hK => ?_) ?_
        · go_simp
          refine hK _ _ ?_
          clear hK K
          refine wpAnyIn_ready (rs := [3]) (by kernel_rfl) (by simp) ?_
          refine AllReadyIn.cons rfl (fun K hK => ?_) ?_
          · go_simp; refine ⟨trivial, ?_⟩; gi_at_fn g; refine (CallsIn.inRound l (callsIn_wide.2 HC.out)).mono ?_; rintro e w5 ⟨rfl, B5⟩; have hs5 := B5.size; have HO5 := Lib.hid (owns_below HRow.out B5); have hv5 : Boxed w5 w.heap.size LT v := (B5.block _ HV.out.lt).trans HV.out; have cv5 := hv5.cell; have cv5a := (hv5.alloc (.cells #[.string r] ST)).cell; clear hv5
            go_simp
            refine hK _ _ ?_
            clear hK K
            refine wpAnyIn_ready (rs := [4]) (by kernel_rfl) (by simp) ?_
            refine AllReadyIn.cons rfl (fun K hK => ?_) ?_
            · go_simp
              refine hK _ _ ?_
              clear hK K
              refine wpAnyIn_ready (rs := [5]) (by kernel_rfl) (by simp) ?_
              refine AllReadyIn.cons rfl (fun K hK => ?_) ?_
              · refine step_append_own_in rfl _ _ LT rfl (w.heap.size + 2) ST i0 (.string ByteArray.empty) 1 16 Tryz.underlying22 hi hz0 hz1 hz2 rfl (by decide) v pre.length _ (by simp [go_sem]) (HO5.out.alloc _) ⟨w5.heap.size, 0, none⟩ 1 1 [.string r] (by simp [go_sem]) rfl (cell_one_new _ _ _) (by simp [Value.oneCell']) (by unfold maxLen; omega) (by omega) (by simp at hs5 ⊢; omega) ?_
                intro v' w6 own6 grew6 _
                obtain ⟨a2, c2, rfl⟩ := owns_slice own6
                obtain ⟨hv6, hko, hkb, hn⟩ := HNx.out _ _ _ _ _ B5 own6 grew6
                have cv6 := hv6.cell
                have fv6 := hv6.frozen
                have HKO := Lib.hid hko
                have HKB := Lib.hid hkb
                have HNN := Lib.hid hn
                clear hko hkb hn hv6 own6 grew6 B5
                refine hK _ _ ?_
                clear hK K
                refine wpAnyIn_ready (rs := [6]) (by kernel_rfl) (by simp) ?_
                refine AllReadyIn.cons rfl (fun K hK => ?_) ?_
                · go_simp
                  refine hK _ _ ?_
                  clear hK K
                  refine wpAnyIn_done (by kernel_rfl) ?_ _
                  gi_wp2
                  exact ⟨HKO.out, HKB.out, HNN.out⟩
                exact AllReadyIn.nil
              exact AllReadyIn.nil
            exact AllReadyIn.nil
          exact AllReadyIn.nil
        exact AllReadyIn.nil
      exact AllReadyIn.nil
    refine AllReadyIn.cons rfl (fun K hK => ?_) ?_
    · go_simp
      refine hK _ _ ?_
      clear hK K
      refine wpAnyIn_ready (rs := [0, 2]) (by kernel_rfl) (by simp) ?_
      refine AllReadyIn.cons rfl (fun K hK => ?_) ?_
      · go_simp
        refine hK _ _ ?_
        clear hK K
        refine wpAnyIn_ready (rs := [2]) (by kernel_rfl) (by simp) ?_
        refine AllReadyIn.cons rfl (fun K hK => ?_) ?_
        · go_simp
          refine hK _ _ ?_
          clear hK K
          refine wpAnyIn_ready (rs := [3]) (by kernel_rfl) (by simp) ?_
          refine AllReadyIn.cons rfl (fun K hK => ?_) ?_
          · go_simp; refine ⟨trivial, ?_⟩; gi_at_fn g; refine (CallsIn.inRound l (callsIn_wide.2 HC.out)).mono ?_; rintro e w5 ⟨rfl, B5⟩; have hs5 := B5.size; have HO5 := Lib.hid (owns_below HRow.out B5); have hv5 : Boxed w5 w.heap.size LT v := (B5.block _ HV.out.lt).trans HV.out; have cv5 := hv5.cell; have cv5a := (hv5.alloc (.cells #[.string r] ST)).cell; clear hv5
            go_simp
            refine hK _ _ ?_
            clear hK K
            refine wpAnyIn_ready (rs := [4]) (by kernel_rfl) (by simp) ?_
            refine AllReadyIn.cons rfl (fun K hK => ?_) ?_
            · go_simp
              refine hK _ _ ?_
              clear hK K
              refine wpAnyIn_ready (rs := [5]) (by kernel_rfl) (by simp) ?_
              refine AllReadyIn.cons rfl (fun K hK => ?_) ?_
              · refine step_append_own_in rfl _ _ LT rfl (w.heap.size + 2) ST i0 (.string ByteArray.empty) 1 16 Tryz.underlying22 hi hz0 hz1 hz2 rfl (by decide) v pre.length _ (by simp [go_sem]) (HO5.out.alloc _) ⟨w5.heap.size, 0, none⟩ 1 1 [.string r] (by simp [go_sem]) rfl (cell_one_new _ _ _) (by simp [Value.oneCell']) (by unfold maxLen; omega) (by omega) (by simp at hs5 ⊢; omega) ?_
                intro v' w6 own6 grew6 _
                obtain ⟨a2, c2, rfl⟩ := owns_slice own6
                obtain ⟨hv6, hko, hkb, hn⟩ := HNx.out _ _ _ _ _ B5 own6 grew6
                have cv6 := hv6.cell
                have fv6 := hv6.frozen
                have HKO := Lib.hid hko
                have HKB := Lib.hid hkb
                have HNN := Lib.hid hn
                clear hko hkb hn hv6 own6 grew6 B5
                refine hK _ _ ?_
                clear hK K
                refine wpAnyIn_ready (rs := [6]) (by kernel_rfl) (by simp) ?_
                refine AllReadyIn.cons rfl (fun K hK => ?_) ?_
                · go_simp
                  refine hK _ _ ?_
                  clear hK K
                  refine wpAnyIn_done (by kernel_rfl) ?_ _
                  gi_wp2
                  exact ⟨HKO.out, HKB.out, HNN.out⟩
                exact AllReadyIn.nil
              exact AllReadyIn.nil
            exact AllReadyIn.nil
          exact AllReadyIn.nil
        exact AllReadyIn.nil
      refine AllReadyIn.cons rfl (fun K hK => ?_) ?_
      · go_simp
        refine hK _ _ ?_
        clear hK K
        refine wpAnyIn_ready (rs := [0, 3]) (by kernel_rfl) (by simp) ?_
        refine AllReadyIn.cons rfl (fun K hK => ?_) ?_
        · go_simp
          refine hK _ _ ?_
          clear hK K
          refine wpAnyIn_ready (rs := [3]) (by kernel_rfl) (by simp) ?_
          refine AllReadyIn.cons rfl (fun K hK => ?_) ?_
          · go_simp; refine ⟨trivial, ?_⟩; gi_at_fn g; refine (CallsIn.inRound l (callsIn_wide.2 HC.out)).mono ?_; rintro e w5 ⟨rfl, B5⟩; have hs5 := B5.size; have HO5 := Lib.hid (owns_below HRow.out B5); have hv5 : Boxed w5 w.heap.size LT v := (B5.block _ HV.out.lt).trans HV.out; have cv5 := hv5.cell; have cv5a := (hv5.alloc (.cells #[.string r] ST)).cell; clear hv5
            go_simp
            refine hK _ _ ?_
            clear hK K
            refine wpAnyIn_ready (rs := [4]) (by kernel_rfl) (by simp) ?_
            refine AllReadyIn.cons rfl (fun K hK => ?_) ?_
            · go_simp
              refine hK _ _ ?_
              clear hK K
              refine wpAnyIn_ready (rs := [5]) (by kernel_rfl) (by simp) ?_
              refine AllReadyIn.cons rfl (fun K hK => ?_) ?_
              · refine step_append_own_in rfl _ _ LT rfl (w.heap.size + 2) ST i0 (.string ByteArray.empty) 1 16 Tryz.underlying22 hi hz0 hz1 hz2 rfl (by decide) v pre.length _ (by simp [go_sem]) (HO5.out.alloc _) ⟨w5.heap.size, 0, none⟩ 1 1 [.string r] (by simp [go_sem]) rfl (cell_one_new _ _ _) (by simp [Value.oneCell']) (by unfold maxLen; omega) (by omega) (by simp at hs5 ⊢; omega) ?_
                intro v' w6 own6 grew6 _
                obtain ⟨a2, c2, rfl⟩ := owns_slice own6
                obtain ⟨hv6, hko, hkb, hn⟩ := HNx.out _ _ _ _ _ B5 own6 grew6
                have cv6 := hv6.cell
                have fv6 := hv6.frozen
                have HKO := Lib.hid hko
                have HKB := Lib.hid hkb
                have HNN := Lib.hid hn
                clear hko hkb hn hv6 own6 grew6 B5
                refine hK _ _ ?_
                clear hK K
                refine wpAnyIn_ready (rs := [6]) (by kernel_rfl) (by simp) ?_
                refine AllReadyIn.cons rfl (fun K hK => ?_) ?_
                · go_simp
                  refine hK _ _ ?_
                  clear hK K
                  refine wpAnyIn_done (by kernel_rfl) ?_ _
                  gi_wp2
                  exact ⟨HKO.out, HKB.out, HNN.out⟩
                exact AllReadyIn.nil
              exact AllReadyIn.nil
            exact AllReadyIn.nil
          exact AllReadyIn.nil
        refine AllReadyIn.cons rfl (fun K hK => ?_) ?_
        · go_simp; refine ⟨trivial, ?_⟩; gi_at_fn g; refine (CallsIn.inRound l (callsIn_wide.2 HC.out)).mono ?_; rintro e w5 ⟨rfl, B5⟩; have hs5 := B5.size; have HO5 := Lib.hid (owns_below HRow.out B5); have hv5 : Boxed w5 w.heap.size LT v := (B5.block _ HV.out.lt).trans HV.out; have cv5 := hv5.cell; have cv5a := (hv5.alloc (.cells #[.string r] ST)).cell; clear hv5
          go_simp
          refine hK _ _ ?_
          clear hK K
          refine wpAnyIn_ready (rs := [0, 4]) (by kernel_rfl) (by simp) ?_
          refine AllReadyIn.cons rfl (fun K hK => ?_) ?_
          · go_simp
            refine hK _ _ ?_
            clear hK K
            refine wpAnyIn_ready (rs := [4]) (by kernel_rfl) (by simp) ?_
            refine AllReadyIn.cons rfl (fun K hK => ?_) ?_
            · go_simp
              refine hK _ _ ?_
              clear hK K
              refine wpAnyIn_ready (rs := [5]) (by kernel_rfl) (by simp) ?_
              refine AllReadyIn.cons rfl (fun K hK => ?_) ?_
              · refine step_append_own_in rfl _ _ LT rfl (w.heap.size + 2) ST i0 (.string ByteArray.empty) 1 16 Tryz.underlying22 hi hz0 hz1 hz2 rfl (by decide) v pre.length _ (by simp [go_sem]) (HO5.out.alloc _) ⟨w5.heap.size, 0, none⟩ 1 1 [.string r] (by simp [go_sem]) rfl (cell_one_new _ _ _) (by simp [Value.oneCell']) (by unfold maxLen; omega) (by omega) (by simp at hs5 ⊢; omega) ?_
                intro v' w6 own6 grew6 _
                obtain ⟨a2, c2, rfl⟩ := owns_slice own6
                obtain ⟨hv6, hko, hkb, hn⟩ := HNx.out _ _ _ _ _ B5 own6 grew6
                have cv6 := hv6.cell
                have fv6 := hv6.frozen
                have HKO := Lib.hid hko
                have HKB := Lib.hid hkb
                have HNN := Lib.hid hn
                clear hko hkb hn hv6 own6 grew6 B5
                refine hK _ _ ?_
                clear hK K
                refine wpAnyIn_ready (rs := [6]) (by kernel_rfl) (by simp) ?_
                refine AllReadyIn.cons rfl (fun K hK => ?_) ?_
                · go_simp
                  refine hK _ _ ?_
                  clear hK K
                  refine wpAnyIn_done (by kernel_rfl) ?_ _
                  gi_wp2
                  exact ⟨HKO.out, HKB.out, HNN.out⟩
                exact AllReadyIn.nil
              exact AllReadyIn.nil
            exact AllReadyIn.nil
          refine AllReadyIn.cons rfl (fun K hK => ?_) ?_
          · go_simp
            refine hK _ _ ?_
            clear hK K
            refine wpAnyIn_ready (rs := [0]) (by kernel_rfl) (by simp) ?_
            refine AllReadyIn.cons rfl (fun K hK => ?_) ?_
            · go_simp
              refine hK _ _ ?_
              clear hK K
              refine wpAnyIn_ready (rs := [5]) (by kernel_rfl) (by simp) ?_
              refine AllReadyIn.cons rfl (fun K hK => ?_) ?_
              · refine step_append_own_in rfl _ _ LT rfl (w.heap.size + 2) ST i0 (.string ByteArray.empty) 1 16 Tryz.underlying22 hi hz0 hz1 hz2 rfl (by decide) v pre.length _ (by simp [go_sem]) (HO5.out.alloc _) ⟨w5.heap.size, 0, none⟩ 1 1 [.string r] (by simp [go_sem]) rfl (cell_one_new _ _ _) (by simp [Value.oneCell']) (by unfold maxLen; omega) (by omega) (by simp at hs5 ⊢; omega) ?_
                intro v' w6 own6 grew6 _
                obtain ⟨a2, c2, rfl⟩ := owns_slice own6
                obtain ⟨hv6, hko, hkb, hn⟩ := HNx.out _ _ _ _ _ B5 own6 grew6
                have cv6 := hv6.cell
                have fv6 := hv6.frozen
                have HKO := Lib.hid hko
                have HKB := Lib.hid hkb
                have HNN := Lib.hid hn
                clear hko hkb hn hv6 own6 grew6 B5
                refine hK _ _ ?_
                clear hK K
                refine wpAnyIn_ready (rs := [6]) (by kernel_rfl) (by simp) ?_
                refine AllReadyIn.cons rfl (fun K hK => ?_) ?_
                · go_simp
                  refine hK _ _ ?_
                  clear hK K
                  refine wpAnyIn_done (by kernel_rfl) ?_ _
                  gi_wp2
                  exact ⟨HKO.out, HKB.out, HNN.out⟩
                exact AllReadyIn.nil
              exact AllReadyIn.nil
            exact AllReadyIn.nil
          exact AllReadyIn.nil
        exact AllReadyIn.nil
      exact AllReadyIn.nil
    refine AllReadyIn.cons rfl (fun K hK => ?_) ?_
    · go_simp
      refine hK _ _ ?_
      clear hK K
      refine wpAnyIn_ready (rs := [0, 1]) (by kernel_rfl) (by simp) ?_
      refine AllReadyIn.cons rfl (fun K hK => ?_) ?_
      · go_simp
        refine hK _ _ ?_
        clear hK K
        refine wpAnyIn_ready (rs := [1]) (by kernel_rfl) (by simp) ?_
        refine AllReadyIn.cons rfl (fun K hK => ?_) ?_
        · go_simp
          refine hK _ _ ?_
          clear hK K
          refine wpAnyIn_ready (rs := [3]) (by kernel_rfl) (by simp) ?_
          refine AllReadyIn.cons rfl (fun K hK => ?_) ?_
          · go_simp; refine ⟨trivial, ?_⟩; gi_at_fn g; refine (CallsIn.inRound l (callsIn_wide.2 HC.out)).mono ?_; rintro e w5 ⟨rfl, B5⟩; have hs5 := B5.size; have HO5 := Lib.hid (owns_below HRow.out B5); have hv5 : Boxed w5 w.heap.size LT v := (B5.block _ HV.out.lt).trans HV.out; have cv5 := hv5.cell; have cv5a := (hv5.alloc (.cells #[.string r] ST)).cell; clear hv5
            go_simp
            refine hK _ _ ?_
            clear hK K
            refine wpAnyIn_ready (rs := [4]) (by kernel_rfl) (by simp) ?_
            refine AllReadyIn.cons rfl (fun K hK => ?_) ?_
            · go_simp
              refine hK _ _ ?_
              clear hK K
              refine wpAnyIn_ready (rs := [5]) (by kernel_rfl) (by simp) ?_
              refine AllReadyIn.cons rfl (fun K hK => ?_) ?_
              · refine step_append_own_in rfl _ _ LT rfl (w.heap.size + 2) ST i0 (.string ByteArray.empty) 1 16 Tryz.underlying22 hi hz0 hz1 hz2 rfl (by decide) v pre.length _ (by simp [go_sem]) (HO5.out.alloc _) ⟨w5.heap.size, 0, none⟩ 1 1 [.string r] (by simp [go_sem]) rfl (cell_one_new _ _ _) (by simp [Value.oneCell']) (by unfold maxLen; omega) (by omega) (by simp at hs5 ⊢; omega) ?_
                intro v' w6 own6 grew6 _
                obtain ⟨a2, c2, rfl⟩ := owns_slice own6
                obtain ⟨hv6, hko, hkb, hn⟩ := HNx.out _ _ _ _ _ B5 own6 grew6
                have cv6 := hv6.cell
                have fv6 := hv6.frozen
                have HKO := Lib.hid hko
                have HKB := Lib.hid hkb
                have HNN := Lib.hid hn
                clear hko hkb hn hv6 own6 grew6 B5
                refine hK _ _ ?_
                clear hK K
                refine wpAnyIn_ready (rs := [6]) (by kernel_rfl) (by simp) ?_
                refine AllReadyIn.cons rfl (fun K hK => ?_) ?_
                · go_simp
                  refine hK _ _ ?_
                  clear hK K
                  refine wpAnyIn_done (by kernel_rfl) ?_ _
                  gi_wp2
                  exact ⟨HKO.out, HKB.out, HNN.out⟩
                exact AllReadyIn.nil
              exact AllReadyIn.nil
            exact AllReadyIn.nil
          exact AllReadyIn.nil
        exact AllReadyIn.nil
      refine AllReadyIn.cons rfl (fun K hK => ?_) ?_
      · go_simp
        refine hK _ _ ?_
        clear hK K
        refine wpAnyIn_ready (rs := [0, 3]) (by kernel_rfl) (by simp) ?_
        refine AllReadyIn.cons rfl (fun K hK => ?_) ?_
        · go_simp
          refine hK _ _ ?_
          clear hK K
          refine wpAnyIn_ready (rs := [3]) (by kernel_rfl) (by simp) ?_
          refine AllReadyIn.cons rfl (fun K hK => ?_) ?_
          · go_simp; refine ⟨trivial, ?_⟩; gi_at_fn g; refine (CallsIn.inRound l (callsIn_wide.2 HC.out)).mono ?_; rintro e w5 ⟨rfl, B5⟩; have hs5 := B5.size; have HO5 := Lib.hid (owns_below HRow.out B5); have hv5 : Boxed w5 w.heap.size LT v := (B5.block _ HV.out.lt).trans HV.out; have cv5 := hv5.cell; have cv5a := (hv5.alloc (.cells #[.string r] ST)).cell; clear hv5
            go_simp
            refine hK _ _ ?_
            clear hK K
            refine wpAnyIn_ready (rs := [4]) (by kernel_rfl) (by simp) ?_
            refine AllReadyIn.cons rfl (fun K hK => ?_) ?_
            · go_simp
              refine hK _ _ ?_
              clear hK K
              refine wpAnyIn_ready (rs := [5]) (by kernel_rfl) (by simp) ?_
              refine AllReadyIn.cons rfl (fun K hK => ?_) ?_
              · refine step_append_own_in rfl _ _ LT rfl (w.heap.size + 2) ST i0 (.string ByteArray.empty) 1 16 Tryz.underlying22 hi hz0 hz1 hz2 rfl (by decide) v pre.length _ (by simp [go_sem]) (HO5.out.alloc _) ⟨w5.heap.size, 0, none⟩ 1 1 [.string r] (by simp [go_sem]) rfl (cell_one_new _ _ _) (by simp [Value.oneCell']) (by unfold maxLen; omega) (by omega) (by simp at hs5 ⊢; omega) ?_
                intro v' w6 own6 grew6 _
                obtain ⟨a2, c2, rfl⟩ := owns_slice own6
                obtain ⟨hv6, hko, hkb, hn⟩ := HNx.out _ _ _ _ _ B5 own6 grew6
                have cv6 := hv6.cell
                have fv6 := hv6.frozen
                have HKO := Lib.hid hko
                have HKB := Lib.hid hkb
                have HNN := Lib.hid hn
                clear hko hkb hn hv6 own6 grew6 B5
                refine hK _ _ ?_
                clear hK K
                refine wpAnyIn_ready (rs := [6]) (by kernel_rfl) (by simp) ?_
                refine AllReadyIn.cons rfl (fun K hK => ?_) ?_
                · go_simp
                  refine hK _ _ ?_
                  clear hK K
                  refine wpAnyIn_done (by kernel_rfl) ?_ _
                  gi_wp2
                  exact ⟨HKO.out, HKB.out, HNN.out⟩
                exact AllReadyIn.nil
              exact AllReadyIn.nil
            exact AllReadyIn.nil
          exact AllReadyIn.nil
        refine AllReadyIn.cons rfl (fun K hK => ?_) ?_
        · go_simp; refine ⟨trivial, ?_⟩; gi_at_fn g; refine (CallsIn.inRound l (callsIn_wide.2 HC.out)).mono ?_; rintro e w5 ⟨rfl, B5⟩; have hs5 := B5.size; have HO5 := Lib.hid (owns_below HRow.out B5); have hv5 : Boxed w5 w.heap.size LT v := (B5.block _ HV.out.lt).trans HV.out; have cv5 := hv5.cell; have cv5a := (hv5.alloc (.cells #[.string r] ST)).cell; clear hv5
          go_simp
          refine hK _ _ ?_
          clear hK K
          refine wpAnyIn_ready (rs := [0, 4]) (by kernel_rfl) (by simp) ?_
          refine AllReadyIn.cons rfl (fun K hK => ?_) ?_
          · go_simp
            refine hK _ _ ?_
            clear hK K
            refine wpAnyIn_ready (rs := [4]) (by kernel_rfl) (by simp) ?_
            refine AllReadyIn.cons rfl (fun K hK => ?_) ?_
            · go_simp
              refine hK _ _ ?_
              clear hK K
              refine wpAnyIn_ready (rs := [5]) (by kernel_rfl) (by simp) ?_
              refine AllReadyIn.cons rfl (fun K hK => ?_) ?_
              · refine step_append_own_in rfl _ _ LT rfl (w.heap.size + 2) ST i0 (.string ByteArray.empty) 1 16 Tryz.underlying22 hi hz0 hz1 hz2 rfl (by decide) v pre.length _ (by simp [go_sem]) (HO5.out.alloc _) ⟨w5.heap.size, 0, none⟩ 1 1 [.string r] (by simp [go_sem]) rfl (cell_one_new _ _ _) (by simp [Value.oneCell']) (by unfold maxLen; omega) (by omega) (by simp at hs5 ⊢; omega) ?_
                intro v' w6 own6 grew6 _
                obtain ⟨a2, c2, rfl⟩ := owns_slice own6
                obtain ⟨hv6, hko, hkb, hn⟩ := HNx.out _ _ _ _ _ B5 own6 grew6
                have cv6 := hv6.cell
                have fv6 := hv6.frozen
                have HKO := Lib.hid hko
                have HKB := Lib.hid hkb
                have HNN := Lib.hid hn
                clear hko hkb hn hv6 own6 grew6 B5
                refine hK _ _ ?_
                clear hK K
                refine wpAnyIn_ready (rs := [6]) (by kernel_rfl) (by simp) ?_
                refine AllReadyIn.cons rfl (fun K hK => ?_) ?_
                · go_simp
                  refine hK _ _ ?_
                  clear hK K
                  refine wpAnyIn_done (by kernel_rfl) ?_ _
                  gi_wp2
                  exact ⟨HKO.out, HKB.out, HNN.out⟩
                exact AllReadyIn.nil
              exact AllReadyIn.nil
            exact AllReadyIn.nil
          refine AllReadyIn.cons rfl (fun K hK => ?_) ?_
          · go_simp
            refine hK _ _ ?_
            clear hK K
            refine wpAnyIn_ready (rs := [0]) (by kernel_rfl) (by simp) ?_
            refine AllReadyIn.cons rfl (fun K hK => ?_) ?_
            · go_simp
              refine hK _ _ ?_
              clear hK K
              refine wpAnyIn_ready (rs := [5]) (by kernel_rfl) (by simp) ?_
              refine AllReadyIn.cons rfl (fun K hK => ?_) ?_
              · refine step_append_own_in rfl _ _ LT rfl (w.heap.size + 2) ST i0 (.string ByteArray.empty) 1 16 Tryz.underlying22 hi hz0 hz1 hz2 rfl (by decide) v pre.length _ (by simp [go_sem]) (HO5.out.alloc _) ⟨w5.heap.size, 0, none⟩ 1 1 [.string r] (by simp [go_sem]) rfl (cell_one_new _ _ _) (by simp [Value.oneCell']) (by unfold maxLen; omega) (by omega) (by simp at hs5 ⊢; omega) ?_
                intro v' w6 own6 grew6 _
                obtain ⟨a2, c2, rfl⟩ := owns_slice own6
                obtain ⟨hv6, hko, hkb, hn⟩ := HNx.out _ _ _ _ _ B5 own6 grew6
                have cv6 := hv6.cell
                have fv6 := hv6.frozen
                have HKO := Lib.hid hko
                have HKB := Lib.hid hkb
                have HNN := Lib.hid hn
                clear hko hkb hn hv6 own6 grew6 B5
                refine hK _ _ ?_
                clear hK K
                refine wpAnyIn_ready (rs := [6]) (by kernel_rfl) (by simp) ?_
                refine AllReadyIn.cons rfl (fun K hK => ?_) ?_
                · go_simp
                  refine hK _ _ ?_
                  clear hK K
                  refine wpAnyIn_done (by kernel_rfl) ?_ _
                  gi_wp2
                  exact ⟨HKO.out, HKB.out, HNN.out⟩
                exact AllReadyIn.nil
              exact AllReadyIn.nil
            exact AllReadyIn.nil
          exact AllReadyIn.nil
        exact AllReadyIn.nil
      exact AllReadyIn.nil
    exact AllReadyIn.nil
  case done =>
    rintro D xs W hD rfl ⟨⟨v, hv, hrow, _⟩, hs1, hB⟩ hK
    have hvc := hv.cell
    have el : (Wp.items (by8 s)).length = ((wordsS s).map f).length := by rw [List.length_map, wordsS_len]
    have ex : (Wp.items (by8 s)).map (fun x => f (Ww.part s x)) = (wordsS s).map f := by unfold wordsS; rw [List.map_map]; rfl
    have hrow2 : W.ownsRow w.heap.size ST 1 v ((wordsS s).map f).length (strsC ((wordsS s).map f)) := by rw [← el, ← ex]; exact owns_weaken hrow (Nat.le_add_right _ 2)
    have HL := Lib.hid (Plist_any W w.heap.size v ((wordsS s).map f) hrow2 hB.size (by rw [← el]; omega) (fun q hq => by
      obtain ⟨y, hy, rfl⟩ := List.mem_map.1 hq
      exact HF.out y (Nat.le_trans (words_size hy) hs)))
    have HB := Lib.hid hB
    have HK := Lib.hid hK
    have hD' : w.heap.size + 2 ≤ D := by simp at hD; omega
    have hDW : D < W.heap.size := (Array.getElem?_eq_some_iff.1 hK).1
    obtain ⟨a0, c0, rfl⟩ := owns_slice hrow2
    clear k0 k1 hB0 hv hs1 hrow hrow2 el ex hB hK
    simp only [List.length_map] at HL hvc
    gi_wp2_with (refine ⟨trivial, ?_⟩; gi_at_call 84; refine (callsIn_wide.2 HL.out).mono ?_; rintro e w2 ⟨rfl, B2, K2⟩)
    refine ⟨by simp, .inl ⟨_, _, rfl, run_takeDeferred (K2.same D _ HK.out rfl), ?_⟩⟩
    exact ⟨_, results_tmp rfl _ _ _, rfl, (HB.out.trans B2).trans (belowK_b (w := w) (Nat.le_refl _) w2 D _ _ (by omega) (K2.same D _ HK.out rfl) rfl rfl)⟩
  case stop =>
    rintro D c pre W _ _ h _
    exact h.elim
end Go.Proofs.YtenokbceamcekaaGreatDoor.Ew
