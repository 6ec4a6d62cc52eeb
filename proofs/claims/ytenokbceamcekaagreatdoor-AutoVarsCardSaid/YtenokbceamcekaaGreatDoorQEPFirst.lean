/-
  package text: firstword.
-/
import Derived.Test.YtenokbceamcekaaGreatDoorQEPFunc
import Derived.Test.YtenokbceamcekaaGreatDoorQEPPick
namespace Go.Proofs.YtenokbceamcekaaGreatDoor.Ew
open Go.RowKit Go.Shelf Go.Proofs.YtenokbceamcekaaGreatDoor Go.Proofs.YtenokbceamcekaaGreatDoor.Ww Go.Proofs.YtenokbceamcekaaGreatDoor.Tw
attribute [local go_sem] Oper.semAt_some
set_option maxRecDepth 100000

def FiI (w : World) (s : ByteArray) (pre : List (Nat × Nat)) (W : World) : Prop :=
  pre = [] ∧ Boxed W w.heap.size ST (.string ⟨#[]⟩) ∧ Boxed W (w.heap.size + 1) ST (.string s) ∧ Below w.heap.size w W
def FiX (w : World) (s : ByteArray) (c : Code) (pre : List (Nat × Nat)) (W : World) : Prop :=
  (c = .ret ∧ pre.length = 1) ∧ Boxed W w.heap.size ST (.string (Ww.part s (pre.getD 0 (0, 0)))) ∧ Below w.heap.size w W
theorem FiI.own (w : World) (s : ByteArray) (B : Nat) (hB : w.heap.size ≤ B) : OwnFrom B (FiI w s) :=
  OwnFrom.and (Own.from (fun _ _ _ _ h _ _ => h) _) (OwnFrom.and (Own.from (boxed_own w.heap.size ST (fun _ : List (Nat × Nat) => .string ⟨#[]⟩)) _) (OwnFrom.and (Own.from (boxed_own (w.heap.size + 1) ST (fun _ : List (Nat × Nat) => .string s)) _) (ownFrom_below (Nat.le_refl _) hB)))
theorem FiX.own (w : World) (s : ByteArray) (c : Code) (B : Nat) (hB : w.heap.size ≤ B) : OwnFrom B (FiX w s c) :=
  OwnFrom.and (Own.from (fun _ _ _ _ h _ _ => h) _) (OwnFrom.and (Own.from (boxed_own w.heap.size ST (fun pre : List (Nat × Nat) => .string (Ww.part s (pre.getD 0 (0, 0))))) _) (ownFrom_below (Nat.le_refl _) hB))
def firstS (s : ByteArray) : ByteArray := (wordsS s).headD ⟨#[]⟩
theorem first_is (s : ByteArray) : joinS (someS (wordsS s) 1 1) = firstS s := by
  unfold firstS someS
  cases h : wordsS s with
  | nil => rfl
  | cons x r => show joinS [x] = x; exact join_one x
set_option maxHeartbeats 4000000 in
theorem Pfirst_any (w : World) (s : ByteArray) (hs : s.size ≤ 9000) : Calls Tryz.prog 65 #[.string s] w fun e w' => e = .returned (.string (joinS (someS (wordsS s) 1 1))) ∧ Below w.heap.size w w' := by
  rw [first_is]
  refine (callsIn_wide (n := 9)).1 ?_
  refine callsIn_of_wp_marks Tryz.func65 rfl trivial ?_ rfl
  simp only [Tryz.ntmps65, List.size_toArray, List.length_cons, List.length_nil, Nat.reduceAdd, Nat.reduceSub, Array.replicate_succ, Array.replicate_zero, List.push_toArray, List.append_toArray, List.nil_append, List.cons_append]
  gi_wp2_with (refine ⟨trivial, ?_⟩; gi_at_call 38; refine (callsIn_wide.2 (Ww.Each_any _ s)).mono ?_; rintro e w' ⟨rfl, rfl⟩)
  have k0 := Boxed.new w ST (.string ⟨#[]⟩)
  have k1 := Boxed.new (w.alloc (.cells #[.string ⟨#[]⟩] ST)) ST (.string s)
  simp only [World.size_alloc] at k1
  have hB0 : Below w.heap.size w ((w.alloc (.cells #[.string ⟨#[]⟩] ST)).alloc (.cells #[.string s] ST)) := ((Below.refl _ w).alloc (Nat.le_refl _) _).alloc (by simp) _
  refine range_law (by omega) (gf := 48) (lb := #[.pointer (some ⟨w.heap.size + 1, 0, none⟩)]) rfl (enters_of Tryz.func48 (by kernel_rfl) rfl)
    (each_iters _ (by omega) (w.heap.size + 1) s (by omega) _ k1) mineE_keeps (keepB_trans _) (keepB_put (by simp)) (fun _ => rfl)
    (FiI w s) (FiX w s) (FiI.own w s _ (by simp; omega)) (fun c => FiX.own w s c _ (by simp; omega)) (fun _ X Y h e => by cases e; exact h)
    ⟨rfl, k0.alloc _, k1, hB0⟩
    ?a1 ?assign ?body ?done ?stop
  case assign =>
    intro l x W K hK
    gi_wp2
    exact hK
  case body =>
    rintro l pre x W ⟨rfl, hv, hs1, hB⟩ hsp
    have cv := hv.cell
    have fv := hv.frozen
    clear k0 k1 hB0
    gi_wp2
    exact ⟨KeepsOthers.setCell _ _ _, ⟨rfl, rfl⟩, hv.set _, hB.setCell (p := ⟨w.heap.size, 0, none⟩) (Nat.le_refl _) _⟩
  case done =>
    rintro D xs W hD hxs ⟨rfl, hv, hs1, hB⟩ hK
    have cv := hv.cell
    have fv := hv.frozen
    have HE : Hid (firstS s = ⟨#[]⟩) := Lib.hid (by unfold firstS wordsS; rw [← hxs]; rfl)
    have hD' : w.heap.size + 2 ≤ D := by simp at hD; omega
    have hKO : KeepsOthers W (W.setCell ⟨w.heap.size, 0, none⟩ (.string ⟨#[]⟩)) := KeepsOthers.setCell _ _ _
    have HK2 := Lib.hid (hKO.same D _ hK rfl)
    have HV2 := Lib.hid (hv.set (.string ⟨#[]⟩))
    have HB2 := Lib.hid (hB.setCell (p := ⟨w.heap.size, 0, none⟩) (Nat.le_refl _) (.string ⟨#[]⟩))
    clear k0 k1 hB0 hxs hKO hv hs1 hB hK
    gi_wp2
    refine ⟨by simp, .inl ⟨_, _, rfl, run_takeDeferred HK2.out, ?_⟩⟩
    have hcell := cell_kept HV2.out.cell (grownBy_putObj' (W.setCell ⟨w.heap.size, 0, none⟩ (.string ⟨#[]⟩)) D (.deferred none)) (fun r e => by cases e; exact ⟨_, HK2.out, rfl⟩)
    exact ⟨.string ⟨#[]⟩, by simp [results, go_sem, hcell], by rw [HE.out], HB2.out.trans (belowK_b (w := w) (Nat.le_refl _) _ D _ _ (by omega) HK2.out rfl rfl)⟩
  case stop =>
    rintro D c pre W hD hpre ⟨⟨rfl, hl⟩, hv, hB⟩ hK
    have cv := hv.cell
    have HE : Hid (firstS s = Ww.part s (pre.getD 0 (0, 0))) := Lib.hid (by
      obtain ⟨r, hr⟩ := hpre
      match pre, hl with
      | [x], _ =>
        unfold firstS wordsS
        rw [← hr]; rfl)
    have hD' : w.heap.size + 2 ≤ D := by simp at hD; omega
    have HK2 := Lib.hid hK
    have HB2 := Lib.hid hB
    have HV2 := Lib.hid hv
    clear k0 k1 hB0 hpre hl hv hB hK
    gi_wp2
    refine ⟨by simp, .inl ⟨_, _, rfl, run_takeDeferred HK2.out, ?_⟩⟩
    have hcell := cell_kept HV2.out.cell (grownBy_putObj' W D (.deferred none)) (fun r e => by cases e; exact ⟨_, HK2.out, rfl⟩)
    exact ⟨.string (Ww.part s (pre.getD 0 (0, 0))), by simp only [List.getD] at hcell; simp [results, go_sem, hcell], by rw [HE.out], HB2.out.trans (belowK_b (w := w) (Nat.le_refl _) _ D _ _ (by omega) HK2.out rfl rfl)⟩
end Go.Proofs.YtenokbceamcekaaGreatDoor.Ew
