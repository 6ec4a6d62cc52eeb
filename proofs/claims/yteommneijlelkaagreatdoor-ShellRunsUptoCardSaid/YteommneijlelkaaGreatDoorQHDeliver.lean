/-
  (*run).deliver: where the output of a command goes.
-/
import Derived.Deep.RegionHeld3
import Derived.Test.YteommneijlelkaaGreatDoorQHRedir
namespace Go.Proofs.YteommneijlelkaaGreatDoor.Hx
open Go.RowKit Go.Proofs.YteommneijlelkaaGreatDoor Go.Maps Go.Proofs.YteommneijlelkaaGreatDoor.Sw
set_option maxRecDepth 100000

/-- A run with what it has told; the bytes lie from block B on. -/
structure Told (w : World) (rb sb bm B : Nat) (k : Hp.K) (st ran : Int) (out : Bs) (pv bv : Value) : Prop where
  run : RunAt w rb sb bm k st ran pv bv
  used : pv = .pointer none ∨ pv = .pointer (some ⟨rb, 6, none⟩)
  own : w.ownsRow B U8 1 bv out.length (Lib.byteCells out)
  lr : rb < B
  ls : sb < B
  lm : bm < B
  room : B ≤ w.heap.size
/-- What a call may turn: these blocks, and all from B on. -/
structure KeptB (B : Nat) (X : List Nat) (w w' : World) : Prop where
  os : w'.os = w.os
  tape : w'.tape = w.tape
  output : w'.output = w.output
  size : w.heap.size ≤ w'.heap.size
  block : ∀ i, i < B → i ∉ X → w'.heap[i]? = w.heap[i]?
section
variable {w w' w2 : World} {rb sb bm B : Nat} {k : Hp.K} {st ran : Int} {out : Bs} {pv bv : Value} {X Y : List Nat}
theorem KeptB.of_kept (h : Kept Y w w') (hB : B ≤ w.heap.size) (hY : ∀ i ∈ Y, i ∈ X ∨ B ≤ i) : KeptB B X w w' :=
  ⟨h.os, h.tape, h.output, h.size, fun i hi hx => h.block i (Nat.lt_of_lt_of_le hi hB) fun hy => by
    rcases hY i hy with e | e
    · exact hx e
    · omega⟩
theorem KeptB.trans (h : KeptB B X w w') (g : KeptB B X w' w2) : KeptB B X w w2 :=
  ⟨g.os.trans h.os, g.tape.trans h.tape, g.output.trans h.output, Nat.le_trans h.size g.size, fun i hi hx => (g.block i hi hx).trans (h.block i hi hx)⟩
theorem KeptB.refl : KeptB B X w w := ⟨rfl, rfl, rfl, Nat.le_refl _, fun _ _ _ => rfl⟩
theorem KeptB.old (h : KeptB B [rb, sb, bm] w w') (hr : rb < B) : ∀ b, Old rb sb bm b → w'.heap[b]? = w.heap[b]? := fun b hb => h.block b (Nat.lt_trans hb.1 hr) (by
  have := hb.1
  simp [hb.2.1, hb.2.2]; omega)
theorem Told.own_ge (h : Told w rb sb bm B k st ran out pv bv) : ∀ g, bv.ownBlock = some g → B ≤ g ∧ g < w.heap.size := fun g hg => h.own.lt g hg
theorem Told.bat (h : Told w rb sb bm B k st ran out pv bv) : BAt w RT rb 6 B out pv bv #[.pointer (some ⟨sb, 0, none⟩), .int .i64 st, .string ⟨#[]⟩, .int .i64 ran, .string (str k.d), .int .i64 0, pv, bv, .string (str k.inp), .string (str k.outp)] :=
  ⟨h.run.box, rfl, rfl, h.used, h.own, liesR, by decide⟩
/-- Behind a call that leaves what was told alone. -/
theorem Told.ran_ (h : Told w rb sb bm B k st ran out pv bv) {k' : Hp.K} (hR : RunAt w' rb sb bm k' st ran pv bv) (hK : Kept [rb, sb, bm] w w') : Told w' rb sb bm B k' st ran out pv bv := by
  refine ⟨hR, h.used, ⟨h.own.1, ?_⟩, h.lr, h.ls, h.lm, Nat.le_trans h.room hK.size⟩
  rcases h.own.2 with h1 | ⟨g, cap, cur, rfl, h2, h3, h4⟩
  · exact .inl h1
  · refine .inr ⟨g, cap, cur, rfl, h2, (hK.block g (Array.getElem?_eq_some_iff.1 h3).1 ?_).trans h3, h4⟩
    have := h.lr; have := h.ls; have := h.lm
    simp; omega
theorem Told.below (h : Told w rb sb bm B k st ran out pv bv) (hB : Below w.heap.size w w') : Told w' rb sb bm B k st ran out pv bv := h.ran_ (h.run.below hB) (.of_below hB)

/-- What deliver does. -/
def delA (k : Hp.K) (out dst : Bs) : Hp.K × Bs × Nat :=
  if k.outp = [] then (k, out, 0)
  else if dst = [] then (⟨k.s, k.d, if 1048576 < (out ++ k.outp).length then 12 else k.code, k.inp, k.outp⟩, out ++ k.outp, 0)
  else ((k.took (Sw.writeA k.s dst k.outp true)).1, out, (k.took (Sw.writeA k.s dst k.outp true)).2)
def DelPost (w : World) (rb sb bm B : Nat) (st ran : Int) (r : Hp.K × Bs × Nat) (e : Ending) (w' : World) : Prop :=
  (if r.1.code = 0 then e = .returned (.int .i64 r.2.2) else e = endE r.1.code) ∧ (∃ pv bv, Told w' rb sb bm B r.1 st ran r.2.1 pv bv) ∧ KeptB B [rb, sb, bm] w w'

theorem str_nil {x : Bs} (h : x = []) : ((str x).toList == []) = true := by rw [h, Lib.toList_data]; rfl
theorem str_some {x : Bs} (h : x ≠ []) : ((str x).toList == []) = false := by
  rw [Lib.toList_data, beq_eq_false_iff_ne]; exact h

theorem told_wrote (h : Told w rb sb bm B k st ran out pv bv) {bv' : Value} {x : Bs}
    (hb : BAt w' RT rb 6 B (out ++ x) (.pointer (some ⟨rb, 6, none⟩)) bv' ((#[.pointer (some ⟨sb, 0, none⟩), .int .i64 st, .string ⟨#[]⟩, .int .i64 ran, .string (str k.d), .int .i64 0, pv, bv, .string (str k.inp), .string (str k.outp)].setIfInBounds 6 (.pointer (some ⟨rb, 6, none⟩))).setIfInBounds (6 + 1) bv'))
    (hK : Kept (rb :: bv.ownBlock.toList) w w') : Told w' rb sb bm B k st ran (out ++ x) (.pointer (some ⟨rb, 6, none⟩)) bv' ∧ KeptB B [rb, sb, bm] w w' := by
  have hlr := h.lr
  have hls := h.ls
  have hlm := h.lm
  have hX : ∀ i ∈ rb :: bv.ownBlock.toList, i = rb ∨ B ≤ i := fun i hi => by
    rcases List.mem_cons.1 hi with e | e
    · exact .inl e
    · right
      have : bv.ownBlock = some i := by simpa using e
      exact (h.own_ge i this).1
  refine ⟨⟨⟨hb.cells, h.run.store.kept hK ?_ ?_, h.run.n1, h.run.n2⟩, .inr rfl, hb.own, hlr, hls, hlm, Nat.le_trans h.room hK.size⟩, .of_kept hK h.room fun i hi => (hX i hi).imp (fun e => by simp [e]) id⟩
  · intro hi
    rcases hX _ hi with e | e
    · exact h.run.n1 e.symm
    · omega
  · intro hi
    rcases hX _ hi with e | e
    · exact h.run.n2 e.symm
    · omega

set_option maxHeartbeats 2000000 in
theorem deliver_any (w : World) (k : Hp.K) (dst : Bs) (h : Told w rb sb bm B k st ran out pv bv) (hF : Fine k.s) (h0 : k.code = 0) (hd : dst.length ≤ 100000) (ho : k.outp.length ≤ 1000000000) (hout : out.length ≤ 1000000000) :
    Calls Tryz.prog 88 #[.pointer (some ⟨rb, 0, none⟩), .string (str dst)] w (DelPost w rb sb bm B st ran (delA k out dst)) := by
  obtain ⟨c0, c1, c3, c4, c8, c9⟩ := h.run.cells
  have hlt := h.run.lt
  by_cases hn : k.outp = []
  · have q := str_nil hn
    have HE : Hid (delA k out dst = (k, out, 0)) := Lib.hid (by unfold delA; rw [if_pos hn])
    have H := Lib.hid h
    clear h hn
    go_enter Tryz.func88, Tryz.ntmps88
    go_wp2_with fail
    go_ret
    rw [HE.out]
    exact ⟨by rw [if_pos h0]; rfl, ⟨pv, bv, H.out⟩, .refl⟩
  · have q := str_some hn
    by_cases hdn : dst = []
    · subst hdn
      have HB := h.bat
      have H := Lib.hid h
      have hol : out.length + (str k.outp).size ≤ 1000000000000 := by rw [← bs_len, bs_str]; omega
      have HW := Lib.hid fun (W : World) (hh : BAt W RT rb 6 B out pv bv #[.pointer (some ⟨sb, 0, none⟩), .int .i64 st, .string ⟨#[]⟩, .int .i64 ran, .string (str k.d), .int .i64 0, pv, bv, .string (str k.inp), .string (str k.outp)]) (hw : B ≤ W.heap.size) => WriteString_any W hh (str k.outp) hol hw
      have hroom := h.room
      have qd : ((str []).toList == []) = true := str_nil rfl
      have D0 : Below w.heap.size w w.drew := (Below.refl _ _).drew
      have hBd : BAt w.drew RT rb 6 B out pv bv #[.pointer (some ⟨sb, 0, none⟩), .int .i64 st, .string ⟨#[]⟩, .int .i64 ran, .string (str k.d), .int .i64 0, pv, bv, .string (str k.inp), .string (str k.outp)] := (h.below D0).bat
      clear h
      have S0 : w.drew.cell? ⟨rb, 0, none⟩ = some (.pointer (some ⟨sb, 0, none⟩)) ∧ w.drew.cell? ⟨rb, 9, none⟩ = some (.string (str k.outp)) := ⟨c0, c9⟩
      by_cases hbig : 1048576 < (out ++ k.outp).length
      · have hE : delA k out [] = (⟨k.s, k.d, 12, k.inp, k.outp⟩, out ++ k.outp, 0) := by unfold delA; rw [if_neg hn, if_pos rfl, if_pos hbig]
        have HE := Lib.hid hE
        obtain ⟨n, hnl⟩ : ∃ n, (out ++ k.outp).length = n := ⟨_, rfl⟩
        have hbi : (1048576 : Int) < n := by omega
        have HL : Hid ((out ++ bs (str k.outp)).length = n) := Lib.hid hnl
        clear hn hE hbig hnl
        go_enter Tryz.func88, Tryz.ntmps88
        go_wp2_with fail
        go_region_held3 (fun w' => w'.cell? ⟨rb, 0, none⟩ = some (.pointer (some ⟨sb, 0, none⟩)) ∧ w'.cell? ⟨rb, 9, none⟩ = some (.string (str k.outp)))
          (first | exact S0 | exact S1)
          (first
            | (go_at_call 123; refine (HW.out _ hBd hroom).mono ?_; rintro e w1 ⟨rfl, bv', hb1, hK1⟩; obtain ⟨hT1, hKB⟩ := told_wrote H.out hb1 ((Kept.of_below D0).trans hK1); obtain ⟨c0, c1, c3, c4, c8, c9⟩ := hT1.run.cells; have S1 := And.intro c0 c9; have hlt1 := hT1.run.lt; have hbat1 := hT1.bat))
        all_goals go_wp2_with (first
          | (go_at_call 122; refine (Len_any _ hbat1).mono ?_; rw [HL.out]; rintro e w2 ⟨rfl, rfl⟩)
          | (go_at_call 126; refine (status_end _ 12 (.inr rfl)).mono ?_; rintro e w3 ⟨rfl, rfl⟩; unfold endE))
        all_goals refine ⟨rfl, ?_⟩
        all_goals rw [HE.out]
        all_goals exact ⟨by rw [if_neg (show ¬ (12 : Int) = 0 by decide)]; rfl, ⟨_, _, ⟨⟨hT1.run.box, hT1.run.store, hT1.run.n1, hT1.run.n2⟩, hT1.used, hT1.own, hT1.lr, hT1.ls, hT1.lm, hT1.room⟩⟩, hKB⟩
      · have hE : delA k out [] = (k, out ++ k.outp, 0) := by unfold delA; rw [if_neg hn, if_pos rfl, if_neg hbig]
        have HE := Lib.hid hE
        obtain ⟨n, hnl⟩ : ∃ n, (out ++ k.outp).length = n := ⟨_, rfl⟩
        have hbi : ¬ (1048576 : Int) < n := by omega
        have HL : Hid ((out ++ bs (str k.outp)).length = n) := Lib.hid hnl
        clear hn hE hbig hnl
        go_enter Tryz.func88, Tryz.ntmps88
        go_wp2_with fail
        go_region_held3 (fun w' => w'.cell? ⟨rb, 0, none⟩ = some (.pointer (some ⟨sb, 0, none⟩)) ∧ w'.cell? ⟨rb, 9, none⟩ = some (.string (str k.outp)))
          (first | exact S0 | exact S1)
          (first
            | (go_at_call 123; refine (HW.out _ hBd hroom).mono ?_; rintro e w1 ⟨rfl, bv', hb1, hK1⟩; obtain ⟨hT1, hKB⟩ := told_wrote H.out hb1 ((Kept.of_below D0).trans hK1); obtain ⟨c0, c1, c3, c4, c8, c9⟩ := hT1.run.cells; have S1 := And.intro c0 c9; have hlt1 := hT1.run.lt; have hbat1 := hT1.bat))
        all_goals go_wp2_with (first
          | (go_at_call 122; refine (Len_any _ hbat1).mono ?_; rw [HL.out]; rintro e w2 ⟨rfl, rfl⟩))
        all_goals go_ret
        all_goals rw [HE.out]
        all_goals exact ⟨by rw [if_pos h0]; rfl, ⟨_, _, hT1⟩, hKB⟩
    · have qd := str_some hdn
      have D0 : Below w.heap.size w w.drew := (Below.refl _ _).drew
      have hRd := h.run.below D0
      have S0 : w.drew.cell? ⟨rb, 0, none⟩ = some (.pointer (some ⟨sb, 0, none⟩)) ∧ w.drew.cell? ⟨rb, 9, none⟩ = some (.string (str k.outp)) := ⟨c0, c9⟩
      obtain ⟨⟨s2, cd⟩, hq⟩ : ∃ q, Sw.writeA k.s dst k.outp true = q := ⟨_, rfl⟩
      have HWr := Lib.hid fun (W : World) (hS : StoreAt W sb bm k.s.L k.s.c) => Write_any W (str dst) (str k.outp) true hS hF (by rw [← bs_len, bs_str]; omega) (by rw [← bs_len, bs_str]; omega)
      have HC : Hid (Sw.writeA k.s (bs (str dst)) (bs (str k.outp)) true = (s2, cd)) := Lib.hid hq
      have hE : delA k out dst = ((k.took (s2, cd)).1, out, (k.took (s2, cd)).2) := by unfold delA; rw [if_neg hn, if_neg hdn, hq]
      have HE := Lib.hid hE
      have H := Lib.hid h
      have hroom := h.room
      clear h hn hdn hq hE
      by_cases hc0 : cd = 0
      · subst hc0
        go_enter Tryz.func88, Tryz.ntmps88
        go_wp2_with fail
        go_still_tail 9, (by kernel_rfl)
        change wpList _ _ _ _ _ w.drew
        generalize w.drew = wd at *
        go_wp2_with (first
          | (go_at_call 125; refine (HWr.out _ hRd.store).mono ?_; rw [HC.out]; rintro e w2 ⟨rfl, hS2, hK2⟩; have hR2 := hRd.stored hS2 hK2; have S1 : w2.cell? ⟨rb, 0, none⟩ = some (.pointer (some ⟨sb, 0, none⟩)) ∧ w2.cell? ⟨rb, 9, none⟩ = some (.string (str k.outp)) := ⟨hR2.cells.1, hR2.cells.2.2.2.2.2⟩; have hK3 := (Kept.of_below D0).trans (hK2.mono (Y := [rb, sb, bm]) (by simp)); have hlt2 := hR2.lt)
          | (go_at_call 126; refine (status_zero _).mono ?_; rintro e w3 ⟨rfl, rfl⟩))
        all_goals go_wp2_with fail
        all_goals go_ret
        all_goals rw [HE.out]
        all_goals exact ⟨by rw [if_pos (show (k.took (s2, 0)).1.code = 0 from h0)]; rfl, ⟨_, _, H.out.ran_ ⟨hR2.box, hR2.store, hR2.n1, hR2.n2⟩ hK3⟩, .of_kept hK3 hroom fun i hi => .inl hi⟩
      · by_cases h5 : cd = 5 ∨ cd = 12
        · have hcode : (k.took (s2, cd)).1.code = cd := by simp [Hp.K.took, h5]
          go_enter Tryz.func88, Tryz.ntmps88
          go_wp2_with fail
          go_still_tail 9, (by kernel_rfl)
          change wpList _ _ _ _ _ w.drew
          generalize w.drew = wd at *
          go_wp2_with (first
            | (go_at_call 125; refine (HWr.out _ hRd.store).mono ?_; rw [HC.out]; rintro e w2 ⟨rfl, hS2, hK2⟩; have hR2 := hRd.stored hS2 hK2; have S1 : w2.cell? ⟨rb, 0, none⟩ = some (.pointer (some ⟨sb, 0, none⟩)) ∧ w2.cell? ⟨rb, 9, none⟩ = some (.string (str k.outp)) := ⟨hR2.cells.1, hR2.cells.2.2.2.2.2⟩; have hK3 := (Kept.of_below D0).trans (hK2.mono (Y := [rb, sb, bm]) (by simp)); have hlt2 := hR2.lt)
            | (go_at_call 126; refine (status_end _ cd h5).mono ?_; rintro e w3 ⟨rfl, rfl⟩; unfold endE))
          all_goals refine ⟨rfl, ?_⟩
          all_goals rw [HE.out]
          all_goals exact ⟨by rw [if_neg (by rw [hcode]; exact hc0), hcode]; rfl, ⟨_, _, H.out.ran_ ⟨hR2.box, hR2.store, hR2.n1, hR2.n2⟩ hK3⟩, .of_kept hK3 hroom fun i hi => .inl hi⟩
        · have hcode : (k.took (s2, cd)).1.code = 0 := by simp [Hp.K.took, h5, h0]
          have hst : (k.took (s2, cd)).2 = 1 := by simp [Hp.K.took, hc0]
          go_enter Tryz.func88, Tryz.ntmps88
          go_wp2_with fail
          go_still_tail 9, (by kernel_rfl)
          change wpList _ _ _ _ _ w.drew
          generalize w.drew = wd at *
          go_wp2_with (first
            | (go_at_call 125; refine (HWr.out _ hRd.store).mono ?_; rw [HC.out]; rintro e w2 ⟨rfl, hS2, hK2⟩; have hR2 := hRd.stored hS2 hK2; have S1 : w2.cell? ⟨rb, 0, none⟩ = some (.pointer (some ⟨sb, 0, none⟩)) ∧ w2.cell? ⟨rb, 9, none⟩ = some (.string (str k.outp)) := ⟨hR2.cells.1, hR2.cells.2.2.2.2.2⟩; have hK3 := (Kept.of_below D0).trans (hK2.mono (Y := [rb, sb, bm]) (by simp)); have hlt2 := hR2.lt)
            | (go_at_call 126; refine (status_one _ cd hc0 (fun e => h5 (.inl e)) (fun e => h5 (.inr e))).mono ?_; rintro e w3 ⟨rfl, rfl⟩))
          all_goals go_wp2_with fail
          all_goals go_ret
          all_goals rw [HE.out]
          all_goals exact ⟨by rw [if_pos hcode, hst]; rfl, ⟨_, _, H.out.ran_ ⟨hR2.box, hR2.store, hR2.n1, hR2.n2⟩ hK3⟩, .of_kept hK3 hroom fun i hi => .inl hi⟩
end
end Go.Proofs.YteommneijlelkaaGreatDoor.Hx
