/-
  flatironlaw16: lives, DataNil.
-/
import Derived.Test.YtpliljcjjffipaaGreatDoorQDQRead
import Derived.Test.YtpliljcjjffipaaGreatDoorQDQRule2
import Derived.Test.YtpliljcjjffipaaGreatDoorQSNew
import Derived.BigQuiet
namespace Go.Proofs.YtpliljcjjffipaaGreatDoor.Dq
open Go.RowKit Go.Proofs.YtpliljcjjffipaaGreatDoor Go.Maps Go.Proofs.YtpliljcjjffipaaGreatDoor.Ww Go.Proofs.YtpliljcjjffipaaGreatDoor.Tw Go.Proofs.YtpliljcjjffipaaGreatDoor.Kw Go.Proofs.YtpliljcjjffipaaGreatDoor.Jw Go.Proofs.YtpliljcjjffipaaGreatDoor.Xb Go.Proofs.YtpliljcjjffipaaGreatDoor.Xw Go.Proofs.YtpliljcjjffipaaGreatDoor.Dz
set_option maxRecDepth 100000

abbrev whS : Bs := [100, 47, 77, 97, 107, 101, 102, 105, 108, 101]
abbrev txS : Bs := [97, 58, 32, 98]
def liveF : List Sw.F := [⟨whS, txS, 0, false⟩]
def liveL : List Sw.F := (Sw.newA liveF).1.L
theorem live_code : (Sw.newA liveF).2 = 0 := by kernel_rfl
theorem live_get : Sw.readA (Sw.getR liveL whS) = (txS, 0) := by kernel_rfl
theorem live_parts : Mp.partsA txS = .ok [⟨1, 1, [], [], [], false, false, [97], [98], [], []⟩] := by rfl
theorem live_j0 : Pt.join [[100], [77, 97, 107, 101, 102, 105, 108, 101]] = some whS := by kernel_rfl
theorem live_j1 : Pt.join [[100], [97]] = some [100, 47, 97] := by kernel_rfl
theorem live_j2 : Pt.join [[100], [98]] = some [100, 47, 98] := by kernel_rfl
theorem live_clean : isPath [100] = true := by kernel_rfl
theorem live_w1 : wordsS (str [97]) = [⟨#[97]⟩] := by kernel_rfl
theorem live_w2 : wordsS (str [98]) = [⟨#[98]⟩] := by kernel_rfl
theorem live_w3 : wordsS (str []) = [] := by kernel_rfl
/-- What the example's data are. -/
def LiveP (db : Nat) (W : World) : Prop := ∃ tb g c ga, W.heap[db]? = some (.cells (dC ⟨#[100]⟩ tb (.slice (some ⟨g, 0, none⟩) 1 c) (.slice none 0 0) (.slice none 0 0) (.slice none 0 0)) DT (0, 0)) ∧
  One W 0 g c [.string ⟨#[100, 47, 97]⟩, .string ⟨#[97]⟩, .slice (some ⟨ga, 0, none⟩) 1 1, .slice none 0 0, .slice none 0 0, .int .i64 0, .bool false] ∧ FAt W ga ⟨#[100, 47, 98]⟩ ⟨#[98]⟩
theorem LiveP.set {db b i : Nat} {W : World} {T : TypeId} {v : Value} (hT : T ≠ DT ∧ T ≠ GT ∧ T ≠ FiT) (hb : ∃ cs, W.heap[b]? = some (.cells cs T (0, 0))) (h : LiveP db W) : LiveP db (W.setCell ⟨b, i, none⟩ v) := by
  obtain ⟨cs, hb⟩ := hb
  obtain ⟨tb, g, c, ga, h1, h2, h3⟩ := h
  have n1 : db ≠ b := fun e => by subst e; rw [hb] at h1; injection h1 with h1; injection h1 with _ h1; exact hT.1 h1
  have n2 : g ≠ b := fun e => by
    subst e
    obtain ⟨cur, h4, _⟩ := h2.row
    rw [hb] at h4; injection h4 with h4; injection h4 with _ h4; exact hT.2.1 h4
  have n3 : ga ≠ b := fun e => by
    subst e
    obtain ⟨cur, h4, _⟩ := h3
    rw [hb] at h4; injection h4 with h4; injection h4 with _ h4; exact hT.2.2 h4
  exact ⟨tb, g, c, ga, set_ne h1 n1 v, h2.block (Below.heap_setCell _ _ _ _ n2), h3.block (Below.heap_setCell _ _ _ _ n3)⟩
set_option maxHeartbeats 2000000 in
theorem live_all (w : World) (sp : Option Addr) : AllC w [] (.pointer sp) ⟨#[100]⟩ (pC ((1 : Nat) : Int) ((1 : Nat) : Int) (str []) (str []) (str []) false false (str [97]) (str [98]) (str [])) LiveP := by
  intro W0 W rb db tb sx dx rx fx ib kb X g c ra rc hB hw hBw hdb hdl hT hX hg hP
  have hal := all_one W rb g c 1 1 ⟨#[]⟩ ⟨#[]⟩ ⟨#[]⟩ false false (str [97]) (str [98]) (str []) ra 0 rc hP [db, ib] (by
    intro i hi
    simp at hi
    rcases hi with rfl | rfl
    · exact (Array.getElem?_eq_some_iff.1 hB.d).1
    · exact hB.i.lt) (LiveP db) (fun W b i v hb h => LiveP.set ⟨by decide, by decide, by decide⟩ hb h) (by
    intro W1 hW1
    have hB1 := hB.below hW1
    have hA := (Below.refl W1.heap.size W1).alloc (Nat.le_refl _) (.cells #[.int .i64 1, .int .i64 1, .string ⟨#[]⟩, .string ⟨#[]⟩, .string ⟨#[]⟩, .bool false, .bool false, .string (str [97]), .string (str [98]), .string (str []), .slice ra 0 rc] 170)
    have hB2 := hB1.below hA
    have hr := rule_one hB2.r hB2.d hB2.i ⟨#[97]⟩ ⟨#[98]⟩ [100, 47, 97] [100, 47, 98] ⟨by decide, by decide⟩ (by decide) (Lib.hid live_j1) (Lib.hid live_j2) (by decide) (by kernel_rfl) (by kernel_rfl) (by rw [toList_by8]; decide) (by rw [toList_by8]; decide) 1 [97] [98] [] ra rc ⟨by decide, by decide, live_w1⟩ ⟨by decide, by decide, live_w2⟩ ⟨by decide, by decide, live_w3⟩ (by kernel_rfl)
    refine part_rule W1 rb 1 (str [97]) (str [98]) (str []) (.slice ra 0 rc) ⟨_, _, _, rfl⟩ (fun _ w' => Kept [db, ib] W1 w' ∧ LiveP db w') (hr.mono ?_)
    rintro e w' ⟨rfl, g', c', ga, h1, h2, h3, h4⟩
    exact ⟨rfl, (Kept.of_below hA).trans h4, _, g', c', ga, h1, ⟨Nat.zero_le _, h2.row, h2.c1, h2.cm⟩, h3⟩)
  refine hal.mono ?_
  rintro e w' ⟨rfl, hk, hp⟩
  refine ⟨[db, ib], rfl, hk, ?_, hp⟩
  intro i hi
  simp at hi
  rcases hi with rfl | rfl
  · exact .inl rfl
  · exact .inr ⟨hB.new.2.2.2.2.2.1, hB.i.not_cells hB.r⟩
abbrev AFT : TypeId := 29
abbrev mkT : ByteArray := ⟨#[100, 47, 77, 97, 107, 101, 102, 105, 108, 101]⟩
theorem new_live (w : World) (b : Nat) (hb : b = w.heap.size) : Calls Tryz.prog 24 #[.slice (some ⟨b, 0, none⟩) 1 1] (w.alloc (.cells #[.string mkT, .string ⟨#[97, 58, 32, 98]⟩, .int .i64 0, .bool false] AFT)) fun e w' =>
    ∃ sb bm c, e = .returned (.tuple #[.pointer (some ⟨sb, 0, none⟩), .int .i64 0]) ∧ Sw.StoreAt w' sb bm liveL c ∧ Below w.heap.size w w' := by
  subst hb
  have hh := heap_last w (.cells #[.string mkT, .string ⟨#[97, 58, 32, 98]⟩, .int .i64 0, .bool false] AFT)
  have hG : Sw.Given (w.alloc (.cells #[.string mkT, .string ⟨#[97, 58, 32, 98]⟩, .int .i64 0, .bool false] AFT)) w.heap.size 0 1 liveF := ⟨by simp, fun j f hf => by
    match j, hf with
    | 0, hf => cases hf; exact ⟨cell_at hh rfl, cell_at hh rfl, cell_at hh rfl, cell_at hh rfl⟩, by
    intro f hf
    simp [liveF] at hf
    subst hf
    exact ⟨by decide, by decide⟩, by decide⟩
  have h := Sw.New_some _ _ 0 1 liveF hG
  refine h.mono ?_
  intro e w' h
  unfold Sw.NewPost at h
  rw [if_pos live_code] at h
  obtain ⟨sb, bm, rfl, h1, h2, h3, hB⟩ := h
  exact ⟨sb, bm, _, rfl, h3, ((Below.refl _ w).alloc (Nat.le_refl _) _).trans (hB.mono (by simp))⟩
set_option maxHeartbeats 2000000 in
theorem equal_one (w : World) (g k c d : Nat) (h1 : FAt w g ⟨#[100, 47, 98]⟩ ⟨#[98]⟩) (h2 : FAt w k ⟨#[100, 47, 98]⟩ ⟨#[98]⟩) :
    Calls Tryz.prog 25 #[.slice (some ⟨g, 0, none⟩) 1 c, .slice (some ⟨k, 0, none⟩) 1 d] w fun e w' => e = .returned (.bool true) ∧ w.heap = w'.heap ∧ Below w.heap.size w w' := by
  have hq : ∀ w : World, (binOp .neq FiT (.agg #[.string ⟨#[100, 47, 98]⟩, .string ⟨#[98]⟩]) (.agg #[.string ⟨#[100, 47, 98]⟩, .string ⟨#[98]⟩])).run Tryz.prog w = .ok (.bool false) w := fun w => by kernel_rfl
  obtain ⟨c1, a1, a2, a3⟩ := h1
  obtain ⟨c2, b1, b2, b3⟩ := h2
  have x1 := cell_at a1 a2
  have x2 := cell_at a1 a3
  have y1 := cell_at b1 b2
  have y2 := cell_at b1 b3
  have l1 := (Array.getElem?_eq_some_iff.1 a1).1
  have l2 := (Array.getElem?_eq_some_iff.1 b1).1
  clear a1 a2 a3 b1 b2 b3
  go_enter Tryz.func25, Tryz.ntmps25
  go_wp2_with fail
  refine wp_loop_rounds 2 ?_
  rw [rounds_succ]
  go_wp2_with fail
  go_quiet (fail)
  go_wp2_with fail
  rw [rounds_succ]
  go_wp2_with fail
  go_ret
  exact ⟨rfl, rfl, ((Kept.refl [] w).drewN _).to_below (Nat.le_refl _) (by simp)⟩
set_option maxHeartbeats 8000000 in
theorem lives_any (w : World) : Calls Tryz.prog 5 #[] w fun e w' => e = .returned (.bool true) ∧ Below w.heap.size w w' := by
  have HN := Lib.hid fun W b hb => new_live W b hb
  have hqF : ∀ w : World, (binOp .eql FaT (.agg #[.int .i64 0, .string ⟨#[]⟩, .int .i64 0]) (.agg #[.int .i64 0, .string ⟨#[]⟩, .int .i64 0])).run Tryz.prog w = .ok (.bool true) w := fun w => by kernel_rfl
  go_enter Tryz.func5, Tryz.ntmps5
  go_wp2_with fail
  refine (HN.out w _ rfl).mono ?_
  rintro e w1 ⟨sb, bm, c, rfl, hS, B1⟩
  have HS := Lib.hid hS
  have HB1 := Lib.hid B1
  clear hS B1 HN
  go_wp2_with fail
  refine (PNew_any w1).mono ?_
  rintro e w2 ⟨rfl, hT, B2⟩
  have HS2 := Lib.hid (HS.out.below B2)
  have HT := Lib.hid hT
  have HB2 := Lib.hid (HB1.out.trans (B2.mono HB1.out.size))
  clear hT B2
  go_wp2_with fail
  refine (Read_ok w2 (some ⟨sb, 0, none⟩) HT.out (by decide) (by simp) ⟨#[100]⟩ whS txS (by decide) live_clean (Lib.hid live_j0) (fun W hW => by
    have h := Sw.Read_any W mkT (Sw.getR liveL whS) (HS2.out.below hW) (by decide) (Lib.hid rfl)
    rw [live_get] at h
    exact h) (by decide) 1 1 [] [] [] [97] [98] [] false false live_parts LiveP (fun db W b i v hb h => LiveP.set ⟨by decide, by decide, by decide⟩ hb h) (live_all w2 _)).mono ?_
  rintro e w3 ⟨db, rfl, B3, hdb, tb, g, cg, ga, h1, h2, h3⟩
  have HB3 := Lib.hid (HB2.out.trans (B3.mono HB2.out.size))
  have hA : Below w3.heap.size w3 (w3.alloc (.cells #[.int .i64 0, .string ⟨#[]⟩, .int .i64 0] FaT)) := (Below.refl _ w3).alloc (Nat.le_refl _) _
  have g1 := (hA.block _ (Array.getElem?_eq_some_iff.1 h1).1).trans h1
  have g2 := h2.block (hA.block _ h2.lt)
  have g3 := h3.block (hA.block _ h3.lt)
  have HE := Lib.hid g3
  have z2 : (w3.alloc (.cells #[.int .i64 0, .string ⟨#[]⟩, .int .i64 0] FaT)).cell? ⟨db, 2, none⟩ = some (.slice (some ⟨g, 0, none⟩) 1 cg) := cell_at (i := 2) g1 rfl
  have o0 : (w3.alloc (.cells #[.int .i64 0, .string ⟨#[]⟩, .int .i64 0] FaT)).cell? ⟨g, 0, none⟩ = some (.string ⟨#[100, 47, 97]⟩) := g2.cell (i := 0) (by decide) rfl
  have o2 : (w3.alloc (.cells #[.int .i64 0, .string ⟨#[]⟩, .int .i64 0] FaT)).cell? ⟨g, 2, none⟩ = some (.slice (some ⟨ga, 0, none⟩) 1 1) := g2.cell (i := 2) (by decide) rfl
  have l1 := (Array.getElem?_eq_some_iff.1 g1).1
  have l2 := g2.lt
  have hc1 := h2.c1
  clear h1 h2 h3 g1 g2 g3 hA B3 HS HS2 HT
  go_wp2_with fail
  have hF2 := HE.out.block (((Below.refl _ (w3.alloc (.cells #[.int .i64 0, .string ⟨#[]⟩, .int .i64 0] FaT))).alloc (Nat.le_refl _) (.cells #[.string ⟨#[100, 47, 98]⟩, .string ⟨#[98]⟩] FiT)).block _ HE.out.lt)
  have hl2 := heap_last (w3.alloc (.cells #[.int .i64 0, .string ⟨#[]⟩, .int .i64 0] FaT)) (.cells #[.string ⟨#[100, 47, 98]⟩, .string ⟨#[98]⟩] FiT)
  rw [World.size_alloc] at hl2
  have HB4 := Lib.hid ((HB3.out.alloc HB3.out.size (.cells #[.int .i64 0, .string ⟨#[]⟩, .int .i64 0] FaT)).alloc (by have := HB3.out.size; simp; omega) (.cells #[.string ⟨#[100, 47, 98]⟩, .string ⟨#[98]⟩] FiT))
  refine (equal_one _ ga (w3.heap.size + 1) 1 1 hF2 ⟨_, hl2, rfl, rfl⟩).mono ?_
  rintro e w4 ⟨rfl, _, B4⟩
  have HB5 := Lib.hid (HB4.out.trans (B4.mono HB4.out.size))
  clear hF2 hl2 B4 z2 o0 o2 l1 l2
  go_wp2_with fail
  go_ret
  exact ⟨rfl, HB5.out⟩
abbrev zeroG : Array Value := #[.string ⟨#[]⟩, .string ⟨#[]⟩, .slice none 0 0, .slice none 0 0, .slice none 0 0, .int .i64 0, .bool false]
set_option maxHeartbeats 2000000 in
theorem Get_nil (w : World) (p : ByteArray) : Calls Tryz.prog 21 #[.pointer none, .string p] w fun e w' => e = .returned (.tuple #[.agg zeroG, .bool false]) ∧ Below w.heap.size w w' := by
  have hz : (Tryz.prog.info? GT).map (·.size) = some 7 := by kernel_rfl
  have hu : Tryz.prog.underlying GT = some (.struct (Tryz.prog.fieldsOf GT)) := by kernel_rfl
  go_enter Tryz.func21, Tryz.ntmps21
  go_wp2_with fail
  refine bodyPost_ret (Mw.results_two Tryz.results21 _ _ w.heap.size GT zeroG (0, 0) _ (.bool false) rfl rfl (heap_last _ _) hu rfl hz) rfl ?_
  exact ⟨rfl, (Below.refl _ w).alloc (Nat.le_refl _) _⟩
set_option maxHeartbeats 2000000 in
theorem Goal_nil (w : World) : Calls Tryz.prog 22 #[.pointer none] w fun e w' => e = .returned (.tuple #[.agg #[.string ⟨#[]⟩, .string ⟨#[]⟩], .bool false]) ∧ Below w.heap.size w w' := by
  have hz : (Tryz.prog.info? FiT).map (·.size) = some 2 := by kernel_rfl
  have hu : Tryz.prog.underlying FiT = some (.struct (Tryz.prog.fieldsOf FiT)) := by kernel_rfl
  go_enter Tryz.func22, Tryz.ntmps22
  go_wp2_with fail
  refine bodyPost_ret (Mw.results_two Tryz.results22 _ _ w.heap.size FiT #[.string ⟨#[]⟩, .string ⟨#[]⟩] (0, 0) _ (.bool false) rfl rfl (heap_last _ _) hu rfl hz) rfl ?_
  exact ⟨rfl, (Below.refl _ w).alloc (Nat.le_refl _) _⟩
def ReadErr (w : World) (n : Int) (a : ByteArray) (e : Ending) (w' : World) : Prop := e = .returned (.tuple #[.pointer none, .agg #[.int .i64 n, .string a, .int .i64 0]]) ∧ Below w.heap.size w w'
theorem hzF : (Tryz.prog.info? FaT).map (·.size) = some 3 := by kernel_rfl
theorem huF : Tryz.prog.underlying FaT = some (.struct (Tryz.prog.fieldsOf FaT)) := by kernel_rfl
set_option maxHeartbeats 2000000 in
theorem Read_nobase (w : World) (q : ByteArray) : Calls Tryz.prog 9 #[.pointer none, .string q, .pointer none] w (ReadErr w 1 ⟨#[]⟩) := by
  go_enter Tryz.func9, Tryz.ntmps9
  go_wp2_with fail
  refine bodyPost_ret (Mw.results_tc Tryz.results9 _ _ w.heap.size FaT #[.int .i64 1, .string ⟨#[]⟩, .int .i64 0] (0, 0) _ (.pointer none) rfl rfl (heap_last _ _) huF rfl hzF) rfl ?_
  exact ⟨rfl, (Below.refl _ w).alloc (Nat.le_refl _) _⟩
set_option maxHeartbeats 2000000 in
theorem Read_unclean (w : World) (q : ByteArray) (tb : Nat) (hq : q.size ≤ 1000) (hcl : isPath (bs q) = false) : Calls Tryz.prog 9 #[.pointer none, .string q, .pointer (some ⟨tb, 0, none⟩)] w (ReadErr w 1 ⟨#[]⟩) := by
  have HCl := Lib.hid fun W => Clean_any W q (by omega)
  rw [hcl] at HCl
  have HB0 := Lib.hid ((Below.refl w.heap.size w).alloc (Nat.le_refl _) (.cells #[.int .i64 0, .string ⟨#[]⟩, .int .i64 0] FaT))
  have HF0 := Lib.hid (heap_last w (.cells #[.int .i64 0, .string ⟨#[]⟩, .int .i64 0] FaT))
  have HS0 := Lib.hid (show w.heap.size < (w.alloc (.cells #[.int .i64 0, .string ⟨#[]⟩, .int .i64 0] FaT)).heap.size by simp)
  clear hcl
  go_enter Tryz.func9, Tryz.ntmps9
  go_wp2_with fail
  refine (HCl.out _).mono ?_
  rintro e w1 ⟨rfl, B1⟩
  have hf1 := (B1.block _ HS0.out).trans HF0.out
  have HF1 := Lib.hid hf1
  have HB1 := Lib.hid (HB0.out.trans (B1.mono HB0.out.size))
  have z0 := cell_at (i := 0) hf1 rfl
  have z1 := cell_at (i := 1) hf1 rfl
  have z2 := cell_at (i := 2) hf1 rfl
  have fz0 := frozen_at hf1 0
  have fz1 := frozen_at hf1 1
  have fz2 := frozen_at hf1 2
  have l1 := (Array.getElem?_eq_some_iff.1 hf1).1
  clear hf1 B1
  go_wp2_with fail
  refine bodyPost_ret (Mw.results_tc Tryz.results9 _ _ w.heap.size FaT #[.int .i64 1, .string ⟨#[]⟩, .int .i64 0] (0, 0) _ (.pointer none) rfl rfl (heap_set (i := 2) (heap_set (i := 1) (heap_set (i := 0) HF1.out _) _) _) huF rfl hzF) rfl ?_
  exact ⟨rfl, ((HB1.out.setCell (p := ⟨w.heap.size, 0, none⟩) (by simp) _).setCell (p := ⟨w.heap.size, 1, none⟩) (by simp) _).setCell (p := ⟨w.heap.size, 2, none⟩) (by simp) _⟩
set_option maxHeartbeats 2000000 in
theorem Read_none (w : World) (q : ByteArray) (wh : Bs) (tb : Nat) (hq : q.size ≤ 1000) (hcl : isPath (bs q) = true) (hj : Hid (Pt.join [bs q, [77, 97, 107, 101, 102, 105, 108, 101]] = some wh)) : Calls Tryz.prog 9 #[.pointer none, .string q, .pointer (some ⟨tb, 0, none⟩)] w (ReadErr w 3 (str wh)) := by
  have HCl := Lib.hid fun W => Clean_any W q (by omega)
  rw [hcl] at HCl
  have HJ := Lib.hid fun W b hb => join2_yes W b hb q ⟨#[77, 97, 107, 101, 102, 105, 108, 101]⟩ wh ⟨by omega, by decide⟩ hj
  have HRd := Lib.hid fun W => Sw.Read_nil W (str wh)
  have HB0 := Lib.hid ((Below.refl w.heap.size w).alloc (Nat.le_refl _) (.cells #[.int .i64 0, .string ⟨#[]⟩, .int .i64 0] FaT))
  have HF0 := Lib.hid (heap_last w (.cells #[.int .i64 0, .string ⟨#[]⟩, .int .i64 0] FaT))
  have HS0 := Lib.hid (show w.heap.size < (w.alloc (.cells #[.int .i64 0, .string ⟨#[]⟩, .int .i64 0] FaT)).heap.size by simp)
  clear hcl hj
  go_enter Tryz.func9, Tryz.ntmps9
  go_wp2_with fail
  generalize w.alloc (.cells #[.int .i64 0, .string ⟨#[]⟩, .int .i64 0] FaT) = w0 at *
  refine (HCl.out _).mono ?_
  rintro e w1 ⟨rfl, B1⟩
  have HF1 := Lib.hid ((B1.block _ HS0.out).trans HF0.out)
  have HB1 := Lib.hid (HB0.out.trans (B1.mono HB0.out.size))
  clear B1
  go_wp2_with fail
  refine (HJ.out w1 _ rfl).mono ?_
  rintro e w2 ⟨rfl, B2⟩
  have HF2 := Lib.hid ((B2.block _ (Array.getElem?_eq_some_iff.1 HF1.out).1).trans HF1.out)
  have HB2 := Lib.hid (HB1.out.trans (B2.mono HB1.out.size))
  clear B2
  go_wp2_with fail
  refine (HRd.out w2).mono ?_
  rintro e w3 ⟨rfl, B3⟩
  have hf3 := (B3.block _ (Array.getElem?_eq_some_iff.1 HF2.out).1).trans HF2.out
  have HF3 := Lib.hid hf3
  have HB3 := Lib.hid (HB2.out.trans (B3.mono HB2.out.size))
  have z0 := cell_at (i := 0) hf3 rfl
  have z1 := cell_at (i := 1) hf3 rfl
  have z2 := cell_at (i := 2) hf3 rfl
  have fz0 := frozen_at hf3 0
  have fz1 := frozen_at hf3 1
  have fz2 := frozen_at hf3 2
  have l1 := (Array.getElem?_eq_some_iff.1 hf3).1
  clear hf3 B3
  go_wp2_with fail
  refine bodyPost_ret (Mw.results_tc Tryz.results9 _ _ w.heap.size FaT #[.int .i64 3, .string (str wh), .int .i64 0] (0, 0) _ (.pointer none) rfl rfl (heap_set (i := 2) (heap_set (i := 1) (heap_set (i := 0) HF3.out _) _) _) huF rfl hzF) rfl ?_
  exact ⟨rfl, ((HB3.out.setCell (p := ⟨w.heap.size, 0, none⟩) (by simp) _).setCell (p := ⟨w.heap.size, 1, none⟩) (by simp) _).setCell (p := ⟨w.heap.size, 2, none⟩) (by simp) _⟩
set_option maxHeartbeats 4000000 in
/-- DataNil. -/
theorem DataNil_any (w : World) (p : ByteArray) : Calls Tryz.prog 4 #[.string p] w fun e w' => e = .returned (.bool true) ∧ Below w.heap.size w w' := by
  have hq3 : ∀ w : World, (binOp .eql FaT (.agg #[.int .i64 3, .string mkT, .int .i64 0]) (.agg #[.int .i64 3, .string mkT, .int .i64 0])).run Tryz.prog w = .ok (.bool true) w := fun w => by kernel_rfl
  have hq1 : ∀ w : World, (binOp .eql FaT (.agg #[.int .i64 1, .string ⟨#[]⟩, .int .i64 0]) (.agg #[.int .i64 1, .string ⟨#[]⟩, .int .i64 0])).run Tryz.prog w = .ok (.bool true) w := fun w => by kernel_rfl
  have H3 := Lib.hid fun (W : World) tb => Read_none W ⟨#[100]⟩ whS tb (by decide) live_clean (Lib.hid live_j0)
  have e3 : str whS = mkT := rfl
  rw [e3] at H3
  have H2 := Lib.hid fun (W : World) tb => Read_unclean W ⟨#[100, 47]⟩ tb (by decide) (by kernel_rfl)
  clear e3
  go_enter Tryz.func4, Tryz.ntmps4
  go_wp2_with fail
  refine (lives_any w).mono ?_
  rintro e w1 ⟨rfl, B1⟩
  have HB1 := Lib.hid B1
  clear B1
  go_wp2_with fail
  refine (Get_nil w1 p).mono ?_
  rintro e w2 ⟨rfl, B2⟩
  have HB2 := Lib.hid (HB1.out.trans (B2.mono HB1.out.size))
  clear B2
  go_wp2_with fail
  refine (Goal_nil _).mono ?_
  rintro e w3 ⟨rfl, B3⟩
  have HB3 := Lib.hid ((HB2.out.alloc HB2.out.size (.cells zeroG GT)).trans (B3.mono (HB2.out.alloc HB2.out.size (.cells zeroG GT)).size))
  clear B3
  go_wp2_with fail
  refine (PNew_any _).mono ?_
  rintro e w4 ⟨rfl, _, B4⟩
  have HB4 := Lib.hid ((HB3.out.alloc HB3.out.size (.cells #[.string ⟨#[]⟩, .string ⟨#[]⟩] FiT)).trans (B4.mono (HB3.out.alloc HB3.out.size (.cells #[.string ⟨#[]⟩, .string ⟨#[]⟩] FiT)).size))
  clear B4
  go_wp2_with fail
  refine (H3.out w4 _).mono ?_
  rintro e w5 ⟨rfl, B5⟩
  have hB5 := HB4.out.trans (B5.mono HB4.out.size)
  have HB5 := Lib.hid (hB5.alloc hB5.size (.cells #[.int .i64 3, .string mkT, .int .i64 0] FaT))
  have hf5 := heap_last w5 (.cells #[.int .i64 3, .string mkT, .int .i64 0] FaT)
  have HF5 := Lib.hid hf5
  clear B5 hB5 hf5
  go_wp2_with fail
  refine (Read_nobase _ ⟨#[100]⟩).mono ?_
  rintro e w6 ⟨rfl, B6⟩
  have hA5 : Below w5.heap.size w5 (w5.alloc (.cells #[.int .i64 3, .string mkT, .int .i64 0] FaT)) := (Below.refl _ w5).alloc (Nat.le_refl _) _
  have hf6 := (B6.block w5.heap.size (by simp)).trans HF5.out
  have HB6 := Lib.hid (HB5.out.trans (B6.mono HB5.out.size))
  have hA6 : Below w6.heap.size w6 (w6.alloc (.cells #[.int .i64 1, .string ⟨#[]⟩, .int .i64 0] FaT)) := (Below.refl _ w6).alloc (Nat.le_refl _) _
  have hg6 := heap_last w6 (.cells #[.int .i64 1, .string ⟨#[]⟩, .int .i64 0] FaT)
  have HX6 := Lib.hid (And.intro (alloc_keep hf6 (.cells #[.int .i64 1, .string ⟨#[]⟩, .int .i64 0] FaT)) hg6)
  have HB6a := Lib.hid (HB6.out.alloc HB6.out.size (.cells #[.int .i64 1, .string ⟨#[]⟩, .int .i64 0] FaT))
  clear hA5 hf6 hA6 hg6 B6 HF5
  go_wp2_with fail
  refine (PNew_any _).mono ?_
  rintro e w7 ⟨rfl, _, B7⟩
  have HX7 := Lib.hid (And.intro ((B7.block _ (Array.getElem?_eq_some_iff.1 HX6.out.1).1).trans HX6.out.1) ((B7.block _ (Array.getElem?_eq_some_iff.1 HX6.out.2).1).trans HX6.out.2))
  have HB7 := Lib.hid (HB6a.out.trans (B7.mono HB6a.out.size))
  clear B7 HX6
  go_wp2_with fail
  refine (H2.out w7 _).mono ?_
  rintro e w8 ⟨rfl, B8⟩
  have hx8 := alloc_keep ((B8.block _ (Array.getElem?_eq_some_iff.1 HX7.out.1).1).trans HX7.out.1) (.cells #[.int .i64 1, .string ⟨#[]⟩, .int .i64 0] FaT)
  have hy8 := alloc_keep ((B8.block _ (Array.getElem?_eq_some_iff.1 HX7.out.2).1).trans HX7.out.2) (.cells #[.int .i64 1, .string ⟨#[]⟩, .int .i64 0] FaT)
  have HB8 := Lib.hid (HB7.out.trans (B8.mono HB7.out.size))
  have HB9 := Lib.hid (HB8.out.alloc HB8.out.size (.cells #[.int .i64 1, .string ⟨#[]⟩, .int .i64 0] FaT))
  have a0 : (w8.alloc (.cells #[.int .i64 1, .string ⟨#[]⟩, .int .i64 0] FaT)).cell? ⟨w5.heap.size, 0, none⟩ = some (.int .i64 3) := cell_at hx8 rfl
  have a1 : (w8.alloc (.cells #[.int .i64 1, .string ⟨#[]⟩, .int .i64 0] FaT)).cell? ⟨w5.heap.size, 1, none⟩ = some (.string mkT) := cell_at hx8 rfl
  have a2 : (w8.alloc (.cells #[.int .i64 1, .string ⟨#[]⟩, .int .i64 0] FaT)).cell? ⟨w5.heap.size, 2, none⟩ = some (.int .i64 0) := cell_at hx8 rfl
  have b0 : (w8.alloc (.cells #[.int .i64 1, .string ⟨#[]⟩, .int .i64 0] FaT)).cell? ⟨w6.heap.size, 0, none⟩ = some (.int .i64 1) := cell_at hy8 rfl
  have b1 : (w8.alloc (.cells #[.int .i64 1, .string ⟨#[]⟩, .int .i64 0] FaT)).cell? ⟨w6.heap.size, 1, none⟩ = some (.string ⟨#[]⟩) := cell_at hy8 rfl
  have b2 : (w8.alloc (.cells #[.int .i64 1, .string ⟨#[]⟩, .int .i64 0] FaT)).cell? ⟨w6.heap.size, 2, none⟩ = some (.int .i64 0) := cell_at hy8 rfl
  clear hx8 hy8 B8
  go_wp2_with fail
  go_ret
  exact ⟨rfl, HB9.out⟩
end Go.Proofs.YtpliljcjjffipaaGreatDoor.Dq
