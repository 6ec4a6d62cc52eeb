/-
  shell.Run.
-/
import Derived.Test.YtaolccibflniiaaGreatDoorQHLine
import Derived.Test.YtaolccibflniiaaGreatDoorQPRight
namespace Go.Proofs.YtaolccibflniiaaGreatDoor.Hx
open Go.RowKit Go.Proofs.YtaolccibflniiaaGreatDoor Go.Maps Go.Proofs.YtaolccibflniiaaGreatDoor.Sw
set_option maxRecDepth 100000
section
variable {sb bm : Nat}
theorem str_bs' (b : ByteArray) : str (bs b) = b := by
  unfold str bs
  cases b with
  | mk x => simp
theorem right_ws {l : List Pp.C} (h : Pp.rightA l = true) : ∀ c ∈ l, c.ws ≠ [] := by
  intro c hc e
  have ho : c.okB = true := by
    cases l with
    | nil => cases hc
    | cons y r =>
      unfold Pp.rightA at h
      simp only [Bool.and_eq_true, List.all_eq_true] at h
      rcases List.mem_cons.1 hc with rfl | hc
      · exact h.2.1
      · exact h.2.2 c hc
  unfold Pp.C.okB at ho
  rw [e] at ho
  simp at ho
/-- The run's box as Run makes it. -/
abbrev runCells (sb : Nat) (d : ByteArray) : Array Value := #[.pointer (some ⟨sb, 0, none⟩), .int .i64 0, .string ⟨#[]⟩, .int .i64 0, .string d, .int .i64 0, .pointer none, .slice none 0 0, .string ⟨#[]⟩, .string ⟨#[]⟩]
abbrev resT : TypeId := 41
abbrev resCells : Array Value := #[.int .i64 0, .string ⟨#[]⟩, .int .i64 0, .string ⟨#[]⟩, .int .i64 0]
def runW (w : World) (sb : Nat) (d : ByteArray) : World := (w.alloc (.cells resCells resT)).alloc (.cells (runCells sb d) RT)
theorem runW_facts (w : World) (s : St) (d : ByteArray) (hS : StoreAt w sb bm s.L s.c) :
    Below w.heap.size w (runW w sb d) ∧ (runW w sb d).heap[w.heap.size]? = some (.cells resCells resT (0, 0)) ∧ RunAt (runW w sb d) (w.heap.size + 1) sb bm ⟨s, bs d, 0, [], []⟩ 0 0 (.pointer none) (.slice none 0 0) := by
  have B1 := (Below.refl w.heap.size w).alloc (Nat.le_refl _) (.cells resCells resT)
  have hn1 : w.heap.size < (w.alloc (.cells resCells resT)).heap.size := by simp
  have B2 : Below w.heap.size w (runW w sb d) := B1.alloc (Nat.le_of_lt hn1) _
  have B3 : Below (w.alloc (.cells resCells resT)).heap.size (w.alloc (.cells resCells resT)) (runW w sb d) := (Below.refl _ _).alloc (Nat.le_refl _) _
  have h1 := heap_new w (.cells resCells resT) rfl
  have h2 := heap_new (w.alloc (.cells resCells resT)) (.cells (runCells sb d) RT) (n := w.heap.size + 1) (by simp)
  have l1 := hS.lt
  have l2 := hS.map.lt
  exact ⟨B2, (B3.block _ hn1).trans h1, ⟨by rw [str_bs']; exact h2, hS.below B2, by omega, by omega⟩⟩
set_option maxHeartbeats 1000000 in
theorem Run_no (w : World) (s : St) (d : ByteArray) (a : Option Addr) (cp : Nat) (X : List Px.CV) (most : Int) (hS : StoreAt w sb bm s.L s.c) (hd : d.size ≤ maxLen) (hX : Px.Cs w (· < w.heap.size) (.slice a X.length cp) X) (hf : Px.Few X)
    (h : ((getR s.L (bs d)).map (·.d)).getD false = false ∨ Pp.rightA (X.map (·.c)) = false) :
    Calls Tryz.prog 11 #[.pointer (some ⟨sb, 0, none⟩), .string d, .slice a X.length cp, .int .i64 most] w fun e w' => e = .returned (.agg #[.int .i64 1, .string ⟨#[]⟩, .int .i64 0, .string ⟨#[]⟩, .int .i64 1]) ∧ Below w.heap.size w w' := by
  obtain ⟨B0, h8, hR⟩ := runW_facts w s d hS
  have hln : w.heap.size < (runW w sb d).heap.size := (Array.getElem?_eq_some_iff.1 h8).1
  obtain ⟨g, hg⟩ : ∃ g, ((getR s.L (bs d)).map (·.d)).getD false = g := ⟨_, rfl⟩
  rw [hg] at h
  have HD := Lib.hid fun (W : World) (hR : RunAt W (w.heap.size + 1) sb bm ⟨s, bs d, 0, [], []⟩ 0 0 (.pointer none) (.slice none 0 0)) => directory_any W d g hR hd (Lib.hid hg)
  have HX := Lib.hid hX
  clear hg hX
  cases g with
  | false =>
    clear h
    go_enter Tryz.func11, Tryz.ntmps11
    go_wp2_with fail
    change Calls _ _ _ (runW w sb d) _
    refine (HD.out _ hR).mono ?_
    rintro e w1 ⟨rfl, B1⟩
    have h81 := (B1.block _ hln).trans h8
    have B := B0.trans (B1.mono (Nat.le_of_lt hln))
    generalize runW w sb d = w0 at *
    have z0 := cell_at h81 (i := 0) rfl
    have z1 := cell_at h81 (i := 1) rfl
    have z2 := cell_at h81 (i := 2) rfl
    have z3 := cell_at h81 (i := 3) rfl
    have z4 := cell_at h81 (i := 4) rfl
    have zf := frozen_at h81
    go_wp2_with fail
    exact bodyPost_ret (v := .agg #[.int .i64 1, .string ⟨#[]⟩, .int .i64 0, .string ⟨#[]⟩, .int .i64 1]) (by simp [results, Tryz.results11, go_sem, z0, z1, z2, z3, z4]) rfl ⟨rfl, ((((B.setCell (Nat.le_refl _) _).setCell (Nat.le_refl _) _).setCell (Nat.le_refl _) _).setCell (Nat.le_refl _) _).setCell (Nat.le_refl _) _⟩
  | true =>
    have hr : Pp.rightA (X.map (·.c)) = false := h.resolve_left (by simp)
    have HR := Lib.hid fun (W : World) (hX : Px.Cs W (· < W.heap.size) (.slice a X.length cp) X) => Px.Right_any W a cp X false (Lib.hid hr) hX hf
    clear h hr
    go_enter Tryz.func11, Tryz.ntmps11
    go_wp2_with fail
    change Calls _ _ _ (runW w sb d) _
    refine (HD.out _ hR).mono ?_
    rintro e w1 ⟨rfl, B1⟩
    have h81 := (B1.block _ hln).trans h8
    have B := B0.trans (B1.mono (Nat.le_of_lt hln))
    have hX1 : Px.Cs w1 (· < w1.heap.size) (.slice a X.length cp) X := (HX.out.keep (fun b hb => B.block b hb)).more (fun b hb => Nat.lt_of_lt_of_le hb B.size)
    have hl1 := (Array.getElem?_eq_some_iff.1 h81).1
    have HX1 := Lib.hid hX1
    clear hX1
    generalize runW w sb d = w0 at *
    go_wp2_with fail
    refine (HR.out _ HX1.out).mono ?_
    rintro e w2 ⟨rfl, B2⟩
    have h82 := (B2.block _ hl1).trans h81
    have BB := B.trans (B2.mono (Nat.le_of_lt hl1))
    have z0 := cell_at h82 (i := 0) rfl
    have z1 := cell_at h82 (i := 1) rfl
    have z2 := cell_at h82 (i := 2) rfl
    have z3 := cell_at h82 (i := 3) rfl
    have z4 := cell_at h82 (i := 4) rfl
    have zf := frozen_at h82
    go_wp2_with fail
    exact bodyPost_ret (v := .agg #[.int .i64 1, .string ⟨#[]⟩, .int .i64 0, .string ⟨#[]⟩, .int .i64 1]) (by simp [results, Tryz.results11, go_sem, z0, z1, z2, z3, z4]) rfl ⟨rfl, ((((BB.setCell (Nat.le_refl _) _).setCell (Nat.le_refl _) _).setCell (Nat.le_refl _) _).setCell (Nat.le_refl _) _).setCell (Nat.le_refl _) _⟩
set_option maxHeartbeats 2000000 in
theorem Run_any (w : World) (s : St) (d : ByteArray) (m : Nat) (a : Option Addr) (cp : Nat) (X : List Px.CV) (most : Int) (hS : StoreAt w sb bm s.L s.c) (hF : Fine s) (hC : Closed s.L) (hdm : (bs d).length ≤ m) (hd : d.size ≤ maxLen)
    (hX : Px.Cs w (fun b => b < w.heap.size ∧ b ≠ sb ∧ b ≠ bm) (.slice a X.length cp) X) (hf : Px.Few X) (hm : 2 * (m + Hp.wL (X.map (·.c))) + 3 ≤ 100000)
    (hg : ((getR s.L (bs d)).map (·.d)).getD false = true) (hr : Pp.rightA (X.map (·.c)) = true) (r : Hp.R) (hres : Hp.lineA s (bs d) (X.map (·.c)) most = r) :
    Calls Tryz.prog 11 #[.pointer (some ⟨sb, 0, none⟩), .string d, .slice a X.length cp, .int .i64 most] w fun e w' => e = .returned (.agg #[.int .i64 r.status, .string (str r.out), .int .i64 r.ran, .string (str r.d), .int .i64 r.code]) ∧
      StoreAt w' sb bm r.s.L r.s.c ∧ Kept [sb, bm] w w' := by
  obtain ⟨B0, h8, hR⟩ := runW_facts w s d hS
  have hln : w.heap.size < (runW w sb d).heap.size := (Array.getElem?_eq_some_iff.1 h8).1
  have hlsb := hS.lt
  have hlbm := hS.map.lt
  have HD := Lib.hid fun (W : World) (hR : RunAt W (w.heap.size + 1) sb bm ⟨s, bs d, 0, [], []⟩ 0 0 (.pointer none) (.slice none 0 0)) => directory_any W d true hR hd (Lib.hid hg)
  have HR := Lib.hid fun (W : World) (hX : Px.Cs W (· < W.heap.size) (.slice a X.length cp) X) => Px.Right_any W a cp X true (Lib.hid hr) hX hf
  have hws : ∀ x ∈ X, x.c.ws ≠ [] := fun x hx => right_ws hr _ (List.mem_map_of_mem hx)
  have HL := Lib.hid fun (W : World) (hR : RunAt W (w.heap.size + 1) sb bm ⟨s, bs d, 0, [], []⟩ 0 0 (.pointer none) (.slice none 0 0)) (hX : Px.Cs W (Old (w.heap.size + 1) sb bm) (.slice a X.length cp) X) =>
    line_any W s (bs d) [] [] m _ X most hR hF hC hdm hX hws hm hf.1
  rw [hres] at HL
  have HX := Lib.hid hX
  clear hg hr hX hws hres
  go_enter Tryz.func11, Tryz.ntmps11
  go_wp2_with fail
  change Calls _ _ _ (runW w sb d) _
  refine (HD.out _ hR).mono ?_
  rintro e w1 ⟨rfl, B1⟩
  have h81 := (B1.block _ hln).trans h8
  have hR1 := hR.below B1
  have B := B0.trans (B1.mono (Nat.le_of_lt hln))
  have hX1 : Px.Cs w1 (fun b => b < w.heap.size ∧ b ≠ sb ∧ b ≠ bm) (.slice a X.length cp) X := HX.out.keep (fun b hb => B.block b hb.1)
  have hl1 := (Array.getElem?_eq_some_iff.1 h81).1
  have HX1 := Lib.hid hX1
  clear hX1
  generalize runW w sb d = w0 at *
  go_wp2_with fail
  refine (HR.out _ (HX1.out.more fun b hb => Nat.lt_of_lt_of_le hb.1 B.size)).mono ?_
  rintro e w2 ⟨rfl, B2⟩
  have h82 := (B2.block _ hl1).trans h81
  have hR2 := hR1.below B2
  have BB := B.trans (B2.mono (Nat.le_of_lt hl1))
  have HX2 := Lib.hid ((HX1.out.keep (fun b hb => B2.block b (Nat.lt_of_lt_of_le hb.1 B.size))).more (Q := Old (w.heap.size + 1) sb bm) fun b hb => ⟨by omega, hb.2.1, hb.2.2⟩)
  go_wp2_with fail
  refine (HL.out _ hR2 HX2.out).mono ?_
  rintro e w3 ⟨rfl, hK3, hS3, i, o, pv, bv, B', lr, ls, lm, hsz, hBw, hbox, hused, hown⟩
  have hBA : BAt w3 RT (w.heap.size + 1) 6 B' r.out pv bv _ := ⟨hbox, rfl, rfl, hused, hown, liesR, by decide⟩
  have hl2 := (Array.getElem?_eq_some_iff.1 h82).1
  have h83 := (hK3.block w.heap.size hl2 (by simp; omega)).trans h82
  have hl3 := (Array.getElem?_eq_some_iff.1 h83).1
  have hnin : ∀ j, j < B' → j ∉ bv.ownBlock.toList := fun j hj h => by
    cases hb : bv.ownBlock with
    | none => rw [hb] at h; simp at h
    | some g =>
      rw [hb] at h
      have e : j = g := by simpa using h
      have := (hown.lt g hb).1
      omega
  have HBA := Lib.hid hBA
  go_wp2_with fail
  refine (String_any w3 HBA.out).mono ?_
  rintro e w4 ⟨rfl, hK4⟩
  have h84 := (hK4.block w.heap.size hl3 (hnin _ (by omega))).trans h83
  have hb4 := (hK4.block (w.heap.size + 1) HBA.out.lt (hnin _ lr)).trans hbox
  have hS4 := hS3.kept hK4 (hnin _ ls) (hnin _ lm)
  have z0 := cell_at h84 (i := 0) rfl
  have z1 := cell_at h84 (i := 1) rfl
  have z2 := cell_at h84 (i := 2) rfl
  have z3 := cell_at h84 (i := 3) rfl
  have z4 := cell_at h84 (i := 4) rfl
  have zf := frozen_at h84
  have c1 := cell_at hb4 (i := 1) rfl
  have c2 := cell_at hb4 (i := 2) rfl
  have c3 := cell_at hb4 (i := 3) rfl
  have c4 := cell_at hb4 (i := 4) rfl
  have c5 := cell_at hb4 (i := 5) rfl
  have cf := frozen_at hb4
  go_wp2_with fail
  have K0 : Kept [sb, bm] w w4 := by
    refine ⟨hK4.os.trans (hK3.os.trans BB.os), hK4.tape.trans (hK3.tape.trans BB.tape), hK4.output.trans (hK3.output.trans BB.output), Nat.le_trans BB.size (Nat.le_trans hK3.size hK4.size), fun j hj hx => ?_⟩
    have n1 : j < w2.heap.size := Nat.lt_of_lt_of_le hj BB.size
    have n2 : j < w3.heap.size := Nat.lt_of_lt_of_le n1 hK3.size
    have hx' : j ∉ [w.heap.size + 1, sb, bm] := by
      simp at hx ⊢
      exact ⟨by omega, hx.1, hx.2⟩
    exact (hK4.block j n2 (hnin j (by omega))).trans ((hK3.block j n1 hx').trans (BB.block j hj))
  have s1 : w.heap.size ≠ sb := by omega
  have s2 : w.heap.size ≠ bm := by omega
  have s3 : w.heap.size + 1 ≠ sb := by omega
  have s4 : w.heap.size + 1 ≠ bm := by omega
  refine bodyPost_ret (v := .agg #[.int .i64 r.status, .string (str r.out), .int .i64 r.ran, .string (str r.d), .int .i64 r.code]) (by simp [results, Tryz.results11, go_sem, z0, z1, z2, z3, z4]) rfl ⟨rfl, ?_, ?_⟩
  · exact store_set (store_set (store_set (store_set (store_set (store_set hS4 s3 s4 _) s1 s2 _) s1 s2 _) s1 s2 _) s1 s2 _) s1 s2 _
  · exact (((((K0.setCell (.inr (Nat.le_succ _)) _).setCell (.inr (Nat.le_refl _)) _).setCell (.inr (Nat.le_refl _)) _).setCell (.inr (Nat.le_refl _)) _).setCell (.inr (Nat.le_refl _)) _).setCell (.inr (Nat.le_refl _)) _
end
end Go.Proofs.YtaolccibflniiaaGreatDoor.Hx
