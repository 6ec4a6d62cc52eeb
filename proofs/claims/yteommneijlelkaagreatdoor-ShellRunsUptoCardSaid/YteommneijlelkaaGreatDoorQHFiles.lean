/-
  shell.Run.
  The chapter's example; which names there are; no store.
  Files that are handed over; flatironlaw07.Small, New of them.
-/
import Derived.Test.YteommneijlelkaaGreatDoorQHLine
import Derived.Test.YteommneijlelkaaGreatDoorQPRight
import Derived.Laws.StructEq
import Derived.Test.YteommneijlelkaaGreatDoorQPLine
import Derived.Test.YteommneijlelkaaGreatDoorQSNew
import Derived.Deep.RegionHeld3
import Derived.Deep.DeepCutAuto
import Derived.Test.YteommneijlelkaaGreatDoorQSFine
namespace Go.Proofs.YteommneijlelkaaGreatDoor.Hx
open Go.RowKit Go.Proofs.YteommneijlelkaaGreatDoor Go.Maps Go.Proofs.YteommneijlelkaaGreatDoor.Sw
set_option maxRecDepth 100000
section
variable {sb bm : Nat}
theorem str_bs' (b : ByteArray) : str (bs b) = b := by
  unfold str bs
  cases b with
  | mk x => simp
theorem right_ws {l : List Pp.C} (h : Pp.rightA l = true) : ∀ c ∈ l, c.ws ≠ [] := by
  intro c hc e
  have ho : c.okB = true := by
    cases l with
    | nil => cases hc
    | cons y r =>
      unfold Pp.rightA at h
      simp only [Bool.and_eq_true, List.all_eq_true] at h
      rcases List.mem_cons.1 hc with rfl | hc
      · exact h.2.1
      · exact h.2.2 c hc
  unfold Pp.C.okB at ho
  rw [e] at ho
  simp at ho
/-- The run's box as Run makes it. -/
abbrev runCells (sb : Nat) (d : ByteArray) : Array Value := #[.pointer (some ⟨sb, 0, none⟩), .int .i64 0, .string ⟨#[]⟩, .int .i64 0, .string d, .int .i64 0, .pointer none, .slice none 0 0, .string ⟨#[]⟩, .string ⟨#[]⟩]
abbrev resT : TypeId := 41
abbrev resCells : Array Value := #[.int .i64 0, .string ⟨#[]⟩, .int .i64 0, .string ⟨#[]⟩, .int .i64 0]
def runW (w : World) (sb : Nat) (d : ByteArray) : World := (w.alloc (.cells resCells resT)).alloc (.cells (runCells sb d) RT)
theorem runW_facts (w : World) (s : St) (d : ByteArray) (hS : StoreAt w sb bm s.L s.c) :
    Below w.heap.size w (runW w sb d) ∧ (runW w sb d).heap[w.heap.size]? = some (.cells resCells resT (0, 0)) ∧ RunAt (runW w sb d) (w.heap.size + 1) sb bm ⟨s, bs d, 0, [], []⟩ 0 0 (.pointer none) (.slice none 0 0) := by
  have B1 := (Below.refl w.heap.size w).alloc (Nat.le_refl _) (.cells resCells resT)
  have hn1 : w.heap.size < (w.alloc (.cells resCells resT)).heap.size := by simp
  have B2 : Below w.heap.size w (runW w sb d) := B1.alloc (Nat.le_of_lt hn1) _
  have B3 : Below (w.alloc (.cells resCells resT)).heap.size (w.alloc (.cells resCells resT)) (runW w sb d) := (Below.refl _ _).alloc (Nat.le_refl _) _
  have h1 := heap_new w (.cells resCells resT) rfl
  have h2 := heap_new (w.alloc (.cells resCells resT)) (.cells (runCells sb d) RT) (n := w.heap.size + 1) (by simp)
  have l1 := hS.lt
  have l2 := hS.map.lt
  exact ⟨B2, (B3.block _ hn1).trans h1, ⟨by rw [str_bs']; exact h2, hS.below B2, by omega, by omega⟩⟩
set_option maxHeartbeats 1000000 in
theorem Run_no (w : World) (s : St) (d : ByteArray) (a : Option Addr) (cp : Nat) (X : List Px.CV) (most : Int) (hS : StoreAt w sb bm s.L s.c) (hd : d.size ≤ maxLen) (hX : Px.Cs w (· < w.heap.size) (.slice a X.length cp) X) (hf : Px.Few X)
    (h : ((getR s.L (bs d)).map (·.d)).getD false = false ∨ Pp.rightA (X.map (·.c)) = false) :
    Calls Tryz.prog 9 #[.pointer (some ⟨sb, 0, none⟩), .string d, .slice a X.length cp, .int .i64 most] w fun e w' => e = .returned (.agg #[.int .i64 1, .string ⟨#[]⟩, .int .i64 0, .string ⟨#[]⟩, .int .i64 1]) ∧ Below w.heap.size w w' := by
  obtain ⟨B0, h8, hR⟩ := runW_facts w s d hS
  have hln : w.heap.size < (runW w sb d).heap.size := (Array.getElem?_eq_some_iff.1 h8).1
  obtain ⟨g, hg⟩ : ∃ g, ((getR s.L (bs d)).map (·.d)).getD false = g := ⟨_, rfl⟩
  rw [hg] at h
  have HD := Lib.hid fun (W : World) (hR : RunAt W (w.heap.size + 1) sb bm ⟨s, bs d, 0, [], []⟩ 0 0 (.pointer none) (.slice none 0 0)) => directory_any W d g hR hd (Lib.hid hg)
  have HX := Lib.hid hX
  clear hg hX
  cases g with
  | false =>
    clear h
    go_enter Tryz.func9, Tryz.ntmps9
    go_wp2_with fail
    change Calls _ _ _ (runW w sb d) _
    refine (HD.out _ hR).mono ?_
    rintro e w1 ⟨rfl, B1⟩
    have h81 := (B1.block _ hln).trans h8
    have B := B0.trans (B1.mono (Nat.le_of_lt hln))
    generalize runW w sb d = w0 at *
    have z0 := cell_at h81 (i := 0) rfl
    have z1 := cell_at h81 (i := 1) rfl
    have z2 := cell_at h81 (i := 2) rfl
    have z3 := cell_at h81 (i := 3) rfl
    have z4 := cell_at h81 (i := 4) rfl
    have zf := frozen_at h81
    go_wp2_with fail
    exact bodyPost_ret (v := .agg #[.int .i64 1, .string ⟨#[]⟩, .int .i64 0, .string ⟨#[]⟩, .int .i64 1]) (by simp [results, Tryz.results9, go_sem, z0, z1, z2, z3, z4]) rfl ⟨rfl, ((((B.setCell (Nat.le_refl _) _).setCell (Nat.le_refl _) _).setCell (Nat.le_refl _) _).setCell (Nat.le_refl _) _).setCell (Nat.le_refl _) _⟩
  | true =>
    have hr : Pp.rightA (X.map (·.c)) = false := h.resolve_left (by simp)
    have HR := Lib.hid fun (W : World) (hX : Px.Cs W (· < W.heap.size) (.slice a X.length cp) X) => Px.Right_any W a cp X false (Lib.hid hr) hX hf
    clear h hr
    go_enter Tryz.func9, Tryz.ntmps9
    go_wp2_with fail
    change Calls _ _ _ (runW w sb d) _
    refine (HD.out _ hR).mono ?_
    rintro e w1 ⟨rfl, B1⟩
    have h81 := (B1.block _ hln).trans h8
    have B := B0.trans (B1.mono (Nat.le_of_lt hln))
    have hX1 : Px.Cs w1 (· < w1.heap.size) (.slice a X.length cp) X := (HX.out.keep (fun b hb => B.block b hb)).more (fun b hb => Nat.lt_of_lt_of_le hb B.size)
    have hl1 := (Array.getElem?_eq_some_iff.1 h81).1
    have HX1 := Lib.hid hX1
    clear hX1
    generalize runW w sb d = w0 at *
    go_wp2_with fail
    refine (HR.out _ HX1.out).mono ?_
    rintro e w2 ⟨rfl, B2⟩
    have h82 := (B2.block _ hl1).trans h81
    have BB := B.trans (B2.mono (Nat.le_of_lt hl1))
    have z0 := cell_at h82 (i := 0) rfl
    have z1 := cell_at h82 (i := 1) rfl
    have z2 := cell_at h82 (i := 2) rfl
    have z3 := cell_at h82 (i := 3) rfl
    have z4 := cell_at h82 (i := 4) rfl
    have zf := frozen_at h82
    go_wp2_with fail
    exact bodyPost_ret (v := .agg #[.int .i64 1, .string ⟨#[]⟩, .int .i64 0, .string ⟨#[]⟩, .int .i64 1]) (by simp [results, Tryz.results9, go_sem, z0, z1, z2, z3, z4]) rfl ⟨rfl, ((((BB.setCell (Nat.le_refl _) _).setCell (Nat.le_refl _) _).setCell (Nat.le_refl _) _).setCell (Nat.le_refl _) _).setCell (Nat.le_refl _) _⟩
set_option maxHeartbeats 2000000 in
theorem Run_any (w : World) (s : St) (d : ByteArray) (m : Nat) (a : Option Addr) (cp : Nat) (X : List Px.CV) (most : Int) (hS : StoreAt w sb bm s.L s.c) (hF : Fine s) (hC : Closed s.L) (hdm : (bs d).length ≤ m) (hd : d.size ≤ maxLen)
    (hX : Px.Cs w (fun b => b < w.heap.size ∧ b ≠ sb ∧ b ≠ bm) (.slice a X.length cp) X) (hf : Px.Few X) (hm : 2 * (m + Hp.wL (X.map (·.c))) + 3 ≤ 100000)
    (hg : ((getR s.L (bs d)).map (·.d)).getD false = true) (hr : Pp.rightA (X.map (·.c)) = true) (r : Hp.R) (hres : Hp.lineA s (bs d) (X.map (·.c)) most = r) :
    Calls Tryz.prog 9 #[.pointer (some ⟨sb, 0, none⟩), .string d, .slice a X.length cp, .int .i64 most] w fun e w' => e = .returned (.agg #[.int .i64 r.status, .string (str r.out), .int .i64 r.ran, .string (str r.d), .int .i64 r.code]) ∧
      StoreAt w' sb bm r.s.L r.s.c ∧ Kept [sb, bm] w w' := by
  obtain ⟨B0, h8, hR⟩ := runW_facts w s d hS
  have hln : w.heap.size < (runW w sb d).heap.size := (Array.getElem?_eq_some_iff.1 h8).1
  have hlsb := hS.lt
  have hlbm := hS.map.lt
  have HD := Lib.hid fun (W : World) (hR : RunAt W (w.heap.size + 1) sb bm ⟨s, bs d, 0, [], []⟩ 0 0 (.pointer none) (.slice none 0 0)) => directory_any W d true hR hd (Lib.hid hg)
  have HR := Lib.hid fun (W : World) (hX : Px.Cs W (· < W.heap.size) (.slice a X.length cp) X) => Px.Right_any W a cp X true (Lib.hid hr) hX hf
  have hws : ∀ x ∈ X, x.c.ws ≠ [] := fun x hx => right_ws hr _ (List.mem_map_of_mem hx)
  have HL := Lib.hid fun (W : World) (hR : RunAt W (w.heap.size + 1) sb bm ⟨s, bs d, 0, [], []⟩ 0 0 (.pointer none) (.slice none 0 0)) (hX : Px.Cs W (Old (w.heap.size + 1) sb bm) (.slice a X.length cp) X) =>
    line_any W s (bs d) [] [] m _ X most hR hF hC hdm hX hws hm hf.1
  rw [hres] at HL
  have HX := Lib.hid hX
  clear hg hr hX hws hres
  go_enter Tryz.func9, Tryz.ntmps9
  go_wp2_with fail
  change Calls _ _ _ (runW w sb d) _
  refine (HD.out _ hR).mono ?_
  rintro e w1 ⟨rfl, B1⟩
  have h81 := (B1.block _ hln).trans h8
  have hR1 := hR.below B1
  have B := B0.trans (B1.mono (Nat.le_of_lt hln))
  have hX1 : Px.Cs w1 (fun b => b < w.heap.size ∧ b ≠ sb ∧ b ≠ bm) (.slice a X.length cp) X := HX.out.keep (fun b hb => B.block b hb.1)
  have hl1 := (Array.getElem?_eq_some_iff.1 h81).1
  have HX1 := Lib.hid hX1
  clear hX1
  generalize runW w sb d = w0 at *
  go_wp2_with fail
  refine (HR.out _ (HX1.out.more fun b hb => Nat.lt_of_lt_of_le hb.1 B.size)).mono ?_
  rintro e w2 ⟨rfl, B2⟩
  have h82 := (B2.block _ hl1).trans h81
  have hR2 := hR1.below B2
  have BB := B.trans (B2.mono (Nat.le_of_lt hl1))
  have HX2 := Lib.hid ((HX1.out.keep (fun b hb => B2.block b (Nat.lt_of_lt_of_le hb.1 B.size))).more (Q := Old (w.heap.size + 1) sb bm) fun b hb => ⟨by omega, hb.2.1, hb.2.2⟩)
  go_wp2_with fail
  refine (HL.out _ hR2 HX2.out).mono ?_
  rintro e w3 ⟨rfl, hK3, hS3, i, o, pv, bv, B', lr, ls, lm, hsz, hBw, hbox, hused, hown⟩
  have hBA : BAt w3 RT (w.heap.size + 1) 6 B' r.out pv bv _ := ⟨hbox, rfl, rfl, hused, hown, liesR, by decide⟩
  have hl2 := (Array.getElem?_eq_some_iff.1 h82).1
  have h83 := (hK3.block w.heap.size hl2 (by simp; omega)).trans h82
  have hl3 := (Array.getElem?_eq_some_iff.1 h83).1
  have hnin : ∀ j, j < B' → j ∉ bv.ownBlock.toList := fun j hj h => by
    cases hb : bv.ownBlock with
    | none => rw [hb] at h; simp at h
    | some g =>
      rw [hb] at h
      have e : j = g := by simpa using h
      have := (hown.lt g hb).1
      omega
  have HBA := Lib.hid hBA
  go_wp2_with fail
  refine (String_any w3 HBA.out).mono ?_
  rintro e w4 ⟨rfl, hK4⟩
  have h84 := (hK4.block w.heap.size hl3 (hnin _ (by omega))).trans h83
  have hb4 := (hK4.block (w.heap.size + 1) HBA.out.lt (hnin _ lr)).trans hbox
  have hS4 := hS3.kept hK4 (hnin _ ls) (hnin _ lm)
  have z0 := cell_at h84 (i := 0) rfl
  have z1 := cell_at h84 (i := 1) rfl
  have z2 := cell_at h84 (i := 2) rfl
  have z3 := cell_at h84 (i := 3) rfl
  have z4 := cell_at h84 (i := 4) rfl
  have zf := frozen_at h84
  have c1 := cell_at hb4 (i := 1) rfl
  have c2 := cell_at hb4 (i := 2) rfl
  have c3 := cell_at hb4 (i := 3) rfl
  have c4 := cell_at hb4 (i := 4) rfl
  have c5 := cell_at hb4 (i := 5) rfl
  have cf := frozen_at hb4
  go_wp2_with fail
  have K0 : Kept [sb, bm] w w4 := by
    refine ⟨hK4.os.trans (hK3.os.trans BB.os), hK4.tape.trans (hK3.tape.trans BB.tape), hK4.output.trans (hK3.output.trans BB.output), Nat.le_trans BB.size (Nat.le_trans hK3.size hK4.size), fun j hj hx => ?_⟩
    have n1 : j < w2.heap.size := Nat.lt_of_lt_of_le hj BB.size
    have n2 : j < w3.heap.size := Nat.lt_of_lt_of_le n1 hK3.size
    have hx' : j ∉ [w.heap.size + 1, sb, bm] := by
      simp at hx ⊢
      exact ⟨by omega, hx.1, hx.2⟩
    exact (hK4.block j n2 (hnin j (by omega))).trans ((hK3.block j n1 hx').trans (BB.block j hj))
  have s1 : w.heap.size ≠ sb := by omega
  have s2 : w.heap.size ≠ bm := by omega
  have s3 : w.heap.size + 1 ≠ sb := by omega
  have s4 : w.heap.size + 1 ≠ bm := by omega
  refine bodyPost_ret (v := .agg #[.int .i64 r.status, .string (str r.out), .int .i64 r.ran, .string (str r.d), .int .i64 r.code]) (by simp [results, Tryz.results9, go_sem, z0, z1, z2, z3, z4]) rfl ⟨rfl, ?_, ?_⟩
  · exact store_set (store_set (store_set (store_set (store_set (store_set hS4 s3 s4 _) s1 s2 _) s1 s2 _) s1 s2 _) s1 s2 _) s1 s2 _
  · exact (((((K0.setCell (.inr (Nat.le_succ _)) _).setCell (.inr (Nat.le_refl _)) _).setCell (.inr (Nat.le_refl _)) _).setCell (.inr (Nat.le_refl _)) _).setCell (.inr (Nat.le_refl _)) _).setCell (.inr (Nat.le_refl _)) _
end
end Go.Proofs.YteommneijlelkaaGreatDoor.Hx
namespace Go.Proofs.YteommneijlelkaaGreatDoor.Hx
open Go.RowKit Go.Proofs.YteommneijlelkaaGreatDoor Go.Maps Go.Proofs.YteommneijlelkaaGreatDoor.Sw
set_option maxRecDepth 100000

def liveS : ByteArray := ⟨#[101, 99, 104, 111, 32, 97, 32, 62, 120, 32, 38, 38, 32, 99, 97, 116, 32, 120]⟩
def liveL : List Pp.C := [⟨1, [[101, 99, 104, 111], [97]], [⟨4, [120]⟩]⟩, ⟨2, [[99, 97, 116], [120]], []⟩]
theorem live_line : Pp.lineA (Lx.by8 liveS) = some liveL := by kernel_rfl
theorem live_new : newA [] = (⟨[], 0⟩, 0) := by kernel_rfl
theorem live_run : (Hp.lineA ⟨[], 0⟩ [46] liveL (-1)).status = 0 ∧ (Hp.lineA ⟨[], 0⟩ [46] liveL (-1)).out = [97, 10] ∧ (Hp.lineA ⟨[], 0⟩ [46] liveL (-1)).ran = 2 ∧ (Hp.lineA ⟨[], 0⟩ [46] liveL (-1)).d = [46] ∧ (Hp.lineA ⟨[], 0⟩ [46] liveL (-1)).code = 0 := by
  refine ⟨?_, ?_, ?_, ?_, ?_⟩ <;> kernel_rfl
theorem live_run2 : ∃ r : Hp.R, Hp.lineA ⟨[], 0⟩ [46] liveL (-1) = r ∧ r.status = 0 ∧ r.out = [97, 10] ∧ r.ran = 2 ∧ r.d = [46] ∧ r.code = 0 := ⟨_, rfl, live_run⟩
theorem live_root : ((getR [] [46]).map (·.d)).getD false = true := by kernel_rfl
theorem live_right : Pp.rightA liveL = true := by kernel_rfl

/- Results, compared. -/
abbrev ER : TypeId := 30
theorem fieldsRes : Tryz.prog.underlying resT = some (.struct (Tryz.prog.fieldsOf resT)) := by kernel_rfl
theorem fieldsResL : (Tryz.prog.fieldsOf resT).toList.map (fun f => (f.name, f.type, f.offset)) = [("Status", 3, 0), ("Out", 9, 1), ("Ran", 3, 2), ("Cwd", 9, 3), ("Code", ER, 4)] := by kernel_rfl
theorem guardRes : Tryz.prog.eqGuardType Tryz.prog.depth resT = false := by kernel_rfl
theorem eq_res (w : World) (a a' c c' e e' : Int) (b b' d d' : ByteArray) :
    (Op.equalIn 10000 resT (.agg #[.int .i64 a, .string b, .int .i64 c, .string d, .int .i64 e]) (.agg #[.int .i64 a', .string b', .int .i64 c', .string d', .int .i64 e'])).run Tryz.prog w = .ok (a == a' && (b.toList == b'.toList && (c == c' && (d.toList == d'.toList && e == e')))) w := by
  have hp : Tryz.prog.stoodInHeld resT = false := by kernel_rfl
  rw [run_equalIn_struct _ _ _ _ _ fieldsRes hp]
  have hf := fieldsResL
  generalize (Tryz.prog.fieldsOf resT).toList = fs at hf
  obtain ⟨f1, l1, rfl, h1, hl1⟩ := List.map_eq_cons_iff.1 hf
  obtain ⟨f2, l2, rfl, h2, hl2⟩ := List.map_eq_cons_iff.1 hl1
  obtain ⟨f3, l3, rfl, h3, hl3⟩ := List.map_eq_cons_iff.1 hl2
  obtain ⟨f4, l4, rfl, h4, hl4⟩ := List.map_eq_cons_iff.1 hl3
  obtain ⟨f5, l5, rfl, h5, hl5⟩ := List.map_eq_cons_iff.1 hl4
  obtain rfl := List.map_eq_nil_iff.1 hl5
  simp only [Prod.mk.injEq] at h1 h2 h3 h4 h5
  obtain ⟨n1, t1, o1⟩ := h1
  obtain ⟨n2, t2, o2⟩ := h2
  obtain ⟨n3, t3, o3⟩ := h3
  obtain ⟨n4, t4, o4⟩ := h4
  obtain ⟨n5, t5, o5⟩ := h5
  unfold Op.eqFields Op.eqFields Op.eqFields Op.eqFields Op.eqFields Op.eqFields
  rw [n1, n2, n3, n4, n5, t1, t2, t3, t4, t5, o1, o2, o3, o4, o5]
  simp [go_sem, part]
  by_cases h1 : a = a' <;> by_cases h2 : b.toList = b'.toList <;> by_cases h3 : c = c' <;> by_cases h4 : d.toList = d'.toList <;> by_cases h5 : e = e' <;> simp [h1, h2, h3, h4, h5]
theorem eql_res (w : World) (a c e : Int) (b d : ByteArray) : (binOp .eql resT (.agg #[.int .i64 a, .string b, .int .i64 c, .string d, .int .i64 e]) (.agg #[.int .i64 a, .string b, .int .i64 c, .string d, .int .i64 e])).run Tryz.prog w = .ok (.bool true) w := by
  rw [run_eql_struct, eq_res]; simp [Result.andThen]

/-- What isn't a store's lies beside it. -/
theorem store_cell {w : World} {sb bm : Nat} {L : List F} {c : Int} (hS : StoreAt w sb bm L c) {b o : Nat} {v : Value} (hb : b = sb ∨ b = bm) (h : w.cell? ⟨b, o, none⟩ = some v) : (o = 0 ∧ v = .int .i64 c) ∨ (o = 1 ∧ v = .map (some bm)) := by
  rcases hb with rfl | rfl
  · rw [World.cell?, hS.cells] at h
    match o, h with
    | 0, h => left; exact ⟨rfl, (Option.some.inj h).symm⟩
    | 1, h => right; exact ⟨rfl, (Option.some.inj h).symm⟩
    | n + 2, h => simp at h
  · obtain ⟨es, clock, hh, _⟩ := hS.map.own
    rw [World.cell?, hh] at h
    simp at h
theorem rg_apart {w : World} {sb bm : Nat} {L : List F} {c : Int} (hS : StoreAt w sb bm L c) {P : Nat → Prop} {v : Value} {n : Nat} {xs : List Value} (h : Px.Rg w P v n xs)
    (hx : n ≠ 0 → (∃ s, xs[0]? = some (.string s)) ∨ (∃ k u, xs[0]? = some (.int .i64 k) ∧ xs[1]? = some u ∧ u ≠ .map (some bm))) : Px.Rg w (fun b => P b ∧ b ≠ sb ∧ b ≠ bm) v n xs := by
  obtain ⟨a, cp, hv, hc, h⟩ := h
  refine ⟨a, cp, hv, hc, ?_⟩
  by_cases hn : n = 0
  · exact .inl hn
  · obtain ⟨b, o, ha, hb, hcell⟩ := h.resolve_left hn
    refine .inr ⟨b, o, ha, ⟨hb, ?_⟩, hcell⟩
    have : ¬ (b = sb ∨ b = bm) := fun e => by
      rcases hx hn with ⟨s, h0⟩ | ⟨k, u, h0, h1, hu⟩
      · rcases store_cell hS e (hcell 0 _ h0) with ⟨_, h⟩ | ⟨_, h⟩ <;> cases h
      · rcases store_cell hS e (hcell 0 _ h0) with ⟨ho, h⟩ | ⟨_, h⟩
        · rcases store_cell hS e (hcell 1 _ h1) with ⟨ho', h'⟩ | ⟨_, h'⟩
          · omega
          · exact hu h'
        · cases h
    exact ⟨fun e => this (.inl e), fun e => this (.inr e)⟩
theorem cs_apart {w : World} {sb bm : Nat} {L : List F} {c : Int} (hS : StoreAt w sb bm L c) {P : Nat → Prop} {v : Value} {X : List Px.CV} (h : Px.Cs w P v X) : Px.Cs w (fun b => P b ∧ b ≠ sb ∧ b ≠ bm) v X := by
  refine ⟨rg_apart hS h.1 fun hn => ?_, fun x hx => ⟨rg_apart hS (h.2 x hx).1 fun hn => ?_, rg_apart hS (h.2 x hx).2 fun hn => ?_⟩⟩
  · cases X with
    | nil => exact absurd rfl hn
    | cons x r =>
      obtain ⟨a, cp, hv, _⟩ := (h.2 x (by simp)).1.shape
      exact .inr ⟨x.c.on, x.vw, rfl, rfl, by rw [hv]; exact fun e => by cases e⟩
  · cases hw : x.c.ws with
    | nil => rw [hw] at hn; exact absurd rfl hn
    | cons y r => exact .inl ⟨_, rfl⟩
  · cases ht : x.c.to with
    | nil => rw [ht] at hn; exact absurd rfl hn
    | cons y r => exact .inr ⟨y.k, .string (str y.p), rfl, rfl, fun e => by cases e⟩

theorem live_few : ∀ c ∈ liveL, c.ws.length ≤ 9223372036854775807 ∧ c.to.length ≤ 9223372036854775807 := by
  intro c hc
  unfold liveL at hc
  rcases List.mem_cons.1 hc with rfl | hc
  · exact ⟨Nat.le_trans (show 2 ≤ 1000 by omega) (by omega), Nat.le_trans (show 1 ≤ 1000 by omega) (by omega)⟩
  · obtain rfl := List.mem_singleton.1 hc
    exact ⟨Nat.le_trans (show 2 ≤ 1000 by omega) (by omega), Nat.le_trans (show 0 ≤ 1000 by omega) (by omega)⟩
theorem fine_nil : Fine ⟨[], 0⟩ := ⟨by simp [Sp.Sorted], by decide, by decide, by decide, fun f h => by simp at h, fun f h => by simp at h⟩
theorem few_live : 2 * (1 + Hp.wL liveL) + 3 ≤ 100000 := by decide

set_option maxHeartbeats 2000000 in
theorem lives_any (w : World) (hG : Lx.Glob w) : Calls Tryz.prog 4 #[] w fun e w' => e = .returned (.bool true) ∧ Below w.heap.size w w' := by
  have HN : Hid (∀ W : World, Calls Tryz.prog 6 #[.slice none 0 0] W fun e w' => ∃ sb bm, e = .returned (.tuple #[.pointer (some ⟨sb, 0, none⟩), .int .i64 0]) ∧ W.heap.size ≤ sb ∧ W.heap.size ≤ bm ∧ StoreAt w' sb bm [] 0 ∧ Below W.heap.size W w') := Lib.hid fun W => (New_none W none 0).mono fun e w' h => by
    rw [live_new] at h; exact h
  have HL := Lib.hid fun (W : World) (h : Lx.Glob W) => (Px.Line_any W liveS (by decide) h)
  rw [live_line] at HL
  have HG := Lib.hid hG
  have hq := fun W => eql_res W 0 2 0 ⟨#[97, 10]⟩ ⟨#[46]⟩
  have hgd := guardRes
  clear hG
  go_enter Tryz.func4, Tryz.ntmps4
  go_wp2_with fail
  refine (HN.out _).mono ?_
  rintro e w1 ⟨sb, bm, rfl, hsb, hbm, hS, B1⟩
  have HS := Lib.hid hS
  clear hS
  go_wp2_with fail
  refine (HL.out _ (HG.out.below B1)).mono ?_
  rintro e w2 ⟨⟨v, X, hX, rfl, hC⟩, B2⟩
  obtain ⟨a, cp, rfl, _⟩ := hC.1.shape
  have hS2 := HS.out.below B2
  have HC : Hid (Px.Cs w2 (fun b => b < w2.heap.size ∧ b ≠ sb ∧ b ≠ bm) (.slice a X.length cp) X) := Lib.hid (cs_apart hS2 hC)
  have hl : X.length = 2 := by have := congrArg List.length hX; simpa [liveL] using this
  have hfew : Px.Few X := ⟨by omega, fun x hx => by
    have : x.c ∈ liveL := by rw [← hX]; exact List.mem_map_of_mem hx
    exact live_few _ this⟩
  obtain ⟨r, hr, r1, r2, r3, r4, r5⟩ := live_run2
  have hXc : X.map (·.c) = liveL := hX
  have hb : bs ⟨#[46]⟩ = [46] := rfl
  have hRun := Run_any w2 ⟨[], 0⟩ ⟨#[46]⟩ 1 a cp X (-1) hS2 fine_nil Closed.nil (by decide) (by decide) HC.out hfew (by rw [hXc]; exact few_live) live_root (by rw [hXc]; exact live_right) r (by rw [hXc, hb]; exact hr)
  rw [r1, r2, r3, r4, r5] at hRun
  have HRun := Lib.hid hRun
  have hlt := hS2.lt
  have hltm := hS2.map.lt
  clear hRun hr r1 r2 r3 r4 r5 hb hXc hfew hC hX hS2 hl
  go_wp2_with fail
  refine HRun.out.mono ?_
  rintro e w3 ⟨rfl, _, hK⟩
  have B3 : Below w.heap.size w w3 := (B1.trans (B2.mono B1.size)).trans (hK.to_below (Nat.le_trans B1.size B2.size) (fun i hi => by simp at hi; omega))
  clear hK B1 B2
  have e1 : str [97, 10] = ⟨#[97, 10]⟩ := rfl
  have e2 : str [46] = ⟨#[46]⟩ := rfl
  rw [e1, e2]
  clear e1 e2
  go_wp2_with fail
  go_ret
  exact ⟨rfl, B3.alloc B3.size _⟩
end Go.Proofs.YteommneijlelkaaGreatDoor.Hx
namespace Go.Proofs.YteommneijlelkaaGreatDoor.Hx
open Go.RowKit Go.Proofs.YteommneijlelkaaGreatDoor Go.Maps Go.Proofs.YteommneijlelkaaGreatDoor.Sw
set_option maxRecDepth 100000

/-- Files that are handed over. -/
def FAt (w : World) (a : Option Addr) (l : List F) : Prop :=
  l = [] ∨ ∃ b o, a = some ⟨b, o, none⟩ ∧ b < w.heap.size ∧ ∀ j f, l[j]? = some f → w.cell? ⟨b, o + j * 4, none⟩ = some (.string (str f.p)) ∧ w.cell? ⟨b, o + j * 4 + 1, none⟩ = some (.string (str f.t)) ∧ w.cell? ⟨b, o + j * 4 + 2, none⟩ = some (.int .i64 f.c) ∧ w.cell? ⟨b, o + j * 4 + 3, none⟩ = some (.bool f.d)
theorem FAt.below {w w' : World} {a : Option Addr} {l : List F} (h : FAt w a l) (hB : Below w.heap.size w w') : FAt w' a l := by
  rcases h with h | ⟨b, o, ha, hb, hc⟩
  · exact .inl h
  · refine .inr ⟨b, o, ha, Nat.lt_of_lt_of_le hb hB.size, fun j f hf => ?_⟩
    have e := fun i => hB.cell (p := ⟨b, i, none⟩) hb
    obtain ⟨a0, a1, a2, a3⟩ := hc j f hf
    exact ⟨(e _).trans a0, (e _).trans a1, (e _).trans a2, (e _).trans a3⟩
def sumS (l : List F) : Nat := (l.map fun f => 10 + f.p.length + f.t.length).sum
theorem sumS_take {l : List F} {k : Nat} (h : k < l.length) : sumS (l.take (k + 1)) = sumS (l.take k) + (10 + l[k].p.length + l[k].t.length) := by
  unfold sumS
  rw [List.take_succ_eq_append_getElem h, List.map_append, List.sum_append]; rfl
theorem sumS_mem {l : List F} : ∀ {f : F}, f ∈ l → 10 + f.p.length + f.t.length ≤ sumS l := by
  induction l with
  | nil => intro f h; cases h
  | cons g r ih =>
    intro f h
    show _ ≤ (10 + g.p.length + g.t.length) + sumS r
    rcases List.mem_cons.1 h with rfl | h
    · omega
    · have := ih h; omega
theorem sumS_len (l : List F) : 10 * l.length ≤ sumS l := by
  induction l with
  | nil => exact Nat.zero_le _
  | cons g r ih => show 10 * (r.length + 1) ≤ (10 + g.p.length + g.t.length) + sumS r; omega
theorem sumS_bound (l : List F) (hl : ∀ f ∈ l, f.p.length ≤ 1048576 ∧ f.t.length ≤ 1048576) : sumS l ≤ l.length * 2097162 := by
  induction l with
  | nil => exact Nat.zero_le _
  | cons g r ih =>
    have h1 := ih fun f hf => hl f (List.mem_cons_of_mem _ hf)
    have h2 := hl g (by simp)
    show (10 + g.p.length + g.t.length) + sumS r ≤ (r.length + 1) * 2097162
    omega

set_option maxHeartbeats 2000000 in
theorem Small_any (w : World) (a : Option Addr) (cp : Nat) (l : List F) (hF : FAt w a l) (hl : ∀ f ∈ l, f.p.length ≤ 1048576 ∧ f.t.length ≤ 1048576) (hn : l.length ≤ 1048576) :
    Calls Tryz.prog 5 #[.slice a l.length cp] w fun e w' => e = .returned (.bool (decide (sumS l ≤ 20000))) ∧ Below w.heap.size w w' := by
  go_enter Tryz.func5, Tryz.ntmps5
  go_wp2_with fail
  go_loopw [3, 8] (fun v3 v8 wr => ∃ i : Nat, v8 = .int .i64 i ∧ v3 = .int .i64 (sumS (l.take i) : Nat) ∧ i ≤ l.length ∧ Below w.heap.size w wr) (fun _ v8 _ => l.length - (intOf v8).toNat)
  case atStart => exact ⟨0, rfl, rfl, Nat.zero_le _, Below.refl _ _⟩
  case round =>
    obtain ⟨i, rfl, rfl, hi, hB⟩ := hrel
    by_cases hlt : i < l.length
    · obtain ⟨b, o, rfl, hb, hc⟩ := hF.resolve_left (fun e => by rw [e] at hlt; simp at hlt)
      obtain ⟨c0, c1, c2, c3⟩ := hc i l[i] (List.getElem?_eq_getElem hlt)
      have e := fun i => hB.cell (p := ⟨b, i, none⟩) hb
      have p0 := (e _).trans c0
      have p1 := (e _).trans c1
      have p2 := (e _).trans c2
      have p3 := (e _).trans c3
      have hfl := hl _ (List.getElem_mem hlt)
      have hS := sumS_take hlt
      have hbd := sumS_bound (l.take i) fun f hf => hl f (List.mem_of_mem_take hf)
      rw [List.length_take] at hbd
      generalize hx : l[i] = f at *
      obtain ⟨fp, ft, fc, fd⟩ := f
      have s1 : (str fp).size = fp.length := by rw [← bs_len, bs_str]
      have s2 : (str ft).size = ft.length := by rw [← bs_len, bs_str]
      have HS : Hid ((sumS (l.take (i + 1)) : Int) = (sumS (l.take i) : Int) + (10 + ((str fp).size : Int) + ((str ft).size : Int))) := Lib.hid (by rw [hS, s1, s2]; simp)
      have hsum : sumS (l.take i) ≤ 2199033741312 := by have : min i l.length * 2097162 ≤ 1048576 * 2097162 := Nat.mul_le_mul_right _ (by omega); omega
      have b1 : (str fp).size ≤ 1048576 := by rw [s1]; exact hfl.1
      have b2 : (str ft).size ≤ 1048576 := by rw [s2]; exact hfl.2
      have hki : (i : Int) < l.length := by omega
      have hk0 : (0 : Int) ≤ (i : Int) := Int.natCast_nonneg _
      have hws := hB.size
      clear hc c0 c1 c2 c3 e hfl hS hbd s1 s2 hx hF hl
      generalize sumS (l.take i) = q at *
      go_wp2_with fail
      go_roundw
      case rel => exact ⟨i + 1, by go_num, by rw [HS.out], hlt, hB.alloc hws _⟩
      case measure => simp [intOf]; omega
    · obtain rfl : i = l.length := by omega
      rw [List.take_length]
      have hq : (sumS l : Int) ≤ 20000 ↔ sumS l ≤ 20000 := by omega
      go_wp2_with fail
      go_ret
      exact ⟨congrArg (fun b => Ending.returned (.bool b)) (by rw [decide_eq_decide]), hB⟩

theorem wtL_is (l : List Bs) : Hp.wtL l = (l.map List.length).sum + 2 * l.length := by
  induction l with
  | nil => rfl
  | cons x r ih => show (x.length + 2) + Hp.wtL r = (x.length + (r.map List.length).sum) + 2 * (r.length + 1); omega
theorem gtL_is (l : List Pp.G) : Hp.gtL l = (l.map (·.p.length)).sum + 2 * l.length := by
  induction l with
  | nil => rfl
  | cons x r ih => show (x.p.length + 2) + Hp.gtL r = (x.p.length + (r.map (·.p.length)).sum) + 2 * (r.length + 1); omega
theorem wL_is (L : List Pp.C) : Hp.wL L = Pp.sumA L + 2 * Pp.numA L := by
  induction L with
  | nil => rfl
  | cons c r ih =>
    have h1 := wtL_is c.ws
    have h2 := gtL_is c.to
    show (Hp.wtL c.ws + Hp.gtL c.to) + Hp.wL r = (c.sumW + Pp.sumA r) + 2 * (c.num + Pp.numA r)
    unfold Pp.C.sumW Pp.C.num
    omega
theorem NewF_any (w : World) (a : Option Addr) (cp : Nat) (l : List F) (hF : FAt w a l) (hl : ∀ f ∈ l, f.p.length ≤ 20000 ∧ f.t.length ≤ 20000) (hn : l.length ≤ 2000) :
    Calls Tryz.prog 6 #[.slice a l.length cp] w (NewPost w (newA l)) := by
  rcases hF with rfl | ⟨b, o, rfl, hb, hc⟩
  · exact New_none w a cp
  · exact New_some w b o cp l ⟨hb, hc, fun f hf => by have := hl f hf; omega, by omega⟩

end Go.Proofs.YteommneijlelkaaGreatDoor.Hx
