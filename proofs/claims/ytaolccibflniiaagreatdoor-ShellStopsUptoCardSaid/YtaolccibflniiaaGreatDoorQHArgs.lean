/-
  The law ShellArgs, walked.
-/
import Derived.Deep.RegionHeld3
import Derived.Deep.DeepCutAuto
import Derived.Test.YtaolccibflniiaaGreatDoorQHLive
namespace Go.Proofs.YtaolccibflniiaaGreatDoor.Hx
open Go.RowKit Go.Proofs.YtaolccibflniiaaGreatDoor Go.Maps Go.Proofs.YtaolccibflniiaaGreatDoor.Sw
set_option maxRecDepth 100000

set_option maxHeartbeats 2000000 in
theorem RKnown_any (w : World) (p : ByteArray) : Calls Tryz.prog 20 #[.string p] w fun e w' => e = .returned (.bool (Hp.nameA (bs p)).isSome) ∧ w = w' := by
  obtain ⟨g, hg⟩ : ∃ g, (Hp.nameA p.toList).isSome = g := ⟨_, rfl⟩
  have e0 : bs p = p.toList := by rw [Lib.toList_data]; rfl
  rw [e0, hg]
  clear e0
  by_cases h0 : p.toList = [116, 114, 117, 101]
  · have HG : Hid (g = true) := Lib.hid (by rw [← hg, h0]; rfl)
    have q0 : (p.toList == [116, 114, 117, 101]) = true := by rw [h0]; rfl
    clear hg h0
    go_enter Tryz.func20, Tryz.ntmps20
    go_wp2_with fail
    go_ret
    exact ⟨by rw [HG.out]; rfl, rfl⟩
  have q0 : (p.toList == [116, 114, 117, 101]) = false := beq_eq_false_iff_ne.2 h0
  by_cases h1 : p.toList = [102, 97, 108, 115, 101]
  · have HG : Hid (g = true) := Lib.hid (by rw [← hg, h1]; rfl)
    have q1 : (p.toList == [102, 97, 108, 115, 101]) = true := by rw [h1]; rfl
    clear hg h0 h1
    go_enter Tryz.func20, Tryz.ntmps20
    go_wp2_with fail
    go_ret
    exact ⟨by rw [HG.out]; rfl, rfl⟩
  have q1 : (p.toList == [102, 97, 108, 115, 101]) = false := beq_eq_false_iff_ne.2 h1
  by_cases h2 : p.toList = [101, 99, 104, 111]
  · have HG : Hid (g = true) := Lib.hid (by rw [← hg, h2]; rfl)
    have q2 : (p.toList == [101, 99, 104, 111]) = true := by rw [h2]; rfl
    clear hg h0 h1 h2
    go_enter Tryz.func20, Tryz.ntmps20
    go_wp2_with fail
    go_ret
    exact ⟨by rw [HG.out]; rfl, rfl⟩
  have q2 : (p.toList == [101, 99, 104, 111]) = false := beq_eq_false_iff_ne.2 h2
  by_cases h3 : p.toList = [99, 97, 116]
  · have HG : Hid (g = true) := Lib.hid (by rw [← hg, h3]; rfl)
    have q3 : (p.toList == [99, 97, 116]) = true := by rw [h3]; rfl
    clear hg h0 h1 h2 h3
    go_enter Tryz.func20, Tryz.ntmps20
    go_wp2_with fail
    go_ret
    exact ⟨by rw [HG.out]; rfl, rfl⟩
  have q3 : (p.toList == [99, 97, 116]) = false := beq_eq_false_iff_ne.2 h3
  by_cases h4 : p.toList = [99, 112]
  · have HG : Hid (g = true) := Lib.hid (by rw [← hg, h4]; rfl)
    have q4 : (p.toList == [99, 112]) = true := by rw [h4]; rfl
    clear hg h0 h1 h2 h3 h4
    go_enter Tryz.func20, Tryz.ntmps20
    go_wp2_with fail
    go_ret
    exact ⟨by rw [HG.out]; rfl, rfl⟩
  have q4 : (p.toList == [99, 112]) = false := beq_eq_false_iff_ne.2 h4
  by_cases h5 : p.toList = [109, 118]
  · have HG : Hid (g = true) := Lib.hid (by rw [← hg, h5]; rfl)
    have q5 : (p.toList == [109, 118]) = true := by rw [h5]; rfl
    clear hg h0 h1 h2 h3 h4 h5
    go_enter Tryz.func20, Tryz.ntmps20
    go_wp2_with fail
    go_ret
    exact ⟨by rw [HG.out]; rfl, rfl⟩
  have q5 : (p.toList == [109, 118]) = false := beq_eq_false_iff_ne.2 h5
  by_cases h6 : p.toList = [114, 109]
  · have HG : Hid (g = true) := Lib.hid (by rw [← hg, h6]; rfl)
    have q6 : (p.toList == [114, 109]) = true := by rw [h6]; rfl
    clear hg h0 h1 h2 h3 h4 h5 h6
    go_enter Tryz.func20, Tryz.ntmps20
    go_wp2_with fail
    go_ret
    exact ⟨by rw [HG.out]; rfl, rfl⟩
  have q6 : (p.toList == [114, 109]) = false := beq_eq_false_iff_ne.2 h6
  by_cases h7 : p.toList = [116, 111, 117, 99, 104]
  · have HG : Hid (g = true) := Lib.hid (by rw [← hg, h7]; rfl)
    have q7 : (p.toList == [116, 111, 117, 99, 104]) = true := by rw [h7]; rfl
    clear hg h0 h1 h2 h3 h4 h5 h6 h7
    go_enter Tryz.func20, Tryz.ntmps20
    go_wp2_with fail
    go_ret
    exact ⟨by rw [HG.out]; rfl, rfl⟩
  have q7 : (p.toList == [116, 111, 117, 99, 104]) = false := beq_eq_false_iff_ne.2 h7
  by_cases h8 : p.toList = [109, 107, 100, 105, 114]
  · have HG : Hid (g = true) := Lib.hid (by rw [← hg, h8]; rfl)
    have q8 : (p.toList == [109, 107, 100, 105, 114]) = true := by rw [h8]; rfl
    clear hg h0 h1 h2 h3 h4 h5 h6 h7 h8
    go_enter Tryz.func20, Tryz.ntmps20
    go_wp2_with fail
    go_ret
    exact ⟨by rw [HG.out]; rfl, rfl⟩
  have q8 : (p.toList == [109, 107, 100, 105, 114]) = false := beq_eq_false_iff_ne.2 h8
  by_cases h9 : p.toList = [116, 101, 115, 116]
  · have HG : Hid (g = true) := Lib.hid (by rw [← hg, h9]; rfl)
    have q9 : (p.toList == [116, 101, 115, 116]) = true := by rw [h9]; rfl
    clear hg h0 h1 h2 h3 h4 h5 h6 h7 h8 h9
    go_enter Tryz.func20, Tryz.ntmps20
    go_wp2_with fail
    go_ret
    exact ⟨by rw [HG.out]; rfl, rfl⟩
  have q9 : (p.toList == [116, 101, 115, 116]) = false := beq_eq_false_iff_ne.2 h9
  by_cases h10 : p.toList = [99, 100]
  · have HG : Hid (g = true) := Lib.hid (by rw [← hg, h10]; rfl)
    have q10 : (p.toList == [99, 100]) = true := by rw [h10]; rfl
    clear hg h0 h1 h2 h3 h4 h5 h6 h7 h8 h9 h10
    go_enter Tryz.func20, Tryz.ntmps20
    go_wp2_with fail
    go_ret
    exact ⟨by rw [HG.out]; rfl, rfl⟩
  have q10 : (p.toList == [99, 100]) = false := beq_eq_false_iff_ne.2 h10
  have HG : Hid (g = false) := Lib.hid (by rw [← hg]; unfold Hp.nameA; rw [if_neg h0, if_neg h1, if_neg h2, if_neg h3, if_neg h4, if_neg h5, if_neg h6, if_neg h7, if_neg h8, if_neg h9, if_neg h10]; rfl)
  clear hg h0 h1 h2 h3 h4 h5 h6 h7 h8 h9 h10
  go_enter Tryz.func20, Tryz.ntmps20
  go_wp2_with fail
  go_ret
  exact ⟨by rw [HG.out]; rfl, rfl⟩

abbrev nilCells (d : ByteArray) : Array Value := #[.pointer none, .int .i64 0, .string ⟨#[]⟩, .int .i64 0, .string d, .int .i64 0, .pointer none, .slice none 0 0, .string ⟨#[]⟩, .string ⟨#[]⟩]
def runWn (w : World) (d : ByteArray) : World := (w.alloc (.cells resCells resT)).alloc (.cells (nilCells d) RT)
theorem directory_nil (w : World) (rb : Nat) (p : ByteArray) (c0 : w.cell? ⟨rb, 0, none⟩ = some (.pointer none)) :
    Calls Tryz.prog 31 #[.pointer (some ⟨rb, 0, none⟩), .string p] w fun e w' => e = .returned (.bool false) ∧ Below w.heap.size w w' := by
  go_enter Tryz.func31, Tryz.ntmps31
  go_wp2_with (go_at_call 52; refine (Get_nil _ p).mono ?_; rintro e w1 ⟨rfl, B1⟩; unfold fV noF)
  go_ret
  exact ⟨rfl, B1.alloc B1.size _⟩
set_option maxHeartbeats 1000000 in
theorem Run_nil (w : World) (d : ByteArray) (v : Value) (most : Int) :
    Calls Tryz.prog 11 #[.pointer none, .string d, v, .int .i64 most] w fun e w' => e = .returned (.agg #[.int .i64 1, .string ⟨#[]⟩, .int .i64 0, .string ⟨#[]⟩, .int .i64 1]) ∧ Below w.heap.size w w' := by
  have B1 := (Below.refl w.heap.size w).alloc (Nat.le_refl _) (.cells resCells resT)
  have hn1 : w.heap.size < (w.alloc (.cells resCells resT)).heap.size := by simp
  have B0 : Below w.heap.size w (runWn w d) := B1.alloc (Nat.le_of_lt hn1) _
  have B3 : Below (w.alloc (.cells resCells resT)).heap.size (w.alloc (.cells resCells resT)) (runWn w d) := (Below.refl _ _).alloc (Nat.le_refl _) _
  have h8 : (runWn w d).heap[w.heap.size]? = some (.cells resCells resT (0, 0)) := (B3.block _ hn1).trans (heap_new w (.cells resCells resT) rfl)
  have h2 := heap_new (w.alloc (.cells resCells resT)) (.cells (nilCells d) RT) (n := w.heap.size + 1) (by simp)
  have hln : w.heap.size < (runWn w d).heap.size := (Array.getElem?_eq_some_iff.1 h8).1
  have HD := Lib.hid (directory_nil (runWn w d) (w.heap.size + 1) d (cell_at h2 rfl))
  clear h2 B1 B3
  go_enter Tryz.func11, Tryz.ntmps11
  go_wp2_with fail
  change Calls _ _ _ (runWn w d) _
  refine HD.out.mono ?_
  rintro e w1 ⟨rfl, B1⟩
  have h81 := (B1.block _ hln).trans h8
  have B := B0.trans (B1.mono (Nat.le_of_lt hln))
  clear HD
  generalize runWn w d = w0 at *
  have z0 := cell_at h81 (i := 0) rfl
  have z1 := cell_at h81 (i := 1) rfl
  have z2 := cell_at h81 (i := 2) rfl
  have z3 := cell_at h81 (i := 3) rfl
  have z4 := cell_at h81 (i := 4) rfl
  have zf := frozen_at h81
  go_wp2_with fail
  exact bodyPost_ret (v := .agg #[.int .i64 1, .string ⟨#[]⟩, .int .i64 0, .string ⟨#[]⟩, .int .i64 1]) (by simp [results, Tryz.results11, go_sem, z0, z1, z2, z3, z4]) rfl ⟨rfl, ((((B.setCell (Nat.le_refl _) _).setCell (Nat.le_refl _) _).setCell (Nat.le_refl _) _).setCell (Nat.le_refl _) _).setCell (Nat.le_refl _) _⟩

def oneF : F := ⟨[97], [120], 0, false⟩
theorem one_new2 : ∃ (s : St), newA [oneF] = (s, 0) ∧ ((getR s.L [97]).map (·.d)).getD false = false ∧ ((getR s.L [110, 111, 110, 101]).map (·.d)).getD false = false := ⟨(newA [oneF]).1, by kernel_rfl, by kernel_rfl, by kernel_rfl⟩
theorem given_a (w : World) : Given (w.alloc (.cells #[.string ⟨#[97]⟩, .string ⟨#[120]⟩, .int .i64 0, .bool false] 44)) w.heap.size 0 1 [oneF] := by
  refine ⟨by simp, fun j f hf => ?_, fun f h => by simp at h; subst h; decide, by decide⟩
  cases j with
  | zero =>
    cases hf
    exact file_new w [97] [120] 0 false
  | succ j => simp at hf

/-- The box of the answer that is awaited, and what else stays. -/
def BadAt (n : Nat) (w0 : World) (P : World → Prop) (W : World) : Prop :=
  W.cell? ⟨n, 0, none⟩ = some (.int .i64 1) ∧ W.cell? ⟨n, 1, none⟩ = some (.string ⟨#[]⟩) ∧ W.cell? ⟨n, 2, none⟩ = some (.int .i64 0) ∧ W.cell? ⟨n, 3, none⟩ = some (.string ⟨#[]⟩) ∧ W.cell? ⟨n, 4, none⟩ = some (.int .i64 1) ∧ Below w0.heap.size w0 W ∧ n < W.heap.size ∧ P W
theorem BadAt.six {n : Nat} {w0 W : World} {P : World → Prop} (h : BadAt n w0 P W) : W.cell? ⟨n, 0, none⟩ = some (.int .i64 1) ∧ W.cell? ⟨n, 1, none⟩ = some (.string ⟨#[]⟩) ∧ W.cell? ⟨n, 2, none⟩ = some (.int .i64 0) ∧ W.cell? ⟨n, 3, none⟩ = some (.string ⟨#[]⟩) ∧ W.cell? ⟨n, 4, none⟩ = some (.int .i64 1) ∧ BadAt n w0 P W :=
  ⟨h.1, h.2.1, h.2.2.1, h.2.2.2.1, h.2.2.2.2.1, h⟩
theorem BadAt.below {n : Nat} {w0 W W' : World} {P : World → Prop} (hP : ∀ W W', P W → Below W.heap.size W W' → P W') (h : BadAt n w0 P W) (B : Below W.heap.size W W') : BadAt n w0 P W' := by
  obtain ⟨h0, h1, h2, h3, h4, hB, hn, hp⟩ := h
  exact ⟨(B.cell (p := ⟨n, 0, none⟩) hn).trans h0, (B.cell (p := ⟨n, 1, none⟩) hn).trans h1, (B.cell (p := ⟨n, 2, none⟩) hn).trans h2, (B.cell (p := ⟨n, 3, none⟩) hn).trans h3, (B.cell (p := ⟨n, 4, none⟩) hn).trans h4, hB.trans (B.mono hB.size), Nat.lt_of_lt_of_le hn B.size, hP _ _ hp B⟩

set_option maxHeartbeats 2000000 in
theorem ShellArgsL_any (w : World) (name cwd : ByteArray) (a : Option Addr) (n cp : Nat) (hG : Lx.Glob w) (h1 : name.size ≤ 140737488355328) (h2 : cwd.size ≤ 140737488355328) (h3 : n ≤ maxLen) (h : 100 < name.size ∨ 100 < cwd.size ∨ 20 < n) :
    Calls Tryz.prog 5 #[.string name, .string cwd, .slice a n cp] w fun e w' => e = .returned (.bool true) ∧ Below w.heap.size w w' := by
  have HL : Hid (∀ W, Lx.Glob W → Calls Tryz.prog 6 #[] W fun e w' => e = .returned (.bool true) ∧ Below W.heap.size W w') := Lib.hid lives_any
  have HG := Lib.hid hG
  unfold maxLen at h3
  clear hG
  by_cases k1 : 100 < name.size
  · have q1 : (100 : Int) < (name.size : Int) := by omega
    clear h
    go_enter Tryz.func5, Tryz.ntmps5
    go_wp2_with fail
    refine (HL.out _ HG.out).mono ?_
    rintro e w1 ⟨rfl, B1⟩
    go_wp2_with fail
    refine (HL.out _ (HG.out.below B1)).mono ?_
    rintro e w2 ⟨rfl, B2⟩
    go_wp2_with fail
    go_ret
    exact ⟨rfl, B1.trans (B2.mono B1.size)⟩
  · have q1 : ¬ (100 : Int) < (name.size : Int) := by omega
    by_cases k2 : 100 < cwd.size
    · have q2 : (100 : Int) < (cwd.size : Int) := by omega
      clear h
      go_enter Tryz.func5, Tryz.ntmps5
      go_wp2_with fail
      refine (HL.out _ HG.out).mono ?_
      rintro e w1 ⟨rfl, B1⟩
      go_wp2_with fail
      refine (HL.out _ (HG.out.below B1)).mono ?_
      rintro e w2 ⟨rfl, B2⟩
      go_wp2_with fail
      go_ret
      exact ⟨rfl, B1.trans (B2.mono B1.size)⟩
    · have q2 : ¬ (100 : Int) < (cwd.size : Int) := by omega
      have q3 : (20 : Int) < (n : Int) := by omega
      clear h
      go_enter Tryz.func5, Tryz.ntmps5
      go_wp2_with fail
      refine (HL.out _ HG.out).mono ?_
      rintro e w1 ⟨rfl, B1⟩
      go_wp2_with fail
      refine (HL.out _ (HG.out.below B1)).mono ?_
      rintro e w2 ⟨rfl, B2⟩
      go_wp2_with fail
      go_ret
      exact ⟨rfl, B1.trans (B2.mono B1.size)⟩

/-- Which runs the law asks for first. -/
def Asks (sb : Nat) (v0 : Value) (d : ByteArray) : Prop := v0 = .pointer none ∨ (v0 = .pointer (some ⟨sb, 0, none⟩) ∧ (d = ⟨#[97]⟩ ∨ d = ⟨#[110, 111, 110, 101]⟩))
set_option maxHeartbeats 8000000 in
theorem ShellArgs_any (w : World) (name cwd : ByteArray) (a : Option Addr) (cp : Nat) (X : List Px.CV) (hG : Lx.Glob w) (h1 : name.size ≤ 100) (h2 : cwd.size ≤ 100) (h3 : X.length ≤ 20) (hX : Px.Cs w (· < w.heap.size) (.slice a X.length cp) X) (hf : Px.Few X) :
    Calls Tryz.prog 5 #[.string name, .string cwd, .slice a X.length cp] w fun e w' => e = .returned (.bool true) ∧ Below w.heap.size w w' := by
  have HL : Hid (∀ W, Lx.Glob W → Calls Tryz.prog 6 #[] W fun e w' => e = .returned (.bool true) ∧ Below W.heap.size W w') := Lib.hid lives_any
  obtain ⟨s, hnew, hn1, hn2⟩ := one_new2
  have HN : Hid (∀ W : World, Calls Tryz.prog 8 #[.slice (some ⟨W.heap.size, 0, none⟩) 1 1] (W.alloc (.cells #[.string ⟨#[97]⟩, .string ⟨#[120]⟩, .int .i64 0, .bool false] 44)) fun e w' => ∃ sb bm, e = .returned (.tuple #[.pointer (some ⟨sb, 0, none⟩), .int .i64 0]) ∧ StoreAt w' sb bm s.L s.c ∧ Below W.heap.size W w') := Lib.hid fun W => (New_some _ W.heap.size 0 1 [oneF] (given_a W)).mono fun e w' h => by
    rw [hnew] at h
    obtain ⟨sb, bm, he, _, _, hS, hB⟩ := h
    exact ⟨sb, bm, he, hS, Below.trans ((Below.refl _ _).alloc (Nat.le_refl _) _) (hB.mono (by simp))⟩
  have q1 : ¬ (100 : Int) < (name.size : Int) := by omega
  have q2 : ¬ (100 : Int) < (cwd.size : Int) := by omega
  have q3 : ¬ (20 : Int) < (X.length : Int) := by omega
  have HG := Lib.hid hG
  have HX := Lib.hid hX
  have HF := Lib.hid hf
  have hq := fun W => eql_res W 1 0 1 ⟨#[]⟩ ⟨#[]⟩
  have hgd := guardRes
  obtain ⟨g, hr⟩ : ∃ g, Pp.rightA (X.map (·.c)) = g := ⟨_, rfl⟩
  obtain ⟨kn, hk⟩ : ∃ kn, (Hp.nameA (bs name)).isSome = kn := ⟨_, rfl⟩
  have HK := Lib.hid fun W => Known_any W name (by unfold maxLen; omega)
  have HRK := Lib.hid fun W => RKnown_any W name
  rw [hk] at HK HRK
  have HN1 := Lib.hid hn1
  have HN2 := Lib.hid hn2
  have HR := Lib.hid hr
  clear hG hX hf hnew hn1 hn2 hr hk
  go_enter Tryz.func5, Tryz.ntmps5
  go_wp2_with fail
  refine (HL.out _ HG.out).mono ?_
  rintro e w1 ⟨rfl, B1⟩
  go_wp2_with fail
  refine (HN.out _).mono ?_
  rintro e w2 ⟨sb, bm, rfl, hS, B2⟩
  have HB := Lib.hid (B1.trans (B2.mono B1.size))
  have HS := Lib.hid hS
  have HC : Hid (Px.Cs w2 (· < w2.heap.size) (.slice a X.length cp) X) := Lib.hid (HX.out.grow HB.out)
  clear hS B1 B2
  have HPb : ∀ W W', (StoreAt W sb bm s.L s.c ∧ Px.Cs W (· < W.heap.size) (.slice a X.length cp) X) → Below W.heap.size W W' → (StoreAt W' sb bm s.L s.c ∧ Px.Cs W' (· < W'.heap.size) (.slice a X.length cp) X) := fun W W' h B => ⟨h.1.below B, h.2.grow B⟩
  obtain ⟨P, HP⟩ : ∃ P : World → Prop, Hid (P = fun W => StoreAt W sb bm s.L s.c ∧ Px.Cs W (· < W.heap.size) (.slice a X.length cp) X) := ⟨_, Lib.hid rfl⟩
  have HPB : Hid (∀ W W', P W → Below W.heap.size W W' → P W') := Lib.hid (by rw [HP.out]; exact HPb)
  have RA : Hid (∀ W (v0 : Value) (d : ByteArray), P W → Asks sb v0 d → Calls Tryz.prog 11 #[v0, .string d, .slice a X.length cp, .int .i64 1] W fun e w' => e = .returned (.agg #[.int .i64 1, .string ⟨#[]⟩, .int .i64 0, .string ⟨#[]⟩, .int .i64 1]) ∧ Below W.heap.size W w') := Lib.hid fun W v0 d h hq => by
    rw [HP.out] at h
    rcases hq with rfl | ⟨rfl, rfl | rfl⟩
    · exact Run_nil W d _ 1
    · exact Run_no W s ⟨#[97]⟩ a cp X 1 h.1 (by decide) h.2 HF.out (.inl HN1.out)
    · exact Run_no W s ⟨#[110, 111, 110, 101]⟩ a cp X 1 h.1 (by decide) h.2 HF.out (.inl HN2.out)
  have R5 : Hid (∀ W, P W → Calls Tryz.prog 18 #[.slice a X.length cp] W fun e w' => e = .returned (.bool g) ∧ Below W.heap.size W w') := Lib.hid fun W h => by
    rw [HP.out] at h
    exact Px.Right_any W a cp X g HR h.2 HF.out
  have HP0 : Hid (P w2) := Lib.hid (by rw [HP.out]; exact ⟨HS.out, HC.out⟩)
  clear HPb
  go_upto_region 7 with (fail)
  have K5 : BadAt w2.heap.size w2 P (w2.alloc (.cells #[.int .i64 1, .string ⟨#[]⟩, .int .i64 0, .string ⟨#[]⟩, .int .i64 1] resT)) := by
    have h := heap_new w2 (.cells #[.int .i64 1, .string ⟨#[]⟩, .int .i64 0, .string ⟨#[]⟩, .int .i64 1] resT) rfl
    exact ⟨cell_at h rfl, cell_at h rfl, cell_at h rfl, cell_at h rfl, cell_at h rfl, (Below.refl _ _).alloc (Nat.le_refl _) _, by simp, HPB.out _ _ HP0.out ((Below.refl _ _).alloc (Nat.le_refl _) _)⟩
  have HK5 := Lib.hid K5
  clear K5
  generalize w2.alloc (.cells #[.int .i64 1, .string ⟨#[]⟩, .int .i64 0, .string ⟨#[]⟩, .int .i64 1] resT) = W5 at *
  go_cut [10] (fun v wx => v = .bool true ∧ BadAt w2.heap.size w2 P wx)
  case first =>
    have K5 : BadAt w2.heap.size w2 P W5.drew := HK5.out.below HPB.out (Below.refl _ _).drew
    have S5 := K5.six
    go_region_held3 (fun W => W.cell? ⟨w2.heap.size, 0, none⟩ = some (.int .i64 1) ∧ W.cell? ⟨w2.heap.size, 1, none⟩ = some (.string ⟨#[]⟩) ∧ W.cell? ⟨w2.heap.size, 2, none⟩ = some (.int .i64 0) ∧ W.cell? ⟨w2.heap.size, 3, none⟩ = some (.string ⟨#[]⟩) ∧ W.cell? ⟨w2.heap.size, 4, none⟩ = some (.int .i64 1) ∧ BadAt w2.heap.size w2 P W)
      (first | exact S6 | exact S5)
      (first
        | (go_at_call 11; refine (RA.out _ _ _ (by first | exact K6.2.2.2.2.2.2.2 | exact K5.2.2.2.2.2.2.2) (by first | exact .inl rfl | exact .inr ⟨rfl, .inl rfl⟩ | exact .inr ⟨rfl, .inr rfl⟩)).mono ?_; rintro e w6 ⟨rfl, B6⟩; have K6 : BadAt w2.heap.size w2 P w6 := (by first | exact K6.below HPB.out B6 | exact K5.below HPB.out B6); have S6 := K6.six))
    all_goals go_wp2_with fail
    all_goals go_meet
    all_goals exact ⟨rfl, K6⟩
  case rest =>
    obtain ⟨rfl, K9⟩ := hcut
    have hB9 := K9.2.2.2.2.2.1
    have KB := Lib.hid K9
    have hsz9 : w.heap.size ≤ w2.heap.size := HB.out.size
    have RR := Lib.hid (R5.out _ K9.2.2.2.2.2.2.2)
    clear K9 hB9
    cases g with
    | true =>
      go_wp2_with fail
      refine RR.out.mono ?_
      rintro e w6 ⟨rfl, B6⟩
      have KB6 := Lib.hid (KB.out.below HPB.out B6)
      go_wp2_with fail
      refine (HK.out _).mono ?_
      rintro e w7 ⟨rfl, B7⟩
      go_wp2_with fail
      refine (HRK.out _).mono ?_
      rintro e w8 ⟨rfl, rfl⟩
      go_wp2_with fail
      go_ret
      exact ⟨by cases kn <;> rfl, HB.out.trans ((KB6.out.2.2.2.2.2.1.trans (B7.mono KB6.out.2.2.2.2.2.1.size)).mono hsz9)⟩
    | false =>
      have R4 : Hid (∀ W, P W → Calls Tryz.prog 11 #[.pointer (some ⟨sb, 0, none⟩), .string ⟨#[46]⟩, .slice a X.length cp, .int .i64 1] W fun e w' => e = .returned (.agg #[.int .i64 1, .string ⟨#[]⟩, .int .i64 0, .string ⟨#[]⟩, .int .i64 1]) ∧ Below W.heap.size W w') := Lib.hid fun W h => by
        rw [HP.out] at h
        exact Run_no W s ⟨#[46]⟩ a cp X 1 h.1 (by decide) h.2 HF.out (.inr HR.out)
      go_wp2_with fail
      refine RR.out.mono ?_
      rintro e w6 ⟨rfl, B6⟩
      have KB6 := Lib.hid (KB.out.below HPB.out B6)
      clear RR
      go_upto_region 9 with (fail)
      go_cut [10] (fun v wx => v = .bool true ∧ BadAt w2.heap.size w2 P wx)
      case first =>
        have K5 : BadAt w2.heap.size w2 P w6.drew := KB6.out.below HPB.out (Below.refl _ _).drew
        have S5 := K5.six
        go_region_held3 (fun W => W.cell? ⟨w2.heap.size, 0, none⟩ = some (.int .i64 1) ∧ W.cell? ⟨w2.heap.size, 1, none⟩ = some (.string ⟨#[]⟩) ∧ W.cell? ⟨w2.heap.size, 2, none⟩ = some (.int .i64 0) ∧ W.cell? ⟨w2.heap.size, 3, none⟩ = some (.string ⟨#[]⟩) ∧ W.cell? ⟨w2.heap.size, 4, none⟩ = some (.int .i64 1) ∧ BadAt w2.heap.size w2 P W)
          (first | exact S5 | exact S6)
          (first
            | (go_at_call 11; refine (R4.out _ K5.2.2.2.2.2.2.2).mono ?_; rintro e w9 ⟨rfl, B9⟩; have K6 := K5.below HPB.out B9; have S6 := K6.six))
        all_goals go_wp2_with fail
        all_goals go_meet
        all_goals exact ⟨rfl, K6⟩
      case rest =>
        obtain ⟨rfl, K9⟩ := hcut
        have KB9 := Lib.hid K9
        clear K9
        go_wp2_with fail
        refine (HK.out _).mono ?_
        rintro e w7 ⟨rfl, B7⟩
        go_wp2_with fail
        refine (HRK.out _).mono ?_
        rintro e w8 ⟨rfl, rfl⟩
        go_wp2_with fail
        go_ret
        exact ⟨by cases kn <;> rfl, HB.out.trans ((KB9.out.2.2.2.2.2.1.trans (B7.mono KB9.out.2.2.2.2.2.1.size)).mono hsz9)⟩
end Go.Proofs.YtaolccibflniiaaGreatDoor.Hx
