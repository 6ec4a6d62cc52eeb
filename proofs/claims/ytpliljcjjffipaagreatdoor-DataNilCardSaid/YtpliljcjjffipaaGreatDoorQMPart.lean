/-
  makefile.special.
  makefile.part.
-/
import Derived.Test.YtpliljcjjffipaaGreatDoorQMRule
namespace Go.Proofs.YtpliljcjjffipaaGreatDoor.Mw
open Go.RowKit Go.Proofs.YtpliljcjjffipaaGreatDoor Go.Proofs.YtpliljcjjffipaaGreatDoor.Ww Go.Proofs.YtpliljcjjffipaaGreatDoor.Iw
set_option maxRecDepth 100000

theorem beq_yes {l m : Bs} (h : l = m) : ((str l).toList == m) = true := by rw [Lib.toList_data, h]; exact beq_self_eq_true _
theorem beq_no {l m : Bs} (h : ¬ l = m) : ((str l).toList == m) = false := by rw [Lib.toList_data]; exact beq_eq_false_iff_ne.2 h
theorem special_over {n : Nat} {t : Bs} (h : (Mp.wordA t).1 = Mp.oOver) : Mp.specialA n t = (Mp.assignA (Mp.wordA t).2).map (fun p : Mp.P => { p with over := true }) := if_pos h
theorem special_out {n : Nat} {t : Bs} (h0 : ¬ (Mp.wordA t).1 = Mp.oOver) (h : (Mp.wordA t).1 = Mp.oExport) : Mp.specialA n t = (match Mp.assignA (Mp.wordA t).2 with | some p => some { p with out := true } | none => Mp.namesA 2 (Mp.wordA t).2) := by
  unfold Mp.specialA; rw [if_neg h0, if_pos h]; cases Mp.assignA (Mp.wordA t).2 <;> rfl
theorem special_un {n : Nat} {t : Bs} (h0 : ¬ (Mp.wordA t).1 = Mp.oOver) (h1 : ¬ (Mp.wordA t).1 = Mp.oExport) (h : (Mp.wordA t).1 = Mp.oUnexport) : Mp.specialA n t = Mp.namesA 3 (Mp.wordA t).2 := by
  unfold Mp.specialA; rw [if_neg h0, if_neg h1, if_pos h]
theorem special_rule {n : Nat} {t : Bs} (h0 : ¬ (Mp.wordA t).1 = Mp.oOver) (h1 : ¬ (Mp.wordA t).1 = Mp.oExport) (h : ¬ (Mp.wordA t).1 = Mp.oUnexport) : Mp.specialA n t = Mp.ruleA n t := by
  unfold Mp.specialA; rw [if_neg h0, if_neg h1, if_neg h]
/-- A whole store, and the world behind it as a variable. -/
theorem store_box {P : Program} {ops : Array Oper} {rest : List Oper} {o : Oper} {a : Act} {w : World} {Q : Exit → Act → World → Prop} (hgd : o.guard = none) (ty : TypeId) (x y : Operand) (ho : o.op = .store ty x y)
    (g : Nat) (cells : Array Value) (hx : a.eval x = .pointer (some ⟨g, 0, none⟩)) (hy : a.eval y = .agg cells)
    (t : TypeId) (old : Array Value) (hg : w.heap[g]? = some (.cells old t (0, 0))) (hi : (P.info? ty).map (·.size) = some cells.size)
    (hold : old.size = cells.size) (h1 : cells.all (·.oneCell') = true)
    (h : ∀ W3 : World, Hid (W3.heap[g]? = some (.cells cells t (0, 0))) → Hid (W3 = w.setRow g cells) → wpList P ops Q rest (a.put o.dst undef) W3) : wpList P ops Q (o :: rest) a w :=
  wpList_store_row hgd ty x y ho g cells hx hy t old hg hi hold h1 (h _ (Lib.hid (setRow_heap _ _ _ _ _ _ hg)) (Lib.hid rfl))
theorem own_mono {w : World} {B B' : Nat} {e : TypeId} {z : Nat} {v : Value} {n : Nat} {xs : List Value} (h : w.ownsRow B e z v n xs) (hB : B' ≤ B) : w.ownsRow B' e z v n xs := by
  refine ⟨h.1, ?_⟩
  rcases h.2 with h | ⟨g, cap, cur, h1, h2, h3⟩
  · exact .inl h
  · exact .inr ⟨g, cap, cur, h1, Nat.le_trans hB h2, h3⟩
theorem box_fill_two {w : World} {n : Nat} {t : Bs} {q : Bool} {W : World} (h : Two w n t q W) (cs : Array Value) : Two w n t q ((W.alloc (.cells zeroC PT)).setRow W.heap.size cs) := (h.alloc _).setRow h.size cs

set_option maxHeartbeats 2000000 in
theorem special_any (w : World) (n : Nat) (t : Bs) (q : Bool) (hs : t.length ≤ 100000) :
    Calls Tryz.prog 175 #[.agg #[.int .i64 (n : Int), .string (str t), .bool q]] w (PartPost w (Mp.specialA n t)) := by
  have H0 := Lib.hid (Two.new w n t q)
  have c1 := H0.out.cells.2.1
  obtain ⟨x1, hA⟩ : ∃ x1 : Int, ∀ W, Calls Tryz.prog 195 #[.string (str t), .string ⟨#[32, 9]⟩] W fun e w' => e = .returned (.tuple #[.string (str (Mp.wordA t).1), .int .u8 x1, .string (str (Mp.wordA t).2)]) ∧ Below W.heap.size W w' := CutPA t [32, 9] hs (by decide)
  have HC := Lib.hid hA
  have hl2 : (Mp.wordA t).2.length ≤ 100000 := Nat.le_trans (Mp.pair_len [32, 9] t).2 hs
  have HA := Lib.hid fun W => assignment_any W (Mp.wordA t).2 hl2
  have HNm := Lib.hid fun W k => names_any W k (Mp.wordA t).2 hl2
  have HRl := Lib.hid fun W => rule_any W n t q hs
  clear hA
  by_cases k0 : (Mp.wordA t).1 = Mp.oOver
  · have q0 : ((str (Mp.wordA t).1).toList == [111, 118, 101, 114, 114, 105, 100, 101]) = true := beq_yes k0
    have HS := Lib.hid (special_over (n := n) k0)
    clear k0
    generalize (Mp.wordA t).1 = fw at *
    generalize (Mp.wordA t).2 = rw' at *
    cases hp : Mp.assignA rw' with
    | none =>
      have HN : Hid (Mp.specialA n t = none) := Lib.hid (by rw [HS.out, hp]; rfl)
      rw [hp] at HA
      clear hp HS
      go_enter Tryz.func175, Tryz.ntmps175
      go_wp2_with fail
      refine (HC.out _).mono ?_
      rintro e w1 ⟨rfl, B1⟩
      have H1 := Lib.hid (H0.out.go B1)
      clear B1
      go_wp2_with fail
      refine (HA.out _).mono ?_
      rintro e w2 ⟨rfl, B2⟩
      have H2 := Lib.hid (H1.out.go B2)
      clear B2
      have HX := Lib.hid (heap_alloc_last w2 (.cells zeroC PT))
      have hs2 := H2.out.size
      go_wp2_with (first
        | (refine store_box rfl PT _ _ rfl w2.heap.size zeroC rfl rfl PT zeroC HX.out sizeP rfl oneZ ?_; intro W3 HG3 HE3; have d5 : W3.cell? ⟨w2.heap.size, 5, none⟩ = some (.bool false) := cell_at HG3.out rfl; have f5 : W3.frozen? ⟨w2.heap.size, 5, none⟩ = false := frozen_at HG3.out _; have HG := Lib.hid (heap_set3 (i := 5) HG3.out (.bool false)); have H3 : Hid (Two w n t q (W3.setCell ⟨w2.heap.size, 5, none⟩ (.bool false))) := Lib.hid (Two.setCell (by rw [HE3.out]; exact box_fill_two H2.out zeroC) hs2 5 (.bool false)))
        | (refine wpList_load_row rfl PT _ rfl w2.heap.size rfl PT zeroC (0, 0) _ HG.out undP rfl sizeP ?_)
        | (refine wpList_store_row rfl PT _ _ rfl (w.heap.size + 1) zeroC rfl rfl PT zeroC H3.out.out sizeP rfl oneZ ?_))
      (try simp only [Exit.inBlock, Exit.then])
      refine bodyPost_ret (results_two Tryz.results175 _ _ (w.heap.size + 1) PT zeroC (0, 0) _ (.bool false) rfl rfl (setRow_heap _ _ _ _ _ _ H3.out.out) undP rfl sizeP) rfl ?_
      rw [HN.out]
      exact ⟨rfl, below_setRow H3.out.below (Nat.le_succ _) _⟩
    | some p =>
      have HN : Hid (Mp.specialA n t = some { p with over := true }) := Lib.hid (by rw [HS.out, hp]; rfl)
      rw [hp] at HA
      clear hp HS
      go_enter Tryz.func175, Tryz.ntmps175
      go_wp2_with fail
      refine (HC.out _).mono ?_
      rintro e w1 ⟨rfl, B1⟩
      have H1 := Lib.hid (H0.out.go B1)
      clear B1
      go_wp2_with fail
      refine (HA.out _).mono ?_
      rintro e w2 ⟨⟨hr0, rfl⟩, B2⟩
      have HR0 := Lib.hid hr0
      have H2 := Lib.hid (H1.out.go B2)
      clear B2 hr0
      have HX := Lib.hid (heap_alloc_last w2 (.cells zeroC PT))
      have hs2 := H2.out.size
      go_wp2_with (first
        | (refine store_box rfl PT _ _ rfl w2.heap.size (partC p (.slice none 0 0)) rfl rfl PT zeroC HX.out sizeP rfl (oneP _ _ _ _) ?_; intro W3 HG3 HE3; have d5 : W3.cell? ⟨w2.heap.size, 5, none⟩ = some (.bool p.over) := cell_at HG3.out rfl; have f5 : W3.frozen? ⟨w2.heap.size, 5, none⟩ = false := frozen_at HG3.out _; have HG := Lib.hid (heap_set3 (i := 5) HG3.out (.bool true)); have H3 : Hid (Two w n t q (W3.setCell ⟨w2.heap.size, 5, none⟩ (.bool true))) := Lib.hid (Two.setCell (by rw [HE3.out]; exact box_fill_two H2.out (partC p (.slice none 0 0))) hs2 5 (.bool true)))
        | (refine wpList_load_row rfl PT _ rfl w2.heap.size rfl PT (partC { p with over := true } (.slice none 0 0)) (0, 0) _ HG.out undP rfl sizeP ?_)
        | (refine wpList_store_row rfl PT _ _ rfl (w.heap.size + 1) (partC { p with over := true } (.slice none 0 0)) rfl rfl PT zeroC H3.out.out sizeP rfl (oneP _ _ _ _) ?_))
      (try simp only [Exit.inBlock, Exit.then])
      refine bodyPost_ret (results_two Tryz.results175 _ _ (w.heap.size + 1) PT (partC { p with over := true } (.slice none 0 0)) (0, 0) _ (.bool true) rfl rfl (setRow_heap _ _ _ _ _ _ H3.out.out) undP rfl sizeP) rfl ?_
      rw [HN.out]
      exact ⟨⟨none, 0, by rw [HR0.out]; rfl, by rw [HR0.out]; exact World.ownsRow_nil _ _ _ _⟩, below_setRow H3.out.below (Nat.le_succ _) _⟩
  · have q0 : ((str (Mp.wordA t).1).toList == [111, 118, 101, 114, 114, 105, 100, 101]) = false := beq_no k0
    by_cases k1 : (Mp.wordA t).1 = Mp.oExport
    · have q1 : ((str (Mp.wordA t).1).toList == [101, 120, 112, 111, 114, 116]) = true := beq_yes k1
      have HS := Lib.hid (special_out (n := n) k0 k1)
      clear k0 k1
      generalize (Mp.wordA t).1 = fw at *
      generalize (Mp.wordA t).2 = rw' at *
      cases hp : Mp.assignA rw' with
      | some p =>
        have HN : Hid (Mp.specialA n t = some { p with out := true }) := Lib.hid (by rw [HS.out, hp])
        rw [hp] at HA
        clear hp HS
        go_enter Tryz.func175, Tryz.ntmps175
        go_wp2_with fail
        refine (HC.out _).mono ?_
        rintro e w1 ⟨rfl, B1⟩
        have H1 := Lib.hid (H0.out.go B1)
        clear B1
        go_wp2_with fail
        refine (HA.out _).mono ?_
        rintro e w2 ⟨⟨hr0, rfl⟩, B2⟩
        have HR0 := Lib.hid hr0
        have H2 := Lib.hid (H1.out.go B2)
        clear B2 hr0
        have HX := Lib.hid (heap_alloc_last w2 (.cells zeroC PT))
        have hs2 := H2.out.size
        go_wp2_with (first
          | (refine store_box rfl PT _ _ rfl w2.heap.size (partC p (.slice none 0 0)) rfl rfl PT zeroC HX.out sizeP rfl (oneP _ _ _ _) ?_; intro W3 HG3 HE3; have d5 : W3.cell? ⟨w2.heap.size, 6, none⟩ = some (.bool p.out) := cell_at HG3.out rfl; have f5 : W3.frozen? ⟨w2.heap.size, 6, none⟩ = false := frozen_at HG3.out _; have HG := Lib.hid (heap_set3 (i := 6) HG3.out (.bool true)); have H3 : Hid (Two w n t q (W3.setCell ⟨w2.heap.size, 6, none⟩ (.bool true))) := Lib.hid (Two.setCell (by rw [HE3.out]; exact box_fill_two H2.out (partC p (.slice none 0 0))) hs2 6 (.bool true)))
          | (refine wpList_load_row rfl PT _ rfl w2.heap.size rfl PT (partC { p with out := true } (.slice none 0 0)) (0, 0) _ HG.out undP rfl sizeP ?_)
          | (refine wpList_store_row rfl PT _ _ rfl (w.heap.size + 1) (partC { p with out := true } (.slice none 0 0)) rfl rfl PT zeroC H3.out.out sizeP rfl (oneP _ _ _ _) ?_))
        (try simp only [Exit.inBlock, Exit.then])
        refine bodyPost_ret (results_two Tryz.results175 _ _ (w.heap.size + 1) PT (partC { p with out := true } (.slice none 0 0)) (0, 0) _ (.bool true) rfl rfl (setRow_heap _ _ _ _ _ _ H3.out.out) undP rfl sizeP) rfl ?_
        rw [HN.out]
        exact ⟨⟨none, 0, by rw [HR0.out]; rfl, by rw [HR0.out]; exact World.ownsRow_nil _ _ _ _⟩, below_setRow H3.out.below (Nat.le_succ _) _⟩
      | none =>
        cases hn : Mp.namesA 2 rw' with
        | none =>
          have HN : Hid (Mp.specialA n t = none) := Lib.hid (by rw [HS.out, hp]; exact hn)
          have HM := Lib.hid fun W => HNm.out W 2
          rw [hp] at HA
          rw [hn] at HM
          clear hp hn HS
          go_enter Tryz.func175, Tryz.ntmps175
          go_wp2_with fail
          refine (HC.out _).mono ?_
          rintro e w1 ⟨rfl, B1⟩
          have H1 := Lib.hid (H0.out.go B1)
          clear B1
          go_wp2_with fail
          refine (HA.out _).mono ?_
          rintro e w2 ⟨rfl, B2⟩
          have H2 := Lib.hid (H1.out.go B2)
          clear B2
          have HX := Lib.hid (heap_alloc_last w2 (.cells zeroC PT))
          go_wp2_with (refine store_box rfl PT _ _ rfl w2.heap.size zeroC rfl rfl PT zeroC HX.out sizeP rfl oneZ ?_; intro W3 HG3 HE3; have H3 : Hid (Two w n t q W3) := Lib.hid (by rw [HE3.out]; exact box_fill_two H2.out zeroC))
          refine (HM.out _).mono ?_
          rintro e w4 ⟨rfl, B4⟩
          have H4 := Lib.hid (H3.out.go B4)
          clear B4
          go_wp2_with (refine wpList_store_row rfl PT _ _ rfl (w.heap.size + 1) zeroC rfl rfl PT zeroC H4.out.out sizeP rfl oneZ ?_)
          (try simp only [Exit.inBlock, Exit.then])
          refine bodyPost_ret (results_two Tryz.results175 _ _ (w.heap.size + 1) PT zeroC (0, 0) _ (.bool false) rfl rfl (setRow_heap _ _ _ _ _ _ H4.out.out) undP rfl sizeP) rfl ?_
          rw [HN.out]
          exact ⟨rfl, below_setRow H4.out.below (Nat.le_succ _) _⟩
        | some p =>
          have HN : Hid (Mp.specialA n t = some p) := Lib.hid (by rw [HS.out, hp]; exact hn)
          have HM := Lib.hid fun W => HNm.out W 2
          rw [hp] at HA
          rw [hn] at HM
          clear hp hn HS
          go_enter Tryz.func175, Tryz.ntmps175
          go_wp2_with fail
          refine (HC.out _).mono ?_
          rintro e w1 ⟨rfl, B1⟩
          have H1 := Lib.hid (H0.out.go B1)
          clear B1
          go_wp2_with fail
          refine (HA.out _).mono ?_
          rintro e w2 ⟨rfl, B2⟩
          have H2 := Lib.hid (H1.out.go B2)
          clear B2
          have HX := Lib.hid (heap_alloc_last w2 (.cells zeroC PT))
          go_wp2_with (refine store_box rfl PT _ _ rfl w2.heap.size zeroC rfl rfl PT zeroC HX.out sizeP rfl oneZ ?_; intro W3 HG3 HE3; have H3 : Hid (Two w n t q W3) := Lib.hid (by rw [HE3.out]; exact box_fill_two H2.out zeroC))
          refine (HM.out _).mono ?_
          rintro e w4 ⟨⟨hr0, rfl⟩, B4⟩
          have HR0 := Lib.hid hr0
          have H4 := Lib.hid (H3.out.go B4)
          clear B4 hr0
          go_wp2_with (refine wpList_store_row rfl PT _ _ rfl (w.heap.size + 1) (partC p (.slice none 0 0)) rfl rfl PT zeroC H4.out.out sizeP rfl (oneP _ _ _ _) ?_)
          (try simp only [Exit.inBlock, Exit.then])
          refine bodyPost_ret (results_two Tryz.results175 _ _ (w.heap.size + 1) PT (partC p (.slice none 0 0)) (0, 0) _ (.bool true) rfl rfl (setRow_heap _ _ _ _ _ _ H4.out.out) undP rfl sizeP) rfl ?_
          rw [HN.out]
          exact ⟨⟨none, 0, by rw [HR0.out]; rfl, by rw [HR0.out]; exact World.ownsRow_nil _ _ _ _⟩, below_setRow H4.out.below (Nat.le_succ _) _⟩
    · have q1 : ((str (Mp.wordA t).1).toList == [101, 120, 112, 111, 114, 116]) = false := beq_no k1
      by_cases k2 : (Mp.wordA t).1 = Mp.oUnexport
      · have q2 : ((str (Mp.wordA t).1).toList == [117, 110, 101, 120, 112, 111, 114, 116]) = true := beq_yes k2
        have HS := Lib.hid (special_un (n := n) k0 k1 k2)
        clear k0 k1 k2
        generalize (Mp.wordA t).1 = fw at *
        generalize (Mp.wordA t).2 = rw' at *
        cases hn : Mp.namesA 3 rw' with
        | none =>
          have HN : Hid (Mp.specialA n t = none) := Lib.hid (by rw [HS.out]; exact hn)
          have HM := Lib.hid fun W => HNm.out W 3
          rw [hn] at HM
          clear hn HS
          go_enter Tryz.func175, Tryz.ntmps175
          go_wp2_with fail
          refine (HC.out _).mono ?_
          rintro e w1 ⟨rfl, B1⟩
          have H1 := Lib.hid (H0.out.go B1)
          clear B1
          go_wp2_with fail
          refine (HM.out _).mono ?_
          rintro e w4 ⟨rfl, B4⟩
          have H4 := Lib.hid (H1.out.go B4)
          clear B4
          go_wp2_with (refine wpList_store_row rfl PT _ _ rfl (w.heap.size + 1) zeroC rfl rfl PT zeroC H4.out.out sizeP rfl oneZ ?_)
          (try simp only [Exit.inBlock, Exit.then])
          refine bodyPost_ret (results_two Tryz.results175 _ _ (w.heap.size + 1) PT zeroC (0, 0) _ (.bool false) rfl rfl (setRow_heap _ _ _ _ _ _ H4.out.out) undP rfl sizeP) rfl ?_
          rw [HN.out]
          exact ⟨rfl, below_setRow H4.out.below (Nat.le_succ _) _⟩
        | some p =>
          have HN : Hid (Mp.specialA n t = some p) := Lib.hid (by rw [HS.out]; exact hn)
          have HM := Lib.hid fun W => HNm.out W 3
          rw [hn] at HM
          clear hn HS
          go_enter Tryz.func175, Tryz.ntmps175
          go_wp2_with fail
          refine (HC.out _).mono ?_
          rintro e w1 ⟨rfl, B1⟩
          have H1 := Lib.hid (H0.out.go B1)
          clear B1
          go_wp2_with fail
          refine (HM.out _).mono ?_
          rintro e w4 ⟨⟨hr0, rfl⟩, B4⟩
          have HR0 := Lib.hid hr0
          have H4 := Lib.hid (H1.out.go B4)
          clear B4 hr0
          go_wp2_with (refine wpList_store_row rfl PT _ _ rfl (w.heap.size + 1) (partC p (.slice none 0 0)) rfl rfl PT zeroC H4.out.out sizeP rfl (oneP _ _ _ _) ?_)
          (try simp only [Exit.inBlock, Exit.then])
          refine bodyPost_ret (results_two Tryz.results175 _ _ (w.heap.size + 1) PT (partC p (.slice none 0 0)) (0, 0) _ (.bool true) rfl rfl (setRow_heap _ _ _ _ _ _ H4.out.out) undP rfl sizeP) rfl ?_
          rw [HN.out]
          exact ⟨⟨none, 0, by rw [HR0.out]; rfl, by rw [HR0.out]; exact World.ownsRow_nil _ _ _ _⟩, below_setRow H4.out.below (Nat.le_succ _) _⟩
      · have q2 : ((str (Mp.wordA t).1).toList == [117, 110, 101, 120, 112, 111, 114, 116]) = false := beq_no k2
        have HS := Lib.hid (special_rule (n := n) k0 k1 k2)
        clear k0 k1 k2
        generalize (Mp.wordA t).1 = fw at *
        generalize (Mp.wordA t).2 = rw' at *
        cases hn : Mp.ruleA n t with
        | none =>
          have HN : Hid (Mp.specialA n t = none) := Lib.hid (by rw [HS.out]; exact hn)
          rw [hn] at HRl
          clear hn HS
          go_enter Tryz.func175, Tryz.ntmps175
          go_wp2_with fail
          refine (HC.out _).mono ?_
          rintro e w1 ⟨rfl, B1⟩
          have H1 := Lib.hid (H0.out.go B1)
          clear B1
          have c10 := H1.out.cells.1
          have c11 := H1.out.cells.2.1
          have c12 := H1.out.cells.2.2
          go_wp2_with fail
          refine (HRl.out _).mono ?_
          rintro e w4 ⟨rfl, B4⟩
          have H4 := Lib.hid (H1.out.go B4)
          clear B4
          go_wp2_with (refine wpList_store_row rfl PT _ _ rfl (w.heap.size + 1) zeroC rfl rfl PT zeroC H4.out.out sizeP rfl oneZ ?_)
          (try simp only [Exit.inBlock, Exit.then])
          refine bodyPost_ret (results_two Tryz.results175 _ _ (w.heap.size + 1) PT zeroC (0, 0) _ (.bool false) rfl rfl (setRow_heap _ _ _ _ _ _ H4.out.out) undP rfl sizeP) rfl ?_
          rw [HN.out]
          exact ⟨rfl, below_setRow H4.out.below (Nat.le_succ _) _⟩
        | some p =>
          have HN : Hid (Mp.specialA n t = some p) := Lib.hid (by rw [HS.out]; exact hn)
          rw [hn] at HRl
          clear hn HS
          go_enter Tryz.func175, Tryz.ntmps175
          go_wp2_with fail
          refine (HC.out _).mono ?_
          rintro e w1 ⟨rfl, B1⟩
          have H1 := Lib.hid (H0.out.go B1)
          clear B1
          have c10 := H1.out.cells.1
          have c11 := H1.out.cells.2.1
          have c12 := H1.out.cells.2.2
          go_wp2_with fail
          refine (HRl.out _).mono ?_
          rintro e w4 ⟨⟨a, c, rfl, ho⟩, B4⟩
          have H4 := Lib.hid (H1.out.go B4)
          have HO := Lib.hid ho
          have hs1 := H1.out.size
          clear B4 ho
          go_wp2_with (refine wpList_store_row rfl PT _ _ rfl (w.heap.size + 1) (partC p (.slice a p.recipe.length c)) rfl rfl PT zeroC H4.out.out sizeP rfl (oneP _ _ _ _) ?_)
          (try simp only [Exit.inBlock, Exit.then])
          refine bodyPost_ret (results_two Tryz.results175 _ _ (w.heap.size + 1) PT (partC p (.slice a p.recipe.length c)) (0, 0) _ (.bool true) rfl rfl (setRow_heap _ _ _ _ _ _ H4.out.out) undP rfl sizeP) rfl ?_
          rw [HN.out]
          exact ⟨⟨a, c, rfl, own_mono (own_kept HO.out fun g hg => setRow_other _ _ _ _ (by have := (HO.out.lt g hg).1; omega)) (by omega)⟩, below_setRow H4.out.below (Nat.le_succ _) _⟩
end Go.Proofs.YtpliljcjjffipaaGreatDoor.Mw
namespace Go.Proofs.YtpliljcjjffipaaGreatDoor.Mw
open Go.RowKit Go.Proofs.YtpliljcjjffipaaGreatDoor Go.Proofs.YtpliljcjjffipaaGreatDoor.Ww Go.Proofs.YtpliljcjjffipaaGreatDoor.Iw
set_option maxRecDepth 100000

set_option maxHeartbeats 2000000 in
theorem part_any (w : World) (n : Nat) (t : Bs) (q : Bool) (hs : t.length ≤ 100000) :
    Calls Tryz.prog 111 #[.agg #[.int .i64 (n : Int), .string (str t), .bool q]] w (PartPost w (Mp.partA n t)) := by
  have H0 := Lib.hid (Two.new w n t q)
  have c1 := H0.out.cells.2.1
  have HA := Lib.hid fun W => assignment_any W t hs
  have HS := Lib.hid fun W => special_any W n t q hs
  cases hp : Mp.assignA t with
  | some p =>
    have HN : Hid (Mp.partA n t = some { p with line := n }) := Lib.hid (by unfold Mp.partA Mp.oneA; rw [hp]; rfl)
    rw [hp] at HA
    clear hp HS
    go_enter Tryz.func111, Tryz.ntmps111
    go_wp2_with fail
    refine (HA.out _).mono ?_
    rintro e w1 ⟨⟨hr0, rfl⟩, B1⟩
    have HR0 := Lib.hid hr0
    have H1 := Lib.hid (H0.out.go B1)
    clear B1 hr0
    have HX := Lib.hid (heap_alloc_last w1 (.cells zeroC PT))
    have hs1 := H1.out.size
    go_wp2_with (first
      | (refine store_box rfl PT _ _ rfl w1.heap.size (partC p (.slice none 0 0)) rfl rfl PT zeroC HX.out sizeP rfl (oneP _ _ _ _) ?_; intro W3 HG3 HE3; have d5 : W3.cell? ⟨w1.heap.size, 1, none⟩ = some (.int .i64 (p.line : Int)) := cell_at HG3.out rfl; have f5 : W3.frozen? ⟨w1.heap.size, 1, none⟩ = false := frozen_at HG3.out _; have HG := Lib.hid (heap_set3 (i := 1) HG3.out (.int .i64 (n : Int))); have hT3 : Two w n t q W3 := (by rw [HE3.out]; exact box_fill_two H1.out (partC p (.slice none 0 0))); have H3 : Hid (Two w n t q (W3.setCell ⟨w1.heap.size, 1, none⟩ (.int .i64 (n : Int)))) := Lib.hid (hT3.setCell hs1 1 (.int .i64 (n : Int))); have c30 := hT3.cells.1; clear hT3)
      | (refine wpList_load_row rfl PT _ rfl w1.heap.size rfl PT (partC { p with line := n } (.slice none 0 0)) (0, 0) _ HG.out undP rfl sizeP ?_)
      | (refine wpList_store_row rfl PT _ _ rfl (w.heap.size + 1) (partC { p with line := n } (.slice none 0 0)) rfl rfl PT zeroC H3.out.out sizeP rfl (oneP _ _ _ _) ?_))
    (try simp only [Exit.inBlock, Exit.then])
    refine bodyPost_ret (results_two Tryz.results111 _ _ (w.heap.size + 1) PT (partC { p with line := n } (.slice none 0 0)) (0, 0) _ (.bool true) rfl rfl (setRow_heap _ _ _ _ _ _ H3.out.out) undP rfl sizeP) rfl ?_
    rw [HN.out]
    exact ⟨⟨none, 0, by rw [HR0.out]; rfl, by rw [HR0.out]; exact World.ownsRow_nil _ _ _ _⟩, below_setRow H3.out.below (Nat.le_succ _) _⟩
  | none =>
    rw [hp] at HA
    cases hn : Mp.specialA n t with
    | none =>
      have HN : Hid (Mp.partA n t = none) := Lib.hid (by unfold Mp.partA Mp.oneA; rw [hp]; show (Mp.specialA n t).map _ = _; rw [hn]; rfl)
      rw [hn] at HS
      clear hp hn
      go_enter Tryz.func111, Tryz.ntmps111
      go_wp2_with fail
      refine (HA.out _).mono ?_
      rintro e w1 ⟨rfl, B1⟩
      have H1 := Lib.hid (H0.out.go B1)
      clear B1
      have HX := Lib.hid (heap_alloc_last w1 (.cells zeroC PT))
      have hs1 := H1.out.size
      go_wp2_with (refine store_box rfl PT _ _ rfl w1.heap.size zeroC rfl rfl PT zeroC HX.out sizeP rfl oneZ ?_; intro W3 HG3 HE3; have hT3 : Two w n t q W3 := (by rw [HE3.out]; exact box_fill_two H1.out zeroC); have H3 := Lib.hid hT3; have c30 := hT3.cells.1; have c31 := hT3.cells.2.1; have c32 := hT3.cells.2.2; clear hT3)
      refine (HS.out _).mono ?_
      rintro e w4 ⟨rfl, B4⟩
      have H4 := Lib.hid (H3.out.go B4)
      have HG4 := Lib.hid ((B4.block w1.heap.size (Array.getElem?_eq_some_iff.1 HG3.out).1).trans HG3.out)
      clear B4
      go_wp2_with (first
        | (refine store_box rfl PT _ _ rfl w1.heap.size zeroC rfl rfl PT zeroC HG4.out sizeP rfl oneZ ?_; intro W5 HG5 HE5; have H5 : Hid (Two w n t q W5) := Lib.hid (by rw [HE5.out]; exact H4.out.setRow hs1 _))
        | (refine wpList_load_row rfl PT _ rfl w1.heap.size rfl PT zeroC (0, 0) _ HG5.out undP rfl sizeP ?_)
        | (refine wpList_store_row rfl PT _ _ rfl (w.heap.size + 1) zeroC rfl rfl PT zeroC H5.out.out sizeP rfl oneZ ?_))
      (try simp only [Exit.inBlock, Exit.then])
      refine bodyPost_ret (results_two Tryz.results111 _ _ (w.heap.size + 1) PT zeroC (0, 0) _ (.bool false) rfl rfl (setRow_heap _ _ _ _ _ _ H5.out.out) undP rfl sizeP) rfl ?_
      rw [HN.out]
      exact ⟨rfl, below_setRow H5.out.below (Nat.le_succ _) _⟩
    | some p =>
      have HN : Hid (Mp.partA n t = some { p with line := n }) := Lib.hid (by unfold Mp.partA Mp.oneA; rw [hp]; show (Mp.specialA n t).map _ = _; rw [hn]; rfl)
      rw [hn] at HS
      clear hp hn
      go_enter Tryz.func111, Tryz.ntmps111
      go_wp2_with fail
      refine (HA.out _).mono ?_
      rintro e w1 ⟨rfl, B1⟩
      have H1 := Lib.hid (H0.out.go B1)
      clear B1
      have HX := Lib.hid (heap_alloc_last w1 (.cells zeroC PT))
      have hs1 := H1.out.size
      go_wp2_with (refine store_box rfl PT _ _ rfl w1.heap.size zeroC rfl rfl PT zeroC HX.out sizeP rfl oneZ ?_; intro W3 HG3 HE3; have hT3 : Two w n t q W3 := (by rw [HE3.out]; exact box_fill_two H1.out zeroC); have H3 := Lib.hid hT3; have c30 := hT3.cells.1; have c31 := hT3.cells.2.1; have c32 := hT3.cells.2.2; clear hT3)
      refine (HS.out _).mono ?_
      rintro e w4 ⟨⟨a, c, rfl, ho⟩, B4⟩
      have hl3 : w1.heap.size < W3.heap.size := (Array.getElem?_eq_some_iff.1 HG3.out).1
      have H4 := Lib.hid (H3.out.go B4)
      have HG4 := Lib.hid ((B4.block w1.heap.size hl3).trans HG3.out)
      have HO := Lib.hid ho
      clear B4 ho
      go_wp2_with (first
        | (refine store_box rfl PT _ _ rfl w1.heap.size (partC p (.slice a p.recipe.length c)) rfl rfl PT zeroC HG4.out sizeP rfl (oneP _ _ _ _) ?_; intro W5 HG5 HE5; have d5 : W5.cell? ⟨w1.heap.size, 1, none⟩ = some (.int .i64 (p.line : Int)) := cell_at HG5.out rfl; have f5 : W5.frozen? ⟨w1.heap.size, 1, none⟩ = false := frozen_at HG5.out _; have HG := Lib.hid (heap_set3 (i := 1) HG5.out (.int .i64 (n : Int))); have hT5 : Two w n t q W5 := (by rw [HE5.out]; exact H4.out.setRow hs1 _); have H6 : Hid (Two w n t q (W5.setCell ⟨w1.heap.size, 1, none⟩ (.int .i64 (n : Int)))) := Lib.hid (hT5.setCell hs1 1 (.int .i64 (n : Int))); have c50 := hT5.cells.1; clear hT5)
        | (refine wpList_load_row rfl PT _ rfl w1.heap.size rfl PT (partC { p with line := n } (.slice a p.recipe.length c)) (0, 0) _ HG.out undP rfl sizeP ?_)
        | (refine wpList_store_row rfl PT _ _ rfl (w.heap.size + 1) (partC { p with line := n } (.slice a p.recipe.length c)) rfl rfl PT zeroC H6.out.out sizeP rfl (oneP _ _ _ _) ?_))
      (try simp only [Exit.inBlock, Exit.then])
      refine bodyPost_ret (results_two Tryz.results111 _ _ (w.heap.size + 1) PT (partC { p with line := n } (.slice a p.recipe.length c)) (0, 0) _ (.bool true) rfl rfl (setRow_heap _ _ _ _ _ _ H6.out.out) undP rfl sizeP) rfl ?_
      rw [HN.out]
      refine ⟨⟨a, c, rfl, own_mono (own_kept HO.out fun g hg => ?_) (by omega)⟩, below_setRow H6.out.below (Nat.le_succ _) _⟩
      have hgl := (HO.out.lt g hg).1
      have e1 : W5.heap[g]? = w4.heap[g]? := by rw [HE5.out]; exact setRow_other _ _ _ _ (by omega)
      rw [setRow_other _ _ _ _ (by omega)]
      exact (Below.heap_setCell _ _ _ _ (by show g ≠ w1.heap.size; omega)).trans e1
end Go.Proofs.YtpliljcjjffipaaGreatDoor.Mw
