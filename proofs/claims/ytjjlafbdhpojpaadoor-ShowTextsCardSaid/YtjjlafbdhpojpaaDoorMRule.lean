/-
  makefile.rule.
-/
import Derived.Laws.OwnMore
import Derived.Test.YtjjlafbdhpojpaaDoorMAssign
namespace Go.Proofs.YtjjlafbdhpojpaaDoor.Mw
open Go.RowKit Go.Proofs.YtjjlafbdhpojpaaDoor Go.Proofs.YtjjlafbdhpojpaaDoor.Ww Go.Proofs.YtjjlafbdhpojpaaDoor.Iw
set_option maxRecDepth 100000

/-- What rule, special and part return. -/
def PartPost (w : World) (o : Option Mp.P) (e : Ending) (w' : World) : Prop :=
  (match o with
    | none => e = .returned (.tuple #[zeroV, .bool false])
    | some p => ∃ a c, e = .returned (.tuple #[partV p (.slice a p.recipe.length c), .bool true]) ∧ w'.ownsRow w.heap.size LT 3 (.slice a p.recipe.length c) p.recipe.length (linesC p.recipe)) ∧ Below w.heap.size w w'
theorem PartPost.of_as {w w' : World} {o : Option Mp.P} {e : Ending} (h : AsPost w o e w') : PartPost w o e w' := by
  refine ⟨?_, h.2⟩
  cases o with
  | none => exact h.1
  | some p => obtain ⟨h1, h2⟩ := h.1; exact ⟨none, 0, by rw [h1]; exact h2, by rw [h1]; exact World.ownsRow_nil _ _ _ _⟩

theorem CutPA (s stops : Bs) (hs : s.length ≤ 100000) (hst : stops.length ≤ 100000) :
    ∃ x : Int, ∀ w, Calls Tryd.prog 75 #[.string (str s), .string ⟨stops.toArray⟩] w fun e w' => e = .returned (.tuple #[.string (str (Mp.pairA stops s).1), .int .u8 x, .string (str (Mp.pairA stops s).2)]) ∧ Below w.heap.size w w' := by
  unfold Mp.pairA
  cases h : Mp.cut stops s with
  | none => exact ⟨0, fun w => CutN w s stops hs hst h⟩
  | some k => exact ⟨_, fun w => CutS w s stops hs hst k h⟩
theorem setRec (p : Mp.P) (u v : Value) : (partC p u).setIfInBounds 10 v = partC p v := rfl
theorem lineBox (w : World) (n : Nat) (t : Bs) (q : Bool) : (w.alloc (.cells #[.int .i64 (n : Int), .string (str t), .bool q] LT)).heap[w.heap.size]? = some (.cells #[.int .i64 (n : Int), .string (str t), .bool q] LT (0, 0)) := World.alloc_heap_new _ _

/-- The two boxes that a function of a line begins with: the line's own, and the answer's. -/
structure Two (w : World) (n : Nat) (t : Bs) (q : Bool) (W : World) : Prop where
  line : W.heap[w.heap.size]? = some (.cells #[.int .i64 (n : Int), .string (str t), .bool q] LT (0, 0))
  out : W.heap[w.heap.size + 1]? = some (.cells zeroC PT (0, 0))
  below : Below w.heap.size w W
theorem Two.size {w : World} {n : Nat} {t : Bs} {q : Bool} {W : World} (h : Two w n t q W) : w.heap.size + 2 ≤ W.heap.size := (Array.getElem?_eq_some_iff.1 h.out).1
theorem Two.new (w : World) (n : Nat) (t : Bs) (q : Bool) : Two w n t q ((w.alloc (.cells #[.int .i64 (n : Int), .string (str t), .bool q] LT)).alloc (.cells zeroC PT)) :=
  ⟨heap_alloc2_old _ _ _, heap_alloc2_new _ _ _, ((Below.refl _ _).alloc (Nat.le_refl _) _).alloc (by simp) _⟩
theorem Two.go {w : World} {n : Nat} {t : Bs} {q : Bool} {W W' : World} (h : Two w n t q W) (hB : Below W.heap.size W W') : Two w n t q W' := by
  have hs := h.size
  exact ⟨(hB.block _ (by omega)).trans h.line, (hB.block _ (by omega)).trans h.out, h.below.trans (hB.mono (by omega))⟩
theorem Two.alloc {w : World} {n : Nat} {t : Bs} {q : Bool} {W : World} (h : Two w n t q W) (o : Obj) : Two w n t q (W.alloc o) := h.go ((Below.refl _ _).alloc (Nat.le_refl _) _)
theorem Two.setRow {w : World} {n : Nat} {t : Bs} {q : Bool} {W : World} (h : Two w n t q W) {g : Nat} (hg : w.heap.size + 2 ≤ g) (cs : Array Value) : Two w n t q (W.setRow g cs) :=
  ⟨(setRow_other _ _ _ _ (by omega)).trans h.line, (setRow_other _ _ _ _ (by omega)).trans h.out, below_setRow h.below (by omega) _⟩
theorem Two.setCell {w : World} {n : Nat} {t : Bs} {q : Bool} {W : World} (h : Two w n t q W) {g : Nat} (hg : w.heap.size + 2 ≤ g) (i : Nat) (v : Value) : Two w n t q (W.setCell ⟨g, i, none⟩ v) :=
  ⟨(Below.heap_setCell _ _ _ _ (by show _ ≠ g; omega)).trans h.line, (Below.heap_setCell _ _ _ _ (by show _ ≠ g; omega)).trans h.out, h.below.setCell (by show _ ≤ g; omega) _⟩
/-- A row that a store doesn't touch. -/
theorem own_kept {w w' : World} {base : Nat} {e : TypeId} {z : Nat} {v : Value} {n : Nat} {xs : List Value} (h : w.ownsRow base e z v n xs) (hk : ∀ g, v.ownBlock = some g → w'.heap[g]? = w.heap[g]?) : w'.ownsRow base e z v n xs := by
  refine ⟨h.1, ?_⟩
  rcases h.2 with h | ⟨g, cap, cur, rfl, h2, h3, h4⟩
  · exact .inl h
  · exact .inr ⟨g, cap, cur, rfl, h2, (hk g rfl).trans h3, h4⟩
theorem own_set {w : World} {base : Nat} {e : TypeId} {z : Nat} {g c : Nat} {n : Nat} {xs : List Value} (h : w.ownsRow base e z (.slice (some ⟨g, 0, none⟩) n c) n xs) {b i : Nat} (hb : b ≠ g) {u : Value} : (w.setCell ⟨b, i, none⟩ u).ownsRow base e z (.slice (some ⟨g, 0, none⟩) n c) n xs :=
  own_kept h fun k hk => by cases hk; exact Below.heap_setCell _ _ _ _ (Ne.symm hb)
theorem own_setRow {w : World} {base : Nat} {e : TypeId} {z : Nat} {g c : Nat} {n : Nat} {xs : List Value} (h : w.ownsRow base e z (.slice (some ⟨g, 0, none⟩) n c) n xs) {b : Nat} (hb : b ≠ g) {cs : Array Value} : (w.setRow b cs).ownsRow base e z (.slice (some ⟨g, 0, none⟩) n c) n xs :=
  own_kept h fun k hk => by cases hk; exact setRow_other _ _ _ _ (Ne.symm hb)
theorem Two.cells {w : World} {n : Nat} {t : Bs} {q : Bool} {W : World} (h : Two w n t q W) : W.cell? ⟨w.heap.size, 0, none⟩ = some (.int .i64 (n : Int)) ∧ W.cell? ⟨w.heap.size, 1, none⟩ = some (.string (str t)) ∧ W.cell? ⟨w.heap.size, 2, none⟩ = some (.bool q) :=
  ⟨cell_at h.line rfl, cell_at h.line rfl, cell_at h.line rfl⟩
theorem cell_drawn (w : World) (n : Nat) (t : Bs) (q : Bool) (o : Obj) : ((w.alloc (.cells #[.int .i64 (n : Int), .string (str t), .bool q] LT)).alloc o).cell? ⟨w.heap.size, 1, none⟩ = some (.string (str t)) := cell_at (heap_alloc2_old _ _ _) rfl

set_option maxHeartbeats 2000000 in
theorem rule_any (w : World) (n : Nat) (t : Bs) (q : Bool) (hs : t.length ≤ 100000) :
    Calls Tryd.prog 77 #[.agg #[.int .i64 (n : Int), .string (str t), .bool q]] w (PartPost w (Mp.ruleA n t)) := by
  have H0 := Lib.hid (Two.new w n t q)
  cases h : Mp.cut [58] t with
  | none =>
    have HN : Hid (Mp.ruleA n t = none) := Lib.hid (by unfold Mp.ruleA; rw [h])
    have HC := Lib.hid fun W => CutN W t [58] hs (by decide) h
    have HT := Lib.hid fun W => TrimT W t hs
    clear h
    have c1 := H0.out.cells.2.1
    go_enter Tryd.func77, Tryd.ntmps77
    go_wp2_with fail
    refine (HC.out _).mono ?_
    rintro e w1 ⟨rfl, B1⟩
    have H1 := Lib.hid (H0.out.go B1)
    go_wp2_with fail
    refine (HT.out _).mono ?_
    rintro e w2 ⟨rfl, B2⟩
    have H2 := Lib.hid (H1.out.go B2)
    clear B1 B2
    go_wp2_with (refine wpList_store_row rfl PT _ _ rfl (w.heap.size + 1) zeroC rfl rfl PT zeroC H2.out.out sizeP rfl oneZ ?_)
    (try simp only [Exit.inBlock, Exit.then])
    refine bodyPost_ret (results_two Tryd.results77 _ _ (w.heap.size + 1) PT zeroC (0, 0) _ (.bool false) rfl rfl (setRow_heap _ _ _ _ _ _ H2.out.out) undP rfl sizeP) rfl ?_
    rw [HN.out]
    exact ⟨rfl, below_setRow H2.out.below (Nat.le_succ _) _⟩
  | some k =>
    have HC := Lib.hid fun W => CutS W t [58] hs (by decide) k h
    have hk := Mp.cut_lt h
    have hx : t.getD k 0 = 58 := by simpa using Mp.cut_hits h
    have hl1 : (t.take k).length ≤ 100000 := by rw [List.length_take]; omega
    have hl2 : (t.drop (k + 1)).length ≤ 100000 := by rw [List.length_drop]; omega
    have HT := Lib.hid fun W => TrimT W (t.take k) hl1
    have HR : Mp.ruleA n t = if Mp.trim (t.take k) = [] then none else if (t.drop (k + 1)).head? = some 58 then none else Mp.ruleAt n (Mp.trim (t.take k)) (t.drop (k + 1)) := by
      conv => lhs; unfold Mp.ruleA
      rw [h]
    rw [hx] at HC
    clear h hk hx hl1
    generalize t.take k = tk at *
    generalize t.drop (k + 1) = b at *
    generalize hT : Mp.trim tk = T at *
    clear hT
    have c1 := H0.out.cells.2.1
    have c0 := H0.out.cells.1
    by_cases h0 : T = []
    · have HN : Hid (Mp.ruleA n t = none) := Lib.hid (HR.trans (if_pos h0))
      have hE := empty_yes h0
      clear HR h0
      go_enter Tryd.func77, Tryd.ntmps77
      go_wp2_with fail
      refine (HC.out _).mono ?_
      rintro e w1 ⟨rfl, B1⟩
      have H1 := Lib.hid (H0.out.go B1)
      go_wp2_with fail
      refine (HT.out _).mono ?_
      rintro e w2 ⟨rfl, B2⟩
      have H2 := Lib.hid (H1.out.go B2)
      clear B1 B2
      go_wp2_with (refine wpList_store_row rfl PT _ _ rfl (w.heap.size + 1) zeroC rfl rfl PT zeroC H2.out.out sizeP rfl oneZ ?_)
      (try simp only [Exit.inBlock, Exit.then])
      refine bodyPost_ret (results_two Tryd.results77 _ _ (w.heap.size + 1) PT zeroC (0, 0) _ (.bool false) rfl rfl (setRow_heap _ _ _ _ _ _ H2.out.out) undP rfl sizeP) rfl ?_
      rw [HN.out]
      exact ⟨rfl, below_setRow H2.out.below (Nat.le_succ _) _⟩
    · have hE := empty_no h0
      have hF := isEmpty_no h0
      by_cases h1 : b.head? = some 58
      · have HN : Hid (Mp.ruleA n t = none) := Lib.hid (HR.trans (by rw [if_neg h0, if_pos h1]))
        have HP := Lib.hid fun W => Pre_c W b 58 true (Lib.hid (by rw [h1]; rfl))
        clear HR h0 h1
        go_enter Tryd.func77, Tryd.ntmps77
        go_wp2_with fail
        refine (HC.out _).mono ?_
        rintro e w1 ⟨rfl, B1⟩
        have H1 := Lib.hid (H0.out.go B1)
        go_wp2_with fail
        refine (HT.out _).mono ?_
        rintro e w2 ⟨rfl, B2⟩
        have H2 := Lib.hid (H1.out.go B2)
        clear B1 B2
        go_wp2_with fail
        refine (HP.out _).mono ?_
        rintro e w3 ⟨rfl, rfl⟩
        go_wp2_with (refine wpList_store_row rfl PT _ _ rfl (w.heap.size + 1) zeroC rfl rfl PT zeroC H2.out.out sizeP rfl oneZ ?_)
        (try simp only [Exit.inBlock, Exit.then])
        refine bodyPost_ret (results_two Tryd.results77 _ _ (w.heap.size + 1) PT zeroC (0, 0) _ (.bool false) rfl rfl (setRow_heap _ _ _ _ _ _ H2.out.out) undP rfl sizeP) rfl ?_
        rw [HN.out]
        exact ⟨rfl, below_setRow H2.out.below (Nat.le_succ _) _⟩
      · have HP := Lib.hid fun W => Pre_c W b 58 false (Lib.hid (beq_eq_false_iff_ne.2 h1))
        have HR2 : Mp.ruleA n t = Mp.ruleAt n T b := HR.trans (by rw [if_neg h0, if_neg h1])
        clear HR h0 h1
        obtain ⟨x1, hA⟩ : ∃ x1 : Int, ∀ W, Calls Tryd.prog 75 #[.string (str b), .string ⟨#[59]⟩] W fun e w' => e = .returned (.tuple #[.string (str (Mp.pairA [59] b).1), .int .u8 x1, .string (str (Mp.pairA [59] b).2)]) ∧ Below W.heap.size W w' := CutPA b [59] hl2 (by decide)
        obtain ⟨ll1, ll2⟩ := Mp.pair_len [59] b
        have HA := Lib.hid hA
        clear hA
        have HR3 : Mp.ruleAt n T b = if Mp.has [61] (Mp.pairA [59] b).1 = true then none else some { Mp.zero with kind := 1, targets := T, needs := Mp.trim (Mp.pairA [124] (Mp.pairA [59] b).1).1, order := Mp.trim (Mp.pairA [124] (Mp.pairA [59] b).1).2, recipe := Mp.recA n (Mp.trim (Mp.pairA [59] b).2) } := rfl
        rw [HR3] at HR2
        clear HR3
        generalize (Mp.pairA [59] b).1 = al at *
        generalize (Mp.pairA [59] b).2 = rc at *
        cases hh : Mp.has [61] al with
        | true =>
          have HN : Hid (Mp.ruleA n t = none) := Lib.hid (HR2.trans (by rw [if_pos hh]))
          have HH := Lib.hid fun W => has_any W al [61] (by omega) (by decide) (by decide) true (Lib.hid hh)
          clear HR2 hh
          go_enter Tryd.func77, Tryd.ntmps77
          go_wp2_with fail
          refine (HC.out _).mono ?_
          rintro e w1 ⟨rfl, B1⟩
          have H1 := Lib.hid (H0.out.go B1)
          go_wp2_with fail
          refine (HT.out _).mono ?_
          rintro e w2 ⟨rfl, B2⟩
          have H2 := Lib.hid (H1.out.go B2)
          clear B1 B2
          go_wp2_with fail
          refine (HP.out _).mono ?_
          rintro e w3 ⟨rfl, rfl⟩
          go_wp2_with fail
          refine (HA.out _).mono ?_
          rintro e w3 ⟨rfl, B3⟩
          have H3 := Lib.hid (H2.out.go B3)
          go_wp2_with fail
          refine (HH.out _).mono ?_
          rintro e w4 ⟨rfl, B4⟩
          have H4 := Lib.hid (H3.out.go B4)
          clear B3 B4
          go_wp2_with (refine wpList_store_row rfl PT _ _ rfl (w.heap.size + 1) zeroC rfl rfl PT zeroC H4.out.out sizeP rfl oneZ ?_)
          (try simp only [Exit.inBlock, Exit.then])
          refine bodyPost_ret (results_two Tryd.results77 _ _ (w.heap.size + 1) PT zeroC (0, 0) _ (.bool false) rfl rfl (setRow_heap _ _ _ _ _ _ H4.out.out) undP rfl sizeP) rfl ?_
          rw [HN.out]
          exact ⟨rfl, below_setRow H4.out.below (Nat.le_succ _) _⟩
        | false =>
          have HR4 := HR2.trans (by rw [if_neg (by rw [hh]; exact Bool.false_ne_true)])
          have HH := Lib.hid fun W => has_any W al [61] (by omega) (by decide) (by decide) false (Lib.hid hh)
          clear HR2 hh
          obtain ⟨x2, hA2⟩ : ∃ x2 : Int, ∀ W, Calls Tryd.prog 75 #[.string (str al), .string ⟨#[124]⟩] W fun e w' => e = .returned (.tuple #[.string (str (Mp.pairA [124] al).1), .int .u8 x2, .string (str (Mp.pairA [124] al).2)]) ∧ Below W.heap.size W w' := CutPA al [124] (by omega) (by decide)
          have HA2 := Lib.hid hA2
          obtain ⟨lm1, lm2⟩ := Mp.pair_len [124] al
          clear hA2
          generalize (Mp.pairA [124] al).1 = nd at *
          generalize (Mp.pairA [124] al).2 = od at *
          have HT1 := Lib.hid fun W => TrimT W nd (by omega)
          have HT2 := Lib.hid fun W => TrimT W od (by omega)
          have HT3 := Lib.hid fun W => TrimT W rc (by omega)
          have hlr := Mp.trim_len rc
          generalize Mp.trim nd = ND at *
          generalize Mp.trim od = OD at *
          generalize Mp.trim rc = RC at *
          by_cases hr : RC = []
          · have HN : Hid (Mp.ruleA n t = some ⟨1, 0, [], [], [], false, false, T, ND, OD, []⟩) := Lib.hid (HR4.trans (by unfold Mp.recA; rw [if_pos hr]; rfl))
            have hE1 := empty_yes hr
            clear HR4 hr
            go_enter Tryd.func77, Tryd.ntmps77
            go_wp2_with fail
            refine (HC.out _).mono ?_
            rintro e w1 ⟨rfl, B1⟩
            have H1 := Lib.hid (H0.out.go B1)
            go_wp2_with fail
            refine (HT.out _).mono ?_
            rintro e w2 ⟨rfl, B2⟩
            have H2 := Lib.hid (H1.out.go B2)
            clear B1 B2
            go_wp2_with fail
            refine (HP.out _).mono ?_
            rintro e w3 ⟨rfl, rfl⟩
            go_wp2_with fail
            refine (HA.out _).mono ?_
            rintro e w3 ⟨rfl, B3⟩
            have H3 := Lib.hid (H2.out.go B3)
            go_wp2_with fail
            refine (HH.out _).mono ?_
            rintro e w4 ⟨rfl, B4⟩
            have H4 := Lib.hid (H3.out.go B4)
            clear B3 B4
            go_wp2_with fail
            refine (HA2.out _).mono ?_
            rintro e w5 ⟨rfl, B5⟩
            have H5 := Lib.hid (H4.out.go B5)
            go_wp2_with fail
            refine (HT1.out _).mono ?_
            rintro e w6 ⟨rfl, B6⟩
            have H6 := Lib.hid (H5.out.go B6)
            go_wp2_with fail
            refine (HT2.out _).mono ?_
            rintro e w7 ⟨rfl, B7⟩
            have H7 := Lib.hid (H6.out.go B7)
            clear B5 B6 B7
            have HX := Lib.hid (heap_alloc_last w7 (.cells zeroC PT))
            go_wp2_with (refine wpList_store_row rfl PT _ _ rfl w7.heap.size (partC ⟨1, 0, [], [], [], false, false, T, ND, OD, []⟩ (.slice none 0 0)) rfl rfl PT zeroC HX.out sizeP rfl (oneP _ _ _ _) ?_)
            refine (HT3.out _).mono ?_
            rintro e w8 ⟨rfl, B8⟩
            have hs7 := H7.out.size
            have HY := Lib.hid ((B8.block w7.heap.size (by simp)).trans (setRow_heap (w7.alloc (.cells zeroC PT)) w7.heap.size _ (partC ⟨1, 0, [], [], [], false, false, T, ND, OD, []⟩ (.slice none 0 0)) _ _ HX.out))
            have H8 := Lib.hid ((((H7.out.alloc (.cells zeroC PT)).setRow hs7 (partC ⟨1, 0, [], [], [], false, false, T, ND, OD, []⟩ (.slice none 0 0)))).go B8)
            clear B8
            go_wp2_with (first
              | (refine wpList_load_row rfl PT _ rfl w7.heap.size rfl PT (partC ⟨1, 0, [], [], [], false, false, T, ND, OD, []⟩ (.slice none 0 0)) (0, 0) _ HY.out undP rfl sizeP ?_)
              | (refine wpList_store_row rfl PT _ _ rfl (w.heap.size + 1) (partC ⟨1, 0, [], [], [], false, false, T, ND, OD, []⟩ (.slice none 0 0)) rfl rfl PT zeroC H8.out.out sizeP rfl (oneP _ _ _ _) ?_))
            (try simp only [Exit.inBlock, Exit.then])
            refine bodyPost_ret (results_two Tryd.results77 _ _ (w.heap.size + 1) PT (partC ⟨1, 0, [], [], [], false, false, T, ND, OD, []⟩ (.slice none 0 0)) (0, 0) _ (.bool true) rfl rfl (setRow_heap _ _ _ _ _ _ H8.out.out) undP rfl sizeP) rfl ?_
            rw [HN.out]
            exact ⟨⟨none, 0, rfl, World.ownsRow_nil _ _ _ _⟩, below_setRow H8.out.below (Nat.le_succ _) _⟩
          · have HN : Hid (Mp.ruleA n t = some ⟨1, 0, [], [], [], false, false, T, ND, OD, [⟨n, RC, true⟩]⟩) := Lib.hid (HR4.trans (by unfold Mp.recA; rw [if_neg hr]; rfl))
            have hE1 := empty_no hr
            have hF1 := isEmpty_no hr
            clear HR4 hr
            go_enter Tryd.func77, Tryd.ntmps77
            go_wp2_with fail
            refine (HC.out _).mono ?_
            rintro e w1 ⟨rfl, B1⟩
            have H1 := Lib.hid (H0.out.go B1)
            go_wp2_with fail
            refine (HT.out _).mono ?_
            rintro e w2 ⟨rfl, B2⟩
            have H2 := Lib.hid (H1.out.go B2)
            clear B1 B2
            go_wp2_with fail
            refine (HP.out _).mono ?_
            rintro e w3 ⟨rfl, rfl⟩
            go_wp2_with fail
            refine (HA.out _).mono ?_
            rintro e w3 ⟨rfl, B3⟩
            have H3 := Lib.hid (H2.out.go B3)
            go_wp2_with fail
            refine (HH.out _).mono ?_
            rintro e w4 ⟨rfl, B4⟩
            have H4 := Lib.hid (H3.out.go B4)
            clear B3 B4
            go_wp2_with fail
            refine (HA2.out _).mono ?_
            rintro e w5 ⟨rfl, B5⟩
            have H5 := Lib.hid (H4.out.go B5)
            go_wp2_with fail
            refine (HT1.out _).mono ?_
            rintro e w6 ⟨rfl, B6⟩
            have H6 := Lib.hid (H5.out.go B6)
            go_wp2_with fail
            refine (HT2.out _).mono ?_
            rintro e w7 ⟨rfl, B7⟩
            have H7 := Lib.hid (H6.out.go B7)
            clear B5 B6 B7
            have HX := Lib.hid (heap_alloc_last w7 (.cells zeroC PT))
            go_wp2_with (refine wpList_store_row rfl PT _ _ rfl w7.heap.size (partC ⟨1, 0, [], [], [], false, false, T, ND, OD, []⟩ (.slice none 0 0)) rfl rfl PT zeroC HX.out sizeP rfl (oneP _ _ _ _) ?_)
            refine (HT3.out _).mono ?_
            rintro e w8 ⟨rfl, B8⟩
            have hs7 := H7.out.size
            have HY := Lib.hid ((B8.block w7.heap.size (by simp)).trans (setRow_heap (w7.alloc (.cells zeroC PT)) w7.heap.size _ (partC ⟨1, 0, [], [], [], false, false, T, ND, OD, []⟩ (.slice none 0 0)) _ _ HX.out))
            have H8 := Lib.hid ((((H7.out.alloc (.cells zeroC PT)).setRow hs7 (partC ⟨1, 0, [], [], [], false, false, T, ND, OD, []⟩ (.slice none 0 0)))).go B8)
            have hs8 : w7.heap.size + 1 ≤ w8.heap.size := (Array.getElem?_eq_some_iff.1 HY.out).1
            clear B8
            have c8 := H8.out.cells.1
            have HY9 := Lib.hid ((((Below.refl w8.heap.size w8).alloc (Nat.le_refl _) (.cells #[.int .i64 (n : Int), .string (str RC), .bool true] LT)).block w7.heap.size (by omega)).trans HY.out)
            have d10 : (w8.alloc (.cells #[.int .i64 (n : Int), .string (str RC), .bool true] LT)).cell? ⟨w7.heap.size, 10, none⟩ = some (.slice none 0 0) := cell_at HY9.out rfl
            have e10 : (w8.alloc (.cells #[.int .i64 (n : Int), .string (str RC), .bool true] LT)).frozen? ⟨w7.heap.size, 10, none⟩ = false := frozen_at HY9.out _
            have HYA := Lib.hid (heap_set3 (i := 10) HY9.out (.slice (some ⟨w8.heap.size, 0, none⟩) 1 1))
            have HZ := Lib.hid ((H8.out.alloc (.cells #[.int .i64 (n : Int), .string (str RC), .bool true] LT)).setCell (g := w7.heap.size) (by omega) 10 (.slice (some ⟨w8.heap.size, 0, none⟩) 1 1))
            go_wp2_with (first
              | (refine wpList_load_row rfl PT _ rfl w7.heap.size rfl PT (partC ⟨1, 0, [], [], [], false, false, T, ND, OD, [⟨n, RC, true⟩]⟩ (.slice (some ⟨w8.heap.size, 0, none⟩) 1 1)) (0, 0) _ HYA.out undP rfl sizeP ?_)
              | (refine wpList_store_row rfl PT _ _ rfl (w.heap.size + 1) (partC ⟨1, 0, [], [], [], false, false, T, ND, OD, [⟨n, RC, true⟩]⟩ (.slice (some ⟨w8.heap.size, 0, none⟩) 1 1)) rfl rfl PT zeroC HZ.out.out sizeP rfl (oneP _ _ _ _) ?_))
            (try simp only [Exit.inBlock, Exit.then])
            refine bodyPost_ret (results_two Tryd.results77 _ _ (w.heap.size + 1) PT (partC ⟨1, 0, [], [], [], false, false, T, ND, OD, [⟨n, RC, true⟩]⟩ (.slice (some ⟨w8.heap.size, 0, none⟩) 1 1)) (0, 0) _ (.bool true) rfl rfl (setRow_heap _ _ _ _ _ _ HZ.out.out) undP rfl sizeP) rfl ?_
            rw [HN.out]
            have own := World.ownsRow_lit (e := LT) (base := w.heap.size) (size := 3) w8 #[.int .i64 (n : Int), .string (str RC), .bool true] 1 (by omega) (by decide) rfl
            exact ⟨⟨_, _, rfl, own_setRow (own_set own (by omega)) (by omega)⟩, below_setRow HZ.out.below (Nat.le_succ _) _⟩
end Go.Proofs.YtjjlafbdhpojpaaDoor.Mw
