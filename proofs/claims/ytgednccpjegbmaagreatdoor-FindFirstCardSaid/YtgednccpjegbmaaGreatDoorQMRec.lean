/-
  A part in its box: stored and loaded whole; makefile.names and makefile.assignment.
  makefile.rule.
  makefile.special.
  makefile.part.
  A list of parts in memory; makefile.add at a line that is no recipe's.
  makefile.add at a recipe's line.
-/
import Derived.Laws.Rows
import Derived.Test.YtgednccpjegbmaaGreatDoorQMMagic
import Derived.Laws.OwnMore
import Derived.Maps.AppendAt
namespace Go.Proofs.YtgednccpjegbmaaGreatDoor.Mw
open Go.RowKit Go.Proofs.YtgednccpjegbmaaGreatDoor Go.Proofs.YtgednccpjegbmaaGreatDoor.Ww Go.Proofs.YtgednccpjegbmaaGreatDoor.Iw
set_option maxRecDepth 100000

abbrev PT : TypeId := 130
/-- A part's cells, with the slice of its recipe. -/
def partC (p : Mp.P) (v : Value) : Array Value := #[.int .i64 (p.kind : Int), .int .i64 (p.line : Int), .string (str p.name), .string (str p.op), .string (str p.value), .bool p.over, .bool p.out, .string (str p.targets), .string (str p.needs), .string (str p.order), v]
def partV (p : Mp.P) (v : Value) : Value := .agg (partC p v)
def zeroC : Array Value := #[.int .i64 0, .int .i64 0, .string ⟨#[]⟩, .string ⟨#[]⟩, .string ⟨#[]⟩, .bool false, .bool false, .string ⟨#[]⟩, .string ⟨#[]⟩, .string ⟨#[]⟩, .slice none 0 0]
def zeroV : Value := .agg zeroC
theorem sizeP : (Tryz.prog.info? PT).map (·.size) = some 11 := by kernel_rfl
theorem undP : Tryz.prog.underlying PT = some (.struct (Tryz.prog.fieldsOf PT)) := by kernel_rfl
theorem oneZ : zeroC.all (·.oneCell') = true := by simp [zeroC, Value.oneCell']
theorem oneP (p : Mp.P) (a : Option Addr) (n c : Nat) : (partC p (.slice a n c)).all (·.oneCell') = true := by simp [partC, Value.oneCell']
/-- The answer's box. -/
theorem results_two {P : Program} {fn : Func} {p q : Tmp} {ty : TypeId} (h : fn.results = #[.cell p ty, .tmp q]) (tmps : Array Value) (w : World) (g : Nat) (t : TypeId) (cs : Array Value) (fr : Nat × Nat) (d : TypeDesc) (r : Value)
    (hp : tmps.getD p undef = .pointer (some ⟨g, 0, none⟩)) (hq : tmps.getD q undef = r) (hg : w.heap[g]? = some (.cells cs t fr))
    (hu : P.underlying ty = some d) (hd : (match d with | .struct _ | .array _ _ => true | _ => false) = true) (hi : (P.info? ty).map (·.size) = some cs.size) :
    (results fn tmps).run P w = .ok (.tuple #[.agg cs, r]) w := by
  have hp' : tmps[p]?.getD undef = .pointer (some ⟨g, 0, none⟩) := by simpa using hp
  have hq' : tmps[q]?.getD undef = r := by simpa using hq
  simp [results, h, hp', hq', asAddr, run_loadVar_row w g t ty cs fr d hg hu hd hi, Result.andThen]
/-- What names and assignment return. -/
def AsPost (w : World) (o : Option Mp.P) (e : Ending) (w' : World) : Prop :=
  (match o with
    | none => e = .returned (.tuple #[zeroV, .bool false])
    | some p => p.recipe = [] ∧ e = .returned (.tuple #[partV p (.slice none 0 0), .bool true])) ∧ Below w.heap.size w w'

theorem TrimT (w : World) (s : Bs) (hs : s.length ≤ 100000) : Calls Tryz.prog 61 #[.string (str s)] w fun e w' => e = .returned (.string (str (Mp.trim s))) ∧ Below w.heap.size w w' :=
  Iw.Trim_any w (str s) (by rw [str_size]; omega)

set_option maxHeartbeats 1000000 in
theorem names_any (w : World) (k : Nat) (s : Bs) (hs : s.length ≤ 100000) :
    Calls Tryz.prog 183 #[.int .i64 (k : Int), .string (str s)] w (AsPost w (Mp.namesA k s)) := by
  cases h : Mp.has [58, 61] s with
  | true =>
    have HN : Hid (Mp.namesA k s = none) := Lib.hid (if_pos h)
    have HC := Lib.hid fun W => has_any W s [58, 61] hs (by decide) (by decide) true (Lib.hid h)
    clear h
    go_enter Tryz.func183, Tryz.ntmps183
    go_wp2_with fail
    refine (HC.out _).mono ?_
    rintro e w1 ⟨rfl, B1⟩
    have HB := Lib.hid (((Below.refl w.heap.size w).alloc (Nat.le_refl _) (.cells zeroC PT)).trans (B1.mono (by simp)))
    have H1 := Lib.hid ((B1.block w.heap.size (by simp)).trans (heap_alloc_last w (.cells zeroC PT)))
    clear B1
    go_wp2_with (refine wpList_store_row rfl PT _ _ rfl w.heap.size zeroC rfl rfl PT zeroC H1.out sizeP rfl oneZ ?_)
    (try simp only [Exit.inBlock, Exit.then])
    refine bodyPost_ret (results_two Tryz.results183 _ _ w.heap.size PT zeroC (0, 0) _ (.bool false) rfl rfl (setRow_heap _ _ _ _ _ _ H1.out) undP rfl sizeP) rfl ?_
    rw [HN.out]
    exact ⟨rfl, below_setRow HB.out (Nat.le_refl _) _⟩
  | false =>
    have HN : Hid (Mp.namesA k s = some { Mp.zero with kind := k, needs := Mp.trim s }) := Lib.hid (if_neg (by rw [h]; exact Bool.false_ne_true))
    have HC := Lib.hid fun W => has_any W s [58, 61] hs (by decide) (by decide) false (Lib.hid h)
    have HT := Lib.hid fun W => TrimT W s hs
    clear h
    go_enter Tryz.func183, Tryz.ntmps183
    go_wp2_with fail
    refine (HC.out _).mono ?_
    rintro e w1 ⟨rfl, B1⟩
    go_wp2_with fail
    refine (HT.out _).mono ?_
    rintro e w2 ⟨rfl, B2⟩
    have hs1 := B1.size
    rw [World.size_alloc] at hs1
    have HB := Lib.hid ((((Below.refl w.heap.size w).alloc (Nat.le_refl _) (.cells zeroC PT)).trans (B1.mono (by simp))).trans (B2.mono (by omega)))
    have H1 := Lib.hid ((B2.block w.heap.size (by omega)).trans ((B1.block w.heap.size (by simp)).trans (heap_alloc_last w (.cells zeroC PT))))
    clear B1 B2
    go_wp2_with (refine wpList_store_row rfl PT _ _ rfl w.heap.size (partC { Mp.zero with kind := k, needs := Mp.trim s } (.slice none 0 0)) rfl rfl PT zeroC H1.out sizeP rfl (oneP _ _ _ _) ?_)
    (try simp only [Exit.inBlock, Exit.then])
    refine bodyPost_ret (results_two Tryz.results183 _ _ w.heap.size PT (partC { Mp.zero with kind := k, needs := Mp.trim s } (.slice none 0 0)) (0, 0) _ (.bool true) rfl rfl (setRow_heap _ _ _ _ _ _ H1.out) undP rfl sizeP) rfl ?_
    rw [HN.out]
    exact ⟨⟨rfl, rfl⟩, below_setRow HB.out (Nat.le_refl _) _⟩

theorem odd_any (w : World) (n : Bs) (hn : n.length ≤ 100000) (q : Bool) (hq : Hid (Mp.oddA n = q)) :
    Calls Tryz.prog 182 #[.string (str n), .string ⟨#[32, 9, 10, 58, 35, 61]⟩] w fun e w' => e = .returned (.bool q) ∧ Below w.heap.size w w' :=
  (contains_any w (str n) (by rw [str_size]; omega)).mono fun e w' ⟨he, hw⟩ => ⟨by rw [he, by8_str, hq.out], hw⟩
theorem empty_yes {l : Bs} (h : l = []) : (str l).toList = [] := by rw [Lib.toList_data]; exact h
theorem empty_no {l : Bs} (h : ¬ l = []) : ¬ (str l).toList = [] := by rw [Lib.toList_data]; exact h
theorem isEmpty_no {l : Bs} (h : ¬ l = []) : (str l).toList.isEmpty = false := by
  cases h' : (str l).toList with
  | nil => exact absurd h' (empty_no h)
  | cons => rfl

set_option maxHeartbeats 1000000 in
theorem assignment_any (w : World) (s : Bs) (hs : s.length ≤ 100000) :
    Calls Tryz.prog 125 #[.string (str s)] w (AsPost w (Mp.assignA s)) := by
  have HO := Lib.hid fun W => operator_any W s hs
  obtain ⟨hl1, hl2, hl3⟩ := Mp.oper_len s
  unfold Mp.assignA
  generalize Mp.operA s = o at *
  have htl := Mp.trim_len o.1
  have HT1 := Lib.hid fun W => TrimT W o.1 (by omega)
  have HT2 := Lib.hid fun W => TrimT W o.2.2 (by omega)
  have HQ := Lib.hid fun W q hq => odd_any W (Mp.trim o.1) (by omega) q hq
  clear htl
  by_cases h0 : o.2.1 = []
  · have HN : Hid (Mp.assignO o = none) := Lib.hid (if_pos h0)
    have hE := empty_yes h0
    clear h0
    go_enter Tryz.func125, Tryz.ntmps125
    go_wp2_with fail
    refine (HO.out _).mono ?_
    rintro e w1 ⟨rfl, B1⟩
    go_wp2_with fail
    refine (HT1.out _).mono ?_
    rintro e w2 ⟨rfl, B2⟩
    have hs1 := B1.size
    rw [World.size_alloc] at hs1
    have HB := Lib.hid ((((Below.refl w.heap.size w).alloc (Nat.le_refl _) (.cells zeroC PT)).trans (B1.mono (by simp))).trans (B2.mono (by omega)))
    have H1 := Lib.hid ((B2.block w.heap.size (by omega)).trans ((B1.block w.heap.size (by simp)).trans (heap_alloc_last w (.cells zeroC PT))))
    clear B1 B2
    go_wp2_with (refine wpList_store_row rfl PT _ _ rfl w.heap.size zeroC rfl rfl PT zeroC H1.out sizeP rfl oneZ ?_)
    (try simp only [Exit.inBlock, Exit.then])
    refine bodyPost_ret (results_two Tryz.results125 _ _ w.heap.size PT zeroC (0, 0) _ (.bool false) rfl rfl (setRow_heap _ _ _ _ _ _ H1.out) undP rfl sizeP) rfl ?_
    rw [HN.out]
    exact ⟨rfl, below_setRow HB.out (Nat.le_refl _) _⟩
  · have hE := empty_no h0
    have hF := isEmpty_no h0
    by_cases h1 : Mp.trim o.1 = []
    · have HN : Hid (Mp.assignO o = none) := Lib.hid (by unfold Mp.assignO; rw [if_neg h0, if_pos h1])
      have hE1 := empty_yes h1
      clear h0 h1
      go_enter Tryz.func125, Tryz.ntmps125
      go_wp2_with fail
      refine (HO.out _).mono ?_
      rintro e w1 ⟨rfl, B1⟩
      go_wp2_with fail
      refine (HT1.out _).mono ?_
      rintro e w2 ⟨rfl, B2⟩
      have hs1 := B1.size
      rw [World.size_alloc] at hs1
      have HB := Lib.hid ((((Below.refl w.heap.size w).alloc (Nat.le_refl _) (.cells zeroC PT)).trans (B1.mono (by simp))).trans (B2.mono (by omega)))
      have H1 := Lib.hid ((B2.block w.heap.size (by omega)).trans ((B1.block w.heap.size (by simp)).trans (heap_alloc_last w (.cells zeroC PT))))
      clear B1 B2
      go_wp2_with (refine wpList_store_row rfl PT _ _ rfl w.heap.size zeroC rfl rfl PT zeroC H1.out sizeP rfl oneZ ?_)
      (try simp only [Exit.inBlock, Exit.then])
      refine bodyPost_ret (results_two Tryz.results125 _ _ w.heap.size PT zeroC (0, 0) _ (.bool false) rfl rfl (setRow_heap _ _ _ _ _ _ H1.out) undP rfl sizeP) rfl ?_
      rw [HN.out]
      exact ⟨rfl, below_setRow HB.out (Nat.le_refl _) _⟩
    · have hE1 := empty_no h1
      have hF1 := isEmpty_no h1
      cases hq : Mp.oddA (Mp.trim o.1) with
      | true =>
        have HN : Hid (Mp.assignO o = none) := Lib.hid (by unfold Mp.assignO; rw [if_neg h0, if_neg h1, if_pos hq])
        have HQ1 := Lib.hid fun W => HQ.out W true (Lib.hid hq)
        clear h0 h1 hq HQ
        go_enter Tryz.func125, Tryz.ntmps125
        go_wp2_with fail
        refine (HO.out _).mono ?_
        rintro e w1 ⟨rfl, B1⟩
        go_wp2_with fail
        refine (HT1.out _).mono ?_
        rintro e w2 ⟨rfl, B2⟩
        go_wp2_with fail
        refine (HQ1.out _).mono ?_
        rintro e w3 ⟨rfl, B3⟩
        have hs1 := B1.size
        rw [World.size_alloc] at hs1
        have hs2 := B2.size
        have HB := Lib.hid (((((Below.refl w.heap.size w).alloc (Nat.le_refl _) (.cells zeroC PT)).trans (B1.mono (by simp))).trans (B2.mono (by omega))).trans (B3.mono (by omega)))
        have H1 := Lib.hid ((B3.block w.heap.size (by omega)).trans ((B2.block w.heap.size (by omega)).trans ((B1.block w.heap.size (by simp)).trans (heap_alloc_last w (.cells zeroC PT)))))
        clear B1 B2 B3
        go_wp2_with (refine wpList_store_row rfl PT _ _ rfl w.heap.size zeroC rfl rfl PT zeroC H1.out sizeP rfl oneZ ?_)
        (try simp only [Exit.inBlock, Exit.then])
        refine bodyPost_ret (results_two Tryz.results125 _ _ w.heap.size PT zeroC (0, 0) _ (.bool false) rfl rfl (setRow_heap _ _ _ _ _ _ H1.out) undP rfl sizeP) rfl ?_
        rw [HN.out]
        exact ⟨rfl, below_setRow HB.out (Nat.le_refl _) _⟩
      | false =>
        have HN : Hid (Mp.assignO o = some { Mp.zero with name := Mp.trim o.1, op := o.2.1, value := Mp.trim o.2.2 }) := Lib.hid (by unfold Mp.assignO; rw [if_neg h0, if_neg h1, if_neg (by rw [hq]; exact Bool.false_ne_true)])
        have HQ1 := Lib.hid fun W => HQ.out W false (Lib.hid hq)
        clear h0 h1 hq HQ
        go_enter Tryz.func125, Tryz.ntmps125
        go_wp2_with fail
        refine (HO.out _).mono ?_
        rintro e w1 ⟨rfl, B1⟩
        go_wp2_with fail
        refine (HT1.out _).mono ?_
        rintro e w2 ⟨rfl, B2⟩
        go_wp2_with fail
        refine (HQ1.out _).mono ?_
        rintro e w3 ⟨rfl, B3⟩
        go_wp2_with fail
        refine (HT2.out _).mono ?_
        rintro e w4 ⟨rfl, B4⟩
        have hs1 := B1.size
        rw [World.size_alloc] at hs1
        have hs2 := B2.size
        have hs3 := B3.size
        have HB := Lib.hid ((((((Below.refl w.heap.size w).alloc (Nat.le_refl _) (.cells zeroC PT)).trans (B1.mono (by simp))).trans (B2.mono (by omega))).trans (B3.mono (by omega))).trans (B4.mono (by omega)))
        have H1 := Lib.hid ((B4.block w.heap.size (by omega)).trans ((B3.block w.heap.size (by omega)).trans ((B2.block w.heap.size (by omega)).trans ((B1.block w.heap.size (by simp)).trans (heap_alloc_last w (.cells zeroC PT))))))
        clear B1 B2 B3 B4
        go_wp2_with (refine wpList_store_row rfl PT _ _ rfl w.heap.size (partC { Mp.zero with name := Mp.trim o.1, op := o.2.1, value := Mp.trim o.2.2 } (.slice none 0 0)) rfl rfl PT zeroC H1.out sizeP rfl (oneP _ _ _ _) ?_)
        (try simp only [Exit.inBlock, Exit.then])
        refine bodyPost_ret (results_two Tryz.results125 _ _ w.heap.size PT (partC { Mp.zero with name := Mp.trim o.1, op := o.2.1, value := Mp.trim o.2.2 } (.slice none 0 0)) (0, 0) _ (.bool true) rfl rfl (setRow_heap _ _ _ _ _ _ H1.out) undP rfl sizeP) rfl ?_
        rw [HN.out]
        exact ⟨⟨rfl, rfl⟩, below_setRow HB.out (Nat.le_refl _) _⟩
end Go.Proofs.YtgednccpjegbmaaGreatDoor.Mw
namespace Go.Proofs.YtgednccpjegbmaaGreatDoor.Mw
open Go.RowKit Go.Proofs.YtgednccpjegbmaaGreatDoor Go.Proofs.YtgednccpjegbmaaGreatDoor.Ww Go.Proofs.YtgednccpjegbmaaGreatDoor.Iw
set_option maxRecDepth 100000

/-- What rule, special and part return. -/
def PartPost (w : World) (o : Option Mp.P) (e : Ending) (w' : World) : Prop :=
  (match o with
    | none => e = .returned (.tuple #[zeroV, .bool false])
    | some p => ∃ a c, e = .returned (.tuple #[partV p (.slice a p.recipe.length c), .bool true]) ∧ w'.ownsRow w.heap.size LT 3 (.slice a p.recipe.length c) p.recipe.length (linesC p.recipe)) ∧ Below w.heap.size w w'
theorem CutPA (s stops : Bs) (hs : s.length ≤ 100000) (hst : stops.length ≤ 100000) :
    ∃ x : Int, ∀ w, Calls Tryz.prog 158 #[.string (str s), .string ⟨stops.toArray⟩] w fun e w' => e = .returned (.tuple #[.string (str (Mp.pairA stops s).1), .int .u8 x, .string (str (Mp.pairA stops s).2)]) ∧ Below w.heap.size w w' := by
  unfold Mp.pairA
  cases h : Mp.cut stops s with
  | none => exact ⟨0, fun w => CutN w s stops hs hst h⟩
  | some k => exact ⟨_, fun w => CutS w s stops hs hst k h⟩
theorem lineBox (w : World) (n : Nat) (t : Bs) (q : Bool) : (w.alloc (.cells #[.int .i64 (n : Int), .string (str t), .bool q] LT)).heap[w.heap.size]? = some (.cells #[.int .i64 (n : Int), .string (str t), .bool q] LT (0, 0)) := World.alloc_heap_new _ _

/-- The two boxes that a function of a line begins with: the line's own, and the answer's. -/
structure Two (w : World) (n : Nat) (t : Bs) (q : Bool) (W : World) : Prop where
  line : W.heap[w.heap.size]? = some (.cells #[.int .i64 (n : Int), .string (str t), .bool q] LT (0, 0))
  out : W.heap[w.heap.size + 1]? = some (.cells zeroC PT (0, 0))
  below : Below w.heap.size w W
theorem Two.size {w : World} {n : Nat} {t : Bs} {q : Bool} {W : World} (h : Two w n t q W) : w.heap.size + 2 ≤ W.heap.size := (Array.getElem?_eq_some_iff.1 h.out).1
theorem Two.new (w : World) (n : Nat) (t : Bs) (q : Bool) : Two w n t q ((w.alloc (.cells #[.int .i64 (n : Int), .string (str t), .bool q] LT)).alloc (.cells zeroC PT)) :=
  ⟨heap_alloc2_old _ _ _, heap_alloc2_new _ _ _, ((Below.refl _ _).alloc (Nat.le_refl _) _).alloc (by simp) _⟩
theorem Two.go {w : World} {n : Nat} {t : Bs} {q : Bool} {W W' : World} (h : Two w n t q W) (hB : Below W.heap.size W W') : Two w n t q W' := by
  have hs := h.size
  exact ⟨(hB.block _ (by omega)).trans h.line, (hB.block _ (by omega)).trans h.out, h.below.trans (hB.mono (by omega))⟩
theorem Two.alloc {w : World} {n : Nat} {t : Bs} {q : Bool} {W : World} (h : Two w n t q W) (o : Obj) : Two w n t q (W.alloc o) := h.go ((Below.refl _ _).alloc (Nat.le_refl _) _)
theorem Two.setRow {w : World} {n : Nat} {t : Bs} {q : Bool} {W : World} (h : Two w n t q W) {g : Nat} (hg : w.heap.size + 2 ≤ g) (cs : Array Value) : Two w n t q (W.setRow g cs) :=
  ⟨(setRow_other _ _ _ _ (by omega)).trans h.line, (setRow_other _ _ _ _ (by omega)).trans h.out, below_setRow h.below (by omega) _⟩
theorem Two.setCell {w : World} {n : Nat} {t : Bs} {q : Bool} {W : World} (h : Two w n t q W) {g : Nat} (hg : w.heap.size + 2 ≤ g) (i : Nat) (v : Value) : Two w n t q (W.setCell ⟨g, i, none⟩ v) :=
  ⟨(Below.heap_setCell _ _ _ _ (by show _ ≠ g; omega)).trans h.line, (Below.heap_setCell _ _ _ _ (by show _ ≠ g; omega)).trans h.out, h.below.setCell (by show _ ≤ g; omega) _⟩
/-- A row that a store doesn't touch. -/
theorem own_kept {w w' : World} {base : Nat} {e : TypeId} {z : Nat} {v : Value} {n : Nat} {xs : List Value} (h : w.ownsRow base e z v n xs) (hk : ∀ g, v.ownBlock = some g → w'.heap[g]? = w.heap[g]?) : w'.ownsRow base e z v n xs := by
  refine ⟨h.1, ?_⟩
  rcases h.2 with h | ⟨g, cap, cur, rfl, h2, h3, h4⟩
  · exact .inl h
  · exact .inr ⟨g, cap, cur, rfl, h2, (hk g rfl).trans h3, h4⟩
theorem own_set {w : World} {base : Nat} {e : TypeId} {z : Nat} {g c : Nat} {n : Nat} {xs : List Value} (h : w.ownsRow base e z (.slice (some ⟨g, 0, none⟩) n c) n xs) {b i : Nat} (hb : b ≠ g) {u : Value} : (w.setCell ⟨b, i, none⟩ u).ownsRow base e z (.slice (some ⟨g, 0, none⟩) n c) n xs :=
  own_kept h fun k hk => by cases hk; exact Below.heap_setCell _ _ _ _ (Ne.symm hb)
theorem own_setRow {w : World} {base : Nat} {e : TypeId} {z : Nat} {g c : Nat} {n : Nat} {xs : List Value} (h : w.ownsRow base e z (.slice (some ⟨g, 0, none⟩) n c) n xs) {b : Nat} (hb : b ≠ g) {cs : Array Value} : (w.setRow b cs).ownsRow base e z (.slice (some ⟨g, 0, none⟩) n c) n xs :=
  own_kept h fun k hk => by cases hk; exact setRow_other _ _ _ _ (Ne.symm hb)
theorem Two.cells {w : World} {n : Nat} {t : Bs} {q : Bool} {W : World} (h : Two w n t q W) : W.cell? ⟨w.heap.size, 0, none⟩ = some (.int .i64 (n : Int)) ∧ W.cell? ⟨w.heap.size, 1, none⟩ = some (.string (str t)) ∧ W.cell? ⟨w.heap.size, 2, none⟩ = some (.bool q) :=
  ⟨cell_at h.line rfl, cell_at h.line rfl, cell_at h.line rfl⟩
set_option maxHeartbeats 2000000 in
theorem rule_any (w : World) (n : Nat) (t : Bs) (q : Bool) (hs : t.length ≤ 100000) :
    Calls Tryz.prog 184 #[.agg #[.int .i64 (n : Int), .string (str t), .bool q]] w (PartPost w (Mp.ruleA n t)) := by
  have H0 := Lib.hid (Two.new w n t q)
  cases h : Mp.cut [58] t with
  | none =>
    have HN : Hid (Mp.ruleA n t = none) := Lib.hid (by unfold Mp.ruleA; rw [h])
    have HC := Lib.hid fun W => CutN W t [58] hs (by decide) h
    have HT := Lib.hid fun W => TrimT W t hs
    clear h
    have c1 := H0.out.cells.2.1
    go_enter Tryz.func184, Tryz.ntmps184
    go_wp2_with fail
    refine (HC.out _).mono ?_
    rintro e w1 ⟨rfl, B1⟩
    have H1 := Lib.hid (H0.out.go B1)
    go_wp2_with fail
    refine (HT.out _).mono ?_
    rintro e w2 ⟨rfl, B2⟩
    have H2 := Lib.hid (H1.out.go B2)
    clear B1 B2
    go_wp2_with (refine wpList_store_row rfl PT _ _ rfl (w.heap.size + 1) zeroC rfl rfl PT zeroC H2.out.out sizeP rfl oneZ ?_)
    (try simp only [Exit.inBlock, Exit.then])
    refine bodyPost_ret (results_two Tryz.results184 _ _ (w.heap.size + 1) PT zeroC (0, 0) _ (.bool false) rfl rfl (setRow_heap _ _ _ _ _ _ H2.out.out) undP rfl sizeP) rfl ?_
    rw [HN.out]
    exact ⟨rfl, below_setRow H2.out.below (Nat.le_succ _) _⟩
  | some k =>
    have HC := Lib.hid fun W => CutS W t [58] hs (by decide) k h
    have hk := Mp.cut_lt h
    have hx : t.getD k 0 = 58 := by simpa using Mp.cut_hits h
    have hl1 : (t.take k).length ≤ 100000 := by rw [List.length_take]; omega
    have hl2 : (t.drop (k + 1)).length ≤ 100000 := by rw [List.length_drop]; omega
    have HT := Lib.hid fun W => TrimT W (t.take k) hl1
    have HR : Mp.ruleA n t = if Mp.trim (t.take k) = [] then none else if (t.drop (k + 1)).head? = some 58 then none else Mp.ruleAt n (Mp.trim (t.take k)) (t.drop (k + 1)) := by
      conv => lhs; unfold Mp.ruleA
      rw [h]
    rw [hx] at HC
    clear h hk hx hl1
    generalize t.take k = tk at *
    generalize t.drop (k + 1) = b at *
    generalize hT : Mp.trim tk = T at *
    clear hT
    have c1 := H0.out.cells.2.1
    have c0 := H0.out.cells.1
    by_cases h0 : T = []
    · have HN : Hid (Mp.ruleA n t = none) := Lib.hid (HR.trans (if_pos h0))
      have hE := empty_yes h0
      clear HR h0
      go_enter Tryz.func184, Tryz.ntmps184
      go_wp2_with fail
      refine (HC.out _).mono ?_
      rintro e w1 ⟨rfl, B1⟩
      have H1 := Lib.hid (H0.out.go B1)
      go_wp2_with fail
      refine (HT.out _).mono ?_
      rintro e w2 ⟨rfl, B2⟩
      have H2 := Lib.hid (H1.out.go B2)
      clear B1 B2
      go_wp2_with (refine wpList_store_row rfl PT _ _ rfl (w.heap.size + 1) zeroC rfl rfl PT zeroC H2.out.out sizeP rfl oneZ ?_)
      (try simp only [Exit.inBlock, Exit.then])
      refine bodyPost_ret (results_two Tryz.results184 _ _ (w.heap.size + 1) PT zeroC (0, 0) _ (.bool false) rfl rfl (setRow_heap _ _ _ _ _ _ H2.out.out) undP rfl sizeP) rfl ?_
      rw [HN.out]
      exact ⟨rfl, below_setRow H2.out.below (Nat.le_succ _) _⟩
    · have hE := empty_no h0
      have hF := isEmpty_no h0
      by_cases h1 : b.head? = some 58
      · have HN : Hid (Mp.ruleA n t = none) := Lib.hid (HR.trans (by rw [if_neg h0, if_pos h1]))
        have HP := Lib.hid fun W => Pre_c W b 58 true (Lib.hid (by rw [h1]; rfl))
        clear HR h0 h1
        go_enter Tryz.func184, Tryz.ntmps184
        go_wp2_with fail
        refine (HC.out _).mono ?_
        rintro e w1 ⟨rfl, B1⟩
        have H1 := Lib.hid (H0.out.go B1)
        go_wp2_with fail
        refine (HT.out _).mono ?_
        rintro e w2 ⟨rfl, B2⟩
        have H2 := Lib.hid (H1.out.go B2)
        clear B1 B2
        go_wp2_with fail
        refine (HP.out _).mono ?_
        rintro e w3 ⟨rfl, rfl⟩
        go_wp2_with (refine wpList_store_row rfl PT _ _ rfl (w.heap.size + 1) zeroC rfl rfl PT zeroC H2.out.out sizeP rfl oneZ ?_)
        (try simp only [Exit.inBlock, Exit.then])
        refine bodyPost_ret (results_two Tryz.results184 _ _ (w.heap.size + 1) PT zeroC (0, 0) _ (.bool false) rfl rfl (setRow_heap _ _ _ _ _ _ H2.out.out) undP rfl sizeP) rfl ?_
        rw [HN.out]
        exact ⟨rfl, below_setRow H2.out.below (Nat.le_succ _) _⟩
      · have HP := Lib.hid fun W => Pre_c W b 58 false (Lib.hid (beq_eq_false_iff_ne.2 h1))
        have HR2 : Mp.ruleA n t = Mp.ruleAt n T b := HR.trans (by rw [if_neg h0, if_neg h1])
        clear HR h0 h1
        obtain ⟨x1, hA⟩ : ∃ x1 : Int, ∀ W, Calls Tryz.prog 158 #[.string (str b), .string ⟨#[59]⟩] W fun e w' => e = .returned (.tuple #[.string (str (Mp.pairA [59] b).1), .int .u8 x1, .string (str (Mp.pairA [59] b).2)]) ∧ Below W.heap.size W w' := CutPA b [59] hl2 (by decide)
        obtain ⟨ll1, ll2⟩ := Mp.pair_len [59] b
        have HA := Lib.hid hA
        clear hA
        have HR3 : Mp.ruleAt n T b = if Mp.has [61] (Mp.pairA [59] b).1 = true then none else some { Mp.zero with kind := 1, targets := T, needs := Mp.trim (Mp.pairA [124] (Mp.pairA [59] b).1).1, order := Mp.trim (Mp.pairA [124] (Mp.pairA [59] b).1).2, recipe := Mp.recA n (Mp.trim (Mp.pairA [59] b).2) } := rfl
        rw [HR3] at HR2
        clear HR3
        generalize (Mp.pairA [59] b).1 = al at *
        generalize (Mp.pairA [59] b).2 = rc at *
        cases hh : Mp.has [61] al with
        | true =>
          have HN : Hid (Mp.ruleA n t = none) := Lib.hid (HR2.trans (by rw [if_pos hh]))
          have HH := Lib.hid fun W => has_any W al [61] (by omega) (by decide) (by decide) true (Lib.hid hh)
          clear HR2 hh
          go_enter Tryz.func184, Tryz.ntmps184
          go_wp2_with fail
          refine (HC.out _).mono ?_
          rintro e w1 ⟨rfl, B1⟩
          have H1 := Lib.hid (H0.out.go B1)
          go_wp2_with fail
          refine (HT.out _).mono ?_
          rintro e w2 ⟨rfl, B2⟩
          have H2 := Lib.hid (H1.out.go B2)
          clear B1 B2
          go_wp2_with fail
          refine (HP.out _).mono ?_
          rintro e w3 ⟨rfl, rfl⟩
          go_wp2_with fail
          refine (HA.out _).mono ?_
          rintro e w3 ⟨rfl, B3⟩
          have H3 := Lib.hid (H2.out.go B3)
          go_wp2_with fail
          refine (HH.out _).mono ?_
          rintro e w4 ⟨rfl, B4⟩
          have H4 := Lib.hid (H3.out.go B4)
          clear B3 B4
          go_wp2_with (refine wpList_store_row rfl PT _ _ rfl (w.heap.size + 1) zeroC rfl rfl PT zeroC H4.out.out sizeP rfl oneZ ?_)
          (try simp only [Exit.inBlock, Exit.then])
          refine bodyPost_ret (results_two Tryz.results184 _ _ (w.heap.size + 1) PT zeroC (0, 0) _ (.bool false) rfl rfl (setRow_heap _ _ _ _ _ _ H4.out.out) undP rfl sizeP) rfl ?_
          rw [HN.out]
          exact ⟨rfl, below_setRow H4.out.below (Nat.le_succ _) _⟩
        | false =>
          have HR4 := HR2.trans (by rw [if_neg (by rw [hh]; exact Bool.false_ne_true)])
          have HH := Lib.hid fun W => has_any W al [61] (by omega) (by decide) (by decide) false (Lib.hid hh)
          clear HR2 hh
          obtain ⟨x2, hA2⟩ : ∃ x2 : Int, ∀ W, Calls Tryz.prog 158 #[.string (str al), .string ⟨#[124]⟩] W fun e w' => e = .returned (.tuple #[.string (str (Mp.pairA [124] al).1), .int .u8 x2, .string (str (Mp.pairA [124] al).2)]) ∧ Below W.heap.size W w' := CutPA al [124] (by omega) (by decide)
          have HA2 := Lib.hid hA2
          obtain ⟨lm1, lm2⟩ := Mp.pair_len [124] al
          clear hA2
          generalize (Mp.pairA [124] al).1 = nd at *
          generalize (Mp.pairA [124] al).2 = od at *
          have HT1 := Lib.hid fun W => TrimT W nd (by omega)
          have HT2 := Lib.hid fun W => TrimT W od (by omega)
          have HT3 := Lib.hid fun W => TrimT W rc (by omega)
          have hlr := Mp.trim_len rc
          generalize Mp.trim nd = ND at *
          generalize Mp.trim od = OD at *
          generalize Mp.trim rc = RC at *
          by_cases hr : RC = []
          · have HN : Hid (Mp.ruleA n t = some ⟨1, 0, [], [], [], false, false, T, ND, OD, []⟩) := Lib.hid (HR4.trans (by unfold Mp.recA; rw [if_pos hr]; rfl))
            have hE1 := empty_yes hr
            clear HR4 hr
            go_enter Tryz.func184, Tryz.ntmps184
            go_wp2_with fail
            refine (HC.out _).mono ?_
            rintro e w1 ⟨rfl, B1⟩
            have H1 := Lib.hid (H0.out.go B1)
            go_wp2_with fail
            refine (HT.out _).mono ?_
            rintro e w2 ⟨rfl, B2⟩
            have H2 := Lib.hid (H1.out.go B2)
            clear B1 B2
            go_wp2_with fail
            refine (HP.out _).mono ?_
            rintro e w3 ⟨rfl, rfl⟩
            go_wp2_with fail
            refine (HA.out _).mono ?_
            rintro e w3 ⟨rfl, B3⟩
            have H3 := Lib.hid (H2.out.go B3)
            go_wp2_with fail
            refine (HH.out _).mono ?_
            rintro e w4 ⟨rfl, B4⟩
            have H4 := Lib.hid (H3.out.go B4)
            clear B3 B4
            go_wp2_with fail
            refine (HA2.out _).mono ?_
            rintro e w5 ⟨rfl, B5⟩
            have H5 := Lib.hid (H4.out.go B5)
            go_wp2_with fail
            refine (HT1.out _).mono ?_
            rintro e w6 ⟨rfl, B6⟩
            have H6 := Lib.hid (H5.out.go B6)
            go_wp2_with fail
            refine (HT2.out _).mono ?_
            rintro e w7 ⟨rfl, B7⟩
            have H7 := Lib.hid (H6.out.go B7)
            clear B5 B6 B7
            have HX := Lib.hid (heap_alloc_last w7 (.cells zeroC PT))
            go_wp2_with (refine wpList_store_row rfl PT _ _ rfl w7.heap.size (partC ⟨1, 0, [], [], [], false, false, T, ND, OD, []⟩ (.slice none 0 0)) rfl rfl PT zeroC HX.out sizeP rfl (oneP _ _ _ _) ?_)
            refine (HT3.out _).mono ?_
            rintro e w8 ⟨rfl, B8⟩
            have hs7 := H7.out.size
            have HY := Lib.hid ((B8.block w7.heap.size (by simp)).trans (setRow_heap (w7.alloc (.cells zeroC PT)) w7.heap.size _ (partC ⟨1, 0, [], [], [], false, false, T, ND, OD, []⟩ (.slice none 0 0)) _ _ HX.out))
            have H8 := Lib.hid ((((H7.out.alloc (.cells zeroC PT)).setRow hs7 (partC ⟨1, 0, [], [], [], false, false, T, ND, OD, []⟩ (.slice none 0 0)))).go B8)
            clear B8
            go_wp2_with (first
              | (refine wpList_load_row rfl PT _ rfl w7.heap.size rfl PT (partC ⟨1, 0, [], [], [], false, false, T, ND, OD, []⟩ (.slice none 0 0)) (0, 0) _ HY.out undP rfl sizeP ?_)
              | (refine wpList_store_row rfl PT _ _ rfl (w.heap.size + 1) (partC ⟨1, 0, [], [], [], false, false, T, ND, OD, []⟩ (.slice none 0 0)) rfl rfl PT zeroC H8.out.out sizeP rfl (oneP _ _ _ _) ?_))
            (try simp only [Exit.inBlock, Exit.then])
            refine bodyPost_ret (results_two Tryz.results184 _ _ (w.heap.size + 1) PT (partC ⟨1, 0, [], [], [], false, false, T, ND, OD, []⟩ (.slice none 0 0)) (0, 0) _ (.bool true) rfl rfl (setRow_heap _ _ _ _ _ _ H8.out.out) undP rfl sizeP) rfl ?_
            rw [HN.out]
            exact ⟨⟨none, 0, rfl, World.ownsRow_nil _ _ _ _⟩, below_setRow H8.out.below (Nat.le_succ _) _⟩
          · have HN : Hid (Mp.ruleA n t = some ⟨1, 0, [], [], [], false, false, T, ND, OD, [⟨n, RC, true⟩]⟩) := Lib.hid (HR4.trans (by unfold Mp.recA; rw [if_neg hr]; rfl))
            have hE1 := empty_no hr
            have hF1 := isEmpty_no hr
            clear HR4 hr
            go_enter Tryz.func184, Tryz.ntmps184
            go_wp2_with fail
            refine (HC.out _).mono ?_
            rintro e w1 ⟨rfl, B1⟩
            have H1 := Lib.hid (H0.out.go B1)
            go_wp2_with fail
            refine (HT.out _).mono ?_
            rintro e w2 ⟨rfl, B2⟩
            have H2 := Lib.hid (H1.out.go B2)
            clear B1 B2
            go_wp2_with fail
            refine (HP.out _).mono ?_
            rintro e w3 ⟨rfl, rfl⟩
            go_wp2_with fail
            refine (HA.out _).mono ?_
            rintro e w3 ⟨rfl, B3⟩
            have H3 := Lib.hid (H2.out.go B3)
            go_wp2_with fail
            refine (HH.out _).mono ?_
            rintro e w4 ⟨rfl, B4⟩
            have H4 := Lib.hid (H3.out.go B4)
            clear B3 B4
            go_wp2_with fail
            refine (HA2.out _).mono ?_
            rintro e w5 ⟨rfl, B5⟩
            have H5 := Lib.hid (H4.out.go B5)
            go_wp2_with fail
            refine (HT1.out _).mono ?_
            rintro e w6 ⟨rfl, B6⟩
            have H6 := Lib.hid (H5.out.go B6)
            go_wp2_with fail
            refine (HT2.out _).mono ?_
            rintro e w7 ⟨rfl, B7⟩
            have H7 := Lib.hid (H6.out.go B7)
            clear B5 B6 B7
            have HX := Lib.hid (heap_alloc_last w7 (.cells zeroC PT))
            go_wp2_with (refine wpList_store_row rfl PT _ _ rfl w7.heap.size (partC ⟨1, 0, [], [], [], false, false, T, ND, OD, []⟩ (.slice none 0 0)) rfl rfl PT zeroC HX.out sizeP rfl (oneP _ _ _ _) ?_)
            refine (HT3.out _).mono ?_
            rintro e w8 ⟨rfl, B8⟩
            have hs7 := H7.out.size
            have HY := Lib.hid ((B8.block w7.heap.size (by simp)).trans (setRow_heap (w7.alloc (.cells zeroC PT)) w7.heap.size _ (partC ⟨1, 0, [], [], [], false, false, T, ND, OD, []⟩ (.slice none 0 0)) _ _ HX.out))
            have H8 := Lib.hid ((((H7.out.alloc (.cells zeroC PT)).setRow hs7 (partC ⟨1, 0, [], [], [], false, false, T, ND, OD, []⟩ (.slice none 0 0)))).go B8)
            have hs8 : w7.heap.size + 1 ≤ w8.heap.size := (Array.getElem?_eq_some_iff.1 HY.out).1
            clear B8
            have c8 := H8.out.cells.1
            have HY9 := Lib.hid ((((Below.refl w8.heap.size w8).alloc (Nat.le_refl _) (.cells #[.int .i64 (n : Int), .string (str RC), .bool true] LT)).block w7.heap.size (by omega)).trans HY.out)
            have d10 : (w8.alloc (.cells #[.int .i64 (n : Int), .string (str RC), .bool true] LT)).cell? ⟨w7.heap.size, 10, none⟩ = some (.slice none 0 0) := cell_at HY9.out rfl
            have e10 : (w8.alloc (.cells #[.int .i64 (n : Int), .string (str RC), .bool true] LT)).frozen? ⟨w7.heap.size, 10, none⟩ = false := frozen_at HY9.out _
            have HYA := Lib.hid (heap_set3 (i := 10) HY9.out (.slice (some ⟨w8.heap.size, 0, none⟩) 1 1))
            have HZ := Lib.hid ((H8.out.alloc (.cells #[.int .i64 (n : Int), .string (str RC), .bool true] LT)).setCell (g := w7.heap.size) (by omega) 10 (.slice (some ⟨w8.heap.size, 0, none⟩) 1 1))
            go_wp2_with (first
              | (refine wpList_load_row rfl PT _ rfl w7.heap.size rfl PT (partC ⟨1, 0, [], [], [], false, false, T, ND, OD, [⟨n, RC, true⟩]⟩ (.slice (some ⟨w8.heap.size, 0, none⟩) 1 1)) (0, 0) _ HYA.out undP rfl sizeP ?_)
              | (refine wpList_store_row rfl PT _ _ rfl (w.heap.size + 1) (partC ⟨1, 0, [], [], [], false, false, T, ND, OD, [⟨n, RC, true⟩]⟩ (.slice (some ⟨w8.heap.size, 0, none⟩) 1 1)) rfl rfl PT zeroC HZ.out.out sizeP rfl (oneP _ _ _ _) ?_))
            (try simp only [Exit.inBlock, Exit.then])
            refine bodyPost_ret (results_two Tryz.results184 _ _ (w.heap.size + 1) PT (partC ⟨1, 0, [], [], [], false, false, T, ND, OD, [⟨n, RC, true⟩]⟩ (.slice (some ⟨w8.heap.size, 0, none⟩) 1 1)) (0, 0) _ (.bool true) rfl rfl (setRow_heap _ _ _ _ _ _ HZ.out.out) undP rfl sizeP) rfl ?_
            rw [HN.out]
            have own := World.ownsRow_lit (e := LT) (base := w.heap.size) (size := 3) w8 #[.int .i64 (n : Int), .string (str RC), .bool true] 1 (by omega) (by decide) rfl
            exact ⟨⟨_, _, rfl, own_setRow (own_set own (by omega)) (by omega)⟩, below_setRow HZ.out.below (Nat.le_succ _) _⟩
end Go.Proofs.YtgednccpjegbmaaGreatDoor.Mw
namespace Go.Proofs.YtgednccpjegbmaaGreatDoor.Mw
open Go.RowKit Go.Proofs.YtgednccpjegbmaaGreatDoor Go.Proofs.YtgednccpjegbmaaGreatDoor.Ww Go.Proofs.YtgednccpjegbmaaGreatDoor.Iw
set_option maxRecDepth 100000

theorem beq_yes {l m : Bs} (h : l = m) : ((str l).toList == m) = true := by rw [Lib.toList_data, h]; exact beq_self_eq_true _
theorem beq_no {l m : Bs} (h : ¬ l = m) : ((str l).toList == m) = false := by rw [Lib.toList_data]; exact beq_eq_false_iff_ne.2 h
theorem special_over {n : Nat} {t : Bs} (h : (Mp.wordA t).1 = Mp.oOver) : Mp.specialA n t = (Mp.assignA (Mp.wordA t).2).map (fun p : Mp.P => { p with over := true }) := if_pos h
theorem special_out {n : Nat} {t : Bs} (h0 : ¬ (Mp.wordA t).1 = Mp.oOver) (h : (Mp.wordA t).1 = Mp.oExport) : Mp.specialA n t = (match Mp.assignA (Mp.wordA t).2 with | some p => some { p with out := true } | none => Mp.namesA 2 (Mp.wordA t).2) := by
  unfold Mp.specialA; rw [if_neg h0, if_pos h]; cases Mp.assignA (Mp.wordA t).2 <;> rfl
theorem special_un {n : Nat} {t : Bs} (h0 : ¬ (Mp.wordA t).1 = Mp.oOver) (h1 : ¬ (Mp.wordA t).1 = Mp.oExport) (h : (Mp.wordA t).1 = Mp.oUnexport) : Mp.specialA n t = Mp.namesA 3 (Mp.wordA t).2 := by
  unfold Mp.specialA; rw [if_neg h0, if_neg h1, if_pos h]
theorem special_rule {n : Nat} {t : Bs} (h0 : ¬ (Mp.wordA t).1 = Mp.oOver) (h1 : ¬ (Mp.wordA t).1 = Mp.oExport) (h : ¬ (Mp.wordA t).1 = Mp.oUnexport) : Mp.specialA n t = Mp.ruleA n t := by
  unfold Mp.specialA; rw [if_neg h0, if_neg h1, if_neg h]
/-- A whole store, and the world behind it as a variable. -/
theorem store_box {P : Program} {ops : Array Oper} {rest : List Oper} {o : Oper} {a : Act} {w : World} {Q : Exit → Act → World → Prop} (hgd : o.guard = none) (ty : TypeId) (x y : Operand) (ho : o.op = .store ty x y)
    (g : Nat) (cells : Array Value) (hx : a.eval x = .pointer (some ⟨g, 0, none⟩)) (hy : a.eval y = .agg cells)
    (t : TypeId) (old : Array Value) (hg : w.heap[g]? = some (.cells old t (0, 0))) (hi : (P.info? ty).map (·.size) = some cells.size)
    (hold : old.size = cells.size) (h1 : cells.all (·.oneCell') = true)
    (h : ∀ W3 : World, Hid (W3.heap[g]? = some (.cells cells t (0, 0))) → Hid (W3 = w.setRow g cells) → wpList P ops Q rest (a.put o.dst undef) W3) : wpList P ops Q (o :: rest) a w :=
  wpList_store_row hgd ty x y ho g cells hx hy t old hg hi hold h1 (h _ (Lib.hid (setRow_heap _ _ _ _ _ _ hg)) (Lib.hid rfl))
theorem own_mono {w : World} {B B' : Nat} {e : TypeId} {z : Nat} {v : Value} {n : Nat} {xs : List Value} (h : w.ownsRow B e z v n xs) (hB : B' ≤ B) : w.ownsRow B' e z v n xs := by
  refine ⟨h.1, ?_⟩
  rcases h.2 with h | ⟨g, cap, cur, h1, h2, h3⟩
  · exact .inl h
  · exact .inr ⟨g, cap, cur, h1, Nat.le_trans hB h2, h3⟩
theorem box_fill_two {w : World} {n : Nat} {t : Bs} {q : Bool} {W : World} (h : Two w n t q W) (cs : Array Value) : Two w n t q ((W.alloc (.cells zeroC PT)).setRow W.heap.size cs) := (h.alloc _).setRow h.size cs

set_option maxHeartbeats 2000000 in
theorem special_any (w : World) (n : Nat) (t : Bs) (q : Bool) (hs : t.length ≤ 100000) :
    Calls Tryz.prog 126 #[.agg #[.int .i64 (n : Int), .string (str t), .bool q]] w (PartPost w (Mp.specialA n t)) := by
  have H0 := Lib.hid (Two.new w n t q)
  have c1 := H0.out.cells.2.1
  obtain ⟨x1, hA⟩ : ∃ x1 : Int, ∀ W, Calls Tryz.prog 158 #[.string (str t), .string ⟨#[32, 9]⟩] W fun e w' => e = .returned (.tuple #[.string (str (Mp.wordA t).1), .int .u8 x1, .string (str (Mp.wordA t).2)]) ∧ Below W.heap.size W w' := CutPA t [32, 9] hs (by decide)
  have HC := Lib.hid hA
  have hl2 : (Mp.wordA t).2.length ≤ 100000 := Nat.le_trans (Mp.pair_len [32, 9] t).2 hs
  have HA := Lib.hid fun W => assignment_any W (Mp.wordA t).2 hl2
  have HNm := Lib.hid fun W k => names_any W k (Mp.wordA t).2 hl2
  have HRl := Lib.hid fun W => rule_any W n t q hs
  clear hA
  by_cases k0 : (Mp.wordA t).1 = Mp.oOver
  · have q0 : ((str (Mp.wordA t).1).toList == [111, 118, 101, 114, 114, 105, 100, 101]) = true := beq_yes k0
    have HS := Lib.hid (special_over (n := n) k0)
    clear k0
    generalize (Mp.wordA t).1 = fw at *
    generalize (Mp.wordA t).2 = rw' at *
    cases hp : Mp.assignA rw' with
    | none =>
      have HN : Hid (Mp.specialA n t = none) := Lib.hid (by rw [HS.out, hp]; rfl)
      rw [hp] at HA
      clear hp HS
      go_enter Tryz.func126, Tryz.ntmps126
      go_wp2_with fail
      refine (HC.out _).mono ?_
      rintro e w1 ⟨rfl, B1⟩
      have H1 := Lib.hid (H0.out.go B1)
      clear B1
      go_wp2_with fail
      refine (HA.out _).mono ?_
      rintro e w2 ⟨rfl, B2⟩
      have H2 := Lib.hid (H1.out.go B2)
      clear B2
      have HX := Lib.hid (heap_alloc_last w2 (.cells zeroC PT))
      have hs2 := H2.out.size
      go_wp2_with (first
        | (refine store_box rfl PT _ _ rfl w2.heap.size zeroC rfl rfl PT zeroC HX.out sizeP rfl oneZ ?_; intro W3 HG3 HE3; have d5 : W3.cell? ⟨w2.heap.size, 5, none⟩ = some (.bool false) := cell_at HG3.out rfl; have f5 : W3.frozen? ⟨w2.heap.size, 5, none⟩ = false := frozen_at HG3.out _; have HG := Lib.hid (heap_set3 (i := 5) HG3.out (.bool false)); have H3 : Hid (Two w n t q (W3.setCell ⟨w2.heap.size, 5, none⟩ (.bool false))) := Lib.hid (Two.setCell (by rw [HE3.out]; exact box_fill_two H2.out zeroC) hs2 5 (.bool false)))
        | (refine wpList_load_row rfl PT _ rfl w2.heap.size rfl PT zeroC (0, 0) _ HG.out undP rfl sizeP ?_)
        | (refine wpList_store_row rfl PT _ _ rfl (w.heap.size + 1) zeroC rfl rfl PT zeroC H3.out.out sizeP rfl oneZ ?_))
      (try simp only [Exit.inBlock, Exit.then])
      refine bodyPost_ret (results_two Tryz.results126 _ _ (w.heap.size + 1) PT zeroC (0, 0) _ (.bool false) rfl rfl (setRow_heap _ _ _ _ _ _ H3.out.out) undP rfl sizeP) rfl ?_
      rw [HN.out]
      exact ⟨rfl, below_setRow H3.out.below (Nat.le_succ _) _⟩
    | some p =>
      have HN : Hid (Mp.specialA n t = some { p with over := true }) := Lib.hid (by rw [HS.out, hp]; rfl)
      rw [hp] at HA
      clear hp HS
      go_enter Tryz.func126, Tryz.ntmps126
      go_wp2_with fail
      refine (HC.out _).mono ?_
      rintro e w1 ⟨rfl, B1⟩
      have H1 := Lib.hid (H0.out.go B1)
      clear B1
      go_wp2_with fail
      refine (HA.out _).mono ?_
      rintro e w2 ⟨⟨hr0, rfl⟩, B2⟩
      have HR0 := Lib.hid hr0
      have H2 := Lib.hid (H1.out.go B2)
      clear B2 hr0
      have HX := Lib.hid (heap_alloc_last w2 (.cells zeroC PT))
      have hs2 := H2.out.size
      go_wp2_with (first
        | (refine store_box rfl PT _ _ rfl w2.heap.size (partC p (.slice none 0 0)) rfl rfl PT zeroC HX.out sizeP rfl (oneP _ _ _ _) ?_; intro W3 HG3 HE3; have d5 : W3.cell? ⟨w2.heap.size, 5, none⟩ = some (.bool p.over) := cell_at HG3.out rfl; have f5 : W3.frozen? ⟨w2.heap.size, 5, none⟩ = false := frozen_at HG3.out _; have HG := Lib.hid (heap_set3 (i := 5) HG3.out (.bool true)); have H3 : Hid (Two w n t q (W3.setCell ⟨w2.heap.size, 5, none⟩ (.bool true))) := Lib.hid (Two.setCell (by rw [HE3.out]; exact box_fill_two H2.out (partC p (.slice none 0 0))) hs2 5 (.bool true)))
        | (refine wpList_load_row rfl PT _ rfl w2.heap.size rfl PT (partC { p with over := true } (.slice none 0 0)) (0, 0) _ HG.out undP rfl sizeP ?_)
        | (refine wpList_store_row rfl PT _ _ rfl (w.heap.size + 1) (partC { p with over := true } (.slice none 0 0)) rfl rfl PT zeroC H3.out.out sizeP rfl (oneP _ _ _ _) ?_))
      (try simp only [Exit.inBlock, Exit.then])
      refine bodyPost_ret (results_two Tryz.results126 _ _ (w.heap.size + 1) PT (partC { p with over := true } (.slice none 0 0)) (0, 0) _ (.bool true) rfl rfl (setRow_heap _ _ _ _ _ _ H3.out.out) undP rfl sizeP) rfl ?_
      rw [HN.out]
      exact ⟨⟨none, 0, by rw [HR0.out]; rfl, by rw [HR0.out]; exact World.ownsRow_nil _ _ _ _⟩, below_setRow H3.out.below (Nat.le_succ _) _⟩
  · have q0 : ((str (Mp.wordA t).1).toList == [111, 118, 101, 114, 114, 105, 100, 101]) = false := beq_no k0
    by_cases k1 : (Mp.wordA t).1 = Mp.oExport
    · have q1 : ((str (Mp.wordA t).1).toList == [101, 120, 112, 111, 114, 116]) = true := beq_yes k1
      have HS := Lib.hid (special_out (n := n) k0 k1)
      clear k0 k1
      generalize (Mp.wordA t).1 = fw at *
      generalize (Mp.wordA t).2 = rw' at *
      cases hp : Mp.assignA rw' with
      | some p =>
        have HN : Hid (Mp.specialA n t = some { p with out := true }) := Lib.hid (by rw [HS.out, hp])
        rw [hp] at HA
        clear hp HS
        go_enter Tryz.func126, Tryz.ntmps126
        go_wp2_with fail
        refine (HC.out _).mono ?_
        rintro e w1 ⟨rfl, B1⟩
        have H1 := Lib.hid (H0.out.go B1)
        clear B1
        go_wp2_with fail
        refine (HA.out _).mono ?_
        rintro e w2 ⟨⟨hr0, rfl⟩, B2⟩
        have HR0 := Lib.hid hr0
        have H2 := Lib.hid (H1.out.go B2)
        clear B2 hr0
        have HX := Lib.hid (heap_alloc_last w2 (.cells zeroC PT))
        have hs2 := H2.out.size
        go_wp2_with (first
          | (refine store_box rfl PT _ _ rfl w2.heap.size (partC p (.slice none 0 0)) rfl rfl PT zeroC HX.out sizeP rfl (oneP _ _ _ _) ?_; intro W3 HG3 HE3; have d5 : W3.cell? ⟨w2.heap.size, 6, none⟩ = some (.bool p.out) := cell_at HG3.out rfl; have f5 : W3.frozen? ⟨w2.heap.size, 6, none⟩ = false := frozen_at HG3.out _; have HG := Lib.hid (heap_set3 (i := 6) HG3.out (.bool true)); have H3 : Hid (Two w n t q (W3.setCell ⟨w2.heap.size, 6, none⟩ (.bool true))) := Lib.hid (Two.setCell (by rw [HE3.out]; exact box_fill_two H2.out (partC p (.slice none 0 0))) hs2 6 (.bool true)))
          | (refine wpList_load_row rfl PT _ rfl w2.heap.size rfl PT (partC { p with out := true } (.slice none 0 0)) (0, 0) _ HG.out undP rfl sizeP ?_)
          | (refine wpList_store_row rfl PT _ _ rfl (w.heap.size + 1) (partC { p with out := true } (.slice none 0 0)) rfl rfl PT zeroC H3.out.out sizeP rfl (oneP _ _ _ _) ?_))
        (try simp only [Exit.inBlock, Exit.then])
        refine bodyPost_ret (results_two Tryz.results126 _ _ (w.heap.size + 1) PT (partC { p with out := true } (.slice none 0 0)) (0, 0) _ (.bool true) rfl rfl (setRow_heap _ _ _ _ _ _ H3.out.out) undP rfl sizeP) rfl ?_
        rw [HN.out]
        exact ⟨⟨none, 0, by rw [HR0.out]; rfl, by rw [HR0.out]; exact World.ownsRow_nil _ _ _ _⟩, below_setRow H3.out.below (Nat.le_succ _) _⟩
      | none =>
        cases hn : Mp.namesA 2 rw' with
        | none =>
          have HN : Hid (Mp.specialA n t = none) := Lib.hid (by rw [HS.out, hp]; exact hn)
          have HM := Lib.hid fun W => HNm.out W 2
          rw [hp] at HA
          rw [hn] at HM
          clear hp hn HS
          go_enter Tryz.func126, Tryz.ntmps126
          go_wp2_with fail
          refine (HC.out _).mono ?_
          rintro e w1 ⟨rfl, B1⟩
          have H1 := Lib.hid (H0.out.go B1)
          clear B1
          go_wp2_with fail
          refine (HA.out _).mono ?_
          rintro e w2 ⟨rfl, B2⟩
          have H2 := Lib.hid (H1.out.go B2)
          clear B2
          have HX := Lib.hid (heap_alloc_last w2 (.cells zeroC PT))
          go_wp2_with (refine store_box rfl PT _ _ rfl w2.heap.size zeroC rfl rfl PT zeroC HX.out sizeP rfl oneZ ?_; intro W3 HG3 HE3; have H3 : Hid (Two w n t q W3) := Lib.hid (by rw [HE3.out]; exact box_fill_two H2.out zeroC))
          refine (HM.out _).mono ?_
          rintro e w4 ⟨rfl, B4⟩
          have H4 := Lib.hid (H3.out.go B4)
          clear B4
          go_wp2_with (refine wpList_store_row rfl PT _ _ rfl (w.heap.size + 1) zeroC rfl rfl PT zeroC H4.out.out sizeP rfl oneZ ?_)
          (try simp only [Exit.inBlock, Exit.then])
          refine bodyPost_ret (results_two Tryz.results126 _ _ (w.heap.size + 1) PT zeroC (0, 0) _ (.bool false) rfl rfl (setRow_heap _ _ _ _ _ _ H4.out.out) undP rfl sizeP) rfl ?_
          rw [HN.out]
          exact ⟨rfl, below_setRow H4.out.below (Nat.le_succ _) _⟩
        | some p =>
          have HN : Hid (Mp.specialA n t = some p) := Lib.hid (by rw [HS.out, hp]; exact hn)
          have HM := Lib.hid fun W => HNm.out W 2
          rw [hp] at HA
          rw [hn] at HM
          clear hp hn HS
          go_enter Tryz.func126, Tryz.ntmps126
          go_wp2_with fail
          refine (HC.out _).mono ?_
          rintro e w1 ⟨rfl, B1⟩
          have H1 := Lib.hid (H0.out.go B1)
          clear B1
          go_wp2_with fail
          refine (HA.out _).mono ?_
          rintro e w2 ⟨rfl, B2⟩
          have H2 := Lib.hid (H1.out.go B2)
          clear B2
          have HX := Lib.hid (heap_alloc_last w2 (.cells zeroC PT))
          go_wp2_with (refine store_box rfl PT _ _ rfl w2.heap.size zeroC rfl rfl PT zeroC HX.out sizeP rfl oneZ ?_; intro W3 HG3 HE3; have H3 : Hid (Two w n t q W3) := Lib.hid (by rw [HE3.out]; exact box_fill_two H2.out zeroC))
          refine (HM.out _).mono ?_
          rintro e w4 ⟨⟨hr0, rfl⟩, B4⟩
          have HR0 := Lib.hid hr0
          have H4 := Lib.hid (H3.out.go B4)
          clear B4 hr0
          go_wp2_with (refine wpList_store_row rfl PT _ _ rfl (w.heap.size + 1) (partC p (.slice none 0 0)) rfl rfl PT zeroC H4.out.out sizeP rfl (oneP _ _ _ _) ?_)
          (try simp only [Exit.inBlock, Exit.then])
          refine bodyPost_ret (results_two Tryz.results126 _ _ (w.heap.size + 1) PT (partC p (.slice none 0 0)) (0, 0) _ (.bool true) rfl rfl (setRow_heap _ _ _ _ _ _ H4.out.out) undP rfl sizeP) rfl ?_
          rw [HN.out]
          exact ⟨⟨none, 0, by rw [HR0.out]; rfl, by rw [HR0.out]; exact World.ownsRow_nil _ _ _ _⟩, below_setRow H4.out.below (Nat.le_succ _) _⟩
    · have q1 : ((str (Mp.wordA t).1).toList == [101, 120, 112, 111, 114, 116]) = false := beq_no k1
      by_cases k2 : (Mp.wordA t).1 = Mp.oUnexport
      · have q2 : ((str (Mp.wordA t).1).toList == [117, 110, 101, 120, 112, 111, 114, 116]) = true := beq_yes k2
        have HS := Lib.hid (special_un (n := n) k0 k1 k2)
        clear k0 k1 k2
        generalize (Mp.wordA t).1 = fw at *
        generalize (Mp.wordA t).2 = rw' at *
        cases hn : Mp.namesA 3 rw' with
        | none =>
          have HN : Hid (Mp.specialA n t = none) := Lib.hid (by rw [HS.out]; exact hn)
          have HM := Lib.hid fun W => HNm.out W 3
          rw [hn] at HM
          clear hn HS
          go_enter Tryz.func126, Tryz.ntmps126
          go_wp2_with fail
          refine (HC.out _).mono ?_
          rintro e w1 ⟨rfl, B1⟩
          have H1 := Lib.hid (H0.out.go B1)
          clear B1
          go_wp2_with fail
          refine (HM.out _).mono ?_
          rintro e w4 ⟨rfl, B4⟩
          have H4 := Lib.hid (H1.out.go B4)
          clear B4
          go_wp2_with (refine wpList_store_row rfl PT _ _ rfl (w.heap.size + 1) zeroC rfl rfl PT zeroC H4.out.out sizeP rfl oneZ ?_)
          (try simp only [Exit.inBlock, Exit.then])
          refine bodyPost_ret (results_two Tryz.results126 _ _ (w.heap.size + 1) PT zeroC (0, 0) _ (.bool false) rfl rfl (setRow_heap _ _ _ _ _ _ H4.out.out) undP rfl sizeP) rfl ?_
          rw [HN.out]
          exact ⟨rfl, below_setRow H4.out.below (Nat.le_succ _) _⟩
        | some p =>
          have HN : Hid (Mp.specialA n t = some p) := Lib.hid (by rw [HS.out]; exact hn)
          have HM := Lib.hid fun W => HNm.out W 3
          rw [hn] at HM
          clear hn HS
          go_enter Tryz.func126, Tryz.ntmps126
          go_wp2_with fail
          refine (HC.out _).mono ?_
          rintro e w1 ⟨rfl, B1⟩
          have H1 := Lib.hid (H0.out.go B1)
          clear B1
          go_wp2_with fail
          refine (HM.out _).mono ?_
          rintro e w4 ⟨⟨hr0, rfl⟩, B4⟩
          have HR0 := Lib.hid hr0
          have H4 := Lib.hid (H1.out.go B4)
          clear B4 hr0
          go_wp2_with (refine wpList_store_row rfl PT _ _ rfl (w.heap.size + 1) (partC p (.slice none 0 0)) rfl rfl PT zeroC H4.out.out sizeP rfl (oneP _ _ _ _) ?_)
          (try simp only [Exit.inBlock, Exit.then])
          refine bodyPost_ret (results_two Tryz.results126 _ _ (w.heap.size + 1) PT (partC p (.slice none 0 0)) (0, 0) _ (.bool true) rfl rfl (setRow_heap _ _ _ _ _ _ H4.out.out) undP rfl sizeP) rfl ?_
          rw [HN.out]
          exact ⟨⟨none, 0, by rw [HR0.out]; rfl, by rw [HR0.out]; exact World.ownsRow_nil _ _ _ _⟩, below_setRow H4.out.below (Nat.le_succ _) _⟩
      · have q2 : ((str (Mp.wordA t).1).toList == [117, 110, 101, 120, 112, 111, 114, 116]) = false := beq_no k2
        have HS := Lib.hid (special_rule (n := n) k0 k1 k2)
        clear k0 k1 k2
        generalize (Mp.wordA t).1 = fw at *
        generalize (Mp.wordA t).2 = rw' at *
        cases hn : Mp.ruleA n t with
        | none =>
          have HN : Hid (Mp.specialA n t = none) := Lib.hid (by rw [HS.out]; exact hn)
          rw [hn] at HRl
          clear hn HS
          go_enter Tryz.func126, Tryz.ntmps126
          go_wp2_with fail
          refine (HC.out _).mono ?_
          rintro e w1 ⟨rfl, B1⟩
          have H1 := Lib.hid (H0.out.go B1)
          clear B1
          have c10 := H1.out.cells.1
          have c11 := H1.out.cells.2.1
          have c12 := H1.out.cells.2.2
          go_wp2_with fail
          refine (HRl.out _).mono ?_
          rintro e w4 ⟨rfl, B4⟩
          have H4 := Lib.hid (H1.out.go B4)
          clear B4
          go_wp2_with (refine wpList_store_row rfl PT _ _ rfl (w.heap.size + 1) zeroC rfl rfl PT zeroC H4.out.out sizeP rfl oneZ ?_)
          (try simp only [Exit.inBlock, Exit.then])
          refine bodyPost_ret (results_two Tryz.results126 _ _ (w.heap.size + 1) PT zeroC (0, 0) _ (.bool false) rfl rfl (setRow_heap _ _ _ _ _ _ H4.out.out) undP rfl sizeP) rfl ?_
          rw [HN.out]
          exact ⟨rfl, below_setRow H4.out.below (Nat.le_succ _) _⟩
        | some p =>
          have HN : Hid (Mp.specialA n t = some p) := Lib.hid (by rw [HS.out]; exact hn)
          rw [hn] at HRl
          clear hn HS
          go_enter Tryz.func126, Tryz.ntmps126
          go_wp2_with fail
          refine (HC.out _).mono ?_
          rintro e w1 ⟨rfl, B1⟩
          have H1 := Lib.hid (H0.out.go B1)
          clear B1
          have c10 := H1.out.cells.1
          have c11 := H1.out.cells.2.1
          have c12 := H1.out.cells.2.2
          go_wp2_with fail
          refine (HRl.out _).mono ?_
          rintro e w4 ⟨⟨a, c, rfl, ho⟩, B4⟩
          have H4 := Lib.hid (H1.out.go B4)
          have HO := Lib.hid ho
          have hs1 := H1.out.size
          clear B4 ho
          go_wp2_with (refine wpList_store_row rfl PT _ _ rfl (w.heap.size + 1) (partC p (.slice a p.recipe.length c)) rfl rfl PT zeroC H4.out.out sizeP rfl (oneP _ _ _ _) ?_)
          (try simp only [Exit.inBlock, Exit.then])
          refine bodyPost_ret (results_two Tryz.results126 _ _ (w.heap.size + 1) PT (partC p (.slice a p.recipe.length c)) (0, 0) _ (.bool true) rfl rfl (setRow_heap _ _ _ _ _ _ H4.out.out) undP rfl sizeP) rfl ?_
          rw [HN.out]
          exact ⟨⟨a, c, rfl, own_mono (own_kept HO.out fun g hg => setRow_other _ _ _ _ (by have := (HO.out.lt g hg).1; omega)) (by omega)⟩, below_setRow H4.out.below (Nat.le_succ _) _⟩
end Go.Proofs.YtgednccpjegbmaaGreatDoor.Mw
namespace Go.Proofs.YtgednccpjegbmaaGreatDoor.Mw
open Go.RowKit Go.Proofs.YtgednccpjegbmaaGreatDoor Go.Proofs.YtgednccpjegbmaaGreatDoor.Ww Go.Proofs.YtgednccpjegbmaaGreatDoor.Iw
set_option maxRecDepth 100000

set_option maxHeartbeats 2000000 in
theorem part_any (w : World) (n : Nat) (t : Bs) (q : Bool) (hs : t.length ≤ 100000) :
    Calls Tryz.prog 79 #[.agg #[.int .i64 (n : Int), .string (str t), .bool q]] w (PartPost w (Mp.partA n t)) := by
  have H0 := Lib.hid (Two.new w n t q)
  have c1 := H0.out.cells.2.1
  have HA := Lib.hid fun W => assignment_any W t hs
  have HS := Lib.hid fun W => special_any W n t q hs
  cases hp : Mp.assignA t with
  | some p =>
    have HN : Hid (Mp.partA n t = some { p with line := n }) := Lib.hid (by unfold Mp.partA Mp.oneA; rw [hp]; rfl)
    rw [hp] at HA
    clear hp HS
    go_enter Tryz.func79, Tryz.ntmps79
    go_wp2_with fail
    refine (HA.out _).mono ?_
    rintro e w1 ⟨⟨hr0, rfl⟩, B1⟩
    have HR0 := Lib.hid hr0
    have H1 := Lib.hid (H0.out.go B1)
    clear B1 hr0
    have HX := Lib.hid (heap_alloc_last w1 (.cells zeroC PT))
    have hs1 := H1.out.size
    go_wp2_with (first
      | (refine store_box rfl PT _ _ rfl w1.heap.size (partC p (.slice none 0 0)) rfl rfl PT zeroC HX.out sizeP rfl (oneP _ _ _ _) ?_; intro W3 HG3 HE3; have d5 : W3.cell? ⟨w1.heap.size, 1, none⟩ = some (.int .i64 (p.line : Int)) := cell_at HG3.out rfl; have f5 : W3.frozen? ⟨w1.heap.size, 1, none⟩ = false := frozen_at HG3.out _; have HG := Lib.hid (heap_set3 (i := 1) HG3.out (.int .i64 (n : Int))); have hT3 : Two w n t q W3 := (by rw [HE3.out]; exact box_fill_two H1.out (partC p (.slice none 0 0))); have H3 : Hid (Two w n t q (W3.setCell ⟨w1.heap.size, 1, none⟩ (.int .i64 (n : Int)))) := Lib.hid (hT3.setCell hs1 1 (.int .i64 (n : Int))); have c30 := hT3.cells.1; clear hT3)
      | (refine wpList_load_row rfl PT _ rfl w1.heap.size rfl PT (partC { p with line := n } (.slice none 0 0)) (0, 0) _ HG.out undP rfl sizeP ?_)
      | (refine wpList_store_row rfl PT _ _ rfl (w.heap.size + 1) (partC { p with line := n } (.slice none 0 0)) rfl rfl PT zeroC H3.out.out sizeP rfl (oneP _ _ _ _) ?_))
    (try simp only [Exit.inBlock, Exit.then])
    refine bodyPost_ret (results_two Tryz.results79 _ _ (w.heap.size + 1) PT (partC { p with line := n } (.slice none 0 0)) (0, 0) _ (.bool true) rfl rfl (setRow_heap _ _ _ _ _ _ H3.out.out) undP rfl sizeP) rfl ?_
    rw [HN.out]
    exact ⟨⟨none, 0, by rw [HR0.out]; rfl, by rw [HR0.out]; exact World.ownsRow_nil _ _ _ _⟩, below_setRow H3.out.below (Nat.le_succ _) _⟩
  | none =>
    rw [hp] at HA
    cases hn : Mp.specialA n t with
    | none =>
      have HN : Hid (Mp.partA n t = none) := Lib.hid (by unfold Mp.partA Mp.oneA; rw [hp]; show (Mp.specialA n t).map _ = _; rw [hn]; rfl)
      rw [hn] at HS
      clear hp hn
      go_enter Tryz.func79, Tryz.ntmps79
      go_wp2_with fail
      refine (HA.out _).mono ?_
      rintro e w1 ⟨rfl, B1⟩
      have H1 := Lib.hid (H0.out.go B1)
      clear B1
      have HX := Lib.hid (heap_alloc_last w1 (.cells zeroC PT))
      have hs1 := H1.out.size
      go_wp2_with (refine store_box rfl PT _ _ rfl w1.heap.size zeroC rfl rfl PT zeroC HX.out sizeP rfl oneZ ?_; intro W3 HG3 HE3; have hT3 : Two w n t q W3 := (by rw [HE3.out]; exact box_fill_two H1.out zeroC); have H3 := Lib.hid hT3; have c30 := hT3.cells.1; have c31 := hT3.cells.2.1; have c32 := hT3.cells.2.2; clear hT3)
      refine (HS.out _).mono ?_
      rintro e w4 ⟨rfl, B4⟩
      have H4 := Lib.hid (H3.out.go B4)
      have HG4 := Lib.hid ((B4.block w1.heap.size (Array.getElem?_eq_some_iff.1 HG3.out).1).trans HG3.out)
      clear B4
      go_wp2_with (first
        | (refine store_box rfl PT _ _ rfl w1.heap.size zeroC rfl rfl PT zeroC HG4.out sizeP rfl oneZ ?_; intro W5 HG5 HE5; have H5 : Hid (Two w n t q W5) := Lib.hid (by rw [HE5.out]; exact H4.out.setRow hs1 _))
        | (refine wpList_load_row rfl PT _ rfl w1.heap.size rfl PT zeroC (0, 0) _ HG5.out undP rfl sizeP ?_)
        | (refine wpList_store_row rfl PT _ _ rfl (w.heap.size + 1) zeroC rfl rfl PT zeroC H5.out.out sizeP rfl oneZ ?_))
      (try simp only [Exit.inBlock, Exit.then])
      refine bodyPost_ret (results_two Tryz.results79 _ _ (w.heap.size + 1) PT zeroC (0, 0) _ (.bool false) rfl rfl (setRow_heap _ _ _ _ _ _ H5.out.out) undP rfl sizeP) rfl ?_
      rw [HN.out]
      exact ⟨rfl, below_setRow H5.out.below (Nat.le_succ _) _⟩
    | some p =>
      have HN : Hid (Mp.partA n t = some { p with line := n }) := Lib.hid (by unfold Mp.partA Mp.oneA; rw [hp]; show (Mp.specialA n t).map _ = _; rw [hn]; rfl)
      rw [hn] at HS
      clear hp hn
      go_enter Tryz.func79, Tryz.ntmps79
      go_wp2_with fail
      refine (HA.out _).mono ?_
      rintro e w1 ⟨rfl, B1⟩
      have H1 := Lib.hid (H0.out.go B1)
      clear B1
      have HX := Lib.hid (heap_alloc_last w1 (.cells zeroC PT))
      have hs1 := H1.out.size
      go_wp2_with (refine store_box rfl PT _ _ rfl w1.heap.size zeroC rfl rfl PT zeroC HX.out sizeP rfl oneZ ?_; intro W3 HG3 HE3; have hT3 : Two w n t q W3 := (by rw [HE3.out]; exact box_fill_two H1.out zeroC); have H3 := Lib.hid hT3; have c30 := hT3.cells.1; have c31 := hT3.cells.2.1; have c32 := hT3.cells.2.2; clear hT3)
      refine (HS.out _).mono ?_
      rintro e w4 ⟨⟨a, c, rfl, ho⟩, B4⟩
      have hl3 : w1.heap.size < W3.heap.size := (Array.getElem?_eq_some_iff.1 HG3.out).1
      have H4 := Lib.hid (H3.out.go B4)
      have HG4 := Lib.hid ((B4.block w1.heap.size hl3).trans HG3.out)
      have HO := Lib.hid ho
      clear B4 ho
      go_wp2_with (first
        | (refine store_box rfl PT _ _ rfl w1.heap.size (partC p (.slice a p.recipe.length c)) rfl rfl PT zeroC HG4.out sizeP rfl (oneP _ _ _ _) ?_; intro W5 HG5 HE5; have d5 : W5.cell? ⟨w1.heap.size, 1, none⟩ = some (.int .i64 (p.line : Int)) := cell_at HG5.out rfl; have f5 : W5.frozen? ⟨w1.heap.size, 1, none⟩ = false := frozen_at HG5.out _; have HG := Lib.hid (heap_set3 (i := 1) HG5.out (.int .i64 (n : Int))); have hT5 : Two w n t q W5 := (by rw [HE5.out]; exact H4.out.setRow hs1 _); have H6 : Hid (Two w n t q (W5.setCell ⟨w1.heap.size, 1, none⟩ (.int .i64 (n : Int)))) := Lib.hid (hT5.setCell hs1 1 (.int .i64 (n : Int))); have c50 := hT5.cells.1; clear hT5)
        | (refine wpList_load_row rfl PT _ rfl w1.heap.size rfl PT (partC { p with line := n } (.slice a p.recipe.length c)) (0, 0) _ HG.out undP rfl sizeP ?_)
        | (refine wpList_store_row rfl PT _ _ rfl (w.heap.size + 1) (partC { p with line := n } (.slice a p.recipe.length c)) rfl rfl PT zeroC H6.out.out sizeP rfl (oneP _ _ _ _) ?_))
      (try simp only [Exit.inBlock, Exit.then])
      refine bodyPost_ret (results_two Tryz.results79 _ _ (w.heap.size + 1) PT (partC { p with line := n } (.slice a p.recipe.length c)) (0, 0) _ (.bool true) rfl rfl (setRow_heap _ _ _ _ _ _ H6.out.out) undP rfl sizeP) rfl ?_
      rw [HN.out]
      refine ⟨⟨a, c, rfl, own_mono (own_kept HO.out fun g hg => ?_) (by omega)⟩, below_setRow H6.out.below (Nat.le_succ _) _⟩
      have hgl := (HO.out.lt g hg).1
      have e1 : W5.heap[g]? = w4.heap[g]? := by rw [HE5.out]; exact setRow_other _ _ _ _ (by omega)
      rw [setRow_other _ _ _ _ (by omega)]
      exact (Below.heap_setCell _ _ _ _ (by show g ≠ w1.heap.size; omega)).trans e1
end Go.Proofs.YtgednccpjegbmaaGreatDoor.Mw
namespace Go.Proofs.YtgednccpjegbmaaGreatDoor.Mw
open Go.RowKit Go.Proofs.YtgednccpjegbmaaGreatDoor Go.Proofs.YtgednccpjegbmaaGreatDoor.Ww Go.Proofs.YtgednccpjegbmaaGreatDoor.Iw
set_option maxRecDepth 100000

theorem infoPT : (Tryz.prog.info? PT).map (fun i => (i.zero, i.size, i.bytes)) = some (some zeroV, 11, 144) := by kernel_rfl
/-- A part, and the slice of its recipe. -/
structure PV where
  p : Mp.P
  v : Value
def pvC (x : PV) : List Value := (partC x.p x.v).toList
def pvsC (X : List PV) : List Value := X.flatMap pvC
theorem pvsC_snoc (X : List PV) (x : PV) : pvsC (X ++ [x]) = pvsC X ++ pvC x := by simp [pvsC]
theorem pvC_len (x : PV) : (pvC x).length = 11 := rfl
theorem pvsC_get {X : List PV} {k j : Nat} (h : k < X.length) (hj : j < 11) : (pvsC X)[k * 11 + j]? = (pvC X[k])[j]? := by
  induction X generalizing k with
  | nil => cases h
  | cons x r ih =>
    show (pvC x ++ pvsC r)[k * 11 + j]? = _
    cases k with
    | zero => rw [Nat.zero_mul, Nat.zero_add, List.getElem?_append_left (by rw [pvC_len]; exact hj)]; rfl
    | succ k =>
      rw [List.getElem?_append_right (by rw [pvC_len]; omega), pvC_len, show (k + 1) * 11 + j - 11 = k * 11 + j by omega]
      exact ih (by simpa using h)
/-- A row of parts of the call's own, and the rows of their recipes, each in a block of its own. -/
structure Ps (w : World) (lo : Nat) (v : Value) (X : List PV) : Prop where
  row : w.ownsRow lo PT 11 v X.length (pvsC X)
  each : ∀ x ∈ X, w.ownsRow lo LT 3 x.v x.p.recipe.length (linesC x.p.recipe)
  apart : X.Pairwise fun x y => x.v.ownBlock = none ∨ x.v.ownBlock ≠ y.v.ownBlock
theorem Ps.nil (w : World) (lo : Nat) : Ps w lo (.slice none 0 0) [] := ⟨World.ownsRow_nil _ _ _ _, fun _ h => absurd h List.not_mem_nil, List.Pairwise.nil⟩
theorem Ps.below {w w' : World} {lo : Nat} {v : Value} {X : List PV} (h : Ps w lo v X) (hB : Below w.heap.size w w') : Ps w' lo v X :=
  ⟨owns_below h.row hB, fun x hx => owns_below (h.each x hx) hB, h.apart⟩
theorem Ps.kept {w w' : World} {lo : Nat} {v : Value} {X : List PV} (h : Ps w lo v X) (hk : ∀ g, lo ≤ g → g < w.heap.size → w'.heap[g]? = w.heap[g]?) : Ps w' lo v X :=
  ⟨own_kept h.row fun g hg => hk g (h.row.lt g hg).1 (h.row.lt g hg).2, fun x hx => own_kept (h.each x hx) fun g hg => hk g ((h.each x hx).lt g hg).1 ((h.each x hx).lt g hg).2, h.apart⟩
/-- One part more. -/
theorem Ps.snoc {w w' : World} {lo : Nat} {v v' : Value} {X : List PV} {x : PV} (h : Ps w lo v X) (hx : w.ownsRow lo LT 3 x.v x.p.recipe.length (linesC x.p.recipe))
    (ha : ∀ y ∈ X, y.v.ownBlock = none ∨ y.v.ownBlock ≠ x.v.ownBlock) (ho : w'.ownsRow lo PT 11 v' (X.length + 1) (pvsC X ++ pvC x)) (hg : w.grownBy w' v.ownBlock) : Ps w' lo v' (X ++ [x]) := by
  have hin : ∀ y : PV, w.ownsRow lo LT 3 y.v y.p.recipe.length (linesC y.p.recipe) → w'.ownsRow lo LT 3 y.v y.p.recipe.length (linesC y.p.recipe) := fun y hy =>
    own_kept hy fun g hg' => hg.block g (hy.lt g hg').2 (by
      have := rows_ne hy h.row (by decide)
      rw [hg'] at this
      rcases this with e | e
      · cases e
      · exact e)
  refine ⟨by rw [List.length_append, pvsC_snoc]; exact ho, fun y hy => ?_, ?_⟩
  · rcases List.mem_append.1 hy with hy | hy
    · exact hin y (h.each y hy)
    · rw [List.mem_singleton.1 hy]; exact hin x hx
  · rw [List.pairwise_append]
    exact ⟨h.apart, List.pairwise_singleton _ _, fun y hy z hz => by rw [List.mem_singleton.1 hz]; exact ha y hy⟩
theorem cells_new (w : World) (cs : Array Value) (T : TypeId) {n : Nat} (hn : w.heap.size = n) : ∀ (j : Nat) (u : Value), cs.toList[j]? = some u → (w.alloc (.cells cs T)).cell? ((⟨n, 0, none⟩ : Addr).add j) = some u := by
  subst hn
  intro j u hj
  have hlt : j < cs.size := by have := (List.getElem?_eq_some_iff.1 hj).1; simpa using this
  rw [Addr.add_lit, World.cell?_alloc_at _ _ _ _ (by simp)]
  simp at hj ⊢; exact hj

/-- A part that is laid into fresh cells. -/
theorem fold_part (p : Mp.P) (v : Value) : Array.foldl (fun (cs : Array Value) x => cs.setIfInBounds x.snd x.fst)
    #[.int .i64 0, .int .i64 0, .string ⟨#[]⟩, .string ⟨#[]⟩, .string ⟨#[]⟩, .bool false, .bool false, .string ⟨#[]⟩, .string ⟨#[]⟩, .string ⟨#[]⟩, .slice none 0 0] (partC p v).zipIdx 0 (partC p v).size = partC p v := by
  unfold partC; simp [List.zipIdx]

theorem fold_part' (p : Mp.P) (v : Value) : Array.foldl (fun (cs : Array Value) x => cs.setIfInBounds x.snd x.fst)
    #[.int .i64 0, .int .i64 0, .string ⟨#[]⟩, .string ⟨#[]⟩, .string ⟨#[]⟩, .bool false, .bool false, .string ⟨#[]⟩, .string ⟨#[]⟩, .string ⟨#[]⟩, .slice none 0 0] (partC p v).zipIdx 0 11 = partC p v := fold_part p v
/-- What add returns. -/
def AddPost (w : World) (lo : Nat) (v : Value) (X : List PV) (o : Option (List Mp.P)) (e : Ending) (w' : World) : Prop :=
  (match o with
    | none => ∃ a n c, e = .returned (.tuple #[.slice a n c, .bool false])
    | some L => ∃ X a c, X.map PV.p = L ∧ e = .returned (.tuple #[.slice a X.length c, .bool true]) ∧ Ps w' lo (.slice a X.length c) X) ∧ Below lo w w' ∧ ∀ g, g < w.heap.size → v.ownBlock ≠ some g → (∀ x ∈ X, x.v.ownBlock ≠ some g) → w'.heap[g]? = w.heap[g]?

set_option maxHeartbeats 2000000 in
theorem add_row (w : World) (lo : Nat) (a : Option Addr) (c : Nat) (X : List PV) (n : Nat) (t : Bs) (hlo : lo ≤ w.heap.size) (hX : Ps w lo (.slice a X.length c) X) (hl : X.length ≤ 200000) (hs : t.length ≤ 100000) :
    Calls Tryz.prog 42 #[.slice a X.length c, .agg #[.int .i64 (n : Int), .string (str t), .bool false]] w (AddPost w lo (.slice a X.length c) X (Mp.addA (X.map PV.p) ⟨n, t, false⟩)) := by
  obtain ⟨i0, hi, hz0, hz1, hz2⟩ := info_parts infoPT
  have HB := Lib.hid ((Below.refl w.heap.size w).alloc (Nat.le_refl _) (.cells #[.int .i64 (n : Int), .string (str t), .bool false] LT))
  have H0 := Lib.hid (lineBox w n t false)
  have c0 := cell_at (i := 0) H0.out rfl
  have c1 := cell_at (i := 1) H0.out rfl
  have c2 := cell_at (i := 2) H0.out rfl
  have HP := Lib.hid fun W => part_any W n t false hs
  have HXX := Lib.hid hX
  clear hX
  cases hp : Mp.partA n t with
  | none =>
    have HN : Hid (Mp.addA (X.map PV.p) ⟨n, t, false⟩ = none) := Lib.hid (by unfold Mp.addA; rw [if_neg (by exact Bool.false_ne_true)]; show (Mp.partA n t).map _ = _; rw [hp]; rfl)
    rw [hp] at HP
    clear hp
    go_enter Tryz.func42, Tryz.ntmps42
    go_wp2_with fail
    refine (HP.out _).mono ?_
    rintro e w1 ⟨rfl, B1⟩
    have HB1 := Lib.hid (HB.out.trans (B1.mono (by simp)))
    have hs1 := HB1.out.size
    have HX := Lib.hid (heap_alloc_last w1 (.cells zeroC PT))
    have HP1 := Lib.hid (HXX.out.below HB1.out)
    clear B1
    go_wp2_with (first
      | (refine store_box rfl PT _ _ rfl w1.heap.size zeroC rfl rfl PT zeroC HX.out sizeP rfl oneZ ?_; intro W3 HG3 HE3; have HP3 := Lib.hid (HP1.out.kept (w' := W3) fun g h1 h2 => by rw [HE3.out]; exact (setRow_other _ _ _ _ (by omega)).trans (((Below.refl w1.heap.size w1).alloc (Nat.le_refl _) (.cells zeroC PT)).block g h2)); have HB3 : Hid (Below w.heap.size w W3) := Lib.hid (by rw [HE3.out]; exact below_setRow (HB1.out.alloc hs1 _) hs1 _); have hs3 := HB3.out.size)
      | (refine wpList_load_row rfl PT _ rfl w1.heap.size rfl PT zeroC (0, 0) _ HG3.out undP rfl sizeP ?_)
      | (at_builtin; refine wpList_append_own_at _ rfl _ _ 69 rfl lo PT i0 zeroV 11 144 Tryz.underlying69 hi hz0 hz1 hz2 rfl (by decide) _ _ _ rfl (HP3.out.below ((Below.refl _ _).alloc (Nat.le_refl _) _)).row ⟨W3.heap.size, 0, none⟩ 1 1 zeroC.toList rfl rfl (cells_new _ zeroC _ rfl) (by simp [zeroC, Value.oneCell']) (by unfold maxLen; omega) (by omega) (by simp; omega) ?_; intro v' w4 hown' hgrow _ hat; obtain ⟨a4, c4, rfl⟩ := owns_slice hown'))
    go_ret2
    rw [HN.out]
    exact ⟨⟨_, _, _, rfl⟩, ((HB3.out.mono hlo).alloc (by omega) _).grown hgrow (by simp; omega) fun j ej => (HP3.out.row.lt j ej).1, fun g h1 h2 _ => (hgrow.block g (by simp; omega) fun e => h2 e.symm).trans (((HB3.out.alloc hs3 _).block g h1))⟩
  | some p =>
    have HN : Hid (Mp.addA (X.map PV.p) ⟨n, t, false⟩ = some (X.map PV.p ++ [p])) := Lib.hid (by unfold Mp.addA; rw [if_neg (by exact Bool.false_ne_true)]; show (Mp.partA n t).map _ = _; rw [hp]; rfl)
    rw [hp] at HP
    clear hp
    go_enter Tryz.func42, Tryz.ntmps42
    go_wp2_with fail
    refine (HP.out _).mono ?_
    rintro e w1 ⟨⟨ar, cr, rfl, hor⟩, B1⟩
    have HB1 := Lib.hid (HB.out.trans (B1.mono (by simp)))
    have hs1 := HB1.out.size
    have HX := Lib.hid (heap_alloc_last w1 (.cells zeroC PT))
    have HP1 := Lib.hid (HXX.out.below HB1.out)
    have HO := Lib.hid hor
    clear B1 hor
    have hpc : (partC p (.slice ar p.recipe.length cr)).size = 11 := rfl
    go_wp2_with (first
      | (refine store_box rfl PT _ _ rfl w1.heap.size (partC p (.slice ar p.recipe.length cr)) rfl rfl PT zeroC HX.out sizeP rfl (oneP _ _ _ _) ?_; intro W3 HG3 HE3; have HK := Lib.hid (show ∀ g, g < w1.heap.size → W3.heap[g]? = w1.heap[g]? from fun g h2 => by rw [HE3.out]; exact (setRow_other _ _ _ _ (by omega)).trans (((Below.refl w1.heap.size w1).alloc (Nat.le_refl _) (.cells zeroC PT)).block g h2)); have HP3 := Lib.hid (HP1.out.kept (w' := W3) fun g h1 h2 => HK.out g h2); have HO3 := Lib.hid (own_kept (w' := W3) HO.out fun g hg => HK.out g (HO.out.lt g hg).2); have HB3 : Hid (Below w.heap.size w W3) := Lib.hid (by rw [HE3.out]; exact below_setRow (HB1.out.alloc hs1 _) hs1 _); have hs3 := HB3.out.size)
      | (refine wpList_load_row rfl PT _ rfl w1.heap.size rfl PT (partC p (.slice ar p.recipe.length cr)) (0, 0) _ HG3.out undP rfl sizeP ?_)
      | (at_builtin; rw [fold_part']; refine wpList_append_own_at _ rfl _ _ 69 rfl lo PT i0 zeroV 11 144 Tryz.underlying69 hi hz0 hz1 hz2 rfl (by decide) _ _ _ rfl (HP3.out.below ((Below.refl _ _).alloc (Nat.le_refl _) _)).row ⟨W3.heap.size, 0, none⟩ 1 1 (pvC ⟨p, .slice ar p.recipe.length cr⟩) rfl rfl (cells_new _ (partC p (.slice ar p.recipe.length cr)) _ rfl) (by simp [pvC, partC, Value.oneCell']) (by unfold maxLen; omega) (by omega) (by simp; omega) ?_; intro v' w4 hown' hgrow _ hat; obtain ⟨a4, c4, rfl⟩ := owns_slice hown'))
    go_ret2
    rw [HN.out]
    have hfresh : ∀ y ∈ X, y.v.ownBlock = none ∨ y.v.ownBlock ≠ (Value.slice ar p.recipe.length cr).ownBlock := fun y hy => by
      cases hb : y.v.ownBlock with
      | none => exact .inl rfl
      | some g =>
        refine .inr fun e => ?_
        have h1 := ((HXX.out.each y hy).lt g hb).2
        have h2 := (HO.out.lt g e.symm).1
        simp at h2
        omega
    have HS := ((HP3.out.below ((Below.refl W3.heap.size W3).alloc (Nat.le_refl _) (.cells (partC p (.slice ar p.recipe.length cr)) PT))).snoc (x := ⟨p, .slice ar p.recipe.length cr⟩) (owns_below (own_mono HO3.out (by simp; omega)) ((Below.refl _ _).alloc (Nat.le_refl _) _)) hfresh hown' hgrow)
    refine ⟨⟨X ++ [⟨p, .slice ar p.recipe.length cr⟩], a4, c4, by simp, by rw [List.length_append]; rfl, by rw [List.length_append]; exact HS⟩, ((HB3.out.mono hlo).alloc (by omega) _).grown hgrow (by simp; omega) fun j ej => (HP3.out.row.lt j ej).1, fun g h1 h2 _ => (hgrow.block g (by simp; omega) fun e => h2 e.symm).trans (((HB3.out.alloc hs3 _).block g h1))⟩
end Go.Proofs.YtgednccpjegbmaaGreatDoor.Mw
namespace Go.Proofs.YtgednccpjegbmaaGreatDoor.Mw
open Go.RowKit Go.Proofs.YtgednccpjegbmaaGreatDoor Go.Proofs.YtgednccpjegbmaaGreatDoor.Ww Go.Proofs.YtgednccpjegbmaaGreatDoor.Iw
set_option maxRecDepth 100000

theorem step_append_own {P : Program} {ops : Array Oper} {o : Oper} {a : Act} {w : World} {K : Act → World → Prop} {Q : Exit → Act → World → Prop} {E : Prop} (hgd : o.guard = none) (s x : Operand) (t : TypeId)
    (ho : o.op = .call { callee := .builtin .append, args := #[s, x], argTypes := #[t, t] })
    (base : Nat) (e : TypeId) (i : TypeInfo) (z : Value) (size bytes : Nat) (ht : P.underlying t = some (.slice e)) (hi : P.info? e = some i) (hz : i.zero = some z)
    (hsize : i.size = size) (hby : i.bytes = bytes) (hzs : z.cells.size = size) (hsz : 0 < size)
    (v : Value) (n : Nat) (xs : List Value) (hs : a.eval s = v) (hown : w.ownsRow base e size v n xs) (ad : Addr) (m c : Nat) (news : List Value) (hx : a.eval x = .slice (some ad) m c) (hl : news.length = m * size)
    (hnews : ∀ j u, news[j]? = some u → w.cell? (ad.add j) = some u) (h1 : ∀ u ∈ news, u.oneCell' = true)
    (h63 : n + m ≤ maxLen) (hbytes : (n + m) * bytes ≤ 140737488355328) (hbase : base ≤ w.heap.size)
    (h : ∀ v' w', w'.ownsRow base e size v' (n + m) (xs ++ news) → w.grownBy w' v.ownBlock → (v'.ownBlock = v.ownBlock ∨ v'.ownBlock = some w.heap.size) → K (a.put o.dst v') w') :
    if Region.wanted o (yielded ops a.tmps) = true then Oper.wp P o a w K Q else E := by
  rw [if_pos (by simp [Region.wanted, hgd])]
  obtain ⟨v', w', run, own, grew, _, hat⟩ := run_append_own_at (P := P) (w := w) base t o.type e i z size bytes ht hi hz hsize hby hzs hsz v n xs hown ad m c news hl hnews h1 h63 hbytes hbase
  unfold Oper.wp
  simp [execOp, ho, resolve, invoke, builtin, hs, hx, run, Result.andThen]
  exact h v' w' own grew hat
abbrev LLT : TypeId := 42
/-- A recipe's line more, for the last part. -/
def recP (x : PV) (l : Ip.L) (v : Value) : PV := ⟨{ x.p with recipe := x.p.recipe ++ [l] }, v⟩
theorem set_last (Y : List PV) (x : PV) (l : Ip.L) (v : Value) : (pvsC (Y ++ [x])).set (Y.length * 11 + 10) v = pvsC (Y ++ [recP x l v]) := by
  have hl : (pvsC Y).length = Y.length * 11 := by
    clear x l v
    induction Y with
    | nil => rfl
    | cons y Y ih => show (pvC y ++ pvsC Y).length = _; rw [List.length_append, ih, pvC_len, List.length_cons]; omega
  rw [pvsC_snoc, pvsC_snoc, List.set_append_right _ _ (by omega), hl, Nat.add_sub_cancel_left]
  rfl
theorem Ps.rec_ {w w' : World} {lo g c n : Nat} {Y : List PV} {x : PV} {l : Ip.L} {v' : Value} (h : Ps w lo (.slice (some ⟨g, 0, none⟩) n c) (Y ++ [x])) (hn : n = (Y ++ [x]).length)
    (ho : w'.ownsRow lo LT 3 v' (x.p.recipe.length + 1) (linesC x.p.recipe ++ linesC [l])) (hg : w.grownBy w' x.v.ownBlock) (hat : v'.ownBlock = x.v.ownBlock ∨ v'.ownBlock = some w.heap.size) :
    Ps (w'.setCell ⟨g, Y.length * 11 + 10, none⟩ v') lo (.slice (some ⟨g, 0, none⟩) n c) (Y ++ [recP x l v']) ∧ w'.cell? ⟨g, Y.length * 11 + 10, none⟩ = some x.v ∧ (∀ j, w'.frozen? ⟨g, j, none⟩ = false) ∧
    (∀ i, i < w.heap.size → some i ≠ x.v.ownBlock → i ≠ g → (w'.setCell ⟨g, Y.length * 11 + 10, none⟩ v').heap[i]? = w.heap[i]?) ∧ Below lo w (w'.setCell ⟨g, Y.length * 11 + 10, none⟩ v') := by
  subst hn
  have hx := h.each x (by simp)
  have hlt := h.row.lt g rfl
  have hne : some g ≠ x.v.ownBlock := fun e => by
    have := rows_ne hx h.row (by decide)
    rw [← e] at this
    rcases this with e | e
    · cases e
    · exact e rfl
  have hrow := h.row.kept hg (.inr hne)
  have hne' : v'.ownBlock ≠ some g := by
    rcases hat with e | e
    · rw [e]; exact fun e => hne e.symm
    · rw [e]; intro e; have := Option.some.inj e; omega
  have hset : ∀ i, i ≠ g → (w'.setCell ⟨g, Y.length * 11 + 10, none⟩ v').heap[i]? = w'.heap[i]? := fun i hi => Below.heap_setCell _ _ _ _ hi
  have hpw := h.apart
  rw [List.pairwise_append] at hpw
  have hap : ∀ y ∈ Y, y.v.ownBlock = none ∨ y.v.ownBlock ≠ x.v.ownBlock := fun y hy => hpw.2.2 y hy x (by simp)
  refine ⟨⟨?_, fun y hy => ?_, ?_⟩, ?_, fun j => hrow.frozenAt j, fun i h1 h2 h3 => (hset i h3).trans (hg.block i h1 h2), ?_⟩
  · have := (hrow.stored (Y.length * 11 + 10) v').1
    rw [set_last Y x l v'] at this
    rw [show (Y ++ [recP x l v']).length = (Y ++ [x]).length by simp]
    exact this
  · rcases List.mem_append.1 hy with hy | hy
    · have hy1 := h.each y (by simp [hy])
      refine own_kept (hy1.kept hg (hap y hy)) fun g' hg' => hset g' ?_
      rintro rfl
      have := rows_ne hy1 h.row (by decide)
      rw [hg'] at this
      rcases this with e | e
      · cases e
      · exact e rfl
    · obtain rfl := List.mem_singleton.1 hy
      refine own_kept (w := w') ?_ fun g' hg' => hset g' (fun e => hne' (e ▸ hg'))
      show w'.ownsRow lo LT 3 v' (x.p.recipe ++ [l]).length (linesC (x.p.recipe ++ [l]))
      rw [List.length_append, linesC_app]; exact ho
  · rw [List.pairwise_append]
    refine ⟨hpw.1, List.pairwise_singleton _ _, fun y hy z hz => ?_⟩
    obtain rfl := List.mem_singleton.1 hz
    show y.v.ownBlock = none ∨ y.v.ownBlock ≠ v'.ownBlock
    rcases hat with e | e
    · rw [e]; exact hap y hy
    · rw [e]
      cases hb : y.v.ownBlock with
      | none => exact .inl rfl
      | some k =>
        refine .inr fun e => ?_
        have := ((h.each y (by simp [hy])).lt k hb).2
        have := Option.some.inj e
        omega
  · rw [hrow.cellAt _ (by simp; omega), pvsC_get (k := Y.length) (by simp) (by decide)]
    simp [pvC, partC]
  · exact ((Below.refl lo w).grown hg (by omega) fun j ej => (hx.lt j ej).1).setCell hlt.1 _

theorem row_some {w : World} {lo : Nat} {a : Option Addr} {n c : Nat} {X : List PV} (h : Ps w lo (.slice a n c) X) (h0 : X ≠ []) : ∃ g, a = some ⟨g, 0, none⟩ := by
  rcases h.row.2 with ⟨_, e⟩ | ⟨g, _, _, e, _⟩
  · exact absurd (List.length_eq_zero_iff.1 e) h0
  · injection e with e1; exact ⟨g, e1⟩
set_option maxHeartbeats 2000000 in
theorem add_rec (w : World) (lo : Nat) (a : Option Addr) (c : Nat) (X : List PV) (n : Nat) (t : Bs) (hlo : lo ≤ w.heap.size) (hX : Ps w lo (.slice a X.length c) X) (hl : X.length ≤ 200000) (hr : ∀ x ∈ X, x.p.recipe.length ≤ 200000) :
    Calls Tryz.prog 42 #[.slice a X.length c, .agg #[.int .i64 (n : Int), .string (str t), .bool true]] w (AddPost w lo (.slice a X.length c) X (Mp.addA (X.map PV.p) ⟨n, t, true⟩)) := by
  have HB := Lib.hid ((Below.refl w.heap.size w).alloc (Nat.le_refl _) (.cells #[.int .i64 (n : Int), .string (str t), .bool true] LT))
  have H0 := Lib.hid (lineBox w n t true)
  have c0 := cell_at (i := 0) H0.out rfl
  have c1 := cell_at (i := 1) H0.out rfl
  have c2 := cell_at (i := 2) H0.out rfl
  rcases List.eq_nil_or_concat X with rfl | ⟨Y, x, hXY⟩
  · have HN : Hid (Mp.addA (([] : List PV).map PV.p) ⟨n, t, true⟩ = none) := Lib.hid rfl
    clear hX hr
    go_enter Tryz.func42, Tryz.ntmps42
    go_wp2_with fail
    go_ret2
    rw [HN.out]
    exact ⟨⟨_, _, _, rfl⟩, HB.out.mono hlo, fun g h1 _ _ => HB.out.block g h1⟩
  · rw [List.concat_eq_append] at hXY
    obtain ⟨g, rfl⟩ := row_some hX (by rw [hXY]; simp)
    have hlen : X.length = Y.length + 1 := by rw [hXY]; simp
    have hXr := hX.row
    have HP0 := Lib.hid (hX.below HB.out)
    have hcell : ∀ j, j < X.length * 11 → (w.alloc (.cells #[.int .i64 (n : Int), .string (str t), .bool true] LT)).cell? ⟨g, j, none⟩ = (pvsC X)[j]? := fun j hj => HP0.out.row.cellAt j hj
    have hk0 : (w.alloc (.cells #[.int .i64 (n : Int), .string (str t), .bool true] LT)).cell? ⟨g, Y.length * 11, none⟩ = some (.int .i64 (x.p.kind : Int)) := by
      have := hcell (Y.length * 11 + 0) (by omega)
      rw [pvsC_get (k := Y.length) (by omega) (by decide)] at this
      rw [Nat.add_zero] at this
      rw [this]
      have hx : X[Y.length]'(by omega) = x := by simp [hXY]
      rw [hx]; rfl
    have hk10 : (w.alloc (.cells #[.int .i64 (n : Int), .string (str t), .bool true] LT)).cell? ⟨g, Y.length * 11 + 10, none⟩ = some x.v := by
      have := hcell (Y.length * 11 + 10) (by omega)
      rw [pvsC_get (k := Y.length) (by omega) (by decide)] at this
      rw [this]
      have hx : X[Y.length]'(by omega) = x := by simp [hXY]
      rw [hx]; rfl
    have hw1 : IntKind.i64.wrap ((Y.length : Int) + 1 - 1) = (Y.length : Int) := by rw [IntWalk.i64_in _ (by omega)]; omega
    have hw2 : (Y.length : Int) < (Y.length : Int) + 1 := by omega
    have hw3 : ((Y.length : Int) < 0) = False := by simp
    have hcap : Y.length + 1 ≤ c := by
      rcases hXr.2 with ⟨_, e⟩ | ⟨_, cap, _, e, _, _, h1, _⟩
      · omega
      · injection e with _ _ e3; omega
    by_cases hk : x.p.kind = 1
    · have HN : Hid (Mp.addA (X.map PV.p) ⟨n, t, true⟩ = some (Y.map PV.p ++ [{ x.p with recipe := x.p.recipe ++ [⟨n, t, true⟩] }])) := Lib.hid (by
        unfold Mp.addA
        rw [if_pos rfl, hXY, List.map_append, List.map_singleton, List.getLast?_concat]
        refine (if_pos hk).trans ?_
        rw [List.dropLast_concat])
      have hkn : ((x.p.kind : Int) != 1) = false := by rw [hk]; rfl
      obtain ⟨i0, hi, hz0, hz1, hz2⟩ := info_parts infoLT
      have hxe := hX.each x (by rw [hXY]; simp)
      have hrl := hr x (by rw [hXY]; simp)
      obtain ⟨av, cv, hv⟩ := owns_slice hxe
      have hX3 : ∀ o, Ps (((w.alloc (.cells #[.int .i64 (n : Int), .string (str t), .bool true] LT)).alloc o).drew) lo (.slice (some ⟨g, 0, none⟩) (Y.length + 1) c) (Y ++ [x]) := fun o => by
        have := (HP0.out.below ((Below.refl _ _).alloc (Nat.le_refl _) o)).below (Below.refl _ _).drew
        rw [hlen, hXY] at this; exact this
      have HX3 := Lib.hid hX3
      have HE3 := Lib.hid fun o => by
        have := (hX3 o).each x (by simp)
        rw [hv] at this; exact this
      have HV := Lib.hid hv
      have hY : Hid (Y.length + 1 = (Y ++ [x]).length) := Lib.hid (by simp)
      have HXY := Lib.hid hXY
      rw [hv] at hk10
      have e10 : ∀ o, ((w.alloc (.cells #[.int .i64 (n : Int), .string (str t), .bool true] LT)).alloc o).cell? ⟨g, Y.length * 11 + 10, none⟩ = some (.slice av x.p.recipe.length cv) := fun o => (((Below.refl _ _).alloc (Nat.le_refl _) o).cell (p := ⟨g, Y.length * 11 + 10, none⟩) (HP0.out.row.lt g rfl).2).trans hk10
      clear hcell hX hr hXr hxe hX3 hv hXY
      rw [hlen]
      go_enter Tryz.func42, Tryz.ntmps42
      go_wp2_with fail
      go_region_law (refine step_append_own rfl _ _ LLT rfl lo LT i0 (.agg #[.int .i64 0, .string ByteArray.empty, .bool false]) 3 32 Tryz.underlying42 hi hz0 hz1 hz2 rfl (by decide) (.slice av x.p.recipe.length cv) x.p.recipe.length (linesC x.p.recipe) (by simp [go_sem]) (HE3.out _) ⟨w.heap.size + 1, 0, none⟩ 1 1 [.int .i64 (n : Int), .string (str t), .bool true] (by simp [go_sem]) rfl (cells_new (w.alloc (.cells #[.int .i64 (n : Int), .string (str t), .bool true] LT)) #[.int .i64 (n : Int), .string (str t), .bool true] LT (by simp)) (by simp [Value.oneCell']) (by unfold maxLen; omega) (by omega) (by simp; omega) ?_; intro v1 w1 hown1 hgrow1 hat1; obtain ⟨a1, c1, rfl⟩ := owns_slice hown1; obtain ⟨g1, g2, g3, g4, g5⟩ := Ps.rec_ (l := ⟨n, t, true⟩) (HX3.out _) hY.out hown1 (HV.out ▸ hgrow1) (HV.out ▸ hat1); have z2 := g3 (Y.length * 11 + 10))
      all_goals go_wp2_with fail
      all_goals go_ret2
      all_goals rw [HN.out]
      all_goals exact ⟨⟨Y ++ [recP x ⟨n, t, true⟩ (.slice a1 (x.p.recipe.length + 1) c1)], some ⟨g, 0, none⟩, c, by rw [List.map_append, List.map_singleton]; rfl, by rw [List.length_append]; rfl, by rw [List.length_append]; exact g1⟩,
        (((HB.out.mono hlo).alloc (by simp; omega) _).drew).trans g5, fun i h1 h2 h3 => (g4 i (by simp; omega) (fun e => h3 x (by rw [HXY.out]; simp) e.symm) (fun e => h2 (by rw [e]; rfl))).trans ((HB.out.alloc (by simp) _).drew.block i h1)⟩
    · have HN : Hid (Mp.addA (X.map PV.p) ⟨n, t, true⟩ = none) := Lib.hid (by
        unfold Mp.addA
        rw [if_pos rfl, hXY, List.map_append, List.map_singleton, List.getLast?_concat]
        exact if_neg hk)
      have hkn : ((x.p.kind : Int) != 1) = true := by rw [bne_iff_ne]; omega
      clear hcell hX hr hXr hk10
      rw [hlen]
      go_enter Tryz.func42, Tryz.ntmps42
      go_wp2_with fail
      go_ret2
      rw [HN.out]
      exact ⟨⟨_, _, _, rfl⟩, HB.out.mono hlo, fun g h1 _ _ => HB.out.block g h1⟩
/-- At any line. -/
theorem add_any (w : World) (lo : Nat) (a : Option Addr) (c : Nat) (X : List PV) (n : Nat) (t : Bs) (q : Bool) (hlo : lo ≤ w.heap.size) (hX : Ps w lo (.slice a X.length c) X) (hl : X.length ≤ 200000) (hr : ∀ x ∈ X, x.p.recipe.length ≤ 200000) (hs : t.length ≤ 100000) :
    Calls Tryz.prog 42 #[.slice a X.length c, .agg #[.int .i64 (n : Int), .string (str t), .bool q]] w (AddPost w lo (.slice a X.length c) X (Mp.addA (X.map PV.p) ⟨n, t, q⟩)) := by
  cases q with
  | true => exact add_rec w lo a c X n t hlo hX hl hr
  | false => exact add_row w lo a c X n t hlo hX hl hs

theorem assign_rec {s : Bs} {p : Mp.P} (h : Mp.assignA s = some p) : p.recipe = [] := by
  unfold Mp.assignA Mp.assignO at h
  split at h
  · cases h
  · split at h
    · cases h
    · split at h
      · cases h
      · obtain rfl := Option.some.inj h; rfl
theorem names_rec {s : Bs} {k : Nat} {p : Mp.P} (h : Mp.namesA k s = some p) : p.recipe = [] := by
  unfold Mp.namesA at h
  split at h
  · cases h
  · obtain rfl := Option.some.inj h; rfl
theorem rule_rec {s : Bs} {n : Nat} {p : Mp.P} (h : Mp.ruleA n s = some p) : p.recipe.length ≤ 1 := by
  unfold Mp.ruleA at h
  split at h
  · cases h
  · split at h
    · cases h
    · split at h
      · cases h
      · unfold Mp.ruleAt at h
        split at h
        · cases h
        · obtain rfl := Option.some.inj h
          show (Mp.recA n _).length ≤ 1
          unfold Mp.recA; split <;> simp
theorem part_rec {s : Bs} {n : Nat} {p : Mp.P} (h : Mp.partA n s = some p) : p.recipe.length ≤ 1 := by
  unfold Mp.partA at h
  rw [Option.map_eq_some_iff] at h
  obtain ⟨q, h, rfl⟩ := h
  show q.recipe.length ≤ 1
  unfold Mp.oneA at h
  split at h
  · rename_i p1 h1
    obtain rfl := Option.some.inj h
    rw [assign_rec h1]; simp
  · unfold Mp.specialA at h
    split at h
    · rw [Option.map_eq_some_iff] at h
      obtain ⟨q, h, rfl⟩ := h
      show q.recipe.length ≤ 1
      rw [assign_rec h]; simp
    · split at h
      · split at h
        · rename_i q h2
          obtain rfl := Option.some.inj h
          show q.recipe.length ≤ 1
          rw [assign_rec h2]; simp
        · rw [names_rec h]; simp
      · split at h
        · rw [names_rec h]; simp
        · exact rule_rec h
theorem addA_rec {l m : List Mp.P} {x : Ip.L} {k : Nat} (h : Mp.addA l x = some m) (hl : ∀ p ∈ l, p.recipe.length ≤ k) : ∀ p ∈ m, p.recipe.length ≤ k + 1 := by
  unfold Mp.addA at h
  split at h
  · split at h
    · rename_i p hp
      split at h
      · obtain rfl := Option.some.inj h
        intro q hq
        rcases List.mem_append.1 hq with hq | hq
        · have := hl q (List.dropLast_subset _ hq); omega
        · obtain rfl := List.mem_singleton.1 hq
          have := hl p (List.mem_of_getLast? hp)
          simp; omega
      · cases h
    · cases h
  · rw [Option.map_eq_some_iff] at h
    obtain ⟨p, h, rfl⟩ := h
    intro q hq
    rcases List.mem_append.1 hq with hq | hq
    · have := hl q hq; omega
    · obtain rfl := List.mem_singleton.1 hq
      have := part_rec h; omega
end Go.Proofs.YtgednccpjegbmaaGreatDoor.Mw
