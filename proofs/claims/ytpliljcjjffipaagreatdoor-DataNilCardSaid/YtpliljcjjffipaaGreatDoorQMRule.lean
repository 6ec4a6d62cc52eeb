/-
  A part in its box: stored and loaded whole; makefile.names and makefile.assignment.
  makefile.rule.
-/
import Derived.Laws.Rows
import Derived.Test.YtpliljcjjffipaaGreatDoorQMMagic
import Derived.Laws.OwnMore
namespace Go.Proofs.YtpliljcjjffipaaGreatDoor.Mw
open Go.RowKit Go.Proofs.YtpliljcjjffipaaGreatDoor Go.Proofs.YtpliljcjjffipaaGreatDoor.Ww Go.Proofs.YtpliljcjjffipaaGreatDoor.Iw
set_option maxRecDepth 100000

abbrev PT : TypeId := 170
/-- A part's cells, with the slice of its recipe. -/
def partC (p : Mp.P) (v : Value) : Array Value := #[.int .i64 (p.kind : Int), .int .i64 (p.line : Int), .string (str p.name), .string (str p.op), .string (str p.value), .bool p.over, .bool p.out, .string (str p.targets), .string (str p.needs), .string (str p.order), v]
def partV (p : Mp.P) (v : Value) : Value := .agg (partC p v)
def zeroC : Array Value := #[.int .i64 0, .int .i64 0, .string ⟨#[]⟩, .string ⟨#[]⟩, .string ⟨#[]⟩, .bool false, .bool false, .string ⟨#[]⟩, .string ⟨#[]⟩, .string ⟨#[]⟩, .slice none 0 0]
def zeroV : Value := .agg zeroC
theorem sizeP : (Tryz.prog.info? PT).map (·.size) = some 11 := by kernel_rfl
theorem undP : Tryz.prog.underlying PT = some (.struct (Tryz.prog.fieldsOf PT)) := by kernel_rfl
theorem oneZ : zeroC.all (·.oneCell') = true := by simp [zeroC, Value.oneCell']
theorem oneP (p : Mp.P) (a : Option Addr) (n c : Nat) : (partC p (.slice a n c)).all (·.oneCell') = true := by simp [partC, Value.oneCell']
/-- The answer's box. -/
theorem results_two {P : Program} {fn : Func} {p q : Tmp} {ty : TypeId} (h : fn.results = #[.cell p ty, .tmp q]) (tmps : Array Value) (w : World) (g : Nat) (t : TypeId) (cs : Array Value) (fr : Nat × Nat) (d : TypeDesc) (r : Value)
    (hp : tmps.getD p undef = .pointer (some ⟨g, 0, none⟩)) (hq : tmps.getD q undef = r) (hg : w.heap[g]? = some (.cells cs t fr))
    (hu : P.underlying ty = some d) (hd : (match d with | .struct _ | .array _ _ => true | _ => false) = true) (hi : (P.info? ty).map (·.size) = some cs.size) :
    (results fn tmps).run P w = .ok (.tuple #[.agg cs, r]) w := by
  have hp' : tmps[p]?.getD undef = .pointer (some ⟨g, 0, none⟩) := by simpa using hp
  have hq' : tmps[q]?.getD undef = r := by simpa using hq
  simp [results, h, hp', hq', asAddr, run_loadVar_row w g t ty cs fr d hg hu hd hi, Result.andThen]
/-- What names and assignment return. -/
def AsPost (w : World) (o : Option Mp.P) (e : Ending) (w' : World) : Prop :=
  (match o with
    | none => e = .returned (.tuple #[zeroV, .bool false])
    | some p => p.recipe = [] ∧ e = .returned (.tuple #[partV p (.slice none 0 0), .bool true])) ∧ Below w.heap.size w w'

theorem TrimT (w : World) (s : Bs) (hs : s.length ≤ 100000) : Calls Tryz.prog 109 #[.string (str s)] w fun e w' => e = .returned (.string (str (Mp.trim s))) ∧ Below w.heap.size w w' :=
  Iw.Trim_any w (str s) (by rw [str_size]; omega)

set_option maxHeartbeats 1000000 in
theorem names_any (w : World) (k : Nat) (s : Bs) (hs : s.length ≤ 100000) :
    Calls Tryz.prog 227 #[.int .i64 (k : Int), .string (str s)] w (AsPost w (Mp.namesA k s)) := by
  cases h : Mp.has [58, 61] s with
  | true =>
    have HN : Hid (Mp.namesA k s = none) := Lib.hid (if_pos h)
    have HC := Lib.hid fun W => has_any W s [58, 61] hs (by decide) (by decide) true (Lib.hid h)
    clear h
    go_enter Tryz.func227, Tryz.ntmps227
    go_wp2_with fail
    refine (HC.out _).mono ?_
    rintro e w1 ⟨rfl, B1⟩
    have HB := Lib.hid (((Below.refl w.heap.size w).alloc (Nat.le_refl _) (.cells zeroC PT)).trans (B1.mono (by simp)))
    have H1 := Lib.hid ((B1.block w.heap.size (by simp)).trans (heap_alloc_last w (.cells zeroC PT)))
    clear B1
    go_wp2_with (refine wpList_store_row rfl PT _ _ rfl w.heap.size zeroC rfl rfl PT zeroC H1.out sizeP rfl oneZ ?_)
    (try simp only [Exit.inBlock, Exit.then])
    refine bodyPost_ret (results_two Tryz.results227 _ _ w.heap.size PT zeroC (0, 0) _ (.bool false) rfl rfl (setRow_heap _ _ _ _ _ _ H1.out) undP rfl sizeP) rfl ?_
    rw [HN.out]
    exact ⟨rfl, below_setRow HB.out (Nat.le_refl _) _⟩
  | false =>
    have HN : Hid (Mp.namesA k s = some { Mp.zero with kind := k, needs := Mp.trim s }) := Lib.hid (if_neg (by rw [h]; exact Bool.false_ne_true))
    have HC := Lib.hid fun W => has_any W s [58, 61] hs (by decide) (by decide) false (Lib.hid h)
    have HT := Lib.hid fun W => TrimT W s hs
    clear h
    go_enter Tryz.func227, Tryz.ntmps227
    go_wp2_with fail
    refine (HC.out _).mono ?_
    rintro e w1 ⟨rfl, B1⟩
    go_wp2_with fail
    refine (HT.out _).mono ?_
    rintro e w2 ⟨rfl, B2⟩
    have hs1 := B1.size
    rw [World.size_alloc] at hs1
    have HB := Lib.hid ((((Below.refl w.heap.size w).alloc (Nat.le_refl _) (.cells zeroC PT)).trans (B1.mono (by simp))).trans (B2.mono (by omega)))
    have H1 := Lib.hid ((B2.block w.heap.size (by omega)).trans ((B1.block w.heap.size (by simp)).trans (heap_alloc_last w (.cells zeroC PT))))
    clear B1 B2
    go_wp2_with (refine wpList_store_row rfl PT _ _ rfl w.heap.size (partC { Mp.zero with kind := k, needs := Mp.trim s } (.slice none 0 0)) rfl rfl PT zeroC H1.out sizeP rfl (oneP _ _ _ _) ?_)
    (try simp only [Exit.inBlock, Exit.then])
    refine bodyPost_ret (results_two Tryz.results227 _ _ w.heap.size PT (partC { Mp.zero with kind := k, needs := Mp.trim s } (.slice none 0 0)) (0, 0) _ (.bool true) rfl rfl (setRow_heap _ _ _ _ _ _ H1.out) undP rfl sizeP) rfl ?_
    rw [HN.out]
    exact ⟨⟨rfl, rfl⟩, below_setRow HB.out (Nat.le_refl _) _⟩

theorem odd_any (w : World) (n : Bs) (hn : n.length ≤ 100000) (q : Bool) (hq : Hid (Mp.oddA n = q)) :
    Calls Tryz.prog 226 #[.string (str n), .string ⟨#[32, 9, 10, 58, 35, 61]⟩] w fun e w' => e = .returned (.bool q) ∧ Below w.heap.size w w' :=
  (contains_any w (str n) (by rw [str_size]; omega)).mono fun e w' ⟨he, hw⟩ => ⟨by rw [he, by8_str, hq.out], hw⟩
theorem empty_yes {l : Bs} (h : l = []) : (str l).toList = [] := by rw [Lib.toList_data]; exact h
theorem empty_no {l : Bs} (h : ¬ l = []) : ¬ (str l).toList = [] := by rw [Lib.toList_data]; exact h
theorem isEmpty_no {l : Bs} (h : ¬ l = []) : (str l).toList.isEmpty = false := by
  cases h' : (str l).toList with
  | nil => exact absurd h' (empty_no h)
  | cons => rfl

set_option maxHeartbeats 1000000 in
theorem assignment_any (w : World) (s : Bs) (hs : s.length ≤ 100000) :
    Calls Tryz.prog 174 #[.string (str s)] w (AsPost w (Mp.assignA s)) := by
  have HO := Lib.hid fun W => operator_any W s hs
  obtain ⟨hl1, hl2, hl3⟩ := Mp.oper_len s
  unfold Mp.assignA
  generalize Mp.operA s = o at *
  have htl := Mp.trim_len o.1
  have HT1 := Lib.hid fun W => TrimT W o.1 (by omega)
  have HT2 := Lib.hid fun W => TrimT W o.2.2 (by omega)
  have HQ := Lib.hid fun W q hq => odd_any W (Mp.trim o.1) (by omega) q hq
  clear htl
  by_cases h0 : o.2.1 = []
  · have HN : Hid (Mp.assignO o = none) := Lib.hid (if_pos h0)
    have hE := empty_yes h0
    clear h0
    go_enter Tryz.func174, Tryz.ntmps174
    go_wp2_with fail
    refine (HO.out _).mono ?_
    rintro e w1 ⟨rfl, B1⟩
    go_wp2_with fail
    refine (HT1.out _).mono ?_
    rintro e w2 ⟨rfl, B2⟩
    have hs1 := B1.size
    rw [World.size_alloc] at hs1
    have HB := Lib.hid ((((Below.refl w.heap.size w).alloc (Nat.le_refl _) (.cells zeroC PT)).trans (B1.mono (by simp))).trans (B2.mono (by omega)))
    have H1 := Lib.hid ((B2.block w.heap.size (by omega)).trans ((B1.block w.heap.size (by simp)).trans (heap_alloc_last w (.cells zeroC PT))))
    clear B1 B2
    go_wp2_with (refine wpList_store_row rfl PT _ _ rfl w.heap.size zeroC rfl rfl PT zeroC H1.out sizeP rfl oneZ ?_)
    (try simp only [Exit.inBlock, Exit.then])
    refine bodyPost_ret (results_two Tryz.results174 _ _ w.heap.size PT zeroC (0, 0) _ (.bool false) rfl rfl (setRow_heap _ _ _ _ _ _ H1.out) undP rfl sizeP) rfl ?_
    rw [HN.out]
    exact ⟨rfl, below_setRow HB.out (Nat.le_refl _) _⟩
  · have hE := empty_no h0
    have hF := isEmpty_no h0
    by_cases h1 : Mp.trim o.1 = []
    · have HN : Hid (Mp.assignO o = none) := Lib.hid (by unfold Mp.assignO; rw [if_neg h0, if_pos h1])
      have hE1 := empty_yes h1
      clear h0 h1
      go_enter Tryz.func174, Tryz.ntmps174
      go_wp2_with fail
      refine (HO.out _).mono ?_
      rintro e w1 ⟨rfl, B1⟩
      go_wp2_with fail
      refine (HT1.out _).mono ?_
      rintro e w2 ⟨rfl, B2⟩
      have hs1 := B1.size
      rw [World.size_alloc] at hs1
      have HB := Lib.hid ((((Below.refl w.heap.size w).alloc (Nat.le_refl _) (.cells zeroC PT)).trans (B1.mono (by simp))).trans (B2.mono (by omega)))
      have H1 := Lib.hid ((B2.block w.heap.size (by omega)).trans ((B1.block w.heap.size (by simp)).trans (heap_alloc_last w (.cells zeroC PT))))
      clear B1 B2
      go_wp2_with (refine wpList_store_row rfl PT _ _ rfl w.heap.size zeroC rfl rfl PT zeroC H1.out sizeP rfl oneZ ?_)
      (try simp only [Exit.inBlock, Exit.then])
      refine bodyPost_ret (results_two Tryz.results174 _ _ w.heap.size PT zeroC (0, 0) _ (.bool false) rfl rfl (setRow_heap _ _ _ _ _ _ H1.out) undP rfl sizeP) rfl ?_
      rw [HN.out]
      exact ⟨rfl, below_setRow HB.out (Nat.le_refl _) _⟩
    · have hE1 := empty_no h1
      have hF1 := isEmpty_no h1
      cases hq : Mp.oddA (Mp.trim o.1) with
      | true =>
        have HN : Hid (Mp.assignO o = none) := Lib.hid (by unfold Mp.assignO; rw [if_neg h0, if_neg h1, if_pos hq])
        have HQ1 := Lib.hid fun W => HQ.out W true (Lib.hid hq)
        clear h0 h1 hq HQ
        go_enter Tryz.func174, Tryz.ntmps174
        go_wp2_with fail
        refine (HO.out _).mono ?_
        rintro e w1 ⟨rfl, B1⟩
        go_wp2_with fail
        refine (HT1.out _).mono ?_
        rintro e w2 ⟨rfl, B2⟩
        go_wp2_with fail
        refine (HQ1.out _).mono ?_
        rintro e w3 ⟨rfl, B3⟩
        have hs1 := B1.size
        rw [World.size_alloc] at hs1
        have hs2 := B2.size
        have HB := Lib.hid (((((Below.refl w.heap.size w).alloc (Nat.le_refl _) (.cells zeroC PT)).trans (B1.mono (by simp))).trans (B2.mono (by omega))).trans (B3.mono (by omega)))
        have H1 := Lib.hid ((B3.block w.heap.size (by omega)).trans ((B2.block w.heap.size (by omega)).trans ((B1.block w.heap.size (by simp)).trans (heap_alloc_last w (.cells zeroC PT)))))
        clear B1 B2 B3
        go_wp2_with (refine wpList_store_row rfl PT _ _ rfl w.heap.size zeroC rfl rfl PT zeroC H1.out sizeP rfl oneZ ?_)
        (try simp only [Exit.inBlock, Exit.then])
        refine bodyPost_ret (results_two Tryz.results174 _ _ w.heap.size PT zeroC (0, 0) _ (.bool false) rfl rfl (setRow_heap _ _ _ _ _ _ H1.out) undP rfl sizeP) rfl ?_
        rw [HN.out]
        exact ⟨rfl, below_setRow HB.out (Nat.le_refl _) _⟩
      | false =>
        have HN : Hid (Mp.assignO o = some { Mp.zero with name := Mp.trim o.1, op := o.2.1, value := Mp.trim o.2.2 }) := Lib.hid (by unfold Mp.assignO; rw [if_neg h0, if_neg h1, if_neg (by rw [hq]; exact Bool.false_ne_true)])
        have HQ1 := Lib.hid fun W => HQ.out W false (Lib.hid hq)
        clear h0 h1 hq HQ
        go_enter Tryz.func174, Tryz.ntmps174
        go_wp2_with fail
        refine (HO.out _).mono ?_
        rintro e w1 ⟨rfl, B1⟩
        go_wp2_with fail
        refine (HT1.out _).mono ?_
        rintro e w2 ⟨rfl, B2⟩
        go_wp2_with fail
        refine (HQ1.out _).mono ?_
        rintro e w3 ⟨rfl, B3⟩
        go_wp2_with fail
        refine (HT2.out _).mono ?_
        rintro e w4 ⟨rfl, B4⟩
        have hs1 := B1.size
        rw [World.size_alloc] at hs1
        have hs2 := B2.size
        have hs3 := B3.size
        have HB := Lib.hid ((((((Below.refl w.heap.size w).alloc (Nat.le_refl _) (.cells zeroC PT)).trans (B1.mono (by simp))).trans (B2.mono (by omega))).trans (B3.mono (by omega))).trans (B4.mono (by omega)))
        have H1 := Lib.hid ((B4.block w.heap.size (by omega)).trans ((B3.block w.heap.size (by omega)).trans ((B2.block w.heap.size (by omega)).trans ((B1.block w.heap.size (by simp)).trans (heap_alloc_last w (.cells zeroC PT))))))
        clear B1 B2 B3 B4
        go_wp2_with (refine wpList_store_row rfl PT _ _ rfl w.heap.size (partC { Mp.zero with name := Mp.trim o.1, op := o.2.1, value := Mp.trim o.2.2 } (.slice none 0 0)) rfl rfl PT zeroC H1.out sizeP rfl (oneP _ _ _ _) ?_)
        (try simp only [Exit.inBlock, Exit.then])
        refine bodyPost_ret (results_two Tryz.results174 _ _ w.heap.size PT (partC { Mp.zero with name := Mp.trim o.1, op := o.2.1, value := Mp.trim o.2.2 } (.slice none 0 0)) (0, 0) _ (.bool true) rfl rfl (setRow_heap _ _ _ _ _ _ H1.out) undP rfl sizeP) rfl ?_
        rw [HN.out]
        exact ⟨⟨rfl, rfl⟩, below_setRow HB.out (Nat.le_refl _) _⟩
end Go.Proofs.YtpliljcjjffipaaGreatDoor.Mw
namespace Go.Proofs.YtpliljcjjffipaaGreatDoor.Mw
open Go.RowKit Go.Proofs.YtpliljcjjffipaaGreatDoor Go.Proofs.YtpliljcjjffipaaGreatDoor.Ww Go.Proofs.YtpliljcjjffipaaGreatDoor.Iw
set_option maxRecDepth 100000

/-- What rule, special and part return. -/
def PartPost (w : World) (o : Option Mp.P) (e : Ending) (w' : World) : Prop :=
  (match o with
    | none => e = .returned (.tuple #[zeroV, .bool false])
    | some p => ∃ a c, e = .returned (.tuple #[partV p (.slice a p.recipe.length c), .bool true]) ∧ w'.ownsRow w.heap.size LT 3 (.slice a p.recipe.length c) p.recipe.length (linesC p.recipe)) ∧ Below w.heap.size w w'
theorem CutPA (s stops : Bs) (hs : s.length ≤ 100000) (hst : stops.length ≤ 100000) :
    ∃ x : Int, ∀ w, Calls Tryz.prog 195 #[.string (str s), .string ⟨stops.toArray⟩] w fun e w' => e = .returned (.tuple #[.string (str (Mp.pairA stops s).1), .int .u8 x, .string (str (Mp.pairA stops s).2)]) ∧ Below w.heap.size w w' := by
  unfold Mp.pairA
  cases h : Mp.cut stops s with
  | none => exact ⟨0, fun w => CutN w s stops hs hst h⟩
  | some k => exact ⟨_, fun w => CutS w s stops hs hst k h⟩
theorem lineBox (w : World) (n : Nat) (t : Bs) (q : Bool) : (w.alloc (.cells #[.int .i64 (n : Int), .string (str t), .bool q] LT)).heap[w.heap.size]? = some (.cells #[.int .i64 (n : Int), .string (str t), .bool q] LT (0, 0)) := World.alloc_heap_new _ _

/-- The two boxes that a function of a line begins with: the line's own, and the answer's. -/
structure Two (w : World) (n : Nat) (t : Bs) (q : Bool) (W : World) : Prop where
  line : W.heap[w.heap.size]? = some (.cells #[.int .i64 (n : Int), .string (str t), .bool q] LT (0, 0))
  out : W.heap[w.heap.size + 1]? = some (.cells zeroC PT (0, 0))
  below : Below w.heap.size w W
theorem Two.size {w : World} {n : Nat} {t : Bs} {q : Bool} {W : World} (h : Two w n t q W) : w.heap.size + 2 ≤ W.heap.size := (Array.getElem?_eq_some_iff.1 h.out).1
theorem Two.new (w : World) (n : Nat) (t : Bs) (q : Bool) : Two w n t q ((w.alloc (.cells #[.int .i64 (n : Int), .string (str t), .bool q] LT)).alloc (.cells zeroC PT)) :=
  ⟨heap_alloc2_old _ _ _, heap_alloc2_new _ _ _, ((Below.refl _ _).alloc (Nat.le_refl _) _).alloc (by simp) _⟩
theorem Two.go {w : World} {n : Nat} {t : Bs} {q : Bool} {W W' : World} (h : Two w n t q W) (hB : Below W.heap.size W W') : Two w n t q W' := by
  have hs := h.size
  exact ⟨(hB.block _ (by omega)).trans h.line, (hB.block _ (by omega)).trans h.out, h.below.trans (hB.mono (by omega))⟩
theorem Two.alloc {w : World} {n : Nat} {t : Bs} {q : Bool} {W : World} (h : Two w n t q W) (o : Obj) : Two w n t q (W.alloc o) := h.go ((Below.refl _ _).alloc (Nat.le_refl _) _)
theorem Two.setRow {w : World} {n : Nat} {t : Bs} {q : Bool} {W : World} (h : Two w n t q W) {g : Nat} (hg : w.heap.size + 2 ≤ g) (cs : Array Value) : Two w n t q (W.setRow g cs) :=
  ⟨(setRow_other _ _ _ _ (by omega)).trans h.line, (setRow_other _ _ _ _ (by omega)).trans h.out, below_setRow h.below (by omega) _⟩
theorem Two.setCell {w : World} {n : Nat} {t : Bs} {q : Bool} {W : World} (h : Two w n t q W) {g : Nat} (hg : w.heap.size + 2 ≤ g) (i : Nat) (v : Value) : Two w n t q (W.setCell ⟨g, i, none⟩ v) :=
  ⟨(Below.heap_setCell _ _ _ _ (by show _ ≠ g; omega)).trans h.line, (Below.heap_setCell _ _ _ _ (by show _ ≠ g; omega)).trans h.out, h.below.setCell (by show _ ≤ g; omega) _⟩
/-- A row that a store doesn't touch. -/
theorem own_kept {w w' : World} {base : Nat} {e : TypeId} {z : Nat} {v : Value} {n : Nat} {xs : List Value} (h : w.ownsRow base e z v n xs) (hk : ∀ g, v.ownBlock = some g → w'.heap[g]? = w.heap[g]?) : w'.ownsRow base e z v n xs := by
  refine ⟨h.1, ?_⟩
  rcases h.2 with h | ⟨g, cap, cur, rfl, h2, h3, h4⟩
  · exact .inl h
  · exact .inr ⟨g, cap, cur, rfl, h2, (hk g rfl).trans h3, h4⟩
theorem own_set {w : World} {base : Nat} {e : TypeId} {z : Nat} {g c : Nat} {n : Nat} {xs : List Value} (h : w.ownsRow base e z (.slice (some ⟨g, 0, none⟩) n c) n xs) {b i : Nat} (hb : b ≠ g) {u : Value} : (w.setCell ⟨b, i, none⟩ u).ownsRow base e z (.slice (some ⟨g, 0, none⟩) n c) n xs :=
  own_kept h fun k hk => by cases hk; exact Below.heap_setCell _ _ _ _ (Ne.symm hb)
theorem own_setRow {w : World} {base : Nat} {e : TypeId} {z : Nat} {g c : Nat} {n : Nat} {xs : List Value} (h : w.ownsRow base e z (.slice (some ⟨g, 0, none⟩) n c) n xs) {b : Nat} (hb : b ≠ g) {cs : Array Value} : (w.setRow b cs).ownsRow base e z (.slice (some ⟨g, 0, none⟩) n c) n xs :=
  own_kept h fun k hk => by cases hk; exact setRow_other _ _ _ _ (Ne.symm hb)
theorem Two.cells {w : World} {n : Nat} {t : Bs} {q : Bool} {W : World} (h : Two w n t q W) : W.cell? ⟨w.heap.size, 0, none⟩ = some (.int .i64 (n : Int)) ∧ W.cell? ⟨w.heap.size, 1, none⟩ = some (.string (str t)) ∧ W.cell? ⟨w.heap.size, 2, none⟩ = some (.bool q) :=
  ⟨cell_at h.line rfl, cell_at h.line rfl, cell_at h.line rfl⟩
set_option maxHeartbeats 2000000 in
theorem rule_any (w : World) (n : Nat) (t : Bs) (q : Bool) (hs : t.length ≤ 100000) :
    Calls Tryz.prog 228 #[.agg #[.int .i64 (n : Int), .string (str t), .bool q]] w (PartPost w (Mp.ruleA n t)) := by
  have H0 := Lib.hid (Two.new w n t q)
  cases h : Mp.cut [58] t with
  | none =>
    have HN : Hid (Mp.ruleA n t = none) := Lib.hid (by unfold Mp.ruleA; rw [h])
    have HC := Lib.hid fun W => CutN W t [58] hs (by decide) h
    have HT := Lib.hid fun W => TrimT W t hs
    clear h
    have c1 := H0.out.cells.2.1
    go_enter Tryz.func228, Tryz.ntmps228
    go_wp2_with fail
    refine (HC.out _).mono ?_
    rintro e w1 ⟨rfl, B1⟩
    have H1 := Lib.hid (H0.out.go B1)
    go_wp2_with fail
    refine (HT.out _).mono ?_
    rintro e w2 ⟨rfl, B2⟩
    have H2 := Lib.hid (H1.out.go B2)
    clear B1 B2
    go_wp2_with (refine wpList_store_row rfl PT _ _ rfl (w.heap.size + 1) zeroC rfl rfl PT zeroC H2.out.out sizeP rfl oneZ ?_)
    (try simp only [Exit.inBlock, Exit.then])
    refine bodyPost_ret (results_two Tryz.results228 _ _ (w.heap.size + 1) PT zeroC (0, 0) _ (.bool false) rfl rfl (setRow_heap _ _ _ _ _ _ H2.out.out) undP rfl sizeP) rfl ?_
    rw [HN.out]
    exact ⟨rfl, below_setRow H2.out.below (Nat.le_succ _) _⟩
  | some k =>
    have HC := Lib.hid fun W => CutS W t [58] hs (by decide) k h
    have hk := Mp.cut_lt h
    have hx : t.getD k 0 = 58 := by simpa using Mp.cut_hits h
    have hl1 : (t.take k).length ≤ 100000 := by rw [List.length_take]; omega
    have hl2 : (t.drop (k + 1)).length ≤ 100000 := by rw [List.length_drop]; omega
    have HT := Lib.hid fun W => TrimT W (t.take k) hl1
    have HR : Mp.ruleA n t = if Mp.trim (t.take k) = [] then none else if (t.drop (k + 1)).head? = some 58 then none else Mp.ruleAt n (Mp.trim (t.take k)) (t.drop (k + 1)) := by
      conv => lhs; unfold Mp.ruleA
      rw [h]
    rw [hx] at HC
    clear h hk hx hl1
    generalize t.take k = tk at *
    generalize t.drop (k + 1) = b at *
    generalize hT : Mp.trim tk = T at *
    clear hT
    have c1 := H0.out.cells.2.1
    have c0 := H0.out.cells.1
    by_cases h0 : T = []
    · have HN : Hid (Mp.ruleA n t = none) := Lib.hid (HR.trans (if_pos h0))
      have hE := empty_yes h0
      clear HR h0
      go_enter Tryz.func228, Tryz.ntmps228
      go_wp2_with fail
      refine (HC.out _).mono ?_
      rintro e w1 ⟨rfl, B1⟩
      have H1 := Lib.hid (H0.out.go B1)
      go_wp2_with fail
      refine (HT.out _).mono ?_
      rintro e w2 ⟨rfl, B2⟩
      have H2 := Lib.hid (H1.out.go B2)
      clear B1 B2
      go_wp2_with (refine wpList_store_row rfl PT _ _ rfl (w.heap.size + 1) zeroC rfl rfl PT zeroC H2.out.out sizeP rfl oneZ ?_)
      (try simp only [Exit.inBlock, Exit.then])
      refine bodyPost_ret (results_two Tryz.results228 _ _ (w.heap.size + 1) PT zeroC (0, 0) _ (.bool false) rfl rfl (setRow_heap _ _ _ _ _ _ H2.out.out) undP rfl sizeP) rfl ?_
      rw [HN.out]
      exact ⟨rfl, below_setRow H2.out.below (Nat.le_succ _) _⟩
    · have hE := empty_no h0
      have hF := isEmpty_no h0
      by_cases h1 : b.head? = some 58
      · have HN : Hid (Mp.ruleA n t = none) := Lib.hid (HR.trans (by rw [if_neg h0, if_pos h1]))
        have HP := Lib.hid fun W => Pre_c W b 58 true (Lib.hid (by rw [h1]; rfl))
        clear HR h0 h1
        go_enter Tryz.func228, Tryz.ntmps228
        go_wp2_with fail
        refine (HC.out _).mono ?_
        rintro e w1 ⟨rfl, B1⟩
        have H1 := Lib.hid (H0.out.go B1)
        go_wp2_with fail
        refine (HT.out _).mono ?_
        rintro e w2 ⟨rfl, B2⟩
        have H2 := Lib.hid (H1.out.go B2)
        clear B1 B2
        go_wp2_with fail
        refine (HP.out _).mono ?_
        rintro e w3 ⟨rfl, rfl⟩
        go_wp2_with (refine wpList_store_row rfl PT _ _ rfl (w.heap.size + 1) zeroC rfl rfl PT zeroC H2.out.out sizeP rfl oneZ ?_)
        (try simp only [Exit.inBlock, Exit.then])
        refine bodyPost_ret (results_two Tryz.results228 _ _ (w.heap.size + 1) PT zeroC (0, 0) _ (.bool false) rfl rfl (setRow_heap _ _ _ _ _ _ H2.out.out) undP rfl sizeP) rfl ?_
        rw [HN.out]
        exact ⟨rfl, below_setRow H2.out.below (Nat.le_succ _) _⟩
      · have HP := Lib.hid fun W => Pre_c W b 58 false (Lib.hid (beq_eq_false_iff_ne.2 h1))
        have HR2 : Mp.ruleA n t = Mp.ruleAt n T b := HR.trans (by rw [if_neg h0, if_neg h1])
        clear HR h0 h1
        obtain ⟨x1, hA⟩ : ∃ x1 : Int, ∀ W, Calls Tryz.prog 195 #[.string (str b), .string ⟨#[59]⟩] W fun e w' => e = .returned (.tuple #[.string (str (Mp.pairA [59] b).1), .int .u8 x1, .string (str (Mp.pairA [59] b).2)]) ∧ Below W.heap.size W w' := CutPA b [59] hl2 (by decide)
        obtain ⟨ll1, ll2⟩ := Mp.pair_len [59] b
        have HA := Lib.hid hA
        clear hA
        have HR3 : Mp.ruleAt n T b = if Mp.has [61] (Mp.pairA [59] b).1 = true then none else some { Mp.zero with kind := 1, targets := T, needs := Mp.trim (Mp.pairA [124] (Mp.pairA [59] b).1).1, order := Mp.trim (Mp.pairA [124] (Mp.pairA [59] b).1).2, recipe := Mp.recA n (Mp.trim (Mp.pairA [59] b).2) } := rfl
        rw [HR3] at HR2
        clear HR3
        generalize (Mp.pairA [59] b).1 = al at *
        generalize (Mp.pairA [59] b).2 = rc at *
        cases hh : Mp.has [61] al with
        | true =>
          have HN : Hid (Mp.ruleA n t = none) := Lib.hid (HR2.trans (by rw [if_pos hh]))
          have HH := Lib.hid fun W => has_any W al [61] (by omega) (by decide) (by decide) true (Lib.hid hh)
          clear HR2 hh
          go_enter Tryz.func228, Tryz.ntmps228
          go_wp2_with fail
          refine (HC.out _).mono ?_
          rintro e w1 ⟨rfl, B1⟩
          have H1 := Lib.hid (H0.out.go B1)
          go_wp2_with fail
          refine (HT.out _).mono ?_
          rintro e w2 ⟨rfl, B2⟩
          have H2 := Lib.hid (H1.out.go B2)
          clear B1 B2
          go_wp2_with fail
          refine (HP.out _).mono ?_
          rintro e w3 ⟨rfl, rfl⟩
          go_wp2_with fail
          refine (HA.out _).mono ?_
          rintro e w3 ⟨rfl, B3⟩
          have H3 := Lib.hid (H2.out.go B3)
          go_wp2_with fail
          refine (HH.out _).mono ?_
          rintro e w4 ⟨rfl, B4⟩
          have H4 := Lib.hid (H3.out.go B4)
          clear B3 B4
          go_wp2_with (refine wpList_store_row rfl PT _ _ rfl (w.heap.size + 1) zeroC rfl rfl PT zeroC H4.out.out sizeP rfl oneZ ?_)
          (try simp only [Exit.inBlock, Exit.then])
          refine bodyPost_ret (results_two Tryz.results228 _ _ (w.heap.size + 1) PT zeroC (0, 0) _ (.bool false) rfl rfl (setRow_heap _ _ _ _ _ _ H4.out.out) undP rfl sizeP) rfl ?_
          rw [HN.out]
          exact ⟨rfl, below_setRow H4.out.below (Nat.le_succ _) _⟩
        | false =>
          have HR4 := HR2.trans (by rw [if_neg (by rw [hh]; exact Bool.false_ne_true)])
          have HH := Lib.hid fun W => has_any W al [61] (by omega) (by decide) (by decide) false (Lib.hid hh)
          clear HR2 hh
          obtain ⟨x2, hA2⟩ : ∃ x2 : Int, ∀ W, Calls Tryz.prog 195 #[.string (str al), .string ⟨#[124]⟩] W fun e w' => e = .returned (.tuple #[.string (str (Mp.pairA [124] al).1), .int .u8 x2, .string (str (Mp.pairA [124] al).2)]) ∧ Below W.heap.size W w' := CutPA al [124] (by omega) (by decide)
          have HA2 := Lib.hid hA2
          obtain ⟨lm1, lm2⟩ := Mp.pair_len [124] al
          clear hA2
          generalize (Mp.pairA [124] al).1 = nd at *
          generalize (Mp.pairA [124] al).2 = od at *
          have HT1 := Lib.hid fun W => TrimT W nd (by omega)
          have HT2 := Lib.hid fun W => TrimT W od (by omega)
          have HT3 := Lib.hid fun W => TrimT W rc (by omega)
          have hlr := Mp.trim_len rc
          generalize Mp.trim nd = ND at *
          generalize Mp.trim od = OD at *
          generalize Mp.trim rc = RC at *
          by_cases hr : RC = []
          · have HN : Hid (Mp.ruleA n t = some ⟨1, 0, [], [], [], false, false, T, ND, OD, []⟩) := Lib.hid (HR4.trans (by unfold Mp.recA; rw [if_pos hr]; rfl))
            have hE1 := empty_yes hr
            clear HR4 hr
            go_enter Tryz.func228, Tryz.ntmps228
            go_wp2_with fail
            refine (HC.out _).mono ?_
            rintro e w1 ⟨rfl, B1⟩
            have H1 := Lib.hid (H0.out.go B1)
            go_wp2_with fail
            refine (HT.out _).mono ?_
            rintro e w2 ⟨rfl, B2⟩
            have H2 := Lib.hid (H1.out.go B2)
            clear B1 B2
            go_wp2_with fail
            refine (HP.out _).mono ?_
            rintro e w3 ⟨rfl, rfl⟩
            go_wp2_with fail
            refine (HA.out _).mono ?_
            rintro e w3 ⟨rfl, B3⟩
            have H3 := Lib.hid (H2.out.go B3)
            go_wp2_with fail
            refine (HH.out _).mono ?_
            rintro e w4 ⟨rfl, B4⟩
            have H4 := Lib.hid (H3.out.go B4)
            clear B3 B4
            go_wp2_with fail
            refine (HA2.out _).mono ?_
            rintro e w5 ⟨rfl, B5⟩
            have H5 := Lib.hid (H4.out.go B5)
            go_wp2_with fail
            refine (HT1.out _).mono ?_
            rintro e w6 ⟨rfl, B6⟩
            have H6 := Lib.hid (H5.out.go B6)
            go_wp2_with fail
            refine (HT2.out _).mono ?_
            rintro e w7 ⟨rfl, B7⟩
            have H7 := Lib.hid (H6.out.go B7)
            clear B5 B6 B7
            have HX := Lib.hid (heap_alloc_last w7 (.cells zeroC PT))
            go_wp2_with (refine wpList_store_row rfl PT _ _ rfl w7.heap.size (partC ⟨1, 0, [], [], [], false, false, T, ND, OD, []⟩ (.slice none 0 0)) rfl rfl PT zeroC HX.out sizeP rfl (oneP _ _ _ _) ?_)
            refine (HT3.out _).mono ?_
            rintro e w8 ⟨rfl, B8⟩
            have hs7 := H7.out.size
            have HY := Lib.hid ((B8.block w7.heap.size (by simp)).trans (setRow_heap (w7.alloc (.cells zeroC PT)) w7.heap.size _ (partC ⟨1, 0, [], [], [], false, false, T, ND, OD, []⟩ (.slice none 0 0)) _ _ HX.out))
            have H8 := Lib.hid ((((H7.out.alloc (.cells zeroC PT)).setRow hs7 (partC ⟨1, 0, [], [], [], false, false, T, ND, OD, []⟩ (.slice none 0 0)))).go B8)
            clear B8
            go_wp2_with (first
              | (refine wpList_load_row rfl PT _ rfl w7.heap.size rfl PT (partC ⟨1, 0, [], [], [], false, false, T, ND, OD, []⟩ (.slice none 0 0)) (0, 0) _ HY.out undP rfl sizeP ?_)
              | (refine wpList_store_row rfl PT _ _ rfl (w.heap.size + 1) (partC ⟨1, 0, [], [], [], false, false, T, ND, OD, []⟩ (.slice none 0 0)) rfl rfl PT zeroC H8.out.out sizeP rfl (oneP _ _ _ _) ?_))
            (try simp only [Exit.inBlock, Exit.then])
            refine bodyPost_ret (results_two Tryz.results228 _ _ (w.heap.size + 1) PT (partC ⟨1, 0, [], [], [], false, false, T, ND, OD, []⟩ (.slice none 0 0)) (0, 0) _ (.bool true) rfl rfl (setRow_heap _ _ _ _ _ _ H8.out.out) undP rfl sizeP) rfl ?_
            rw [HN.out]
            exact ⟨⟨none, 0, rfl, World.ownsRow_nil _ _ _ _⟩, below_setRow H8.out.below (Nat.le_succ _) _⟩
          · have HN : Hid (Mp.ruleA n t = some ⟨1, 0, [], [], [], false, false, T, ND, OD, [⟨n, RC, true⟩]⟩) := Lib.hid (HR4.trans (by unfold Mp.recA; rw [if_neg hr]; rfl))
            have hE1 := empty_no hr
            have hF1 := isEmpty_no hr
            clear HR4 hr
            go_enter Tryz.func228, Tryz.ntmps228
            go_wp2_with fail
            refine (HC.out _).mono ?_
            rintro e w1 ⟨rfl, B1⟩
            have H1 := Lib.hid (H0.out.go B1)
            go_wp2_with fail
            refine (HT.out _).mono ?_
            rintro e w2 ⟨rfl, B2⟩
            have H2 := Lib.hid (H1.out.go B2)
            clear B1 B2
            go_wp2_with fail
            refine (HP.out _).mono ?_
            rintro e w3 ⟨rfl, rfl⟩
            go_wp2_with fail
            refine (HA.out _).mono ?_
            rintro e w3 ⟨rfl, B3⟩
            have H3 := Lib.hid (H2.out.go B3)
            go_wp2_with fail
            refine (HH.out _).mono ?_
            rintro e w4 ⟨rfl, B4⟩
            have H4 := Lib.hid (H3.out.go B4)
            clear B3 B4
            go_wp2_with fail
            refine (HA2.out _).mono ?_
            rintro e w5 ⟨rfl, B5⟩
            have H5 := Lib.hid (H4.out.go B5)
            go_wp2_with fail
            refine (HT1.out _).mono ?_
            rintro e w6 ⟨rfl, B6⟩
            have H6 := Lib.hid (H5.out.go B6)
            go_wp2_with fail
            refine (HT2.out _).mono ?_
            rintro e w7 ⟨rfl, B7⟩
            have H7 := Lib.hid (H6.out.go B7)
            clear B5 B6 B7
            have HX := Lib.hid (heap_alloc_last w7 (.cells zeroC PT))
            go_wp2_with (refine wpList_store_row rfl PT _ _ rfl w7.heap.size (partC ⟨1, 0, [], [], [], false, false, T, ND, OD, []⟩ (.slice none 0 0)) rfl rfl PT zeroC HX.out sizeP rfl (oneP _ _ _ _) ?_)
            refine (HT3.out _).mono ?_
            rintro e w8 ⟨rfl, B8⟩
            have hs7 := H7.out.size
            have HY := Lib.hid ((B8.block w7.heap.size (by simp)).trans (setRow_heap (w7.alloc (.cells zeroC PT)) w7.heap.size _ (partC ⟨1, 0, [], [], [], false, false, T, ND, OD, []⟩ (.slice none 0 0)) _ _ HX.out))
            have H8 := Lib.hid ((((H7.out.alloc (.cells zeroC PT)).setRow hs7 (partC ⟨1, 0, [], [], [], false, false, T, ND, OD, []⟩ (.slice none 0 0)))).go B8)
            have hs8 : w7.heap.size + 1 ≤ w8.heap.size := (Array.getElem?_eq_some_iff.1 HY.out).1
            clear B8
            have c8 := H8.out.cells.1
            have HY9 := Lib.hid ((((Below.refl w8.heap.size w8).alloc (Nat.le_refl _) (.cells #[.int .i64 (n : Int), .string (str RC), .bool true] LT)).block w7.heap.size (by omega)).trans HY.out)
            have d10 : (w8.alloc (.cells #[.int .i64 (n : Int), .string (str RC), .bool true] LT)).cell? ⟨w7.heap.size, 10, none⟩ = some (.slice none 0 0) := cell_at HY9.out rfl
            have e10 : (w8.alloc (.cells #[.int .i64 (n : Int), .string (str RC), .bool true] LT)).frozen? ⟨w7.heap.size, 10, none⟩ = false := frozen_at HY9.out _
            have HYA := Lib.hid (heap_set3 (i := 10) HY9.out (.slice (some ⟨w8.heap.size, 0, none⟩) 1 1))
            have HZ := Lib.hid ((H8.out.alloc (.cells #[.int .i64 (n : Int), .string (str RC), .bool true] LT)).setCell (g := w7.heap.size) (by omega) 10 (.slice (some ⟨w8.heap.size, 0, none⟩) 1 1))
            go_wp2_with (first
              | (refine wpList_load_row rfl PT _ rfl w7.heap.size rfl PT (partC ⟨1, 0, [], [], [], false, false, T, ND, OD, [⟨n, RC, true⟩]⟩ (.slice (some ⟨w8.heap.size, 0, none⟩) 1 1)) (0, 0) _ HYA.out undP rfl sizeP ?_)
              | (refine wpList_store_row rfl PT _ _ rfl (w.heap.size + 1) (partC ⟨1, 0, [], [], [], false, false, T, ND, OD, [⟨n, RC, true⟩]⟩ (.slice (some ⟨w8.heap.size, 0, none⟩) 1 1)) rfl rfl PT zeroC HZ.out.out sizeP rfl (oneP _ _ _ _) ?_))
            (try simp only [Exit.inBlock, Exit.then])
            refine bodyPost_ret (results_two Tryz.results228 _ _ (w.heap.size + 1) PT (partC ⟨1, 0, [], [], [], false, false, T, ND, OD, [⟨n, RC, true⟩]⟩ (.slice (some ⟨w8.heap.size, 0, none⟩) 1 1)) (0, 0) _ (.bool true) rfl rfl (setRow_heap _ _ _ _ _ _ HZ.out.out) undP rfl sizeP) rfl ?_
            rw [HN.out]
            have own := World.ownsRow_lit (e := LT) (base := w.heap.size) (size := 3) w8 #[.int .i64 (n : Int), .string (str RC), .bool true] 1 (by omega) (by decide) rfl
            exact ⟨⟨_, _, rfl, own_setRow (own_set own (by omega)) (by omega)⟩, below_setRow HZ.out.below (Nat.le_succ _) _⟩
end Go.Proofs.YtpliljcjjffipaaGreatDoor.Mw
