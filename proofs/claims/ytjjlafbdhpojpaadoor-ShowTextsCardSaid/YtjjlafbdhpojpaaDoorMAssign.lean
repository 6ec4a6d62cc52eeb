/-
  A part in its box: stored and loaded whole; makefile.names and makefile.assignment.
-/
import Derived.Laws.Rows
import Derived.Test.YtjjlafbdhpojpaaDoorMOper
import Derived.Test.YtjjlafbdhpojpaaDoorMMagic
namespace Go.Proofs.YtjjlafbdhpojpaaDoor.Mw
open Go.RowKit Go.Proofs.YtjjlafbdhpojpaaDoor Go.Proofs.YtjjlafbdhpojpaaDoor.Ww Go.Proofs.YtjjlafbdhpojpaaDoor.Iw
set_option maxRecDepth 100000

abbrev PT : TypeId := 42
/-- A part's cells, with the slice of its recipe. -/
def partC (p : Mp.P) (v : Value) : Array Value := #[.int .i64 (p.kind : Int), .int .i64 (p.line : Int), .string (str p.name), .string (str p.op), .string (str p.value), .bool p.over, .bool p.out, .string (str p.targets), .string (str p.needs), .string (str p.order), v]
def partV (p : Mp.P) (v : Value) : Value := .agg (partC p v)
def zeroC : Array Value := #[.int .i64 0, .int .i64 0, .string ⟨#[]⟩, .string ⟨#[]⟩, .string ⟨#[]⟩, .bool false, .bool false, .string ⟨#[]⟩, .string ⟨#[]⟩, .string ⟨#[]⟩, .slice none 0 0]
def zeroV : Value := .agg zeroC
theorem sizeP : (Tryd.prog.info? PT).map (·.size) = some 11 := by kernel_rfl
theorem undP : Tryd.prog.underlying PT = some (.struct (Tryd.prog.fieldsOf PT)) := by kernel_rfl
theorem oneZ : zeroC.all (·.oneCell') = true := by simp [zeroC, Value.oneCell']
theorem oneP (p : Mp.P) (a : Option Addr) (n c : Nat) : (partC p (.slice a n c)).all (·.oneCell') = true := by simp [partC, Value.oneCell']
/-- The answer's box. -/
theorem results_two {P : Program} {fn : Func} {p q : Tmp} {ty : TypeId} (h : fn.results = #[.cell p ty, .tmp q]) (tmps : Array Value) (w : World) (g : Nat) (t : TypeId) (cs : Array Value) (fr : Nat × Nat) (d : TypeDesc) (r : Value)
    (hp : tmps.getD p undef = .pointer (some ⟨g, 0, none⟩)) (hq : tmps.getD q undef = r) (hg : w.heap[g]? = some (.cells cs t fr))
    (hu : P.underlying ty = some d) (hd : (match d with | .struct _ | .array _ _ => true | _ => false) = true) (hi : (P.info? ty).map (·.size) = some cs.size) :
    (results fn tmps).run P w = .ok (.tuple #[.agg cs, r]) w := by
  have hp' : tmps[p]?.getD undef = .pointer (some ⟨g, 0, none⟩) := by simpa using hp
  have hq' : tmps[q]?.getD undef = r := by simpa using hq
  simp [results, h, hp', hq', asAddr, run_loadVar_row w g t ty cs fr d hg hu hd hi, Result.andThen]
/-- What names and assignment return. -/
def AsPost (w : World) (o : Option Mp.P) (e : Ending) (w' : World) : Prop :=
  (match o with
    | none => e = .returned (.tuple #[zeroV, .bool false])
    | some p => p.recipe = [] ∧ e = .returned (.tuple #[partV p (.slice none 0 0), .bool true])) ∧ Below w.heap.size w w'

theorem TrimT (w : World) (s : Bs) (hs : s.length ≤ 100000) : Calls Tryd.prog 32 #[.string (str s)] w fun e w' => e = .returned (.string (str (Mp.trim s))) ∧ Below w.heap.size w w' :=
  Iw.Trim_any w (str s) (by rw [str_size]; omega)

set_option maxHeartbeats 1000000 in
theorem names_any (w : World) (k : Nat) (s : Bs) (hs : s.length ≤ 100000) :
    Calls Tryd.prog 76 #[.int .i64 (k : Int), .string (str s)] w (AsPost w (Mp.namesA k s)) := by
  cases h : Mp.has [58, 61] s with
  | true =>
    have HN : Hid (Mp.namesA k s = none) := Lib.hid (if_pos h)
    have HC := Lib.hid fun W => has_any W s [58, 61] hs (by decide) (by decide) true (Lib.hid h)
    clear h
    go_enter Tryd.func76, Tryd.ntmps76
    go_wp2_with fail
    refine (HC.out _).mono ?_
    rintro e w1 ⟨rfl, B1⟩
    have HB := Lib.hid (((Below.refl w.heap.size w).alloc (Nat.le_refl _) (.cells zeroC PT)).trans (B1.mono (by simp)))
    have H1 := Lib.hid ((B1.block w.heap.size (by simp)).trans (heap_alloc_last w (.cells zeroC PT)))
    clear B1
    go_wp2_with (refine wpList_store_row rfl PT _ _ rfl w.heap.size zeroC rfl rfl PT zeroC H1.out sizeP rfl oneZ ?_)
    (try simp only [Exit.inBlock, Exit.then])
    refine bodyPost_ret (results_two Tryd.results76 _ _ w.heap.size PT zeroC (0, 0) _ (.bool false) rfl rfl (setRow_heap _ _ _ _ _ _ H1.out) undP rfl sizeP) rfl ?_
    rw [HN.out]
    exact ⟨rfl, below_setRow HB.out (Nat.le_refl _) _⟩
  | false =>
    have HN : Hid (Mp.namesA k s = some { Mp.zero with kind := k, needs := Mp.trim s }) := Lib.hid (if_neg (by rw [h]; exact Bool.false_ne_true))
    have HC := Lib.hid fun W => has_any W s [58, 61] hs (by decide) (by decide) false (Lib.hid h)
    have HT := Lib.hid fun W => TrimT W s hs
    clear h
    go_enter Tryd.func76, Tryd.ntmps76
    go_wp2_with fail
    refine (HC.out _).mono ?_
    rintro e w1 ⟨rfl, B1⟩
    go_wp2_with fail
    refine (HT.out _).mono ?_
    rintro e w2 ⟨rfl, B2⟩
    have hs1 := B1.size
    rw [World.size_alloc] at hs1
    have HB := Lib.hid ((((Below.refl w.heap.size w).alloc (Nat.le_refl _) (.cells zeroC PT)).trans (B1.mono (by simp))).trans (B2.mono (by omega)))
    have H1 := Lib.hid ((B2.block w.heap.size (by omega)).trans ((B1.block w.heap.size (by simp)).trans (heap_alloc_last w (.cells zeroC PT))))
    clear B1 B2
    go_wp2_with (refine wpList_store_row rfl PT _ _ rfl w.heap.size (partC { Mp.zero with kind := k, needs := Mp.trim s } (.slice none 0 0)) rfl rfl PT zeroC H1.out sizeP rfl (oneP _ _ _ _) ?_)
    (try simp only [Exit.inBlock, Exit.then])
    refine bodyPost_ret (results_two Tryd.results76 _ _ w.heap.size PT (partC { Mp.zero with kind := k, needs := Mp.trim s } (.slice none 0 0)) (0, 0) _ (.bool true) rfl rfl (setRow_heap _ _ _ _ _ _ H1.out) undP rfl sizeP) rfl ?_
    rw [HN.out]
    exact ⟨⟨rfl, rfl⟩, below_setRow HB.out (Nat.le_refl _) _⟩

theorem odd_any (w : World) (n : Bs) (hn : n.length ≤ 100000) (q : Bool) (hq : Hid (Mp.oddA n = q)) :
    Calls Tryd.prog 74 #[.string (str n), .string ⟨#[32, 9, 10, 58, 35, 61]⟩] w fun e w' => e = .returned (.bool q) ∧ Below w.heap.size w w' :=
  (contains_any w (str n) (by rw [str_size]; omega)).mono fun e w' ⟨he, hw⟩ => ⟨by rw [he, by8_str, hq.out], hw⟩
theorem empty_yes {l : Bs} (h : l = []) : (str l).toList = [] := by rw [Lib.toList_data]; exact h
theorem empty_no {l : Bs} (h : ¬ l = []) : ¬ (str l).toList = [] := by rw [Lib.toList_data]; exact h
theorem isEmpty_no {l : Bs} (h : ¬ l = []) : (str l).toList.isEmpty = false := by
  cases h' : (str l).toList with
  | nil => exact absurd h' (empty_no h)
  | cons => rfl

set_option maxHeartbeats 1000000 in
theorem assignment_any (w : World) (s : Bs) (hs : s.length ≤ 100000) :
    Calls Tryd.prog 52 #[.string (str s)] w (AsPost w (Mp.assignA s)) := by
  have HO := Lib.hid fun W => operator_any W s hs
  obtain ⟨hl1, hl2, hl3⟩ := Mp.oper_len s
  unfold Mp.assignA
  generalize Mp.operA s = o at *
  have htl := Mp.trim_len o.1
  have HT1 := Lib.hid fun W => TrimT W o.1 (by omega)
  have HT2 := Lib.hid fun W => TrimT W o.2.2 (by omega)
  have HQ := Lib.hid fun W q hq => odd_any W (Mp.trim o.1) (by omega) q hq
  clear htl
  by_cases h0 : o.2.1 = []
  · have HN : Hid (Mp.assignO o = none) := Lib.hid (if_pos h0)
    have hE := empty_yes h0
    clear h0
    go_enter Tryd.func52, Tryd.ntmps52
    go_wp2_with fail
    refine (HO.out _).mono ?_
    rintro e w1 ⟨rfl, B1⟩
    go_wp2_with fail
    refine (HT1.out _).mono ?_
    rintro e w2 ⟨rfl, B2⟩
    have hs1 := B1.size
    rw [World.size_alloc] at hs1
    have HB := Lib.hid ((((Below.refl w.heap.size w).alloc (Nat.le_refl _) (.cells zeroC PT)).trans (B1.mono (by simp))).trans (B2.mono (by omega)))
    have H1 := Lib.hid ((B2.block w.heap.size (by omega)).trans ((B1.block w.heap.size (by simp)).trans (heap_alloc_last w (.cells zeroC PT))))
    clear B1 B2
    go_wp2_with (refine wpList_store_row rfl PT _ _ rfl w.heap.size zeroC rfl rfl PT zeroC H1.out sizeP rfl oneZ ?_)
    (try simp only [Exit.inBlock, Exit.then])
    refine bodyPost_ret (results_two Tryd.results52 _ _ w.heap.size PT zeroC (0, 0) _ (.bool false) rfl rfl (setRow_heap _ _ _ _ _ _ H1.out) undP rfl sizeP) rfl ?_
    rw [HN.out]
    exact ⟨rfl, below_setRow HB.out (Nat.le_refl _) _⟩
  · have hE := empty_no h0
    have hF := isEmpty_no h0
    by_cases h1 : Mp.trim o.1 = []
    · have HN : Hid (Mp.assignO o = none) := Lib.hid (by unfold Mp.assignO; rw [if_neg h0, if_pos h1])
      have hE1 := empty_yes h1
      clear h0 h1
      go_enter Tryd.func52, Tryd.ntmps52
      go_wp2_with fail
      refine (HO.out _).mono ?_
      rintro e w1 ⟨rfl, B1⟩
      go_wp2_with fail
      refine (HT1.out _).mono ?_
      rintro e w2 ⟨rfl, B2⟩
      have hs1 := B1.size
      rw [World.size_alloc] at hs1
      have HB := Lib.hid ((((Below.refl w.heap.size w).alloc (Nat.le_refl _) (.cells zeroC PT)).trans (B1.mono (by simp))).trans (B2.mono (by omega)))
      have H1 := Lib.hid ((B2.block w.heap.size (by omega)).trans ((B1.block w.heap.size (by simp)).trans (heap_alloc_last w (.cells zeroC PT))))
      clear B1 B2
      go_wp2_with (refine wpList_store_row rfl PT _ _ rfl w.heap.size zeroC rfl rfl PT zeroC H1.out sizeP rfl oneZ ?_)
      (try simp only [Exit.inBlock, Exit.then])
      refine bodyPost_ret (results_two Tryd.results52 _ _ w.heap.size PT zeroC (0, 0) _ (.bool false) rfl rfl (setRow_heap _ _ _ _ _ _ H1.out) undP rfl sizeP) rfl ?_
      rw [HN.out]
      exact ⟨rfl, below_setRow HB.out (Nat.le_refl _) _⟩
    · have hE1 := empty_no h1
      have hF1 := isEmpty_no h1
      cases hq : Mp.oddA (Mp.trim o.1) with
      | true =>
        have HN : Hid (Mp.assignO o = none) := Lib.hid (by unfold Mp.assignO; rw [if_neg h0, if_neg h1, if_pos hq])
        have HQ1 := Lib.hid fun W => HQ.out W true (Lib.hid hq)
        clear h0 h1 hq HQ
        go_enter Tryd.func52, Tryd.ntmps52
        go_wp2_with fail
        refine (HO.out _).mono ?_
        rintro e w1 ⟨rfl, B1⟩
        go_wp2_with fail
        refine (HT1.out _).mono ?_
        rintro e w2 ⟨rfl, B2⟩
        go_wp2_with fail
        refine (HQ1.out _).mono ?_
        rintro e w3 ⟨rfl, B3⟩
        have hs1 := B1.size
        rw [World.size_alloc] at hs1
        have hs2 := B2.size
        have HB := Lib.hid (((((Below.refl w.heap.size w).alloc (Nat.le_refl _) (.cells zeroC PT)).trans (B1.mono (by simp))).trans (B2.mono (by omega))).trans (B3.mono (by omega)))
        have H1 := Lib.hid ((B3.block w.heap.size (by omega)).trans ((B2.block w.heap.size (by omega)).trans ((B1.block w.heap.size (by simp)).trans (heap_alloc_last w (.cells zeroC PT)))))
        clear B1 B2 B3
        go_wp2_with (refine wpList_store_row rfl PT _ _ rfl w.heap.size zeroC rfl rfl PT zeroC H1.out sizeP rfl oneZ ?_)
        (try simp only [Exit.inBlock, Exit.then])
        refine bodyPost_ret (results_two Tryd.results52 _ _ w.heap.size PT zeroC (0, 0) _ (.bool false) rfl rfl (setRow_heap _ _ _ _ _ _ H1.out) undP rfl sizeP) rfl ?_
        rw [HN.out]
        exact ⟨rfl, below_setRow HB.out (Nat.le_refl _) _⟩
      | false =>
        have HN : Hid (Mp.assignO o = some { Mp.zero with name := Mp.trim o.1, op := o.2.1, value := Mp.trim o.2.2 }) := Lib.hid (by unfold Mp.assignO; rw [if_neg h0, if_neg h1, if_neg (by rw [hq]; exact Bool.false_ne_true)])
        have HQ1 := Lib.hid fun W => HQ.out W false (Lib.hid hq)
        clear h0 h1 hq HQ
        go_enter Tryd.func52, Tryd.ntmps52
        go_wp2_with fail
        refine (HO.out _).mono ?_
        rintro e w1 ⟨rfl, B1⟩
        go_wp2_with fail
        refine (HT1.out _).mono ?_
        rintro e w2 ⟨rfl, B2⟩
        go_wp2_with fail
        refine (HQ1.out _).mono ?_
        rintro e w3 ⟨rfl, B3⟩
        go_wp2_with fail
        refine (HT2.out _).mono ?_
        rintro e w4 ⟨rfl, B4⟩
        have hs1 := B1.size
        rw [World.size_alloc] at hs1
        have hs2 := B2.size
        have hs3 := B3.size
        have HB := Lib.hid ((((((Below.refl w.heap.size w).alloc (Nat.le_refl _) (.cells zeroC PT)).trans (B1.mono (by simp))).trans (B2.mono (by omega))).trans (B3.mono (by omega))).trans (B4.mono (by omega)))
        have H1 := Lib.hid ((B4.block w.heap.size (by omega)).trans ((B3.block w.heap.size (by omega)).trans ((B2.block w.heap.size (by omega)).trans ((B1.block w.heap.size (by simp)).trans (heap_alloc_last w (.cells zeroC PT))))))
        clear B1 B2 B3 B4
        go_wp2_with (refine wpList_store_row rfl PT _ _ rfl w.heap.size (partC { Mp.zero with name := Mp.trim o.1, op := o.2.1, value := Mp.trim o.2.2 } (.slice none 0 0)) rfl rfl PT zeroC H1.out sizeP rfl (oneP _ _ _ _) ?_)
        (try simp only [Exit.inBlock, Exit.then])
        refine bodyPost_ret (results_two Tryd.results52 _ _ w.heap.size PT (partC { Mp.zero with name := Mp.trim o.1, op := o.2.1, value := Mp.trim o.2.2 } (.slice none 0 0)) (0, 0) _ (.bool true) rfl rfl (setRow_heap _ _ _ _ _ _ H1.out) undP rfl sizeP) rfl ?_
        rw [HN.out]
        exact ⟨⟨rfl, rfl⟩, below_setRow HB.out (Nat.le_refl _) _⟩
end Go.Proofs.YtjjlafbdhpojpaaDoor.Mw
