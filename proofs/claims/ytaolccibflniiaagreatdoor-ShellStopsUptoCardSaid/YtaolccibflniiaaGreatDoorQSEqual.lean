/-
  maps.Values of a map of files, and slices.Collect of what it gives: the files, each once, in some order.
  (*Store).All: the files, by rising paths.
  Two files compared, as values.
  slices.Equal of two lists of files that are the same; of two lists of names that are the same.
-/
import Derived.RangeFuncNested
import Derived.RangeFuncBound
import Derived.RangeFuncCalls
import Derived.RangeFuncLeaves
import Derived.RangeFuncBox
import Derived.Shelf.Abstract
import Derived.Shelf.RegionOpen
import Derived.OwnWalkIn
import Derived.TacticsInMore
import Derived.LoopNIn
import Derived.LoopIn
import Derived.Sort.MapsRangeIn
import Derived.Sort.KeysCollected
import Derived.Maps.AppendAt
import Derived.Test.YtaolccibflniiaaGreatDoorQSCells
import Derived.Shelf.SlSortCmp.NoneTotal
import Derived.Sort.OwnSorted
import Derived.Test.YtaolccibflniiaaGreatDoorShelf
import Derived.Test.YtaolccibflniiaaGreatDoorQSPut
import Derived.Laws.StructEq
namespace Go.Proofs.YtaolccibflniiaaGreatDoor.Sw
open Go.RowKit Go.Proofs.YtaolccibflniiaaGreatDoor Go.Maps Go.Shelf
attribute [local go_sem] Oper.semAt_some
set_option maxRecDepth 100000

/-- These files have come; those at 'left' are still to come. -/
def Came (L : List F) (left : Lit → Bool) (xs : List F) : Prop := xs.Nodup ∧ ∀ f, f ∈ xs ↔ f ∈ L ∧ left (.string f.p) = false

theorem Came.start (L : List F) : Came L (Maps.has (Sp.mapOf L)) [] := by
  refine ⟨List.nodup_nil, fun f => ⟨fun h => (by cases h), fun ⟨h, h2⟩ => ?_⟩⟩
  rw [Sp.has_mapOf, Option.isSome_eq_false_iff, Option.isNone_iff_eq_none] at h2
  exact absurd rfl (Sp.get_none.1 h2 f h)

theorem Came.step {L : List F} {left : Lit → Bool} {xs : List F} {x : List UInt8} {f : F} (h : Came L left xs) (hs : Sp.Sorted L) (hl : left (.string x) = true) (hat : ∀ zd, (Sp.mapOf L).atKey (.string x) zd = Sp.fD f) :
    Came L (fun z => left z && !z.sameKey (.string x)) (xs ++ [f]) ∧ f ∈ L ∧ f.p = x := by
  have h1 : (Sp.get L x).isSome = true := by rw [← Sp.has_mapOf]; exact has_true_of_atKey hat
  obtain ⟨g, hg⟩ := Option.isSome_iff_exists.1 h1
  have e : f = g := (Sp.fD_inj ((Sp.at_mapOf_some hg .nil).symm.trans (hat .nil))).symm
  subst e
  obtain ⟨m1, m2⟩ := (Sp.get_some hs).1 hg
  refine ⟨⟨List.nodup_append.2 ⟨h.1, by simp, fun a ha b hb => ?_⟩, fun k => ?_⟩, m1, m2⟩
  · rintro rfl
    obtain rfl : a = f := by simpa using hb
    have := (h.2 a).1 ha
    rw [m2, hl] at this; cases this.2
  · rw [List.mem_append, h.2 k, List.mem_singleton]
    constructor
    · rintro (⟨k1, k2⟩ | rfl)
      · exact ⟨k1, by show (left (.string k.p) && _) = false; rw [k2]; rfl⟩
      · exact ⟨m1, by show (_ && !(Lit.string k.p).sameKey (.string x)) = false; rw [m2, Sp.same_str]; simp⟩
    · rintro ⟨k1, k2⟩
      have k2 : (left (.string k.p) && !(Lit.string k.p).sameKey (.string x)) = false := k2
      by_cases hk : k.p = x
      · exact .inr (Sp.sorted_uni hs k1 m1 (hk.trans m2.symm))
      · refine .inl ⟨k1, ?_⟩
        rw [Sp.same_str, show (k.p == x) = false by simpa using hk] at k2
        simpa using k2

theorem Came.all {L : List F} {left : Lit → Bool} {xs : List F} (h : Came L left xs) (hs : Sp.Sorted L) (hl : ∀ k, left k = false) : xs.Perm L := by
  refine (List.perm_ext_iff_of_nodup h.1 ?_).2 fun f => by rw [h.2 f, hl]; simp
  exact hs.imp fun {a b} hab e => Sp.lt_ne hab (congrArg Sp.F.p e)

def mkF (f : F) : Value := .agg #[.string (str f.p), .string (str f.t), .int .i64 f.c, .bool f.d]
theorem elem_inv (v : Value) (y : DataW Unit × List MemPlace) (h : fElem v = some y) : ∃ f : F, v = Value.agg #[.string (str f.p), .string (str f.t), .int .i64 f.c, .bool f.d] := by
  obtain ⟨f, hf, _⟩ := fElem_inv h
  exact ⟨f, hf⟩
theorem elem_of {f : F} {y : DataW Unit × List MemPlace} (h : fElem (Value.agg #[.string (str f.p), .string (str f.t), .int .i64 f.c, .bool f.d]) = some y) : y = (Sp.fD f, []) := by
  have := (fElem_mk f).symm.trans h
  exact (Option.some.inj this).symm

set_option maxHeartbeats 2000000 in
theorem vals1_in {L : List F} {bm : Nat} (n : Nat) (hn1 : 1 ≤ n) (l B : Nat) (J Jx : List F → World → Prop)
    (hY : ∀ pre x X, J pre X → pre.length < L.length → YieldAt Fence.wide (n - 1) Tryz.prog l #[.agg #[.string (str x.p), .string (str x.t), .int .i64 x.c, .bool x.d]] X fun e Y =>
      (e = .returned (.bool true) ∧ J (pre ++ [x]) Y ∧ KeepsWalks X Y) ∨ (e = .returned (.bool false) ∧ Jx (pre ++ [x]) Y))
    (W : World) (hJ : AbidesFrom W.heap.size J) (hm : W.cell? ⟨B, 0, none⟩ = some (.map (some bm))) (hM : MapAt W bm L) (h0 : J [] W) :
    CallsIn Fence.wide n Tryz.prog 102 #[.func (.yield l) #[] #[], .pointer (some ⟨B, 0, none⟩)] W fun e Y => (∃ v, e = .returned v) ∧
      ((∃ xs, xs.Perm L ∧ J xs Y) ∨ (∃ pre, True ∧ Jx pre Y)) := by
  have hs := hM.sorted
  refine callsIn_of_wp Tryz.func102 rfl trivial ?_ rfl
  simp only [Tryz.ntmps102, List.size_toArray, List.length_cons, List.length_nil, Nat.reduceAdd, Nat.reduceSub, Array.replicate_succ, Array.replicate_zero, List.push_toArray, List.append_toArray, List.nil_append, List.cons_append]
  gi_wp2_with (first
    | (gi_at_range; refine wpListIn_range_own _ rfl _ 61 rfl 9 44 key Tryz.underlying61 _ bm _ _ rfl hM.own ?_; intro w0 hrg0 hg0 hs0)
    | gi_in)
  go_frame
  gi_loopw [4] (fun _ wr => ∃ (left : Lit → Bool) (cnt : Nat) (xs : List F), wr.ranges Tryz.prog 9 fElem bm W.heap.size L.length (Sp.mapOf L) left cnt ∧ xs.length + cnt ≤ L.length ∧ Came L left xs ∧ J xs wr)
    (fun _ wr => wr.rangeLeft bm W.heap.size)
  case atStart =>
    exact ⟨_, _, [], hrg0, by rw [Sp.size_mapOf]; simp, Came.start L, hJ [] W w0 none h0 hg0 (fun r e => by cases e)⟩
  case round =>
    obtain ⟨left, cnt, xs, hrg, hcs, hC, hJs⟩ := hrel
    gi_wp2_with (first
      | (gi_at_next; refine wpListIn_next_ranges _ rfl _ rfl 9 key fElem encStr (fun f : F => Value.agg #[.string (str f.p), .string (str f.t), .int .i64 f.c, .bool f.d]) (fun key kl hk => by obtain ⟨x, hx, _⟩ := Maps.keyOf_str Tryz.underlying9 hk; exact ⟨x, hx⟩) elem_inv bm W.heap.size _ _ _ _ rfl hrg ?_ ?_)
      | gi_in)
    · intro hc0 hl0
      gi_wp2
      go_end0
      exact ⟨⟨_, rfl⟩, .inl ⟨xs, hC.all hs hl0, hJs⟩⟩
    · intro x f kl yd yp w2 cnt2 hkey hlk hv hat hrg2 hlt hg2 hs2 hen
      obtain ⟨x', ex, rfl, _⟩ := Maps.keyOf_str Tryz.underlying9 hkey
      obtain rfl : x = x' := encStr_inj ex
      obtain rfl : yd = Sp.fD f := (Prod.mk.inj (elem_of hv)).1
      have hC2 := (hC.step hs hlk hat).1
      have hJ2 : J xs w2 := hJ _ wr w2 (some W.heap.size) hJs hg2 (fun r e => by cases e; exact ⟨Nat.le_refl _, hrg.iter_walk⟩)
      have hJ3 := hJ _ w2 (w2.alloc (.cells #[.string (str f.p), .string (str f.t), .int .i64 f.c, .bool f.d] 44)) none hJ2 (World.grownBy_alloc w2 _ none) (fun r e => by cases e)
      have hrg3 := hrg2.alloc (.cells #[.string (str f.p), .string (str f.t), .int .i64 f.c, .bool f.d] 44)
      obtain ⟨fn, tmps, assign, body, hy, hR⟩ := hY xs f _ hJ3 (by omega)
      clear hs2
      gi_wp2
      refine hR.mono ?_
      rintro e W3 (⟨rfl, hJ4, hk3⟩ | ⟨rfl, hJx3⟩)
      · have hrg4 := hrg3.of_walks hk3
        gi_wp2
        go_roundw
        case rel => exact ⟨_, cnt2, xs ++ [f], hrg4, by simp; omega, hC2, hJ4⟩
        case measure => rw [hrg4.left_eq, hrg.left_eq]; exact hlt
      · gi_wp2
        refine bodyPost_ret (results_none rfl _ _ _) rfl ?_
        exact ⟨⟨_, rfl⟩, .inr ⟨_, trivial, hJx3⟩⟩

/-- maps.Values: the map, boxed. -/
theorem Values_any (n : Nat) (w : World) (bm : Nat) :
    CallsIn Fence.wide n Tryz.prog 64 #[.map (some bm)] w fun e w' =>
      e = .returned (.func (.func 102) #[] #[.pointer (some ⟨w.heap.size, 0, none⟩)]) ∧ w' = w.alloc (.cells #[.map (some bm)] 61) := by
  refine callsIn_of_wp Tryz.func64 rfl trivial ?_ rfl
  simp only [Tryz.ntmps64, List.size_toArray, List.length_cons, List.length_nil, Nat.reduceAdd, Nat.reduceSub, Array.replicate_succ, Array.replicate_zero, List.push_toArray, List.append_toArray, List.nil_append, List.cons_append]
  gi_wp2
  go_ret
  exact ⟨rfl, rfl⟩

/-- What maps.Values hands back gives the files. -/
theorem vals_stops {L : List F} {bm : Nat} (n : Nat) (hn1 : 1 ≤ n) (B : Nat) (w : World) (hB : B < w.heap.size) (hm : w.cell? ⟨B, 0, none⟩ = some (.map (some bm))) (hM : MapAt w bm L) :
    SeqStopsA Fence.wide n Tryz.prog 102 #[.pointer (some ⟨B, 0, none⟩)] (fun x : F => #[.agg #[.string (str x.p), .string (str x.t), .int .i64 x.c, .bool x.d]]) (fun xs => xs.Perm L) (fun _ => True) L.length w :=
  fun l J Jx W hW hJ _ hY h0 => vals1_in n hn1 l B J Jx hY W hJ ((hW.cell (p := ⟨B, 0, none⟩) hB).trans hm) (hM.below hW) h0

/-! ### AppendSeq and Collect -/
def fCs (l : List F) : List Value := l.flatMap fC
theorem fCs_snoc (l : List F) (x : F) : fCs (l ++ [x]) = fCs l ++ fC x := by simp [fCs]
theorem fCs_len (l : List F) : (fCs l).length = l.length * 4 := by
  induction l with
  | nil => rfl
  | cons a r ih => simp only [fCs, List.flatMap_cons, List.length_append, List.length_cons] at ih ⊢; rw [ih]; simp [fC]; omega
theorem infoF : (Tryz.prog.info? 44).map (fun i => (i.zero, i.size, i.bytes)) = some (some (.agg #[.string ByteArray.empty, .string ByteArray.empty, .int .i64 0, .bool false]), 4, 48) := by kernel_rfl

theorem four_new (wr : World) (a b c d : Value) (T : TypeId) : ∀ (j : Nat) (u : Value), [a, b, c, d][j]? = some u → (wr.alloc (.cells #[a, b, c, d] T)).cell? ((⟨wr.heap.size, 0, none⟩ : Addr).add j) = some u := by
  intro j u hj
  rw [Addr.add_lit, World.cell?_alloc_at _ _ _ _ rfl]
  match j, hj with
  | 0, hj => simpa using hj
  | 1, hj => simpa using hj
  | 2, hj => simpa using hj
  | 3, hj => simpa using hj

set_option maxHeartbeats 4000000 in
theorem AppendSeq_any {L : List F} {bm : Nat} (n : Nat) (hn : 4 ≤ n) (B : Nat) (w : World) (hB : B < w.heap.size) (hm : w.cell? ⟨B, 0, none⟩ = some (.map (some bm))) (hM : MapAt w bm L) (hL : L.length ≤ 1000000) :
    CallsIn Fence.wide n Tryz.prog 149 #[.slice none 0 0, .func (.func 102) #[] #[.pointer (some ⟨B, 0, none⟩)]] w fun e w' =>
      ∃ (v : Value) (xs : List F), e = .returned v ∧ xs.Perm L ∧ w'.ownsRow w.heap.size 44 4 v xs.length (fCs xs) ∧ Below w.heap.size w w' := by
  obtain ⟨i0, hi, hz0, hz1, hz2⟩ := info_parts infoF
  have eg : ∀ args w, (callFunc 102 args).run Tryz.prog w = .ok (.enter 102 args) w := enters_of Tryz.func102 (by kernel_rfl) rfl
  refine callsIn_of_wp_marks Tryz.func149 rfl trivial ?_ rfl
  simp only [Tryz.ntmps149, List.size_toArray, List.length_cons, List.length_nil, Nat.reduceAdd, Nat.reduceSub, Array.replicate_succ, Array.replicate_zero, List.push_toArray, List.append_toArray, List.nil_append, List.cons_append]
  gi_wp2
  have hB0 := (Below.refl w.heap.size w).alloc (Nat.le_refl _) (.cells #[.slice none 0 0] 22)
  have hv0 := Boxed.new w 22 (.slice none 0 0)
  have hz : (w.alloc (.cells #[.slice none 0 0] 22)).heap.size = w.heap.size + 1 := by simp
  generalize w.alloc (.cells #[.slice none 0 0] 22) = W0 at *
  have hm0 : W0.cell? ⟨B, 0, none⟩ = some (.map (some bm)) := (hB0.cell (p := ⟨B, 0, none⟩) hB).trans hm
  refine wpIn_rangeFunc_ownH (w0 := W0) (N := L.length) rfl (by omega) (gf := 102) (lb := #[.pointer (some ⟨B, 0, none⟩)]) rfl trivial eg
    (vals_stops (n - 1) (by omega) B W0 (by omega) hm0 (hM.below hB0)) walksK_t walksK_b (Below.refl _ _) (fun _ => rfl)
    (fun pre W => (∃ v, Boxed W w.heap.size 22 v ∧ W.ownsRow w.heap.size 44 4 v pre.length (fCs pre) ∧ True) ∧ Below w.heap.size w W) (fun _ _ _ => False)
    (OwnFrom.and (Own.from (holdsRow_own w.heap.size w.heap.size 22 44 4 (fun pre : List F => pre.length) fCs (fun _ _ => True)) _) (ownFrom_below (Nat.le_refl _) (by omega)))
    (fun _ _ _ _ _ hs _ _ => hs) ⟨⟨_, hv0, World.ownsRow_nil _ _ _ _, trivial⟩, hB0⟩
    (fun x a' W => ∃ Bx, w.heap.size < Bx ∧ W.heap[Bx]? = some (.cells #[.string (str x.p), .string (str x.t), .int .i64 x.c, .bool x.d] 44 (0, 0)) ∧
      a' = { tmps := #[.slice none 0 0, .func (.func 102) #[] #[.pointer (some ⟨B, 0, none⟩)], .pointer (some ⟨w.heap.size, 0, none⟩), undef, .slice none 0 0, .pointer (some ⟨Bx, 0, none⟩), .func (.func 102) #[] #[.pointer (some ⟨B, 0, none⟩)], .agg #[.string (str x.p), .string (str x.t), .int .i64 x.c, .bool x.d], undef, undef, undef, undef, undef], defers := [] })
    ?_ ?_ ?_ ?_ ?_
  · rintro x a' _ W W' row ⟨Bx, h1, h2, h3⟩ hg hr
    refine ⟨Bx, h1, ?_, h3⟩
    refine (hg.block Bx (Array.getElem?_eq_some_iff.1 h2).1 fun e => ?_).trans h2
    obtain ⟨_, o, ho, hc⟩ := hr Bx e.symm
    rw [h2] at ho; cases ho; cases hc
  · rintro l pre x W K ⟨⟨v, hv, hrow, _⟩, hb⟩ hK
    have hsz := hb.size
    gi_wp2
    refine hK _ _ ((KeepsOthers.alloc _ _).from _) (KeepsWalks.alloc _ _) ⟨⟨v, hv.alloc _, hrow.alloc _, trivial⟩, hb.alloc hb.size _⟩ ⟨W.heap.size, hv.lt, World.alloc_heap_new W _, rfl⟩
  · rintro l pre x a' W hl ⟨r, hr⟩ ⟨⟨v, hv, hrow, _⟩, hb⟩ ⟨Bx, hBx, hX, rfl⟩ hlt
    have hvc := hv.cell
    have x0 : W.cell? ⟨Bx, 0, none⟩ = some (.string (str x.p)) := by simp [World.cell?, hX]
    have x1 : W.cell? ⟨Bx, 1, none⟩ = some (.string (str x.t)) := by simp [World.cell?, hX]
    have x2 : W.cell? ⟨Bx, 2, none⟩ = some (.int .i64 x.c) := by simp [World.cell?, hX]
    have x3 : W.cell? ⟨Bx, 3, none⟩ = some (.bool x.d) := by simp [World.cell?, hX]
    clear hX
    gi_wp2_with (gi_at_builtin; refine wpListIn_append_own _ rfl _ _ 22 rfl w.heap.size 44 i0 (.agg #[.string ByteArray.empty, .string ByteArray.empty, .int .i64 0, .bool false]) 4 48 Tryz.underlying22 hi hz0 hz1 hz2 rfl (by decide) _ _ _ rfl (hrow.alloc _) ⟨W.heap.size, 0, none⟩ 1 1 [.string (str x.p), .string (str x.t), .int .i64 x.c, .bool x.d] rfl rfl (four_new _ _ _ _ _ _) (by simp [Value.oneCell']) (by unfold maxLen; omega) (by omega) (by have := hb.size; simp; omega) ?_; intro v' w1 hown' hgrow _; obtain ⟨g', cap', rfl⟩ := ownsRow_succ hown'; obtain ⟨hv1, hv2, hr2, hk2, hb2⟩ := hv.appended (by decide) hrow hb.size (Nat.le_refl _) hown' hgrow; have hc1 := hv1.cell; have hf1 := hv1.frozen)
    exact ⟨hk2.from _, hk2.walks, ⟨_, hv2, by rw [fCs_snoc, List.length_append]; exact hr2, trivial⟩, hb.trans hb2⟩
  · rintro D xs W hD hS ⟨⟨v, hv, hrow, _⟩, hb⟩ hK
    have hvc := hv.cell
    gi_wp2
    refine ⟨by simp, .inl ⟨_, _, rfl, run_takeDeferred hK, ?_⟩⟩
    exact ⟨_, results_tmp rfl _ _ _, v, xs, rfl, hS, ownsRow_putObj hrow _ hK rfl, hb.trans (belowK_b (w := w) (Nat.le_refl _) W D _ _ (by omega) hK rfl rfl)⟩
  · rintro D c pre W _ _ h _
    exact h.elim
end Go.Proofs.YtaolccibflniiaaGreatDoor.Sw
namespace Go.Proofs.YtaolccibflniiaaGreatDoor.Sw
open Go.RowKit Go.Proofs.YtaolccibflniiaaGreatDoor Go.Maps Go.Shelf Go.Sort
set_option maxRecDepth 100000

instance : Inhabited F := ⟨noF⟩

theorem cmp_lt : ∀ (a b : List UInt8), decide (Lib.compareBytes a b < 0) = decide (a < b)
  | [], [] => by simp [Lib.compareBytes]
  | [], _ :: _ => by simp [Lib.compareBytes]
  | _ :: _, [] => by simp [Lib.compareBytes]
  | a :: r, b :: s => by
    have ih := cmp_lt r s
    unfold Lib.compareBytes
    simp only [List.cons_lt_cons_iff]
    by_cases h1 : a < b
    · simp [h1]
    · by_cases h2 : b < a
      · have : a ≠ b := fun e => by subst e; exact absurd h2 h1
        simp [h1, h2, this]
      · have : a = b := UInt8.le_antisymm (UInt8.not_lt.1 h2) (UInt8.not_lt.1 h1)
        subst this
        simp only [h1, if_false, false_or, true_and]
        exact ih

def cmpF (x y : F) : Int := Lib.compareBytes x.p y.p
theorem ltF (x y : F) : ltOf cmpF x y = decide (x.p < y.p) := cmp_lt x.p y.p
theorem swoF : SWO (ltOf cmpF) where
  irrefl x := by rw [ltF]; simp [Sp.lt_irr x.p]
  trans x y z h1 h2 := by rw [ltF] at *; simp only [decide_eq_true_eq] at *; exact Sp.lt_tr h1 h2
  ntrans x y z h1 h2 := by
    rw [ltF] at *
    simp only [decide_eq_false_iff_not] at *
    exact List.not_lt.2 (List.le_trans (List.not_lt.1 h2) (List.not_lt.1 h1))

set_option maxHeartbeats 1000000 in
theorem closure_any (x y : F) (W : World) : Calls Tryz.prog 65 #[.agg #[.string (str x.p), .string (str x.t), .int .i64 x.c, .bool x.d], .agg #[.string (str y.p), .string (str y.t), .int .i64 y.c, .bool y.d]] W fun e w' => e = .returned (.int .i64 (cmpF x y)) ∧ ∃ q os', w' = grow (W.drewN q) os' := by
  obtain ⟨r, hr⟩ : ∃ r, Hid (cmpF x y = r) := ⟨_, Lib.hid rfl⟩
  have hcon : ∀ W', Calls Tryz.prog 66 #[.string (str x.p), .string (str y.p)] W' fun e w' => e = .returned (.int .i64 r) ∧ w' = W' := fun W' => by
    have := Tryz.strings_Compare (str x.p) (str y.p) W'
    rwa [show Lib.compareBytes (str x.p).data.toList (str y.p).data.toList = r from hr.out] at this
  rw [hr.out]
  go_enter Tryz.func65, Tryz.ntmps65
  go_wp2_with (go_at_call 66; go_must (refine (hcon _).mono ?_); rintro e w' ⟨rfl, rfl⟩)
  go_ret
  exact ⟨rfl, 0, _, by rw [alloc_eq_grow, alloc_eq_grow, grow_grow]; rfl⟩

/-- A slice that reads as these files. -/
def Files (w : World) (v : Value) (L : List F) : Prop :=
  (L = [] ∧ ∃ a c, v = .slice a 0 c) ∨ ∃ b o c, v = .slice (some ⟨b, o, none⟩) L.length c ∧ b < w.heap.size ∧ ∀ j, (h : j < L.length) →
    w.cell? ⟨b, o + j * 4, none⟩ = some (.string (str L[j].p)) ∧ w.cell? ⟨b, o + j * 4 + 1, none⟩ = some (.string (str L[j].t)) ∧ w.cell? ⟨b, o + j * 4 + 2, none⟩ = some (.int .i64 L[j].c) ∧ w.cell? ⟨b, o + j * 4 + 3, none⟩ = some (.bool L[j].d)

theorem Files.kept {X : List Nat} {w w' : World} {v : Value} {L : List F} (h : Files w v L) (hk : Kept X w w') (hx : ∀ b, v.ownBlock = some b → b ∉ X) : Files w' v L := by
  rcases h with h | ⟨b, o, c, rfl, hb, hc⟩
  · exact .inl h
  · refine .inr ⟨b, o, c, rfl, Nat.lt_of_lt_of_le hb hk.size, fun j hj => ?_⟩
    have hn : b ∉ X := hx b rfl
    obtain ⟨c0, c1, c2, c3⟩ := hc j hj
    have e := fun i => hk.cell (p := ⟨b, i, none⟩) hb hn
    exact ⟨(e _).trans c0, (e _).trans c1, (e _).trans c2, (e _).trans c3⟩
theorem Files.below {w w' : World} {v : Value} {L : List F} (h : Files w v L) (hB : Below w.heap.size w w') : Files w' v L := h.kept (X := []) (.of_below hB) (fun _ _ => by simp)

theorem fCs_get : ∀ (L : List F) (j c : Nat) (h : j < L.length), c < 4 → (fCs L)[j * 4 + c]? = (fC L[j])[c]?
  | f :: r, 0, c, _, hc => by
    show (fC f ++ fCs r)[0 * 4 + c]? = _
    rw [List.getElem?_append_left (by simp [fC]; omega)]; simp
  | f :: r, j + 1, c, h, hc => by
    show (fC f ++ fCs r)[(j + 1) * 4 + c]? = _
    rw [List.getElem?_append_right (by simp [fC]; omega), show (j + 1) * 4 + c - (fC f).length = j * 4 + c by simp [fC]; omega, fCs_get r j c (by simpa using h) hc]
    rfl

theorem files_own {w : World} {base : Nat} {v : Value} {L : List F} (h : w.ownsRow base 44 4 v L.length (fCs L)) : Files w v L := by
  rcases L with _ | ⟨f, r⟩
  · rcases h.2 with ⟨rfl, _⟩ | ⟨g, cap, cur, rfl, _⟩
    · exact .inl ⟨rfl, _, _, rfl⟩
    · exact .inl ⟨rfl, _, _, rfl⟩
  · obtain ⟨g, cap, rfl, _, _⟩ := owns_some h (by simp)
    have hlt := (h.lt g rfl).2
    refine .inr ⟨g, 0, cap, rfl, hlt, fun j hj => ?_⟩
    have e := fun c (hc : c < 4) u (hu : (fC (f :: r)[j])[c]? = some u) => h.cells (g := g) rfl (j * 4 + c) u (by rw [fCs_get _ j c hj hc]; exact hu)
    simp only [Addr.add_lit, Nat.zero_add] at e
    rw [Nat.zero_add]
    exact ⟨e 0 (by omega) _ rfl, e 1 (by omega) _ rfl, e 2 (by omega) _ rfl, e 3 (by omega) _ rfl⟩

theorem holdsK_own {w : World} {base : Nat} {v : Value} {L : List F} (h : w.ownsRow base 44 4 v L.length (fCs L)) (hn : 0 < L.length) :
    ∃ g cap, v = .slice (some ⟨g, 0, none⟩) L.length cap ∧ base ≤ g ∧ g < w.heap.size ∧ HoldsK fC 4 w g 0 L.toArray := by
  rcases h.2 with ⟨_, h0⟩ | ⟨g, cap, cur, rfl, hb, hgb, _⟩
  · omega
  · refine ⟨g, cap, rfl, hb, (Array.getElem?_eq_some_iff.1 hgb).1, fun t ht => ?_⟩
    rw [size_flatK] at ht
    simp only [List.size_toArray] at ht
    have hj : t / 4 < L.length := by omega
    refine ⟨?_, by simp [World.frozen?, hgb]⟩
    have e1 := fCs_get L (t / 4) (t % 4) hj (by omega)
    have e2 : ∃ u, (fC L[t / 4])[t % 4]? = some u := ⟨_, List.getElem?_eq_getElem (by simp [fC]; omega)⟩
    obtain ⟨u, hu⟩ := e2
    have e3 := h.cells (g := g) rfl (t / 4 * 4 + t % 4) u (by rw [e1]; exact hu)
    rw [Addr.add_lit, Nat.zero_add, show t / 4 * 4 + t % 4 = t by omega] at e3
    rw [get_flatK _ _ _ _ (by simpa using ht), Nat.zero_add, e3]
    simp only [id]
    congr 1
    rw [show L.toArray[t / 4]! = L[t / 4] by simp [hj]]
    simp [List.getElem!_eq_getElem?_getD, hu]

theorem files_holdsK {w : World} {g : Nat} {d : Array F} {cap n : Nat} (h : HoldsK fC 4 w g 0 d) (hg : g < w.heap.size) (hd : d.size = n) : Files w (.slice (some ⟨g, 0, none⟩) n cap) d.toList := by
  refine .inr ⟨g, 0, cap, by rw [Array.length_toList, hd], hg, fun j hj => ?_⟩
  have hj' : j < d.size := by simpa using hj
  have e := fun c (hc : c < 4) => (HoldsK.cell h hj' hc).1
  have hx : d[j]! = d.toList[j] := by rw [getElem!_pos d j hj']; rfl
  rw [hx] at e
  exact ⟨e 0 (by omega), e 1 (by omega), e 2 (by omega), e 3 (by omega)⟩

theorem grown_sortedK {w : World} {g n : Nat} {os : Array Obj} (d : Array F) : w.grownBy (sortWorldK fC 4 w g 0 n d os) (some g) := by
  refine ⟨rfl, rfl, rfl, by simp [sortWorldK, putRowK], fun k hk hne => ?_⟩
  unfold sortWorldK putRowK
  rw [heap_grow_old _ _ (by simpa using hk)]
  have : g ≠ k := fun e => hne (by rw [e])
  simp [putRow, mapBlock, Sort.ahead, Array.getElem?_modify, this]

/-- A rising row of what L holds is L. -/
theorem sorted_is {L xs : List F} {d : Array F} (hs : Sp.Sorted L) (hx : xs.Perm L) (hp : PermIn 0 xs.length xs.toArray d) (ho : SortedIn (ltOf cmpF) 0 xs.length d) : d.toList = L := by
  obtain ⟨h1, _, h3⟩ := hp
  have hd : d.size = xs.length := by simpa using h1
  have h4 : d.toList.Perm L := by
    have : (d.extract 0 xs.length).toList = d.toList := by rw [← hd]; simp
    rw [this] at h3
    exact (h3.trans (by simp)).trans hx
  refine Sp.sorted_ext ?_ hs fun g => h4.mem_iff
  have hnd : d.toList.Pairwise fun a b => a.p ≠ b.p := (h4.pairwise_iff (fun {a b} (h : a.p ≠ b.p) => h.symm)).2 (hs.imp fun {a b} h => Sp.lt_ne h)
  refine List.pairwise_iff_getElem.2 fun i j hi hj hij => ?_
  have hi' : i < d.size := by simpa using hi
  have hj' : j < d.size := by simpa using hj
  have a := ho i j (by omega) hij (by omega)
  rw [ltF, getElem!_pos d i hi', getElem!_pos d j hj', decide_eq_false_iff_not] at a
  exact Sp.lt_or a fun e => List.pairwise_iff_getElem.1 hnd i j hi hj hij e.symm

def FilesPost (w : World) (L : List F) (e : Ending) (w' : World) : Prop := ∃ v, e = .returned v ∧ Files w' v L ∧ (∃ a c, v = .slice a L.length c) ∧ Below w.heap.size w w'

set_option maxHeartbeats 1000000 in
theorem Collect_any {L : List F} {bm : Nat} (n : Nat) (hn : 5 ≤ n) (B : Nat) (w : World) (hB : B < w.heap.size) (hm : w.cell? ⟨B, 0, none⟩ = some (.map (some bm))) (hM : MapAt w bm L) (hL : L.length ≤ 1000000) :
    CallsIn Fence.wide n Tryz.prog 100 #[.func (.func 102) #[] #[.pointer (some ⟨B, 0, none⟩)]] w fun e w' =>
      ∃ (v : Value) (xs : List F), e = .returned v ∧ xs.Perm L ∧ w'.ownsRow w.heap.size 44 4 v xs.length (fCs xs) ∧ Below w.heap.size w w' := by
  refine callsIn_of_wp Tryz.func100 rfl trivial ?_ rfl
  simp only [Tryz.ntmps100, List.size_toArray, List.length_cons, List.length_nil, Nat.reduceAdd, Nat.reduceSub, Array.replicate_succ, Array.replicate_zero, List.push_toArray, List.append_toArray, List.nil_append, List.cons_append]
  gi_wp2_with (refine ⟨trivial, fun _ => by omega, ?_⟩; gi_at_call 149; refine (AppendSeq_any (n - 1) (by omega) B _ hB hm hM hL).mono ?_; rintro e w' ⟨v, xs, rfl, h1, h2, h3⟩)
  go_ret
  exact ⟨v, xs, rfl, h1, h2, h3⟩

set_option maxHeartbeats 1000000 in
theorem SortedFunc_any {L : List F} {bm : Nat} (n : Nat) (hn : 6 ≤ n) (B : Nat) (w : World) (hB : B < w.heap.size) (hm : w.cell? ⟨B, 0, none⟩ = some (.map (some bm))) (hM : MapAt w bm L) (hL : L.length ≤ 1000000) :
    CallsIn Fence.wide n Tryz.prog 63 #[.func (.func 102) #[] #[.pointer (some ⟨B, 0, none⟩)], .func (.func 65) #[] #[]] w (FilesPost w L) := by
  have hs := hM.sorted
  refine callsIn_of_wp Tryz.func63 rfl trivial ?_ rfl
  simp only [Tryz.ntmps63, List.size_toArray, List.length_cons, List.length_nil, Nat.reduceAdd, Nat.reduceSub, Array.replicate_succ, Array.replicate_zero, List.push_toArray, List.append_toArray, List.nil_append, List.cons_append]
  gi_wp2_with (refine ⟨trivial, fun _ => by omega, ?_⟩; gi_at_call 100; refine (Collect_any (n - 1) (by omega) B _ hB hm hM hL).mono ?_; rintro e w1 ⟨v, xs, rfl, h1, h2, h3⟩)
  rcases Nat.eq_zero_or_pos xs.length with h0 | h0
  · obtain rfl : xs = [] := List.eq_nil_of_length_eq_zero h0
    obtain rfl : L = [] := h1.symm.eq_nil
    obtain ⟨a, c, rfl⟩ : ∃ a c, v = .slice a 0 c := by
      rcases h2.2 with ⟨rfl, _⟩ | ⟨g, cap, cur, rfl, _⟩
      · exact ⟨_, _, rfl⟩
      · exact ⟨_, _, rfl⟩
    have hcon := fun fv W => AnyF.slices_SortFunc_none Tryz.laysSortF a c fv W
    change ∀ fv W, Calls Tryz.prog 101 _ _ _ at hcon
    gi_wp2_with (refine ⟨trivial, fun _ => by omega, ?_⟩; gi_at_call 101; refine (callsIn_wide.2 (hcon _ _)).mono ?_; rintro e w2 ⟨rfl, rfl⟩)
    go_ret
    exact ⟨_, rfl, .inl ⟨rfl, _, _, rfl⟩, ⟨_, _, rfl⟩, h3⟩
  · obtain ⟨g, cap, rfl, hb, hg, hH⟩ := holdsK_own h2 h0
    have eg : ∀ args w, (callFunc 65 args).run Tryz.prog w = .ok (.enter 65 args) w := enters_of Tryz.func65 (by kernel_rfl) rfl
    have hxl := h1.length_eq
    have hcon := AnyQ.slices_SortFunc Tryz.laysSortF 4 Tryz.isAgg44 Tryz.sizeOf44 fC (fun _ => rfl) (fun x v hv => by simp [fC] at hv; rcases hv with rfl | rfl | rfl | rfl <;> rfl) cmpF swoF 65 #[] g 0 cap xs.toArray w1 eg
      (fun m os dk _ x y => closure_any x y _) hH hg (by simp; omega)
    change Calls Tryz.prog 101 _ _ _ at hcon
    simp only [List.size_toArray] at hcon
    have HC := Lib.hid hcon
    have HH := Lib.hid hH
    clear hcon hH hxl
    gi_wp2_with (refine ⟨trivial, fun _ => by omega, ?_⟩; gi_at_call 101; refine (callsIn_wide.2 HC.out).mono ?_; rintro e w2 ⟨rfl, d, nn, os, hp, ho, rfl⟩)
    go_ret
    have hd : d.size = xs.length := by simpa using hp.1
    have hxl := h1.length_eq
    have hB2 := grown_sortedK (w := w1) (g := g) (n := nn) (os := os) d
    have hL2 := sorted_is hs h1 hp ho
    refine ⟨.slice (some ⟨g, 0, none⟩) xs.length cap, rfl, ?_, ⟨some ⟨g, 0, none⟩, cap, by rw [← hxl]⟩, h3.grown hB2 h3.size (fun j e => by cases e; exact hb)⟩
    have := files_holdsK (cap := cap) (n := xs.length) (holdsK_sortWorldK fC 4 w1 g 0 nn xs.toArray d os hg HH.out (by simpa using hd)) (lt_sortWorldK fC 4 w1 g 0 nn d os hg) hd
    rw [hL2] at this
    exact this

set_option maxHeartbeats 1000000 in
theorem All_any (w : World) {sb bm : Nat} {L : List F} {c : Int} (hS : StoreAt w sb bm L c) (hL : L.length ≤ 1000000) :
    Calls Tryz.prog 35 #[.pointer (some ⟨sb, 0, none⟩)] w (FilesPost w L) := by
  have c1 := hS.c1
  have hlt := hS.lt
  have hM := (hS.map).alloc (.cells #[.map (some bm)] 61)
  have hm := (Boxed.new w 61 (.map (some bm))).cell
  clear hS
  refine (callsIn_wide (n := 9)).1 ?_
  refine callsIn_of_wp Tryz.func35 rfl trivial ?_ rfl
  simp only [Tryz.ntmps35, List.size_toArray, List.length_cons, List.length_nil, Nat.reduceAdd, Nat.reduceSub, Array.replicate_succ, Array.replicate_zero, List.push_toArray, List.append_toArray, List.nil_append, List.cons_append]
  gi_wp2_with (first
    | (refine ⟨trivial, ?_⟩; gi_at_call 64; refine (Values_any _ _ bm).mono ?_; rintro e w1 ⟨rfl, rfl⟩)
    | (refine ⟨trivial, ?_⟩; gi_at_call 63; refine (SortedFunc_any _ (by omega) w.heap.size _ (by simp) hm hM hL).mono ?_; rintro e w2 ⟨v, rfl, h1, h2, h3⟩))
  go_ret
  exact ⟨v, rfl, h1, h2, ((Below.refl _ w).alloc (Nat.le_refl _) _).trans (h3.mono (by simp))⟩

theorem All_nil (w : World) : Calls Tryz.prog 35 #[.pointer none] w fun e w' => e = .returned (.slice none 0 0) ∧ w = w' := by
  go_enter Tryz.func35, Tryz.ntmps35
  go_wp2
  go_ret
  exact ⟨rfl, rfl⟩
end Go.Proofs.YtaolccibflniiaaGreatDoor.Sw
namespace Go.Proofs.YtaolccibflniiaaGreatDoor.Sw
open Go.RowKit Go.Proofs.YtaolccibflniiaaGreatDoor Go.Maps
set_option maxRecDepth 100000

abbrev TF : TypeId := 44
theorem fieldsF : Tryz.prog.underlying TF = some (.struct (Tryz.prog.fieldsOf TF)) := by kernel_rfl
theorem fieldsFL : (Tryz.prog.fieldsOf TF).toList.map (fun f => (f.name, f.type, f.offset)) = [("Path", 9, 0), ("Text", 9, 1), ("Time", 2, 2), ("Dir", 4, 3)] := by kernel_rfl
theorem guardF : Tryz.prog.eqGuardType Tryz.prog.depth TF = false := by kernel_rfl
theorem eq_file (w : World) (p t p' t' : ByteArray) (c c' : Int) (d d' : Bool) :
    (Op.equalIn 10000 TF (.agg #[.string p, .string t, .int .i64 c, .bool d]) (.agg #[.string p', .string t', .int .i64 c', .bool d'])).run Tryz.prog w = .ok (p.toList == p'.toList && (t.toList == t'.toList && (c == c' && d == d'))) w := by
  have hp : Tryz.prog.stoodInHeld TF = false := by kernel_rfl
  rw [run_equalIn_struct _ _ _ _ _ fieldsF hp]
  have hf := fieldsFL
  generalize (Tryz.prog.fieldsOf TF).toList = fs at hf
  obtain ⟨f1, l1, rfl, h1, hl1⟩ := List.map_eq_cons_iff.1 hf
  obtain ⟨f2, l2, rfl, h2, hl2⟩ := List.map_eq_cons_iff.1 hl1
  obtain ⟨f3, l3, rfl, h3, hl3⟩ := List.map_eq_cons_iff.1 hl2
  obtain ⟨f4, l4, rfl, h4, hl4⟩ := List.map_eq_cons_iff.1 hl3
  obtain rfl := List.map_eq_nil_iff.1 hl4
  simp only [Prod.mk.injEq] at h1 h2 h3 h4
  obtain ⟨n1, t1, o1⟩ := h1
  obtain ⟨n2, t2, o2⟩ := h2
  obtain ⟨n3, t3, o3⟩ := h3
  obtain ⟨n4, t4, o4⟩ := h4
  unfold Op.eqFields Op.eqFields Op.eqFields Op.eqFields Op.eqFields
  rw [n1, n2, n3, n4, t1, t2, t3, t4, o1, o2, o3, o4]
  simp [go_sem, part]
  by_cases h1 : p.toList = p'.toList <;> by_cases h2 : t.toList = t'.toList <;> by_cases h3 : c = c' <;> by_cases h4 : d = d' <;> simp [h1, h2, h3, h4]
theorem neq_same (f : F) (w : World) : (binOp .neq TF (.agg #[.string (str f.p), .string (str f.t), .int .i64 f.c, .bool f.d]) (.agg #[.string (str f.p), .string (str f.t), .int .i64 f.c, .bool f.d])).run Tryz.prog w = .ok (.bool false) w := by
  rw [run_neq_struct, eq_file]; simp [Result.andThen]
theorem eql_same (f : F) (w : World) : (binOp .eql TF (.agg #[.string (str f.p), .string (str f.t), .int .i64 f.c, .bool f.d]) (.agg #[.string (str f.p), .string (str f.t), .int .i64 f.c, .bool f.d])).run Tryz.prog w = .ok (.bool true) w := by
  rw [run_eql_struct, eq_file]; simp [Result.andThen]
theorem toL {a b : List UInt8} (h : (str a).toList = (str b).toList) : a = b := by
  rw [Lib.toList_data, Lib.toList_data] at h
  have := congrArg (fun l => bs ⟨l.toArray⟩) h
  simpa [bs, str] using h
theorem neq_diff {f g : F} (h : f ≠ g) (w : World) : (binOp .neq TF (.agg #[.string (str f.p), .string (str f.t), .int .i64 f.c, .bool f.d]) (.agg #[.string (str g.p), .string (str g.t), .int .i64 g.c, .bool g.d])).run Tryz.prog w = .ok (.bool true) w := by
  rw [run_neq_struct, eq_file]
  have : ((str f.p).toList == (str g.p).toList && ((str f.t).toList == (str g.t).toList && (f.c == g.c && f.d == g.d))) = false := by
    cases hb : ((str f.p).toList == (str g.p).toList && ((str f.t).toList == (str g.t).toList && (f.c == g.c && f.d == g.d))) with
    | false => rfl
    | true =>
      simp only [Bool.and_eq_true, beq_iff_eq] at hb
      obtain ⟨h1, h2, h3, h4⟩ := hb
      exact absurd (Sp.F.ext' (toL h1) (toL h2) h3 h4) h
  rw [this]; rfl
end Go.Proofs.YtaolccibflniiaaGreatDoor.Sw
namespace Go.Proofs.YtaolccibflniiaaGreatDoor.Sw
open Go.RowKit Go.Proofs.YtaolccibflniiaaGreatDoor Go.Maps
set_option maxRecDepth 100000

abbrev TS : TypeId := 34
theorem heap_set3 {w : World} {b i : Nat} {cs : Array Value} {T : TypeId} (h : w.heap[b]? = some (.cells cs T (0, 0))) (v : Value) : (w.setCell ⟨b, i, none⟩ v).heap[b]? = some (.cells (cs.setIfInBounds i v) T (0, 0)) := by
  have hb : b < w.heap.size := (Array.getElem?_eq_some_iff.1 h).1
  have hb' : w.heap[b] = .cells cs T (0, 0) := by have := Array.getElem?_eq_getElem hb; rw [h] at this; exact (Option.some.inj this).symm
  simp [World.setCell, Array.getElem?_modify, h]
theorem below_drewS {B : Nat} {a w : World} (h : Below B a w) (n : Nat) : Below B a (w.drewN n) := ⟨h.os, h.tape, h.output, h.size, h.block⟩

set_option maxHeartbeats 2000000 in
theorem EqualF_any (w : World) (v u : Value) (L : List F) (hv : Files w v L) (hu : Files w u L) (hl : L.length ≤ 100000) :
    Calls Tryz.prog 34 #[v, u] w fun e w' => e = .returned (.bool true) ∧ Below w.heap.size w w' := by
  rcases hv with ⟨rfl, a, c, rfl⟩ | ⟨b, o, c, rfl, hb, hx⟩
  · obtain ⟨a', c', rfl⟩ : ∃ a' c', u = .slice a' 0 c' := by
      rcases hu with ⟨_, a', c', h⟩ | ⟨b', o', c', h, _, _⟩
      · exact ⟨a', c', h⟩
      · exact ⟨_, _, h⟩
    go_enter Tryz.func34, Tryz.ntmps34
    go_wp2_with fail
    refine wp_loop_rounds 1 ?_
    rw [rounds_succ]
    go_wp2_with fail
    go_ret
    exact ⟨rfl, Below.refl _ _⟩
  · rcases hu with ⟨rfl, a', c', rfl⟩ | ⟨b', o', c', rfl, hb', hy⟩
    · go_enter Tryz.func34, Tryz.ntmps34
      go_wp2_with fail
      refine wp_loop_rounds 1 ?_
      rw [rounds_succ]
      go_wp2_with fail
      go_ret
      exact ⟨rfl, Below.refl _ _⟩
    · go_enter Tryz.func34, Tryz.ntmps34
      have hgd := guardF
      go_wp2_with fail
      go_loopw [13] (fun v9 wr => ∃ i : Nat, i ≤ L.length ∧ v9 = .int .i64 i ∧ Below w.heap.size w wr) (fun v _ => L.length - (intOf v).toNat)
      case atStart => exact ⟨0, Nat.zero_le _, rfl, Below.refl _ _⟩
      case round =>
        obtain ⟨i, hix, rfl, hB⟩ := hrel
        by_cases hlt : i < L.length
        · obtain ⟨e0, e1, e2, e3⟩ := hx i hlt
          obtain ⟨g0, g1, g2, g3⟩ := hy i hlt
          have x0 := (hB.cell (p := ⟨b, o + i * 4, none⟩) hb).trans e0
          have x1 := (hB.cell (p := ⟨b, o + i * 4 + 1, none⟩) hb).trans e1
          have x2 := (hB.cell (p := ⟨b, o + i * 4 + 2, none⟩) hb).trans e2
          have x3 := (hB.cell (p := ⟨b, o + i * 4 + 3, none⟩) hb).trans e3
          have y0 := (hB.cell (p := ⟨b', o' + i * 4, none⟩) hb').trans g0
          have y1 := (hB.cell (p := ⟨b', o' + i * 4 + 1, none⟩) hb').trans g1
          have y2 := (hB.cell (p := ⟨b', o' + i * 4 + 2, none⟩) hb').trans g2
          have y3 := (hB.cell (p := ⟨b', o' + i * 4 + 3, none⟩) hb').trans g3
          have hki : (i : Int) < L.length := by omega
          have hq := fun W => neq_same L[i] W
          clear e0 e1 e2 e3 g0 g1 g2 g3
          generalize L[i] = f at *
          clear hx hy
          go_wp2_with fail
          go_quiet (fail)
          go_wp2_with fail
          go_roundw
          case rel => exact ⟨i + 1, hlt, by go_num, below_drewS hB _⟩
          case measure => simp [intOf]; omega
        · obtain rfl : i = L.length := by omega
          go_wp2_with fail
          go_ret
          exact ⟨rfl, hB⟩
end Go.Proofs.YtaolccibflniiaaGreatDoor.Sw
