/-
  Names in a directory: the plain side.
  (*Store).Clone: a store of its own with the same files and the same clock.
  store.Same.
-/
import Derived.Sort.OwnSorted
import Derived.Test.YtaolccibflniiaaGreatDoorQSRemove
import Derived.Shelf.SlMaps.Clone
import Derived.Test.YtaolccibflniiaaGreatDoorShelf
import Derived.Test.YtaolccibflniiaaGreatDoorQSAdd
namespace Go.Proofs.YtaolccibflniiaaGreatDoor.Sw
open Go.RowKit Go.Proofs.YtaolccibflniiaaGreatDoor Go.Maps Go.Sort
set_option maxRecDepth 100000

def leS : List UInt8 → List UInt8 → Bool := fun x y => decide (x ≤ y)
/-- The names in p, as they come. -/
def namesIn (p : List UInt8) (xs : List F) : List (List UInt8) := (xs.filter fun f => dirL f.p == p).map fun f => baseL f.p
def strs (l : List (List UInt8)) : List ByteArray := l.map str
theorem strC_strs (l : List (List UInt8)) : strC (strs l) = l.map encStr := by simp [strC, strs, encStr, str]
theorem strs_len (l : List (List UInt8)) : (strs l).length = l.length := by simp [strs]

theorem names_snoc_yes {p : List UInt8} {xs : List F} {f : F} (h : dirL f.p = p) : namesIn p (xs ++ [f]) = namesIn p xs ++ [baseL f.p] := by simp [namesIn, h]
theorem names_snoc_no {p : List UInt8} {xs : List F} {f : F} (h : dirL f.p ≠ p) : namesIn p (xs ++ [f]) = namesIn p xs := by simp [namesIn, h]
theorem names_perm {p : List UInt8} {xs L : List F} (h : xs.Perm L) : (namesIn p xs).Perm (namesIn p L) := (h.filter _).map _

theorem sort_perm {l l' : List (List UInt8)} (h : l.Perm l') : l.mergeSort leS = l'.mergeSort leS := mergeSort_of_perm h

def listA (L : List F) (p : List UInt8) : List (List UInt8) × Int :=
  match getR L p with
  | none => ([], 3)
  | some f => if f.d then ((namesIn p L).mergeSort leS, 0) else ([], 4)
end Go.Proofs.YtaolccibflniiaaGreatDoor.Sw
namespace Go.Proofs.YtaolccibflniiaaGreatDoor.Sw
open Go.RowKit Go.Proofs.YtaolccibflniiaaGreatDoor Go.Maps Go.Shelf
set_option maxRecDepth 100000

theorem mapClone_any (w : World) {bm : Nat} {L : List F} (hM : MapAt w bm L) :
    Calls Tryz.prog 38 #[.map (some bm)] w fun e w' => ∃ b2, e = .returned (.map (some b2)) ∧ w.heap.size ≤ b2 ∧ MapAt w' b2 L ∧ Below w.heap.size w w' := by
  refine (AnyW.maps_Clone_owns Tryz.laysClone 9 fElem bm _ _ w hM.own).mono ?_
  rintro e w' ⟨he, h1, _, h3⟩
  exact ⟨_, he, Nat.le_refl _, ⟨h1, hM.sorted⟩, h3⟩

set_option maxHeartbeats 1000000 in
theorem Clone_any (w : World) {sb bm : Nat} {L : List F} {c : Int} (hS : StoreAt w sb bm L c) :
    Calls Tryz.prog 16 #[.pointer (some ⟨sb, 0, none⟩)] w fun e w' => ∃ sb2 bm2, e = .returned (.pointer (some ⟨sb2, 0, none⟩)) ∧ w.heap.size ≤ sb2 ∧ w.heap.size ≤ bm2 ∧ StoreAt w' sb2 bm2 L c ∧ Below w.heap.size w w' := by
  have c1 := hS.c1
  have hlt := hS.lt
  have hM := hS.map
  go_enter Tryz.func16, Tryz.ntmps16
  go_wp2_with fail
  refine (mapClone_any w hM).mono ?_
  rintro e w1 ⟨b2, rfl, hb2, hM2, hB1⟩
  have hS1 := hS.below hB1
  have hne : b2 ≠ w1.heap.size := by have := hM2.lt; omega
  go_wp2_with fail
  have hS3 := hS1.alloc (.cells #[.int .i64 0, .map (some b2)] 68)
  have hM3 := hM2.alloc (.cells #[.int .i64 0, .map (some b2)] 68)
  have hB3 := hB1.alloc hB1.size (.cells #[.int .i64 0, .map (some b2)] 68)
  have hC3 := World.alloc_heap_new w1 (.cells #[.int .i64 0, .map (some b2)] 68)
  have hsz := hB1.size
  generalize hgb : w1.heap.size = nb at *
  clear hgb
  generalize w1.alloc (.cells #[.int .i64 0, .map (some b2)] 68) = W at *
  have c0 := hS3.c0
  clear hS hM c1 hM2 hB1 hS1
  refine wp_region_still_tail 7 (by kernel_rfl) (by kernel_rfl) ?_
  simp only [List.take_succ_cons, List.take_zero, List.drop_succ_cons, List.drop_zero]
  repeat still_step
  have hcall : Calls Tryz.prog 40 #[.pointer (some ⟨sb, 0, none⟩)] ⟨W.heap, W.tape, W.drawn + 1, W.os, W.output⟩ (fun e w'' => e = .returned (.int .i64 c) ∧ w'' = ⟨W.heap, W.tape, W.drawn + 1, W.os, W.output⟩) :=
    (Load_any ⟨W.heap, W.tape, W.drawn + 1, W.os, W.output⟩ sb 0 c c0).mono fun e w' ⟨a, b⟩ => ⟨a, b.symm⟩
  still_call hcall
  clear hcall
  repeat still_step
  refine wpStill_nil ?_
  change wpList _ _ _ _ _ W.drew
  have c0d : W.drew.cell? ⟨nb, 0, none⟩ = some (.int .i64 0) := by
    show W.cell? _ = _
    simp [World.cell?, hC3]
  have f0d : W.drew.frozen? ⟨nb, 0, none⟩ = false := frozen_two (w := W.drew) hC3
  have hC4 := set_two (w := W.drew) hC3 (.int .i64 c)
  have hM4 := (hM3.block (w' := W.drew) rfl).setCell (p := ⟨nb, 0, none⟩) hne (.int .i64 c)
  have hB4 := (hB3.drew).setCell (p := ⟨nb, 0, none⟩) hsz (.int .i64 c)
  clear c0 hC3 hM3 hB3 hS3
  generalize W.drew = W4 at *
  go_wp2_with (go_at_call 39; go_must (refine (Stor_any _ nb 0 0 _ c0d f0d).mono ?_); rintro e w4 ⟨rfl, rfl⟩)
  go_ret
  exact ⟨nb, b2, rfl, hsz, hb2, ⟨hC4, hM4⟩, hB4⟩
end Go.Proofs.YtaolccibflniiaaGreatDoor.Sw
namespace Go.Proofs.YtaolccibflniiaaGreatDoor.Sw
open Go.RowKit Go.Proofs.YtaolccibflniiaaGreatDoor Go.Maps
set_option maxRecDepth 100000

def eqA (f g : F) : Bool := (f.d == g.d) && (f.t == g.t)
def sameM (L M : List F) : Bool := decide (L.length = M.length) && L.all fun f => match Sp.get M f.p with
  | some g => eqA f g
  | none => false
def butA (L : List F) (p : List UInt8) : List F := L.filter fun g => !(g.p == p)
def sameA (L M : List F) (p : List UInt8) : Bool := sameM (butA L p) (butA M p)

set_option maxHeartbeats 1000000 in
theorem closureS_any (f g : F) (w : World) (r : Bool) (hr : Hid (eqA f g = r)) (hf : f.t.length ≤ 100000000) (hg : g.t.length ≤ 100000000) :
    Calls Tryz.prog 43 #[.agg #[.string (str f.p), .string (str f.t), .int .i64 f.c, .bool f.d], .agg #[.string (str g.p), .string (str g.t), .int .i64 g.c, .bool g.d]] w fun e w' => e = .returned (.bool r) ∧ Below w.heap.size w w' := by
  obtain ⟨fp, ft, fc, fd⟩ := f
  obtain ⟨gp, gt, gc, gd⟩ := g
  have hB : ∀ o1 o2 : Obj, Below w.heap.size w ((w.alloc o1).alloc o2) := fun o1 o2 => ((Below.refl _ w).alloc (Nat.le_refl _) _).alloc (by simp) _
  by_cases ht : ((str ft).toList == (str gt).toList) = true
  · have e : ft = gt := by rw [Lib.toList_data, Lib.toList_data] at ht; exact eq_of_beq ht
    have er : (fd == gd) = r := by rw [← hr.out]; unfold eqA; rw [e]; simp
    subst er
    clear e hr
    cases fd <;> cases gd
    all_goals
      go_enter Tryz.func43, Tryz.ntmps43
      go_wp2
      go_ret
      exact ⟨rfl, hB _ _⟩
  · have ht' : ((str ft).toList == (str gt).toList) = false := by simpa using ht
    have er : r = false := by
      rw [← hr.out]; unfold eqA
      have : (ft == gt) = false := by rw [beq_eq_false_iff_ne]; intro e; subst e; simp at ht
      rw [this, Bool.and_false]
    subst er
    clear ht hr
    cases fd <;> cases gd
    all_goals
      go_enter Tryz.func43, Tryz.ntmps43
      go_wp2
      go_ret
      exact ⟨rfl, hB _ _⟩

theorem without_any (w : World) {sb bm : Nat} {L : List F} {c : Int} (p : ByteArray) (hS : StoreAt w sb bm L c) (hp : p.size ≤ 1000000) :
    Calls Tryz.prog 42 #[.pointer (some ⟨sb, 0, none⟩), .string p] w fun e w' => ∃ b2, e = .returned (.map (some b2)) ∧ MapAt w' b2 (butA L (bs p)) ∧ Below w.heap.size w w' := by
  have c1 := hS.c1
  have hlt := hS.lt
  have hM := hS.map
  have hpm : p.size ≤ maxLen := by unfold maxLen; omega
  go_enter Tryz.func42, Tryz.ntmps42
  go_wp2_with fail
  refine (mapClone_any w hM).mono ?_
  rintro e w1 ⟨b2, rfl, hb2, hM2, hB1⟩
  go_wp2_with (at_delete; refine wpList_delete_own _ rfl _ _ 61 9 rfl 44 key Tryz.underlying61 _ b2 _ _ rfl hM2.own _ _ rfl (key_of hpm) ?_; intro w2 hown2 hturn2)
  go_ret
  rw [del_mapOf] at hown2
  exact ⟨b2, rfl, MapAt.of_own hown2 (sorted_filter hM2.sorted _), hB1.grown hturn2.grown hB1.size (fun r e => by cases e; exact hb2)⟩

def EqRel (w : World) (b1 : Nat) (L M : List F) (wr : World) : Prop :=
  ∃ (left : Lit → Bool) (cnt : Nat) (xs : List F), wr.ranges Tryz.prog 9 fElem b1 w.heap.size L.length (Sp.mapOf L) left cnt ∧ Came L left xs ∧ (∀ f ∈ xs, ∃ g, Sp.get M f.p = some g ∧ eqA f g = true) ∧ Below w.heap.size w wr

set_option maxHeartbeats 4000000 in
theorem EqualFunc_any (w : World) {b1 b2 : Nat} {L M : List F} (h1 : MapAt w b1 L) (h2 : MapAt w b2 M) (hl : ∀ f ∈ L, f.p.length ≤ 1000000 ∧ f.t.length ≤ 100000000) (hm : ∀ f ∈ M, f.t.length ≤ 100000000) (r : Bool) (hr : Hid (sameM L M = r)) :
    Calls Tryz.prog 41 #[.map (some b1), .map (some b2), .func (.func 43) #[] #[]] w fun e w' => e = .returned (.bool r) ∧ Below w.heap.size w w' := by
  have hs := h1.sorted
  by_cases hlen : L.length = M.length
  · have il : (L.length : Int) = M.length := by omega
    have HL := Lib.hid hlen
    go_enter Tryz.func41, Tryz.ntmps41
    go_wp2_with (first
      | (at_len; refine wpList_size _ rfl (.tmp 11) rfl rfl h1 ?_)
      | (at_len; refine wpList_size _ rfl (.tmp 13) rfl rfl h2 ?_)
      | (at_range; refine wpList_range_own _ rfl _ 61 rfl 9 44 key Tryz.underlying61 _ b1 _ _ rfl h1.own ?_; intro w0 hrg0 hg0 hs0))
    go_frame
    clear il hlen
    go_loopw [7] (fun _ wr => EqRel w b1 L M wr) (fun _ wr => wr.rangeLeft b1 w.heap.size)
    case atStart => exact ⟨_, _, [], hrg0, Came.start L, by simp, (Below.refl _ w).grown hg0 (Nat.le_refl _) (fun r e => by cases e)⟩
    case round =>
      obtain ⟨left, cnt, xs, hrg, hC, hX, hB⟩ := hrel
      go_wp2_with (at_next; refine wpList_next_ranges _ rfl _ rfl 9 key fElem (fun x : List UInt8 => Value.string (str x)) (fun f : F => Value.agg #[.string (str f.p), .string (str f.t), .int .i64 f.c, .bool f.d]) keyS elem_inv b1 w.heap.size _ _ _ _ rfl hrg ?_ ?_)
      · intro hc0 hl0
        have er : r = true := by
          rw [← hr.out]; unfold sameM
          rw [decide_eq_true HL.out, Bool.true_and, List.all_eq_true]
          intro f hf
          obtain ⟨g, e1, e2⟩ := hX f ((hC.2 f).2 ⟨hf, hl0 _⟩)
          rw [e1]; exact e2
        subst er
        go_wp2
        go_ret
        exact ⟨rfl, hB⟩
      · intro x f kl yd yp w2 cnt2 hkey hlk hv hat hrg2 hlt2 hg2 hs2 hen
        obtain rfl := keyS_inv hkey
        obtain rfl : yd = Sp.fD f := (Prod.mk.inj (elem_of hv)).1
        obtain ⟨hC2, hfL, hfp⟩ := hC.step hs hlk hat
        subst hfp
        obtain ⟨hpl, htl⟩ := hl f hfL
        have hB2 := hB.grown hg2 hB.size (fun r e => by cases e; exact Nat.le_refl _)
        have hkm : (str f.p).size ≤ maxLen := by rw [← bs_len, bs_str]; unfold maxLen; omega
        have hB3 := hB2.alloc hB2.size (.cells #[.string (str f.p), .string (str f.t), .int .i64 f.c, .bool f.d] 44)
        have hrg3 := hrg2.alloc (.cells #[.string (str f.p), .string (str f.t), .int .i64 f.c, .bool f.d] 44)
        have h23 := h2.below hB3
        have HC2 := Lib.hid hC2
        have HX := Lib.hid hX
        have hle := Lib.hid hrg.left_eq
        clear hs2 hC2 hX hkey hv hat hrg hrg2 hB
        cases hg : Sp.get M f.p with
        | none =>
          have er : r = false := by
            rw [← hr.out]; unfold sameM
            rw [decide_eq_true HL.out, Bool.true_and, List.all_eq_false]
            exact ⟨f, hfL, by rw [hg]; simp⟩
          subst er
          have hG : Hid (Sp.get M (bs (str f.p)) = none) := Lib.hid (by rw [bs_str]; exact hg)
          clear hg
          go_wp2_with (at_lookup; refine wpList_look_no _ rfl _ _ rfl rfl rfl h23 hkm hG ?_)
          go_ret
          exact ⟨rfl, hB3.alloc hB3.size _⟩
        | some g =>
          have hG : Hid (Sp.get M (bs (str f.p)) = some g) := Lib.hid (by rw [bs_str]; exact hg)
          have hgt := hm g (List.mem_of_find?_eq_some hg)
          obtain ⟨b, hb⟩ : ∃ b, eqA f g = b := ⟨_, rfl⟩
          have hcon := fun W => closureS_any f g W b (Lib.hid hb) htl hgt
          have HCON := Lib.hid hcon
          have HB3 := Lib.hid hB3
          clear hcon
          cases b with
          | false =>
            have er : r = false := by
              rw [← hr.out]; unfold sameM
              rw [decide_eq_true HL.out, Bool.true_and, List.all_eq_false]
              exact ⟨f, hfL, by rw [hg]; simp [hb]⟩
            subst er
            clear hg hb
            go_wp2_with (first
              | (at_lookup; refine wpList_look_yes _ rfl _ _ rfl rfl rfl h23 hkm hG ?_)
              | (go_at_call 43; go_must (refine (HCON.out _).mono ?_); rintro e w4 ⟨rfl, B4⟩))
            go_ret
            exact ⟨rfl, (hB3.alloc hB3.size _).trans (B4.mono (by have := hB3.size; simp at this ⊢; omega))⟩
          | true =>
            have HE : Hid (∃ g, Sp.get M f.p = some g ∧ eqA f g = true) := Lib.hid ⟨g, hg, hb⟩
            clear hg hb
            go_wp2_with (first
              | (at_lookup; refine wpList_look_yes _ rfl _ _ rfl rfl rfl h23 hkm hG ?_)
              | (go_at_call 43; go_must (refine (HCON.out _).mono ?_); rintro e w4 ⟨rfl, B4⟩))
            have hrg4 := (hrg3.alloc (.cells #[.string (str g.p), .string (str g.t), .int .i64 g.c, .bool g.d] 44)).kept (row := none) ⟨B4.os, B4.tape, B4.output, B4.size, fun i hi _ => B4.block i hi⟩ (by simp) (by simp)
            go_roundw
            case rel => exact ⟨_, cnt2, xs ++ [f], hrg4, HC2.out, fun k hk => by rcases List.mem_append.1 hk with h | h; exact HX.out k h; (obtain rfl : k = f := by simpa using h); exact HE.out, (HB3.out.alloc HB3.out.size _).trans (B4.mono (by have := HB3.out.size; simp at this ⊢; omega))⟩
            case measure => rw [hrg4.left_eq, hle.out]; exact hlt2
  · have er : r = false := by rw [← hr.out]; unfold sameM; rw [decide_eq_false hlen]; rfl
    subst er
    have il : ¬ (L.length : Int) = M.length := by omega
    go_enter Tryz.func41, Tryz.ntmps41
    go_wp2_with (first
      | (at_len; refine wpList_size _ rfl (.tmp 11) rfl rfl h1 ?_)
      | (at_len; refine wpList_size _ rfl (.tmp 13) rfl rfl h2 ?_))
    go_ret
    exact ⟨rfl, Below.refl _ w⟩

theorem mem_but {L : List F} {p : List UInt8} {f : F} (h : f ∈ butA L p) : f ∈ L := (List.mem_filter.1 h).1

set_option maxHeartbeats 2000000 in
theorem Same_any (w : World) {sb bm sb2 bm2 : Nat} {L M : List F} {c c2 : Int} (p : ByteArray) (h1 : StoreAt w sb bm L c) (h2 : StoreAt w sb2 bm2 M c2) (hp : p.size ≤ 1000000)
    (hl : ∀ f ∈ L, f.p.length ≤ 1000000 ∧ f.t.length ≤ 100000000) (hm : ∀ f ∈ M, f.t.length ≤ 100000000) :
    Calls Tryz.prog 17 #[.pointer (some ⟨sb, 0, none⟩), .pointer (some ⟨sb2, 0, none⟩), .string p] w fun e w' => e = .returned (.bool (sameA L M (bs p))) ∧ Below w.heap.size w w' := by
  obtain ⟨r, hr⟩ : ∃ r, Hid (sameM (butA L (bs p)) (butA M (bs p)) = r) := ⟨_, Lib.hid rfl⟩
  have HR : Hid (sameA L M (bs p) = r) := hr
  rw [HR.out]
  go_enter Tryz.func17, Tryz.ntmps17
  go_wp2_with fail
  refine (without_any w p h1 hp).mono ?_
  rintro e w1 ⟨b1, rfl, hM1, B1⟩
  have h21 := h2.below B1
  go_wp2_with fail
  refine (without_any w1 p h21 hp).mono ?_
  rintro e w2 ⟨b2, rfl, hM2, B2⟩
  have hM12 := hM1.below B2
  go_wp2_with fail
  refine (EqualFunc_any w2 hM12 hM2 (fun f hf => hl f (mem_but hf)) (fun f hf => hm f (mem_but hf)) r hr).mono ?_
  rintro e w3 ⟨rfl, B3⟩
  go_wp2
  go_ret
  exact ⟨rfl, (B1.trans (B2.mono B1.size)).trans (B3.mono (Nat.le_trans B1.size B2.size))⟩
end Go.Proofs.YtaolccibflniiaaGreatDoor.Sw
