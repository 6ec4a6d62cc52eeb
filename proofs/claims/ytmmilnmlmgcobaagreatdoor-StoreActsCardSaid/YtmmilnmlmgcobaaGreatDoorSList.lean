/-
  (*Store).List: the names in a directory, in increasing order.
-/
import Derived.Sort.OwnSorted
import Derived.Test.YtmmilnmlmgcobaaGreatDoorSRemove
namespace Go.Proofs.YtmmilnmlmgcobaaGreatDoor.Sw
open Go.RowKit Go.Proofs.YtmmilnmlmgcobaaGreatDoor Go.Maps Go.Sort
set_option maxRecDepth 100000

def leS : List UInt8 → List UInt8 → Bool := fun x y => decide (x ≤ y)
/-- The names in p, as they come. -/
def namesIn (p : List UInt8) (xs : List F) : List (List UInt8) := (xs.filter fun f => dirL f.p == p).map fun f => baseL f.p
def strs (l : List (List UInt8)) : List ByteArray := l.map str
theorem strC_strs (l : List (List UInt8)) : strC (strs l) = l.map encStr := by simp [strC, strs, encStr, str]
theorem strs_len (l : List (List UInt8)) : (strs l).length = l.length := by simp [strs]

/-- slices.Sort of strings of the call's own. -/
theorem Sort_own (w : World) {base : Nat} {v : Value} {l : List (List UInt8)} (h : w.ownsRow base 9 1 v (strs l).length (strC (strs l))) (hl : l.length ≤ 1000000) :
    Calls Tryz.prog 74 #[v] w fun e w' => e = .returned (.tuple #[]) ∧ w'.ownsRow base 9 1 v (strs (l.mergeSort leS)).length (strC (strs (l.mergeSort leS))) ∧ ∀ B, B ≤ base → B ≤ w.heap.size → Below B w w' := by
  rw [strC_strs, strs_len] at h
  rcases h.2 with ⟨rfl, h0⟩ | ⟨g, cap, cur, rfl, hb, hgb, h1, h2, h3, h4⟩
  · obtain rfl : l = [] := List.eq_nil_of_length_eq_zero h0
    refine (Tryz.slices_Sort_string_none none 0 w).mono ?_
    rintro e w' ⟨rfl, rfl⟩
    exact ⟨rfl, by simpa [strs, strC] using World.ownsRow_nil _ base 9 1, fun B _ _ => Below.refl _ _⟩
  · have hH : Holds encStr w g 0 l.toArray := holds_of_block hgb (by simpa using h4)
    refine (Tryz.slices_Sort_string g 0 cap l w hH (Array.getElem?_eq_some_iff.1 hgb).1 (by omega)).mono ?_
    rintro e w' ⟨rfl, n, os, rfl⟩
    have hlen : (l.mergeSort leS).length = l.length := List.length_mergeSort l
    refine ⟨rfl, ?_, fun B hB hs => (RowKit.Below.refl B w).grown (grownBy_sorted _) hs fun j e => by cases e; omega⟩
    rw [strC_strs, strs_len, hlen]
    exact ownsRow_sorted hlen hb hgb h1 h2 h3

def LsRel (w : World) (bm r : Nat) (L : List F) (p : List UInt8) (v : Value) (wr : World) : Prop :=
  ∃ (left : Lit → Bool) (cnt : Nat) (xs : List F) (a : Option Addr) (cp : Nat), v = .slice a (strs (namesIn p xs)).length cp ∧ wr.ranges Tryz.prog 9 fElem bm r L.length (Sp.mapOf L) left cnt ∧ Came L left xs ∧
    wr.ownsRow w.heap.size 9 1 (.slice a (strs (namesIn p xs)).length cp) (strs (namesIn p xs)).length (strC (strs (namesIn p xs))) ∧ Below w.heap.size w wr ∧ xs.length + cnt ≤ L.length

def ListPost (w : World) (l : List (List UInt8)) (n : Int) (e : Ending) (w' : World) : Prop :=
  ∃ v, e = .returned (.tuple #[v, .int .i64 n]) ∧ w'.ownsRow w.heap.size 9 1 v (strs l).length (strC (strs l)) ∧ Below w.heap.size w w'

theorem names_snoc_yes {p : List UInt8} {xs : List F} {f : F} (h : dirL f.p = p) : namesIn p (xs ++ [f]) = namesIn p xs ++ [baseL f.p] := by simp [namesIn, h]
theorem names_snoc_no {p : List UInt8} {xs : List F} {f : F} (h : dirL f.p ≠ p) : namesIn p (xs ++ [f]) = namesIn p xs := by simp [namesIn, h]
theorem names_perm {p : List UInt8} {xs L : List F} (h : xs.Perm L) : (namesIn p xs).Perm (namesIn p L) := (h.filter _).map _

theorem sort_perm {l l' : List (List UInt8)} (h : l.Perm l') : l.mergeSort leS = l'.mergeSort leS := mergeSort_of_perm h

theorem base_is (w : World) (p d : ByteArray) (hs : p.size ≤ 1000000) (h : Hid (baseL (bs p) = bs d)) :
    Calls Tryz.prog 73 #[.string p] w fun e w' => e = .returned (.string d) ∧ w = w' := by
  have := Base_any w p hs
  rwa [h.out, str_bs] at this

set_option maxHeartbeats 4000000 in
theorem List_dir (w : World) {sb bm : Nat} {L : List F} {c : Int} (p : ByteArray) (f0 : F) (hS : StoreAt w sb bm L c) (hp : p.size ≤ maxLen) (hf : Hid (getR L (bs p) = some f0)) (hd : f0.d = true) (hl : ∀ f ∈ L, f.p.length ≤ 1000000) (hll : L.length ≤ 100000) :
    Calls Tryz.prog 40 #[.pointer (some ⟨sb, 0, none⟩), .string p] w (ListPost w ((namesIn (bs p) L).mergeSort leS) 0) := by
  obtain ⟨i0, hi, hz0, hz1, hz2⟩ := info_parts infoS
  obtain ⟨fp, ft, fc, fd⟩ := f0
  obtain rfl : fd = true := hd
  have hs := hS.map.sorted
  have hlt0 := hS.map.lt
  go_enter Tryz.func40, Tryz.ntmps40
  go_wp2_with fail
  refine (Get_yes _ p hS hp hf).mono ?_
  rintro e w1 ⟨rfl, B1⟩
  have hS1 := (hS.below B1).alloc (.cells #[.string (str fp), .string (str ft), .int .i64 fc, .bool true] 26)
  have c1 := hS1.c1
  have hlt := hS1.lt
  have hM := hS1.map
  have hB1 := B1.alloc B1.size (.cells #[.string (str fp), .string (str ft), .int .i64 fc, .bool true] 26)
  unfold fV
  go_wp2_with (at_range; refine wpList_range_own _ rfl _ 50 rfl 9 26 key Tryz.underlying50 _ bm _ _ rfl hM.own ?_; intro w0 hrg0 hg0 hs0)
  go_frame
  generalize hrr : (w1.alloc (.cells #[.string (str fp), .string (str ft), .int .i64 fc, .bool true] 26)).heap.size = r at *
  have hwr : w.heap.size ≤ r := by rw [← hrr]; exact hB1.size
  go_loopw [8] (fun v wr => LsRel w bm r L (bs p) v wr) (fun _ wr => wr.rangeLeft bm r)
  case atStart => exact ⟨_, _, [], none, 0, rfl, hrg0, Came.start L, World.ownsRow_nil _ _ _ _, hB1.grown hg0 hB1.size (fun r e => by cases e), by rw [Sp.size_mapOf]; simp⟩
  case round =>
    obtain ⟨left, cnt, xs, a, cp, rfl, hrg, hC, hown, hB, hcnt⟩ := hrel
    go_wp2_with (at_next; refine wpList_next_ranges _ rfl _ rfl 9 key fElem (fun x : List UInt8 => Value.string (str x)) (fun f : F => Value.agg #[.string (str f.p), .string (str f.t), .int .i64 f.c, .bool f.d]) keyS elem_inv bm r _ _ _ _ rfl hrg ?_ ?_)
    · intro hc0 hl0
      have hpm := hC.all hs hl0
      have hnl : (namesIn (bs p) xs).length ≤ 1000000 := by
        have h1 : (namesIn (bs p) xs).length ≤ xs.length := by unfold namesIn; rw [List.length_map]; exact List.length_filter_le _ _
        omega
      have hso := Lib.hid (Sort_own wr hown hnl)
      have HE : Hid ((namesIn (bs p) xs).mergeSort leS = (namesIn (bs p) L).mergeSort leS) := Lib.hid (sort_perm (names_perm hpm))
      clear hpm hnl
      go_wp2_with (go_at_call 74; go_must (refine hso.out.mono ?_); rintro e w4 ⟨rfl, ho4, hB4⟩)
      go_ret2
      rw [HE.out] at ho4
      exact ⟨_, rfl, ho4, hB.trans (hB4 _ (Nat.le_refl _) hB.size)⟩
    · intro x f kl yd yp w2 cnt2 hkey hlk hv hat hrg2 hlt2 hg2 hs2 hen
      obtain rfl := keyS_inv hkey
      obtain rfl : yd = Sp.fD f := (Prod.mk.inj (elem_of hv)).1
      obtain ⟨hC2, hfL, hfp⟩ := hC.step hs hlk hat
      subst hfp
      have hpl := hl f hfL
      have hps : (str f.p).size ≤ 1000000 := by rw [← bs_len, bs_str]; exact hpl
      have hB2 := hB.grown hg2 hB.size (fun r e => by cases e; exact hwr)
      have hown2 := hown.kept hg2 (.inr (fun e => row_ne_iter hown hrg e.symm))
      obtain ⟨d, hd⟩ : ∃ d : ByteArray, dirL f.p = bs d := ⟨str (dirL f.p), rfl⟩
      obtain ⟨b, hb⟩ : ∃ b : ByteArray, baseL f.p = bs b := ⟨str (baseL f.p), rfl⟩
      have HD : Hid (dirL (bs (str f.p)) = bs d) := Lib.hid (by rw [bs_str]; exact hd)
      have HBs : Hid (baseL (bs (str f.p)) = bs b) := Lib.hid (by rw [bs_str]; exact hb)
      have hle := Lib.hid hrg.left_eq
      have HC2 := Lib.hid hC2
      clear hs2 hC2 hkey hv hat hrg hown
      by_cases he : (d.toList == p.toList) = true
      · have hdp : dirL f.p = bs p := by rw [hd]; rw [Lib.toList_data, Lib.toList_data] at he; exact eq_of_beq he
        have HN := Lib.hid (names_snoc_yes (xs := xs) hdp)
        have hnx : (strs (namesIn (bs p) xs)).length ≤ xs.length := by rw [strs_len]; unfold namesIn; rw [List.length_map]; exact List.length_filter_le _ _
        have HE : Hid (strs (namesIn (bs p) (xs ++ [f])) = strs (namesIn (bs p) xs) ++ [b]) := Lib.hid (by rw [HN.out, hb]; simp [strs, str_bs])
        clear hd hdp hb
        go_wp2_with (first
          | (go_at_call 55; go_must (refine (dir_is _ _ d hps HD).mono ?_); rintro e w4 ⟨rfl, rfl⟩)
          | (go_at_call 73; go_must (refine (base_is _ _ b hps HBs).mono ?_); rintro e w4 ⟨rfl, rfl⟩)
          | (at_builtin; refine wpList_append_own _ rfl _ _ 79 rfl w.heap.size 9 i0 (.string ByteArray.empty) 1 16 Tryz.underlying79 hi hz0 hz1 hz2 rfl (by decide) _ _ _ rfl (hown2.alloc _) ⟨w2.heap.size, 0, none⟩ 1 1 [.string b] rfl rfl (cell_one_new _ _ _) (by simp [Value.oneCell']) (by unfold maxLen; omega) (by omega) (by have := hB2.size; simp; omega) ?_; intro v' w5 hown' hgrow _; obtain ⟨a2, c2, rfl⟩ := owns_slice hown'))
        have hrg3 := (hrg2.alloc (.cells #[.string b] 9)).kept hgrow (row_ne_low (hown2.alloc (.cells #[.string b] 9)) hlt0) (row_ne_iter (hown2.alloc (.cells #[.string b] 9)) (hrg2.alloc (.cells #[.string b] 9)))
        have hB3 := (hB2.alloc hB2.size (.cells #[.string b] 9)).grown hgrow (by have := hB2.size; simp; omega) (fun r e => Nat.le_of_not_lt fun h => row_ne_low (hown2.alloc (.cells #[.string b] 9)) h e.symm)
        go_roundw
        case rel =>
          refine ⟨_, cnt2, xs ++ [f], a2, c2, by rw [HE.out]; simp, hrg3, HC2.out, ?_, hB3, ?_⟩
          · rw [HE.out]; simpa [strC] using hown'
          · simp; omega
        case measure => rw [hrg3.left_eq, hle.out]; exact hlt2
      · have hdp : dirL f.p ≠ bs p := by rw [hd]; intro e; rw [Lib.toList_data, Lib.toList_data] at he; exact he (beq_iff_eq.2 e)
        have HN := Lib.hid (names_snoc_no (xs := xs) hdp)
        clear hd hdp hb
        go_wp2_with (go_at_call 55; go_must (refine (dir_is _ _ d hps HD).mono ?_); rintro e w4 ⟨rfl, rfl⟩)
        go_roundw
        case rel =>
          refine ⟨_, cnt2, xs ++ [f], a, cp, by rw [HN.out], hrg2, HC2.out, ?_, hB2, ?_⟩
          · rw [HN.out]; exact hown2
          · simp; omega
        case measure => rw [hrg2.left_eq, hle.out]; exact hlt2

def listA (L : List F) (p : List UInt8) : List (List UInt8) × Int :=
  match getR L p with
  | none => ([], 3)
  | some f => if f.d then ((namesIn p L).mergeSort leS, 0) else ([], 4)

theorem List_no (w : World) {sb bm : Nat} {L : List F} {c : Int} (p : ByteArray) (hS : StoreAt w sb bm L c) (hp : p.size ≤ maxLen) (hf : Hid (getR L (bs p) = none)) :
    Calls Tryz.prog 40 #[.pointer (some ⟨sb, 0, none⟩), .string p] w (ListPost w [] 3) := by
  go_enter Tryz.func40, Tryz.ntmps40
  go_wp2_with fail
  refine (Get_no _ p hS hp hf).mono ?_
  rintro e w1 ⟨rfl, B1⟩
  unfold fV noF
  have hB1 := B1.alloc B1.size (.cells #[.string (str []), .string (str []), .int .i64 0, .bool false] 26)
  go_wp2_with fail
  go_ret2
  exact ⟨_, rfl, by simpa [strs, strC] using World.ownsRow_nil _ w.heap.size 9 1, hB1⟩

theorem List_file (w : World) {sb bm : Nat} {L : List F} {c : Int} (p : ByteArray) (f0 : F) (hS : StoreAt w sb bm L c) (hp : p.size ≤ maxLen) (hf : Hid (getR L (bs p) = some f0)) (hd : f0.d = false) :
    Calls Tryz.prog 40 #[.pointer (some ⟨sb, 0, none⟩), .string p] w (ListPost w [] 4) := by
  obtain ⟨fp, ft, fc, fd⟩ := f0
  obtain rfl : fd = false := hd
  go_enter Tryz.func40, Tryz.ntmps40
  go_wp2_with fail
  refine (Get_yes _ p hS hp hf).mono ?_
  rintro e w1 ⟨rfl, B1⟩
  unfold fV
  have hB1 := B1.alloc B1.size (.cells #[.string (str fp), .string (str ft), .int .i64 fc, .bool false] 26)
  go_wp2_with fail
  go_ret2
  exact ⟨_, rfl, by simpa [strs, strC] using World.ownsRow_nil _ w.heap.size 9 1, hB1⟩

theorem List_any (w : World) {sb bm : Nat} {L : List F} {c : Int} (p : ByteArray) (hS : StoreAt w sb bm L c) (hp : p.size ≤ maxLen) (hl : ∀ f ∈ L, f.p.length ≤ 1000000) (hll : L.length ≤ 100000) :
    Calls Tryz.prog 40 #[.pointer (some ⟨sb, 0, none⟩), .string p] w (ListPost w (listA L (bs p)).1 (listA L (bs p)).2) := by
  cases h : getR L (bs p) with
  | none => simp only [listA, h]; exact List_no w p hS hp (Lib.hid h)
  | some f =>
    cases hd : f.d with
    | true => simp only [listA, h, hd, if_true]; exact List_dir w p f hS hp (Lib.hid h) hd hl hll
    | false => simp only [listA, h, hd, Bool.false_eq_true, if_false]; exact List_file w p f hS hp (Lib.hid h) hd
end Go.Proofs.YtmmilnmlmgcobaaGreatDoor.Sw
