/-
  package text: sort.
-/
import Derived.Sort.OwnSorted
import Derived.Lib.OwnBridge
import Derived.Test.YtenokbceamcekaaGreatDoorQEPBase
import Derived.Test.YtenokbceamcekaaGreatDoorQEPUniq
import Derived.Test.YtenokbceamcekaaGreatDoorQECall2
namespace Go.Proofs.YtenokbceamcekaaGreatDoor.Ew
open Go.RowKit Go.Sort Go.Proofs.YtenokbceamcekaaGreatDoor Go.Proofs.YtenokbceamcekaaGreatDoor.Ww Go.Proofs.YtenokbceamcekaaGreatDoor.Tw
set_option maxRecDepth 100000

def leB8 : List UInt8 → List UInt8 → Bool := fun x y => decide (x ≤ y)
theorem lt_of_bl : ∀ {x y : List UInt8}, Wp.bl x y = true → x < y
  | _, [], h => by simp [Wp.bl, Op.bytesLess] at h
  | [], _ :: _, _ => List.nil_lt_cons _ _
  | a :: x, b :: y, h => by
    have e1 : (decide (a < b) || (a == b && Wp.bl x y)) = true := h
    simp only [Bool.or_eq_true, decide_eq_true_eq, Bool.and_eq_true, beq_iff_eq] at e1
    rw [List.cons_lt_cons_iff]
    rcases e1 with e1 | ⟨rfl, e1⟩
    · exact .inl e1
    · exact .inr ⟨rfl, lt_of_bl e1⟩
theorem bl_of_le {x y : List UInt8} (h : x ≤ y) (hn : x ≠ y) : Wp.bl x y = true := by
  have hf : Wp.bl y x = false := by
    cases hb : Wp.bl y x with
    | false => rfl
    | true => exact absurd (lt_of_bl hb) (List.not_lt.2 h)
  exact Wp.bl_total hf (fun e => hn e.symm)
/-- A list of different texts, sorted. -/
theorem sorted_is (l L : List ByteArray) (hnd : l.Nodup) (hm : ∀ z, z ∈ l ↔ z ∈ L) : ((l.map by8).mergeSort leB8).map str = Wp.sortS L := by
  have tr : ∀ a b c : List UInt8, leB8 a b = true → leB8 b c = true → leB8 a c = true := fun a b c h1 h2 => by simp only [leB8, decide_eq_true_eq] at *; exact List.le_trans h1 h2
  have to : ∀ a b : List UInt8, (leB8 a b || leB8 b a) = true := fun a b => by simp only [leB8, Bool.or_eq_true, decide_eq_true_eq]; exact List.le_total a b
  have hp := List.mergeSort_perm (l.map by8) leB8
  have hnd8 : (l.map by8).Nodup := List.pairwise_map.2 (hnd.imp fun hne e => hne (by8_ext e))
  refine Wp.sort_ext ?_ ?_
  · unfold Wp.Strict
    rw [List.pairwise_map]
    have h1 := List.pairwise_mergeSort tr to (l.map by8)
    have h2 : ((l.map by8).mergeSort leB8).Nodup := hp.nodup_iff.2 hnd8
    refine (h1.and h2).imp ?_
    rintro x y ⟨hxy, hne⟩
    simp only [leB8, decide_eq_true_eq] at hxy
    exact bl_of_le hxy hne
  · intro z
    rw [List.mem_map]
    constructor
    · rintro ⟨y, hy, rfl⟩
      obtain ⟨x, hx, rfl⟩ := List.mem_map.1 (hp.mem_iff.1 hy)
      rw [str_by8]
      exact (hm x).1 hx
    · intro hz
      exact ⟨by8 z, hp.mem_iff.2 (List.mem_map.2 ⟨z, (hm z).2 hz, rfl⟩), str_by8 z⟩
theorem encs_strs (l : List ByteArray) : (l.map by8).map encStr = strsC l := by
  unfold strsC
  rw [List.map_map]
  apply List.map_congr_left
  intro x _
  show Value.string (str (by8 x)) = Value.string x
  rw [str_by8]
/-- slices.Sort of strings of the call's own. -/
theorem PSort_own (w : World) {base : Nat} {v : Value} {l : List ByteArray} (h : w.ownsRow base ST 1 v l.length (strsC l)) (hl : l.length ≤ 1000000) (hb0 : base ≤ w.heap.size) :
    Calls Tryz.prog 92 #[v] w fun e w' => e = .returned (.tuple #[]) ∧ w'.ownsRow base ST 1 v l.length (strsC (((l.map by8).mergeSort leB8).map str)) ∧ Below base w w' := by
  rcases h.2 with ⟨rfl, h0⟩ | ⟨g, cap, cur, rfl, hb, hgb, h1, h2, h3, h4⟩
  · obtain rfl : l = [] := List.eq_nil_of_length_eq_zero h0
    refine (Tryz.slices_Sort_string_none none 0 w).mono ?_
    rintro e w' ⟨rfl, rfl⟩
    exact ⟨rfl, by simpa [strsC] using World.ownsRow_nil _ base ST 1, Below.refl _ _⟩
  · have e8 : (l.map by8).length = l.length := List.length_map ..
    have hH : Holds encStr w g 0 (l.map by8).toArray := holds_of_block hgb (by rw [e8, encs_strs]; simpa using h4)
    have HC := Tryz.slices_Sort_string g 0 cap (l.map by8) w hH (Array.getElem?_eq_some_iff.1 hgb).1 (by omega)
    rw [e8] at HC
    refine HC.mono ?_
    rintro e w' ⟨rfl, n, os, rfl⟩
    have hlen : ((l.map by8).mergeSort leB8).length = (l.map by8).length := List.length_mergeSort _
    refine ⟨rfl, ?_, (Below.refl base w).grown (grownBy_sorted _) hb0 fun j e => by cases e; exact hb⟩
    have := ownsRow_sorted (ts := (l.map by8).mergeSort leB8) (os := os) (n := n) hlen hb hgb (by rw [e8]; exact h1) h2 h3
    rw [e8] at this
    have e9 : strsC (((l.map by8).mergeSort leB8).map str) = ((l.map by8).mergeSort leB8).map encStr := by
      unfold strsC
      rw [List.map_map]
      rfl
    rw [e9]
    exact this
set_option maxHeartbeats 2000000 in
theorem Psort_any (w : World) (p : ByteArray) (h0 : p.size ≤ 9000) : Calls Tryz.prog 59 #[.string p] w fun e w' => e = .returned (.string (joinS (Wp.sortS (wordsS p)))) ∧ Below w.heap.size w w' := by
  have HL := Lib.hid fun W => PSplit_any W p (by omega)
  have hwl := words_few p
  have HS : Hid (∀ q ∈ wordsS p, q.size ≤ 9000) := Lib.hid fun q hq => word_lim h0 hq
  generalize wordsS p = L at *
  have HX := Lib.hid (sorted_is (Wp.uniq L) L (Wp.uniq_nodup L) (fun z => Wp.mem_uniq))
  have hul := Wp.uniq_len L
  have HZ : Hid (∀ q ∈ Wp.sortS L, q.size ≤ 9000) := Lib.hid fun q hq => HS.out q (Wp.sort_mem.1 hq)
  have hsl := Wp.sort_len L
  have HQ : Hid ((Wp.sortS L).length = (Wp.uniq L).length) := Lib.hid (by rw [← HX.out, List.length_map, List.length_mergeSort, List.length_map])
  go_enter Tryz.func59, Tryz.ntmps59
  go_wp2_with fail
  refine (HL.out _).mono ?_
  rintro e w1 ⟨a1, c1, rfl, HO, B1⟩
  have HB1 := Lib.hid B1
  have HU := Lib.hid (Wu.Unique_any w1 (.slice a1 L.length c1) L (Rd.of_own HO.out) (by omega) (fun x hx => by have := HS.out x hx; omega))
  clear B1
  go_wp2_with fail
  refine HU.out.mono ?_
  rintro e w2 ⟨a2, c2, rfl, ho2, B2⟩
  have HB2 := Lib.hid (HB1.out.trans (B2.mono HB1.out.size))
  have HT := Lib.hid (PSort_own w2 (owns_weaken ho2 (Nat.le_add_right w1.heap.size 1)) (by omega) B2.size)
  clear B2 ho2
  go_wp2_with fail
  refine HT.out.mono ?_
  rintro e w3 ⟨rfl, ho3, B3⟩
  rw [HX.out, ← HQ.out] at ho3
  have HB3 := Lib.hid (HB2.out.trans (B3.mono HB1.out.size))
  have HJ := Lib.hid (PJoin_any w3 _ (Wp.sortS L) (Rd.of_own ho3) (by omega) (fun q hq => by have := HZ.out q hq; omega))
  rw [HQ.out] at HJ
  clear B3 ho3
  go_wp2_with fail
  refine HJ.out.mono ?_
  rintro e w4 ⟨rfl, B4⟩
  go_wp2_with fail
  go_ret
  exact ⟨rfl, HB3.out.trans (B4.mono HB3.out.size)⟩
end Go.Proofs.YtenokbceamcekaaGreatDoor.Ew
