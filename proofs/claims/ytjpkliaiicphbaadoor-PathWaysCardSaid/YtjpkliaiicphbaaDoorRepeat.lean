/-
  slices.Repeat of one string: a new row of as many.
-/
import Derived.Laws.CopyOwn
import Derived.Deep.RegionLaw
import Derived.Test.YtjpkliaiicphbaaDoorShelf
import Derived.Test.YtjpkliaiicphbaaDoorRefJoin
namespace Go.Proofs.YtjpkliaiicphbaaDoor
open Go.RowKit
set_option maxRecDepth 100000

theorem mul_any (m : Nat) (hm : m ≤ 1000000) (w : World) :
    Calls Tryd.prog 27 #[.int .u64 1, .int .u64 m] w fun e w' => e = .returned (.tuple #[.int .u64 0, .int .u64 m]) ∧ w = w' := by
  have h := Tryd.bits_Mul 1 m (by omega) (by omega) w
  have e1 : 1 * m / 18446744073709551616 = 0 := by omega
  have e2 : 1 * m % 18446744073709551616 = m := by omega
  rw [e1, e2] at h
  exact h.mono fun e w' ⟨a, b⟩ => ⟨a, b.symm⟩

/-- The row while it is filled. -/
def filled (d : ByteArray) (m k : Nat) : List Value := List.replicate k (.string d) ++ List.replicate (m - k) (.string ByteArray.empty)
theorem filled_len (d : ByteArray) {m k : Nat} (h : k ≤ m) : (filled d m k).length = m := by simp [filled]; omega
theorem filled_splice (d : ByteArray) (m k j : Nat) : splice (filled d m k) k (List.replicate j (.string d)) = filled d m (k + j) := by
  unfold splice filled
  have e1 : (List.replicate k (Value.string d) ++ List.replicate (m - k) (Value.string ByteArray.empty)).take k = List.replicate k (Value.string d) := by
    rw [List.take_left' (by simp)]
  have e2 : (List.replicate k (Value.string d) ++ List.replicate (m - k) (Value.string ByteArray.empty)).drop (k + j) = List.replicate (m - (k + j)) (Value.string ByteArray.empty) := by
    rw [List.drop_append, List.drop_of_length_le (by simp)]
    simp
    omega
  rw [List.length_replicate, e1, e2, ← List.append_assoc, List.replicate_append_replicate]

theorem made_filled (d : ByteArray) (m : Nat) : (madeCells (Value.string ByteArray.empty).cells (m * 1)).toList = filled d m 0 := by
  rw [show (Value.string ByteArray.empty).cells = #[.string ByteArray.empty] from rfl]
  have := Lib.cellsOf_nil (m * 1)
  rw [← this]
  simp [Lib.cellsOf, filled]

theorem owns_whole {w : World} {base e n g : Nat} {xs : List Value} (h : w.ownsRow base e 1 (.slice (some ⟨g, 0, none⟩) n n) n xs) : w.heap[g]? = some (.cells xs.toArray e (0, 0)) := by
  rcases h.2 with ⟨h0, _⟩ | ⟨g', c', cur, hv, _, hg, _, _, hs, ht⟩
  · cases h0
  · cases hv
    rw [hg, ← ht, List.take_of_length_le (by simp [hs])]

theorem owns_filled {w : World} {base g m : Nat} {d : ByteArray} (h : w.heap[g]? = some (.cells (filled d m m).toArray 9 (0, 0))) (hb : base ≤ g) (hm : m ≤ maxLen) : w.ownsRow base 9 1 (.slice (some ⟨g, 0, none⟩) m m) m (strC (List.replicate m d)) := by
  have e : filled d m m = strC (List.replicate m d) := by simp [filled, strC]
  rw [e] at h
  exact ⟨by simp [strC], .inr ⟨g, m, _, rfl, hb, h, Nat.le_refl _, hm, by simp [strC], by simp [strC]⟩⟩

theorem filled_cell {w : World} {g m k : Nat} {d : ByteArray} (h : w.heap[g]? = some (.cells (filled d m k).toArray 9 (0, 0))) (j n : Nat) (v : Value) (hn : n ≤ k) (hv : (List.replicate n (Value.string d))[j]? = some v) : w.cell? ((⟨g, 0, none⟩ : Addr).add j) = some v := by
  have hj : j < n := by
    have := (List.getElem?_eq_some_iff.1 hv).1
    simpa using this
  rw [List.getElem?_replicate, if_pos hj] at hv
  rw [Addr.add_lit, Nat.zero_add]
  unfold World.cell?
  simp only [h]
  rw [← hv]
  simp [filled, List.getElem?_append, show j < k by omega]

/-- From place 0 of block g on these cells lie. -/
def Lie (w : World) (g : Nat) (cs : List Value) : Prop := ∀ i v, cs[i]? = some v → w.cell? ((⟨g, 0, none⟩ : Addr).add i) = some v

set_option maxHeartbeats 800000 in
theorem Repeat_any (w : World) (g0 o0 c0 m : Nat) (d : ByteArray) (hlt : g0 < w.heap.size) (hc : w.cell? ⟨g0, o0, none⟩ = some (.string d)) (hm : m ≤ 1000000) :
    Calls Tryd.prog 20 #[.slice (some ⟨g0, o0, none⟩) 1 c0, .int .i64 m] w fun e w' => ∃ g, e = .returned (.slice (some ⟨g, 0, none⟩) m m) ∧
      w'.ownsRow w.heap.size 9 1 (.slice (some ⟨g, 0, none⟩) m m) m (strC (List.replicate m d)) ∧ Below w.heap.size w w' := by
  obtain ⟨i0, hi, hz0, hz1, hz2⟩ := info_parts infoS
  have hsz : (Tryd.prog.info? 9).map (·.size) = some 1 := by rw [hi]; simp [hz1]
  have HC := Lib.hid hc
  clear hc
  obtain ⟨k1, hk, hk1, hk2⟩ : ∃ k1, Hid (Nat.min 1 m = k1) ∧ k1 ≤ m ∧ (k1 = 0 → m = 0) := ⟨Nat.min 1 m, Lib.hid rfl, Nat.min_le_right _ _, fun h => by have e : min 1 m = 0 := h; omega⟩
  have hk3 : k1 ≤ 1 := by rw [← hk.out]; exact Nat.min_le_left _ _
  have HK := Lib.hid hk2
  clear hk2
  go_enter Tryd.func20, Tryd.ntmps20
  go_wp2_with (first
    | (go_at_call 27; refine (mul_any m hm _).mono ?_; rintro e w' ⟨rfl, rfl⟩)
    | (at_make; refine wpList_make_full _ rfl _ _ 22 rfl w.heap.size 9 i0 (.string ByteArray.empty) 1 Tryd.underlying22 hi hz0 hz1 .i64 .i64 m m m rfl rfl rfl rfl (by rw [hz2]; omega) (by unfold maxLen; omega) (Nat.le_refl _) ?_; intro w1 hown hgrow; rw [made_filled d m] at hown; have hg1 := Lib.hid (owns_whole hown); have hB1 := (Below.refl w.heap.size w).grown hgrow (Nat.le_refl _) (fun k e => by cases e); clear hown hgrow)
    | (with_reducible refine wpList_copy_splice rfl (.tmp 31) (.tmp 32) 22 22 rfl 9 Tryd.underlying22 hsz (some ⟨w.heap.size, 0, none⟩) (some ⟨g0, o0, none⟩) m m 1 c0 rfl rfl w.heap.size 0 (filled d m 0) 9 hg1.out (List.replicate k1 (.string d)) ?_ ?_ ?_ ?_ w.heap.size w hB1 (Nat.le_refl _) ?_))
  · rw [List.length_replicate]; exact hk.out.symm
  · intro hpos j v hv
    have hj : j < k1 := by
      have := (List.getElem?_eq_some_iff.1 hv).1
      simpa using this
    obtain rfl : j = 0 := by omega
    rw [List.getElem?_replicate, if_pos hj] at hv
    rw [← hv]
    exact (hB1.cell (p := ⟨g0, o0 + 0, none⟩) hlt).trans HC.out
  · rw [filled_len d (Nat.zero_le m), List.length_replicate]; omega
  · intro v hv
    rw [List.eq_of_mem_replicate hv]
    rfl
  · intro w2 hg2 hB2
    have hg3 : Hid (w2.heap[w.heap.size]? = some (.cells (filled d m k1).toArray 9 (0, 0))) := Lib.hid (by
      have := hg2.out
      rwa [filled_splice d m 0 k1, Nat.zero_add] at this)
    clear hg1 hg2 hB1
    go_wp2
    go_loopw [8] (fun i wr => ∃ k : Nat, i = .int .i64 k ∧ k ≤ m ∧ (k = 0 → m = 0) ∧ wr.heap[w.heap.size]? = some (.cells (filled d m k).toArray 9 (0, 0)) ∧ Below w.heap.size w wr) (fun i _ => m - (intOf i).toNat)
    case atStart => exact ⟨k1, by simp, hk1, HK.out, hg3.out, hB2⟩
    case round =>
      obtain ⟨k, rfl, hkm, hk0, hg, hB⟩ := hrel
      have HG := Lib.hid hg
      clear hg
      by_cases hlt2 : k < m
      · have hpos : 0 < k := by rcases Nat.eq_zero_or_pos k with h | h
                                · have := hk0 h; omega
                                · exact h
        clear hk0
        obtain ⟨j, hj, hj1, hj2, hj3⟩ : ∃ j, Hid (Nat.min k (m - k) = j) ∧ k + j ≤ m ∧ 0 < j ∧ j ≤ k := ⟨min k (m - k), Lib.hid rfl, by omega, by omega, by omega⟩
        have HGd : Hid (wr.drew.heap[w.heap.size]? = some (.cells (filled d m k).toArray 9 (0, 0))) := Lib.hid HG.out
        have hBd : Below w.heap.size w wr.drew := hB.drew
        have hne : ¬ m = k := by omega
        obtain ⟨cs, hcs⟩ : ∃ cs, Hid (cs = List.replicate j (Value.string d)) := ⟨_, Lib.hid rfl⟩
        have a1 : Hid (cs.length = Nat.min k (m - k)) := Lib.hid (by rw [hcs.out, List.length_replicate]; exact hj.out.symm)
        have a2 : Lie wr.drew w.heap.size cs := fun i v hv => filled_cell HGd.out i j v hj3 (by rw [← hcs.out]; exact hv)
        have a3 : Hid (k + cs.length ≤ (filled d m k).length) := Lib.hid (by rw [filled_len d hkm, hcs.out, List.length_replicate]; exact hj1)
        have a4 : Hid (∀ v ∈ cs, v.oneCell' = true) := Lib.hid (fun v hv => by rw [hcs.out] at hv; rw [List.eq_of_mem_replicate hv]; rfl)
        go_wp2
        go_region_law (refine step_copy_splice rfl (.tmp 41) (.tmp 44) 22 22 rfl 9 Tryd.underlying22 hsz (some ⟨w.heap.size, k, none⟩) (some ⟨w.heap.size, 0, none⟩) (m - k) (m - k) k m (by simp [go_sem]) (by simp [go_sem]) w.heap.size k (filled d m k) 9 HGd.out cs a1.out (fun _ => ⟨rfl, _, rfl, a2⟩) a3.out a4.out w.heap.size w hBd (Nat.le_refl _) ?_; intro w4 hg4 hB4)
        all_goals go_simp
        all_goals go_wp2
        have hl : cs.length = j := by rw [hcs.out, List.length_replicate]
        rw [hl, show IntKind.i64.wrap ((k : Int) + (j : Int)) = ((k + j : Nat) : Int) from by rw [IntWalk.i64_in _ (by omega)]; omega]
        refine ⟨⟨k + j, rfl, hj1, fun h => by omega, ?_, hB4⟩, by simp [intOf]; omega⟩
        have := hg4.out
        rwa [hcs.out, filled_splice d m k j] at this
      · obtain rfl : k = m := by omega
        have hge : ¬ (k : Int) < k := by omega
        clear hk0
        go_wp2
        go_ret
        exact ⟨_, rfl, owns_filled HG.out (Nat.le_refl _) (by unfold maxLen; omega), hB⟩
end Go.Proofs.YtjpkliaiicphbaaDoor
