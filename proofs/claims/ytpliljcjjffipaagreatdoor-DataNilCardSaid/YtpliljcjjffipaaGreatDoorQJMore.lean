/-
  flatironref11: Right, Has, without.
  flatironref11.Set, where there is one already.
  flatironref11.More.
-/
import Derived.Test.YtpliljcjjffipaaGreatDoorQJPGet
import Derived.Test.YtpliljcjjffipaaGreatDoorQJSet
namespace Go.Proofs.YtpliljcjjffipaaGreatDoor.Jw
open Go.RowKit Go.Proofs.YtpliljcjjffipaaGreatDoor Go.Proofs.YtpliljcjjffipaaGreatDoor.Ww Go.Proofs.YtpliljcjjffipaaGreatDoor.Tw
set_option maxRecDepth 100000

theorem has_drop {l : List Bs} {k : Bs} {i : Nat} (h : i < l.length) (hn : ¬ l[i] = k) : Jp.hasA (l.drop i) k = Jp.hasA (l.drop (i + 1)) k := by
  rw [List.drop_eq_getElem_cons h]
  show (l[i] == k || Jp.hasA (l.drop (i + 1)) k) = _
  rw [beq_eq_false_iff_ne.2 hn, Bool.false_or]
set_option maxHeartbeats 2000000 in
theorem Has_any (w : World) (lo : Nat) (v : Value) (l : List Bs) (k : Bs) (hl : w.ownsRow lo ST 1 v l.length (nC l)) (hz : l.length ≤ 1000000) :
    Calls Tryz.prog 277 #[v, .string (str k)] w fun e w' => e = .returned (.bool (Jp.hasA l k)) ∧ w = w' := by
  obtain ⟨a, c, rfl⟩ := owns_slice hl
  have HL := Lib.hid hl
  clear hl
  go_enter Tryz.func277, Tryz.ntmps277
  go_wp2_with fail
  go_loop [5] (fun vi => ∃ i : Nat, vi = .int .i64 i ∧ i ≤ l.length ∧ Jp.hasA l k = Jp.hasA (l.drop i) k) (fun vi => l.length - (intOf vi).toNat)
  case atStart => exact ⟨0, rfl, Nat.zero_le _, rfl⟩
  case round =>
    obtain ⟨i, rfl, hi, hg⟩ := hrel
    by_cases hlt : i < l.length
    · obtain ⟨g, rfl, hc, hgl, _, x0⟩ := name_cell HL.out hlt
      have hki : (i : Int) < l.length := by omega
      have hk0 : (0 : Int) ≤ (i : Int) := Int.natCast_nonneg _
      by_cases hk : l[i] = k
      · have HG : Hid (Jp.hasA l k = true) := Lib.hid (hg.trans (by
          rw [List.drop_eq_getElem_cons hlt]
          show (l[i] == k || Jp.hasA (l.drop (i + 1)) k) = _
          rw [beq_iff_eq.2 hk, Bool.true_or]))
        have hq := beq_yes (a := str l[i]) (b := str k) (by rw [by8_str, by8_str]; exact hk)
        clear hg hk
        generalize l[i] = x at *
        go_wp2_with fail
        go_ret
        exact ⟨ret_bool HG.out.symm, rfl⟩
      · have HG : Hid (Jp.hasA l k = Jp.hasA (l.drop (i + 1)) k) := Lib.hid (hg.trans (has_drop hlt hk))
        have hq := beq_no (a := str l[i]) (b := str k) (by rw [by8_str, by8_str]; exact hk)
        clear hg hk
        generalize l[i] = x at *
        go_wp2_with fail
        go_round
        case rel => exact ⟨i + 1, by go_num, hlt, HG.out⟩
        case measure => simp [intOf]; omega
    · obtain rfl : i = l.length := by omega
      have HG : Hid (Jp.hasA l k = false) := Lib.hid (hg.trans (by rw [List.drop_length]; rfl))
      have hki : ¬ (l.length : Int) < l.length := by omega
      clear hg
      go_wp2_with fail
      go_ret
      exact ⟨ret_bool HG.out.symm, rfl⟩

def WoRel (w : World) (l : List Bs) (k : Bs) (vo vi : Value) (wr : World) : Prop :=
  ∃ i : Nat, vi = .int .i64 i ∧ i ≤ l.length ∧ wr.ownsRow w.heap.size ST 1 vo (Jp.withoutA k (l.take i)).length (nC (Jp.withoutA k (l.take i))) ∧ Below w.heap.size w wr
end Go.Proofs.YtpliljcjjffipaaGreatDoor.Jw
namespace Go.Proofs.YtpliljcjjffipaaGreatDoor.Jw
open Go.RowKit Go.Proofs.YtpliljcjjffipaaGreatDoor Go.Proofs.YtpliljcjjffipaaGreatDoor.Ww Go.Proofs.YtpliljcjjffipaaGreatDoor.Tw
set_option maxRecDepth 100000

end Go.Proofs.YtpliljcjjffipaaGreatDoor.Jw
namespace Go.Proofs.YtpliljcjjffipaaGreatDoor.Jw
open Go.RowKit Go.Proofs.YtpliljcjjffipaaGreatDoor Go.Proofs.YtpliljcjjffipaaGreatDoor.Ww Go.Proofs.YtpliljcjjffipaaGreatDoor.Tw
set_option maxRecDepth 100000

theorem heap_set_ne {w : World} {b g i : Nat} {o : Obj} (h : w.heap[b]? = some o) (hn : b ≠ g) (v : Value) : (w.setCell ⟨g, i, none⟩ v).heap[b]? = some o := (Below.heap_setCell _ _ _ _ hn).trans h
theorem Three.put_v {w W : World} {t : Array Value} {cs : Array Value} (h : Three w t cs W) (i : Nat) (u : Value) : Three w t (cs.setIfInBounds i u) (W.setCell ⟨w.heap.size + 1, i, none⟩ u) :=
  ⟨heap_set_ne h.t (by omega) u, heap_set h.v u, heap_set_ne h.o (by omega) u, h.below.setCell (p := ⟨w.heap.size + 1, i, none⟩) (by show w.heap.size ≤ w.heap.size + 1; omega) u⟩
end Go.Proofs.YtpliljcjjffipaaGreatDoor.Jw
