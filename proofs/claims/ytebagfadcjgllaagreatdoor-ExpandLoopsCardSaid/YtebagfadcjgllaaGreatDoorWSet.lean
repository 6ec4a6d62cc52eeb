/-
  words.set: which bytes a text has, as an array of 256.
-/
import Derived.Test.YtebagfadcjgllaaGreatDoorWBase
namespace Go.Proofs.YtebagfadcjgllaaGreatDoor.Ww
open Go.RowKit Go.Proofs.YtebagfadcjgllaaGreatDoor
set_option maxRecDepth 1000000

abbrev AT : TypeId := 127
theorem infoA : (Tryz.prog.info? AT).map (fun i => (i.zero, i.size)) = some (some (.agg (Array.replicate 256 (.bool false))), 256) := by kernel_rfl
theorem sizeA : (Tryz.prog.info? AT).map (·.size) = some 256 := (zero_of_info infoA).2
theorem zeroA (w : World) : (zeroValue AT).run Tryz.prog w = .ok (.agg (Array.replicate 256 (.bool false))) w := (zero_of_info infoA).1 w

theorem set_round (s : ByteArray) (i : Nat) (h : i < s.size) : (Lib.setCells ((by8 s).take i)).setIfInBounds s[i].toNat (.bool true) = Lib.setCells ((by8 s).take (i + 1)) := by
  rw [by8_snoc h, Lib.setCells_snoc]

def Zs : Array Value := Array.replicate 256 (.bool false)
/-- What the loop's head knows. -/
def SetRel (w : World) (s : ByteArray) (s7 : Value) (wx : World) : Prop :=
  ∃ i : Nat, i ≤ s.size ∧ s7 = .int .i64 i ∧ wx.heap[w.heap.size]? = some (.cells Zs AT (0, 0)) ∧ wx.heap[w.heap.size + 1]? = some (.cells (Lib.setCells ((by8 s).take i)) AT (0, 0)) ∧ Below w.heap.size w wx
theorem SetRel.next {w wx : World} {s : ByteArray} {i : Nat} (hlt : i < s.size) (h0 : wx.heap[w.heap.size]? = some (.cells Zs AT (0, 0)))
    (h1 : wx.heap[w.heap.size + 1]? = some (.cells (Lib.setCells ((by8 s).take i)) AT (0, 0))) (hB : Below w.heap.size w wx) {x : UInt8} (hx : s[i] = x) :
    SetRel w s (.int .i64 ((i : Int) + 1)) (wx.setCell ⟨w.heap.size + 1, x.toNat, none⟩ (.bool true)) := by
  refine ⟨i + 1, hlt, by go_num, ?_, ?_, hB.setCell (by simp) _⟩
  · rw [heap_setCell_other _ _ _ _ (by simp)]; exact h0
  · rw [heap_setCell_same _ _ _ _ _ _ h1, ← set_round s i hlt, hx]

set_option maxHeartbeats 4000000 in
theorem set_any (s : ByteArray) (w : World) (hs : s.size ≤ 1000000) :
    Calls Tryz.prog 54 #[.string s] w fun e w' => e = .returned (.agg (Lib.setCells (by8 s))) ∧ Below w.heap.size w w' := by
  have hz := zeroA
  go_enter Tryz.func54, Tryz.ntmps54
  go_wp2
  go_loopw [7] (fun s7 wx => SetRel w s s7 wx) (fun s7 _ => s.size - (intOf s7).toNat)
  case atStart => exact ⟨0, Nat.zero_le _, rfl, by rw [heap_alloc2_old]; rfl, by rw [heap_alloc2_new]; rfl, ((Below.refl _ _).alloc (Nat.le_refl _) _).alloc (by simp) _⟩
  case round =>
    obtain ⟨i, hi, rfl, h0, h1, hB⟩ := hrel
    by_cases hlt : i < s.size
    · obtain ⟨x, hx⟩ : ∃ x : UInt8, s[i]'hlt = x := ⟨_, rfl⟩
      have HR := Lib.hid (SetRel.next hlt h0 h1 hB hx)
      have hx256 : (x.toNat : Int) < 256 := by have := UInt8.toNat_lt x; omega
      have hcell := (cell_of_row wr _ x.toNat _ _ _ h1).trans (Lib.setCells_at ((by8 s).take i) x)
      have hfr := frozen_of_row wr _ x.toNat _ _ h1
      clear h0 h1
      go_wp2
      go_roundw
      case rel => exact HR.out
      case measure => simp [intOf]; omega
    · obtain rfl : i = s.size := by omega
      rw [List.take_of_length_le (by rw [by8_len]; exact Nat.le_refl _)] at h1
      have H0 := Lib.hid h0
      have H1 := Lib.hid h1
      clear h0 h1
      go_wp2_with (first
        | (refine wpList_load_row rfl AT _ rfl (w.heap.size + 1) rfl AT (Lib.setCells (by8 s)) (0, 0) _ H1.out Tryz.underlying127 rfl (by rw [Lib.setCells_size]; exact sizeA) ?_)
        | (refine wpList_store_row rfl AT _ _ rfl w.heap.size (Lib.setCells (by8 s)) rfl rfl AT Zs H0.out (by rw [Lib.setCells_size]; exact sizeA) (by rw [Lib.setCells_size]; rfl) (Lib.setCells_one _) ?_))
      (try simp only [Exit.inBlock, Exit.then])
      exact bodyPost_ret (v := .agg (Lib.setCells (by8 s))) (results_cell_row rfl _ _ w.heap.size AT _ (0, 0) _ rfl (setRow_heap _ _ _ _ _ _ H0.out) Tryz.underlying127 rfl (by rw [Lib.setCells_size]; exact sizeA)) rfl ⟨rfl, below_setRow hB (Nat.le_refl _) _⟩
end Go.Proofs.YtebagfadcjgllaaGreatDoor.Ww
