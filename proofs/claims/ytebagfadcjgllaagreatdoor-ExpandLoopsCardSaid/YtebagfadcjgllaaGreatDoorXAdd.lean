/-
  expand.fail, (*result).add, (*list).put.
-/
import Derived.Test.YtebagfadcjgllaaGreatDoorXBuild
namespace Go.Proofs.YtebagfadcjgllaaGreatDoor.Xw
open Go.RowKit Go.Proofs.YtebagfadcjgllaaGreatDoor Go.Proofs.YtebagfadcjgllaaGreatDoor.Ww Go.Proofs.YtebagfadcjgllaaGreatDoor.Tw Go.Proofs.YtebagfadcjgllaaGreatDoor.Kw Go.Proofs.YtebagfadcjgllaaGreatDoor.Jw Go.Proofs.YtebagfadcjgllaaGreatDoor.Xb
set_option maxRecDepth 100000

abbrev FT : TypeId := 57
/-- An expansion that fails. -/
def failE (c : Int) : Ending := .panicked [{ v := .iface FT (.int .i64 c), recovered := false }]
theorem fail_any (w : World) (c : Int) : Calls Tryz.prog 25 #[.int .i64 c] w fun e w' => e = failE c ∧ w = w' := by
  go_enter Tryz.func25, Tryz.ntmps25
  go_wp2
  exact ⟨rfl, rfl, rfl⟩

/-- A builder's cells, once it was written into. -/
def bCs (cs : Array Value) (b k : Nat) (bv : Value) : Array Value := (cs.setIfInBounds k (.pointer (some ⟨b, k, none⟩))).setIfInBounds (k + 1) bv
theorem add_any (w : World) {T : TypeId} {b k B : Nat} {l : Bs} {pv bv : Value} {cs : Array Value} (h : BAt w T b k B l pv bv cs) (s : ByteArray) (hl : l.length + s.size ≤ 1048576) (hBw : B ≤ w.heap.size) :
    Calls Tryz.prog 27 #[.pointer (some ⟨b, k, none⟩), .string s] w fun e w' => e = .returned (.tuple #[]) ∧
      ∃ bv', BAt w' T b k B (l ++ by8 s) (.pointer (some ⟨b, k, none⟩)) bv' (bCs cs b k bv') ∧ Kept (b :: bv.ownBlock.toList) w w' := by
  have hlt := h.lt
  have HL := Lib.hid (Len_any w h)
  have HW := Lib.hid (WriteString_any w h s (by omega) hBw)
  have hle : ¬ (1048576 : Int) < (l.length : Int) + (s.size : Int) := by omega
  clear h
  go_enter Tryz.func27, Tryz.ntmps27
  go_wp2_with fail
  refine HL.out.mono ?_
  rintro e w1 ⟨rfl, rfl⟩
  go_wp2_with fail
  refine HW.out.mono ?_
  rintro e w1 ⟨rfl, bv', h1, hK⟩
  have H1 := Lib.hid h1
  clear h1
  go_wp2_with fail
  go_end0
  exact ⟨rfl, bv', H1.out, hK⟩
end Go.Proofs.YtebagfadcjgllaaGreatDoor.Xw
