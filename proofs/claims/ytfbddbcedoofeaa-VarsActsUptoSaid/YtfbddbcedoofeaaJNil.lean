/-
  flatironlaw11: lives, VarsNil.
-/
import Derived.Test.YtfbddbcedoofeaaJPClone
namespace Go.Proofs.Ytfbddbcedoofeaa.Jw
open Go.RowKit Go.Proofs.Ytfbddbcedoofeaa Go.Proofs.Ytfbddbcedoofeaa.Ww Go.Proofs.Ytfbddbcedoofeaa.Tw Go.Proofs.Ytfbddbcedoofeaa.Kw
set_option maxRecDepth 100000

def exA : Jp.V := ⟨[88], [49], false, 3⟩
def exB : Jp.V := ⟨[88], [50], false, 2⟩
theorem ex1 (w : World) {tb : Nat} {X : List Nat} (h : Tab w tb X [] [] false) : Calls Try.prog 17 #[.pointer (some ⟨tb, 0, none⟩), .agg #[.string ⟨#[88]⟩, .string ⟨#[49]⟩, .bool false, .int .i64 3]] w (SPost w tb X [exA] [] false 0) :=
  PSet_any w h exA Jp.new rfl (by decide) (by decide)
theorem ex2 (w : World) {tb : Nat} {X : List Nat} (h : Tab w tb X [exA] [] false) : Calls Try.prog 17 #[.pointer (some ⟨tb, 0, none⟩), .agg #[.string ⟨#[88]⟩, .string ⟨#[50]⟩, .bool false, .int .i64 2]] w (SPost w tb X [exA] [] false 0) :=
  PSet_any w h exB ⟨[exA], [], [], false⟩ rfl (by decide) (by decide)
theorem ex3 (w : World) {tb : Nat} {X : List Nat} (h : Tab w tb X [exA] [] false) : Calls Try.prog 13 #[.pointer (some ⟨tb, 0, none⟩), .string ⟨#[88]⟩] w fun e w' => e = .returned (.tuple #[.agg #[.string ⟨#[88]⟩, .string ⟨#[49]⟩, .bool false, .int .i64 3], .bool true]) ∧ Below w.heap.size w w' :=
  PGet_any w h ⟨#[88]⟩ (by decide)
set_option maxHeartbeats 2000000 in
/-- The chapter's example. -/
theorem PLives_any (w : World) : Calls Try.prog 5 #[] w fun e w' => e = .returned (.bool true) ∧ Below w.heap.size w w' := by
  go_enter Try.func5, Try.ntmps5
  go_wp2_with fail
  refine (PNew_any _).mono ?_
  rintro e w1 ⟨rfl, h1, B1⟩
  go_wp2_with fail
  refine (ex1 _ h1).mono ?_
  rintro e w2 ⟨rfl, X2, h2, K2, hX2⟩
  have B2 := B1.trans (K2.to_below B1.size (fun i hi => by rw [List.mem_singleton.1 hi]; exact Nat.le_refl _))
  have hX2' : ∀ i ∈ X2, w.heap.size ≤ i := fun i hi => by
    rcases hX2 i hi with h | h
    · rw [List.mem_singleton.1 h]; exact Nat.le_refl _
    · exact Nat.le_trans B1.size h
  clear h1 B1 K2 hX2
  go_wp2_with fail
  refine (ex2 _ h2).mono ?_
  rintro e w3 ⟨rfl, X3, h3, K3, hX3⟩
  have B3 := B2.trans (K3.to_below B2.size hX2')
  clear h2 B2 K3 hX3 hX2'
  go_wp2_with fail
  refine (ex3 _ h3).mono ?_
  rintro e w4 ⟨rfl, B4⟩
  have B5 := B3.trans (B4.mono B3.size)
  clear h3 B3 B4
  go_wp2_with fail
  go_ret
  exact ⟨rfl, B5.alloc B5.size _⟩

set_option maxHeartbeats 4000000 in
/-- VarsNil. -/
theorem VarsNil_any (w : World) (v : Jp.V) (a : Option Addr) (n c : Nat) : Calls Try.prog 4 #[.agg (vA v), .slice a n c] w fun e w' => e = .returned (.bool true) ∧ Below w.heap.size w w' := by
  have hb := heap_last w (.cells (vA v) PV)
  have hB := (Below.refl w.heap.size w).alloc (Nat.le_refl _) (.cells (vA v) PV)
  have HBX := Lib.hid (show ∀ W, Below (w.alloc (.cells (vA v) PV)).heap.size (w.alloc (.cells (vA v) PV)) W → W.cell? ⟨w.heap.size, 0, none⟩ = some (.string (str v.n)) ∧ W.cell? ⟨w.heap.size, 1, none⟩ = some (.string (str v.x)) ∧ W.cell? ⟨w.heap.size, 2, none⟩ = some (.bool v.s) ∧ W.cell? ⟨w.heap.size, 3, none⟩ = some (.int .i64 v.f) ∧ w.heap.size < W.heap.size from fun W h => by
    have h1 := (h.block _ (by simp)).trans hb
    exact ⟨cell_at h1 rfl, cell_at h1 rfl, cell_at h1 rfl, cell_at h1 rfl, (Array.getElem?_eq_some_iff.1 h1).1⟩)
  have hS := fun W => PSet_nil W v
  have hM := fun W => PMore_nil W v
  have hY := fun W => PMaybe_nil W v
  clear hb
  unfold vA at *
  have HS := Lib.hid hS
  have HM := Lib.hid hM
  have HY := Lib.hid hY
  clear hS hM hY
  by_cases hn : 100 < n
  · have hk : (100 : Int) < (n : Int) := by omega
    go_enter Try.func4, Try.ntmps4
    go_wp2_with fail
    refine (PLives_any _).mono ?_
    rintro e w1 ⟨rfl, B1⟩
    go_wp2_with fail
    refine (PLives_any _).mono ?_
    rintro e w2 ⟨rfl, B2⟩
    go_wp2_with fail
    go_ret
    exact ⟨rfl, (hB.trans (B1.mono hB.size)).trans (B2.mono (hB.trans (B1.mono hB.size)).size)⟩
  · have hk : ¬ (100 : Int) < (n : Int) := by omega
    go_enter Try.func4, Try.ntmps4
    go_wp2_with fail
    refine (PLives_any _).mono ?_
    rintro e w1 ⟨rfl, B1⟩
    obtain ⟨c0, c1, c2, c3, hl⟩ := HBX.out _ B1
    go_wp2_with fail
    refine (PExport_nil _ _ _).mono ?_
    rintro e w1' ⟨rfl, rfl⟩
    go_wp2_with fail
    refine (PGet_nil _ _).mono ?_
    rintro e w2 ⟨rfl, B2⟩
    unfold gV zeroV
    have D2 := B1.trans (B2.mono B1.size)
    have D2a := D2.alloc D2.size (.cells #[.string ⟨#[]⟩, .string ⟨#[]⟩, .bool false, .int .i64 0] PV)
    clear c0 c1 c2 c3 hl
    obtain ⟨c0, c1, c2, c3, hl⟩ := HBX.out _ D2a
    clear B1 B2 D2
    go_wp2_with fail
    refine (HS.out _).mono ?_
    rintro e w3 ⟨rfl, B3⟩
    have D3 := D2a.trans (B3.mono D2a.size)
    clear c0 c1 c2 c3 hl D2a B3
    obtain ⟨c0, c1, c2, c3, hl⟩ := HBX.out _ D3
    go_wp2_with fail
    refine (HM.out _).mono ?_
    rintro e w4 ⟨rfl, B4⟩
    have D4 := D3.trans (B4.mono D3.size)
    clear c0 c1 c2 c3 hl D3 B4
    obtain ⟨c0, c1, c2, c3, hl⟩ := HBX.out _ D4
    go_wp2_with fail
    refine (HY.out _).mono ?_
    rintro e w5 ⟨rfl, B5⟩
    have D5 := D4.trans (B5.mono D4.size)
    clear c0 c1 c2 c3 hl D4 B5
    go_wp2_with fail
    refine (PAll_nil _).mono ?_
    rintro e w6 ⟨rfl, rfl⟩
    go_wp2_with fail
    refine (PExports_nil _).mono ?_
    rintro e w6 ⟨rfl, rfl⟩
    go_wp2_with fail
    refine (PClone_nil _).mono ?_
    rintro e w6 ⟨rfl, rfl⟩
    go_wp2_with fail
    go_ret
    exact ⟨rfl, hB.trans (D5.mono hB.size)⟩
end Go.Proofs.Ytfbddbcedoofeaa.Jw
