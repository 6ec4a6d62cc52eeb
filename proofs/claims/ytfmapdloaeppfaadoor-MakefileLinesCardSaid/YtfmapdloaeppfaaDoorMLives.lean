/-
  flatironlaw09.lives: the chapter's example.
-/
import Derived.Test.YtfmapdloaeppfaaDoorMSame
namespace Go.Proofs.YtfmapdloaeppfaaDoor.Mw
open Go.RowKit Go.Proofs.YtfmapdloaeppfaaDoor Go.Proofs.YtfmapdloaeppfaaDoor.Ww Go.Proofs.YtfmapdloaeppfaaDoor.Iw
set_option maxRecDepth 100000

def exT : ByteArray := ⟨#[88, 32, 58, 61, 32, 97, 10, 97, 58, 32, 98, 32, 124, 32, 99, 32, 59, 32, 116, 114, 117, 101]⟩
def ex1 : Mp.P := ⟨0, 1, [88], [58, 61], [97], false, false, [], [], [], []⟩
def ex2 : Mp.P := ⟨1, 2, [], [], [], false, false, [97], [98], [99], [⟨2, [116, 114, 117, 101], true⟩]⟩
theorem ex_lines : Ip.linesA (by8 exT) = [⟨1, [88, 32, 58, 61, 32, 97], false⟩, ⟨2, [97, 58, 32, 98, 32, 124, 32, 99, 32, 59, 32, 116, 114, 117, 101], false⟩] := by rfl
theorem ex_parts : Mp.partsA (by8 exT) = .ok [ex1, ex2] := by rfl
theorem map_two {X : List PV} {p q : Mp.P} (h : X.map PV.p = [p, q]) : ∃ u v, X = [⟨p, u⟩, ⟨q, v⟩] := by
  match X, h with
  | [x, y], h => cases x; cases y; simp at h; obtain ⟨rfl, rfl⟩ := h; exact ⟨_, _, rfl⟩
theorem map_one {X : List PV} {p : Mp.P} (h : X.map PV.p = [p]) : ∃ u, X = [⟨p, u⟩] := by
  match X, h with
  | [x], h => cases x; simp at h; subst h; exact ⟨_, rfl⟩

set_option maxHeartbeats 4000000 in
theorem lives_any (w : World) : Calls Tryd.prog 4 #[] w fun e w' => e = .returned (.bool true) ∧ Below w.heap.size w w' := by
  have h0 := Of_any w ⟨#[109]⟩ exT (by decide) (by
    rw [ex_lines]
    intro x hx
    simp only [List.mem_cons, List.not_mem_nil, or_false] at hx
    rcases hx with rfl | rfl
    · exact ⟨rfl, by decide⟩
    · exact ⟨rfl, by decide⟩)
  rw [ex_parts] at h0
  have HO := Lib.hid h0
  clear h0
  have hq := fun W => neq_F 0 0 ⟨#[]⟩ W
  have hgd := guardF
  go_enter Tryd.func4, Tryd.ntmps4
  go_wp2_with fail
  refine HO.out.mono ?_
  rintro e w1 ⟨⟨X, a, c, hX, rfl, hP⟩, B1⟩
  obtain ⟨u, v, rfl⟩ := map_two hX
  have HB1 := Lib.hid (B1.alloc B1.size (.cells #[.int .i64 0, .string ⟨#[]⟩, .int .i64 0] FT))
  have hP2 := hP.below ((Below.refl w1.heap.size w1).alloc (Nat.le_refl _) (.cells #[.int .i64 0, .string ⟨#[]⟩, .int .i64 0] FT))
  obtain ⟨g, rfl, hc, hg, hcell⟩ := row_part hP2.row (i := 0) (by simp)
  obtain ⟨g', hg', _, _, hcell'⟩ := row_part hP2.row (i := 1) (by simp)
  cases hg'
  have hrc : (w1.alloc (.cells #[.int .i64 0, .string ⟨#[]⟩, .int .i64 0] FT)).ownsRow w.heap.size LT 3 v 1 (linesC [⟨2, [116, 114, 117, 101], true⟩]) := hP2.each ⟨ex2, v⟩ (by simp)
  obtain ⟨ra, rc, rfl⟩ := owns_slice hrc
  obtain ⟨rg, rfl, hrc1, hrg, _, l0, l1, l2⟩ := line_cells (l := [⟨2, [116, 114, 117, 101], true⟩]) hrc (i := 0) (by decide)
  have c0 : (w1.alloc (.cells #[.int .i64 0, .string ⟨#[]⟩, .int .i64 0] FT)).cell? ⟨g, 0, none⟩ = some (.int .i64 0) := hcell 0 _ (by decide) rfl
  have c2 : (w1.alloc (.cells #[.int .i64 0, .string ⟨#[]⟩, .int .i64 0] FT)).cell? ⟨g, 2, none⟩ = some (.string ⟨#[88]⟩) := hcell 2 _ (by decide) rfl
  have c3 : (w1.alloc (.cells #[.int .i64 0, .string ⟨#[]⟩, .int .i64 0] FT)).cell? ⟨g, 3, none⟩ = some (.string ⟨#[58, 61]⟩) := hcell 3 _ (by decide) rfl
  have e9 : (w1.alloc (.cells #[.int .i64 0, .string ⟨#[]⟩, .int .i64 0] FT)).cell? ⟨g, 20, none⟩ = some (.string ⟨#[99]⟩) := hcell' 9 _ (by decide) rfl
  have e10 : (w1.alloc (.cells #[.int .i64 0, .string ⟨#[]⟩, .int .i64 0] FT)).cell? ⟨g, 21, none⟩ = some (.slice (some ⟨rg, 0, none⟩) 1 rc) := hcell' 10 _ (by decide) rfl
  clear hcell hcell' hrc hP hX
  have hl2 : ((2 : Nat) : Int) = 2 := rfl
  have HEq := Lib.hid (eql_lines ((w1.alloc (.cells #[.int .i64 0, .string ⟨#[]⟩, .int .i64 0] FT)).alloc (.cells #[.int .i64 2, .string ⟨#[116, 114, 117, 101]⟩, .bool true] LT)) ⟨2, [116, 114, 117, 101], true⟩ rg (w1.heap.size + 1) rc 1 (by
    have hk := ((Below.refl (w1.alloc (.cells #[.int .i64 0, .string ⟨#[]⟩, .int .i64 0] FT)).heap.size (w1.alloc (.cells #[.int .i64 0, .string ⟨#[]⟩, .int .i64 0] FT))).alloc (Nat.le_refl _) (.cells #[.int .i64 2, .string ⟨#[116, 114, 117, 101]⟩, .bool true] LT))
    exact ⟨(hk.cell (p := ⟨rg, 0, none⟩) hrg).trans l0, (hk.cell (p := ⟨rg, 1, none⟩) hrg).trans l1, (hk.cell (p := ⟨rg, 2, none⟩) hrg).trans l2⟩) (by
    have hb := World.alloc_heap_new (w1.alloc (.cells #[.int .i64 0, .string ⟨#[]⟩, .int .i64 0] FT)) (.cells #[.int .i64 2, .string ⟨#[116, 114, 117, 101]⟩, .bool true] LT)
    have hs : (w1.alloc (.cells #[.int .i64 0, .string ⟨#[]⟩, .int .i64 0] FT)).heap.size = w1.heap.size + 1 := by simp
    rw [hs] at hb
    exact ⟨cell_at hb rfl, cell_at hb rfl, cell_at hb rfl⟩))
  clear l0 l1 l2
  go_wp2_with fail
  refine HEq.out.mono ?_
  rintro e w2 ⟨rfl, B2⟩
  go_wp2_with fail
  go_ret
  exact ⟨rfl, (HB1.out.alloc HB1.out.size _).trans (B2.mono (HB1.out.alloc HB1.out.size _).size)⟩
end Go.Proofs.YtfmapdloaeppfaaDoor.Mw
