/-
  flatironref11: Get, Right, Has, without.
-/
import Derived.Test.YtebagfadcjgllaaGreatDoorJBase
namespace Go.Proofs.YtebagfadcjgllaaGreatDoor.Jw
open Go.RowKit Go.Proofs.YtebagfadcjgllaaGreatDoor Go.Proofs.YtebagfadcjgllaaGreatDoor.Ww Go.Proofs.YtebagfadcjgllaaGreatDoor.Tw
set_option maxRecDepth 100000

def zeroV : Array Value := #[.string ⟨#[]⟩, .string ⟨#[]⟩, .bool false, .int .i64 0]
/-- What Get returns. -/
def gV (o : Option Jp.V) : Ending := match o with | none => .returned (.tuple #[.agg zeroV, .bool false]) | some v => .returned (.tuple #[.agg (vA v), .bool true])
theorem getA_drop {l : List Jp.V} {k : Bs} {i : Nat} (h : i < l.length) (hn : ¬ l[i].n = k) : Jp.getA (l.drop i) k = Jp.getA (l.drop (i + 1)) k := by
  rw [List.drop_eq_getElem_cons h]
  show (if l[i].n = k then some l[i] else Jp.getA (l.drop (i + 1)) k) = _
  rw [if_neg hn]
theorem getA_hit {l : List Jp.V} {k : Bs} {i : Nat} (h : i < l.length) (hn : l[i].n = k) : Jp.getA (l.drop i) k = some l[i] := by
  rw [List.drop_eq_getElem_cons h]
  show (if l[i].n = k then some l[i] else Jp.getA (l.drop (i + 1)) k) = _
  rw [if_pos hn]
theorem one_v (v : Jp.V) : (vA v).all (·.oneCell') = true := by simp [vA, Value.oneCell']
theorem one_z : zeroV.all (·.oneCell') = true := by simp [zeroV, Value.oneCell']
def GRel (w : World) (vl : Value) (l : List Jp.V) (k : Bs) (vi : Value) (wr : World) : Prop :=
  ∃ i : Nat, vi = .int .i64 i ∧ i ≤ l.length ∧ wr.cell? ⟨w.heap.size, 0, none⟩ = some vl ∧ wr.heap[w.heap.size + 1]? = some (.cells zeroV VT (0, 0)) ∧ Below w.heap.size w wr ∧ Jp.getA l k = Jp.getA (l.drop i) k
set_option maxHeartbeats 4000000 in
theorem Get_any (w : World) (lo : Nat) (vl vy vn : Value) (all : Bool) (l : List Jp.V) (k : Bs) (hl : w.ownsRow lo VT 4 vl l.length (vsC l)) (hz : l.length ≤ 100000) :
    Calls Tryz.prog 18 #[.agg #[vl, vy, vn, .bool all], .string (str k)] w fun e w' => e = gV (Jp.getA l k) ∧ Below w.heap.size w w' := by
  obtain ⟨a, c, rfl⟩ := owns_slice hl
  have HL := Lib.hid hl
  have HB := Lib.hid (((Below.refl w.heap.size w).alloc (Nat.le_refl _) (.cells #[.slice a l.length c, vy, vn, .bool all] TT)).alloc (by simp) (.cells zeroV VT))
  have HT : Hid (((w.alloc (.cells #[.slice a l.length c, vy, vn, .bool all] TT)).alloc (.cells zeroV VT)).heap[w.heap.size]? = some (.cells #[.slice a l.length c, vy, vn, .bool all] TT (0, 0))) :=
    Lib.hid ((((Below.refl (w.alloc (.cells #[.slice a l.length c, vy, vn, .bool all] TT)).heap.size _).alloc (Nat.le_refl _) (.cells zeroV VT)).block w.heap.size (by simp)).trans (heap_last w _))
  have HRB : Hid (((w.alloc (.cells #[.slice a l.length c, vy, vn, .bool all] TT)).alloc (.cells zeroV VT)).heap[w.heap.size + 1]? = some (.cells zeroV VT (0, 0))) := Lib.hid (by
    have := heap_last (w.alloc (.cells #[.slice a l.length c, vy, vn, .bool all] TT)) (.cells zeroV VT)
    rw [World.size_alloc] at this; exact this)
  clear hl
  go_enter Tryz.func18, Tryz.ntmps18
  go_wp2_with fail
  go_loopw [6] (fun vi wr => GRel w (.slice a l.length c) l k vi wr) (fun vi _ => l.length - (intOf vi).toNat)
  case atStart => exact ⟨0, rfl, Nat.zero_le _, cell_at HT.out rfl, HRB.out, HB.out, rfl⟩
  case round =>
    clear HB HT HRB
    obtain ⟨i, rfl, hi, h0, hbx, hB, hg⟩ := hrel
    have HBX := Lib.hid hbx
    have HB := Lib.hid hB
    have hbl := (Array.getElem?_eq_some_iff.1 hbx).1
    by_cases hlt : i < l.length
    · obtain ⟨g, rfl, hc, hgl, _, x0, x1, x2, x3⟩ := var_cells HL.out hlt
      have p0 := (hB.cell (p := ⟨g, i * 4, none⟩) hgl).trans x0
      have p1 := (hB.cell (p := ⟨g, i * 4 + 1, none⟩) hgl).trans x1
      have p2 := (hB.cell (p := ⟨g, i * 4 + 2, none⟩) hgl).trans x2
      have p3 := (hB.cell (p := ⟨g, i * 4 + 3, none⟩) hgl).trans x3
      have hki : (i : Int) < l.length := by omega
      have hk0 : (0 : Int) ≤ (i : Int) := Int.natCast_nonneg _
      by_cases hk : l[i].n = k
      · have HG : Hid (Jp.getA l k = some l[i]) := Lib.hid (hg.trans (getA_hit hlt hk))
        have hq := beq_yes (a := str l[i].n) (b := str k) (by rw [by8_str, by8_str]; exact hk)
        clear x0 x1 x2 x3 hg hbx hB hk
        generalize l[i] = x at *
        go_wp2_with (refine wpList_store_row rfl VT _ _ rfl (w.heap.size + 1) (vA x) rfl rfl VT zeroV HBX.out sizeV rfl (one_v x) ?_)
        (try simp only [Exit.inBlock, Exit.then])
        refine bodyPost_ret (results_two Tryz.results18 _ _ (w.heap.size + 1) VT (vA x) (0, 0) _ (.bool true) rfl rfl (setRow_heap _ _ _ _ _ _ HBX.out) undV rfl sizeV) rfl ?_
        rw [HG.out]
        exact ⟨rfl, below_setRow HB.out (by omega) _⟩
      · have HG : Hid (Jp.getA l k = Jp.getA (l.drop (i + 1)) k) := Lib.hid (hg.trans (getA_drop hlt hk))
        have hq := beq_no (a := str l[i].n) (b := str k) (by rw [by8_str, by8_str]; exact hk)
        clear x0 x1 x2 x3 hg hbx hB hk
        generalize l[i] = x at *
        go_wp2_with fail
        go_roundw
        case rel => exact ⟨i + 1, by go_num, hlt, h0, HBX.out, HB.out, HG.out⟩
        case measure => simp [intOf]; omega
    · obtain rfl : i = l.length := by omega
      have HG : Hid (Jp.getA l k = none) := Lib.hid (hg.trans (by rw [List.drop_length]; rfl))
      have hki : ¬ (l.length : Int) < l.length := by omega
      clear hg hbx hB
      go_wp2_with (refine wpList_store_row rfl VT _ _ rfl (w.heap.size + 1) zeroV rfl rfl VT zeroV HBX.out sizeV rfl one_z ?_)
      (try simp only [Exit.inBlock, Exit.then])
      refine bodyPost_ret (results_two Tryz.results18 _ _ (w.heap.size + 1) VT zeroV (0, 0) _ (.bool false) rfl rfl (setRow_heap _ _ _ _ _ _ HBX.out) undV rfl sizeV) rfl ?_
      rw [HG.out]
      exact ⟨rfl, below_setRow HB.out (by omega) _⟩
end Go.Proofs.YtebagfadcjgllaaGreatDoor.Jw
