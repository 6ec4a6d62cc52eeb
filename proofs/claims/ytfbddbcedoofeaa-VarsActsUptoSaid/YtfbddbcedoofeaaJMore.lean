/-
  flatironref11.More.
-/
import Derived.Test.YtfbddbcedoofeaaJSet2
namespace Go.Proofs.Ytfbddbcedoofeaa.Jw
open Go.RowKit Go.Proofs.Ytfbddbcedoofeaa Go.Proofs.Ytfbddbcedoofeaa.Ww Go.Proofs.Ytfbddbcedoofeaa.Tw
set_option maxRecDepth 100000

theorem heap_set_ne {w : World} {b g i : Nat} {o : Obj} (h : w.heap[b]? = some o) (hn : b ≠ g) (v : Value) : (w.setCell ⟨g, i, none⟩ v).heap[b]? = some o := (Below.heap_setCell _ _ _ _ hn).trans h
theorem Three.put_v {w W : World} {t : Array Value} {cs : Array Value} (h : Three w t cs W) (i : Nat) (u : Value) : Three w t (cs.setIfInBounds i u) (W.setCell ⟨w.heap.size + 1, i, none⟩ u) :=
  ⟨heap_set_ne h.t (by omega) u, heap_set h.v u, heap_set_ne h.o (by omega) u, h.below.setCell (p := ⟨w.heap.size + 1, i, none⟩) (by show w.heap.size ≤ w.heap.size + 1; omega) u⟩
theorem str_add (a b : Bs) : str a ++ ⟨#[32]⟩ ++ str b = str (a ++ 32 :: b) := by
  apply by8_ext
  rw [by8_add, by8_add, by8_str, by8_str, by8_str]
  show a ++ [32] ++ b = _
  simp

set_option maxHeartbeats 4000000 in
theorem More_no (w : World) (lo : Nat) (a1 a2 a3 : Option Addr) (c1 n2 c2 n3 c3 : Nat) (T : Jp.T) (v : Jp.V) (hlo : lo ≤ w.heap.size) (hl : w.ownsRow lo VT 4 (.slice a1 T.l.length c1) T.l.length (vsC T.l)) (hz : T.l.length ≤ 10000) (hn : Jp.getA T.l v.n = none) :
    Calls Try.prog 23 #[.agg (tA (.slice a1 T.l.length c1) (.slice a2 n2 c2) (.slice a3 n3 c3) T.all), .agg (vA v)] w (SetPost w lo (.slice a2 n2 c2) (.slice a3 n3 c3) T.all (Jp.moreA T v).l) := by
  have hG := fun W h => Get_any W lo (.slice a1 T.l.length c1) (.slice a2 n2 c2) (.slice a3 n3 c3) T.all T.l v.n h (by omega)
  simp only [hn] at hG
  have HM : Hid ((Jp.moreA T v).l = (Jp.setA T v).l) := Lib.hid (by unfold Jp.moreA; rw [hn])
  have h3 := Three.new w (tA (.slice a1 T.l.length c1) (.slice a2 n2 c2) (.slice a3 n3 c3) T.all) (vA v)
  have H3 := Lib.hid h3
  have d0 := cell_at (i := 0) h3.t rfl
  have d1 := cell_at (i := 1) h3.t rfl
  have d2 := cell_at (i := 2) h3.t rfl
  have d3 := cell_at (i := 3) h3.t rfl
  have b0 := cell_at (i := 0) h3.v rfl
  have hGet := hG _ (owns_below hl h3.below)
  have hSet := fun W (h : Three w (tA (.slice a1 T.l.length c1) (.slice a2 n2 c2) (.slice a3 n3 c3) T.all) (vA v) W) => Set_any W lo a1 a2 a3 c1 n2 c2 n3 c3 T v (Nat.le_trans hlo h.below.size) (owns_below hl h.below) hz
  clear h3 hl hG
  simp only [tA, vA, zeroT, gV, zeroV] at d0 d1 d2 d3 b0 hGet hSet
  have HGet := Lib.hid hGet
  have HSet := Lib.hid hSet
  clear hGet hSet hn
  unfold tA vA
  go_enter Try.func23, Try.ntmps23
  go_wp2_with fail
  refine HGet.out.mono ?_
  rintro e w1 ⟨rfl, B1⟩
  have h31 := H3.out.on B1
  have H3W := Lib.hid (h31.on ((Below.refl w1.heap.size w1).alloc (Nat.le_refl _) (.cells #[.string ⟨#[]⟩, .string ⟨#[]⟩, .bool false, .int .i64 0] VT)))
  have v0 := cell_at (i := 0) H3W.out.v rfl
  have v1 := cell_at (i := 1) H3W.out.v rfl
  have v2 := cell_at (i := 2) H3W.out.v rfl
  have v3 := cell_at (i := 3) H3W.out.v rfl
  have t0 := cell_at (i := 0) H3W.out.t rfl
  have t1 := cell_at (i := 1) H3W.out.t rfl
  have t2 := cell_at (i := 2) H3W.out.t rfl
  have t3 := cell_at (i := 3) H3W.out.t rfl
  simp only [vA, tA] at v0 v1 v2 v3 t0 t1 t2 t3
  clear h31 B1 d0 d1 d2 d3 b0
  go_wp2_with fail
  refine (HSet.out _ H3W.out).mono ?_
  rintro e w5 ⟨vl, rfl, ho, B5⟩
  obtain ⟨al, cl, rfl⟩ := owns_slice ho
  have H35 := Lib.hid (H3W.out.on B5)
  have HO := Lib.hid ho
  clear ho B5
  go_wp2_with (refine wpList_store_row rfl TT _ _ rfl (w.heap.size + 2) (tA (.slice al (Jp.setA T v).l.length cl) (.slice a2 n2 c2) (.slice a3 n3 c3) T.all) rfl rfl TT zeroT H35.out.o sizeT rfl (one_t al a2 a3 (Jp.setA T v).l.length n2 n3 cl c2 c3 T.all) ?_)
  (try simp only [Exit.inBlock, Exit.then])
  refine bodyPost_ret (results_one Try.results23 _ _ (w.heap.size + 2) TT (tA (.slice al (Jp.setA T v).l.length cl) (.slice a2 n2 c2) (.slice a3 n3 c3) T.all) (0, 0) _ rfl (setRow_heap _ _ _ _ _ _ H35.out.o) undT rfl sizeT) rfl ?_
  rw [HM.out]
  exact ⟨_, rfl, own_set HO.out H35.out.o, below_setRow H35.out.below (by omega) _⟩

set_option maxHeartbeats 4000000 in
theorem More_yes (w : World) (lo : Nat) (a1 a2 a3 : Option Addr) (c1 n2 c2 n3 c3 : Nat) (T : Jp.T) (v o : Jp.V) (hlo : lo ≤ w.heap.size) (hl : w.ownsRow lo VT 4 (.slice a1 T.l.length c1) T.l.length (vsC T.l)) (hz : T.l.length ≤ 10000) (hn : Jp.getA T.l v.n = some o)
    (hs1 : o.x.length ≤ 1000000000000) (hs2 : v.x.length ≤ 1000000000000) :
    Calls Try.prog 23 #[.agg (tA (.slice a1 T.l.length c1) (.slice a2 n2 c2) (.slice a3 n3 c3) T.all), .agg (vA v)] w (SetPost w lo (.slice a2 n2 c2) (.slice a3 n3 c3) T.all (Jp.moreA T v).l) := by
  have hG := fun W h => Get_any W lo (.slice a1 T.l.length c1) (.slice a2 n2 c2) (.slice a3 n3 c3) T.all T.l v.n h (by omega)
  simp only [hn] at hG
  obtain ⟨y, hy⟩ : ∃ y : Jp.V, y = { v with x := o.x ++ 32 :: v.x, s := o.s } := ⟨_, rfl⟩
  have HM : Hid ((Jp.moreA T v).l = (Jp.setA T y).l) := Lib.hid (by unfold Jp.moreA; rw [hn, hy])
  have hvy : vA y = #[.string (str v.n), .string (str o.x ++ ⟨#[32]⟩ ++ str v.x), .bool o.s, .int .i64 v.f] := by rw [hy, str_add]; rfl
  have h3 := Three.new w (tA (.slice a1 T.l.length c1) (.slice a2 n2 c2) (.slice a3 n3 c3) T.all) (vA v)
  have H3 := Lib.hid h3
  have d0 := cell_at (i := 0) h3.t rfl
  have d1 := cell_at (i := 1) h3.t rfl
  have d2 := cell_at (i := 2) h3.t rfl
  have d3 := cell_at (i := 3) h3.t rfl
  have b0 := cell_at (i := 0) h3.v rfl
  have hGet := hG _ (owns_below hl h3.below)
  have hSet := fun W (h : Three w (tA (.slice a1 T.l.length c1) (.slice a2 n2 c2) (.slice a3 n3 c3) T.all) (vA y) W) => Set_any W lo a1 a2 a3 c1 n2 c2 n3 c3 T y (Nat.le_trans hlo h.below.size) (owns_below hl h.below) hz
  rw [hvy] at hSet
  have z1 : (str o.x).size ≤ 1000000000000 := by rw [str_size]; exact hs1
  have z2 : (str v.x).size ≤ 1000000000000 := by rw [str_size]; exact hs2
  have z3 : (⟨#[32]⟩ : ByteArray).size = 1 := rfl
  have k1 : ¬ 9223372036854775807 < (str o.x).size + (⟨#[32]⟩ : ByteArray).size := by omega
  have k2 : ¬ 9223372036854775807 < (str o.x).size + 1 + (str v.x).size := by omega
  have k3 : ¬ 9223372036854775807 < (str o.x ++ ⟨#[32]⟩).size + (str v.x).size := by rw [ByteArray.size_append]; omega
  clear h3 hl hG hvy hy
  simp only [tA, vA, zeroT, gV] at d0 d1 d2 d3 b0 hGet hSet
  have HGet := Lib.hid hGet
  have HSet := Lib.hid hSet
  clear hGet hSet hn
  unfold tA vA
  go_enter Try.func23, Try.ntmps23
  go_wp2_with fail
  refine HGet.out.mono ?_
  rintro e w1 ⟨rfl, B1⟩
  have h31 := H3.out.on B1
  have ob := heap_last w1 (.cells #[.string (str o.n), .string (str o.x), .bool o.s, .int .i64 o.f] VT)
  have H3W := Lib.hid (h31.on ((Below.refl w1.heap.size w1).alloc (Nat.le_refl _) (.cells #[.string (str o.n), .string (str o.x), .bool o.s, .int .i64 o.f] VT)))
  have hb12 : w1.heap.size ≠ w.heap.size + 1 := by have := B1.size; simp at this; omega
  have ob2 := fun u => heap_set_ne (i := 1) ob hb12 u
  have v1 := cell_at (i := 1) H3W.out.v rfl
  have v2 := cell_at (i := 2) H3W.out.v rfl
  have f1 := frozen_at H3W.out.v 1
  have o1 := cell_at (i := 1) ob rfl
  have H3X := Lib.hid (H3W.out.put_v 1 (.string (str o.x ++ ⟨#[32]⟩ ++ str v.x)))
  have o2 := fun u => cell_at (i := 2) (ob2 u) rfl
  have f2 := frozen_at H3X.out.v 2
  have x2 := cell_at (i := 2) H3X.out.v rfl
  have H3Y := Lib.hid (H3X.out.put_v 2 (.bool o.s))
  have v0 := cell_at (i := 0) H3Y.out.v rfl
  have y1 := cell_at (i := 1) H3Y.out.v rfl
  have y2 := cell_at (i := 2) H3Y.out.v rfl
  have v3 := cell_at (i := 3) H3Y.out.v rfl
  have t0 := cell_at (i := 0) H3Y.out.t rfl
  have t1 := cell_at (i := 1) H3Y.out.t rfl
  have t2 := cell_at (i := 2) H3Y.out.t rfl
  have t3 := cell_at (i := 3) H3Y.out.t rfl
  simp only [vA, tA] at v0 v1 v2 v3 t0 t1 t2 t3 x2 y1 y2
  clear h31 B1 d0 d1 d2 d3 b0 ob ob2
  go_wp2_with fail
  refine (HSet.out _ H3Y.out).mono ?_
  rintro e w5 ⟨vl, rfl, ho, B5⟩
  obtain ⟨al, cl, rfl⟩ := owns_slice ho
  have H35 := Lib.hid (H3Y.out.on B5)
  have HO := Lib.hid ho
  clear ho B5
  go_wp2_with (refine wpList_store_row rfl TT _ _ rfl (w.heap.size + 2) (tA (.slice al (Jp.setA T y).l.length cl) (.slice a2 n2 c2) (.slice a3 n3 c3) T.all) rfl rfl TT zeroT H35.out.o sizeT rfl (one_t al a2 a3 (Jp.setA T y).l.length n2 n3 cl c2 c3 T.all) ?_)
  (try simp only [Exit.inBlock, Exit.then])
  refine bodyPost_ret (results_one Try.results23 _ _ (w.heap.size + 2) TT (tA (.slice al (Jp.setA T y).l.length cl) (.slice a2 n2 c2) (.slice a3 n3 c3) T.all) (0, 0) _ rfl (setRow_heap _ _ _ _ _ _ H35.out.o) undT rfl sizeT) rfl ?_
  rw [HM.out]
  exact ⟨_, rfl, own_set HO.out H35.out.o, below_setRow H35.out.below (by omega) _⟩

/-- flatironref11.More. -/
theorem More_any (w : World) (lo : Nat) (a1 a2 a3 : Option Addr) (c1 n2 c2 n3 c3 : Nat) (T : Jp.T) (v : Jp.V) (hlo : lo ≤ w.heap.size) (hl : w.ownsRow lo VT 4 (.slice a1 T.l.length c1) T.l.length (vsC T.l)) (hz : T.l.length ≤ 10000)
    (hs1 : ∀ o ∈ T.l, o.x.length ≤ 1000000000000) (hs2 : v.x.length ≤ 1000000000000) :
    Calls Try.prog 23 #[.agg (tA (.slice a1 T.l.length c1) (.slice a2 n2 c2) (.slice a3 n3 c3) T.all), .agg (vA v)] w (SetPost w lo (.slice a2 n2 c2) (.slice a3 n3 c3) T.all (Jp.moreA T v).l) := by
  cases h : Jp.getA T.l v.n with
  | none => exact More_no w lo a1 a2 a3 c1 n2 c2 n3 c3 T v hlo hl hz h
  | some o => exact More_yes w lo a1 a2 a3 c1 n2 c2 n3 c3 T v o hlo hl hz h (hs1 o (Jp.getA_mem h).1) hs2
end Go.Proofs.Ytfbddbcedoofeaa.Jw
