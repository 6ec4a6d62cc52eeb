/-
  The law MakefileLines, walked.
-/
import Derived.Deep.RegionHeld3
import Derived.Deep.DeepCutAuto
import Derived.Test.YtfmapdloaeppfaaDoorMPlain3
import Derived.Test.YtfmapdloaeppfaaDoorMLives
namespace Go.Proofs.YtfmapdloaeppfaaDoor.Mw
open Go.RowKit Go.Proofs.YtfmapdloaeppfaaDoor Go.Proofs.YtfmapdloaeppfaaDoor.Ww Go.Proofs.YtfmapdloaeppfaaDoor.Iw
set_option maxRecDepth 100000

/-- A byte that may stand at place k. -/
def Ok (n k : Nat) (c : UInt8) : Prop := Mp.Letter c ∨ (n ≤ k ∧ Mp.Val c)

/-- The part that is wanted, in its box. -/
structure Want (w : World) (b : Nat) (p : Mp.P) (W : World) : Prop where
  box : W.heap[b]? = some (.cells (partC p (.slice none 0 0)) QT (0, 0))
  below : Below w.heap.size w W
theorem Want.go {w : World} {b : Nat} {p : Mp.P} {W W' : World} (h : Want w b p W) (hB : Below W.heap.size W W') : Want w b p W' :=
  ⟨(hB.block b (Array.getElem?_eq_some_iff.1 h.box).1).trans h.box, h.below.trans (hB.mono h.below.size)⟩
theorem want_new (w : World) (O : Obj) (p : Mp.P) : Want w (w.heap.size + 1) p ((w.alloc O).alloc (.cells (partC p (.slice none 0 0)) QT)) :=
  ⟨heap_alloc2_new _ _ _, ((Below.refl _ _).alloc (Nat.le_refl _) _).alloc (by simp) _⟩

/-- All that the law's end reads. -/
structure Fin (w : World) (b1 b2 b3 b4 : Nat) (p1 p2 p3 : Mp.P) (q1 q2 q3 : Nat × Value × Value) (W : World) : Prop where
  want : W.heap[b1]? = some (.cells (partC p1 (.slice none 0 0)) QT (0, 0))
  f1 : W.heap[b2]? = some (.cells #[.int .i64 0, .string ⟨#[]⟩, .int .i64 0] FT (0, 0))
  f2 : W.heap[b3]? = some (.cells #[.int .i64 0, .string ⟨#[]⟩, .int .i64 0] FT (0, 0))
  f3 : W.heap[b4]? = some (.cells #[.int .i64 0, .string ⟨#[]⟩, .int .i64 0] FT (0, 0))
  l1 : Ps W q1.1 q1.2.1 [⟨p1, q1.2.2⟩]
  l2 : Ps W q2.1 q2.2.1 [⟨p2, q2.2.2⟩]
  l3 : Ps W q3.1 q3.2.1 [⟨p3, q3.2.2⟩]
  below : Below w.heap.size w W
section
variable {w : World} {b1 b2 b3 b4 : Nat} {p1 p2 p3 : Mp.P} {q1 q2 q3 : Nat × Value × Value} {W W' : World}
theorem Fin.kept (h : Fin w b1 b2 b3 b4 p1 p2 p3 q1 q2 q3 W) (hk : ∀ g, g < W.heap.size → W'.heap[g]? = W.heap[g]?) (hB : Below w.heap.size W W') : Fin w b1 b2 b3 b4 p1 p2 p3 q1 q2 q3 W' :=
  ⟨(hk _ (Array.getElem?_eq_some_iff.1 h.want).1).trans h.want, (hk _ (Array.getElem?_eq_some_iff.1 h.f1).1).trans h.f1, (hk _ (Array.getElem?_eq_some_iff.1 h.f2).1).trans h.f2, (hk _ (Array.getElem?_eq_some_iff.1 h.f3).1).trans h.f3, h.l1.kept fun g _ hg => hk g hg, h.l2.kept fun g _ hg => hk g hg, h.l3.kept fun g _ hg => hk g hg, h.below.trans hB⟩
theorem Fin.go (h : Fin w b1 b2 b3 b4 p1 p2 p3 q1 q2 q3 W) (hB : Below W.heap.size W W') : Fin w b1 b2 b3 b4 p1 p2 p3 q1 q2 q3 W' := h.kept hB.block (hB.mono h.below.size)
end
theorem Fin.new {w w4 : World} {b1 b2 b3 : Nat} {p1 p2 p3 : Mp.P} {l1 l2 l3 : Nat} {v1 v2 v3 u1 u2 u3 : Value} (h : Want w b1 p1 w4) (h1 : w4.heap[b2]? = some (.cells #[.int .i64 0, .string ⟨#[]⟩, .int .i64 0] FT (0, 0))) (h2 : w4.heap[b3]? = some (.cells #[.int .i64 0, .string ⟨#[]⟩, .int .i64 0] FT (0, 0)))
    (s1 : Ps w4 l1 v1 [⟨p1, u1⟩]) (s2 : Ps w4 l2 v2 [⟨p2, u2⟩]) (s3 : Ps w4 l3 v3 [⟨p3, u3⟩]) : Fin w b1 b2 b3 w4.heap.size p1 p2 p3 (l1, v1, u1) (l2, v2, u2) (l3, v3, u3) (w4.alloc (.cells #[.int .i64 0, .string ⟨#[]⟩, .int .i64 0] FT)) := by
  have hB := (Below.refl w4.heap.size w4).alloc (Nat.le_refl _) (.cells #[.int .i64 0, .string ⟨#[]⟩, .int .i64 0] FT)
  exact ⟨(h.go hB).box, (hB.block _ (Array.getElem?_eq_some_iff.1 h1).1).trans h1, (hB.block _ (Array.getElem?_eq_some_iff.1 h2).1).trans h2, World.alloc_heap_new _ _, s1.below hB, s2.below hB, s3.below hB, (h.go hB).below⟩
/-- Two boxes more, of the same part. -/
structure Two2 (W : World) (g h : Nat) (p : Mp.P) (W' : World) : Prop where
  one : W'.heap[g]? = some (.cells (partC p (.slice none 0 0)) QT (0, 0))
  two : W'.heap[h]? = some (.cells (partC p (.slice none 0 0)) QT (0, 0))
  ne : g ≠ h
  lo : W.heap.size ≤ g ∧ W.heap.size ≤ h
  below : Below W.heap.size W W'

/-- All that the law's end reads, with the two boxes that are changed and the fault that is none. -/
structure End (w : World) (b1 b2 b3 b4 b5 g h : Nat) (p1 p2 p3 : Mp.P) (q1 q2 q3 : Nat × Value × Value) (W : World) : Prop where
  fin : Fin w b1 b2 b3 b4 p1 p2 p3 q1 q2 q3 W
  over : W.heap[g]? = some (.cells (partC p2 (.slice none 0 0)) QT (0, 0))
  out : W.heap[h]? = some (.cells (partC p3 (.slice none 0 0)) QT (0, 0))
  nof : W.heap[b5]? = some (.cells #[.int .i64 0, .string ⟨#[]⟩, .int .i64 0] FT (0, 0))
theorem End.go {w W W' : World} {b1 b2 b3 b4 b5 g h : Nat} {p1 p2 p3 : Mp.P} {q1 q2 q3 : Nat × Value × Value} (H : End w b1 b2 b3 b4 b5 g h p1 p2 p3 q1 q2 q3 W) (hB : Below W.heap.size W W') : End w b1 b2 b3 b4 b5 g h p1 p2 p3 q1 q2 q3 W' :=
  ⟨H.fin.go hB, (hB.block _ (Array.getElem?_eq_some_iff.1 H.over).1).trans H.over, (hB.block _ (Array.getElem?_eq_some_iff.1 H.out).1).trans H.out, (hB.block _ (Array.getElem?_eq_some_iff.1 H.nof).1).trans H.nof⟩
theorem End.new {w W5 wc : World} {b1 b2 b3 b4 g h : Nat} {n o v : Bs} {q1 q2 q3 : Nat × Value × Value} (hF : Fin w b1 b2 b3 b4 ⟨0, 1, n, o, v, false, false, [], [], [], []⟩ ⟨0, 1, n, o, v, true, false, [], [], [], []⟩ ⟨0, 1, n, o, v, false, true, [], [], [], []⟩ q1 q2 q3 W5) (hT : Two2 W5 g h ⟨0, 1, n, o, v, false, false, [], [], [], []⟩ wc) :
    End w b1 b2 b3 b4 wc.heap.size g h ⟨0, 1, n, o, v, false, false, [], [], [], []⟩ ⟨0, 1, n, o, v, true, false, [], [], [], []⟩ ⟨0, 1, n, o, v, false, true, [], [], [], []⟩ q1 q2 q3 (((wc.setCell ⟨g, 5, .none⟩ (.bool true)).setCell ⟨h, 6, .none⟩ (.bool true)).alloc (.cells #[.int .i64 0, .string ⟨#[]⟩, .int .i64 0] FT)) := by
  have hs : ((wc.setCell ⟨g, 5, .none⟩ (.bool true)).setCell ⟨h, 6, .none⟩ (.bool true)).heap.size = wc.heap.size := by simp
  have hB := (Below.refl _ ((wc.setCell ⟨g, 5, .none⟩ (.bool true)).setCell ⟨h, 6, .none⟩ (.bool true))).alloc (Nat.le_refl _) (.cells #[.int .i64 0, .string ⟨#[]⟩, .int .i64 0] FT)
  rw [hs] at hB
  have hg : g < wc.heap.size := (Array.getElem?_eq_some_iff.1 hT.one).1
  have hh : h < wc.heap.size := (Array.getElem?_eq_some_iff.1 hT.two).1
  have hlo := hT.lo
  have hws := hT.below.size
  have hn := World.alloc_heap_new ((wc.setCell ⟨g, 5, .none⟩ (.bool true)).setCell ⟨h, 6, .none⟩ (.bool true)) (.cells #[.int .i64 0, .string ⟨#[]⟩, .int .i64 0] FT)
  rw [hs] at hn
  have hBB : Below W5.heap.size W5 (((wc.setCell ⟨g, 5, .none⟩ (.bool true)).setCell ⟨h, 6, .none⟩ (.bool true)).alloc (.cells #[.int .i64 0, .string ⟨#[]⟩, .int .i64 0] FT)) := ((hT.below.setCell (p := ⟨g, 5, .none⟩) hlo.1 _).setCell (p := ⟨h, 6, .none⟩) hlo.2 _).alloc (by rw [hs]; exact hws) _
  refine ⟨hF.go hBB, (hB.block _ hg).trans ((Below.heap_setCell _ _ _ _ hT.ne).trans (heap_set3 (i := 5) hT.one (.bool true))), (hB.block _ hh).trans (heap_set3 (i := 6) ((Below.heap_setCell _ _ _ _ (Ne.symm hT.ne)).trans hT.two) (.bool true)), hn⟩

theorem End.cells {w W : World} {b1 b2 b3 b4 b5 g h : Nat} {n o v : Bs} {q1 q2 q3 : Nat × Value × Value} (H : End w b1 b2 b3 b4 b5 g h ⟨0, 1, n, o, v, false, false, [], [], [], []⟩ ⟨0, 1, n, o, v, true, false, [], [], [], []⟩ ⟨0, 1, n, o, v, false, true, [], [], [], []⟩ q1 q2 q3 W) :
    W.cell? ⟨b2, 0, none⟩ = some (.int .i64 0) ∧ W.cell? ⟨b2, 1, none⟩ = some (.string ⟨#[]⟩) ∧ W.cell? ⟨b2, 2, none⟩ = some (.int .i64 0) ∧ W.cell? ⟨b3, 0, none⟩ = some (.int .i64 0) ∧ W.cell? ⟨b3, 1, none⟩ = some (.string ⟨#[]⟩) ∧ W.cell? ⟨b3, 2, none⟩ = some (.int .i64 0) ∧ W.cell? ⟨b4, 0, none⟩ = some (.int .i64 0) ∧ W.cell? ⟨b4, 1, none⟩ = some (.string ⟨#[]⟩) ∧ W.cell? ⟨b4, 2, none⟩ = some (.int .i64 0) ∧ W.cell? ⟨b5, 0, none⟩ = some (.int .i64 0) ∧ W.cell? ⟨b5, 1, none⟩ = some (.string ⟨#[]⟩) ∧ W.cell? ⟨b5, 2, none⟩ = some (.int .i64 0) ∧ W.cell? ⟨b1, 0, none⟩ = some (.int .i64 0) ∧ W.cell? ⟨b1, 1, none⟩ = some (.int .i64 1) ∧ W.cell? ⟨b1, 2, none⟩ = some (.string (str n)) ∧ W.cell? ⟨b1, 3, none⟩ = some (.string (str o)) ∧ W.cell? ⟨b1, 4, none⟩ = some (.string (str v)) ∧ W.cell? ⟨b1, 5, none⟩ = some (.bool false) ∧ W.cell? ⟨b1, 6, none⟩ = some (.bool false) ∧ W.cell? ⟨b1, 7, none⟩ = some (.string ⟨#[]⟩) ∧ W.cell? ⟨b1, 8, none⟩ = some (.string ⟨#[]⟩) ∧ W.cell? ⟨b1, 9, none⟩ = some (.string ⟨#[]⟩) ∧ W.cell? ⟨b1, 10, none⟩ = some (.slice none 0 0) ∧ W.cell? ⟨g, 0, none⟩ = some (.int .i64 0) ∧ W.cell? ⟨g, 1, none⟩ = some (.int .i64 1) ∧ W.cell? ⟨g, 2, none⟩ = some (.string (str n)) ∧ W.cell? ⟨g, 3, none⟩ = some (.string (str o)) ∧ W.cell? ⟨g, 4, none⟩ = some (.string (str v)) ∧ W.cell? ⟨g, 5, none⟩ = some (.bool true) ∧ W.cell? ⟨g, 6, none⟩ = some (.bool false) ∧ W.cell? ⟨g, 7, none⟩ = some (.string ⟨#[]⟩) ∧ W.cell? ⟨g, 8, none⟩ = some (.string ⟨#[]⟩) ∧ W.cell? ⟨g, 9, none⟩ = some (.string ⟨#[]⟩) ∧ W.cell? ⟨g, 10, none⟩ = some (.slice none 0 0) ∧ W.cell? ⟨h, 0, none⟩ = some (.int .i64 0) ∧ W.cell? ⟨h, 1, none⟩ = some (.int .i64 1) ∧ W.cell? ⟨h, 2, none⟩ = some (.string (str n)) ∧ W.cell? ⟨h, 3, none⟩ = some (.string (str o)) ∧ W.cell? ⟨h, 4, none⟩ = some (.string (str v)) ∧ W.cell? ⟨h, 5, none⟩ = some (.bool false) ∧ W.cell? ⟨h, 6, none⟩ = some (.bool true) ∧ W.cell? ⟨h, 7, none⟩ = some (.string ⟨#[]⟩) ∧ W.cell? ⟨h, 8, none⟩ = some (.string ⟨#[]⟩) ∧ W.cell? ⟨h, 9, none⟩ = some (.string ⟨#[]⟩) ∧ W.cell? ⟨h, 10, none⟩ = some (.slice none 0 0) :=
  ⟨cell_at H.fin.f1 rfl, cell_at H.fin.f1 rfl, cell_at H.fin.f1 rfl, cell_at H.fin.f2 rfl, cell_at H.fin.f2 rfl, cell_at H.fin.f2 rfl, cell_at H.fin.f3 rfl, cell_at H.fin.f3 rfl, cell_at H.fin.f3 rfl, cell_at H.nof rfl, cell_at H.nof rfl, cell_at H.nof rfl, cell_at H.fin.want rfl, cell_at H.fin.want rfl, cell_at H.fin.want rfl, cell_at H.fin.want rfl, cell_at H.fin.want rfl, cell_at H.fin.want rfl, cell_at H.fin.want rfl, cell_at H.fin.want rfl, cell_at H.fin.want rfl, cell_at H.fin.want rfl, cell_at H.fin.want rfl, cell_at H.over rfl, cell_at H.over rfl, cell_at H.over rfl, cell_at H.over rfl, cell_at H.over rfl, cell_at H.over rfl, cell_at H.over rfl, cell_at H.over rfl, cell_at H.over rfl, cell_at H.over rfl, cell_at H.over rfl, cell_at H.out rfl, cell_at H.out rfl, cell_at H.out rfl, cell_at H.out rfl, cell_at H.out rfl, cell_at H.out rfl, cell_at H.out rfl, cell_at H.out rfl, cell_at H.out rfl, cell_at H.out rfl, cell_at H.out rfl⟩
theorem LawOf_one (w : World) (lo : Nat) (a : Option Addr) (c : Nat) (p : Mp.P) (u : Value) (hX : Ps w lo (.slice a 1 c) [⟨p, u⟩]) (hr : p.recipe = []) :
    Calls Tryd.prog 7 #[.slice a 1 c] w fun e w' => ∃ g c', e = .returned (.slice (some ⟨g, 0, none⟩) 1 c') ∧ One w' g p ∧ Below w.heap.size w w' :=
  (LawOf_any w lo a c [⟨p, u⟩] hX (fun x hx => by rw [List.mem_singleton.1 hx]; exact hr) (by simp)).mono fun e w' ⟨a', c', he, ho, hB⟩ => by
    obtain ⟨g, rfl, _, h1⟩ := One.of_row ho
    exact ⟨g, c', he, h1, hB⟩

set_option maxHeartbeats 2000000 in
theorem big_any (w : World) (n v : Bs) (k : UInt8) (hb : 100 < n.length ∨ 200 < v.length) (hn : n.length ≤ 140737488355328) (hv : v.length ≤ 140737488355328) :
    Calls Tryd.prog 3 #[.string (str n), .string (str v), .int .u8 (k.toNat : Int)] w fun e w' => e = .returned (.bool true) ∧ Below w.heap.size w w' := by
  have HL : Hid (∀ W, Calls Tryd.prog 4 #[] W fun e w' => e = .returned (.bool true) ∧ Below W.heap.size W w') := Lib.hid lives_any
  have hs1 : (str n).size = n.length := str_size n
  have hs2 : (str v).size = v.length := str_size v
  by_cases h1 : 100 < n.length
  · have d1 : (100 : Int) < (n.length : Int) := by omega
    have d1' : decide ((100 : Int) < (n.length : Int)) = true := decide_eq_true d1
    clear hb
    go_enter Tryd.func3, Tryd.ntmps3
    go_wp2_with fail
    refine (HL.out _).mono ?_
    rintro e w1 ⟨rfl, B1⟩
    go_wp2_with fail
    refine (HL.out _).mono ?_
    rintro e w2 ⟨rfl, B2⟩
    go_wp2_with fail
    go_ret
    exact ⟨rfl, B1.trans (B2.mono B1.size)⟩
  · have d1 : ¬ (100 : Int) < (n.length : Int) := by omega
    have d1' : decide ((100 : Int) < (n.length : Int)) = false := decide_eq_false d1
    have d2 : (200 : Int) < (v.length : Int) := by omega
    have d2' : decide ((200 : Int) < (v.length : Int)) = true := decide_eq_true d2
    clear hb
    go_enter Tryd.func3, Tryd.ntmps3
    go_wp2_with fail
    refine (HL.out _).mono ?_
    rintro e w1 ⟨rfl, B1⟩
    go_wp2_with fail
    refine (HL.out _).mono ?_
    rintro e w2 ⟨rfl, B2⟩
    go_wp2_with fail
    go_ret
    exact ⟨rfl, B1.trans (B2.mono B1.size)⟩

set_option maxHeartbeats 8000000 in
theorem law_any (w : World) (n v : Bs) (k8 : UInt8) (hn : n.length ≤ 100) (hv : v.length ≤ 200) :
    Calls Tryd.prog 3 #[.string (str n), .string (str v), .int .u8 (k8.toNat : Int)] w fun e w' => e = .returned (.bool true) ∧ Below w.heap.size w w' := by
  have HL : Hid (∀ W, Calls Tryd.prog 4 #[] W fun e w' => e = .returned (.bool true) ∧ Below W.heap.size W w') := Lib.hid lives_any
  have hs1 : (str n).size = n.length := str_size n
  have hs2 : (str v).size = v.length := str_size v
  have d1 : ¬ (100 : Int) < (n.length : Int) := by omega
  have d1' : decide ((100 : Int) < (n.length : Int)) = false := decide_eq_false d1
  have d2 : ¬ (200 : Int) < (v.length : Int) := by omega
  have d2' : decide ((200 : Int) < (v.length : Int)) = false := decide_eq_false d2
  go_enter Tryd.func3, Tryd.ntmps3
  go_wp2_with fail
  refine (HL.out _).mono ?_
  rintro e w1 ⟨rfl, B1⟩
  clear d1 d1' d2 d2' HL
  have HBB := Lib.hid B1
  obtain ⟨S, hS⟩ : ∃ S, str n ++ str v = S := ⟨_, rfl⟩
  have hsz : S.size = n.length + v.length := by rw [← hS, ByteArray.size_append, hs1, hs2]
  have hSb : by8 S = n ++ v := by rw [← hS, by8_add]; rfl
  have HSZ := Lib.hid hsz
  have HSB := Lib.hid hSb
  clear B1 hSb
  go_wp2_with fail
  go_loop [39] (fun vk => ∃ k : Nat, vk = .int .i64 k ∧ k ≤ S.size ∧ ∀ j (h : j < S.size), j < k → Ok n.length j S[j]) (fun vk => S.size - (intOf vk).toNat)
  case atStart => exact ⟨0, rfl, Nat.zero_le _, fun j _ h => absurd h (Nat.not_lt_zero _)⟩
  case round =>
    obtain ⟨k, rfl, hk, hrel⟩ := hrel
    by_cases hlt : k < S.size
    · have HS0 := Lib.hid (show Ok n.length k S[k] → ∀ j (h : j < S.size), j < k + 1 → Ok n.length j S[j] from fun ho j h hj => by
        rcases Nat.lt_or_ge j k with h' | h'
        · exact hrel j h h'
        · obtain rfl : j = k := by omega
          exact ho)
      have hS0 : k < (str n ++ str v).size := by rw [hS]; exact hlt
      have hget : (str n ++ str v)[k] = S[k] := by simp only [hS]
      have hlt8 := UInt8.toNat_lt S[k]
      clear hrel
      obtain ⟨c, hc⟩ : ∃ c, S[k] = c := ⟨_, rfl⟩
      rw [hc] at hget hlt8
      have HS := Lib.hid (show (Ok n.length k c → ∀ j (h : j < S.size), j < k + 1 → Ok n.length j S[j]) by rw [← hc]; exact HS0.out)
      clear HS0
      rcases (by omega : (0 ≤ c.toNat ∧ c.toNat ≤ 47) ∨ (48 ≤ c.toNat ∧ c.toNat ≤ 57) ∨ (58 ≤ c.toNat ∧ c.toNat ≤ 64) ∨ (65 ≤ c.toNat ∧ c.toNat ≤ 90) ∨ (91 ≤ c.toNat ∧ c.toNat ≤ 96) ∨ (97 ≤ c.toNat ∧ c.toNat ≤ 122) ∨ (123 ≤ c.toNat ∧ c.toNat ≤ 255)) with hi | hi | hi | hi | hi | hi | hi
      · obtain ⟨hi1, hi2⟩ := hi
        have ga97 : ¬ ((97 : Int) ≤ (c.toNat : Int)) := by omega
        have gb97 : decide ((97 : Int) ≤ (c.toNat : Int)) = false := decide_eq_false ga97
        have ga65 : ¬ ((65 : Int) ≤ (c.toNat : Int)) := by omega
        have gb65 : decide ((65 : Int) ≤ (c.toNat : Int)) = false := decide_eq_false ga65
        have ga48 : ¬ ((48 : Int) ≤ (c.toNat : Int)) := by omega
        have gb48 : decide ((48 : Int) ≤ (c.toNat : Int)) = false := decide_eq_false ga48
        have la122 : ((c.toNat : Int) ≤ (122 : Int)) := by omega
        have lb122 : decide ((c.toNat : Int) ≤ (122 : Int)) = true := decide_eq_true la122
        have la90 : ((c.toNat : Int) ≤ (90 : Int)) := by omega
        have lb90 : decide ((c.toNat : Int) ≤ (90 : Int)) = true := decide_eq_true la90
        have la57 : ((c.toNat : Int) ≤ (57 : Int)) := by omega
        have lb57 : decide ((c.toNat : Int) ≤ (57 : Int)) = true := decide_eq_true la57
        by_cases hkn : k < n.length
        · have hkn2 : (k : Int) < (n.length : Int) := by omega
          have hkn3 : decide ((k : Int) < (n.length : Int)) = true := decide_eq_true hkn2
          have hns : (str n).size = n.length := str_size n
          clear hi1 hi2 HS
          go_wp2_with fail
          go_ret
          exact ⟨rfl, HBB.out⟩
        · have hkn2 : ¬ (k : Int) < (n.length : Int) := by omega
          have hkn3 : decide ((k : Int) < (n.length : Int)) = false := decide_eq_false hkn2
          have hns : (str n).size = n.length := str_size n
          by_cases hc36 : c = 36
          · skip
            have eq36 : ((c.toNat : Int) != 36) = false := by rw [hc36]; rfl
            have HR := Lib.hid (HS.out (.inr ⟨by omega, .inr (.inl hc36)⟩))
            clear hi1 hi2 HS hc36
            go_wp2_with fail
            go_round
            case rel => exact ⟨k + 1, by go_num, hlt, fun j h hj => HR.out j h hj⟩
            case measure => simp [intOf]; omega
          · skip
            by_cases hc40 : c = 40
            · have ne36 : ((c.toNat : Int) != 36) = true := by rw [bne_iff_ne]; intro e; exact hc36 (UInt8.toNat_inj.1 (by show _ = 36; omega))
              have eq40 : ((c.toNat : Int) != 40) = false := by rw [hc40]; rfl
              have HR := Lib.hid (HS.out (.inr ⟨by omega, .inr (.inr (.inl hc40))⟩))
              clear hi1 hi2 HS hc36 hc40
              go_wp2_with fail
              go_round
              case rel => exact ⟨k + 1, by go_num, hlt, fun j h hj => HR.out j h hj⟩
              case measure => simp [intOf]; omega
            · skip
              by_cases hc41 : c = 41
              · have ne36 : ((c.toNat : Int) != 36) = true := by rw [bne_iff_ne]; intro e; exact hc36 (UInt8.toNat_inj.1 (by show _ = 36; omega))
                have ne40 : ((c.toNat : Int) != 40) = true := by rw [bne_iff_ne]; intro e; exact hc40 (UInt8.toNat_inj.1 (by show _ = 40; omega))
                have eq41 : ((c.toNat : Int) != 41) = false := by rw [hc41]; rfl
                have HR := Lib.hid (HS.out (.inr ⟨by omega, .inr (.inr (.inr (.inl hc41)))⟩))
                clear hi1 hi2 HS hc36 hc40 hc41
                go_wp2_with fail
                go_round
                case rel => exact ⟨k + 1, by go_num, hlt, fun j h hj => HR.out j h hj⟩
                case measure => simp [intOf]; omega
              · skip
                by_cases hc44 : c = 44
                · have ne36 : ((c.toNat : Int) != 36) = true := by rw [bne_iff_ne]; intro e; exact hc36 (UInt8.toNat_inj.1 (by show _ = 36; omega))
                  have ne40 : ((c.toNat : Int) != 40) = true := by rw [bne_iff_ne]; intro e; exact hc40 (UInt8.toNat_inj.1 (by show _ = 40; omega))
                  have ne41 : ((c.toNat : Int) != 41) = true := by rw [bne_iff_ne]; intro e; exact hc41 (UInt8.toNat_inj.1 (by show _ = 41; omega))
                  have eq44 : ((c.toNat : Int) != 44) = false := by rw [hc44]; rfl
                  have HR := Lib.hid (HS.out (.inr ⟨by omega, .inr (.inr (.inr (.inr hc44)))⟩))
                  clear hi1 hi2 HS hc36 hc40 hc41 hc44
                  go_wp2_with fail
                  go_round
                  case rel => exact ⟨k + 1, by go_num, hlt, fun j h hj => HR.out j h hj⟩
                  case measure => simp [intOf]; omega
                · have ne36 : True := trivial
                  have ne36 : ((c.toNat : Int) != 36) = true := by rw [bne_iff_ne]; intro e; exact hc36 (UInt8.toNat_inj.1 (by show _ = 36; omega))
                  have ne40 : ((c.toNat : Int) != 40) = true := by rw [bne_iff_ne]; intro e; exact hc40 (UInt8.toNat_inj.1 (by show _ = 40; omega))
                  have ne41 : ((c.toNat : Int) != 41) = true := by rw [bne_iff_ne]; intro e; exact hc41 (UInt8.toNat_inj.1 (by show _ = 41; omega))
                  have ne44 : ((c.toNat : Int) != 44) = true := by rw [bne_iff_ne]; intro e; exact hc44 (UInt8.toNat_inj.1 (by show _ = 44; omega))
                  clear hi1 hi2 HS hc36 hc40 hc41 hc44
                  go_wp2_with fail
                  go_ret
                  exact ⟨rfl, HBB.out⟩
      · obtain ⟨hi1, hi2⟩ := hi
        have ga97 : ¬ ((97 : Int) ≤ (c.toNat : Int)) := by omega
        have gb97 : decide ((97 : Int) ≤ (c.toNat : Int)) = false := decide_eq_false ga97
        have ga65 : ¬ ((65 : Int) ≤ (c.toNat : Int)) := by omega
        have gb65 : decide ((65 : Int) ≤ (c.toNat : Int)) = false := decide_eq_false ga65
        have ga48 : ((48 : Int) ≤ (c.toNat : Int)) := by omega
        have gb48 : decide ((48 : Int) ≤ (c.toNat : Int)) = true := decide_eq_true ga48
        have la122 : ((c.toNat : Int) ≤ (122 : Int)) := by omega
        have lb122 : decide ((c.toNat : Int) ≤ (122 : Int)) = true := decide_eq_true la122
        have la90 : ((c.toNat : Int) ≤ (90 : Int)) := by omega
        have lb90 : decide ((c.toNat : Int) ≤ (90 : Int)) = true := decide_eq_true la90
        have la57 : ((c.toNat : Int) ≤ (57 : Int)) := by omega
        have lb57 : decide ((c.toNat : Int) ≤ (57 : Int)) = true := decide_eq_true la57
        have HR := Lib.hid (HS.out (.inl (by unfold Mp.Letter; omega)))
        clear hi1 hi2 HS
        go_wp2_with fail
        go_round
        case rel => exact ⟨k + 1, by go_num, hlt, fun j h hj => HR.out j h hj⟩
        case measure => simp [intOf]; omega
      · obtain ⟨hi1, hi2⟩ := hi
        have ga97 : ¬ ((97 : Int) ≤ (c.toNat : Int)) := by omega
        have gb97 : decide ((97 : Int) ≤ (c.toNat : Int)) = false := decide_eq_false ga97
        have ga65 : ¬ ((65 : Int) ≤ (c.toNat : Int)) := by omega
        have gb65 : decide ((65 : Int) ≤ (c.toNat : Int)) = false := decide_eq_false ga65
        have ga48 : ((48 : Int) ≤ (c.toNat : Int)) := by omega
        have gb48 : decide ((48 : Int) ≤ (c.toNat : Int)) = true := decide_eq_true ga48
        have la122 : ((c.toNat : Int) ≤ (122 : Int)) := by omega
        have lb122 : decide ((c.toNat : Int) ≤ (122 : Int)) = true := decide_eq_true la122
        have la90 : ((c.toNat : Int) ≤ (90 : Int)) := by omega
        have lb90 : decide ((c.toNat : Int) ≤ (90 : Int)) = true := decide_eq_true la90
        have la57 : ¬ ((c.toNat : Int) ≤ (57 : Int)) := by omega
        have lb57 : decide ((c.toNat : Int) ≤ (57 : Int)) = false := decide_eq_false la57
        by_cases hkn : k < n.length
        · have hkn2 : (k : Int) < (n.length : Int) := by omega
          have hkn3 : decide ((k : Int) < (n.length : Int)) = true := decide_eq_true hkn2
          have hns : (str n).size = n.length := str_size n
          clear hi1 hi2 HS
          go_wp2_with fail
          go_ret
          exact ⟨rfl, HBB.out⟩
        · have hkn2 : ¬ (k : Int) < (n.length : Int) := by omega
          have hkn3 : decide ((k : Int) < (n.length : Int)) = false := decide_eq_false hkn2
          have hns : (str n).size = n.length := str_size n
          have ne36 : ((c.toNat : Int) != 36) = true := by rw [bne_iff_ne]; omega
          have ne40 : ((c.toNat : Int) != 40) = true := by rw [bne_iff_ne]; omega
          have ne41 : ((c.toNat : Int) != 41) = true := by rw [bne_iff_ne]; omega
          have ne44 : ((c.toNat : Int) != 44) = true := by rw [bne_iff_ne]; omega
          clear hi1 hi2 HS
          go_wp2_with fail
          go_ret
          exact ⟨rfl, HBB.out⟩
      · obtain ⟨hi1, hi2⟩ := hi
        have ga97 : ¬ ((97 : Int) ≤ (c.toNat : Int)) := by omega
        have gb97 : decide ((97 : Int) ≤ (c.toNat : Int)) = false := decide_eq_false ga97
        have ga65 : ((65 : Int) ≤ (c.toNat : Int)) := by omega
        have gb65 : decide ((65 : Int) ≤ (c.toNat : Int)) = true := decide_eq_true ga65
        have ga48 : ((48 : Int) ≤ (c.toNat : Int)) := by omega
        have gb48 : decide ((48 : Int) ≤ (c.toNat : Int)) = true := decide_eq_true ga48
        have la122 : ((c.toNat : Int) ≤ (122 : Int)) := by omega
        have lb122 : decide ((c.toNat : Int) ≤ (122 : Int)) = true := decide_eq_true la122
        have la90 : ((c.toNat : Int) ≤ (90 : Int)) := by omega
        have lb90 : decide ((c.toNat : Int) ≤ (90 : Int)) = true := decide_eq_true la90
        have la57 : ¬ ((c.toNat : Int) ≤ (57 : Int)) := by omega
        have lb57 : decide ((c.toNat : Int) ≤ (57 : Int)) = false := decide_eq_false la57
        have HR := Lib.hid (HS.out (.inl (by unfold Mp.Letter; omega)))
        clear hi1 hi2 HS
        go_wp2_with fail
        go_round
        case rel => exact ⟨k + 1, by go_num, hlt, fun j h hj => HR.out j h hj⟩
        case measure => simp [intOf]; omega
      · obtain ⟨hi1, hi2⟩ := hi
        have ga97 : ¬ ((97 : Int) ≤ (c.toNat : Int)) := by omega
        have gb97 : decide ((97 : Int) ≤ (c.toNat : Int)) = false := decide_eq_false ga97
        have ga65 : ((65 : Int) ≤ (c.toNat : Int)) := by omega
        have gb65 : decide ((65 : Int) ≤ (c.toNat : Int)) = true := decide_eq_true ga65
        have ga48 : ((48 : Int) ≤ (c.toNat : Int)) := by omega
        have gb48 : decide ((48 : Int) ≤ (c.toNat : Int)) = true := decide_eq_true ga48
        have la122 : ((c.toNat : Int) ≤ (122 : Int)) := by omega
        have lb122 : decide ((c.toNat : Int) ≤ (122 : Int)) = true := decide_eq_true la122
        have la90 : ¬ ((c.toNat : Int) ≤ (90 : Int)) := by omega
        have lb90 : decide ((c.toNat : Int) ≤ (90 : Int)) = false := decide_eq_false la90
        have la57 : ¬ ((c.toNat : Int) ≤ (57 : Int)) := by omega
        have lb57 : decide ((c.toNat : Int) ≤ (57 : Int)) = false := decide_eq_false la57
        by_cases hkn : k < n.length
        · have hkn2 : (k : Int) < (n.length : Int) := by omega
          have hkn3 : decide ((k : Int) < (n.length : Int)) = true := decide_eq_true hkn2
          have hns : (str n).size = n.length := str_size n
          clear hi1 hi2 HS
          go_wp2_with fail
          go_ret
          exact ⟨rfl, HBB.out⟩
        · have hkn2 : ¬ (k : Int) < (n.length : Int) := by omega
          have hkn3 : decide ((k : Int) < (n.length : Int)) = false := decide_eq_false hkn2
          have hns : (str n).size = n.length := str_size n
          have ne36 : ((c.toNat : Int) != 36) = true := by rw [bne_iff_ne]; omega
          have ne40 : ((c.toNat : Int) != 40) = true := by rw [bne_iff_ne]; omega
          have ne41 : ((c.toNat : Int) != 41) = true := by rw [bne_iff_ne]; omega
          have ne44 : ((c.toNat : Int) != 44) = true := by rw [bne_iff_ne]; omega
          clear hi1 hi2 HS
          go_wp2_with fail
          go_ret
          exact ⟨rfl, HBB.out⟩
      · obtain ⟨hi1, hi2⟩ := hi
        have ga97 : ((97 : Int) ≤ (c.toNat : Int)) := by omega
        have gb97 : decide ((97 : Int) ≤ (c.toNat : Int)) = true := decide_eq_true ga97
        have ga65 : ((65 : Int) ≤ (c.toNat : Int)) := by omega
        have gb65 : decide ((65 : Int) ≤ (c.toNat : Int)) = true := decide_eq_true ga65
        have ga48 : ((48 : Int) ≤ (c.toNat : Int)) := by omega
        have gb48 : decide ((48 : Int) ≤ (c.toNat : Int)) = true := decide_eq_true ga48
        have la122 : ((c.toNat : Int) ≤ (122 : Int)) := by omega
        have lb122 : decide ((c.toNat : Int) ≤ (122 : Int)) = true := decide_eq_true la122
        have la90 : ¬ ((c.toNat : Int) ≤ (90 : Int)) := by omega
        have lb90 : decide ((c.toNat : Int) ≤ (90 : Int)) = false := decide_eq_false la90
        have la57 : ¬ ((c.toNat : Int) ≤ (57 : Int)) := by omega
        have lb57 : decide ((c.toNat : Int) ≤ (57 : Int)) = false := decide_eq_false la57
        have HR := Lib.hid (HS.out (.inl (by unfold Mp.Letter; omega)))
        clear hi1 hi2 HS
        go_wp2_with fail
        go_round
        case rel => exact ⟨k + 1, by go_num, hlt, fun j h hj => HR.out j h hj⟩
        case measure => simp [intOf]; omega
      · obtain ⟨hi1, hi2⟩ := hi
        have ga97 : ((97 : Int) ≤ (c.toNat : Int)) := by omega
        have gb97 : decide ((97 : Int) ≤ (c.toNat : Int)) = true := decide_eq_true ga97
        have ga65 : ((65 : Int) ≤ (c.toNat : Int)) := by omega
        have gb65 : decide ((65 : Int) ≤ (c.toNat : Int)) = true := decide_eq_true ga65
        have ga48 : ((48 : Int) ≤ (c.toNat : Int)) := by omega
        have gb48 : decide ((48 : Int) ≤ (c.toNat : Int)) = true := decide_eq_true ga48
        have la122 : ¬ ((c.toNat : Int) ≤ (122 : Int)) := by omega
        have lb122 : decide ((c.toNat : Int) ≤ (122 : Int)) = false := decide_eq_false la122
        have la90 : ¬ ((c.toNat : Int) ≤ (90 : Int)) := by omega
        have lb90 : decide ((c.toNat : Int) ≤ (90 : Int)) = false := decide_eq_false la90
        have la57 : ¬ ((c.toNat : Int) ≤ (57 : Int)) := by omega
        have lb57 : decide ((c.toNat : Int) ≤ (57 : Int)) = false := decide_eq_false la57
        by_cases hkn : k < n.length
        · have hkn2 : (k : Int) < (n.length : Int) := by omega
          have hkn3 : decide ((k : Int) < (n.length : Int)) = true := decide_eq_true hkn2
          have hns : (str n).size = n.length := str_size n
          clear hi1 hi2 HS
          go_wp2_with fail
          go_ret
          exact ⟨rfl, HBB.out⟩
        · have hkn2 : ¬ (k : Int) < (n.length : Int) := by omega
          have hkn3 : decide ((k : Int) < (n.length : Int)) = false := decide_eq_false hkn2
          have hns : (str n).size = n.length := str_size n
          have ne36 : ((c.toNat : Int) != 36) = true := by rw [bne_iff_ne]; omega
          have ne40 : ((c.toNat : Int) != 40) = true := by rw [bne_iff_ne]; omega
          have ne41 : ((c.toNat : Int) != 41) = true := by rw [bne_iff_ne]; omega
          have ne44 : ((c.toNat : Int) != 44) = true := by rw [bne_iff_ne]; omega
          clear hi1 hi2 HS
          go_wp2_with fail
          go_ret
          exact ⟨rfl, HBB.out⟩
    · obtain rfl : k = S.size := by omega
      have hlett : ∀ c ∈ n, Mp.Letter c := fun c hc => by
        obtain ⟨j, hj, rfl⟩ := List.getElem_of_mem hc
        have hj2 : j < S.size := by omega
        have e : S[j] = n[j] := by
          have := by8_get hj2
          rw [HSB.out, List.getElem?_append_left hj, List.getElem?_eq_getElem hj] at this
          exact (Option.some.inj this).symm
        rcases hrel j hj2 hj2 with h | h
        · rw [← e]; exact h
        · omega
      have hval : ∀ c ∈ v, Mp.Val c := fun c hc => by
        obtain ⟨j, hj, rfl⟩ := List.getElem_of_mem hc
        have hj2 : n.length + j < S.size := by omega
        have e : S[n.length + j] = v[j] := by
          have := by8_get hj2
          rw [HSB.out, List.getElem?_append_right (by omega), Nat.add_sub_cancel_left, List.getElem?_eq_getElem hj] at this
          exact (Option.some.inj this).symm
        rcases hrel _ hj2 hj2 with h | h
        · rw [← e]; exact .inl h
        · rw [← e]; exact h.2
      have HLT := Lib.hid hlett
      have HVL := Lib.hid hval
      clear hrel hlett hval hlt
      by_cases h0 : n = []
      · have hE := empty_yes h0
        clear h0
        go_wp2_with fail
        go_ret
        exact ⟨rfl, HBB.out⟩
      · have hE := empty_no h0
        have hF := isEmpty_no h0
        obtain ⟨o, ho, hq⟩ : ∃ o, o ∈ Mp.marks ∧ (#[Value.string { data := #[61] }, Value.string { data := #[58, 61] }, Value.string { data := #[63, 61] }, Value.string { data := #[43, 61] }] : Array Value)[k8.toNat % 4]? = some (.string (str o)) := by
          rcases (by omega : k8.toNat % 4 = 0 ∨ k8.toNat % 4 = 1 ∨ k8.toNat % 4 = 2 ∨ k8.toNat % 4 = 3) with e | e | e | e <;> rw [e]
          · exact ⟨[61], by simp [Mp.marks], rfl⟩
          · exact ⟨[58, 61], by simp [Mp.marks], rfl⟩
          · exact ⟨[63, 61], by simp [Mp.marks], rfl⟩
          · exact ⟨[43, 61], by simp [Mp.marks], rfl⟩
        have r1 : (0 : Int) ≤ (k8.toNat : Int) % 4 := by omega
        have r2 : (k8.toNat : Int) % 4 < 4 := by omega
        have r3 : ((k8.toNat : Int) % 4).toNat = k8.toNat % 4 := by omega
        have hos : (str o).size ≤ 2 := by rw [str_size]; rcases Mp.mark_ways ho with rfl | rfl | rfl | rfl <;> decide
        have HP1 : Hid (Mp.partsA (n ++ 32 :: o ++ 32 :: v) = .ok [Mp.P.mk 0 1 n o v false false [] [] [] []]) := Lib.hid (Mp.law_plain ho h0 HLT.out HVL.out)
        have HP2 : Hid (Mp.partsA (Mp.oOver ++ 32 :: n ++ 32 :: o ++ 32 :: v) = .ok [Mp.P.mk 0 1 n o v true false [] [] [] []]) := Lib.hid (Mp.law_over ho h0 HLT.out HVL.out)
        have HP3 : Hid (Mp.partsA (Mp.oExport ++ 9 :: n ++ 32 :: o ++ 32 :: v) = .ok [Mp.P.mk 0 1 n o v false true [] [] [] []]) := Lib.hid (Mp.law_out ho h0 HLT.out HVL.out)
        have HQ1 := Lib.hid (Mp.lines_plain ho h0 HLT.out HVL.out)
        have HQ2 := Lib.hid (Mp.lines_over ho HLT.out HVL.out)
        have HQ3 := Lib.hid (Mp.lines_out ho HLT.out HVL.out)
        clear h0 ho
        go_wp2_with fail
        have hTe : str n ++ ⟨#[32]⟩ ++ str o ++ ⟨#[32]⟩ ++ str v = str (n ++ 32 :: o ++ 32 :: v) := by8_ext (by
          rw [by8_add, by8_add, by8_add, by8_add, by8_str, by8_str, by8_str, by8_str]
          show n ++ [32] ++ o ++ [32] ++ v = _
          simp)
        obtain ⟨T, hT⟩ : ∃ T, str n ++ ⟨#[32]⟩ ++ str o ++ ⟨#[32]⟩ ++ str v = T := ⟨_, rfl⟩
        rw [hT]
        have hTs : T.size ≤ 400 := by rw [← hT]; simp only [ByteArray.size_append, hs1, hs2]; show _ + 1 + _ + 1 + _ ≤ _; omega
        have hTb : by8 T = n ++ 32 :: o ++ 32 :: v := by rw [← hT, hTe, by8_str]
        have hT2 : by8 (⟨#[111, 118, 101, 114, 114, 105, 100, 101, 32]⟩ ++ T) = Mp.oOver ++ 32 :: n ++ 32 :: o ++ 32 :: v := by
          rw [by8_add, hTb]
          show Mp.oOver ++ [32] ++ _ = _
          simp
        have hT3 : by8 (⟨#[101, 120, 112, 111, 114, 116, 9]⟩ ++ T) = Mp.oExport ++ 9 :: n ++ 32 :: o ++ 32 :: v := by
          rw [by8_add, hTb]
          show Mp.oExport ++ [9] ++ _ = _
          simp
        have hsz2 : ((⟨#[111, 118, 101, 114, 114, 105, 100, 101, 32]⟩ : ByteArray) ++ T).size ≤ 50000 := by rw [ByteArray.size_append]; show 9 + _ ≤ _; omega
        have hsz3 : ((⟨#[101, 120, 112, 111, 114, 116, 9]⟩ : ByteArray) ++ T).size ≤ 50000 := by rw [ByteArray.size_append]; show 7 + _ ≤ _; omega
        have HC1 := Lib.hid fun W => Of_any W ⟨#[]⟩ T (by omega) (by rw [hTb]; exact HQ1.out)
        have HC2 := Lib.hid fun W => Of_any W ⟨#[]⟩ _ hsz2 (by rw [hT2]; exact HQ2.out)
        have HC3 := Lib.hid fun W => Of_any W ⟨#[]⟩ _ hsz3 (by rw [hT3]; exact HQ3.out)
        rw [hTb, HP1.out] at HC1
        rw [hT2, HP2.out] at HC2
        rw [hT3, HP3.out] at HC3
        clear hT hTe hTb hT2 hT3 hsz2 hsz3 HQ1 HQ2 HQ3 HP1 HP2 HP3
        have HW1 := Lib.hid (want_new w1 (.cells #[.string ⟨#[61]⟩, .string ⟨#[58, 61]⟩, .string ⟨#[63, 61]⟩, .string ⟨#[43, 61]⟩] ST) (Mp.P.mk 0 1 n o v false false [] [] [] []))
        refine (HC1.out _).mono ?_
        rintro e w2 ⟨⟨X1, a1, c1, hX1, rfl, hP1⟩, B2⟩
        obtain ⟨u1, rfl⟩ := map_one hX1
        have HW2 := Lib.hid (HW1.out.go B2)
        have HS1 := Lib.hid hP1
        clear B2 hX1 hP1
        go_wp2_with fail
        refine (HC2.out _).mono ?_
        rintro e w3 ⟨⟨X2, a2, c2, hX2, rfl, hP2⟩, B3⟩
        obtain ⟨u2, rfl⟩ := map_one hX2
        have HW3 := Lib.hid ((HW2.out.go ((Below.refl w2.heap.size w2).alloc (Nat.le_refl _) (.cells #[.int .i64 0, .string ⟨#[]⟩, .int .i64 0] FT))).go B3)
        have HS13 := Lib.hid ((HS1.out.below ((Below.refl w2.heap.size w2).alloc (Nat.le_refl _) (.cells #[.int .i64 0, .string ⟨#[]⟩, .int .i64 0] FT))).below B3)
        have HF13 := Lib.hid ((B3.block w2.heap.size (by simp)).trans (World.alloc_heap_new w2 (.cells #[.int .i64 0, .string ⟨#[]⟩, .int .i64 0] FT)))
        have HS2 := Lib.hid hP2
        have h23 : w2.heap.size + 1 ≤ w3.heap.size := (Array.getElem?_eq_some_iff.1 HF13.out).1
        clear B3 hX2 hP2 HW2 HS1
        go_wp2_with fail
        refine (HC3.out _).mono ?_
        rintro e w4 ⟨⟨X3, a3, c3, hX3, rfl, hP3⟩, B4⟩
        obtain ⟨u3, rfl⟩ := map_one hX3
        have HW4 := Lib.hid ((HW3.out.go ((Below.refl w3.heap.size w3).alloc (Nat.le_refl _) (.cells #[.int .i64 0, .string ⟨#[]⟩, .int .i64 0] FT))).go B4)
        have HS14 := Lib.hid ((HS13.out.below ((Below.refl w3.heap.size w3).alloc (Nat.le_refl _) (.cells #[.int .i64 0, .string ⟨#[]⟩, .int .i64 0] FT))).below B4)
        have HS24 := Lib.hid ((HS2.out.below ((Below.refl w3.heap.size w3).alloc (Nat.le_refl _) (.cells #[.int .i64 0, .string ⟨#[]⟩, .int .i64 0] FT))).below B4)
        have HF14 := Lib.hid ((B4.block w2.heap.size (by simp; omega)).trans ((((Below.refl w3.heap.size w3).alloc (Nat.le_refl _) (.cells #[.int .i64 0, .string ⟨#[]⟩, .int .i64 0] FT)).block w2.heap.size (by omega)).trans HF13.out))
        have HF24 := Lib.hid ((B4.block w3.heap.size (by simp)).trans (World.alloc_heap_new w3 (.cells #[.int .i64 0, .string ⟨#[]⟩, .int .i64 0] FT)))
        have HS34 := Lib.hid hP3
        have h34 : w3.heap.size + 1 ≤ w4.heap.size := (Array.getElem?_eq_some_iff.1 HF24.out).1
        clear B4 hX3 hP3 HW3 HS13 HS2 HF13 HC1 HC2 HC3
        have HF := Lib.hid (Fin.new HW4.out HF14.out HF24.out HS14.out HS24.out HS34.out)
        clear HW4 HF14 HF24 HS14 HS24 HS34
        go_upto_region 19 with (fail)
        generalize hb1 : w1.heap.size + 1 = b1 at *
        generalize hb2 : w2.heap.size = b2 at *
        generalize hb3 : w3.heap.size = b3 at *
        generalize hb4 : w4.heap.size = b4 at *
        generalize hW5 : w4.alloc (.cells #[.int .i64 0, .string ⟨#[]⟩, .int .i64 0] FT) = W5 at *
        clear hb1 hb2 hb3 hb4 hW5 h23 h34
        obtain ⟨k0, k1, k2, k3, k4, k5, k6, k7, k8', k9, k10⟩ := part_cells HF.out.want
        have hlt1 : b1 < W5.heap.size := (Array.getElem?_eq_some_iff.1 HF.out.want).1
        go_cut [19, 20] (fun v19 v20 wx => ∃ g19 g20, v19 = .pointer (some ⟨g19, 0, none⟩) ∧ v20 = .pointer (some ⟨g20, 0, none⟩) ∧ Two2 W5 g19 g20 (Mp.P.mk 0 1 n o v false false [] [] [] []) wx)
        case first =>
          go_region
          all_goals go_wp2_with fail
          all_goals go_meet
          · exact ⟨_, _, rfl, rfl, heap_alloc2_old _ _ _, heap_alloc2_new _ _ _, by omega, ⟨by omega, by omega⟩, (((Below.refl _ _).alloc (Nat.le_refl _) _).alloc (by simp) _).drew⟩
          · exact ⟨_, _, rfl, rfl, heap_alloc2_new _ _ _, heap_alloc2_old _ _ _, by omega, ⟨by omega, by omega⟩, (((Below.refl _ _).alloc (Nat.le_refl _) _).alloc (by simp) _).drew⟩
        case rest =>
          obtain ⟨g19, g20, rfl, rfl, hT2⟩ := hcut
          clear k0 k1 k2 k3 k4 k5 k6 k7 k8' k9 k10
          have HEnd := Lib.hid (End.new HF.out hT2)
          have y1 : wc.cell? ⟨g19, 5, none⟩ = some (.bool false) := cell_at hT2.one rfl
          have y2 : wc.frozen? ⟨g19, 5, none⟩ = false := frozen_at hT2.one _
          have hT3 : (wc.setCell ⟨g19, 5, none⟩ (.bool true)).heap[g20]? = _ := (Below.heap_setCell _ _ _ _ (Ne.symm hT2.ne)).trans hT2.two
          have y3 : (wc.setCell ⟨g19, 5, none⟩ (.bool true)).cell? ⟨g20, 6, none⟩ = some (.bool false) := cell_at hT3 rfl
          have y4 : (wc.setCell ⟨g19, 5, none⟩ (.bool true)).frozen? ⟨g20, 6, none⟩ = false := frozen_at hT3 _
          clear hT2 hT3 HF hlt1
          go_upto_region 22 with (fail)
          generalize hb5 : wc.heap.size = b5 at *
          generalize hW6 : ((wc.setCell ⟨g19, 5, none⟩ (.bool true)).setCell ⟨g20, 6, none⟩ (.bool true)).alloc (.cells #[.int .i64 0, .string ⟨#[]⟩, .int .i64 0] FT) = W6 at *
          clear y1 y2 y3 y4 hb5 hW6
          have hq := fun W => eql_F 0 0 ⟨#[]⟩ W
          have hgd := guardF
          have D0 : Below W6.heap.size W6 W6.drew := (Below.refl _ _).drew
          have DA0 := fun o => ((Below.refl W6.heap.size W6).alloc (Nat.le_refl _) o).drew
          have tok1 : True := trivial
          have tok2 : True := trivial
          have tok3 : True := trivial
          have tok4 : True := trivial
          have tok5 : True := trivial
          have tok6 : True := trivial
          go_region_held3 (fun W => W.cell? ⟨b2, 0, none⟩ = some (.int .i64 0) ∧ W.cell? ⟨b2, 1, none⟩ = some (.string ⟨#[]⟩) ∧ W.cell? ⟨b2, 2, none⟩ = some (.int .i64 0) ∧ W.cell? ⟨b3, 0, none⟩ = some (.int .i64 0) ∧ W.cell? ⟨b3, 1, none⟩ = some (.string ⟨#[]⟩) ∧ W.cell? ⟨b3, 2, none⟩ = some (.int .i64 0) ∧ W.cell? ⟨b4, 0, none⟩ = some (.int .i64 0) ∧ W.cell? ⟨b4, 1, none⟩ = some (.string ⟨#[]⟩) ∧ W.cell? ⟨b4, 2, none⟩ = some (.int .i64 0) ∧ W.cell? ⟨b5, 0, none⟩ = some (.int .i64 0) ∧ W.cell? ⟨b5, 1, none⟩ = some (.string ⟨#[]⟩) ∧ W.cell? ⟨b5, 2, none⟩ = some (.int .i64 0) ∧ W.cell? ⟨b1, 0, none⟩ = some (.int .i64 0) ∧ W.cell? ⟨b1, 1, none⟩ = some (.int .i64 1) ∧ W.cell? ⟨b1, 2, none⟩ = some (.string (str n)) ∧ W.cell? ⟨b1, 3, none⟩ = some (.string (str o)) ∧ W.cell? ⟨b1, 4, none⟩ = some (.string (str v)) ∧ W.cell? ⟨b1, 5, none⟩ = some (.bool false) ∧ W.cell? ⟨b1, 6, none⟩ = some (.bool false) ∧ W.cell? ⟨b1, 7, none⟩ = some (.string ⟨#[]⟩) ∧ W.cell? ⟨b1, 8, none⟩ = some (.string ⟨#[]⟩) ∧ W.cell? ⟨b1, 9, none⟩ = some (.string ⟨#[]⟩) ∧ W.cell? ⟨b1, 10, none⟩ = some (.slice none 0 0) ∧ W.cell? ⟨g19, 0, none⟩ = some (.int .i64 0) ∧ W.cell? ⟨g19, 1, none⟩ = some (.int .i64 1) ∧ W.cell? ⟨g19, 2, none⟩ = some (.string (str n)) ∧ W.cell? ⟨g19, 3, none⟩ = some (.string (str o)) ∧ W.cell? ⟨g19, 4, none⟩ = some (.string (str v)) ∧ W.cell? ⟨g19, 5, none⟩ = some (.bool true) ∧ W.cell? ⟨g19, 6, none⟩ = some (.bool false) ∧ W.cell? ⟨g19, 7, none⟩ = some (.string ⟨#[]⟩) ∧ W.cell? ⟨g19, 8, none⟩ = some (.string ⟨#[]⟩) ∧ W.cell? ⟨g19, 9, none⟩ = some (.string ⟨#[]⟩) ∧ W.cell? ⟨g19, 10, none⟩ = some (.slice none 0 0) ∧ W.cell? ⟨g20, 0, none⟩ = some (.int .i64 0) ∧ W.cell? ⟨g20, 1, none⟩ = some (.int .i64 1) ∧ W.cell? ⟨g20, 2, none⟩ = some (.string (str n)) ∧ W.cell? ⟨g20, 3, none⟩ = some (.string (str o)) ∧ W.cell? ⟨g20, 4, none⟩ = some (.string (str v)) ∧ W.cell? ⟨g20, 5, none⟩ = some (.bool false) ∧ W.cell? ⟨g20, 6, none⟩ = some (.bool true) ∧ W.cell? ⟨g20, 7, none⟩ = some (.string ⟨#[]⟩) ∧ W.cell? ⟨g20, 8, none⟩ = some (.string ⟨#[]⟩) ∧ W.cell? ⟨g20, 9, none⟩ = some (.string ⟨#[]⟩) ∧ W.cell? ⟨g20, 10, none⟩ = some (.slice none 0 0))
            ((refine (HEnd.out.go ?_).cells; first | exact D0 | exact DA0 _ | exact A0 | exact D1 | exact D1.alloc D1.size _ | exact A1 | exact D2 | exact D2.alloc D2.size _ | exact A2 | exact D3 | exact A0.alloc A0.size _ | exact A1.alloc A1.size _ | exact A2.alloc A2.size _))
            (first
              | (go_at_call 7; have _t := tok1; refine (LawOf_one _ _ _ _ (Mp.P.mk 0 1 n o v false false [] [] [] []) _ (HEnd.out.go (by first | exact D0 | exact DA0 _)).fin.l1 rfl).mono ?_; rintro e wa0 ⟨ga0, ca0, rfl, ha0, Ba0⟩; clear tok1 _t; first | (have ob0 := ((One.of_new W6 (Mp.P.mk 0 1 n o v false false [] [] [] [])).below ((Below.refl _ _).drew)).below Ba0; have A0 := (DA0 _).trans (Ba0.mono (DA0 _).size)) | (have A0 := D0.trans (Ba0.mono D0.size)))
              | (go_at_call 6; have _t := tok2; refine (same_any _ (Mp.P.mk 0 1 n o v false false [] [] [] []) ga0 _ _ _ (by first | exact ha0 | exact ha0.below ((Below.refl _ _).alloc (Nat.le_refl _) _)) (by first | exact ob0 | exact One.of_new _ (Mp.P.mk 0 1 n o v false false [] [] [] []))).mono ?_; rintro e wb0 ⟨rfl, Bb0⟩; clear tok2 _t; first | (have D1 := A0.trans (Bb0.mono A0.size)) | (have D1 := (A0.alloc A0.size _).trans (Bb0.mono (A0.alloc A0.size _).size)))
              | (go_at_call 7; have _t := tok3; refine (LawOf_one _ _ _ _ (Mp.P.mk 0 1 n o v true false [] [] [] []) _ (HEnd.out.go (by first | exact D1 | exact D1.alloc D1.size _)).fin.l2 rfl).mono ?_; rintro e wa1 ⟨ga1, ca1, rfl, ha1, Ba1⟩; clear tok3 _t; first | (have ob1 := (One.of_new _ (Mp.P.mk 0 1 n o v true false [] [] [] [])).below Ba1; have A1 := (D1.alloc D1.size _).trans (Ba1.mono (D1.alloc D1.size _).size)) | (have A1 := D1.trans (Ba1.mono D1.size)))
              | (go_at_call 6; have _t := tok4; refine (same_any _ (Mp.P.mk 0 1 n o v true false [] [] [] []) ga1 _ _ _ (by first | exact ha1 | exact ha1.below ((Below.refl _ _).alloc (Nat.le_refl _) _)) (by first | exact ob1 | exact One.of_new _ (Mp.P.mk 0 1 n o v true false [] [] [] []))).mono ?_; rintro e wb1 ⟨rfl, Bb1⟩; clear tok4 _t; first | (have D2 := A1.trans (Bb1.mono A1.size)) | (have D2 := (A1.alloc A1.size _).trans (Bb1.mono (A1.alloc A1.size _).size)))
              | (go_at_call 7; have _t := tok5; refine (LawOf_one _ _ _ _ (Mp.P.mk 0 1 n o v false true [] [] [] []) _ (HEnd.out.go (by first | exact D2 | exact D2.alloc D2.size _)).fin.l3 rfl).mono ?_; rintro e wa2 ⟨ga2, ca2, rfl, ha2, Ba2⟩; clear tok5 _t; first | (have ob2 := (One.of_new _ (Mp.P.mk 0 1 n o v false true [] [] [] [])).below Ba2; have A2 := (D2.alloc D2.size _).trans (Ba2.mono (D2.alloc D2.size _).size)) | (have A2 := D2.trans (Ba2.mono D2.size)))
              | (go_at_call 6; have _t := tok6; refine (same_any _ (Mp.P.mk 0 1 n o v false true [] [] [] []) ga2 _ _ _ (by first | exact ha2 | exact ha2.below ((Below.refl _ _).alloc (Nat.le_refl _) _)) (by first | exact ob2 | exact One.of_new _ (Mp.P.mk 0 1 n o v false true [] [] [] []))).mono ?_; rintro e wb2 ⟨rfl, Bb2⟩; clear tok6 _t; first | (have D3 := A2.trans (Bb2.mono A2.size)) | (have D3 := (A2.alloc A2.size _).trans (Bb2.mono (A2.alloc A2.size _).size))))
          all_goals go_wp2_with fail
          all_goals go_ret
          all_goals exact ⟨rfl, HBB.out.trans ((HEnd.out.go D3).fin.below.mono HBB.out.size)⟩

end Go.Proofs.YtfmapdloaeppfaaDoor.Mw
