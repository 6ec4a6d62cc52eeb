/-
  Two files compared, as values.
  slices.Equal of two lists of files that are the same; of two lists of names that are the same.
-/
import Derived.Laws.StructEq
import Derived.Test.YteommneijlelkaaGreatDoorQSCells
import Derived.Test.YteommneijlelkaaGreatDoorQSNew
namespace Go.Proofs.YteommneijlelkaaGreatDoor.Sw
open Go.RowKit Go.Proofs.YteommneijlelkaaGreatDoor Go.Maps
set_option maxRecDepth 100000

abbrev TF : TypeId := 44
theorem fieldsF : Tryz.prog.underlying TF = some (.struct (Tryz.prog.fieldsOf TF)) := by kernel_rfl
theorem fieldsFL : (Tryz.prog.fieldsOf TF).toList.map (fun f => (f.name, f.type, f.offset)) = [("Path", 9, 0), ("Text", 9, 1), ("Time", 2, 2), ("Dir", 4, 3)] := by kernel_rfl
theorem guardF : Tryz.prog.eqGuardType Tryz.prog.depth TF = false := by kernel_rfl
theorem eq_file (w : World) (p t p' t' : ByteArray) (c c' : Int) (d d' : Bool) :
    (Op.equalIn 10000 TF (.agg #[.string p, .string t, .int .i64 c, .bool d]) (.agg #[.string p', .string t', .int .i64 c', .bool d'])).run Tryz.prog w = .ok (p.toList == p'.toList && (t.toList == t'.toList && (c == c' && d == d'))) w := by
  have hp : Tryz.prog.stoodInHeld TF = false := by kernel_rfl
  rw [run_equalIn_struct _ _ _ _ _ fieldsF hp]
  have hf := fieldsFL
  generalize (Tryz.prog.fieldsOf TF).toList = fs at hf
  obtain ⟨f1, l1, rfl, h1, hl1⟩ := List.map_eq_cons_iff.1 hf
  obtain ⟨f2, l2, rfl, h2, hl2⟩ := List.map_eq_cons_iff.1 hl1
  obtain ⟨f3, l3, rfl, h3, hl3⟩ := List.map_eq_cons_iff.1 hl2
  obtain ⟨f4, l4, rfl, h4, hl4⟩ := List.map_eq_cons_iff.1 hl3
  obtain rfl := List.map_eq_nil_iff.1 hl4
  simp only [Prod.mk.injEq] at h1 h2 h3 h4
  obtain ⟨n1, t1, o1⟩ := h1
  obtain ⟨n2, t2, o2⟩ := h2
  obtain ⟨n3, t3, o3⟩ := h3
  obtain ⟨n4, t4, o4⟩ := h4
  unfold Op.eqFields Op.eqFields Op.eqFields Op.eqFields Op.eqFields
  rw [n1, n2, n3, n4, t1, t2, t3, t4, o1, o2, o3, o4]
  simp [go_sem, part]
  by_cases h1 : p.toList = p'.toList <;> by_cases h2 : t.toList = t'.toList <;> by_cases h3 : c = c' <;> by_cases h4 : d = d' <;> simp [h1, h2, h3, h4]
theorem neq_same (f : F) (w : World) : (binOp .neq TF (.agg #[.string (str f.p), .string (str f.t), .int .i64 f.c, .bool f.d]) (.agg #[.string (str f.p), .string (str f.t), .int .i64 f.c, .bool f.d])).run Tryz.prog w = .ok (.bool false) w := by
  rw [run_neq_struct, eq_file]; simp [Result.andThen]
end Go.Proofs.YteommneijlelkaaGreatDoor.Sw
namespace Go.Proofs.YteommneijlelkaaGreatDoor.Sw
open Go.RowKit Go.Proofs.YteommneijlelkaaGreatDoor Go.Maps
set_option maxRecDepth 100000

abbrev TS : TypeId := 34
theorem heap_set3 {w : World} {b i : Nat} {cs : Array Value} {T : TypeId} (h : w.heap[b]? = some (.cells cs T (0, 0))) (v : Value) : (w.setCell ⟨b, i, none⟩ v).heap[b]? = some (.cells (cs.setIfInBounds i v) T (0, 0)) := by
  have hb : b < w.heap.size := (Array.getElem?_eq_some_iff.1 h).1
  have hb' : w.heap[b] = .cells cs T (0, 0) := by have := Array.getElem?_eq_getElem hb; rw [h] at this; exact (Option.some.inj this).symm
  simp [World.setCell, Array.getElem?_modify, h]
theorem below_drewS {B : Nat} {a w : World} (h : Below B a w) (n : Nat) : Below B a (w.drewN n) := ⟨h.os, h.tape, h.output, h.size, h.block⟩

set_option maxHeartbeats 2000000 in
theorem EqualF_any (w : World) (v u : Value) (L : List F) (hv : Files w v L) (hu : Files w u L) (hl : L.length ≤ 100000) :
    Calls Tryz.prog 28 #[v, u] w fun e w' => e = .returned (.bool true) ∧ Below w.heap.size w w' := by
  rcases hv with ⟨rfl, a, c, rfl⟩ | ⟨b, o, c, rfl, hb, hx⟩
  · obtain ⟨a', c', rfl⟩ : ∃ a' c', u = .slice a' 0 c' := by
      rcases hu with ⟨_, a', c', h⟩ | ⟨b', o', c', h, _, _⟩
      · exact ⟨a', c', h⟩
      · exact ⟨_, _, h⟩
    go_enter Tryz.func28, Tryz.ntmps28
    go_wp2_with fail
    refine wp_loop_rounds 1 ?_
    rw [rounds_succ]
    go_wp2_with fail
    go_ret
    exact ⟨rfl, Below.refl _ _⟩
  · rcases hu with ⟨rfl, a', c', rfl⟩ | ⟨b', o', c', rfl, hb', hy⟩
    · go_enter Tryz.func28, Tryz.ntmps28
      go_wp2_with fail
      refine wp_loop_rounds 1 ?_
      rw [rounds_succ]
      go_wp2_with fail
      go_ret
      exact ⟨rfl, Below.refl _ _⟩
    · go_enter Tryz.func28, Tryz.ntmps28
      have hgd := guardF
      go_wp2_with fail
      go_loopw [13] (fun v9 wr => ∃ i : Nat, i ≤ L.length ∧ v9 = .int .i64 i ∧ Below w.heap.size w wr) (fun v _ => L.length - (intOf v).toNat)
      case atStart => exact ⟨0, Nat.zero_le _, rfl, Below.refl _ _⟩
      case round =>
        obtain ⟨i, hix, rfl, hB⟩ := hrel
        by_cases hlt : i < L.length
        · obtain ⟨e0, e1, e2, e3⟩ := hx i hlt
          obtain ⟨g0, g1, g2, g3⟩ := hy i hlt
          have x0 := (hB.cell (p := ⟨b, o + i * 4, none⟩) hb).trans e0
          have x1 := (hB.cell (p := ⟨b, o + i * 4 + 1, none⟩) hb).trans e1
          have x2 := (hB.cell (p := ⟨b, o + i * 4 + 2, none⟩) hb).trans e2
          have x3 := (hB.cell (p := ⟨b, o + i * 4 + 3, none⟩) hb).trans e3
          have y0 := (hB.cell (p := ⟨b', o' + i * 4, none⟩) hb').trans g0
          have y1 := (hB.cell (p := ⟨b', o' + i * 4 + 1, none⟩) hb').trans g1
          have y2 := (hB.cell (p := ⟨b', o' + i * 4 + 2, none⟩) hb').trans g2
          have y3 := (hB.cell (p := ⟨b', o' + i * 4 + 3, none⟩) hb').trans g3
          have hki : (i : Int) < L.length := by omega
          have hq := fun W => neq_same L[i] W
          clear e0 e1 e2 e3 g0 g1 g2 g3
          generalize L[i] = f at *
          clear hx hy
          go_wp2_with fail
          go_quiet (fail)
          go_wp2_with fail
          go_roundw
          case rel => exact ⟨i + 1, hlt, by go_num, below_drewS hB _⟩
          case measure => simp [intOf]; omega
        · obtain rfl : i = L.length := by omega
          go_wp2_with fail
          go_ret
          exact ⟨rfl, hB⟩
end Go.Proofs.YteommneijlelkaaGreatDoor.Sw
