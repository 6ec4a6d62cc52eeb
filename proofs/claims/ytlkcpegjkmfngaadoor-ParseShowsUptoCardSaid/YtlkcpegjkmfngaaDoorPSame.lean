/-
  flatironlaw06.same, of two lists of commands that are the same.
-/
import Derived.Laws.StructEq
import Derived.Test.YtlkcpegjkmfngaaDoorShelf
import Derived.Test.YtlkcpegjkmfngaaDoorPOf
namespace Go.Proofs.YtlkcpegjkmfngaaDoor.Px
open Go.RowKit Go.Proofs.YtlkcpegjkmfngaaDoor Go.Proofs.YtlkcpegjkmfngaaDoor.Lx
set_option maxRecDepth 100000

theorem fieldsG2 : Tryd.prog.underlying G2 = some (.struct (Tryd.prog.fieldsOf G2)) := by kernel_rfl
theorem fieldsGL : (Tryd.prog.fieldsOf G2).toList.map (fun f => (f.name, f.type, f.offset)) = [("Kind", 3, 0), ("Path", 9, 1)] := by kernel_rfl
theorem guardG2 : Tryd.prog.eqGuardType Tryd.prog.depth G2 = false := by kernel_rfl
theorem neq_to (w : World) (k k' : Int) (a b : ByteArray) : (binOp .neq G2 (.agg #[.int .i64 k, .string a]) (.agg #[.int .i64 k', .string b])).run Tryd.prog w = .ok (.bool (!(k == k' && (a.toList == b.toList)))) w := by
  have hp : Tryd.prog.stoodInHeld G2 = false := by kernel_rfl
  rw [run_neq_struct, run_equalIn_struct _ _ _ _ _ fieldsG2 hp]
  have hf := fieldsGL
  generalize (Tryd.prog.fieldsOf G2).toList = fs at hf
  obtain ⟨f, l1, rfl, hf1, hl1⟩ := List.map_eq_cons_iff.1 hf
  obtain ⟨g, l2, rfl, hg1, hl2⟩ := List.map_eq_cons_iff.1 hl1
  obtain rfl := List.map_eq_nil_iff.1 hl2
  simp only [Prod.mk.injEq] at hf1 hg1
  obtain ⟨n1, t1, o1⟩ := hf1
  obtain ⟨n2, t2, o2⟩ := hg1
  have e1 := fun d => run_equalIn_int (P := Tryd.prog) w d 3 .i64 .i64 k k' Tryd.underlying3
  have e2 := fun d => run_equalIn_string (P := Tryd.prog) w d 9 a b Tryd.underlying9
  have e1' := e1 9998
  have e2' := e2 9998
  unfold Op.eqFields Op.eqFields Op.eqFields
  rw [n1, n2, t1, t2, o1, o2]
  simp [go_sem, part]
  by_cases h1 : k = k' <;> by_cases h2 : a.toList = b.toList <;> simp [h1, h2]
theorem neq_to_same (k : Int) (a : ByteArray) (w : World) : (binOp .neq G2 (.agg #[.int .i64 k, .string a]) (.agg #[.int .i64 k, .string a])).run Tryd.prog w = .ok (.bool false) w := by
  rw [neq_to]; simp

theorem EqStr_yes (w : World) (v u : Value) (l : List Bs) (hv : Rg w (· < w.heap.size) v l.length (strsC l)) (hu : Rg w (· < w.heap.size) u l.length (strsC l)) (hl : l.length ≤ 100000) :
    Calls Tryd.prog 22 #[v, u] w fun e w' => e = .returned (.bool true) ∧ Below w.heap.size w w' := by
  obtain ⟨a, c, rfl, _⟩ := hv.shape
  obtain ⟨a', c', rfl, _⟩ := hu.shape
  by_cases h0 : 0 < l.length
  · obtain ⟨b, o, rfl, _, hb, hx⟩ := strs_cells hv h0
    obtain ⟨b', o', rfl, _, hb', hy⟩ := strs_cells hu h0
    have hg : ∀ j, j < (l.map str).length → (l.map str).getD j ByteArray.empty = str (l.getD j []) := fun j hj => by
      rw [List.length_map] at hj
      rw [List.getD_eq_getElem?_getD, List.getD_eq_getElem?_getD, List.getElem?_map, List.getElem?_eq_getElem hj]; rfl
    have hg2 : ∀ j (h : j < l.length), l.getD j [] = l[j] := fun j h => by rw [List.getD_eq_getElem?_getD, List.getElem?_eq_getElem h]; rfl
    refine (Tryd.slices_Equal_string b o l.length c b' o' l.length c' (l.map str) (l.map str) w (by simp) (by simp) (by omega) (by omega) (fun j hj => ?_) (fun j hj => ?_)).mono ?_
    · rw [hg j hj]
      rw [List.length_map] at hj
      rw [hg2 j hj]
      exact hx j hj
    · rw [hg j hj]
      rw [List.length_map] at hj
      rw [hg2 j hj]
      exact hy j hj
    · rintro e w' ⟨rfl, q, rfl⟩
      exact ⟨by simp, below_drewN (Below.refl _ _) _⟩
  · obtain rfl : l = [] := List.eq_nil_of_length_eq_zero (by omega)
    refine (Tryd.slices_Equal_string_empty a a' c 0 c' w (by omega)).mono ?_
    rintro e w' ⟨rfl, rfl⟩
    exact ⟨rfl, Below.refl _ _⟩

set_option maxHeartbeats 2000000 in
theorem EqTo_yes (w : World) (v u : Value) (l : List Pp.G) (hv : Rg w (· < w.heap.size) v l.length (tgsC l)) (hu : Rg w (· < w.heap.size) u l.length (tgsC l)) (hl : l.length ≤ 100000) :
    Calls Tryd.prog 23 #[v, u] w fun e w' => e = .returned (.bool true) ∧ Below w.heap.size w w' := by
  obtain ⟨a, c, rfl, _⟩ := hv.shape
  obtain ⟨a', c', rfl, _⟩ := hu.shape
  have hgd := guardG2
  go_enter Tryd.func23, Tryd.ntmps23
  go_wp2_with fail
  go_loopw [13] (fun v9 wr => ∃ i : Nat, i ≤ l.length ∧ v9 = .int .i64 i ∧ Below w.heap.size w wr) (fun v _ => l.length - (intOf v).toNat)
  case atStart => exact ⟨0, Nat.zero_le _, rfl, Below.refl _ _⟩
  case round =>
    obtain ⟨i, hix, rfl, hB⟩ := hrel
    by_cases hlt : i < l.length
    · obtain ⟨b, o, rfl, _, hb, hx⟩ := tos_cells hv (by omega)
      obtain ⟨b', o', rfl, _, hb', hy⟩ := tos_cells hu (by omega)
      obtain ⟨e0, e1⟩ := hx i hlt
      obtain ⟨g0, g1⟩ := hy i hlt
      have x0 := (hB.cell (p := ⟨b, o + i * 2, none⟩) hb).trans e0
      have x1 := (hB.cell (p := ⟨b, o + i * 2 + 1, none⟩) hb).trans e1
      have y0 := (hB.cell (p := ⟨b', o' + i * 2, none⟩) hb').trans g0
      have y1 := (hB.cell (p := ⟨b', o' + i * 2 + 1, none⟩) hb').trans g1
      have hki : (i : Int) < l.length := by omega
      have hq := fun W => neq_to_same l[i].k (str l[i].p) W
      clear e0 e1 g0 g1 hx hy
      generalize l[i] = f at *
      go_wp2_with fail
      go_quiet (fail)
      go_wp2_with fail
      go_roundw
      case rel => exact ⟨i + 1, hlt, by go_num, below_drewN hB _⟩
      case measure => simp [intOf]; omega
    · obtain rfl : i = l.length := by omega
      go_wp2_with fail
      go_ret
      exact ⟨rfl, hB⟩

set_option maxHeartbeats 2000000 in
theorem same1_yes (w : World) (c : Pp.C) (vw vt uw ut : Value) (hx : In w (· < w.heap.size) ⟨c, vw, vt⟩) (hy : In w (· < w.heap.size) ⟨c, uw, ut⟩) (hf : c.ws.length ≤ 100000 ∧ c.to.length ≤ 100000) :
    Calls Tryd.prog 21 #[.agg #[.int .i64 c.on, vw, vt], .agg #[.int .i64 c.on, uw, ut]] w fun e w' => e = .returned (.bool true) ∧ Below w.heap.size w w' := by
  obtain ⟨a1, c1, h1, _⟩ := hx.1.shape
  obtain ⟨a2, c2, h2, _⟩ := hx.2.shape
  obtain ⟨a3, c3, h3, _⟩ := hy.1.shape
  obtain ⟨a4, c4, h4, _⟩ := hy.2.shape
  simp only at h1 h2 h3 h4
  subst h1 h2 h3 h4
  have hB0 := fun o o' => ((Below.refl w.heap.size w).alloc (Nat.le_refl _) o).alloc (by simp) o'
  have hg := fun (W : World) (hW : Below w.heap.size w W) => EqStr_yes W (.slice a1 c.ws.length c1) (.slice a3 c.ws.length c3) c.ws ((Rg.below hx.1 hW).more fun b hb => Nat.lt_of_lt_of_le hb hW.size) ((Rg.below hy.1 hW).more fun b hb => Nat.lt_of_lt_of_le hb hW.size) hf.1
  have hk := fun (W : World) (hW : Below w.heap.size w W) => EqTo_yes W (.slice a2 c.to.length c2) (.slice a4 c.to.length c4) c.to ((Rg.below hx.2 hW).more fun b hb => Nat.lt_of_lt_of_le hb hW.size) ((Rg.below hy.2 hW).more fun b hb => Nat.lt_of_lt_of_le hb hW.size) hf.2
  obtain ⟨W0, hW0⟩ : ∃ W0, W0 = (w.alloc (.cells #[.int .i64 c.on, .slice a1 c.ws.length c1, .slice a2 c.to.length c2] C2)).alloc (.cells #[.int .i64 c.on, .slice a3 c.ws.length c3, .slice a4 c.to.length c4] C2) := ⟨_, rfl⟩
  have b1 : W0.heap[w.heap.size]? = some (.cells #[.int .i64 c.on, .slice a1 c.ws.length c1, .slice a2 c.to.length c2] C2 (0, 0)) := by rw [hW0, Below.heap_alloc _ _ _ (by simp)]; exact heap_new _ _ rfl
  have b2 : W0.heap[w.heap.size + 1]? = some (.cells #[.int .i64 c.on, .slice a3 c.ws.length c3, .slice a4 c.to.length c4] C2 (0, 0)) := by rw [hW0]; exact heap_new _ _ (by simp)
  have hB := hB0 (.cells #[.int .i64 c.on, .slice a1 c.ws.length c1, .slice a2 c.to.length c2] C2) (.cells #[.int .i64 c.on, .slice a3 c.ws.length c3, .slice a4 c.to.length c4] C2)
  rw [← hW0] at hB
  obtain ⟨p0, p1, p2⟩ := box3 b1
  obtain ⟨q0, q1, q2⟩ := box3 b2
  have l2 : w.heap.size + 1 < W0.heap.size := (Array.getElem?_eq_some_iff.1 b2).1
  clear hx hy hB0
  have hi : ((c.on : Int) == c.on) = true := beq_self_eq_true _
  go_enter Tryd.func21, Tryd.ntmps21
  go_wp2_with fail
  rw [← hW0]
  go_wp2_with (first
    | (go_at_call 22; refine (hg _ hB).mono ?_; rintro e w1 ⟨rfl, hB1⟩; have hB2 := hB.trans (hB1.mono hB.size); have b3 := (hB1.block _ (by omega)).trans b1; have b4 := (hB1.block _ l2).trans b2; obtain ⟨r0, r1, r2⟩ := box3 b3; obtain ⟨s0, s1, s2⟩ := box3 b4)
    | (go_at_call 23; refine (hk _ hB2).mono ?_; rintro e w2 ⟨rfl, hB3⟩; have hB4 := hB2.trans (hB3.mono hB2.size)))
  go_ret
  exact ⟨rfl, hB4⟩

set_option maxHeartbeats 2000000 in
theorem EqualFunc_yes (w : World) (a a' : Option Addr) (cp cp' : Nat) (X Y : List CV) (hX : Cs w (· < w.heap.size) (.slice a X.length cp) X) (hY : Cs w (· < w.heap.size) (.slice a' X.length cp') Y) (h : Hid (X.map CV.c = Y.map CV.c)) (hf : FewC X) :
    Calls Tryd.prog 20 #[.slice a X.length cp, .slice a' X.length cp', .func (Fn.func 21) #[] #[]] w fun e w' => e = .returned (.bool true) ∧ Below w.heap.size w w' := by
  have hYl : Hid (Y.length = X.length) := Lib.hid (by have := congrArg List.length h.out; simpa using this.symm)
  obtain ⟨hl, hf⟩ := hf
  go_enter Tryd.func20, Tryd.ntmps20
  go_wp2_with fail
  go_loopw [17] (fun v wr => ∃ i : Nat, i ≤ X.length ∧ v = .int .i64 i ∧ Below w.heap.size w wr) (fun v _ => X.length - (intOf v).toNat)
  case atStart => exact ⟨0, Nat.zero_le _, rfl, Below.refl _ _⟩
  case round =>
    obtain ⟨i, hix, rfl, hB⟩ := hrel
    by_cases hlt : i < X.length
    · have hlt2 : i < Y.length := by have := hYl.out; omega
      obtain ⟨b, o, rfl, _, hb, hx⟩ := hX.cells (by omega)
      have hY2 := hY
      rw [← hYl.out] at hY2
      obtain ⟨b', o', rfl, _, hb', hy⟩ := hY2.cells (by omega)
      obtain ⟨e0, e1, e2⟩ := hx i hlt
      obtain ⟨g0, g1, g2⟩ := hy i hlt2
      have x0 := (hB.cell (p := ⟨b, o + i * 3, none⟩) hb).trans e0
      have x1 := (hB.cell (p := ⟨b, o + i * 3 + 1, none⟩) hb).trans e1
      have x2 := (hB.cell (p := ⟨b, o + i * 3 + 2, none⟩) hb).trans e2
      have y0 := (hB.cell (p := ⟨b', o' + i * 3, none⟩) hb').trans g0
      have y1 := (hB.cell (p := ⟨b', o' + i * 3 + 1, none⟩) hb').trans g1
      have y2 := (hB.cell (p := ⟨b', o' + i * 3 + 2, none⟩) hb').trans g2
      have hc : X[i].c = Y[i].c := by
        have h1 : (X.map CV.c)[i]? = (Y.map CV.c)[i]? := by rw [h.out]
        rw [List.getElem?_map, List.getElem?_map, List.getElem?_eq_getElem hlt, List.getElem?_eq_getElem hlt2] at h1
        simpa using h1
      have hI := (cs_in2 hX hlt).keep fun b hb => hB.block b hb
      have hJ := (cs_in2 hY hlt2).keep fun b hb => hB.block b hb
      have hF := hf _ (List.getElem_mem hlt)
      clear e0 e1 e2 g0 g1 g2 hx hy hY2
      generalize X[i] = x at *
      generalize Y[i] = y at *
      obtain ⟨c, vw, vt⟩ := x
      obtain ⟨c', uw, ut⟩ := y
      simp only at hc
      subst hc
      simp only at x0 x1 x2 y0 y1 y2 hF
      have hS := fun (W : World) (hW : Below wr.heap.size wr W) => same1_yes W c vw vt uw ut ((hI.keep fun b hb => hW.block b (Nat.lt_of_lt_of_le hb hB.size)).more fun b hb => Nat.lt_of_lt_of_le (Nat.lt_of_lt_of_le hb hB.size) hW.size) ((hJ.keep fun b hb => hW.block b (Nat.lt_of_lt_of_le hb hB.size)).more fun b hb => Nat.lt_of_lt_of_le (Nat.lt_of_lt_of_le hb hB.size) hW.size) hF
      obtain ⟨a1, c1, h1, _⟩ := hI.1.shape
      obtain ⟨a2, c2, h2, _⟩ := hI.2.shape
      obtain ⟨a3, c3, h3, _⟩ := hJ.1.shape
      obtain ⟨a4, c4, h4, _⟩ := hJ.2.shape
      simp only at h1 h2 h3 h4
      subst h1 h2 h3 h4
      have hB0 := fun o o' => ((Below.refl wr.heap.size wr).alloc (Nat.le_refl _) o).alloc (by simp) o'
      have hbl := Nat.lt_of_lt_of_le hb hB.size
      have hbl' := Nat.lt_of_lt_of_le hb' hB.size
      clear hX hY hI hJ
      go_wp2_with (go_at_call 21; refine (hS _ (hB0 _ _)).mono ?_; rintro e w2 ⟨rfl, hB2⟩; have hB3 := (hB0 _ _).trans (hB2.mono (hB0 _ _).size))
      go_roundw
      case rel => exact ⟨i + 1, hlt, by go_num, hB.trans (hB3.mono hB.size)⟩
      case measure => simp [intOf]; omega
    · obtain rfl : i = X.length := by omega
      go_wp2_with fail
      go_ret
      exact ⟨rfl, hB⟩

theorem same_yes (w : World) (v u : Value) (X Y : List CV) (hX : Cs w (· < w.heap.size) v X) (hY : Cs w (· < w.heap.size) u Y) (h : X.map CV.c = Y.map CV.c) (hf : FewC X) :
    Calls Tryd.prog 9 #[v, u] w fun e w' => e = .returned (.bool true) ∧ Below w.heap.size w w' := by
  obtain ⟨a, c, rfl, _⟩ := hX.1.shape
  obtain ⟨a', c', rfl, _⟩ := hY.1.shape
  have hl : Y.length = X.length := by have := congrArg List.length h; simpa using this.symm
  rw [hl] at hY ⊢
  have hE := EqualFunc_yes w a a' c c' X Y hX hY (Lib.hid h) hf
  clear hX hY h hf hl
  go_enter Tryd.func9, Tryd.ntmps9
  go_wp2_with fail
  refine hE.mono ?_
  rintro e w1 ⟨rfl, hB⟩
  go_wp2_with fail
  go_ret
  exact ⟨rfl, hB⟩
end Go.Proofs.YtlkcpegjkmfngaaDoor.Px
