/-
  flatironlaw11: Of, Same; what is exported by the program's account and by the reference's.
-/
import Derived.Laws.StructEq
import Derived.Deep.RegionHeld3
import Derived.Test.YtfbddbcedoofeaaJNil
import Derived.Test.YtfbddbcedoofeaaJExps
namespace Go.Proofs.Ytfbddbcedoofeaa.Jw
open Go.RowKit Go.Proofs.Ytfbddbcedoofeaa Go.Proofs.Ytfbddbcedoofeaa.Ww Go.Proofs.Ytfbddbcedoofeaa.Tw Go.Proofs.Ytfbddbcedoofeaa.Kw
set_option maxRecDepth 100000

/-! ### the two accounts of what is exported -/
/-- The choices are those of the two lists. -/
def Agree (T : Jp.T) (M : List (Bs × Int)) : Prop := Kp.Sorted M ∧ ∀ k, Jp.hasA T.yes k = (valA CK M k == 1) ∧ Jp.hasA T.no k = (valA CK M k == 2)
theorem Agree.new : Agree Jp.new [] := ⟨List.Pairwise.nil, fun _ => ⟨rfl, rfl⟩⟩
theorem has_without (k j : Bs) : ∀ l : List Bs, Jp.hasA (Jp.withoutA k l) j = (Jp.hasA l j && !(j == k))
  | [] => rfl
  | x :: r => by
    have ih := has_without k j r
    unfold Jp.withoutA
    by_cases h : x = k
    · rw [if_pos h, ih]
      show _ = ((x == j || Jp.hasA r j) && !(j == k))
      by_cases h2 : j = k
      · simp [h2]
      · have : (x == j) = false := by rw [beq_eq_false_iff_ne]; exact fun e => h2 (e ▸ h)
        rw [this, Bool.false_or]
    · rw [if_neg h]
      show (x == j || Jp.hasA (Jp.withoutA k r) j) = ((x == j || Jp.hasA r j) && !(j == k))
      rw [ih]
      by_cases h2 : x = j
      · have : (j == k) = false := by rw [beq_eq_false_iff_ne]; exact fun e => h (h2.trans e)
        rw [this]; simp [h2]
      · have : (x == j) = false := by rw [beq_eq_false_iff_ne]; exact h2
        rw [this, Bool.false_or, Bool.false_or]
theorem has_snoc (l : List Bs) (k j : Bs) : Jp.hasA (l ++ [k]) j = (Jp.hasA l j || k == j) := by unfold Jp.hasA; simp
theorem val_ins {M : List (Bs × Int)} (hs : Kp.Sorted M) (k j : Bs) (c : Int) : valA CK (Kp.ins M (k, c)) j = if j = k then c else valA CK M j := by
  unfold valA
  by_cases h : j = k
  · subst h
    rw [if_pos rfl, Kp.get_ins_same (f := (j, c)) hs]; rfl
  · rw [if_neg h, Kp.get_ins_other (f := (k, c)) hs h]
theorem Agree.step {T : Jp.T} {M : List (Bs × Int)} (h : Agree T M) (yes : Bool) (k : Bs) : Agree (Jp.stepA yes T k) (nameM yes M k) := by
  refine ⟨Kp.sorted_ins h.1, fun j => ?_⟩
  obtain ⟨h1, h2⟩ := h.2 j
  unfold Jp.stepA nameM chosen
  rw [val_ins h.1]
  cases yes with
  | true =>
    simp only [if_true]
    rw [has_snoc, has_without, has_without, h1, h2]
    by_cases e : j = k
    · subst e; simp
    · have e' : (k == j) = false := by rw [beq_eq_false_iff_ne]; exact fun h => e h.symm
      simp [e, e']
  | false =>
    simp only [Bool.false_eq_true, if_false]
    rw [has_snoc, has_without, has_without, h1, h2]
    by_cases e : j = k
    · subst e; simp
    · have e' : (k == j) = false := by rw [beq_eq_false_iff_ne]; exact fun h => e h.symm
      simp [e, e']
theorem Agree.fold {yes : Bool} : ∀ {L : List Bs} {T : Jp.T} {M : List (Bs × Int)}, Agree T M → Agree (L.foldl (Jp.stepA yes) T) (L.foldl (nameM yes) M)
  | [], _, _, h => h
  | k :: r, _, _, h => Agree.fold (L := r) (h.step yes k)
theorem Agree.export_ {T : Jp.T} {M : List (Bs × Int)} (h : Agree T M) (yes : Bool) (L : List Bs) : Agree (Jp.exportA T yes L) (exportM M yes L) := by
  unfold Jp.exportA exportM
  refine Agree.fold ?_
  split
  · exact ⟨h.1, h.2⟩
  · exact h
theorem step_keeps (yes : Bool) (T : Jp.T) (k : Bs) : (Jp.stepA yes T k).l = T.l ∧ (Jp.stepA yes T k).all = T.all := by unfold Jp.stepA; split <;> exact ⟨rfl, rfl⟩
theorem fold_keeps (yes : Bool) : ∀ (L : List Bs) (T : Jp.T), (L.foldl (Jp.stepA yes) T).l = T.l ∧ (L.foldl (Jp.stepA yes) T).all = T.all
  | [], _ => ⟨rfl, rfl⟩
  | k :: r, T => by
    obtain ⟨h1, h2⟩ := fold_keeps yes r (Jp.stepA yes T k)
    obtain ⟨h3, h4⟩ := step_keeps yes T k
    exact ⟨h1.trans h3, h2.trans h4⟩
theorem export_keeps (T : Jp.T) (yes : Bool) (L : List Bs) : (Jp.exportA T yes L).l = T.l ∧ (Jp.exportA T yes L).all = if L = [] then yes else T.all := by
  unfold Jp.exportA
  obtain ⟨h1, h2⟩ := fold_keeps yes L (if L = [] then { T with all := yes } else T)
  rw [h1, h2]
  split <;> exact ⟨rfl, rfl⟩
theorem Agree.out {T : Jp.T} {M : List (Bs × Int)} (h : Agree T M) (v : Jp.V) : outP M T.all v = Jp.isOut T v := by
  obtain ⟨h1, h2⟩ := h.2 v.n
  unfold outP Jp.isOut
  rw [h1, h2]
theorem Agree.exports {T : Jp.T} {M : List (Bs × Int)} (h : Agree T M) : exportsP T.l M T.all = Jp.exportsA T := by
  unfold exportsP Jp.exportsA
  exact List.filter_congr fun v _ => h.out v
theorem Agree.of {T T' : Jp.T} {M : List (Bs × Int)} (h : Agree T M) (h1 : T'.yes = T.yes) (h2 : T'.no = T.no) : Agree T' M := ⟨h.1, fun k => by rw [h1, h2]; exact h.2 k⟩

/-! ### Of, Same -/
set_option maxHeartbeats 1000000 in
theorem Of_any (w : World) (v : Jp.V) : Calls Try.prog 15 #[.agg (vA v)] w fun e w' => e = .returned (.agg (vA v)) ∧ Below w.heap.size w w' := by
  have hb := heap_last w (.cells (vA v) PV)
  have B1 := (Below.refl (w.alloc (.cells (vA v) PV)).heap.size (w.alloc (.cells (vA v) PV))).alloc (Nat.le_refl _) (.cells zeroV VT)
  have hb2 := (B1.block _ (by simp)).trans hb
  have hr := heap_last (w.alloc (.cells (vA v) PV)) (.cells zeroV VT)
  rw [World.size_alloc] at hr
  have hB := ((Below.refl w.heap.size w).alloc (Nat.le_refl _) (.cells (vA v) PV)).alloc (by simp) (.cells zeroV VT)
  have c0 := cell_at (i := 0) hb2 rfl
  have c1 := cell_at (i := 1) hb2 rfl
  have c2 := cell_at (i := 2) hb2 rfl
  have c3 := cell_at (i := 3) hb2 rfl
  have HR := Lib.hid hr
  have HB := Lib.hid hB
  clear hb B1 hb2 hr hB
  unfold vA at *
  go_enter Try.func15, Try.ntmps15
  go_wp2_with (refine wpList_store_row rfl VT _ _ rfl (w.heap.size + 1) #[.string (str v.n), .string (str v.x), .bool v.s, .int .i64 v.f] rfl rfl VT zeroV HR.out sizeV rfl (one_v v) ?_)
  (try simp only [Exit.inBlock, Exit.then])
  refine bodyPost_ret (results_one Try.results15 _ _ (w.heap.size + 1) VT #[.string (str v.n), .string (str v.x), .bool v.s, .int .i64 v.f] (0, 0) _ rfl (setRow_heap _ _ _ _ _ _ HR.out) undV rfl sizeV) rfl ?_
  exact ⟨rfl, below_setRow HB.out (by omega) _⟩
theorem fieldsVL : (Try.prog.fieldsOf VT).toList.map (fun f => (f.name, f.type, f.offset)) = [("Name", 9, 0), ("Text", 9, 1), ("Simple", 4, 2), ("From", 3, 3)] := by kernel_rfl
theorem eq_var (w : World) (p t p' t' : ByteArray) (c c' : Int) (d d' : Bool) :
    (Op.equalIn 10000 VT (.agg #[.string p, .string t, .bool d, .int .i64 c]) (.agg #[.string p', .string t', .bool d', .int .i64 c'])).run Try.prog w = .ok (p.toList == p'.toList && (t.toList == t'.toList && (d == d' && c == c'))) w := by
  have hp : Try.prog.stoodInHeld VT = false := by kernel_rfl
  rw [run_equalIn_struct _ _ _ _ _ undV hp]
  have hf := fieldsVL
  generalize (Try.prog.fieldsOf VT).toList = fs at hf
  obtain ⟨f1, l1, rfl, h1, hl1⟩ := List.map_eq_cons_iff.1 hf
  obtain ⟨f2, l2, rfl, h2, hl2⟩ := List.map_eq_cons_iff.1 hl1
  obtain ⟨f3, l3, rfl, h3, hl3⟩ := List.map_eq_cons_iff.1 hl2
  obtain ⟨f4, l4, rfl, h4, hl4⟩ := List.map_eq_cons_iff.1 hl3
  obtain rfl := List.map_eq_nil_iff.1 hl4
  simp only [Prod.mk.injEq] at h1 h2 h3 h4
  obtain ⟨n1, t1, o1⟩ := h1
  obtain ⟨n2, t2, o2⟩ := h2
  obtain ⟨n3, t3, o3⟩ := h3
  obtain ⟨n4, t4, o4⟩ := h4
  unfold Op.eqFields Op.eqFields Op.eqFields Op.eqFields Op.eqFields
  rw [n1, n2, n3, n4, t1, t2, t3, t4, o1, o2, o3, o4]
  simp [go_sem, part]
  by_cases h1 : p.toList = p'.toList <;> by_cases h2 : t.toList = t'.toList <;> by_cases h3 : c = c' <;> by_cases h4 : d = d' <;> simp [h1, h2, h3, h4]
theorem neq_var (v : Jp.V) (w : World) : (binOp .neq VT (.agg #[.string (str v.n), .string (str v.x), .bool v.s, .int .i64 v.f]) (.agg #[.string (str v.n), .string (str v.x), .bool v.s, .int .i64 v.f])).run Try.prog w = .ok (.bool false) w := by
  rw [run_neq_struct, eq_var]; simp [Result.andThen]

def SaRel (w : World) (n : Nat) (vi : Value) (wr : World) : Prop := ∃ i : Nat, vi = .int .i64 i ∧ i ≤ n ∧ Below w.heap.size w wr
set_option maxHeartbeats 4000000 in
/-- flatironlaw11.Same, where the lists are one. -/
theorem Same_any (w : World) {lo1 lo2 : Nat} {v1 v2 : Value} {L : List Jp.V} (h1 : w.ownsRow lo1 PV 4 v1 L.length (vsC L)) (h2 : w.ownsRow lo2 VT 4 v2 L.length (vsC L)) (hz : L.length ≤ 1000000) :
    Calls Try.prog 9 #[v1, v2] w fun e w' => e = .returned (.bool true) ∧ Below w.heap.size w w' := by
  obtain ⟨a1, c1, rfl⟩ := owns_slice h1
  obtain ⟨a2, c2, rfl⟩ := owns_slice h2
  have H1 := Lib.hid h1
  have H2 := Lib.hid h2
  clear h1 h2
  go_enter Try.func9, Try.ntmps9
  go_wp2_with fail
  go_loopw [13] (fun vi wr => SaRel w L.length vi wr) (fun vi _ => L.length - (intOf vi).toNat)
  case atStart => exact ⟨0, rfl, Nat.zero_le _, Below.refl _ _⟩
  case round =>
    obtain ⟨i, rfl, hi, hB⟩ := hrel
    have HB := Lib.hid hB
    by_cases hlt : i < L.length
    · obtain ⟨g1, hg1, hc1, hl1, x0, x1, x2, x3⟩ := var_cells2 H1.out hlt
      obtain ⟨g2, hg2, hc2, hl2, y0, y1, y2, y3⟩ := var_cells2 H2.out hlt
      subst hg1 hg2
      generalize L[i] = x at *
      have HS := Lib.hid (show ∀ W, Below w.heap.size w W → W.cell? ⟨g1, i * 4, none⟩ = some (.string (str x.n)) ∧ W.cell? ⟨g1, i * 4 + 1, none⟩ = some (.string (str x.x)) ∧ W.cell? ⟨g1, i * 4 + 2, none⟩ = some (.bool x.s) ∧ W.cell? ⟨g1, i * 4 + 3, none⟩ = some (.int .i64 x.f) ∧ W.cell? ⟨g2, i * 4, none⟩ = some (.string (str x.n)) ∧ W.cell? ⟨g2, i * 4 + 1, none⟩ = some (.string (str x.x)) ∧ W.cell? ⟨g2, i * 4 + 2, none⟩ = some (.bool x.s) ∧ W.cell? ⟨g2, i * 4 + 3, none⟩ = some (.int .i64 x.f) from fun W h => ⟨(h.cell (p := ⟨g1, i * 4, none⟩) hl1).trans x0, (h.cell (p := ⟨g1, i * 4 + 1, none⟩) hl1).trans x1, (h.cell (p := ⟨g1, i * 4 + 2, none⟩) hl1).trans x2, (h.cell (p := ⟨g1, i * 4 + 3, none⟩) hl1).trans x3, (h.cell (p := ⟨g2, i * 4, none⟩) hl2).trans y0, (h.cell (p := ⟨g2, i * 4 + 1, none⟩) hl2).trans y1, (h.cell (p := ⟨g2, i * 4 + 2, none⟩) hl2).trans y2, (h.cell (p := ⟨g2, i * 4 + 3, none⟩) hl2).trans y3⟩)
      have HO := Lib.hid (fun W => Of_any W x)
      unfold vA at HO
      have hq := fun W => neq_var x W
      have hki : (i : Int) < L.length := by omega
      have hk0 : (0 : Int) ≤ (i : Int) := Int.natCast_nonneg _
      have hks := hB.size
      have D0 := hB.drew
      obtain ⟨p0, p1, p2, p3, q0, q1, q2, q3⟩ := HS.out _ D0
      clear x0 x1 x2 x3 y0 y1 y2 y3
      go_wp2_with fail
      go_region_held3 (fun W : World => W.cell? ⟨g1, i * 4, none⟩ = some (.string (str x.n)) ∧ W.cell? ⟨g1, i * 4 + 1, none⟩ = some (.string (str x.x)) ∧ W.cell? ⟨g1, i * 4 + 2, none⟩ = some (.bool x.s) ∧ W.cell? ⟨g1, i * 4 + 3, none⟩ = some (.int .i64 x.f) ∧ W.cell? ⟨g2, i * 4, none⟩ = some (.string (str x.n)) ∧ W.cell? ⟨g2, i * 4 + 1, none⟩ = some (.string (str x.x)) ∧ W.cell? ⟨g2, i * 4 + 2, none⟩ = some (.bool x.s) ∧ W.cell? ⟨g2, i * 4 + 3, none⟩ = some (.int .i64 x.f))
        ((refine HS.out _ ?_; first | exact D0 | exact D1))
        (first
          | (go_at_call 15; refine (HO.out _).mono ?_; rintro e w2 ⟨rfl, B2⟩; have D1 := D0.trans (B2.mono D0.size)))
      all_goals
        go_wp2_with fail
        go_roundw
      all_goals first
        | exact ⟨i + 1, by go_num, hlt, D1⟩
        | (simp [intOf]; omega)
    · obtain rfl : i = L.length := by omega
      have hki : ¬ (L.length : Int) < L.length := by omega
      go_wp2_with fail
      go_ret
      exact ⟨rfl, HB.out⟩
end Go.Proofs.Ytfbddbcedoofeaa.Jw
