/-
  package text: Call.
-/
import Derived.Test.YtenokbceamcekaaGreatDoorQEPFns3
namespace Go.Proofs.YtenokbceamcekaaGreatDoor.Ew
open Go.RowKit Go.Maps Go.Proofs.YtenokbceamcekaaGreatDoor Go.Proofs.YtenokbceamcekaaGreatDoor.Ww Go.Proofs.YtenokbceamcekaaGreatDoor.Tw
set_option maxRecDepth 100000

theorem zeroFU (w : World) : (zeroValue FU).run Tryz.prog w = .ok (.agg zeroF) w := by kernel_rfl
theorem field0 (a b : Value) (w : World) : (Instr.field FU (.agg #[a, b]) 0).run Tryz.prog w = .ok a w := by kernel_rfl
section
variable {ops : Array Oper} {rest : List Oper} {o : Oper} {a : Act} {Q : Exit → Act → World → Prop} {w w0 : World}
theorem wpList_fn_at {k : Nat} (hF : FnsAt w0 w 19) (hk : k < 19) (hg : o.guard = none) (m x : Operand) (hop : o.op = Op.lookup PT m x false) (hm : a.eval m = .map (some w0.heap.size)) (hx : a.eval x = .string (nm k))
    (hK : ∀ g lb, FnL w g lb (takesN k) (resS k) → wpList Tryz.prog ops Q rest (a.put o.dst (.agg #[.int .i64 (takesN k : Nat), FA g lb])) w) : wpList Tryz.prog ops Q (o :: rest) a w := by
  obtain ⟨V, ho, hE⟩ := hF
  refine wpList_plain hg fun K' hK' => ?_
  obtain ⟨v, ps, hrun, hv⟩ := ho.lookup keyS Tryz.underlying78 (zeroFU w) (zd := .held (.agg zeroF)) (zp := []) rfl (key_of (nm_small k hk))
  obtain rfl := hR_inv hv (fns_at V _ 19 (Nat.le_refl _) k hk).1
  obtain ⟨g, lb, hV, hf⟩ := hE k hk
  unfold Oper.wp
  simp [execOp, hop, hm, hx, hrun, Result.andThen]
  rw [hV]
  exact hK' _ _ (hK g lb hf)
theorem wpList_fn_zero {f : ByteArray} (hF : FnsAt w0 w 19) (hn : NoFn f) (hs : f.size ≤ 100) (hg : o.guard = none) (m x : Operand) (hop : o.op = Op.lookup PT m x false) (hm : a.eval m = .map (some w0.heap.size)) (hx : a.eval x = .string f)
    (hK : wpList Tryz.prog ops Q rest (a.put o.dst (.agg zeroF)) w) : wpList Tryz.prog ops Q (o :: rest) a w := by
  obtain ⟨V, ho, hE⟩ := hF
  refine wpList_plain hg fun K' hK' => ?_
  obtain ⟨v, ps, hrun, hv⟩ := ho.lookup keyS Tryz.underlying78 (zeroFU w) (zd := .held (.agg zeroF)) (zp := []) rfl (key_of (p := f) (by unfold maxLen; omega))
  obtain rfl := hR_inv hv (fns_none V _ 19 fun k hk e => hn k hk (by8_ext e)).1
  unfold Oper.wp
  simp [execOp, hop, hm, hx, hrun, Result.andThen]
  exact hK' _ _ hK
theorem wpList_fn_ok {k : Nat} (hF : FnsAt w0 w 19) (hk : k < 19) (hg : o.guard = none) (m x : Operand) (hop : o.op = Op.lookup PT m x true) (hm : a.eval m = .map (some w0.heap.size)) (hx : a.eval x = .string (nm k))
    (hK : ∀ g lb, FnL w g lb (takesN k) (resS k) → wpList Tryz.prog ops Q rest (a.put o.dst (.tuple #[.agg #[.int .i64 (takesN k : Nat), FA g lb], .bool true])) w) : wpList Tryz.prog ops Q (o :: rest) a w := by
  obtain ⟨V, ho, hE⟩ := hF
  refine wpList_lookup_own_ok w hg m x _ hop ST FU keyS Tryz.underlying78 hR (zeroFU w) (.held (.agg zeroF)) [] rfl w0.heap.size _ _ hm ho _ _ hx (key_of (nm_small k hk)) ?_
  intro v ps hv
  have h := fns_at V (.held (.agg zeroF)) 19 (Nat.le_refl _) k hk
  obtain rfl := hR_inv hv h.1
  rw [h.2]
  obtain ⟨g, lb, hV, hf⟩ := hE k hk
  rw [hV]
  exact hK g lb hf
theorem wpList_fn_no {f : ByteArray} (hF : FnsAt w0 w 19) (hn : NoFn f) (hs : f.size ≤ 100) (hg : o.guard = none) (m x : Operand) (hop : o.op = Op.lookup PT m x true) (hm : a.eval m = .map (some w0.heap.size)) (hx : a.eval x = .string f)
    (hK : wpList Tryz.prog ops Q rest (a.put o.dst (.tuple #[.agg zeroF, .bool false])) w) : wpList Tryz.prog ops Q (o :: rest) a w := by
  obtain ⟨V, ho, hE⟩ := hF
  refine wpList_lookup_own_ok w hg m x _ hop ST FU keyS Tryz.underlying78 hR (zeroFU w) (.held (.agg zeroF)) [] rfl w0.heap.size _ _ hm ho _ _ hx (key_of (p := f) (by unfold maxLen; omega)) ?_
  intro v ps hv
  have h := fns_none V (.held (.agg zeroF)) 19 fun k hk e => hn k hk (by8_ext e)
  obtain rfl := hR_inv hv h.1
  rw [h.2]
  exact hK
end
theorem boxF (w : World) : (w.alloc (.cells zeroF FU)).heap[w.heap.size]? = some (.cells zeroF FU (0, 0)) := heap_alloc_last w _
set_option maxHeartbeats 4000000 in
theorem PCall_none (w : World) (f : ByteArray) (hn : NoFn f) (hs : f.size ≤ 100) (a : Option Addr) (n c : Nat) : Calls Tryz.prog 21 #[.string f, .slice a n c] w fun e w' => e = ansE (⟨#[]⟩, 3) ∧ Below w.heap.size w w' := by
  have HC := Lib.hid (functions_any w)
  have HZ := Lib.hid fun W => boxF W
  have sz : (Tryz.prog.info? FU).map (·.size) = some zeroF.size := sizeF
  go_enter Tryz.func21, Tryz.ntmps21
  go_wp2_with fail
  refine HC.out.mono ?_
  rintro e w1 ⟨rfl, F1, B1⟩
  have HF := Lib.hid F1
  have HB := Lib.hid B1
  clear F1 B1
  go_wp2_with (first
    | (refine wpList_fn_no (w0 := w) HF.out hn hs rfl _ _ rfl rfl rfl ?_)
    | (refine store_box rfl FU _ _ rfl w1.heap.size zeroF rfl rfl FU zeroF (HZ.out w1) sz rfl (by simp [Value.oneCell', zeroF]) ?_; intro W3 HG3 HE3; have HB3 : Hid (Below w1.heap.size w1 W3) := Lib.hid (by rw [HE3.out]; exact below_setRow ((Below.refl _ _).alloc (Nat.le_refl _) _) (Nat.le_refl _) _); clear HE3))
  go_ret2
  exact ⟨rfl, HB.out.trans (HB3.out.mono HB.out.size)⟩
set_option maxHeartbeats 4000000 in
theorem PCall_bad (w : World) (k : Nat) (hk : k < 19) (a : Option Addr) (n c : Nat) (hne : n ≠ takesN k) : Calls Tryz.prog 21 #[.string (nm k), .slice a n c] w fun e w' => e = ansE (⟨#[]⟩, 1) ∧ Below w.heap.size w w' := by
  have HC := Lib.hid (functions_any w)
  have HZ := Lib.hid fun W => boxF W
  obtain ⟨f, HN⟩ : ∃ f, Hid (nm k = f) := ⟨_, Lib.hid rfl⟩
  rw [HN.out]
  obtain ⟨t, HT⟩ : ∃ t, Hid (takesN k = t) := ⟨_, Lib.hid rfl⟩
  rw [HT.out] at hne
  have hnb : ((n : Int) == (t : Int)) = false := beq_eq_false_iff_ne.2 (by omega)
  go_enter Tryz.func21, Tryz.ntmps21
  go_wp2_with fail
  refine HC.out.mono ?_
  rintro e w1 ⟨rfl, F1, B1⟩
  have HF := Lib.hid F1
  have HB := Lib.hid B1
  clear F1 B1
  go_wp2_with (first
    | (refine wpList_fn_ok (w0 := w) HF.out hk rfl _ _ rfl rfl (congrArg Value.string HN.out.symm) ?_; rw [HT.out]; intro g lb hf; clear hf)
    | (refine store_box rfl FU _ _ rfl w1.heap.size #[.int .i64 (t : Nat), FA g lb] rfl rfl FU zeroF (HZ.out w1) sizeF rfl (by simp [Value.oneCell']) ?_; intro W3 HG3 HE3; have c0 : W3.cell? ⟨w1.heap.size, 0, none⟩ = some (.int .i64 (t : Nat)) := cell_box HG3.out rfl; have HB3 : Hid (Below w1.heap.size w1 W3) := Lib.hid (by rw [HE3.out]; exact below_setRow ((Below.refl _ _).alloc (Nat.le_refl _) _) (Nat.le_refl _) _); clear HE3))
  go_ret2
  exact ⟨rfl, HB.out.trans (HB3.out.mono HB.out.size)⟩
set_option maxHeartbeats 4000000 in
theorem PCall_any (w : World) (v : Value) (A : List ByteArray) (k : Nat) (hG : GM w) (hk : k < 19) (hr : Rd w w.heap.size v (strsC A)) (hl : A.length = takesN k) (hs : ∀ p ∈ A, p.size ≤ 9000) : Calls Tryz.prog 21 #[.string (nm k), v] w fun e w' => e = ansE (resS k A) ∧ Below w.heap.size w w' := by
  have HC := Lib.hid (functions_any w)
  have HZ := Lib.hid fun W => boxF W
  obtain ⟨f, HN⟩ : ∃ f, Hid (nm k = f) := ⟨_, Lib.hid rfl⟩
  rw [HN.out]
  obtain ⟨t, HT⟩ : ∃ t, Hid (takesN k = t) := ⟨_, Lib.hid rfl⟩
  rw [HT.out] at hl
  obtain ⟨r1, r2, HR⟩ : ∃ r1 r2, Hid (resS k A = (r1, r2)) := ⟨(resS k A).1, (resS k A).2, Lib.hid rfl⟩
  rw [HR.out]
  simp only [ansE]
  have HRd := Lib.hid hr
  have HL := Lib.hid hl
  have HS := Lib.hid hs
  obtain ⟨a0, c0, rfl, _⟩ := hr.shape
  rw [strsC_len] at *
  rw [hl] at HRd ⊢
  have hnb : ((t : Int) == (t : Int)) = true := beq_self_eq_true _
  clear hr hl hs
  go_enter Tryz.func21, Tryz.ntmps21
  go_wp2_with fail
  refine HC.out.mono ?_
  rintro e w1 ⟨rfl, F1, B1⟩
  have HF := Lib.hid F1
  have HB := Lib.hid B1
  clear F1 B1
  go_wp2_with (first
    | (refine wpList_fn_ok (w0 := w) HF.out hk rfl _ _ rfl rfl (congrArg Value.string HN.out.symm) ?_; rw [HT.out]; intro g lb hf; have eg : ∀ args w, (callFunc g args).run Tryz.prog w = .ok (.enter g args) w := hf.1; have hA : Below w1.heap.size w1 (w1.alloc (.cells #[.int .i64 (t : Nat), FA g lb] FU)) := (Below.refl _ _).alloc (Nat.le_refl _) _; have hBA := HB.out.trans (hA.mono HB.out.size); have HCC := Lib.hid (hf.2 _ _ A (CK.of hA) (hG.below hBA) ((HRd.out.below hBA).more hBA.size) HL.out HS.out); rw [HR.out] at HCC; simp only [ansE] at HCC; have HBB := Lib.hid hBA; clear hf hA hBA)
    | (go_at_fn g; refine HCC.out.mono ?_; rintro e w4 ⟨rfl, B4⟩))
  go_ret2
  exact ⟨rfl, HBB.out.trans (B4.mono HBB.out.size)⟩
end Go.Proofs.YtenokbceamcekaaGreatDoor.Ew
