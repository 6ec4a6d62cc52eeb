/-
  expand.functions; the closure by which Text recovers.
  expand.functions: the map of the functions that expand their arguments by themselves.
-/
import Derived.Recover
import Derived.Great.Frames
import Derived.Laws.EntriesVeiled
import Derived.Maps.OwnSet
import Derived.Test.YtpliljcjjffipaaGreatDoorQXCtx
import Derived.Maps.Views
namespace Go.Proofs.YtpliljcjjffipaaGreatDoor.Xw
open Go.RowKit Go.Proofs.YtpliljcjjffipaaGreatDoor Go.Maps Go.Proofs.YtpliljcjjffipaaGreatDoor.Ww Go.Proofs.YtpliljcjjffipaaGreatDoor.Tw Go.Proofs.YtpliljcjjffipaaGreatDoor.Kw Go.Proofs.YtpliljcjjffipaaGreatDoor.Jw Go.Proofs.YtpliljcjjffipaaGreatDoor.Xb
set_option maxRecDepth 100000

/-- Whatever a map holds. -/
def anyElem (_ : Value) : Option (DataW Unit × List MemPlace) := some (.lit (.bool true), [])
abbrev MT : TypeId := 182
theorem catch_idle (cb : Nat) (w : World) :
    CallsD Tryz.prog 82 #[.pointer (some ⟨cb, 0, none⟩)] .returning w fun e u' w' => e = .returned (.tuple #[]) ∧ u' = .returning ∧ w' = w := by
  have hq : ∀ w : World, (binOp .eql 20 .nilIface .nilIface).run Tryz.prog w = .ok (.bool true) w := fun w => by kernel_rfl
  refine callsD_of_wpS Tryz.func82 rfl fun c₀ cs hu => ?_
  apply wpS_seq
  apply wpS_region
  simp [wpOpsS, go_sem, recoverD, hu, Tryz.ntmps82, Exit.thenS]
  refine wpS_of_wp ?_
  have hQ : ∀ a : Act, a.defers = [] → bodyPostS Tryz.prog Tryz.f82 c₀ cs (fun e u' w' => e = Ending.returned (Value.tuple #[]) ∧ u' = .returning ∧ w' = w) .ret a (c₀ :: cs) w := fun a hd => by
    refine ⟨hd, .returning, ?_, .tuple #[], ?_, rfl, rfl, rfl⟩
    · cases c₀; simp_all
    · exact results_none rfl _ _ _
  rw [show (#[Value.pointer (some ⟨cb, 0, none⟩)] ++ ((Array.replicate 15 undef).setIfInBounds 3 Value.nilIface).setIfInBounds 0 Value.nilIface) = #[.pointer (some ⟨cb, 0, none⟩), .nilIface, undef, undef, .nilIface, undef, undef, undef, undef, undef, undef, undef, undef, undef, undef, undef] from by kernel_rfl]
  go_wp2
  exact hQ _ rfl
end Go.Proofs.YtpliljcjjffipaaGreatDoor.Xw
namespace Go.Proofs.YtpliljcjjffipaaGreatDoor.Yw
open Go.RowKit Go.Proofs.YtpliljcjjffipaaGreatDoor Go.Maps Go.Proofs.YtpliljcjjffipaaGreatDoor.Ww Go.Proofs.YtpliljcjjffipaaGreatDoor.Tw Go.Proofs.YtpliljcjjffipaaGreatDoor.Kw Go.Proofs.YtpliljcjjffipaaGreatDoor.Jw Go.Proofs.YtpliljcjjffipaaGreatDoor.Xb Go.Proofs.YtpliljcjjffipaaGreatDoor.Xw
set_option maxRecDepth 100000

/-- How an element reads: as itself. -/
def hR (v : Value) : Option (DataW Value × List MemPlace) := some (.held v, [])
/-- The names: if, or, and, foreach, wildcard. -/
def kn : Nat → Bs
  | 0 => [105, 102]
  | 1 => [111, 114]
  | 2 => [97, 110, 100]
  | 3 => [102, 111, 114, 101, 97, 99, 104]
  | _ => [119, 105, 108, 100, 99, 97, 114, 100]
def kf : Nat → Nat
  | 0 => 132
  | 1 => 133
  | 2 => 134
  | 3 => 135
  | _ => 136
def knD : Nat → DataW Value
  | 0 => .map []
  | n + 1 => (knD n).put (.string (kn n)) (.held (.func (.func (kf n)) #[] #[]))
/-- The map, as far as it has come. -/
def KnAt (W : World) (b n : Nat) : Prop := W.ownsMap Tryz.prog SK hR b n (knD n)
theorem KnAt.lt {W : World} {b n : Nat} (h : KnAt W b n) : b < W.heap.size := World.ownsMap.lt h
theorem KnAt.block {W W' : World} {b n : Nat} (h : KnAt W b n) (hb : W'.heap[b]? = W.heap[b]?) : KnAt W' b n := by
  obtain ⟨es, clock, hh, r⟩ := h
  exact ⟨es, clock, hb.trans hh, r⟩
section
variable {w : World} {ops : Array Oper} {rest : List Oper} {o : Oper} {a : Act} {Q : Exit → Act → World → Prop}
theorem wpList_insert_kn {n b : Nat} (hg : o.guard = none) (m x v : Operand) (hop : o.op = Op.insert MT m x v) (hm : a.eval m = .map (some b)) (hF : KnAt w b n) (hn : n < 5) (hx : a.eval x = .string (str (kn n))) (hv : a.eval v = .func (.func (kf n)) #[] #[])
    (hK : ∀ w', KnAt w' b (n + 1) → w.mapTurned w' b → wpList Tryz.prog ops Q rest (a.put o.dst undef) w') : wpList Tryz.prog ops Q (o :: rest) a w := by
  refine wpList_plain hg fun K' hK' => ?_
  obtain ⟨w', hrun, r1, r2⟩ := World.ownsMap.store (val := .func (.func (kf n)) #[] #[]) (d := .held (.func (.func (kf n)) #[] #[])) (ps := []) hF key Tryz.underlying182 (by unfold maxLen; omega) (key_of (p := str (kn n)) (by
    have : ∀ k : Fin 5, (kn k).length ≤ 20 := by decide
    have h2 := this ⟨n, hn⟩
    rw [str_size]; unfold maxLen; dsimp only at h2; omega)) rfl
  unfold Oper.wp
  simp [execOp, hop, hm, hx, hv, hrun, Result.andThen]
  rw [by8_str] at r1
  exact hK' _ _ (hK w' r1 r2)
abbrev FnT : TypeId := 232
end
set_option maxHeartbeats 2000000 in
theorem functions_known (w : World) : Calls Tryz.prog 83 #[] w fun e w' => ∃ b, e = .returned (.map (some b)) ∧ w.heap.size ≤ b ∧ KnAt w' b 5 ∧ Below w.heap.size w w' := by
  have hmm := @run_makeMap Tryz.prog
  have HB := Lib.hid ((Below.refl w.heap.size w).alloc (Nat.le_refl _) (.map #[] 0))
  have H0 : Hid (KnAt (w.alloc (.map #[] 0)) w.heap.size 0) := Lib.hid (World.ownsMap_made (H := Value) w Tryz.prog SK hR)
  go_enter Tryz.func83, Tryz.ntmps83
  go_wp2_with (first
    | (refine wpList_insert_kn (n := 0) (by rfl) _ _ _ (by rfl) (by rfl) H0.out (by decide) (by rfl) (by rfl) ?_; intro w1 h1 t1; have H1 := Lib.hid h1; have HB1 := Lib.hid (HB.out.grown t1.grown HB.out.size (fun k e => by cases e; exact Nat.le_refl _)); clear h1 t1 HB H0)
    | (refine wpList_insert_kn (n := 1) (by rfl) _ _ _ (by rfl) (by rfl) H1.out (by decide) (by rfl) (by rfl) ?_; intro w2 h2 t2; have H2 := Lib.hid h2; have HB2 := Lib.hid (HB1.out.grown t2.grown HB1.out.size (fun k e => by cases e; exact Nat.le_refl _)); clear h2 t2 HB1 H1)
    | (refine wpList_insert_kn (n := 2) (by rfl) _ _ _ (by rfl) (by rfl) H2.out (by decide) (by rfl) (by rfl) ?_; intro w3 h3 t3; have H3 := Lib.hid h3; have HB3 := Lib.hid (HB2.out.grown t3.grown HB2.out.size (fun k e => by cases e; exact Nat.le_refl _)); clear h3 t3 HB2 H2)
    | (refine wpList_insert_kn (n := 3) (by rfl) _ _ _ (by rfl) (by rfl) H3.out (by decide) (by rfl) (by rfl) ?_; intro w4 h4 t4; have H4 := Lib.hid h4; have HB4 := Lib.hid (HB3.out.grown t4.grown HB3.out.size (fun k e => by cases e; exact Nat.le_refl _)); clear h4 t4 HB3 H3)
    | (refine wpList_insert_kn (n := 4) (by rfl) _ _ _ (by rfl) (by rfl) H4.out (by decide) (by rfl) (by rfl) ?_; intro w5 h5 t5; have H5 := Lib.hid h5; have HB5 := Lib.hid (HB4.out.grown t5.grown HB4.out.size (fun k e => by cases e; exact Nat.le_refl _)); clear h5 t5 HB4 H4))
  go_ret
  exact ⟨_, rfl, Nat.le_refl _, H5.out, HB5.out⟩
end Go.Proofs.YtpliljcjjffipaaGreatDoor.Yw
