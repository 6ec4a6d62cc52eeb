/-
  expand.functions; the closure by which Text recovers.
-/
import Derived.Recover
import Derived.Great.Frames
import Derived.Laws.EntriesVeiled
import Derived.Maps.OwnSet
import Derived.Test.YtebagfadcjgllaaGreatDoorXCtx
namespace Go.Proofs.YtebagfadcjgllaaGreatDoor.Xw
open Go.RowKit Go.Proofs.YtebagfadcjgllaaGreatDoor Go.Maps Go.Proofs.YtebagfadcjgllaaGreatDoor.Ww Go.Proofs.YtebagfadcjgllaaGreatDoor.Tw Go.Proofs.YtebagfadcjgllaaGreatDoor.Kw Go.Proofs.YtebagfadcjgllaaGreatDoor.Jw Go.Proofs.YtebagfadcjgllaaGreatDoor.Xb
set_option maxRecDepth 100000

/-- Whatever a map holds. -/
def anyElem (_ : Value) : Option (DataW Unit × List MemPlace) := some (.lit (.bool true), [])
theorem wpList_insert_any {w : World} {ops : Array Oper} {rest : List Oper} {o : Oper} {a : Act} {Q : Exit → Act → World → Prop} (hg : o.guard = none) (m x v : Operand) (t : TypeId) (hop : o.op = Op.insert t m x v)
    (k e : TypeId) (K : Keyed Tryz.prog k) (ht : Tryz.prog.underlying t = some (.map k e)) (b n : Nat) (D : DataW Unit)
    (hm : a.eval m = .map (some b)) (hown : w.ownsMap Tryz.prog k anyElem b n D) (hn : n < maxLen) (key val : Value) (kl : Lit) (hx : a.eval x = key) (hv : a.eval v = val) (hkey : keyOf Tryz.prog k key = some kl)
    (hK : ∀ w', w'.ownsMap Tryz.prog k anyElem b (n + 1) (D.put kl (.lit (.bool true))) → w.mapTurned w' b → wpList Tryz.prog ops Q rest (a.put o.dst undef) w') :
    wpList Tryz.prog ops Q (o :: rest) a w := by
  refine wpList_plain hg fun K' hK' => ?_
  obtain ⟨w', hrun, r1, r2⟩ := hown.store (val := val) (d := .lit (.bool true)) (ps := []) K ht hn hkey rfl
  unfold Oper.wp
  simp [execOp, hop, hm, hx, hv, hrun, Result.andThen]
  exact hK' _ _ (hK w' r1 r2)
abbrev MT : TypeId := 60
set_option maxHeartbeats 2000000 in
theorem functions_any (w : World) : Calls Tryz.prog 15 #[] w fun e w' => ∃ b, e = .returned (.map (some b)) ∧ Below w.heap.size w w' := by
  have hmm := @run_makeMap Tryz.prog
  have hB := (Below.refl w.heap.size w).alloc (Nat.le_refl _) (.map #[] 0)
  have hown := World.ownsMap_made (H := Unit) w Tryz.prog 9 anyElem
  go_enter Tryz.func15, Tryz.ntmps15
  go_wp2_with (refine wpList_insert_any (by rfl) _ _ _ _ (by rfl) _ _ key Tryz.underlying60 w.heap.size _ _ (by rfl) hown (by decide) _ _ _ (by rfl) (by rfl) (key_of (by decide)) ?_; clear hown; intro w2 hown ht; replace hB := hB.grown ht.grown hB.size (fun k e => by cases e; exact Nat.le_refl _); clear ht)
  go_ret
  exact ⟨_, rfl, hB⟩

theorem catch_idle (cb : Nat) (w : World) :
    CallsD Tryz.prog 14 #[.pointer (some ⟨cb, 0, none⟩)] .returning w fun e u' w' => e = .returned (.tuple #[]) ∧ u' = .returning ∧ w' = w := by
  have hq : ∀ w : World, (binOp .eql 20 .nilIface .nilIface).run Tryz.prog w = .ok (.bool true) w := fun w => by kernel_rfl
  refine callsD_of_wpS Tryz.func14 rfl fun c₀ cs hu => ?_
  apply wpS_seq
  apply wpS_region
  simp [wpOpsS, go_sem, recoverD, hu, Tryz.ntmps14, Exit.thenS]
  refine wpS_of_wp ?_
  have hQ : ∀ a : Act, a.defers = [] → bodyPostS Tryz.prog Tryz.f14 c₀ cs (fun e u' w' => e = Ending.returned (Value.tuple #[]) ∧ u' = .returning ∧ w' = w) .ret a (c₀ :: cs) w := fun a hd => by
    refine ⟨hd, .returning, ?_, .tuple #[], ?_, rfl, rfl, rfl⟩
    · cases c₀; simp_all
    · exact results_none rfl _ _ _
  rw [show (#[Value.pointer (some ⟨cb, 0, none⟩)] ++ ((Array.replicate 15 undef).setIfInBounds 3 Value.nilIface).setIfInBounds 0 Value.nilIface) = #[.pointer (some ⟨cb, 0, none⟩), .nilIface, undef, undef, .nilIface, undef, undef, undef, undef, undef, undef, undef, undef, undef, undef, undef] from by kernel_rfl]
  go_wp2
  exact hQ _ rfl
theorem catch_fail (cb : Nat) (c : Int) (older : List PanicEntry) (w : World) (v0 : Value) (h0 : w.cell? ⟨cb, 0, none⟩ = some v0) (f0 : w.frozen? ⟨cb, 0, none⟩ = false) :
    CallsD Tryz.prog 14 #[.pointer (some ⟨cb, 0, none⟩)] (.panicking ({ v := .iface FT (.int .i64 c), recovered := false } :: older)) w fun e u' w' => e = .returned (.tuple #[]) ∧
      u' = .panicking ({ v := .iface FT (.int .i64 c), recovered := true } :: older) ∧ w' = w.setCell ⟨cb, 0, none⟩ (.int .i64 c) := by
  have hq : ∀ w : World, (binOp .eql 20 (.iface FT (.int .i64 c)) .nilIface).run Tryz.prog w = .ok (.bool false) w := fun w => by kernel_rfl
  have ha : ∀ w : World, (Instr.typeAssert (.iface FT (.int .i64 c)) 20 FT true).run Tryz.prog w = .ok (.tuple #[.int .i64 c, .bool true]) w := fun w => by kernel_rfl
  have hlt : cb < w.heap.size := by have := World.block_lt_of_cell? _ _ h0; simpa using this
  refine callsD_of_wpS Tryz.func14 rfl fun c₀ cs hu => ?_
  apply wpS_seq
  apply wpS_region
  simp [wpOpsS, go_sem, recoverD, hu, Tryz.ntmps14, Exit.thenS]
  refine wpS_of_wp ?_
  have hQ : ∀ (e : Exit) (a : Act), a.defers = [] → (e = .normal ∨ e = .ret) → bodyPostS Tryz.prog Tryz.f14 c₀ cs (fun e u' w' => e = Ending.returned (Value.tuple #[]) ∧ u' = .panicking ({ v := .iface FT (.int .i64 c), recovered := true } :: older) ∧ w' = w.setCell ⟨cb, 0, none⟩ (.int .i64 c)) e a
      ({ c₀ with mode := .panicking ({ v := .iface FT (.int .i64 c), recovered := true } :: older) } :: cs) (w.setCell ⟨cb, 0, none⟩ (.int .i64 c)) := fun e a hd he => by
    rcases he with rfl | rfl
    · exact ⟨hd, _, rfl, .tuple #[], results_none rfl _ _ _, rfl, rfl, rfl⟩
    · exact ⟨hd, _, rfl, .tuple #[], results_none rfl _ _ _, rfl, rfl, rfl⟩
  rw [show (#[Value.pointer (some ⟨cb, 0, none⟩)] ++ ((Array.replicate 15 undef).setIfInBounds 3 (Value.iface FT (.int .i64 c))).setIfInBounds 0 (Value.iface FT (.int .i64 c))) = #[.pointer (some ⟨cb, 0, none⟩), .iface FT (.int .i64 c), undef, undef, .iface FT (.int .i64 c), undef, undef, undef, undef, undef, undef, undef, undef, undef, undef, undef] from by kernel_rfl]
  go_wp2
  first | exact hQ _ _ rfl (.inl rfl) | exact hQ _ _ rfl (.inr rfl)
end Go.Proofs.YtebagfadcjgllaaGreatDoor.Xw
