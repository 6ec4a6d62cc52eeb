/-
  (*reading).all of one part, by what part does.
-/
import Derived.Test.YtpliljcjjffipaaGreatDoorQDQ
import Derived.Recover
import Derived.Great.Frames
import Derived.Test.YtpliljcjjffipaaGreatDoorQMRec
namespace Go.Proofs.YtpliljcjjffipaaGreatDoor.Dq
open Go.RowKit Go.Proofs.YtpliljcjjffipaaGreatDoor Go.Maps Go.Proofs.YtpliljcjjffipaaGreatDoor.Ww Go.Proofs.YtpliljcjjffipaaGreatDoor.Tw Go.Proofs.YtpliljcjjffipaaGreatDoor.Kw Go.Proofs.YtpliljcjjffipaaGreatDoor.Jw Go.Proofs.YtpliljcjjffipaaGreatDoor.Xb Go.Proofs.YtpliljcjjffipaaGreatDoor.Xw Go.Proofs.YtpliljcjjffipaaGreatDoor.Dz
set_option maxRecDepth 100000

theorem all_idle (cb : Nat) (w : World) :
    CallsD Tryz.prog 68 #[.pointer (some ⟨cb, 0, none⟩)] .returning w fun e u' w' => e = .returned (.tuple #[]) ∧ u' = .returning ∧ w' = w := by
  have hq : ∀ w : World, (binOp .eql 20 .nilIface .nilIface).run Tryz.prog w = .ok (.bool true) w := fun w => by kernel_rfl
  refine callsD_of_wpS Tryz.func68 rfl fun c₀ cs hu => ?_
  apply wpS_seq
  apply wpS_region
  simp [wpOpsS, go_sem, recoverD, hu, Tryz.ntmps68, Exit.thenS]
  refine wpS_of_wp ?_
  have hQ : ∀ a : Act, a.defers = [] → bodyPostS Tryz.prog Tryz.f68 c₀ cs (fun e u' w' => e = Ending.returned (Value.tuple #[]) ∧ u' = .returning ∧ w' = w) .ret a (c₀ :: cs) w := fun a hd => by
    refine ⟨hd, .returning, ?_, .tuple #[], ?_, rfl, rfl, rfl⟩
    · cases c₀; simp_all
    · exact results_none rfl _ _ _
  rw [show (#[Value.pointer (some ⟨cb, 0, none⟩)] ++ ((Array.replicate 15 undef).setIfInBounds 3 Value.nilIface).setIfInBounds 0 Value.nilIface) = #[.pointer (some ⟨cb, 0, none⟩), .nilIface, undef, undef, .nilIface, undef, undef, undef, undef, undef, undef, undef, undef, undef, undef, undef] from by kernel_rfl]
  go_wp2
  exact hQ _ rfl
set_option maxHeartbeats 2000000 in
theorem part_rule (w : World) (rb : Nat) (ln : Int) (t nd o : ByteArray) (rv : Value) (hrv : ∃ a n c, rv = .slice a n c) (R : Ending → World → Prop)
    (HR : Calls Tryz.prog 113 #[.pointer (some ⟨rb, 0, none⟩), .agg #[.int .i64 1, .int .i64 ln, .string ⟨#[]⟩, .string ⟨#[]⟩, .string ⟨#[]⟩, .bool false, .bool false, .string t, .string nd, .string o, rv]] (w.alloc (.cells #[.int .i64 1, .int .i64 ln, .string ⟨#[]⟩, .string ⟨#[]⟩, .string ⟨#[]⟩, .bool false, .bool false, .string t, .string nd, .string o, rv] 170)) fun e w' => e = .returned (.tuple #[]) ∧ R e w') :
    Calls Tryz.prog 69 #[.pointer (some ⟨rb, 0, none⟩), .agg #[.int .i64 1, .int .i64 ln, .string ⟨#[]⟩, .string ⟨#[]⟩, .string ⟨#[]⟩, .bool false, .bool false, .string t, .string nd, .string o, rv]] w fun e w' => e = .returned (.tuple #[]) ∧ R e w' := by
  obtain ⟨a, n, c, rfl⟩ := hrv
  have HR := Lib.hid HR
  go_enter Tryz.func69, Tryz.ntmps69
  go_wp2_with fail
  refine HR.out.mono ?_
  rintro e w1 ⟨rfl, h1⟩
  have H1 := Lib.hid h1
  clear h1 HR
  go_wp2_with fail
  go_end0
  exact ⟨rfl, H1.out⟩
/-- A part's cells in a row. -/
def PAt (w : World) (g : Nat) (pc : Array Value) : Prop := g < w.heap.size ∧ ∀ j u, pc[j]? = some u → w.cell? ⟨g, j, none⟩ = some u
theorem PAt.below {w w' : World} {g : Nat} {pc : Array Value} (h : PAt w g pc) (hB : Below w.heap.size w w') : PAt w' g pc := ⟨Nat.lt_of_lt_of_le h.1 hB.size, fun j u hu => (hB.cell (p := ⟨g, j, none⟩) h.1).trans (h.2 j u hu)⟩
set_option maxHeartbeats 4000000 in
theorem all_one (w : World) (rb g c : Nat) (k ln : Int) (s2 s3 s4 : ByteArray) (q5 q6 : Bool) (t nd o : ByteArray) (ra : Option Addr) (rn rc : Nat) (hP : PAt w g #[.int .i64 k, .int .i64 ln, .string s2, .string s3, .string s4, .bool q5, .bool q6, .string t, .string nd, .string o, .slice ra rn rc]) (Y : List Nat) (hY : ∀ i ∈ Y, i < w.heap.size) (P : World → Prop) (hPe : ∀ W b i v, (∃ cs, W.heap[b]? = some (.cells cs ErrT (0, 0))) → P W → P (W.setCell ⟨b, i, none⟩ v))
    (HR : ∀ W, Below w.heap.size w W → Calls Tryz.prog 69 #[.pointer (some ⟨rb, 0, none⟩), .agg #[.int .i64 k, .int .i64 ln, .string s2, .string s3, .string s4, .bool q5, .bool q6, .string t, .string nd, .string o, .slice ra rn rc]] W fun e w' => e = .returned (.tuple #[]) ∧ Kept Y W w' ∧ P w') :
    Calls Tryz.prog 38 #[.pointer (some ⟨rb, 0, none⟩), .slice (some ⟨g, 0, none⟩) 1 c] w fun e w' => e = .returned (.tuple #[.int .i64 0, .int .i64 0]) ∧ Kept Y w w' ∧ P w' := by
  have hmf : ∀ (fn : Fn) (first cap : Array Value) (w : World), (Instr.makeFunc fn first cap).run Tryz.prog w = .ok (.func fn first cap) w := fun _ _ _ _ => rfl
  have HR := Lib.hid HR
  have HPE := Lib.hid hPe
  have HP := Lib.hid hP
  have HY := Lib.hid hY
  have hB0 := (Below.refl w.heap.size w).alloc (Nat.le_refl _) (.cells #[.int .i64 0] ErrT)
  have hP0 := hP.below hB0
  have hc0 := heap_last w (.cells #[.int .i64 0] ErrT)
  have hs0 : (w.alloc (.cells #[.int .i64 0] ErrT)).heap.size = w.heap.size + 1 := by simp
  have HB0 := Lib.hid hB0
  have HC0 := Lib.hid hc0
  have z0 := hP0.2 0 _ rfl
  have z1 := hP0.2 1 _ rfl
  have z2 := hP0.2 2 _ rfl
  have z3 := hP0.2 3 _ rfl
  have z4 := hP0.2 4 _ rfl
  have z5 := hP0.2 5 _ rfl
  have z6 := hP0.2 6 _ rfl
  have z7 := hP0.2 7 _ rfl
  have z8 := hP0.2 8 _ rfl
  have z9 := hP0.2 9 _ rfl
  have z10 := hP0.2 10 _ rfl
  have hg := hP0.1
  clear hP hP0 hB0 hc0 hY hPe
  go_enter_defers Tryz.func38, Tryz.ntmps38
  go_wp2_with fail
  generalize w.alloc (.cells #[.int .i64 0] ErrT) = w0 at *
  refine wp_loop_rounds 2 ?_
  rw [rounds_succ]
  go_wp2_with fail
  have hs1 := HB0.out.size
  refine (HR.out _ (HB0.out.alloc hs1 _)).mono ?_
  rintro e w1 ⟨rfl, hk1, hp1⟩
  have hlc := (Array.getElem?_eq_some_iff.1 HC0.out).1
  have hc1 := (hk1.block w.heap.size (by simp; omega) (fun e => by have := HY.out _ e; omega)).trans (alloc_keep HC0.out _)
  have HK1 := Lib.hid (trans_new (Kept.of_below (X := Y) (HB0.out.alloc hs1 _)) hk1 (fun i hi => .inl hi))
  have HC1 := Lib.hid hc1
  have HP1 := Lib.hid hp1
  clear hk1 hc1 hp1 HR z0 z1 z2 z3 z4 z5 z6 z7 z8 z9 z10 hg
  go_wp2_with fail
  rw [rounds_succ]
  have k1 := cell_at (i := 0) HC1.out rfl
  have f1 := frozen_at HC1.out 0
  have l1 := (Array.getElem?_eq_some_iff.1 HC1.out).1
  have hc4 := heap_set (i := 0) HC1.out (.int .i64 0)
  have c4 : (w1.setCell ⟨w.heap.size, 0, none⟩ (.int .i64 0)).cell? ⟨w.heap.size, 0, none⟩ = some (.int .i64 0) := cell_at (i := 0) hc4 rfl
  have HK4 := Lib.hid ((Kept.refl [w.heap.size] w1).setCell (p := ⟨w.heap.size, 0, none⟩) (.inl (by simp)) (.int .i64 0))
  clear hc4
  go_wp2_with fail
  refine leaves_cons (f := 68) (args := #[.pointer (some ⟨w.heap.size, 0, none⟩)]) (by simp) (by simp [go_sem]) ?_
  refine (all_idle w.heap.size _).mono ?_
  rintro e u' w4 ⟨rfl, rfl, rfl⟩
  simp only [Leaves, settle]
  refine ⟨.tuple #[.int .i64 0, .int .i64 0], ?_, rfl, trans_new HK1.out HK4.out (by simp), HPE.out _ _ _ _ ⟨_, HC1.out⟩ HP1.out⟩
  simp [results, Tryz.results38, go_sem, c4]
end Go.Proofs.YtpliljcjjffipaaGreatDoor.Dq
