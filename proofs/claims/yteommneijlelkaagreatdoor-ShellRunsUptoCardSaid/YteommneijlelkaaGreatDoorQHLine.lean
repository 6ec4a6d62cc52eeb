/-
  (*run).line: the commands of a line, until one ends it.
-/
import Derived.Recover
import Derived.Great.Frames
import Derived.Test.YteommneijlelkaaGreatDoorQHCommand
import Derived.Test.YteommneijlelkaaGreatDoorQHOrder
namespace Go.Proofs.YteommneijlelkaaGreatDoor.Hx
open Go.RowKit Go.Proofs.YteommneijlelkaaGreatDoor Go.Maps Go.Proofs.YteommneijlelkaaGreatDoor.Sw
set_option maxRecDepth 100000

abbrev LT : TypeId := 121
theorem catch_idle (rx : Nat) (w : World) :
    CallsD Tryz.prog 49 #[.pointer (some ⟨rx, 0, none⟩)] .returning w fun e u' w' => e = .returned (.tuple #[]) ∧ u' = .returning ∧ w' = w := by
  have hq : ∀ w : World, (binOp .eql 20 .nilIface .nilIface).run Tryz.prog w = .ok (.bool true) w := fun w => by kernel_rfl
  refine callsD_of_wpS Tryz.func49 rfl fun c₀ cs hu => ?_
  apply wpS_seq
  apply wpS_region
  simp [wpOpsS, go_sem, recoverD, hu, Tryz.ntmps49, Exit.thenS]
  refine wpS_of_wp ?_
  have hQ : ∀ a : Act, a.defers = [] → bodyPostS Tryz.prog Tryz.f49 c₀ cs (fun e u' w' => e = Ending.returned (Value.tuple #[]) ∧ u' = .returning ∧ w' = w) .ret a (c₀ :: cs) w := fun a hd => by
    refine ⟨hd, .returning, ?_, .tuple #[], ?_, rfl, rfl, rfl⟩
    · cases c₀; simp_all
    · exact results_none rfl _ _ _
  rw [show (#[Value.pointer (some ⟨rx, 0, none⟩)] ++ ((Array.replicate 23 undef).setIfInBounds 3 Value.nilIface).setIfInBounds 0 Value.nilIface) = #[.pointer (some ⟨rx, 0, none⟩), .nilIface, undef, undef, .nilIface, undef, undef, undef, undef, undef, undef, undef, undef, undef, undef, undef, undef, undef, undef, undef, undef, undef, undef, undef] from by kernel_rfl]
  go_wp2
  exact hQ _ rfl
theorem catch_end (rx rb : Nat) (c : Int) (older : List PanicEntry) (w : World) (v1 v5 : Value) (h0 : w.cell? ⟨rx, 0, none⟩ = some (.pointer (some ⟨rb, 0, none⟩))) (_hne : rx ≠ rb) (h1 : w.cell? ⟨rb, 1, none⟩ = some v1) (h5 : w.cell? ⟨rb, 5, none⟩ = some v5) (f1 : w.frozen? ⟨rb, 1, none⟩ = false) (f5 : w.frozen? ⟨rb, 5, none⟩ = false) :
    CallsD Tryz.prog 49 #[.pointer (some ⟨rx, 0, none⟩)] (.panicking ({ v := .iface LT (.int .i64 c), recovered := false } :: older)) w fun e u' w' => e = .returned (.tuple #[]) ∧
      u' = .panicking ({ v := .iface LT (.int .i64 c), recovered := true } :: older) ∧ w' = (w.setCell ⟨rb, 1, none⟩ (.int .i64 1)).setCell ⟨rb, 5, none⟩ (.int .i64 c) := by
  have hq : ∀ w : World, (binOp .eql 20 (.iface LT (.int .i64 c)) .nilIface).run Tryz.prog w = .ok (.bool false) w := fun w => by kernel_rfl
  have ha : ∀ w : World, (Instr.typeAssert (.iface LT (.int .i64 c)) 20 LT true).run Tryz.prog w = .ok (.tuple #[.int .i64 c, .bool true]) w := fun w => by kernel_rfl
  have hlt : rb < w.heap.size := by have := World.block_lt_of_cell? _ _ h1; simpa using this
  have hlx : rx < w.heap.size := by have := World.block_lt_of_cell? _ _ h0; simpa using this
  refine callsD_of_wpS Tryz.func49 rfl fun c₀ cs hu => ?_
  apply wpS_seq
  apply wpS_region
  simp [wpOpsS, go_sem, recoverD, hu, Tryz.ntmps49, Exit.thenS]
  refine wpS_of_wp ?_
  have hQ : ∀ a : Act, a.defers = [] → bodyPostS Tryz.prog Tryz.f49 c₀ cs (fun e u' w' => e = Ending.returned (Value.tuple #[]) ∧ u' = .panicking ({ v := .iface LT (.int .i64 c), recovered := true } :: older) ∧ w' = (w.setCell ⟨rb, 1, none⟩ (.int .i64 1)).setCell ⟨rb, 5, none⟩ (.int .i64 c)) .normal a
      ({ c₀ with mode := .panicking ({ v := .iface LT (.int .i64 c), recovered := true } :: older) } :: cs) ((w.setCell ⟨rb, 1, none⟩ (.int .i64 1)).setCell ⟨rb, 5, none⟩ (.int .i64 c)) := fun a hd =>
    ⟨hd, _, rfl, .tuple #[], results_none rfl _ _ _, rfl, rfl, rfl⟩
  rw [show (#[Value.pointer (some ⟨rx, 0, none⟩)] ++ ((Array.replicate 23 undef).setIfInBounds 3 (Value.iface LT (.int .i64 c))).setIfInBounds 0 (Value.iface LT (.int .i64 c))) = #[.pointer (some ⟨rx, 0, none⟩), .iface LT (.int .i64 c), undef, undef, .iface LT (.int .i64 c), undef, undef, undef, undef, undef, undef, undef, undef, undef, undef, undef, undef, undef, undef, undef, undef, undef, undef, undef] from by kernel_rfl]
  go_wp2
  exact hQ _ rfl

theorem run_name {w : World} {o : Oper} {a : Act} (m x : Operand) (hop : o.op = Op.lookup MT m x false) {b : Nat} {p : ByteArray} (hm : a.eval m = .map (some b)) (hx : a.eval x = .string p)
    (hM : NamesAt w b) (hp : p.size ≤ maxLen) : (execOp a.eval o).run Tryz.prog w = .ok (.value (valOf (bs p))) w := by
  obtain ⟨v, ps, hrun, hv⟩ := hM.lookup key Tryz.underlying123 (zeroFn w) (zd := .lit (.bool false)) (zp := []) rfl (key_of hp)
  rw [(names_at (bs p) (.lit (.bool false))).1] at hv
  have e : v = valOf (bs p) := by
    unfold valOf
    cases hn : Hp.nameA (bs p) with
    | none => rw [hn] at hv; exact cElem_inv_nil hv
    | some n => rw [hn] at hv; exact cElem_inv_fn hv
  subst e
  simp [execOp, hop, hm, hx, hrun, Result.andThen]

/-! ### a function that defers: what stands in its frame's slots does not matter where it returns nothing -/
theorem leaves_any {P : Program} {fn : Func} {R : Ending → World → Prop} (hr : fn.results = #[]) (t t' : Array Value) : ∀ (ds : List Deferred) (u : FrameMode) (w : World), Leaves P fn t R ds u w → Leaves P fn t' R ds u w
  | [], .returning, w, h => by
    obtain ⟨v, h1, h2⟩ := h
    refine ⟨v, ?_, h2⟩
    rw [results_none hr t P w] at h1
    rw [results_none hr t' P w]
    exact h1
  | [], .panicking _, _, h => h
  | [], .run, _, h => h
  | d :: ds, u, w, h => by
    obtain ⟨h1, fv, cap, f, args, h2, h3, h4⟩ := h
    refine ⟨h1, fv, cap, f, args, h2, h3, h4.mono ?_⟩
    intro e u' w' h5
    cases e with
    | returned v => exact leaves_any hr t t' ds _ _ h5
    | panicked chain => exact leaves_any hr t t' ds _ _ h5
    | outgrown => exact h5
theorem postD_any {P : Program} {fn : Func} {R : Ending → World → Prop} (hr : fn.results = #[]) (c : List PanicEntry) (a : Act) (d : Option Tmp) (v : Value) (w : World) (h : bodyPostD P fn R (.panic c) (a.put d v) w) : bodyPostD P fn R (.panic c) a w := by
  have h2 : Leaves P fn (a.put d v).tmps R (a.put d v).defers (.panicking c) w := h
  rw [Act.defers_put'] at h2
  exact leaves_any hr _ a.tmps _ _ _ h2

section
variable {rb sb bm : Nat}
/-- What a line leaves. -/
def LinePost (w : World) (rb sb bm : Nat) (r : Hp.R) (e : Ending) (w' : World) : Prop :=
  e = .returned (.tuple #[]) ∧ Kept [rb, sb, bm] w w' ∧ StoreAt w' sb bm r.s.L r.s.c ∧ ∃ (i o : Bs) (pv bv : Value) (B : Nat), rb < B ∧ sb < B ∧ bm < B ∧ w.heap.size ≤ B ∧ B ≤ w'.heap.size ∧
    w'.heap[rb]? = some (.cells #[.pointer (some ⟨sb, 0, none⟩), .int .i64 r.status, .string ⟨#[]⟩, .int .i64 r.ran, .string (str r.d), .int .i64 r.code, pv, bv, .string (str i), .string (str o)] RT (0, 0)) ∧
    (pv = .pointer none ∨ pv = .pointer (some ⟨rb, 6, none⟩)) ∧ w'.ownsRow B U8 1 bv r.out.length (Lib.byteCells r.out)
theorem KeptB.to_kept' {w w2 w3 : World} {B : Nat} {X : List Nat} (h : KeptB B X w2 w3) (h0 : Kept X w w2) (hB : w.heap.size ≤ B) : Kept X w w3 :=
  ⟨h.os.trans h0.os, h.tape.trans h0.tape, h.output.trans h0.output, Nat.le_trans h0.size h.size, fun i hi hx => (h.block i (by omega) hx).trans (h0.block i hi hx)⟩
theorem Told.turn {w w' : World} {B : Nat} {k k' : Hp.K} {st ran st' ran' : Int} {out : Bs} {pv bv : Value} (h : Told w rb sb bm B k st ran out pv bv) (hR : RunAt w' rb sb bm k' st' ran' pv bv) (hK : Kept [rb, sb, bm] w w') : Told w' rb sb bm B k' st' ran' out pv bv := by
  refine ⟨hR, h.used, ⟨h.own.1, ?_⟩, h.lr, h.ls, h.lm, Nat.le_trans h.room hK.size⟩
  rcases h.own.2 with h1 | ⟨g, cap, cur, rfl, h2, h3, h4⟩
  · exact .inl h1
  · refine .inr ⟨g, cap, cur, rfl, h2, (hK.block g (Array.getElem?_eq_some_iff.1 h3).1 ?_).trans h3, h4⟩
    have := h.lr; have := h.ls; have := h.lm
    simp; omega
/-- The line's end, where nothing has ended it. -/
theorem line_done {w w1 w2 : World} {B : Nat} {r : Hp.R} {i o : Bs} {pv bv : Value} (h0 : r.code = 0) (hT : Told w2 rb sb bm B ⟨r.s, r.d, 0, i, o⟩ r.status r.ran r.out pv bv) (hB : Below w.heap.size w w1) (hB2 : w.heap.size ≤ B) (hK : KeptB B [rb, sb, bm] w1 w2) : LinePost w rb sb bm r (.returned (.tuple #[])) w2 :=
  ⟨rfl, hK.to_kept' (.of_below hB) hB2, hT.run.store, i, o, pv, bv, B, hT.lr, hT.ls, hT.lm, hB2, hT.room, by rw [h0]; exact hT.run.box, hT.used, hT.own⟩
/-- The line's end, where a panic has ended it. -/
theorem line_end {w w1 w2 : World} {B : Nat} {r : Hp.R} {i o : Bs} {pv bv : Value} {st ran : Int} (hs : r.status = 1) (hr : ran = r.ran) (hT : Told w2 rb sb bm B ⟨r.s, r.d, r.code, i, o⟩ st ran r.out pv bv) (hB : Below w.heap.size w w1) (hB2 : w.heap.size ≤ B) (hK : KeptB B [rb, sb, bm] w1 w2) :
    LinePost w rb sb bm r (.returned (.tuple #[])) ((w2.setCell ⟨rb, 1, none⟩ (.int .i64 1)).setCell ⟨rb, 5, none⟩ (.int .i64 r.code)) := by
  subst hr
  have hb := hT.run.box
  have h1 := heap_set3 (heap_set3 (i := 1) hb (.int .i64 1)) (i := 5) (.int .i64 r.code)
  refine ⟨rfl, kept_set (kept_set (hK.to_kept' (.of_below hB) hB2) (by simp) _) (by simp) _, store_set (store_set hT.run.store hT.run.n1 hT.run.n2 _) hT.run.n1 hT.run.n2 _, i, o, pv, bv, B, hT.lr, hT.ls, hT.lm, hB2, by simpa [World.setCell] using hT.room, by rw [h1, hs]; rfl, hT.used, ?_⟩
  have hne : bv.ownBlock ≠ some rb := hT.bat.not_own
  have k1 : w2.grownBy (w2.setCell ⟨rb, 1, none⟩ (.int .i64 1)) (some rb) := ⟨rfl, rfl, rfl, by simp [World.setCell], fun j _ hj => Below.heap_setCell _ _ _ _ (fun e => hj (by simp [e]))⟩
  have k2 : (w2.setCell ⟨rb, 1, none⟩ (.int .i64 1)).grownBy ((w2.setCell ⟨rb, 1, none⟩ (.int .i64 1)).setCell ⟨rb, 5, none⟩ (.int .i64 r.code)) (some rb) := ⟨rfl, rfl, rfl, by simp [World.setCell], fun j _ hj => Below.heap_setCell _ _ _ _ (fun e => hj (by simp [e]))⟩
  exact (hT.own.kept k1 (.inr hne)).kept k2 (.inr hne)

/-- Where a line is. -/
def LnRel (w1 : World) (rb sb bm B : Nat) (r0 : Hp.R) (X : List Px.CV) (most : Int) (v13 : Value) (wr : World) : Prop :=
  ∃ (n m : Nat) (r : Hp.R) (i o : Bs) (pv bv : Value), n ≤ X.length ∧ v13 = .int .i64 n ∧ r.code = 0 ∧ Told wr rb sb bm B ⟨r.s, r.d, 0, i, o⟩ r.status r.ran r.out pv bv ∧ Hp.Going r m ∧ 2 * (m + Hp.wL ((X.drop n).map (·.c))) + 3 ≤ 100000 ∧ r.ran ≤ n ∧
    Hp.runA r0 (X.map (·.c)) most = Hp.runA r ((X.drop n).map (·.c)) most ∧ KeptB B [rb, sb, bm] w1 wr
theorem run_nil {r : Hp.R} {most : Int} (h : r.code = 0) : Hp.runA r [] most = r := by unfold Hp.runA; simp [h]
theorem run_skip {r : Hp.R} {c : Pp.C} {l : List Pp.C} {most : Int} (h : r.code = 0) (hs : (c.on = 2 ∧ r.status ≠ 0) ∨ (c.on = 3 ∧ r.status = 0)) : Hp.runA r (c :: l) most = Hp.runA r l most := by
  conv => lhs; unfold Hp.runA
  rw [if_neg (by simp [h]), if_pos hs]
theorem run_stop {r : Hp.R} {c : Pp.C} {l : List Pp.C} {most : Int} (h : r.code = 0) (hs : ¬ ((c.on = 2 ∧ r.status ≠ 0) ∨ (c.on = 3 ∧ r.status = 0))) (hm : (r.ran : Int) = most) : Hp.runA r (c :: l) most = ⟨r.s, r.d, 11, r.out, 1, r.ran⟩ := by
  conv => lhs; unfold Hp.runA
  rw [if_neg (by simp [h]), if_neg hs, if_pos hm]
theorem run_go {r : Hp.R} {c : Pp.C} {l : List Pp.C} {most : Int} (h : r.code = 0) (hs : ¬ ((c.on = 2 ∧ r.status ≠ 0) ∨ (c.on = 3 ∧ r.status = 0))) (hm : (r.ran : Int) ≠ most) : Hp.runA r (c :: l) most = Hp.runA (Hp.stepR r c) l most := by
  conv => lhs; unfold Hp.runA
  rw [if_neg (by simp [h]), if_neg hs, if_neg hm]
theorem run_end {r : Hp.R} {l : List Pp.C} {most : Int} (h : r.code ≠ 0) : Hp.runA r l most = ⟨r.s, r.d, r.code, r.out, 1, r.ran⟩ := by
  cases l <;> (conv => lhs; unfold Hp.runA) <;> rw [if_pos h]
set_option maxHeartbeats 4000000 in
theorem line_any (w : World) (s : St) (d i0 o0 : Bs) (m : Nat) (v : Value) (X : List Px.CV) (most : Int) (hR : RunAt w rb sb bm ⟨s, d, 0, i0, o0⟩ 0 0 (.pointer none) (.slice none 0 0)) (hF : Fine s) (hC : Closed s.L) (hd : d.length ≤ m) (hX : Px.Cs w (Old rb sb bm) v X) (hne : ∀ x ∈ X, x.c.ws ≠ [])
    (hm : 2 * (m + Hp.wL (X.map (·.c))) + 3 ≤ 100000) (hl : X.length ≤ 100000) :
    Calls Tryz.prog 26 #[.pointer (some ⟨rb, 0, none⟩), v, .int .i64 most] w (LinePost w rb sb bm (Hp.lineA s d (X.map (·.c)) most)) := by
  obtain ⟨a, c, rfl, hc⟩ := hX.1.shape
  have hmf : ∀ (fn : Fn) (first cap : Array Value) (w : World), (Instr.makeFunc fn first cap).run Tryz.prog w = .ok (.func fn first cap) w := fun _ _ _ _ => rfl
  have hlt := hR.lt
  have hsb := hR.store.lt
  have hbm := hR.store.map.lt
  have hB0 := (Below.refl w.heap.size w).alloc (Nat.le_refl _) (.cells #[.pointer (some ⟨rb, 0, none⟩)] 82)
  have hz := heap_new w (.cells #[.pointer (some ⟨rb, 0, none⟩)] 82) rfl
  have hn1 : w.heap.size < (w.alloc (.cells #[.pointer (some ⟨rb, 0, none⟩)] 82)).heap.size := by simp
  have hR0 := hR.below hB0
  have hX0 := hX.keep (kept_old (.of_below (X := []) hB0) (by simp) hlt)
  have HX := Lib.hid hX0
  have HNE := Lib.hid hne
  have hG0 : Hp.Going ⟨s, d, 0, [], 0, 0⟩ m := ⟨hF, hC, hd, by simp, fun _ => by simp⟩
  clear hX hX0 hne
  go_enter_defers Tryz.func26, Tryz.ntmps26
  go_wp2_with fail
  generalize w.alloc (.cells #[.pointer (some ⟨rb, 0, none⟩)] 82) = w0 at *
  refine (commands_any w0).mono ?_
  rintro e w1 ⟨nb, rfl, hnb, hN, B1⟩
  have hz1 := (B1.block w.heap.size hn1).trans hz
  have hR1 := hR0.below B1
  have hBB := hB0.trans (B1.mono hB0.size)
  go_wp2_with fail
  go_loopw [13] (fun v13 wr => LnRel w1 rb sb bm w1.heap.size ⟨s, d, 0, [], 0, 0⟩ X most v13 wr) (fun i _ => X.length - (intOf i).toNat)
  case atStart =>
    exact ⟨0, m, _, i0, o0, _, _, Nat.zero_le _, rfl, rfl, ⟨hR1, .inl rfl, World.ownsRow_nil _ _ _ _, hR1.lt, hR1.store.lt, hR1.store.map.lt, Nat.le_refl _⟩, hG0, hm, Nat.le_refl _, rfl, .refl⟩
  case round =>
    obtain ⟨n, m', r, i, o, pv, bv, hn, rfl, h0, hT, hG, hm', hrn, he, hK⟩ := hrel
    have hXr := (HX.out.keep (kept_old (.of_below (X := []) B1) (by simp) hR0.lt)).keep (hK.old hT.lr)
    have hw0 : w.heap.size < w1.heap.size := (Array.getElem?_eq_some_iff.1 hz1).1
    have hwx : w.heap.size ∉ [rb, sb, bm] := by simp; omega
    have hzr := (hK.block w.heap.size hw0 hwx).trans hz1
    have zx : wr.cell? ⟨w.heap.size, 0, none⟩ = some (.pointer (some ⟨rb, 0, none⟩)) := cell_at hzr rfl
    have hlx : w.heap.size < wr.heap.size := (Array.getElem?_eq_some_iff.1 hzr).1
    have hnr : NamesAt wr nb := hN.block (hK.block nb hN.lt (by have := hB0.size; simp; omega))
    have hltr := hT.run.lt
    obtain ⟨c0, c1, c3, c4, c8, c9⟩ := hT.run.cells
    by_cases hlt2 : n < X.length
    · obtain ⟨b, oo, rfl, hcp, hp, hx⟩ := hXr.cells (by omega)
      obtain ⟨x0, x1, x2⟩ := hx n hlt2
      have hin := hXr.2 _ (List.getElem_mem hlt2)
      have hws := HNE.out _ (List.getElem_mem hlt2)
      have hdr : (X.drop n).map (·.c) = X[n].c :: (X.drop (n + 1)).map (·.c) := by rw [List.drop_eq_getElem_cons hlt2]; rfl
      obtain ⟨⟨cc, vw, vt⟩, hy⟩ : ∃ y, X[n] = y := ⟨_, rfl⟩
      rw [hy] at x0 x1 x2 hin hws hdr
      dsimp only at x0 x1 x2 hws hdr
      rw [hdr] at he hm'
      rw [Hp.wL_cons] at hm'
      obtain ⟨aw, cw, hvw, hcw⟩ := hin.1.shape
      obtain ⟨at_, ct, hvt, hct⟩ := hin.2.shape
      dsimp only at hvw hvt hcw hct
      subst hvw hvt
      by_cases hsk : (cc.on = 2 ∧ r.status ≠ 0) ∨ (cc.on = 3 ∧ r.status = 0)
      · rw [run_skip h0 hsk] at he
        have HE := Lib.hid he
        have HK := Lib.hid hK
        have HT := Lib.hid hT
        have hsb2 : true = (((cc.on : Int) == 2 && (r.status : Int) != 0) || ((cc.on : Int) == 3 && (r.status : Int) == 0)) := by
          rcases hsk with ⟨e1, e2⟩ | ⟨e1, e2⟩
          · rw [e1]; simp [e2]
          · rw [e1, e2]; simp
        have HS := Lib.hid fun (W : World) (h : RunAt W rb sb bm ⟨r.s, r.d, 0, i, o⟩ r.status r.ran pv bv) => skips_any W cc.on true h hsb2
        clear hx hy hdr he hK hp hXr hsk hsb2 hin hT
        go_wp2_with (go_at_call 51; refine (HS.out _ (HT.out.run.alloc _)).mono ?_; rintro e w2 ⟨rfl, rfl⟩)
        go_roundw
        case rel => exact ⟨n + 1, m', r, i, o, pv, bv, hlt2, by go_num, h0, HT.out.below ((Below.refl _ _).alloc (Nat.le_refl _) _), hG, by omega, by omega, HE.out, HK.out.trans (.of_kept (Kept.of_below (X := []) ((Below.refl _ _).alloc (Nat.le_refl _) _)) HT.out.room (by simp))⟩
        case measure => simp [intOf]; omega
      · have hsb2 : false = (((cc.on : Int) == 2 && (r.status : Int) != 0) || ((cc.on : Int) == 3 && (r.status : Int) == 0)) := by
          symm
          rw [Bool.eq_false_iff]
          intro e
          apply hsk
          simp at e
          rcases e with ⟨e1, e2⟩ | ⟨e1, e2⟩
          · exact .inl ⟨by omega, e2⟩
          · exact .inr ⟨by omega, e2⟩
        have HS := Lib.hid fun (W : World) (h : RunAt W rb sb bm ⟨r.s, r.d, 0, i, o⟩ r.status r.ran pv bv) => skips_any W cc.on false h hsb2
        by_cases hmo : (r.ran : Int) = most
        · rw [run_stop h0 hsk hmo] at he
          have HE := Lib.hid he
          have HK := Lib.hid hK
          have HT := Lib.hid hT
          have qm : ((r.ran : Int) == most) = true := by rw [beq_iff_eq]; exact hmo
          clear hx hy hdr he hK hp hXr hsk hsb2 hin hT
          go_wp2_with (go_at_call 51; refine (HS.out _ (HT.out.run.alloc _)).mono ?_; rintro e w2 ⟨rfl, rfl⟩)
          refine leaves_cons (f := 49) (args := #[.pointer (some ⟨w.heap.size, 0, none⟩)]) (by simp) (by simp [go_sem]) ?_
          have hT2 := HT.out.below ((Below.refl _ _).alloc (Nat.le_refl _) (.cells #[.int .i64 cc.on, .slice aw cc.ws.length cw, .slice at_ cc.to.length ct] Px.C1))
          have hK2 := HK.out.trans (.of_kept (Kept.of_below (X := []) ((Below.refl _ _).alloc (Nat.le_refl _) (.cells #[.int .i64 cc.on, .slice aw cc.ws.length cw, .slice at_ cc.to.length ct] Px.C1))) HT.out.room (by simp))
          refine (catch_end w.heap.size rb 11 [] _ _ _ ((((Below.refl wr.heap.size wr).alloc (Nat.le_refl _) _).cell (p := ⟨w.heap.size, 0, none⟩) hlx).trans zx) (by omega) (cell_at hT2.run.box (i := 1) rfl) (cell_at hT2.run.box (i := 5) rfl) (hT2.run.frozen 1) (hT2.run.frozen 5)).mono ?_
          rintro e u' w'' ⟨rfl, rfl, rfl⟩
          have hL := line_end (r := ⟨r.s, r.d, 11, r.out, 1, r.ran⟩) (w := w) (w1 := w1) rfl rfl ⟨⟨hT2.run.box, hT2.run.store, hT2.run.n1, hT2.run.n2⟩, hT2.used, hT2.own, hT2.lr, hT2.ls, hT2.lm, hT2.room⟩ hBB hBB.size hK2
          simp only [settle]
          refine ⟨.tuple #[], results_none rfl _ _ _, ?_⟩
          unfold Hp.lineA
          rw [HE.out]
          exact hL
        · rw [run_go h0 hsk hmo] at he
          have HE := Lib.hid he
          have qm : ((r.ran : Int) == most) = false := by rw [beq_eq_false_iff_ne]; exact hmo
          obtain ⟨x, ws, hcws⟩ : ∃ x ws, cc.ws = x :: ws := by
            cases h : cc.ws with
            | nil => exact absurd h hws
            | cons x ws => exact ⟨x, ws, rfl⟩
          have f3 := hT.run.frozen 3
          have hk4 : Kept [rb, sb, bm] wr ((wr.setCell ⟨rb, 3, none⟩ (.int .i64 ((r.ran : Int) + 1))).alloc (.cells #[.int .i64 cc.on, .slice aw cc.ws.length cw, .slice at_ cc.to.length ct] Px.C1)) := (kept_set (.refl _ _) (by simp) _).alloc _
          have hR4 := (hT.run.set3 ((r.ran : Int) + 1)).alloc (.cells #[.int .i64 cc.on, .slice aw cc.ws.length cw, .slice at_ cc.to.length ct] Px.C1)
          have hT4 := hT.turn hR4 hk4
          have hz4 := heap_new (wr.setCell ⟨rb, 3, none⟩ (.int .i64 ((r.ran : Int) + 1))) (.cells #[.int .i64 cc.on, .slice aw cc.ws.length cw, .slice at_ cc.to.length ct] Px.C1) (n := wr.heap.size) (by simp [World.setCell])
          have hW4 : Ws _ rb sb bm (.slice aw cc.ws.length cw) cc.ws := Px.Rg.keep hin.1 (kept_old hk4 (by simp) hltr)
          have hin4 : Px.In _ (Old rb sb bm) ⟨cc, .slice aw cc.ws.length cw, .slice at_ cc.to.length ct⟩ := ⟨hW4, Px.Rg.keep hin.2 (kept_old hk4 (by simp) hltr)⟩
          have hpos : 0 < cc.ws.length := by rw [hcws]; simp
          obtain ⟨b2, o2, rfl, _, hb2, hw4⟩ := Ws.cell hW4 hpos
          have y3 := hw4 0 hpos
          have e0 : cc.ws[0]'hpos = x := by simp [hcws]
          rw [e0, Nat.add_zero] at y3
          have hzx4 := (hk4.block w.heap.size hlx hwx).trans hzr
          have zx4 := cell_at hzx4 (i := 0) rfl
          have y0 := cell_at hz4 (i := 0) rfl
          have y1 := cell_at hz4 (i := 1) rfl
          have y2 := cell_at hz4 (i := 2) rfl
          have nm4 := hnr.block (hk4.block nb hnr.lt (by have := hB0.size; simp; omega))
          have hKB4 := hK.trans (.of_kept hk4 hT.room (by simp))
          have hout := hG.small h0
          have hxl : x.length + 2 ≤ Hp.wC cc := by
            have e1 : Hp.wtL (x :: ws) = (x.length + 2) + Hp.wtL ws := rfl
            have e2 : Hp.wC cc = Hp.wtL cc.ws + Hp.gtL cc.to := rfl
            rw [hcws] at e2; omega
          have hsz4 := hk4.size
          have HCmd := Lib.hid fun (W : World) (hT : Told W rb sb bm w1.heap.size ⟨r.s, r.d, 0, i, o⟩ r.status ((r.ran : Int) + 1) r.out pv bv) (hI : Px.In W (Old rb sb bm) ⟨cc, .slice (some ⟨b2, o2, none⟩) cc.ws.length cw, .slice at_ cc.to.length ct⟩) => command_any W r.s r.d i o r.out m' _ _ cc x ws hcws hT hG.fine hG.closed hG.dir hI hout (by omega)
          have HWh := Lib.hid (Hp.whole_ok (code := 0) hG.fine hG.closed hG.dir hout cc (by omega))
          have HT := Lib.hid hT
          have HT4 := Lib.hid hT4
          have HK4 := Lib.hid hKB4
          have HI4 := Lib.hid hin4
          have hxs : x.length ≤ 100000 := by omega
          have hrc : (r.ran : Int) + 1 ≤ 200000 := by omega
          have hxm : (str x).size ≤ maxLen := by rw [← bs_len, bs_str]; exact Nat.le_trans hxs (by decide)
          obtain ⟨⟨k5, out5, n5⟩, hq5⟩ : ∃ q, Hp.wholeA r.s r.d 0 r.out cc = q := ⟨_, rfl⟩
          have hst : Hp.stepR r cc = ⟨k5.s, k5.d, k5.code, out5, n5, r.ran + 1⟩ := by
            unfold Hp.stepR
            rw [h0, hq5]
          rw [hst] at HE
          rw [hq5] at HCmd HWh
          clear hx hy hdr he hK hp hXr hsk hsb2 hin hT hT4 hz4 hW4 hin4 hw4 e0 hKB4 hq5 hst hR4 hk4 hcws hws
          go_wp2_with (go_at_call 51; refine (HS.out _ (HT.out.run.alloc _)).mono ?_; rintro e w2 ⟨rfl, rfl⟩)
          generalize (wr.setCell ⟨rb, 3, none⟩ (.int .i64 ((r.ran : Int) + 1))).alloc (.cells #[.int .i64 cc.on, .slice (some ⟨b2, o2, none⟩) cc.ws.length cw, .slice at_ cc.to.length ct] Px.C1) = w4 at *
          refine wp_region_D 9 (fun b W => W.cell? ⟨w.heap.size, 0, none⟩ = some (.pointer (some ⟨rb, 0, none⟩)) ∧ (b = false → W = w4.drew)) (by kernel_rfl) ?_
          have nm4d : NamesAt w4.drew nb := nm4
          have hT0 : w4.drew.cell? ⟨w.heap.size, 0, none⟩ = some (.pointer (some ⟨rb, 0, none⟩)) ∧ (false = false → w4.drew = w4.drew) := ⟨zx4, fun _ => rfl⟩
          refine wpAnyD_take (i := 0) (v := .pointer (some ⟨rb, 0, none⟩)) (by rfl) rfl (by kernel_rfl) (by kernel_rfl) (by kernel_rfl) (by rfl) (fun c a w h => postD_any rfl c a _ _ w h) (Or.inl ⟨by rfl, ?_⟩) hT0 ?_
          · rintro W ⟨b, hz, _⟩; go_simp
          simp only [Act.put, List.setIfInBounds_toArray]
          refine wpAnyD_pre (i := 1) [1, 9] (v := .pointer (some ⟨rb, 0, none⟩)) (by rfl) rfl (by rfl) (by kernel_rfl) (by kernel_rfl) (by kernel_rfl) (by kernel_rfl) (by kernel_rfl) (fun c a w h => postD_any rfl c a _ _ w h) (Or.inl ⟨by rfl, ?_⟩) hT0 ?_
          · rintro W ⟨_, hW⟩; obtain rfl := hW rfl; go_simp
          simp only [Act.put]
          refine wpAnyD_pre (i := 2) [2, 9] (v := .agg #[.int .i64 cc.on, .slice (some ⟨b2, o2, none⟩) cc.ws.length cw, .slice at_ cc.to.length ct]) (by rfl) rfl (by rfl) (by kernel_rfl) (by kernel_rfl) (by kernel_rfl) (by kernel_rfl) (by kernel_rfl) (fun c a w h => postD_any rfl c a _ _ w h) (Or.inl ⟨by rfl, ?_⟩) hT0 ?_
          · rintro W ⟨_, hW⟩; obtain rfl := hW rfl; go_simp
          simp only [Act.put]
          refine wpAnyD_pre (i := 3) [3, 8, 9] (v := .map (some nb)) (by rfl) rfl (by rfl) (by kernel_rfl) (by kernel_rfl) (by kernel_rfl) (by kernel_rfl) (by kernel_rfl) (fun c a w h => postD_any rfl c a _ _ w h) (Or.inl ⟨by rfl, ?_⟩) hT0 ?_
          · rintro W ⟨_, hW⟩; obtain rfl := hW rfl; go_simp
          simp only [Act.put]
          refine wpAnyD_pre (i := 4) [4, 5, 6, 7, 8, 9] (v := .pointer (some ⟨wr.heap.size, 1, none⟩)) (by rfl) rfl (by rfl) (by kernel_rfl) (by kernel_rfl) (by kernel_rfl) (by kernel_rfl) (by kernel_rfl) (fun c a w h => postD_any rfl c a _ _ w h) (Or.inl ⟨by rfl, ?_⟩) hT0 ?_
          · rintro W ⟨_, hW⟩; obtain rfl := hW rfl; go_simp
          simp only [Act.put]
          refine wpAnyD_pre (i := 5) [5, 6, 7, 8, 9] (v := .slice (some ⟨b2, o2, none⟩) cc.ws.length cw) (by rfl) rfl (by rfl) (by kernel_rfl) (by kernel_rfl) (by kernel_rfl) (by kernel_rfl) (by kernel_rfl) (fun c a w h => postD_any rfl c a _ _ w h) (Or.inl ⟨by rfl, ?_⟩) hT0 ?_
          · rintro W ⟨_, hW⟩; obtain rfl := hW rfl; go_simp
          simp only [Act.put]
          refine wpAnyD_pre (i := 6) [6, 7, 8, 9] (v := .pointer (some ⟨b2, o2, none⟩)) (by rfl) rfl (by rfl) (by kernel_rfl) (by kernel_rfl) (by kernel_rfl) (by kernel_rfl) (by kernel_rfl) (fun c a w h => postD_any rfl c a _ _ w h) (Or.inl ⟨by rfl, ?_⟩) hT0 ?_
          · rintro W ⟨_, hW⟩; obtain rfl := hW rfl; go_simp
          simp only [Act.put]
          refine wpAnyD_pre (i := 7) [7, 8, 9] (v := .string (str x)) (by rfl) rfl (by rfl) (by kernel_rfl) (by kernel_rfl) (by kernel_rfl) (by kernel_rfl) (by kernel_rfl) (fun c a w h => postD_any rfl c a _ _ w h) (Or.inl ⟨by rfl, ?_⟩) hT0 ?_
          · rintro W ⟨_, hW⟩; obtain rfl := hW rfl; go_simp
          simp only [Act.put]
          refine wpAnyD_pre (i := 8) [8, 9] (v := valOf (bs (str x))) (by rfl) rfl (by rfl) (by kernel_rfl) (by kernel_rfl) (by kernel_rfl) (by kernel_rfl) (by kernel_rfl) (fun c a w h => postD_any rfl c a _ _ w h) (Or.inl ⟨by rfl, ?_⟩) hT0 ?_
          · rintro W ⟨_, hW⟩; obtain rfl := hW rfl; refine run_name (b := nb) (p := str x) (.tmp 41) (.tmp 45) (by kernel_rfl) (by kernel_rfl) (by kernel_rfl) nm4d hxm
          simp only [Act.put]
          rw [bs_str]
          refine wpAnyD_one (i := 9) (by kernel_rfl) rfl true (by rfl) (fun K hK => ?_)
          go_simp
          refine (HCmd.out _ (HT4.out.below (Below.refl _ _).drew) ⟨Px.Rg.keep HI4.out.1 (fun _ _ => rfl), Px.Rg.keep HI4.out.2 (fun _ _ => rfl)⟩).mono ?_
          rintro e w5 ⟨he5, ⟨i5, o5, pv5, bv5, hT5⟩, hK5⟩
          dsimp only at he5 hT5
          have hz5 := (hK5.block w.heap.size hw0 hwx).trans hzx4
          have zx5 := cell_at hz5 (i := 0) rfl
          have f5 := hT5.run.frozen 1
          have hlt5 := hT5.run.lt
          have hKK : KeptB w1.heap.size [rb, sb, bm] w1 w5 := (HK4.out.trans (⟨rfl, rfl, rfl, Nat.le_refl _, fun _ _ _ => rfl⟩ : KeptB w1.heap.size [rb, sb, bm] w4 w4.drew)).trans hK5
          by_cases hcd : k5.code = 0
          · rw [if_pos hcd] at he5
            subst he5
            have c5 : w5.cell? ⟨rb, 1, none⟩ = some (.int .i64 r.status) := hT5.run.cells.2.1
            have zx6 := cell_at ((Below.heap_setCell w5 ⟨rb, 1, none⟩ (.int .i64 n5) w.heap.size (fun e => by have : w.heap.size = rb := e; omega)).trans hz5) (i := 0) rfl
            have hT6 := hT5.turn (hT5.run.set1 n5) (kept_set (X := [rb, sb, bm]) (b := rb) (i := 1) (.refl _ _) (by simp) _)
            have hK6 := hKK.trans (.of_kept (kept_set (X := [rb, sb, bm]) (b := rb) (i := 1) (.refl _ w5) (by simp) (.int .i64 n5)) hT5.room (by simp))
            have HT6 := Lib.hid hT6
            have HK6 := Lib.hid hK6
            have HK5 := Lib.hid hKK
            have HT5 := Lib.hid hT5
            clear hT6 hK6 hKK hT5 hK5
            dsimp only
            refine hK.out _ _ ⟨zx5, fun h => by cases h⟩ ?_
            clear hK K
            refine wpAnyD_one (i := 10) (by kernel_rfl) rfl true (by rfl) (fun K10 hK10 => ?_)
            go_simp
            refine hK10.out _ _ ⟨zx5, fun h => by cases h⟩ ?_
            clear hK10 K10
            refine wpAnyD_one (i := 11) (by kernel_rfl) rfl true (by rfl) (fun K11 hK11 => ?_)
            go_simp
            refine hK11.out _ _ ⟨zx5, fun h => by cases h⟩ ?_
            clear hK11 K11
            refine wpAnyD_one (i := 12) (by kernel_rfl) rfl true (by rfl) (fun K12 hK12 => ?_)
            go_simp
            refine hK12.out _ _ ⟨zx5, fun h => by cases h⟩ ?_
            clear hK12 K12
            refine wpAnyD_one (i := 13) (by kernel_rfl) rfl true (by rfl) (fun K13 hK13 => ?_)
            go_simp
            refine hK13.out _ _ ⟨zx6, fun h => by cases h⟩ ?_
            clear hK13 K13
            refine wpAnyD_done (by kernel_rfl) ?_ _
            go_wp2_with fail
            go_roundw
            case rel =>
              have hwcc : Hp.wC cc = Hp.wtL cc.ws + Hp.gtL cc.to := rfl
              obtain ⟨g1, g2, g3, g4⟩ := HWh.out
              refine ⟨n + 1, m' + Hp.wtL cc.ws, ⟨k5.s, k5.d, k5.code, out5, n5, r.ran + 1⟩, i5, o5, pv5, bv5, hlt2, by go_num, hcd, ?_, ⟨g1.fine, g1.closed, g1.dir, g3, g4⟩, by omega, by dsimp only; omega, HE.out, HK6.out⟩
              have hT := HT6.out
              exact ⟨⟨hT.run.box, hT.run.store, hT.run.n1, hT.run.n2⟩, hT.used, hT.own, hT.lr, hT.ls, hT.lm, hT.room⟩
            case measure => simp [intOf]; omega
          · rw [if_neg hcd] at he5
            subst he5
            unfold endE
            have HK5 := Lib.hid hKK
            have HT5 := Lib.hid hT5
            dsimp only
            clear hT5 hKK hK5 hK K
            refine leaves_cons (f := 49) (args := #[.pointer (some ⟨w.heap.size, 0, none⟩)]) (by simp) (by simp [go_sem]) ?_
            have hT := HT5.out
            refine (catch_end w.heap.size rb k5.code [] w5 _ _ zx5 (by omega) (cell_at hT.run.box (i := 1) rfl) (cell_at hT.run.box (i := 5) rfl) (hT.run.frozen 1) (hT.run.frozen 5)).mono ?_
            rintro e u' w'' ⟨rfl, rfl, rfl⟩
            have hL := line_end (r := ⟨k5.s, k5.d, k5.code, out5, 1, r.ran + 1⟩) (w := w) (w1 := w1) rfl rfl hT hBB hBB.size HK5.out
            simp only [settle]
            refine ⟨.tuple #[], results_none rfl _ _ _, ?_⟩
            unfold Hp.lineA
            rw [HE.out, run_end hcd]
            exact hL
    · obtain rfl : n = X.length := by omega
      rw [List.drop_length] at he
      have HE := Lib.hid he
      have HK := Lib.hid hK
      have HT := Lib.hid hT
      clear he hK hXr hT
      go_wp2_with fail
      refine leaves_cons (f := 49) (args := #[.pointer (some ⟨w.heap.size, 0, none⟩)]) (by simp) (by simp [go_sem]) ?_
      refine (catch_idle w.heap.size _).mono ?_
      rintro e u' w'' ⟨rfl, rfl, rfl⟩
      have hL := line_done h0 HT.out hBB hBB.size HK.out
      simp only [Leaves, settle]
      refine ⟨.tuple #[], results_none rfl _ _ _, ?_⟩
      unfold Hp.lineA
      rw [HE.out, List.map_nil, run_nil h0]
      exact hL
end
end Go.Proofs.YteommneijlelkaaGreatDoor.Hx
