/-
  (*reading).all of one part, by what part does.
  lines.Of; the cells of a line; lines compared.
  makefile.Of, at any text.
  Both tables in memory: the program's, whose blocks are of their own kinds, and the reference's, in its box.
  data.Read of a makefile of one part, by what is done with that part.
-/
import Derived.Test.YtgednccpjegbmaaGreatDoorQDQStart
import Derived.Recover
import Derived.Great.Frames
import Derived.Test.YtgednccpjegbmaaGreatDoorQMRec
import Derived.Laws.StructEq
import Derived.Deep.QuietTactic
import Derived.Test.YtgednccpjegbmaaGreatDoorQIEach
import Derived.Deep.RegionHeld3
import Derived.Test.YtgednccpjegbmaaGreatDoorQJPGet
import Derived.Test.YtgednccpjegbmaaGreatDoorQJMore
import Derived.Test.YtgednccpjegbmaaGreatDoorQJFresh
import Derived.Test.YtgednccpjegbmaaGreatDoorQSPut
namespace Go.Proofs.YtgednccpjegbmaaGreatDoor.Dq
open Go.RowKit Go.Proofs.YtgednccpjegbmaaGreatDoor Go.Maps Go.Proofs.YtgednccpjegbmaaGreatDoor.Ww Go.Proofs.YtgednccpjegbmaaGreatDoor.Tw Go.Proofs.YtgednccpjegbmaaGreatDoor.Kw Go.Proofs.YtgednccpjegbmaaGreatDoor.Jw Go.Proofs.YtgednccpjegbmaaGreatDoor.Xb Go.Proofs.YtgednccpjegbmaaGreatDoor.Xw Go.Proofs.YtgednccpjegbmaaGreatDoor.Dz
set_option maxRecDepth 100000

theorem all_idle (cb : Nat) (w : World) :
    CallsD Tryz.prog 46 #[.pointer (some ⟨cb, 0, none⟩)] .returning w fun e u' w' => e = .returned (.tuple #[]) ∧ u' = .returning ∧ w' = w := by
  have hq : ∀ w : World, (binOp .eql 20 .nilIface .nilIface).run Tryz.prog w = .ok (.bool true) w := fun w => by kernel_rfl
  refine callsD_of_wpS Tryz.func46 rfl fun c₀ cs hu => ?_
  apply wpS_seq
  apply wpS_region
  simp [wpOpsS, go_sem, recoverD, hu, Tryz.ntmps46, Exit.thenS]
  refine wpS_of_wp ?_
  have hQ : ∀ a : Act, a.defers = [] → bodyPostS Tryz.prog Tryz.f46 c₀ cs (fun e u' w' => e = Ending.returned (Value.tuple #[]) ∧ u' = .returning ∧ w' = w) .ret a (c₀ :: cs) w := fun a hd => by
    refine ⟨hd, .returning, ?_, .tuple #[], ?_, rfl, rfl, rfl⟩
    · cases c₀; simp_all
    · exact results_none rfl _ _ _
  rw [show (#[Value.pointer (some ⟨cb, 0, none⟩)] ++ ((Array.replicate 15 undef).setIfInBounds 3 Value.nilIface).setIfInBounds 0 Value.nilIface) = #[.pointer (some ⟨cb, 0, none⟩), .nilIface, undef, undef, .nilIface, undef, undef, undef, undef, undef, undef, undef, undef, undef, undef, undef] from by kernel_rfl]
  go_wp2
  exact hQ _ rfl
set_option maxHeartbeats 2000000 in
theorem part_rule (w : World) (rb : Nat) (ln : Int) (t nd o : ByteArray) (rv : Value) (hrv : ∃ a n c, rv = .slice a n c) (R : Ending → World → Prop)
    (HR : Calls Tryz.prog 82 #[.pointer (some ⟨rb, 0, none⟩), .agg #[.int .i64 1, .int .i64 ln, .string ⟨#[]⟩, .string ⟨#[]⟩, .string ⟨#[]⟩, .bool false, .bool false, .string t, .string nd, .string o, rv]] (w.alloc (.cells #[.int .i64 1, .int .i64 ln, .string ⟨#[]⟩, .string ⟨#[]⟩, .string ⟨#[]⟩, .bool false, .bool false, .string t, .string nd, .string o, rv] 130)) fun e w' => e = .returned (.tuple #[]) ∧ R e w') :
    Calls Tryz.prog 47 #[.pointer (some ⟨rb, 0, none⟩), .agg #[.int .i64 1, .int .i64 ln, .string ⟨#[]⟩, .string ⟨#[]⟩, .string ⟨#[]⟩, .bool false, .bool false, .string t, .string nd, .string o, rv]] w fun e w' => e = .returned (.tuple #[]) ∧ R e w' := by
  obtain ⟨a, n, c, rfl⟩ := hrv
  have HR := Lib.hid HR
  go_enter Tryz.func47, Tryz.ntmps47
  go_wp2_with fail
  refine HR.out.mono ?_
  rintro e w1 ⟨rfl, h1⟩
  have H1 := Lib.hid h1
  clear h1 HR
  go_wp2_with fail
  go_end0
  exact ⟨rfl, H1.out⟩
end Go.Proofs.YtgednccpjegbmaaGreatDoor.Dq
namespace Go.Proofs.YtgednccpjegbmaaGreatDoor.Iw
open Go.RowKit Go.Proofs.YtgednccpjegbmaaGreatDoor Go.Proofs.YtgednccpjegbmaaGreatDoor.Ww
set_option maxRecDepth 100000

set_option maxHeartbeats 1000000 in
theorem Of_any (w : World) (s : ByteArray) (hs : s.size ≤ 100000) :
    Calls Tryz.prog 41 #[.string s] w fun e w' => ∃ a c, e = .returned (.slice a (Ip.linesA (by8 s)).length c) ∧ w'.ownsRow (w.heap.size + 1) LT 3 (.slice a (Ip.linesA (by8 s)).length c) (Ip.linesA (by8 s)).length (linesC (Ip.linesA (by8 s))) ∧ Below w.heap.size w w' := by
  have HE := Lib.hid (each_any (w.alloc (.cells #[.slice none 0 0] LS)) w.heap.size s hs ⟨_, Boxed.new w LS _, World.ownsRow_nil _ _ _ _⟩)
  go_enter Tryz.func41, Tryz.ntmps41
  go_wp2_with fail
  refine HE.out.mono ?_
  rintro e w' ⟨rfl, ⟨v, hv, hr⟩, hB⟩
  have c0 := hv.cell
  obtain ⟨a, c, rfl⟩ := owns_slice hr
  go_wp2_with fail
  go_ret
  exact ⟨a, c, rfl, hr, Below.trans ((Below.refl _ _).alloc (Nat.le_refl _) _) hB⟩

theorem line_cells {w : World} {B : Nat} {T : TypeId} {a : Option Addr} {c : Nat} {l : List Ip.L} (h : w.ownsRow B T 3 (.slice a l.length c) l.length (linesC l)) {i : Nat} (hi : i < l.length) :
    ∃ g, a = some ⟨g, 0, none⟩ ∧ l.length ≤ c ∧ g < w.heap.size ∧ B ≤ g ∧ w.cell? ⟨g, i * 3, none⟩ = some (.int .i64 (l[i].n : Int)) ∧ w.cell? ⟨g, i * 3 + 1, none⟩ = some (.string (str l[i].t)) ∧ w.cell? ⟨g, i * 3 + 2, none⟩ = some (.bool l[i].q) := by
  have hcell : ∀ (l : List Ip.L) (i : Nat) (hi : i < l.length), (linesC l)[i * 3]? = some (.int .i64 (l[i].n : Int)) ∧ (linesC l)[i * 3 + 1]? = some (.string (str l[i].t)) ∧ (linesC l)[i * 3 + 2]? = some (.bool l[i].q) := by
    intro l
    induction l with
    | nil => intro i hi; simp at hi
    | cons x l ih =>
      intro i hi
      have e : linesC (x :: l) = lineC x ++ linesC l := rfl
      cases i with
      | zero => exact ⟨rfl, rfl, rfl⟩
      | succ i =>
        obtain ⟨h1, h2, h3⟩ := ih i (by simpa using hi)
        rw [e, show (i + 1) * 3 = (lineC x).length + i * 3 by show _ = 3 + i * 3; omega]
        rw [Nat.add_assoc, Nat.add_assoc, List.getElem?_append_right (by omega), List.getElem?_append_right (by omega), List.getElem?_append_right (by omega)]
        simp only [Nat.add_sub_cancel_left, List.getElem_cons_succ]
        exact ⟨h1, h2, h3⟩
  obtain ⟨h1, h2, h3⟩ := hcell l i hi
  obtain ⟨hl, hr⟩ := id h
  rcases hr with ⟨hn, h0⟩ | ⟨g, cap, cur, hv, hb, hg, hn, hc, hs, ht⟩
  · omega
  · cases hv
    have hk := h.cells (g := g) rfl
    have k1 := hk _ _ h1
    have k2 := hk _ _ h2
    have k3 := hk _ _ h3
    rw [Addr.add_lit, Nat.zero_add] at k1 k2 k3
    exact ⟨g, rfl, hn, (Array.getElem?_eq_some_iff.1 hg).1, hb, k1, k2, k3⟩

end Go.Proofs.YtgednccpjegbmaaGreatDoor.Iw
namespace Go.Proofs.YtgednccpjegbmaaGreatDoor.Mw
open Go.RowKit Go.Proofs.YtgednccpjegbmaaGreatDoor Go.Proofs.YtgednccpjegbmaaGreatDoor.Ww Go.Proofs.YtgednccpjegbmaaGreatDoor.Iw
set_option maxRecDepth 100000

abbrev FT : TypeId := 34
theorem Ps.mono {w : World} {lo lo' : Nat} {v : Value} {X : List PV} (h : Ps w lo v X) (hl : lo' ≤ lo) : Ps w lo' v X := ⟨own_mono h.row hl, fun x hx => own_mono (h.each x hx) hl, h.apart⟩
theorem sizeF : (Tryz.prog.info? FT).map (·.size) = some 3 := by kernel_rfl
theorem undF : Tryz.prog.underlying FT = some (.struct (Tryz.prog.fieldsOf FT)) := by kernel_rfl
theorem results_tc {P : Program} {fn : Func} {p q : Tmp} {ty : TypeId} (h : fn.results = #[.tmp q, .cell p ty]) (tmps : Array Value) (w : World) (g : Nat) (t : TypeId) (cs : Array Value) (fr : Nat × Nat) (d : TypeDesc) (r : Value)
    (hp : tmps.getD p undef = .pointer (some ⟨g, 0, none⟩)) (hq : tmps.getD q undef = r) (hg : w.heap[g]? = some (.cells cs t fr))
    (hu : P.underlying ty = some d) (hd : (match d with | .struct _ | .array _ _ => true | _ => false) = true) (hi : (P.info? ty).map (·.size) = some cs.size) :
    (results fn tmps).run P w = .ok (.tuple #[r, .agg cs]) w := by
  have hp' : tmps[p]?.getD undef = .pointer (some ⟨g, 0, none⟩) := by simpa using hp
  have hq' : tmps[q]?.getD undef = r := by simpa using hq
  simp [results, h, hp', hq', asAddr, run_loadVar_row w g t ty cs fr d hg hu hd hi, Result.andThen]
/-- What Of returns. -/
def OfPost (w : World) (at_ : ByteArray) (r : Except Nat (List Mp.P)) (e : Ending) (w' : World) : Prop :=
  (match r with
    | .error n => e = .returned (.tuple #[.slice none 0 0, .agg #[.int .i64 6, .string at_, .int .i64 (n : Int)]])
    | .ok L => ∃ X a c, X.map PV.p = L ∧ e = .returned (.tuple #[.slice a X.length c, .agg #[.int .i64 0, .string ⟨#[]⟩, .int .i64 0]]) ∧ Ps w' w.heap.size (.slice a X.length c) X) ∧ Below w.heap.size w w'
def OfRel (w1 : World) (L : List Ip.L) (v6 v14 : Value) (wr : World) : Prop :=
  ∃ (i : Nat) (X : List PV) (a : Option Addr) (c : Nat), v14 = .int .i64 i ∧ v6 = .slice a X.length c ∧ i ≤ L.length ∧ X.length ≤ i ∧ (∀ p ∈ X.map PV.p, p.recipe.length ≤ i) ∧ Ps wr w1.heap.size (.slice a X.length c) X ∧ Below w1.heap.size w1 wr ∧
    Mp.goA [] L = Mp.goA (X.map PV.p) (L.drop i)
theorem go_err {l : List Mp.P} {x : Ip.L} {r : List Ip.L} (h : Mp.addA l x = none) : Mp.goA l (x :: r) = .error x.n := by
  conv => lhs; unfold Mp.goA
  rw [h]
theorem go_ok {l m : List Mp.P} {x : Ip.L} {r : List Ip.L} (h : Mp.addA l x = some m) : Mp.goA l (x :: r) = Mp.goA m r := by
  conv => lhs; unfold Mp.goA
  rw [h]

set_option maxHeartbeats 4000000 in
theorem Of_any (w : World) (at_ s : ByteArray) (hs : s.size ≤ 99990) :
    Calls Tryz.prog 21 #[.string at_, .string s] w (OfPost w at_ (Mp.partsA (by8 s))) := by
  have hll := Ip.linesA_le (by8 s)
  have hcl := List.count_le_length (a := (10 : UInt8)) (l := by8 s)
  rw [by8_len] at hcl
  have HO := Lib.hid fun W => Iw.Of_any W s (by omega)
  have hlen : ∀ x ∈ Ip.linesA (by8 s), x.t.length ≤ 100000 := fun x hx => by
    have := Ip.linesA_len hx
    rw [by8_len] at this; omega
  have HG : Hid (Mp.partsA (by8 s) = Mp.goA [] (Ip.linesA (by8 s))) := Lib.hid rfl
  generalize Ip.linesA (by8 s) = L at *
  generalize Mp.partsA (by8 s) = R at *
  have hL2 : L.length ≤ 100000 := by omega
  have HLn := Lib.hid hlen
  clear hll hcl hlen hs
  have HB0 := Lib.hid ((Below.refl w.heap.size w).alloc (Nat.le_refl _) (.cells #[.int .i64 0, .string ⟨#[]⟩, .int .i64 0] FT))
  have HX0 := Lib.hid (heap_alloc_last w (.cells #[.int .i64 0, .string ⟨#[]⟩, .int .i64 0] FT))
  go_enter Tryz.func21, Tryz.ntmps21
  go_wp2_with fail
  refine (HO.out _).mono ?_
  rintro e w1 ⟨al, cl, rfl, hr, B1⟩
  have HR := Lib.hid hr
  have HB1 := Lib.hid (HB0.out.trans (B1.mono (by simp)))
  have HX1 := Lib.hid ((B1.block w.heap.size (by simp)).trans HX0.out)
  have hx1 : w.heap.size < w1.heap.size := (Array.getElem?_eq_some_iff.1 HX1.out).1
  clear B1 hr
  go_wp2_with fail
  go_loopw [6, 14] (fun v6 v14 wr => OfRel w1 L v6 v14 wr) (fun _ v14 _ => L.length - (intOf v14).toNat)
  case atStart => exact ⟨0, [], none, 0, rfl, rfl, Nat.zero_le _, Nat.le_refl _, by simp, Ps.nil _ _, Below.refl _ _, rfl⟩
  case round =>
    obtain ⟨i, X, a, c, rfl, rfl, hi, hXi, hrec, hP, hB, hgo⟩ := hrel
    have hws := hB.size
    by_cases hlt : i < L.length
    · obtain ⟨g, rfl, hgc, hg, _, x0, x1, x2⟩ := line_cells HR.out hlt
      have p0 : wr.cell? ⟨g, i * 3, none⟩ = some (.int .i64 (L[i].n : Int)) := (hB.cell (p := ⟨g, i * 3, none⟩) hg).trans x0
      have p1 : wr.cell? ⟨g, i * 3 + 1, none⟩ = some (.string (str L[i].t)) := (hB.cell (p := ⟨g, i * 3 + 1, none⟩) hg).trans x1
      have p2 : wr.cell? ⟨g, i * 3 + 2, none⟩ = some (.bool L[i].q) := (hB.cell (p := ⟨g, i * 3 + 2, none⟩) hg).trans x2
      have htl := HLn.out L[i] (List.getElem_mem hlt)
      rw [List.drop_eq_getElem_cons hlt] at hgo
      clear HLn
      generalize hx : L[i] = x at *
      rcases x with ⟨xn, xt, xq⟩
      have HP := Lib.hid (hP.below ((Below.refl wr.heap.size wr).alloc (Nat.le_refl _) (.cells #[.int .i64 (xn : Int), .string (str xt), .bool xq] LT)))
      have HA := Lib.hid (add_any (wr.alloc (.cells #[.int .i64 (xn : Int), .string (str xt), .bool xq] LT)) w1.heap.size a c X xn xt xq (by simp; omega) HP.out (by omega) (fun y hy => by have := hrec y.p (List.mem_map_of_mem hy); omega) htl)
      have hki : (i : Int) < L.length := by omega
      have hk0 : (0 : Int) ≤ (i : Int) := Int.natCast_nonneg _
      have HGO := Lib.hid hgo
      have HB := Lib.hid hB
      have hapart : ∀ g', (Value.slice a X.length c).ownBlock = some g' → g' < wr.heap.size := fun g' h => (hP.row.lt g' h).2
      have hapart2 : ∀ y ∈ X, ∀ g', y.v.ownBlock = some g' → g' < wr.heap.size := fun y hy g' h => ((hP.each y hy).lt g' h).2
      have HAP := Lib.hid hapart
      have HAP2 := Lib.hid hapart2
      have HRC := Lib.hid hrec
      clear x0 x1 x2 hx hgo htl hP hB hapart hapart2 hrec
      cases hadd : Mp.addA (X.map PV.p) ⟨xn, xt, xq⟩ with
      | none =>
        have HE := Lib.hid (go_err (r := L.drop (i + 1)) hadd)
        rw [hadd] at HA
        clear hadd
        go_wp2_with fail
        refine HA.out.mono ?_
        rintro e w4 ⟨⟨a4, n4, c4, rfl⟩, B4, hk4⟩
        have hbx : w4.heap[wr.heap.size]? = some (.cells #[.int .i64 (xn : Int), .string (str xt), .bool xq] LT (0, 0)) := (hk4 wr.heap.size (by simp) (fun h => Nat.lt_irrefl _ (HAP.out _ h)) (fun y hy h => Nat.lt_irrefl _ (HAP2.out y hy _ h))).trans (World.alloc_heap_new _ _)
        have HB4 := Lib.hid ((HB.out.alloc hws _).trans B4)
        have HX4 := Lib.hid ((HB4.out.block w.heap.size hx1).trans HX1.out)
        have b0 : w4.cell? ⟨wr.heap.size, 0, none⟩ = some (.int .i64 (xn : Int)) := cell_at hbx rfl
        have d0 : w4.cell? ⟨w.heap.size, 0, none⟩ = some (.int .i64 0) := cell_at HX4.out rfl
        have d1 : w4.cell? ⟨w.heap.size, 1, none⟩ = some (.string ⟨#[]⟩) := cell_at HX4.out rfl
        have d2 : w4.cell? ⟨w.heap.size, 2, none⟩ = some (.int .i64 0) := cell_at HX4.out rfl
        have f0 : w4.frozen? ⟨w.heap.size, 0, none⟩ = false := frozen_at HX4.out _
        have f1 : w4.frozen? ⟨w.heap.size, 1, none⟩ = false := frozen_at HX4.out _
        have f2 : w4.frozen? ⟨w.heap.size, 2, none⟩ = false := frozen_at HX4.out _
        clear hbx B4 hk4
        go_wp2_with fail
        go_region
        go_wp2_with fail
        refine bodyPost_ret (results_tc Tryz.results21 _ _ w.heap.size FT #[.int .i64 6, .string at_, .int .i64 (xn : Int)] (0, 0) _ (.slice none 0 0) rfl rfl ((congrArg (·[w.heap.size]?) (heap_drew _)).trans (heap_set3 (i := 2) (heap_set3 (i := 1) (heap_set3 (i := 0) HX4.out _) _) _)) undF rfl sizeF) rfl ?_
        rw [HG.out, HGO.out, HE.out]
        exact ⟨rfl, ((((HB1.out.trans (HB4.out.mono (Nat.le_of_lt hx1))).setCell (Nat.le_refl _) _).setCell (Nat.le_refl _) _).setCell (Nat.le_refl _) _).drew⟩
      | some M =>
        have HE := Lib.hid (go_ok (r := L.drop (i + 1)) hadd)
        have hml := (Mp.addA_len hadd).1
        have HRC2 := Lib.hid (addA_rec hadd HRC.out)
        rw [List.length_map] at hml
        rw [hadd] at HA
        clear hadd
        go_wp2_with fail
        refine HA.out.mono ?_
        rintro e w4 ⟨⟨X4, a4, c4, hM, rfl, hP4⟩, B4, _⟩
        have HM := Lib.hid hM
        have hx4 : X4.length = M.length := by rw [← hM, List.length_map]
        have hx5 : X4.length ≤ i + 1 := by omega
        have HB4 := Lib.hid ((HB.out.alloc hws _).trans B4)
        have HP4 := Lib.hid hP4
        clear B4 hM hP4 hx4 hml
        go_wp2_with fail
        go_roundw
        case rel => exact ⟨i + 1, X4, a4, c4, by go_num, rfl, hlt, hx5, by rw [HM.out]; exact HRC2.out, HP4.out, HB4.out, by rw [HGO.out, HE.out, HM.out]⟩
        case measure => simp [intOf]; omega
    · obtain rfl : i = L.length := by omega
      have HGO : Hid (Mp.goA [] L = .ok (X.map PV.p)) := Lib.hid (by rw [hgo, List.drop_length]; rfl)
      have HB2 := Lib.hid hB
      have HP := Lib.hid hP
      have HX4 := Lib.hid ((hB.block w.heap.size hx1).trans HX1.out)
      have d0 : wr.cell? ⟨w.heap.size, 0, none⟩ = some (.int .i64 0) := cell_at HX4.out rfl
      have d1 : wr.cell? ⟨w.heap.size, 1, none⟩ = some (.string ⟨#[]⟩) := cell_at HX4.out rfl
      have d2 : wr.cell? ⟨w.heap.size, 2, none⟩ = some (.int .i64 0) := cell_at HX4.out rfl
      have f0 : wr.frozen? ⟨w.heap.size, 0, none⟩ = false := frozen_at HX4.out _
      have f1 : wr.frozen? ⟨w.heap.size, 1, none⟩ = false := frozen_at HX4.out _
      have f2 : wr.frozen? ⟨w.heap.size, 2, none⟩ = false := frozen_at HX4.out _
      have hki : ¬ (L.length : Int) < L.length := by omega
      clear hgo hB hP
      go_wp2_with fail
      refine bodyPost_ret (results_tc Tryz.results21 _ _ w.heap.size FT #[.int .i64 0, .string ⟨#[]⟩, .int .i64 0] (0, 0) _ (.slice a X.length c) rfl rfl (heap_set3 (i := 2) (heap_set3 (i := 1) (heap_set3 (i := 0) HX4.out _) _) _) undF rfl sizeF) rfl ?_
      rw [HG.out, HGO.out]
      exact ⟨⟨X, a, c, rfl, rfl, (HP.out.kept fun g h1 _ => (Below.heap_setCell _ _ _ _ (by show g ≠ w.heap.size; omega)).trans ((Below.heap_setCell _ _ _ _ (by show g ≠ w.heap.size; omega)).trans (Below.heap_setCell _ _ _ _ (by show g ≠ w.heap.size; omega)))).mono (Nat.le_of_lt hx1)⟩, (((HB1.out.trans (HB2.out.mono (Nat.le_of_lt hx1))).setCell (Nat.le_refl _) _).setCell (Nat.le_refl _) _).setCell (Nat.le_refl _) _⟩
end Go.Proofs.YtgednccpjegbmaaGreatDoor.Mw
namespace Go.Proofs.YtgednccpjegbmaaGreatDoor.Jw
open Go.RowKit Go.Proofs.YtgednccpjegbmaaGreatDoor Go.Proofs.YtgednccpjegbmaaGreatDoor.Ww Go.Proofs.YtgednccpjegbmaaGreatDoor.Tw Go.Proofs.YtgednccpjegbmaaGreatDoor.Kw
set_option maxRecDepth 100000

/-- Blocks of a table's kinds. -/
def Kinds (w : World) (X : List Nat) : Prop := ∀ i ∈ X, (∃ es ck, w.heap[i]? = some (.map es ck)) ∨ ∃ cs t fz, w.heap[i]? = some (.cells cs t fz) ∧ (t = PT ∨ t = BT ∨ t = U8)
/-- A table, with no more blocks than it has. -/
theorem Tab.shrink {w : World} {tb : Nat} {X : List Nat} {L : List Jp.V} {M : List (Bs × Int)} {all : Bool} (h : Tab w tb X L M all) : ∃ X0, Tab w tb X0 L M all ∧ Kinds w X0 ∧ ∀ i ∈ X0, i ∈ X := by
  obtain ⟨E, mv, mn, O, h, e⟩ := h
  have hX : ∀ i, i ∈ tb :: (mv.toList ++ (mn.toList ++ E.flatMap fun e => if e.2.g = none then [] else O e.1)) ↔ i = tb ∨ mv = some i ∨ mn = some i ∨ ∃ e ∈ E, e.2.g ≠ none ∧ i ∈ O e.1 := by
    intro i
    simp only [List.mem_cons, List.mem_append, Option.mem_toList, List.mem_flatMap]
    refine or_congr Iff.rfl (or_congr Iff.rfl (or_congr Iff.rfl ?_))
    constructor
    · rintro ⟨e, he, hi⟩
      by_cases hg : e.2.g = none
      · rw [if_pos hg] at hi; cases hi
      · rw [if_neg hg] at hi; exact ⟨e, he, hg, hi⟩
    · rintro ⟨e, he, hg, hi⟩
      exact ⟨e, he, by rw [if_neg hg]; exact hi⟩
  refine ⟨tb :: (mv.toList ++ (mn.toList ++ E.flatMap fun e => if e.2.g = none then [] else O e.1)), ⟨E, mv, mn, O, ⟨h.cells, h.vars, h.named, h.ne, h.keys, h.grown, (hX _).2 (.inl rfl), fun b hb => (hX _).2 (.inr (.inl hb)), fun b hb => (hX _).2 (.inr (.inr (.inl hb))), fun e he hg i hi => (hX _).2 (.inr (.inr (.inr ⟨e, he, hg, hi⟩)))⟩, e⟩, fun i hi => ?_, fun i hi => ?_⟩
  · rcases (hX i).1 hi with rfl | hb | hb | ⟨e, he, hg, hi⟩
    · exact .inr ⟨_, _, _, h.cells, .inl rfl⟩
    · subst hb; exact .inl (Kw.MapAt.obj h.vars)
    · subst hb; exact .inl (Kw.MapAt.obj h.named)
    · cases hq : e.2.g with
      | none => exact absurd hq hg
      | some b =>
        obtain ⟨pv, bv, hB⟩ := h.grown.at_ e he b hq
        obtain ⟨cs, t, fz, h1, h2⟩ := hB.cells_of i hi
        exact .inr ⟨cs, t, fz, h1, .inr h2⟩
  · rcases (hX i).1 hi with rfl | hb | hb | ⟨e, he, hg, hi⟩
    · exact h.tX
    · exact h.vX i hb
    · exact h.nX i hb
    · exact h.oX e he hg i hi
end Go.Proofs.YtgednccpjegbmaaGreatDoor.Jw
namespace Go.Proofs.YtgednccpjegbmaaGreatDoor.Dq
open Go.RowKit Go.Proofs.YtgednccpjegbmaaGreatDoor Go.Maps Go.Proofs.YtgednccpjegbmaaGreatDoor.Ww Go.Proofs.YtgednccpjegbmaaGreatDoor.Tw Go.Proofs.YtgednccpjegbmaaGreatDoor.Kw Go.Proofs.YtgednccpjegbmaaGreatDoor.Jw Go.Proofs.YtgednccpjegbmaaGreatDoor.Xb Go.Proofs.YtgednccpjegbmaaGreatDoor.Xw Go.Proofs.YtgednccpjegbmaaGreatDoor.Dz
set_option maxRecDepth 100000

abbrev FaT : TypeId := 34
theorem kinds_lt {w : World} {X : List Nat} (h : Kinds w X) : ∀ i ∈ X, i < w.heap.size := fun i hi => by
  rcases h i hi with ⟨es, ck, h1⟩ | ⟨cs, t, fz, h1, _⟩
  · exact (Array.getElem?_eq_some_iff.1 h1).1
  · exact (Array.getElem?_eq_some_iff.1 h1).1
end Go.Proofs.YtgednccpjegbmaaGreatDoor.Dq
