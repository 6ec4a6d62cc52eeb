/-
  The law ShellStops, walked.
-/
import Derived.Deep.RegionHeld3
import Derived.Deep.DeepCutAuto
import Derived.Test.YtaolccibflniiaaGreatDoorQSFine
import Derived.Test.YtaolccibflniiaaGreatDoorQHArgs
namespace Go.Proofs.YtaolccibflniiaaGreatDoor.Hx
open Go.RowKit Go.Proofs.YtaolccibflniiaaGreatDoor Go.Maps Go.Proofs.YtaolccibflniiaaGreatDoor.Sw
set_option maxRecDepth 100000

/-- Files that are handed over. -/
def FAt (w : World) (a : Option Addr) (l : List F) : Prop :=
  l = [] ∨ ∃ b o, a = some ⟨b, o, none⟩ ∧ b < w.heap.size ∧ ∀ j f, l[j]? = some f → w.cell? ⟨b, o + j * 4, none⟩ = some (.string (str f.p)) ∧ w.cell? ⟨b, o + j * 4 + 1, none⟩ = some (.string (str f.t)) ∧ w.cell? ⟨b, o + j * 4 + 2, none⟩ = some (.int .i64 f.c) ∧ w.cell? ⟨b, o + j * 4 + 3, none⟩ = some (.bool f.d)
theorem FAt.below {w w' : World} {a : Option Addr} {l : List F} (h : FAt w a l) (hB : Below w.heap.size w w') : FAt w' a l := by
  rcases h with h | ⟨b, o, ha, hb, hc⟩
  · exact .inl h
  · refine .inr ⟨b, o, ha, Nat.lt_of_lt_of_le hb hB.size, fun j f hf => ?_⟩
    have e := fun i => hB.cell (p := ⟨b, i, none⟩) hb
    obtain ⟨a0, a1, a2, a3⟩ := hc j f hf
    exact ⟨(e _).trans a0, (e _).trans a1, (e _).trans a2, (e _).trans a3⟩
def sumS (l : List F) : Nat := (l.map fun f => 10 + f.p.length + f.t.length).sum
theorem sumS_take {l : List F} {k : Nat} (h : k < l.length) : sumS (l.take (k + 1)) = sumS (l.take k) + (10 + l[k].p.length + l[k].t.length) := by
  unfold sumS
  rw [List.take_succ_eq_append_getElem h, List.map_append, List.sum_append]; rfl
theorem sumS_mem {l : List F} : ∀ {f : F}, f ∈ l → 10 + f.p.length + f.t.length ≤ sumS l := by
  induction l with
  | nil => intro f h; cases h
  | cons g r ih =>
    intro f h
    show _ ≤ (10 + g.p.length + g.t.length) + sumS r
    rcases List.mem_cons.1 h with rfl | h
    · omega
    · have := ih h; omega
theorem sumS_len (l : List F) : 10 * l.length ≤ sumS l := by
  induction l with
  | nil => exact Nat.zero_le _
  | cons g r ih => show 10 * (r.length + 1) ≤ (10 + g.p.length + g.t.length) + sumS r; omega
theorem sumS_bound (l : List F) (hl : ∀ f ∈ l, f.p.length ≤ 1048576 ∧ f.t.length ≤ 1048576) : sumS l ≤ l.length * 2097162 := by
  induction l with
  | nil => exact Nat.zero_le _
  | cons g r ih =>
    have h1 := ih fun f hf => hl f (List.mem_cons_of_mem _ hf)
    have h2 := hl g (by simp)
    show (10 + g.p.length + g.t.length) + sumS r ≤ (r.length + 1) * 2097162
    omega

set_option maxHeartbeats 2000000 in
theorem Small_any (w : World) (a : Option Addr) (cp : Nat) (l : List F) (hF : FAt w a l) (hl : ∀ f ∈ l, f.p.length ≤ 1048576 ∧ f.t.length ≤ 1048576) (hn : l.length ≤ 1048576) :
    Calls Tryz.prog 7 #[.slice a l.length cp] w fun e w' => e = .returned (.bool (decide (sumS l ≤ 20000))) ∧ Below w.heap.size w w' := by
  go_enter Tryz.func7, Tryz.ntmps7
  go_wp2_with fail
  go_loopw [3, 8] (fun v3 v8 wr => ∃ i : Nat, v8 = .int .i64 i ∧ v3 = .int .i64 (sumS (l.take i) : Nat) ∧ i ≤ l.length ∧ Below w.heap.size w wr) (fun _ v8 _ => l.length - (intOf v8).toNat)
  case atStart => exact ⟨0, rfl, rfl, Nat.zero_le _, Below.refl _ _⟩
  case round =>
    obtain ⟨i, rfl, rfl, hi, hB⟩ := hrel
    by_cases hlt : i < l.length
    · obtain ⟨b, o, rfl, hb, hc⟩ := hF.resolve_left (fun e => by rw [e] at hlt; simp at hlt)
      obtain ⟨c0, c1, c2, c3⟩ := hc i l[i] (List.getElem?_eq_getElem hlt)
      have e := fun i => hB.cell (p := ⟨b, i, none⟩) hb
      have p0 := (e _).trans c0
      have p1 := (e _).trans c1
      have p2 := (e _).trans c2
      have p3 := (e _).trans c3
      have hfl := hl _ (List.getElem_mem hlt)
      have hS := sumS_take hlt
      have hbd := sumS_bound (l.take i) fun f hf => hl f (List.mem_of_mem_take hf)
      rw [List.length_take] at hbd
      generalize hx : l[i] = f at *
      obtain ⟨fp, ft, fc, fd⟩ := f
      have s1 : (str fp).size = fp.length := by rw [← bs_len, bs_str]
      have s2 : (str ft).size = ft.length := by rw [← bs_len, bs_str]
      have HS : Hid ((sumS (l.take (i + 1)) : Int) = (sumS (l.take i) : Int) + (10 + ((str fp).size : Int) + ((str ft).size : Int))) := Lib.hid (by rw [hS, s1, s2]; simp)
      have hsum : sumS (l.take i) ≤ 2199033741312 := by have : min i l.length * 2097162 ≤ 1048576 * 2097162 := Nat.mul_le_mul_right _ (by omega); omega
      have b1 : (str fp).size ≤ 1048576 := by rw [s1]; exact hfl.1
      have b2 : (str ft).size ≤ 1048576 := by rw [s2]; exact hfl.2
      have hki : (i : Int) < l.length := by omega
      have hk0 : (0 : Int) ≤ (i : Int) := Int.natCast_nonneg _
      have hws := hB.size
      clear hc c0 c1 c2 c3 e hfl hS hbd s1 s2 hx hF hl
      generalize sumS (l.take i) = q at *
      go_wp2_with fail
      go_roundw
      case rel => exact ⟨i + 1, by go_num, by rw [HS.out], hlt, hB.alloc hws _⟩
      case measure => simp [intOf]; omega
    · obtain rfl : i = l.length := by omega
      rw [List.take_length]
      have hq : (sumS l : Int) ≤ 20000 ↔ sumS l ≤ 20000 := by omega
      go_wp2_with fail
      go_ret
      exact ⟨congrArg (fun b => Ending.returned (.bool b)) (by rw [decide_eq_decide]), hB⟩

theorem wtL_is (l : List Bs) : Hp.wtL l = (l.map List.length).sum + 2 * l.length := by
  induction l with
  | nil => rfl
  | cons x r ih => show (x.length + 2) + Hp.wtL r = (x.length + (r.map List.length).sum) + 2 * (r.length + 1); omega
theorem gtL_is (l : List Pp.G) : Hp.gtL l = (l.map (·.p.length)).sum + 2 * l.length := by
  induction l with
  | nil => rfl
  | cons x r ih => show (x.p.length + 2) + Hp.gtL r = (x.p.length + (r.map (·.p.length)).sum) + 2 * (r.length + 1); omega
theorem wL_is (L : List Pp.C) : Hp.wL L = Pp.sumA L + 2 * Pp.numA L := by
  induction L with
  | nil => rfl
  | cons c r ih =>
    have h1 := wtL_is c.ws
    have h2 := gtL_is c.to
    show (Hp.wtL c.ws + Hp.gtL c.to) + Hp.wL r = (c.sumW + Pp.sumA r) + 2 * (c.num + Pp.numA r)
    unfold Pp.C.sumW Pp.C.num
    omega
theorem same_self {L : List F} (hs : Sp.Sorted L) (p : Bs) : sameA L L p = true := by
  unfold sameA sameM
  have hss : Sp.Sorted (butA L p) := by unfold butA; exact List.Pairwise.filter _ hs
  simp only [decide_true, Bool.true_and, List.all_eq_true]
  intro f hf
  rw [(Sp.get_some hss).2 ⟨hf, rfl⟩]
  unfold eqA
  simp
theorem NewF_any (w : World) (a : Option Addr) (cp : Nat) (l : List F) (hF : FAt w a l) (hl : ∀ f ∈ l, f.p.length ≤ 20000 ∧ f.t.length ≤ 20000) (hn : l.length ≤ 2000) :
    Calls Tryz.prog 8 #[.slice a l.length cp] w (NewPost w (newA l)) := by
  rcases hF with rfl | ⟨b, o, rfl, hb, hc⟩
  · exact New_none w a cp
  · exact New_some w b o cp l ⟨hb, hc, fun f hf => by have := hl f hf; omega, by omega⟩

set_option maxHeartbeats 2000000 in
theorem ShellStopsL_any (w : World) (a : Option Addr) (cp : Nat) (l : List F) (line : ByteArray) (most : Int) (hG : Lx.Glob w) (hF : FAt w a l) (hl : ∀ f ∈ l, f.p.length ≤ 1048576 ∧ f.t.length ≤ 1048576) (hn : l.length ≤ 1048576) (hls : line.size ≤ 140737488355328) (h : ¬ sumS l ≤ 20000 ∨ 1000 < line.size) :
    Calls Tryz.prog 4 #[.slice a l.length cp, .string line, .int .u8 most] w fun e w' => e = .returned (.bool true) ∧ Below w.heap.size w w' := by
  have HL : Hid (∀ W, Lx.Glob W → Calls Tryz.prog 6 #[] W fun e w' => e = .returned (.bool true) ∧ Below W.heap.size W w') := Lib.hid lives_any
  have HG := Lib.hid hG
  have HS := Lib.hid fun (W : World) (h : FAt W a l) => Small_any W a cp l h hl hn
  have HF := Lib.hid hF
  clear hG hF
  by_cases k1 : sumS l ≤ 20000
  · rw [decide_eq_true k1] at HS
    have q2 : (1000 : Int) < (line.size : Int) := by omega
    clear h k1
    go_enter Tryz.func4, Tryz.ntmps4
    go_wp2_with fail
    refine (HL.out _ HG.out).mono ?_
    rintro e w1 ⟨rfl, B1⟩
    go_wp2_with fail
    refine (HS.out _ (HF.out.below B1)).mono ?_
    rintro e w2 ⟨rfl, B2⟩
    have B12 := B1.trans (B2.mono B1.size)
    go_wp2_with fail
    refine (HL.out _ (HG.out.below B12)).mono ?_
    rintro e w3 ⟨rfl, B3⟩
    go_wp2_with fail
    go_ret
    exact ⟨rfl, B12.trans (B3.mono B12.size)⟩
  · rw [decide_eq_false k1] at HS
    clear h k1
    go_enter Tryz.func4, Tryz.ntmps4
    go_wp2_with fail
    refine (HL.out _ HG.out).mono ?_
    rintro e w1 ⟨rfl, B1⟩
    go_wp2_with fail
    refine (HS.out _ (HF.out.below B1)).mono ?_
    rintro e w2 ⟨rfl, B2⟩
    have B12 := B1.trans (B2.mono B1.size)
    go_wp2_with fail
    refine (HL.out _ (HG.out.below B12)).mono ?_
    rintro e w3 ⟨rfl, B3⟩
    go_wp2_with fail
    go_ret
    exact ⟨rfl, B12.trans (B3.mono B12.size)⟩

set_option maxHeartbeats 8000000 in
theorem ShellStops_any (w : World) (a : Option Addr) (cp : Nat) (l : List F) (line : ByteArray) (most : Nat) (hmo : most < 256) (hG : Lx.Glob w) (hF : FAt w a l) (hsum : sumS l ≤ 20000) (hls : line.size ≤ 1000) :
    Calls Tryz.prog 4 #[.slice a l.length cp, .string line, .int .u8 (most : Int)] w fun e w' => e = .returned (.bool true) ∧ Below w.heap.size w w' := by
  have hlen := sumS_len l
  have hfl : ∀ f ∈ l, f.p.length ≤ 20000 ∧ f.t.length ≤ 20000 := fun f hf => by have := sumS_mem hf; omega
  have HL : Hid (∀ W, Lx.Glob W → Calls Tryz.prog 6 #[] W fun e w' => e = .returned (.bool true) ∧ Below W.heap.size W w') := Lib.hid lives_any
  have HG := Lib.hid hG
  have HS := Lib.hid fun (W : World) (h : FAt W a l) => Small_any W a cp l h (fun f hf => by have := hfl f hf; omega) (by omega)
  rw [decide_eq_true hsum] at HS
  have HN := Lib.hid fun (W : World) (h : FAt W a l) => NewF_any W a cp l h hfl (by omega)
  have HLi := Lib.hid fun (W : World) (h : Lx.Glob W) => Px.Line_any W line (by omega) h
  have HFi : Hid ((newA l).2 = 0 → Fine (newA l).1) := Lib.hid (new_fine l fun f hf => by have := hfl f hf; omega)
  have HCl := Lib.hid (new_closed l)
  have HF := Lib.hid hF
  have q2 : ¬ (1000 : Int) < (line.size : Int) := by omega
  clear hG hF hsum hlen hfl
  generalize newA l = nr at *
  obtain ⟨s, code⟩ := nr
  go_enter Tryz.func4, Tryz.ntmps4
  go_wp2_with fail
  refine (HL.out _ HG.out).mono ?_
  rintro e w1 ⟨rfl, B1⟩
  go_wp2_with fail
  refine (HS.out _ (HF.out.below B1)).mono ?_
  rintro e w2 ⟨rfl, B2⟩
  have B12 := Lib.hid (B1.trans (B2.mono B1.size))
  clear B1 B2
  go_wp2_with fail
  refine (HN.out _ (HF.out.below B12.out)).mono ?_
  intro e w3 hpost
  by_cases hcode : code = 0
  · subst hcode
    unfold NewPost at hpost
    rw [if_pos rfl] at hpost
    obtain ⟨sb, bm, rfl, hsb, hbm, hS, B3⟩ := hpost
    have B13 := Lib.hid (B12.out.trans (B3.mono B12.out.size))
    have HSt := Lib.hid hS
    have HFin := Lib.hid (HFi.out rfl)
    have hsb2 : w.heap.size ≤ sb := Nat.le_trans B12.out.size hsb
    have hbm2 : w.heap.size ≤ bm := Nat.le_trans B12.out.size hbm
    clear B3 hS HFi hsb hbm
    go_wp2_with fail
    refine (HLi.out _ (HG.out.below B13.out)).mono ?_
    cases ho : Pp.lineA (Lx.by8 line) with
    | none =>
      rintro e w4 ⟨rfl, B4⟩
      go_wp2_with fail
      go_ret
      exact ⟨rfl, B13.out.trans (B4.mono B13.out.size)⟩
    | some L =>
      have hsz := Pp.line_size ho
      have hri := Pp.line_right ho
      rw [Lx.by8_len] at hsz
      rintro e w4 ⟨⟨v, X, hX, rfl, hC⟩, B4⟩
      obtain ⟨xa, xc, rfl, _⟩ := hC.1.shape
      have hXl : X.length = L.length := by rw [← hX, List.length_map]
      have hXc : X.map (·.c) = L := hX
      have hwl : 2 * (1 + Hp.wL L) + 3 ≤ 100000 := by rw [wL_is]; omega
      have hfew : Px.Few X := ⟨by omega, fun x hx => by
        have := Pp.num_mem (l := L) (c := x.c) (by rw [← hX]; exact List.mem_map_of_mem hx)
        have h1 := this.1
        unfold Pp.C.num at h1
        omega⟩
      have HFe := Lib.hid hfew
      have B14 := Lib.hid (B13.out.trans (B4.mono B13.out.size))
      have HSt4 := Lib.hid (HSt.out.below B4)
      have hl4 := HSt4.out.lt
      have hm4 := HSt4.out.map.lt
      -- what the two runs come to
      obtain ⟨r1, h1⟩ : ∃ r, Hp.lineA s [46] L (-1) = r := ⟨_, rfl⟩
      obtain ⟨r2, h2⟩ : ∃ r, Hp.lineA s [46] L (most : Int) = r := ⟨_, rfl⟩
      have hgo : Hp.Going ⟨s, [46], 0, [], 0, 0⟩ 1 := ⟨HFin.out, HCl.out, Nat.le_refl 1, Nat.zero_le _, fun _ => Nat.zero_le _⟩
      have hok := Hp.run_ok L ⟨s, [46], 0, [], 0, 0⟩ 1 (-1) hgo hwl
      have hok2 := Hp.run_ok L ⟨s, [46], 0, [], 0, 0⟩ 1 (most : Int) hgo hwl
      have hst := Hp.stop_is L ⟨s, [46], 0, [], 0, 0⟩ 1 most hgo hwl (Nat.zero_le _)
      have e1 : Hp.runA ⟨s, [46], 0, [], 0, 0⟩ L (-1) = r1 := h1
      have e2 : Hp.runA ⟨s, [46], 0, [], 0, 0⟩ L (most : Int) = r2 := h2
      rw [e1] at hok hst
      rw [e2] at hok2 hst
      have hran : r1.ran ≤ L.length := by have := hok.2.2.2; simpa using this
      have HRok := Lib.hid hok.1
      have hst1 := hst.1
      have HST := Lib.hid hst.2
      have hout1 := hok.1.out
      have hout2 := hok2.1.out
      have HR1 := Lib.hid fun (W : World) (hS : StoreAt W sb bm s.L s.c) (hX : Px.Cs W (fun b => b < W.heap.size ∧ b ≠ sb ∧ b ≠ bm) (.slice xa X.length xc) X) =>
        Run_any W s ⟨#[46]⟩ 1 xa xc X (-1) hS HFin.out HCl.out (by decide) (by decide) hX HFe.out (by rw [hXc]; exact hwl) (getR_root _ ▸ rfl) (by rw [hXc]; exact hri) r1 (by rw [hXc]; exact h1)
      have HR2 := Lib.hid fun (W : World) (sb2 bm2 : Nat) (hS : StoreAt W sb2 bm2 s.L s.c) (hX : Px.Cs W (fun b => b < W.heap.size ∧ b ≠ sb2 ∧ b ≠ bm2) (.slice xa X.length xc) X) =>
        Run_any W s ⟨#[46]⟩ 1 xa xc X (most : Int) hS HFin.out HCl.out (by decide) (by decide) hX HFe.out (by rw [hXc]; exact hwl) (getR_root _ ▸ rfl) (by rw [hXc]; exact hri) r2 (by rw [hXc]; exact h2)
      have hCs := Lib.hid hC
      have hranX : r1.ran ≤ X.length := by omega
      clear hok hok2 hst e1 e2 h1 h2 hgo hwl hfew hXl hXc hX hri hsz ho hC hran HFe
      go_wp2_with fail
      refine (Clone_any _ HSt4.out).mono ?_
      rintro e w5 ⟨sb2, bm2, rfl, hs2, hb2, hS2, B5⟩
      have HS2 := Lib.hid hS2
      have HC5 := Lib.hid (cs_apart (HSt4.out.below B5) (hCs.out.grow B5))
      have HSt5 := Lib.hid (HSt4.out.below B5)
      have B15 := Lib.hid (B14.out.trans (B5.mono B14.out.size))
      have hl5 := HS2.out.lt
      have hm5 := HS2.out.map.lt
      clear hS2 B5 hCs
      go_wp2_with fail
      refine (HR1.out _ HSt5.out HC5.out).mono ?_
      rintro e w6 ⟨rfl, hS6, K6⟩
      have hS26 := HS2.out.kept K6 (by simp; omega) (by simp; omega)
      have hC6 : Px.Cs w6 (· < w6.heap.size) (.slice xa X.length xc) X := (HC5.out.keep (fun b hb => K6.block b hb.1 (by simp; exact hb.2))).more fun b hb => Nat.lt_of_lt_of_le hb.1 K6.size
      have HC6 := Lib.hid (cs_apart hS26 hC6)
      have HS26 := Lib.hid hS26
      have HS6 := Lib.hid hS6
      have B16 := Lib.hid (B15.out.trans (K6.to_below (B := w.heap.size) B15.out.size (fun i hi => by simp at hi; rcases hi with rfl | rfl <;> assumption)))
      have hl6 := hS6.lt
      have hm6 := hS6.map.lt
      clear hS26 hC6 hS6 K6
      go_wp2_with fail
      refine (HR2.out _ sb2 bm2 HS26.out HC6.out).mono ?_
      rintro e w7 ⟨rfl, hS7, K7⟩
      have HSa : Hid (StoreAt w7 sb bm r1.s.L r1.s.c) := Lib.hid (HS6.out.kept K7 (by simp; omega) (by simp; omega))
      have HSb := Lib.hid hS7
      have hs20 : w.heap.size ≤ sb2 := Nat.le_trans B14.out.size hs2
      have hb20 : w.heap.size ≤ bm2 := Nat.le_trans B14.out.size hb2
      have B17 := Lib.hid (B16.out.trans (K7.to_below (B := w.heap.size) B16.out.size (fun i hi => by simp at hi; rcases hi with rfl | rfl <;> assumption)))
      have hgd := guardRes
      have hconv : IntKind.i64.wrap (most : Int) = (most : Int) := by rw [IntWalk.i64_in _ (by omega)]
      clear hS7 K7 HR1 HR2 HC6 HS26 HS6 HC5 HSt5 HS2 HSt4 HSt
      obtain ⟨t1, d1, k1, o1, a1, n1⟩ := r1
      obtain ⟨t2, d2, k2, o2, a2, n2⟩ := r2
      have q0 : ¬ (X.length : Int) < (n1 : Int) := by have : n1 ≤ X.length := hranX; omega
      by_cases hle : n1 ≤ most
      · have heq := hst1 hle
        cases heq
        have q1 : (n1 : Int) ≤ (most : Int) := by omega
        have q3 : ¬ (n1 : Int) < (n1 : Int) := by omega
        have hq := fun W => eql_res W (a1 : Int) (n1 : Int) k1 (str o1) (str d1)
        have HSm := Lib.hid fun (W : World) (h1 : StoreAt W sb bm t1.L t1.c) (h2 : StoreAt W sb2 bm2 t1.L t1.c) => Same_any W ⟨#[]⟩ h1 h2 (by decide) (fun f hf => by have h3 := HRok.out.fine.path f hf; have h4 := HRok.out.fine.text f hf; have : t1.L = t1.L := rfl; exact ⟨Nat.le_trans h3 (by omega), Nat.le_trans h4 (by omega)⟩) (fun f hf => by have h4 := HRok.out.fine.text f hf; exact Nat.le_trans h4 (by omega))
        rw [show bs ⟨#[]⟩ = [] from rfl, same_self HRok.out.fine.sorted] at HSm
        clear hst1 hle hranX hout1 hout2 HST
        go_wp2_with fail
        have B8 : Below w7.heap.size w7 ((w7.alloc (.cells #[.int .i64 (a1 : Int), .string (str o1), .int .i64 (n1 : Int), .string (str d1), .int .i64 k1] resT)).alloc (.cells #[.int .i64 (a1 : Int), .string (str o1), .int .i64 (n1 : Int), .string (str d1), .int .i64 k1] resT)) := ((Below.refl _ _).alloc (Nat.le_refl _) _).alloc (by rw [World.size_alloc]; omega) _
        refine (HSm.out _ (HSa.out.below B8) (HSb.out.below B8)).mono ?_
        rintro e w9 ⟨rfl, B9⟩
        have BB := B17.out.trans ((B8.trans (B9.mono B8.size)).mono B17.out.size)
        clear B8 B9
        go_wp2_with fail
        go_ret
        exact ⟨rfl, BB⟩
      · obtain ⟨hc, hn, ha, hp⟩ := HST.out hle
        simp only at hc hn ha hp
        subst hc hn ha
        have q1 : ¬ (n1 : Int) ≤ (n2 : Int) := by omega
        have q3 : ¬ (n1 : Int) < (n2 : Int) := by omega
        have hpl := hp.length_le
        have s1 : (str o1).size = o1.length := by rw [← bs_len, bs_str]
        have s2 : (str o2).size = o2.length := by rw [← bs_len, bs_str]
        have q4 : ((str o2).size : Int) ≤ ((str o1).size : Int) := by omega
        have q5 : (0 : Int) ≤ ((str o2).size : Int) := Int.natCast_nonneg _
        have q6 : (str o1).extract 0 (str o2).size = str o2 := by
          apply ByteArray.ext
          apply Array.toList_inj.1
          have := Lib.extract_from_zero (str o1) (str o2).size
          rw [s2] at this ⊢
          refine this.trans ?_
          exact (List.prefix_iff_eq_take.1 hp).symm
        have q7 : (((str o1).extract 0 (str o2).size).toList == (str o2).toList) = true := by rw [q6]; simp
        clear hst1 hle hranX hout1 hout2 HST hp hpl s1 s2 q6 hconv
        generalize str o1 = u1 at *
        generalize str o2 = u2 at *
        go_wp2_with fail
        have h1 : ((w7.alloc (.cells #[.int .i64 (a1 : Int), .string u1, .int .i64 (n1 : Int), .string (str d1), .int .i64 k1] resT)).alloc (.cells #[.int .i64 1, .string u2, .int .i64 (n2 : Int), .string (str d2), .int .i64 11] resT)).heap[w7.heap.size]? = some (.cells #[.int .i64 (a1 : Int), .string u1, .int .i64 (n1 : Int), .string (str d1), .int .i64 k1] resT (0, 0)) :=
          (((Below.refl (w7.heap.size + 1) (w7.alloc (.cells #[.int .i64 (a1 : Int), .string u1, .int .i64 (n1 : Int), .string (str d1), .int .i64 k1] resT))).alloc (by rw [World.size_alloc]; exact Nat.le_refl _) _).block _ (Nat.lt_succ_self _)).trans (World.alloc_heap_new _ _)
        have h2 : ((w7.alloc (.cells #[.int .i64 (a1 : Int), .string u1, .int .i64 (n1 : Int), .string (str d1), .int .i64 k1] resT)).alloc (.cells #[.int .i64 1, .string u2, .int .i64 (n2 : Int), .string (str d2), .int .i64 11] resT)).heap[w7.heap.size + 1]? = some (.cells #[.int .i64 1, .string u2, .int .i64 (n2 : Int), .string (str d2), .int .i64 11] resT (0, 0)) :=
          heap_new _ _ (by rw [World.size_alloc])
        have B8 : Below w7.heap.size w7 ((w7.alloc (.cells #[.int .i64 (a1 : Int), .string u1, .int .i64 (n1 : Int), .string (str d1), .int .i64 k1] resT)).alloc (.cells #[.int .i64 1, .string u2, .int .i64 (n2 : Int), .string (str d2), .int .i64 11] resT)) := ((Below.refl _ _).alloc (Nat.le_refl _) _).alloc (by rw [World.size_alloc]; omega) _
        generalize (w7.alloc (.cells #[.int .i64 (a1 : Int), .string u1, .int .i64 (n1 : Int), .string (str d1), .int .i64 k1] resT)).alloc (.cells #[.int .i64 1, .string u2, .int .i64 (n2 : Int), .string (str d2), .int .i64 11] resT) = W8 at *
        have x1 : W8.cell? ⟨w7.heap.size, 1, none⟩ = some (.string u1) := cell_at h1 rfl
        have y0 : W8.cell? ⟨w7.heap.size + 1, 0, none⟩ = some (.int .i64 1) := cell_at h2 rfl
        have y1 : W8.cell? ⟨w7.heap.size + 1, 1, none⟩ = some (.string u2) := cell_at h2 rfl
        have y2 : W8.cell? ⟨w7.heap.size + 1, 2, none⟩ = some (.int .i64 (n2 : Int)) := cell_at h2 rfl
        have y4 : W8.cell? ⟨w7.heap.size + 1, 4, none⟩ = some (.int .i64 11) := cell_at h2 rfl
        have BB := Lib.hid (B17.out.trans (B8.mono B17.out.size))
        clear h1 h2 B8
        go_quiet (fail)
        go_wp2_with fail
        go_ret
        exact ⟨rfl, below_drewN BB.out _⟩
  · unfold NewPost at hpost
    rw [if_neg hcode] at hpost
    obtain ⟨rfl, B3⟩ := hpost
    have B13 := Lib.hid (B12.out.trans (B3.mono B12.out.size))
    have hq : (code != 0) = true := by simpa using hcode
    clear B3 hcode
    go_wp2_with fail
    refine (HLi.out _ (HG.out.below B13.out)).mono ?_
    cases ho : Pp.lineA (Lx.by8 line) with
    | none =>
      rintro e w4 ⟨rfl, B4⟩
      go_wp2_with fail
      go_ret
      exact ⟨rfl, B13.out.trans (B4.mono B13.out.size)⟩
    | some L =>
      rintro e w4 ⟨⟨v, X, hX, rfl, hC⟩, B4⟩
      go_wp2_with fail
      go_ret
      exact ⟨rfl, B13.out.trans (B4.mono B13.out.size)⟩
end Go.Proofs.YtaolccibflniiaaGreatDoor.Hx
