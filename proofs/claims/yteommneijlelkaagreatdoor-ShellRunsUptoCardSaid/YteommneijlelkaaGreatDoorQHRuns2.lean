/-
  The law ShellRuns, walked.
-/
import Derived.Test.YteommneijlelkaaGreatDoorQHRuns
import Derived.Test.YteommneijlelkaaGreatDoorQPOf2
namespace Go.Proofs.YteommneijlelkaaGreatDoor.Hx
open Go.RowKit Go.Proofs.YteommneijlelkaaGreatDoor Go.Maps Go.Proofs.YteommneijlelkaaGreatDoor.Sw
set_option maxRecDepth 100000
theorem neq_res (w : World) (a c e : Int) (b d : ByteArray) : (binOp .neq resT (.agg #[.int .i64 a, .string b, .int .i64 c, .string d, .int .i64 e]) (.agg #[.int .i64 a, .string b, .int .i64 c, .string d, .int .i64 e])).run Tryz.prog w = .ok (.bool false) w := by
  rw [run_neq_struct, eq_res]; simp [Result.andThen]
theorem below_then {B : Nat} {a b c : World} (h : Below B a b) (hB : B ≤ a.heap.size) (k : Below b.heap.size b c) : Below B a c := h.trans (k.mono (Nat.le_trans hB h.size))
theorem idx0 (x y : ByteArray) (W : World) : (Instr.index TwoT (.agg #[.string x, .string y]) (.int .i64 0)).run Tryz.prog W = .ok (.string x) W := by kernel_rfl
theorem idx1 (x y : ByteArray) (W : World) : (Instr.index TwoT (.agg #[.string x, .string y]) (.int .i64 1)).run Tryz.prog W = .ok (.string y) W := by kernel_rfl
theorem sumP_sumS (l : List F) : sumP l ≤ sumS l := by
  induction l with
  | nil => exact Nat.le_refl _
  | cons f r ih => show f.p.length + sumP r ≤ (10 + f.p.length + f.t.length) + sumS r; omega
theorem FAt.files {w : World} {a : Option Addr} {cp : Nat} {l : List F} (h : FAt w a l) : Files w (.slice a l.length cp) l := by
  rcases h with rfl | ⟨b, o, rfl, hb, hc⟩
  · exact .inl ⟨rfl, _, _, rfl⟩
  · exact .inr ⟨b, o, cp, rfl, hb, fun j hj => hc j _ (List.getElem?_eq_getElem hj)⟩
theorem rfiles_cell0 {w : World} {v : Value} {L : List F} (h : RFiles w v L) {b : Nat} (hb : v.ownBlock = some b) : (∃ p, w.cell? ⟨b, 0, none⟩ = some (.string p)) ∧ b < w.heap.size := by
  rcases h with ⟨_, rfl⟩ | ⟨h0, b', cp, rfl, _, h3, h4⟩
  · cases hb
  · cases hb
    cases L with
    | nil => exact absurd h0 (by decide)
    | cons f r => exact ⟨⟨_, h4 0 (.string (str f.p)) (by simp [fCs, fC])⟩, h3⟩
/-- The reference's store lies beside the program's. -/
theorem rfiles_apart {w : World} {sb bm : Nat} {v : Value} {L L' : List F} {c : Int} (hS : StoreAt w sb bm L' c) (h : RFiles w v L) : ∀ b, v.ownBlock = some b → b ≠ sb ∧ b ≠ bm := by
  intro b hb
  obtain ⟨⟨p, hp⟩, _⟩ := rfiles_cell0 h hb
  refine ⟨fun e => ?_, fun e => ?_⟩
  · rcases store_cell hS (.inl e) hp with ⟨_, h2⟩ | ⟨h1, _⟩
    · cases h2
    · cases h1
  · rcases store_cell hS (.inr e) hp with ⟨_, h2⟩ | ⟨h1, _⟩
    · cases h2
    · cases h1
theorem rbox_apart {w : World} {sb bm mb : Nat} {u : Value} {a : Option Addr} {n cp : Nat} {T : TypeId} {L' : List F} {c k : Int} (hS : StoreAt w sb bm L' c) (hu : u = .slice a n cp) (h : w.heap[mb]? = some (.cells #[u, .int .i64 k] T (0, 0))) : mb ≠ sb ∧ mb ≠ bm := by
  subst hu
  have hp : w.cell? ⟨mb, 0, none⟩ = some (.slice a n cp) := cell_at h rfl
  refine ⟨fun e => ?_, fun e => ?_⟩
  · rcases store_cell hS (.inl e) hp with ⟨_, h2⟩ | ⟨h1, _⟩
    · cases h2
    · cases h1
  · rcases store_cell hS (.inr e) hp with ⟨_, h2⟩ | ⟨h1, _⟩
    · cases h2
    · cases h1
theorem rfiles_box {w : World} {mb : Nat} {v u : Value} {L : List F} {a : Option Addr} {n cp : Nat} {T : TypeId} {k : Int} (h : RFiles w v L) (hu : u = .slice a n cp) (hb : w.heap[mb]? = some (.cells #[u, .int .i64 k] T (0, 0))) : ∀ b, v.ownBlock = some b → b ≠ mb := by
  rintro b hvb rfl
  subst hu
  obtain ⟨⟨p, hp⟩, _⟩ := rfiles_cell0 h hvb
  have hq : w.cell? ⟨b, 0, none⟩ = some (.slice a n cp) := cell_at hb rfl
  rw [hq] at hp; cases hp
theorem RFiles.kept {w w' : World} {X : List Nat} {v : Value} {L : List F} (h : RFiles w v L) (hK : Kept X w w') (hx : ∀ b, v.ownBlock = some b → b ∉ X) : RFiles w' v L := by
  rcases h with h | ⟨h0, b, cp, rfl, h2, h3, h4⟩
  · exact .inl h
  · exact .inr ⟨h0, b, cp, rfl, h2, Nat.lt_of_lt_of_le h3 hK.size, fun j u hj => (hK.cell (p := ⟨b, j, none⟩) h3 (hx b rfl)).trans (h4 j u hj)⟩
/-- Both stores between two lines. -/
structure Pair (w : World) (sb bm mb : Nat) (s : St) (u : Value) : Prop where
  store : StoreAt w sb bm s.L s.c
  fine : Fine s
  closed : Closed s.L
  box : w.heap[mb]? = some (.cells #[u, .int .i64 s.c] RS (0, 0))
  files : RFiles w u s.L
theorem Pair.below {w w' : World} {sb bm mb : Nat} {s : St} {u : Value} (h : Pair w sb bm mb s u) (hB : Below w.heap.size w w') : Pair w' sb bm mb s u :=
  ⟨h.store.below hB, h.fine, h.closed, (hB.block _ (Array.getElem?_eq_some_iff.1 h.box).1).trans h.box, h.files.below hB⟩
def RunsRel (w : World) (sb bm mb : Nat) (v69 : Value) (wr : World) : Prop :=
  ∃ (n : Nat) (s : St) (u : Value), v69 = .int .i64 n ∧ n ≤ 2 ∧ Pair wr sb bm mb s u ∧ Below w.heap.size w wr

set_option maxHeartbeats 8000000 in
theorem ShellRuns_any (w : World) (a : Option Addr) (cp : Nat) (l : List F) (x y d : ByteArray) (most : Int) (hm1 : -128 ≤ most) (hm2 : most < 128) (hG : Lx.Glob w) (hF : FAt w a l) (hsum : sumS l ≤ 20000) (hxy : x.size + y.size ≤ 2000) (hd : d.size ≤ 200) :
    Calls Tryz.prog 3 #[.slice a l.length cp, .agg #[.string x, .string y, .string d, .int .i8 most]] w fun e w' => e = .returned (.bool true) ∧ Below w.heap.size w w' := by
  have hlen := sumS_len l
  have hfl : ∀ f ∈ l, f.p.length ≤ 20000 ∧ f.t.length ≤ 20000 := fun f hf => by have := sumS_mem hf; omega
  have hsp : sumP l ≤ 20000 := Nat.le_trans (sumP_sumS l) hsum
  have HL : Hid (∀ W, Lx.Glob W → Calls Tryz.prog 4 #[] W fun e w' => e = .returned (.bool true) ∧ Below W.heap.size W w') := Lib.hid lives_any
  have HS := Lib.hid fun (W : World) (h : FAt W a l) => Small_any W a cp l h (fun f hf => by have := hfl f hf; omega) (by omega)
  rw [decide_eq_true hsum] at HS
  have HN := Lib.hid fun (W : World) (h : FAt W a l) => NewF_any W a cp l h hfl (by omega)
  have HM := Lib.hid fun (W : World) (h : FAt W a l) => RNew_any W (.slice a l.length cp) l h.files (by omega) (fun f hf => by have := hfl f hf; omega) (by omega)
  rw [new_eq] at HM
  have HFi : Hid ((newA l).2 = 0 → Fine (newA l).1) := Lib.hid (new_fine l fun f hf => by have := hfl f hf; omega)
  have HCl := Lib.hid (new_closed l)
  have HB := Lib.hid (askW_below w x y d most)
  have hz := askW_box w x y d most
  have HG := Lib.hid (hG.below HB.out)
  have HF := Lib.hid (hF.below HB.out)
  have hsz : w.heap.size + 1 < (askW w x y d most).heap.size := (Array.getElem?_eq_some_iff.1 hz).1
  have hi0 := idx0 x y
  have hi1 := idx1 x y
  have q2 : ¬ (2000 : Int) < (x.size : Int) + (y.size : Int) := by omega
  have q3 : ¬ (200 : Int) < (d.size : Int) := by omega
  clear hG hF hsum hlen hfl hsp
  generalize newA l = nr at *
  obtain ⟨s, code⟩ := nr
  go_enter Tryz.func3, Tryz.ntmps3
  go_wp2_with fail
  go_region
  change Exit.then _ _ Exit.normal _ (askW w x y d most)
  generalize askW w x y d most = W0 at *
  go_wp2_with fail
  refine (HL.out _ HG.out).mono ?_
  rintro e w1 ⟨rfl, B1⟩
  go_wp2_with fail
  refine (HS.out _ (HF.out.below B1)).mono ?_
  rintro e w2 ⟨rfl, B2⟩
  have B12 := Lib.hid (B1.trans (B2.mono B1.size))
  have hz2 := (B12.out.block _ hsz).trans hz
  have z0 := cell_at hz2 (i := 0) rfl
  have z1 := cell_at hz2 (i := 1) rfl
  clear B1 B2
  go_wp2_with fail
  refine (HN.out _ (HF.out.below B12.out)).mono ?_
  intro e w3 hpost
  by_cases hcode : code = 0
  · subst hcode
    unfold NewPost at hpost
    rw [if_pos rfl] at hpost
    obtain ⟨sb, bm, rfl, hsb, hbm, hS, B3⟩ := hpost
    have B13 := Lib.hid (B12.out.trans (B3.mono B12.out.size))
    have HSt := Lib.hid hS
    have HFin := Lib.hid (HFi.out rfl)
    have hsb2 : W0.heap.size ≤ sb := Nat.le_trans B12.out.size hsb
    have hbm2 : W0.heap.size ≤ bm := Nat.le_trans B12.out.size hbm
    have hz3 := (B13.out.block _ hsz).trans hz
    have y0 := cell_at hz3 (i := 0) rfl
    have y1 := cell_at hz3 (i := 1) rfl
    clear B3 hS HFi hsb hbm z0 z1 hz2
    go_wp2_with fail
    refine (HM.out _ (HF.out.below B13.out)).mono ?_
    rintro e w4 ⟨u, rfl, hu, hun, B4⟩
    obtain ⟨ua, un, uc, rfl⟩ := hu.shape
    have hP0 : Pair (w4.alloc (.cells #[.slice ua un uc, .int .i64 s.c] RS)) sb bm w4.heap.size s (.slice ua un uc) :=
      ⟨(HSt.out.below B4).below ((Below.refl _ _).alloc (Nat.le_refl _) _), HFin.out, HCl.out, heap_new _ _ rfl, hu.below ((Below.refl _ _).alloc (Nat.le_refl _) _)⟩
    have B14 := (B13.out.trans (B4.mono B13.out.size)).alloc (B13.out.trans (B4.mono B13.out.size)).size (.cells #[.slice ua un uc, .int .i64 s.c] RS)
    have hz4 := (B14.block _ hsz).trans hz
    have x0 := cell_at hz4 (i := 0) rfl
    have x1 := cell_at hz4 (i := 1) rfl
    have hmb : W0.heap.size ≤ w4.heap.size := Nat.le_trans B13.out.size B4.size
    have HP0 := Lib.hid hP0
    have HB14 := Lib.hid B14
    clear hP0 B4 hu hun B14 y0 y1 hz3 hz4 HSt HFin HCl
    go_wp2_with fail
    go_loopw [69] (fun v69 wr => RunsRel W0 sb bm w4.heap.size v69 wr) (fun i _ => 2 - (intOf i).toNat)
    case atStart => exact ⟨0, s, _, rfl, by omega, HP0.out, HB14.out⟩
    case round =>
      obtain ⟨n, s', u, rfl, hn, hP, hB⟩ := hrel
      clear HP0 HB14 x0 x1
      obtain ⟨MB, hMB⟩ : ∃ n, n = w4.heap.size := ⟨_, rfl⟩
      rw [← hMB] at hP hmb ⊢
      clear hMB
      obtain ⟨va, vn, vc, rfl⟩ := hP.files.shape
      obtain rfl | rfl | rfl : n = 0 ∨ n = 1 ∨ n = 2 := by omega
      · have HLi := Lib.hid fun (W : World) (h : Lx.Glob W) => Px.Line_any W x (by omega) h
        have hlns : x.size ≤ 2000 := by omega
        go_wp2_with fail
        refine (HLi.out _ (HG.out.below hB)).mono ?_
        cases ho : Pp.lineA (Lx.by8 x) with
        | none =>
          rintro e w5 ⟨rfl, B5⟩
          go_wp2_with fail
          go_ret
          exact ⟨rfl, HB.out.trans ((hB.trans (B5.mono hB.size)).mono HB.out.size)⟩
        | some L =>
          have hsz5 := Pp.line_size ho
          have hri := Pp.line_right ho
          rw [Lx.by8_len] at hsz5
          rintro e w5 ⟨⟨v, X, hX, rfl, hC⟩, B5⟩
          obtain ⟨xa, xc, rfl, _⟩ := hC.1.shape
          have hXl : X.length = L.length := by rw [← hX, List.length_map]
          have hXc : X.map (·.c) = L := hX
          have hwl : 2 * (200 + Hp.wL L) + 3 ≤ 100000 := by rw [wL_is]; omega
          have hfew : Px.Few X := ⟨by omega, fun z hz => by
            have := Pp.num_mem (l := L) (c := z.c) (by rw [← hX]; exact List.mem_map_of_mem hz)
            have h1 := this.1
            unfold Pp.C.num at h1
            omega⟩
          have hfewC : Px.FewC X := ⟨by omega, fun z hz => by
            have := Pp.num_mem (l := L) (c := z.c) (by rw [← hX]; exact List.mem_map_of_mem hz)
            have h1 := this.1
            unfold Pp.C.num at h1
            omega⟩
          have hP5 := hP.below B5
          have HB5 := Lib.hid (hB.trans (B5.mono hB.size))
          have hbd : (bs d).length ≤ 200 := by rw [bs_len]; exact hd
          have HC := Lib.hid hC
          have HP5 := Lib.hid hP5
          have hmx : d.size ≤ maxLen := Nat.le_trans hd (by decide)
          have hconv : IntKind.i64.wrap most = most := by rw [IntWalk.i64_in _ (by omega)]
          obtain ⟨gr, hgr⟩ : ∃ g, getR s'.L (bs d) = g := ⟨_, rfl⟩
          have HGet := Lib.hid fun (W : World) (h : RFiles W (.slice va vn vc) s'.L) => rget_any W (.slice va vn vc) s' d hP5.fine h gr (Lib.hid hgr)
          have hmlt : MB < w5.heap.size := (Array.getElem?_eq_some_iff.1 hP5.box).1
          have m0 : w5.cell? ⟨MB, 0, none⟩ = some (.slice va vn vc) := cell_at hP5.box rfl
          have m1 : w5.cell? ⟨MB, 1, none⟩ = some (.int .i64 s'.c) := cell_at hP5.box rfl
          by_cases hg : (gr.map (·.d)).getD false = true
          · obtain ⟨f, rfl⟩ : ∃ f, gr = some f := by
              cases gr with
              | none => cases hg
              | some f => exact ⟨f, rfl⟩
            have hfd : f.d = true := by simpa using hg
            obtain ⟨r, hr⟩ : ∃ r, Hp.lineA s' (bs d) L most = r := ⟨_, rfl⟩
            have hgo : Hp.Going ⟨s', bs d, 0, [], 0, 0⟩ 200 := ⟨hP5.fine, hP5.closed, hbd, Nat.zero_le _, fun _ => Nat.zero_le _⟩
            have hok := (Hp.run_ok L ⟨s', bs d, 0, [], 0, 0⟩ 200 most hgo hwl).1
            rw [show Hp.runA ⟨s', bs d, 0, [], 0, 0⟩ L most = r from hr] at hok
            have HOK := Lib.hid hok
            have HRun := Lib.hid fun (W : World) (hS : StoreAt W sb bm s'.L s'.c) (hX : Px.Cs W (fun b => b < W.heap.size ∧ b ≠ sb ∧ b ≠ bm) (.slice xa X.length xc) X) =>
              Run_any W s' d 200 xa xc X most hS hP5.fine hP5.closed hbd hmx hX hfew (by rw [hXc]; exact hwl) (by rw [hgr]; simpa using hfd) (by rw [hXc]; exact hri) r (by rw [hXc]; exact hr)
            have HOf := Lib.hid fun (W : World) (q : Nat) (hq : q < W.heap.size) (hX : Px.Cs W (fun b => b < W.heap.size ∧ b ≠ q) (.slice xa X.length xc) X) => Px.Of2_any W q hq xa xc X hX hfewC
            have HLine := Lib.hid fun (W : World) (qb : Nat) (v' : Value) (X' : List Px.CV) (hR : RefAt W qb (.slice va vn vc) ⟨s', bs d, 0, [], []⟩ 0 0 []) (hX' : Px.Cs W (fun b => b < W.heap.size ∧ b ≠ qb) v' X') (he : X'.map Px.CV.c = X.map Px.CV.c) =>
              show Calls Tryz.prog 12 #[.pointer (some ⟨qb, 0, none⟩), v', .int .i64 most] W (RLinePost W qb r) from by
                have e : X'.map (·.c) = L := he.trans hXc
                have el : X'.length = L.length := by rw [← e, List.length_map]
                have := rline_any W s' (bs d) 200 v' (.slice va vn vc) X' most hR hP5.fine hP5.closed hbd (Nat.le_refl _) hX' (fun z hz => right_ws hri _ (by rw [← e]; exact List.mem_map_of_mem hz)) (by rw [e]; exact hwl) ⟨by omega, fun z hz => by
                  have := Pp.num_mem (l := L) (c := z.c) (by rw [← e]; exact List.mem_map_of_mem hz)
                  have h1 := this.1
                  unfold Pp.C.num at h1
                  omega⟩
                rw [e, hr] at this
                exact this
            have hlen5 : r.s.L.length ≤ 100000 := by have := hok.fine.len; omega
            have HIs := Lib.hid fun (W : World) (u : Value) (hS : StoreAt W sb bm r.s.L r.s.c) (hR : RFiles W u r.s.L) => Is_any W hS hR hlen5
            have HCA := Lib.hid (cs_apart hP5.store hC)
            have hap := rfiles_apart hP5.store hP5.files
            have hmx2 := rbox_apart hP5.store rfl hP5.box
            clear hP hB hC hP5 hX hXl hXc hfew hfewC hri hsz5 ho hwl hg hbd B5 hgo hok hr hgr
            go_wp2_with fail
            refine (HRun.out _ HP5.out.store HCA.out).mono ?_
            rintro e w6 ⟨rfl, hS6, K6⟩
            have hRf6 : RFiles w6 (.slice va vn vc) s'.L := HP5.out.files.kept K6 fun b hb => by simp; exact hap b hb
            have hbox6 : w6.heap[MB]? = some (.cells #[.slice va vn vc, .int .i64 s'.c] RS (0, 0)) := (K6.block MB hmlt (by simp; exact hmx2)).trans HP5.out.box
            have hC6 : Px.Cs w6 (· < w6.heap.size) (.slice xa X.length xc) X := (HCA.out.keep fun b hb => K6.block b hb.1 (by simp; exact hb.2)).more fun b hb => Nat.lt_of_lt_of_le hb.1 K6.size
            have HB6 := Lib.hid (HB5.out.trans (K6.to_below (B := W0.heap.size) HB5.out.size (fun i hi => by simp at hi; rcases hi with rfl | rfl <;> assumption)))
            have nlt : MB < w6.heap.size := Nat.lt_of_lt_of_le hmlt K6.size
            have n0 : w6.cell? ⟨MB, 0, none⟩ = some (.slice va vn vc) := cell_at hbox6 rfl
            have n1 : w6.cell? ⟨MB, 1, none⟩ = some (.int .i64 s'.c) := cell_at hbox6 rfl
            have hsl6 := hS6.lt
            have hbl6 := hS6.map.lt
            have HRf6 := Lib.hid hRf6
            have HBox6 := Lib.hid hbox6
            have HC6 := Lib.hid hC6
            have HS6 := Lib.hid hS6
            clear m0 m1 K6 hRf6 hbox6 hC6 hS6 hap HRun HCA HC
            go_wp2_with fail
            refine (HGet.out _ (HRf6.out.below ((Below.refl _ _).alloc (Nat.le_refl _) _))).mono ?_
            rintro e w7 ⟨rfl, B7⟩
            have hbx := (B7.block w6.heap.size (by simp)).trans (heap_new w6 _ rfl)
            have B67 := ((Below.refl w6.heap.size w6).alloc (Nat.le_refl _) (.cells #[.int .i64 (r.status : Int), .string (str r.out), .int .i64 (r.ran : Int), .string (str r.d), .int .i64 r.code] resT)).trans (B7.mono (by simp))
            have HBx := Lib.hid hbx
            have rlt : w6.heap.size < w7.heap.size := (Array.getElem?_eq_some_iff.1 hbx).1
            have HB67 := Lib.hid B67
            have hbox7 := (B67.block MB nlt).trans HBox6.out
            have k0 : w7.cell? ⟨MB, 0, none⟩ = some (.slice va vn vc) := cell_at hbox7 rfl
            have k1 : w7.cell? ⟨MB, 1, none⟩ = some (.int .i64 s'.c) := cell_at hbox7 rfl
            have klt : MB < w7.heap.size := Nat.lt_of_lt_of_le nlt B67.size
            have HRA := Lib.hid fun o => show RefAt ((w7.alloc o).alloc (.cells #[.slice va vn vc, .int .i64 s'.c, .string d, .int .i64 0, .string ⟨#[]⟩, .int .i64 0, .int .i64 0, .string ⟨#[]⟩, .string ⟨#[]⟩] QT)) (w7.heap.size + 1) (.slice va vn vc) ⟨s', bs d, 0, [], []⟩ 0 0 [] from
              ⟨heap_new (w7.alloc o) (.cells #[.slice va vn vc, .int .i64 s'.c, .string d, .int .i64 0, .string ⟨#[]⟩, .int .i64 0, .int .i64 0, .string ⟨#[]⟩, .string ⟨#[]⟩] QT) (by simp), ((HRf6.out.below HB67.out).below ((Below.refl _ _).alloc (Nat.le_refl _) o)).below ((Below.refl _ _).alloc (Nat.le_refl _) _), fun b hb => by have h1 := HRf6.out.own_lt b hb; have h2 := HB67.out.size; omega⟩
            have HBW8 := Lib.hid fun o o2 => show Below w7.heap.size w7 ((w7.alloc o).alloc o2) from ((Below.refl _ _).alloc (Nat.le_refl _) o).alloc (by simp) o2
            have hs67 := B67.size
            clear hbx hbox7 B7 B67 n0 n1
            dsimp only [Option.getD, Option.isSome, fV]
            rw [hfd]
            go_wp2_with fail
            refine (HOf.out _ (w7.heap.size + 1) (by simp) (((HC6.out.keep fun b hb => (HB67.out.block b hb)).keep fun b hb => (HBW8.out _ _).block b (Nat.lt_of_lt_of_le hb hs67)).more fun b hb => ⟨by simp; omega, by omega⟩)).mono ?_
            rintro e w9 ⟨v', X', hX', rfl, hC', B9⟩
            obtain ⟨xa', xc', rfl, _⟩ := hC'.1.shape
            have HRA9 := Lib.hid ((HRA.out _).below B9)
            have HB79 := Lib.hid ((HBW8.out _ _).trans (B9.mono (HBW8.out _ _).size))
            have HCC := Lib.hid hC'
            have HXX := Lib.hid hX'
            clear hC' hX' B9
            go_wp2_with fail
            refine (HLine.out _ _ _ _ HRA9.out HCC.out HXX.out).mono ?_
            rintro e w10 ⟨rfl, ⟨v2, i2, o2, hR⟩, K10⟩
            obtain ⟨va2, vn2, vc2, rfl⟩ := hR.files.shape
            have hq9 := HB79.out.size
            have hbx10 := (K10.block w6.heap.size (by omega) (by simp; omega)).trans ((HB79.out.block _ rlt).trans HBx.out)
            have hbox10 := (K10.block MB (by omega) (by simp; omega)).trans ((HB79.out.block _ klt).trans ((HB67.out.block _ nlt).trans HBox6.out))
            have hS10 := ((HS6.out.below HB67.out).below HB79.out).kept K10 (by simp; omega) (by simp; omega)
            have f0 := frozen_at hbox10 0
            have f1 := frozen_at hbox10 1
            have b0 := cell_at hbox10 (i := 0) rfl
            have b1 := cell_at hbox10 (i := 1) rfl
            obtain ⟨g0, g1, g2, g3, g4, g5, g6, g7, g8⟩ := hR.cells
            dsimp only at g1 g2 g6
            have hmb2 : MB < w10.heap.size := (Array.getElem?_eq_some_iff.1 hbox10).1
            have hne2 := rfiles_box hR.files rfl hbox10
            have hmx10 := rbox_apart hS10 rfl hbox10
            have HS11 : Hid (StoreAt ((w10.setCell ⟨MB, 0, none⟩ (.slice va2 vn2 vc2)).setCell ⟨MB, 1, none⟩ (.int .i64 r.s.c)) sb bm r.s.L r.s.c) := Lib.hid (store_set (store_set hS10 hmx10.1 hmx10.2 _) hmx10.1 hmx10.2 _)
            have HF11 : Hid (RFiles ((w10.setCell ⟨MB, 0, none⟩ (.slice va2 vn2 vc2)).setCell ⟨MB, 1, none⟩ (.int .i64 r.s.c)) (.slice va2 vn2 vc2) r.s.L) := Lib.hid ((hR.files.setCell _ _ _ hne2).setCell _ _ _ hne2)
            have HX11 : Hid (((w10.setCell ⟨MB, 0, none⟩ (.slice va2 vn2 vc2)).setCell ⟨MB, 1, none⟩ (.int .i64 r.s.c)).heap[MB]? = some (.cells #[.slice va2 vn2 vc2, .int .i64 r.s.c] RS (0, 0))) := Lib.hid (heap_set3 (heap_set3 hbox10 (.slice va2 vn2 vc2)) (i := 1) (.int .i64 r.s.c))
            have hq11 : ((w10.setCell ⟨MB, 0, none⟩ (.slice va2 vn2 vc2)).setCell ⟨MB, 1, none⟩ (.int .i64 r.s.c)).heap[w7.heap.size + 1]? = w10.heap[w7.heap.size + 1]? := (Below.heap_setCell _ _ _ _ (by show w7.heap.size + 1 ≠ MB; omega)).trans (Below.heap_setCell _ _ _ _ (by show w7.heap.size + 1 ≠ MB; omega))
            have hr11 : ((w10.setCell ⟨MB, 0, none⟩ (.slice va2 vn2 vc2)).setCell ⟨MB, 1, none⟩ (.int .i64 r.s.c)).heap[w6.heap.size]? = w10.heap[w6.heap.size]? := (Below.heap_setCell _ _ _ _ (by show w6.heap.size ≠ MB; omega)).trans (Below.heap_setCell _ _ _ _ (by show w6.heap.size ≠ MB; omega))
            have HQ11 := Lib.hid (hq11.trans hR.box)
            have HR11 := Lib.hid (hr11.trans hbx10)
            have HB10 := Lib.hid ((((HB6.out.trans (HB67.out.mono HB6.out.size)).trans (HB79.out.mono (Nat.le_trans HB6.out.size hs67))).trans (K10.to_below (B := W0.heap.size) (by have := HB6.out.size; omega) (fun i hi => by have := HB6.out.size; simp at hi; omega))))
            have HB11 := Lib.hid ((HB10.out.setCell (p := ⟨MB, 0, none⟩) hmb (.slice va2 vn2 vc2)).setCell (p := ⟨MB, 1, none⟩) hmb (.int .i64 r.s.c))
            clear hbx10 hbox10 hS10 hR hne2 hmx10 hq11 hr11 K10
            go_wp2_with fail
            generalize (w10.setCell ⟨MB, 0, none⟩ (.slice va2 vn2 vc2)).setCell ⟨MB, 1, none⟩ (.int .i64 r.s.c) = w11 at *
            have a0 : w11.drew.cell? ⟨w6.heap.size, 0, none⟩ = some (.int .i64 (r.status : Int)) := cell_at HR11.out rfl
            have a1 : w11.drew.cell? ⟨w6.heap.size, 1, none⟩ = some (.string (str r.out)) := cell_at HR11.out rfl
            have a2 : w11.drew.cell? ⟨w6.heap.size, 2, none⟩ = some (.int .i64 (r.ran : Int)) := cell_at HR11.out rfl
            have a3 : w11.drew.cell? ⟨w6.heap.size, 3, none⟩ = some (.string (str r.d)) := cell_at HR11.out rfl
            have a4 : w11.drew.cell? ⟨w6.heap.size, 4, none⟩ = some (.int .i64 r.code) := cell_at HR11.out rfl
            have e2 : w11.drew.cell? ⟨w7.heap.size + 1, 2, none⟩ = some (.string (str r.d)) := cell_at HQ11.out rfl
            have e3 : w11.drew.cell? ⟨w7.heap.size + 1, 3, none⟩ = some (.int .i64 (r.status : Int)) := cell_at HQ11.out rfl
            have e4 : w11.drew.cell? ⟨w7.heap.size + 1, 4, none⟩ = some (.string (str r.out)) := cell_at HQ11.out rfl
            have e5 : w11.drew.cell? ⟨w7.heap.size + 1, 5, none⟩ = some (.int .i64 (r.ran : Int)) := cell_at HQ11.out rfl
            have e6 : w11.drew.cell? ⟨w7.heap.size + 1, 6, none⟩ = some (.int .i64 r.code) := cell_at HQ11.out rfl
            have j0 : w11.drew.cell? ⟨MB, 0, none⟩ = some (.slice va2 vn2 vc2) := cell_at HX11.out rfl
            have j1 : w11.drew.cell? ⟨MB, 1, none⟩ = some (.int .i64 r.s.c) := cell_at HX11.out rfl
            have hnq := fun W => neq_res W (r.status : Int) (r.ran : Int) r.code (str r.out) (str r.d)
            clear g0 g1 g2 g3 g4 g5 g6 g7 g8 b0 b1 f0 f1
            go_still_tail 26, (by kernel_rfl)
            change wpList _ _ _ _ _ w11.drew
            go_wp2_with fail
            have D11 : Below w11.heap.size w11 w11.drew := (Below.refl _ _).drew
            refine (HIs.out _ (.slice va2 vn2 vc2) (HS11.out.below D11) (HF11.out.below D11)).mono ?_
            rintro e w12 ⟨rfl, B12'⟩
            have hP12 : Pair w12 sb bm MB r.s (.slice va2 vn2 vc2) := (⟨HS11.out, HOK.out.fine, HOK.out.closed, HX11.out, HF11.out⟩ : Pair w11 sb bm MB r.s (.slice va2 vn2 vc2)).below (D11.trans (B12'.mono D11.size))
            have HP12 := Lib.hid hP12
            have HB12 := Lib.hid (below_then (below_then HB11.out (Nat.le_refl _) D11) (Nat.le_refl _) B12')
            clear hP12 D11 B12'
            go_wp2_with fail
            go_roundw
            case rel => exact ⟨1, r.s, _, by go_num, by omega, HP12.out, HB12.out⟩
            case measure => simp [intOf]
          · have hg2 : (gr.map (·.d)).getD false = false := by simpa using hg
            have HRun := Lib.hid fun (W : World) (hS : StoreAt W sb bm s'.L s'.c) (hX : Px.Cs W (· < W.heap.size) (.slice xa X.length xc) X) => Run_no W s' d xa xc X most hS hmx hX hfew (.inl (by rw [hgr]; exact hg2))
            have hlen5 : s'.L.length ≤ 100000 := by have := hP5.fine.len; omega
            have HIs := Lib.hid fun (W : World) (hS : StoreAt W sb bm s'.L s'.c) (hR : RFiles W (.slice va vn vc) s'.L) => Is_any W hS hR hlen5
            clear hP hB hC hP5 hX hXl hXc hfew hfewC hri hsz5 ho hwl hg hbd B5
            go_wp2_with fail
            refine (HRun.out _ HP5.out.store HC.out).mono ?_
            rintro e w6 ⟨rfl, B6⟩
            have HP6 := Lib.hid (HP5.out.below B6)
            have HP6a := Lib.hid fun o => HP6.out.below ((Below.refl w6.heap.size w6).alloc (Nat.le_refl _) o)
            have HB6 := Lib.hid (HB5.out.trans (B6.mono HB5.out.size))
            have n0 := (B6.cell (p := ⟨MB, 0, none⟩) hmlt).trans m0
            have n1 := (B6.cell (p := ⟨MB, 1, none⟩) hmlt).trans m1
            have nlt : MB < w6.heap.size := Nat.lt_of_lt_of_le hmlt B6.size
            clear m0 m1 B6
            go_wp2_with fail
            refine (HGet.out _ (HP6a.out _).files).mono ?_
            rintro e w7 ⟨rfl, B7⟩
            have hbx := (B7.block w6.heap.size (by simp)).trans (heap_new w6 _ rfl)
            have HP7 := Lib.hid ((HP6a.out _).below B7)
            have HP7a := Lib.hid fun o => HP7.out.below ((Below.refl w7.heap.size w7).alloc (Nat.le_refl _) o)
            have HB7 := Lib.hid ((HB6.out.alloc HB6.out.size _).trans (B7.mono (by have := HB6.out.size; simp; omega)))
            have r0 := cell_at hbx (i := 0) rfl
            have r1 := cell_at hbx (i := 1) rfl
            have r2 := cell_at hbx (i := 2) rfl
            have r3 := cell_at hbx (i := 3) rfl
            have r4 := cell_at hbx (i := 4) rfl
            have k0 : w7.cell? ⟨MB, 0, none⟩ = some (.slice va vn vc) := cell_at HP7.out.box rfl
            have k1 : w7.cell? ⟨MB, 1, none⟩ = some (.int .i64 s'.c) := cell_at HP7.out.box rfl
            have klt : MB < w7.heap.size := (Array.getElem?_eq_some_iff.1 HP7.out.box).1
            have rlt : w6.heap.size < w7.heap.size := (Array.getElem?_eq_some_iff.1 hbx).1
            have hq := fun W => eql_res W 1 0 1 ⟨#[]⟩ ⟨#[]⟩
            clear hbx n0 n1 nlt hgr
            cases gr with
            | none =>
              dsimp only [Option.getD, Option.isSome, fV, noF]
              go_wp2_with fail
              refine (HIs.out _ (HP7a.out _).store (HP7a.out _).files).mono ?_
              rintro e w8 ⟨rfl, B8⟩
              have HB8 := Lib.hid ((HB7.out.alloc HB7.out.size _).trans (B8.mono (by have := HB7.out.size; simp; omega)))
              go_wp2_with fail
              go_ret
              exact ⟨rfl, HB.out.trans (HB8.out.mono HB.out.size)⟩
            | some f =>
              have hfd : f.d = false := by simpa using hg2
              dsimp only [Option.getD, Option.isSome, fV]
              rw [hfd]
              go_wp2_with fail
              refine (HIs.out _ (HP7a.out _).store (HP7a.out _).files).mono ?_
              rintro e w8 ⟨rfl, B8⟩
              have HB8 := Lib.hid ((HB7.out.alloc HB7.out.size _).trans (B8.mono (by have := HB7.out.size; simp; omega)))
              go_wp2_with fail
              go_ret
              exact ⟨rfl, HB.out.trans (HB8.out.mono HB.out.size)⟩
      · have HLi := Lib.hid fun (W : World) (h : Lx.Glob W) => Px.Line_any W y (by omega) h
        have hlns : y.size ≤ 2000 := by omega
        go_wp2_with fail
        refine (HLi.out _ (HG.out.below hB)).mono ?_
        cases ho : Pp.lineA (Lx.by8 y) with
        | none =>
          rintro e w5 ⟨rfl, B5⟩
          go_wp2_with fail
          go_ret
          exact ⟨rfl, HB.out.trans ((hB.trans (B5.mono hB.size)).mono HB.out.size)⟩
        | some L =>
          have hsz5 := Pp.line_size ho
          have hri := Pp.line_right ho
          rw [Lx.by8_len] at hsz5
          rintro e w5 ⟨⟨v, X, hX, rfl, hC⟩, B5⟩
          obtain ⟨xa, xc, rfl, _⟩ := hC.1.shape
          have hXl : X.length = L.length := by rw [← hX, List.length_map]
          have hXc : X.map (·.c) = L := hX
          have hwl : 2 * (200 + Hp.wL L) + 3 ≤ 100000 := by rw [wL_is]; omega
          have hfew : Px.Few X := ⟨by omega, fun z hz => by
            have := Pp.num_mem (l := L) (c := z.c) (by rw [← hX]; exact List.mem_map_of_mem hz)
            have h1 := this.1
            unfold Pp.C.num at h1
            omega⟩
          have hfewC : Px.FewC X := ⟨by omega, fun z hz => by
            have := Pp.num_mem (l := L) (c := z.c) (by rw [← hX]; exact List.mem_map_of_mem hz)
            have h1 := this.1
            unfold Pp.C.num at h1
            omega⟩
          have hP5 := hP.below B5
          have HB5 := Lib.hid (hB.trans (B5.mono hB.size))
          have hbd : (bs d).length ≤ 200 := by rw [bs_len]; exact hd
          have HC := Lib.hid hC
          have HP5 := Lib.hid hP5
          have hmx : d.size ≤ maxLen := Nat.le_trans hd (by decide)
          have hconv : IntKind.i64.wrap most = most := by rw [IntWalk.i64_in _ (by omega)]
          obtain ⟨gr, hgr⟩ : ∃ g, getR s'.L (bs d) = g := ⟨_, rfl⟩
          have HGet := Lib.hid fun (W : World) (h : RFiles W (.slice va vn vc) s'.L) => rget_any W (.slice va vn vc) s' d hP5.fine h gr (Lib.hid hgr)
          have hmlt : MB < w5.heap.size := (Array.getElem?_eq_some_iff.1 hP5.box).1
          have m0 : w5.cell? ⟨MB, 0, none⟩ = some (.slice va vn vc) := cell_at hP5.box rfl
          have m1 : w5.cell? ⟨MB, 1, none⟩ = some (.int .i64 s'.c) := cell_at hP5.box rfl
          by_cases hg : (gr.map (·.d)).getD false = true
          · obtain ⟨f, rfl⟩ : ∃ f, gr = some f := by
              cases gr with
              | none => cases hg
              | some f => exact ⟨f, rfl⟩
            have hfd : f.d = true := by simpa using hg
            obtain ⟨r, hr⟩ : ∃ r, Hp.lineA s' (bs d) L most = r := ⟨_, rfl⟩
            have hgo : Hp.Going ⟨s', bs d, 0, [], 0, 0⟩ 200 := ⟨hP5.fine, hP5.closed, hbd, Nat.zero_le _, fun _ => Nat.zero_le _⟩
            have hok := (Hp.run_ok L ⟨s', bs d, 0, [], 0, 0⟩ 200 most hgo hwl).1
            rw [show Hp.runA ⟨s', bs d, 0, [], 0, 0⟩ L most = r from hr] at hok
            have HOK := Lib.hid hok
            have HRun := Lib.hid fun (W : World) (hS : StoreAt W sb bm s'.L s'.c) (hX : Px.Cs W (fun b => b < W.heap.size ∧ b ≠ sb ∧ b ≠ bm) (.slice xa X.length xc) X) =>
              Run_any W s' d 200 xa xc X most hS hP5.fine hP5.closed hbd hmx hX hfew (by rw [hXc]; exact hwl) (by rw [hgr]; simpa using hfd) (by rw [hXc]; exact hri) r (by rw [hXc]; exact hr)
            have HOf := Lib.hid fun (W : World) (q : Nat) (hq : q < W.heap.size) (hX : Px.Cs W (fun b => b < W.heap.size ∧ b ≠ q) (.slice xa X.length xc) X) => Px.Of2_any W q hq xa xc X hX hfewC
            have HLine := Lib.hid fun (W : World) (qb : Nat) (v' : Value) (X' : List Px.CV) (hR : RefAt W qb (.slice va vn vc) ⟨s', bs d, 0, [], []⟩ 0 0 []) (hX' : Px.Cs W (fun b => b < W.heap.size ∧ b ≠ qb) v' X') (he : X'.map Px.CV.c = X.map Px.CV.c) =>
              show Calls Tryz.prog 12 #[.pointer (some ⟨qb, 0, none⟩), v', .int .i64 most] W (RLinePost W qb r) from by
                have e : X'.map (·.c) = L := he.trans hXc
                have el : X'.length = L.length := by rw [← e, List.length_map]
                have := rline_any W s' (bs d) 200 v' (.slice va vn vc) X' most hR hP5.fine hP5.closed hbd (Nat.le_refl _) hX' (fun z hz => right_ws hri _ (by rw [← e]; exact List.mem_map_of_mem hz)) (by rw [e]; exact hwl) ⟨by omega, fun z hz => by
                  have := Pp.num_mem (l := L) (c := z.c) (by rw [← e]; exact List.mem_map_of_mem hz)
                  have h1 := this.1
                  unfold Pp.C.num at h1
                  omega⟩
                rw [e, hr] at this
                exact this
            have hlen5 : r.s.L.length ≤ 100000 := by have := hok.fine.len; omega
            have HIs := Lib.hid fun (W : World) (u : Value) (hS : StoreAt W sb bm r.s.L r.s.c) (hR : RFiles W u r.s.L) => Is_any W hS hR hlen5
            have HCA := Lib.hid (cs_apart hP5.store hC)
            have hap := rfiles_apart hP5.store hP5.files
            have hmx2 := rbox_apart hP5.store rfl hP5.box
            clear hP hB hC hP5 hX hXl hXc hfew hfewC hri hsz5 ho hwl hg hbd B5 hgo hok hr hgr
            go_wp2_with fail
            refine (HRun.out _ HP5.out.store HCA.out).mono ?_
            rintro e w6 ⟨rfl, hS6, K6⟩
            have hRf6 : RFiles w6 (.slice va vn vc) s'.L := HP5.out.files.kept K6 fun b hb => by simp; exact hap b hb
            have hbox6 : w6.heap[MB]? = some (.cells #[.slice va vn vc, .int .i64 s'.c] RS (0, 0)) := (K6.block MB hmlt (by simp; exact hmx2)).trans HP5.out.box
            have hC6 : Px.Cs w6 (· < w6.heap.size) (.slice xa X.length xc) X := (HCA.out.keep fun b hb => K6.block b hb.1 (by simp; exact hb.2)).more fun b hb => Nat.lt_of_lt_of_le hb.1 K6.size
            have HB6 := Lib.hid (HB5.out.trans (K6.to_below (B := W0.heap.size) HB5.out.size (fun i hi => by simp at hi; rcases hi with rfl | rfl <;> assumption)))
            have nlt : MB < w6.heap.size := Nat.lt_of_lt_of_le hmlt K6.size
            have n0 : w6.cell? ⟨MB, 0, none⟩ = some (.slice va vn vc) := cell_at hbox6 rfl
            have n1 : w6.cell? ⟨MB, 1, none⟩ = some (.int .i64 s'.c) := cell_at hbox6 rfl
            have hsl6 := hS6.lt
            have hbl6 := hS6.map.lt
            have HRf6 := Lib.hid hRf6
            have HBox6 := Lib.hid hbox6
            have HC6 := Lib.hid hC6
            have HS6 := Lib.hid hS6
            clear m0 m1 K6 hRf6 hbox6 hC6 hS6 hap HRun HCA HC
            go_wp2_with fail
            refine (HGet.out _ (HRf6.out.below ((Below.refl _ _).alloc (Nat.le_refl _) _))).mono ?_
            rintro e w7 ⟨rfl, B7⟩
            have hbx := (B7.block w6.heap.size (by simp)).trans (heap_new w6 _ rfl)
            have B67 := ((Below.refl w6.heap.size w6).alloc (Nat.le_refl _) (.cells #[.int .i64 (r.status : Int), .string (str r.out), .int .i64 (r.ran : Int), .string (str r.d), .int .i64 r.code] resT)).trans (B7.mono (by simp))
            have HBx := Lib.hid hbx
            have rlt : w6.heap.size < w7.heap.size := (Array.getElem?_eq_some_iff.1 hbx).1
            have HB67 := Lib.hid B67
            have hbox7 := (B67.block MB nlt).trans HBox6.out
            have k0 : w7.cell? ⟨MB, 0, none⟩ = some (.slice va vn vc) := cell_at hbox7 rfl
            have k1 : w7.cell? ⟨MB, 1, none⟩ = some (.int .i64 s'.c) := cell_at hbox7 rfl
            have klt : MB < w7.heap.size := Nat.lt_of_lt_of_le nlt B67.size
            have HRA := Lib.hid fun o => show RefAt ((w7.alloc o).alloc (.cells #[.slice va vn vc, .int .i64 s'.c, .string d, .int .i64 0, .string ⟨#[]⟩, .int .i64 0, .int .i64 0, .string ⟨#[]⟩, .string ⟨#[]⟩] QT)) (w7.heap.size + 1) (.slice va vn vc) ⟨s', bs d, 0, [], []⟩ 0 0 [] from
              ⟨heap_new (w7.alloc o) (.cells #[.slice va vn vc, .int .i64 s'.c, .string d, .int .i64 0, .string ⟨#[]⟩, .int .i64 0, .int .i64 0, .string ⟨#[]⟩, .string ⟨#[]⟩] QT) (by simp), ((HRf6.out.below HB67.out).below ((Below.refl _ _).alloc (Nat.le_refl _) o)).below ((Below.refl _ _).alloc (Nat.le_refl _) _), fun b hb => by have h1 := HRf6.out.own_lt b hb; have h2 := HB67.out.size; omega⟩
            have HBW8 := Lib.hid fun o o2 => show Below w7.heap.size w7 ((w7.alloc o).alloc o2) from ((Below.refl _ _).alloc (Nat.le_refl _) o).alloc (by simp) o2
            have hs67 := B67.size
            clear hbx hbox7 B7 B67 n0 n1
            dsimp only [Option.getD, Option.isSome, fV]
            rw [hfd]
            go_wp2_with fail
            refine (HOf.out _ (w7.heap.size + 1) (by simp) (((HC6.out.keep fun b hb => (HB67.out.block b hb)).keep fun b hb => (HBW8.out _ _).block b (Nat.lt_of_lt_of_le hb hs67)).more fun b hb => ⟨by simp; omega, by omega⟩)).mono ?_
            rintro e w9 ⟨v', X', hX', rfl, hC', B9⟩
            obtain ⟨xa', xc', rfl, _⟩ := hC'.1.shape
            have HRA9 := Lib.hid ((HRA.out _).below B9)
            have HB79 := Lib.hid ((HBW8.out _ _).trans (B9.mono (HBW8.out _ _).size))
            have HCC := Lib.hid hC'
            have HXX := Lib.hid hX'
            clear hC' hX' B9
            go_wp2_with fail
            refine (HLine.out _ _ _ _ HRA9.out HCC.out HXX.out).mono ?_
            rintro e w10 ⟨rfl, ⟨v2, i2, o2, hR⟩, K10⟩
            obtain ⟨va2, vn2, vc2, rfl⟩ := hR.files.shape
            have hq9 := HB79.out.size
            have hbx10 := (K10.block w6.heap.size (by omega) (by simp; omega)).trans ((HB79.out.block _ rlt).trans HBx.out)
            have hbox10 := (K10.block MB (by omega) (by simp; omega)).trans ((HB79.out.block _ klt).trans ((HB67.out.block _ nlt).trans HBox6.out))
            have hS10 := ((HS6.out.below HB67.out).below HB79.out).kept K10 (by simp; omega) (by simp; omega)
            have f0 := frozen_at hbox10 0
            have f1 := frozen_at hbox10 1
            have b0 := cell_at hbox10 (i := 0) rfl
            have b1 := cell_at hbox10 (i := 1) rfl
            obtain ⟨g0, g1, g2, g3, g4, g5, g6, g7, g8⟩ := hR.cells
            dsimp only at g1 g2 g6
            have hmb2 : MB < w10.heap.size := (Array.getElem?_eq_some_iff.1 hbox10).1
            have hne2 := rfiles_box hR.files rfl hbox10
            have hmx10 := rbox_apart hS10 rfl hbox10
            have HS11 : Hid (StoreAt ((w10.setCell ⟨MB, 0, none⟩ (.slice va2 vn2 vc2)).setCell ⟨MB, 1, none⟩ (.int .i64 r.s.c)) sb bm r.s.L r.s.c) := Lib.hid (store_set (store_set hS10 hmx10.1 hmx10.2 _) hmx10.1 hmx10.2 _)
            have HF11 : Hid (RFiles ((w10.setCell ⟨MB, 0, none⟩ (.slice va2 vn2 vc2)).setCell ⟨MB, 1, none⟩ (.int .i64 r.s.c)) (.slice va2 vn2 vc2) r.s.L) := Lib.hid ((hR.files.setCell _ _ _ hne2).setCell _ _ _ hne2)
            have HX11 : Hid (((w10.setCell ⟨MB, 0, none⟩ (.slice va2 vn2 vc2)).setCell ⟨MB, 1, none⟩ (.int .i64 r.s.c)).heap[MB]? = some (.cells #[.slice va2 vn2 vc2, .int .i64 r.s.c] RS (0, 0))) := Lib.hid (heap_set3 (heap_set3 hbox10 (.slice va2 vn2 vc2)) (i := 1) (.int .i64 r.s.c))
            have hq11 : ((w10.setCell ⟨MB, 0, none⟩ (.slice va2 vn2 vc2)).setCell ⟨MB, 1, none⟩ (.int .i64 r.s.c)).heap[w7.heap.size + 1]? = w10.heap[w7.heap.size + 1]? := (Below.heap_setCell _ _ _ _ (by show w7.heap.size + 1 ≠ MB; omega)).trans (Below.heap_setCell _ _ _ _ (by show w7.heap.size + 1 ≠ MB; omega))
            have hr11 : ((w10.setCell ⟨MB, 0, none⟩ (.slice va2 vn2 vc2)).setCell ⟨MB, 1, none⟩ (.int .i64 r.s.c)).heap[w6.heap.size]? = w10.heap[w6.heap.size]? := (Below.heap_setCell _ _ _ _ (by show w6.heap.size ≠ MB; omega)).trans (Below.heap_setCell _ _ _ _ (by show w6.heap.size ≠ MB; omega))
            have HQ11 := Lib.hid (hq11.trans hR.box)
            have HR11 := Lib.hid (hr11.trans hbx10)
            have HB10 := Lib.hid ((((HB6.out.trans (HB67.out.mono HB6.out.size)).trans (HB79.out.mono (Nat.le_trans HB6.out.size hs67))).trans (K10.to_below (B := W0.heap.size) (by have := HB6.out.size; omega) (fun i hi => by have := HB6.out.size; simp at hi; omega))))
            have HB11 := Lib.hid ((HB10.out.setCell (p := ⟨MB, 0, none⟩) hmb (.slice va2 vn2 vc2)).setCell (p := ⟨MB, 1, none⟩) hmb (.int .i64 r.s.c))
            clear hbx10 hbox10 hS10 hR hne2 hmx10 hq11 hr11 K10
            go_wp2_with fail
            generalize (w10.setCell ⟨MB, 0, none⟩ (.slice va2 vn2 vc2)).setCell ⟨MB, 1, none⟩ (.int .i64 r.s.c) = w11 at *
            have a0 : w11.drew.cell? ⟨w6.heap.size, 0, none⟩ = some (.int .i64 (r.status : Int)) := cell_at HR11.out rfl
            have a1 : w11.drew.cell? ⟨w6.heap.size, 1, none⟩ = some (.string (str r.out)) := cell_at HR11.out rfl
            have a2 : w11.drew.cell? ⟨w6.heap.size, 2, none⟩ = some (.int .i64 (r.ran : Int)) := cell_at HR11.out rfl
            have a3 : w11.drew.cell? ⟨w6.heap.size, 3, none⟩ = some (.string (str r.d)) := cell_at HR11.out rfl
            have a4 : w11.drew.cell? ⟨w6.heap.size, 4, none⟩ = some (.int .i64 r.code) := cell_at HR11.out rfl
            have e2 : w11.drew.cell? ⟨w7.heap.size + 1, 2, none⟩ = some (.string (str r.d)) := cell_at HQ11.out rfl
            have e3 : w11.drew.cell? ⟨w7.heap.size + 1, 3, none⟩ = some (.int .i64 (r.status : Int)) := cell_at HQ11.out rfl
            have e4 : w11.drew.cell? ⟨w7.heap.size + 1, 4, none⟩ = some (.string (str r.out)) := cell_at HQ11.out rfl
            have e5 : w11.drew.cell? ⟨w7.heap.size + 1, 5, none⟩ = some (.int .i64 (r.ran : Int)) := cell_at HQ11.out rfl
            have e6 : w11.drew.cell? ⟨w7.heap.size + 1, 6, none⟩ = some (.int .i64 r.code) := cell_at HQ11.out rfl
            have j0 : w11.drew.cell? ⟨MB, 0, none⟩ = some (.slice va2 vn2 vc2) := cell_at HX11.out rfl
            have j1 : w11.drew.cell? ⟨MB, 1, none⟩ = some (.int .i64 r.s.c) := cell_at HX11.out rfl
            have hnq := fun W => neq_res W (r.status : Int) (r.ran : Int) r.code (str r.out) (str r.d)
            clear g0 g1 g2 g3 g4 g5 g6 g7 g8 b0 b1 f0 f1
            go_still_tail 26, (by kernel_rfl)
            change wpList _ _ _ _ _ w11.drew
            go_wp2_with fail
            have D11 : Below w11.heap.size w11 w11.drew := (Below.refl _ _).drew
            refine (HIs.out _ (.slice va2 vn2 vc2) (HS11.out.below D11) (HF11.out.below D11)).mono ?_
            rintro e w12 ⟨rfl, B12'⟩
            have hP12 : Pair w12 sb bm MB r.s (.slice va2 vn2 vc2) := (⟨HS11.out, HOK.out.fine, HOK.out.closed, HX11.out, HF11.out⟩ : Pair w11 sb bm MB r.s (.slice va2 vn2 vc2)).below (D11.trans (B12'.mono D11.size))
            have HP12 := Lib.hid hP12
            have HB12 := Lib.hid (below_then (below_then HB11.out (Nat.le_refl _) D11) (Nat.le_refl _) B12')
            clear hP12 D11 B12'
            go_wp2_with fail
            go_roundw
            case rel => exact ⟨2, r.s, _, by go_num, by omega, HP12.out, HB12.out⟩
            case measure => simp [intOf]
          · have hg2 : (gr.map (·.d)).getD false = false := by simpa using hg
            have HRun := Lib.hid fun (W : World) (hS : StoreAt W sb bm s'.L s'.c) (hX : Px.Cs W (· < W.heap.size) (.slice xa X.length xc) X) => Run_no W s' d xa xc X most hS hmx hX hfew (.inl (by rw [hgr]; exact hg2))
            have hlen5 : s'.L.length ≤ 100000 := by have := hP5.fine.len; omega
            have HIs := Lib.hid fun (W : World) (hS : StoreAt W sb bm s'.L s'.c) (hR : RFiles W (.slice va vn vc) s'.L) => Is_any W hS hR hlen5
            clear hP hB hC hP5 hX hXl hXc hfew hfewC hri hsz5 ho hwl hg hbd B5
            go_wp2_with fail
            refine (HRun.out _ HP5.out.store HC.out).mono ?_
            rintro e w6 ⟨rfl, B6⟩
            have HP6 := Lib.hid (HP5.out.below B6)
            have HP6a := Lib.hid fun o => HP6.out.below ((Below.refl w6.heap.size w6).alloc (Nat.le_refl _) o)
            have HB6 := Lib.hid (HB5.out.trans (B6.mono HB5.out.size))
            have n0 := (B6.cell (p := ⟨MB, 0, none⟩) hmlt).trans m0
            have n1 := (B6.cell (p := ⟨MB, 1, none⟩) hmlt).trans m1
            have nlt : MB < w6.heap.size := Nat.lt_of_lt_of_le hmlt B6.size
            clear m0 m1 B6
            go_wp2_with fail
            refine (HGet.out _ (HP6a.out _).files).mono ?_
            rintro e w7 ⟨rfl, B7⟩
            have hbx := (B7.block w6.heap.size (by simp)).trans (heap_new w6 _ rfl)
            have HP7 := Lib.hid ((HP6a.out _).below B7)
            have HP7a := Lib.hid fun o => HP7.out.below ((Below.refl w7.heap.size w7).alloc (Nat.le_refl _) o)
            have HB7 := Lib.hid ((HB6.out.alloc HB6.out.size _).trans (B7.mono (by have := HB6.out.size; simp; omega)))
            have r0 := cell_at hbx (i := 0) rfl
            have r1 := cell_at hbx (i := 1) rfl
            have r2 := cell_at hbx (i := 2) rfl
            have r3 := cell_at hbx (i := 3) rfl
            have r4 := cell_at hbx (i := 4) rfl
            have k0 : w7.cell? ⟨MB, 0, none⟩ = some (.slice va vn vc) := cell_at HP7.out.box rfl
            have k1 : w7.cell? ⟨MB, 1, none⟩ = some (.int .i64 s'.c) := cell_at HP7.out.box rfl
            have klt : MB < w7.heap.size := (Array.getElem?_eq_some_iff.1 HP7.out.box).1
            have rlt : w6.heap.size < w7.heap.size := (Array.getElem?_eq_some_iff.1 hbx).1
            have hq := fun W => eql_res W 1 0 1 ⟨#[]⟩ ⟨#[]⟩
            clear hbx n0 n1 nlt hgr
            cases gr with
            | none =>
              dsimp only [Option.getD, Option.isSome, fV, noF]
              go_wp2_with fail
              refine (HIs.out _ (HP7a.out _).store (HP7a.out _).files).mono ?_
              rintro e w8 ⟨rfl, B8⟩
              have HB8 := Lib.hid ((HB7.out.alloc HB7.out.size _).trans (B8.mono (by have := HB7.out.size; simp; omega)))
              go_wp2_with fail
              go_ret
              exact ⟨rfl, HB.out.trans (HB8.out.mono HB.out.size)⟩
            | some f =>
              have hfd : f.d = false := by simpa using hg2
              dsimp only [Option.getD, Option.isSome, fV]
              rw [hfd]
              go_wp2_with fail
              refine (HIs.out _ (HP7a.out _).store (HP7a.out _).files).mono ?_
              rintro e w8 ⟨rfl, B8⟩
              have HB8 := Lib.hid ((HB7.out.alloc HB7.out.size _).trans (B8.mono (by have := HB7.out.size; simp; omega)))
              go_wp2_with fail
              go_ret
              exact ⟨rfl, HB.out.trans (HB8.out.mono HB.out.size)⟩
      · go_wp2_with fail
        go_ret
        exact ⟨rfl, HB.out.trans (hB.mono HB.out.size)⟩
  · unfold NewPost at hpost
    rw [if_neg hcode] at hpost
    obtain ⟨rfl, B3⟩ := hpost
    have B13 := Lib.hid (B12.out.trans (B3.mono B12.out.size))
    have hq : (code != 0) = true := by simpa using hcode
    have hq2 : (code == code) = true := by simp
    clear B3 hcode z0 z1 hz2
    go_wp2_with fail
    refine (HM.out _ (HF.out.below B13.out)).mono ?_
    rintro e w4 ⟨u, rfl, hu, hun, B4⟩
    obtain ⟨ua, un, uc, rfl⟩ := hu.shape
    have B14 := (B13.out.trans (B4.mono B13.out.size)).alloc (B13.out.trans (B4.mono B13.out.size)).size (.cells #[.slice ua un uc, .int .i64 s.c] RS)
    have HB14 := Lib.hid B14
    clear B4 hu hun B14
    go_wp2_with fail
    go_ret
    exact ⟨rfl, HB.out.trans (HB14.out.mono HB.out.size)⟩
end Go.Proofs.YteommneijlelkaaGreatDoor.Hx
