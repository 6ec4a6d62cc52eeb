/-
  (*run).redirect: the redirections of a command.
  strings.Builder, wherever it lies: copyCheck, Len, WriteString, String.
-/
import Derived.Deep.RegionHeld3
import Derived.Test.YteommneijlelkaaGreatDoorQHWorld
import Derived.Lib.Builder
import Derived.Lib.UnsafeStr
import Derived.Laws.Externs
import Derived.Lib.Strings
import Derived.Lib.AppendStr
namespace Go.Proofs.YteommneijlelkaaGreatDoor.Hx
open Go.RowKit Go.Proofs.YteommneijlelkaaGreatDoor Go.Maps Go.Proofs.YteommneijlelkaaGreatDoor.Sw
set_option maxRecDepth 100000

/-- Blocks that no run turns. -/
abbrev Old (rb sb bm : Nat) : Nat → Prop := fun b => b < rb ∧ b ≠ sb ∧ b ≠ bm
theorem kept_old {X : List Nat} {w w' : World} {rb sb bm : Nat} (hK : Kept X w w') (hX : ∀ i ∈ X, i = sb ∨ i = bm ∨ rb ≤ i) (hl : rb < w.heap.size) : ∀ b, Old rb sb bm b → w'.heap[b]? = w.heap[b]? := fun b hb =>
  hK.block b (Nat.lt_trans hb.1 hl) fun h => by
    rcases hX b h with e | e | e
    · exact hb.2.1 e
    · exact hb.2.2 e
    · exact absurd hb.1 (Nat.not_lt.2 e)

section
variable {rb sb bm : Nat} {st ran : Int} {pv bv : Value}
/-- What redirect returns. -/
def RedPost (w : World) (rb sb bm : Nat) (st ran : Int) (pv bv : Value) (r : Hp.K × Option Bs) (e : Ending) (w' : World) : Prop :=
  (match r.2 with
   | some d => e = .returned (.tuple #[.string (str d), .int .i64 0]) ∧ RunAt w' rb sb bm r.1 st ran pv bv
   | none => (if r.1.code = 0 then e = .returned (.tuple #[.string ⟨#[]⟩, .int .i64 1]) else e = endE r.1.code) ∧ ∃ i, RunAt w' rb sb bm ⟨r.1.s, r.1.d, r.1.code, i, r.1.outp⟩ st ran pv bv) ∧ Kept [rb, sb, bm] w w'
def RdRel (w : World) (rb sb bm : Nat) (st ran : Int) (pv bv : Value) (k : Hp.K) (m : Nat) (l : List Pp.G) (v6 v14 : Value) (wr : World) : Prop :=
  ∃ (n : Nat) (k' : Hp.K) (d : Bs), n ≤ l.length ∧ v14 = .int .i64 n ∧ v6 = .string (str d) ∧ RunAt wr rb sb bm k' st ran pv bv ∧ Hp.Ok k' m ∧ k'.code = 0 ∧ Hp.openA k l [] = Hp.openA k' (l.drop n) d ∧ Kept [rb, sb, bm] w wr

theorem open_cons_no {k : Hp.K} {g : Pp.G} {r : List Pp.G} {d : Bs} (h : Hp.joinP k.d g.p = none) : Hp.openA k (g :: r) d = (k, none) := by
  conv => lhs; unfold Hp.openA
  rw [h]
theorem open_cons_in {k : Hp.K} {g : Pp.G} {r : List Pp.G} {d p : Bs} (h : Hp.joinP k.d g.p = some p) (h6 : g.k = 6) : Hp.openA k (g :: r) d = if (Hp.readP k p).2 = 0 then Hp.openA ⟨k.s, k.d, k.code, (Hp.readP k p).1, k.outp⟩ r d else (k, none) := by
  conv => lhs; unfold Hp.openA
  rw [h]
  exact if_pos h6
theorem open_cons_out {k : Hp.K} {g : Pp.G} {r : List Pp.G} {d p : Bs} (h : Hp.joinP k.d g.p = some p) (h6 : g.k ≠ 6) : Hp.openA k (g :: r) d =
    if (k.took (Sw.writeA k.s p [] (decide (g.k = 5)))).2 = 0 then Hp.openA (k.took (Sw.writeA k.s p [] (decide (g.k = 5)))).1 r p else ((k.took (Sw.writeA k.s p [] (decide (g.k = 5)))).1, none) := by
  conv => lhs; unfold Hp.openA
  rw [h]
  exact if_neg h6
theorem read_code (k : Hp.K) (p : Bs) : (Hp.readP k p).2 = 0 ∨ ((Hp.readP k p).1 = [] ∧ (Hp.readP k p).2 ≠ 0 ∧ (Hp.readP k p).2 ≠ 5 ∧ (Hp.readP k p).2 ≠ 12) := by
  unfold Hp.readP readA
  split
  · right; simp
  · split
    · right; simp
    · left; rfl

set_option maxHeartbeats 2000000 in
theorem redirect_any (w : World) (k : Hp.K) (m : Nat) (v : Value) (l : List Pp.G) (hR : RunAt w rb sb bm k st ran pv bv) (hO : Hp.Ok k m) (h0 : k.code = 0) (hv : Px.Rg w (Old rb sb bm) v l.length (Px.tgsC l)) (hl : ∀ g ∈ l, m + g.p.length + 2 ≤ 100000) (hll : l.length ≤ 1000000) :
    Calls Tryz.prog 87 #[.pointer (some ⟨rb, 0, none⟩), v] w (RedPost w rb sb bm st ran pv bv (Hp.openA k l [])) := by
  obtain ⟨a, c, rfl, hc⟩ := hv.shape
  have HV := Lib.hid hv
  have HL := Lib.hid hl
  have hlt := hR.lt
  clear hv hl
  go_enter Tryz.func87, Tryz.ntmps87
  go_wp2_with fail
  go_loopw [6, 14] (fun v6 v14 wr => RdRel w rb sb bm st ran pv bv k m l v6 v14 wr) (fun _ i _ => l.length - (intOf i).toNat)
  case atStart => exact ⟨0, k, [], Nat.zero_le _, rfl, rfl, hR, hO, h0, rfl, Kept.refl _ _⟩
  case round =>
    obtain ⟨n, k', d, hn, rfl, rfl, hR', hO', h0', he, hK⟩ := hrel
    by_cases hlt2 : n < l.length
    · obtain ⟨b, o, rfl, hcp, hp, hx⟩ := Px.tos_cells HV.out (by omega)
      obtain ⟨x0, x1⟩ := hx n hlt2
      have hg : l.drop n = l[n] :: l.drop (n + 1) := List.drop_eq_getElem_cons hlt2
      have hsz := HL.out _ (List.getElem_mem hlt2)
      obtain ⟨⟨gk, gp⟩, hgn⟩ : ∃ g, l[n] = g := ⟨_, rfl⟩
      rw [hgn] at x0 x1 hg hsz
      rw [hg] at he
      dsimp only at x0 x1 hsz
      rw [lstr] at x1
      have hkeep := kept_old hK (by simp [hR'.n1]) hlt b hp
      have e0 : wr.cell? ⟨b, o + n * 2, none⟩ = some (.int .i64 gk) := (World.cell?_of_block (a := ⟨b, o + n * 2, none⟩) hkeep).trans x0
      have e1 : wr.cell? ⟨b, o + n * 2 + 1, none⟩ = some (.string (str gp)) := (World.cell?_of_block (a := ⟨b, o + n * 2 + 1, none⟩) hkeep).trans x1
      have HKw : Hid (Kept [rb, sb, bm] w wr) := Lib.hid hK
      have hd := hO'.dir
      have hltr := hR'.lt
      cases hj : Hp.joinP k'.d gp with
      | none =>
        have HJ : Hid (Hp.joinP k'.d (bs (str gp)) = none) := Lib.hid hj
        have HE : Hid (Hp.openA k l [] = (k', none)) := Lib.hid (he.trans (open_cons_no hj))
        clear he hj hK hg hgn hx hp hkeep
        go_wp2_with (first
          | (go_at_call 137; refine (path_no _ (str gp) (hR'.alloc _) (by omega) (by rw [← bs_len, bs_str]; omega) HJ).mono ?_; rintro e w1 ⟨rfl, B1⟩; have hR1 := (hR'.alloc _).below B1; have hK1 := (HKw.out.alloc _).below B1)
          | (go_at_call 126; refine (status_one _ 2 (by decide) (by decide) (by decide)).mono ?_; rintro e w2 ⟨rfl, rfl⟩))
        go_ret2
        rw [HE.out]
        exact ⟨⟨by simp only [h0', if_true]; rfl, k'.inp, hR1⟩, hK1⟩
      | some p =>
        have hpl := Hp.joinP_len hj
        have HJ : Hid (Hp.joinP k'.d (bs (str gp)) = some p) := Lib.hid hj
        have hpm : (str p).size ≤ 100000 := by rw [← bs_len, bs_str]; omega
        have hpm2 : (str p).size ≤ maxLen := by unfold maxLen; omega
        by_cases h6 : gk = 6
        · subst h6
          rw [open_cons_in hj rfl] at he
          rcases read_code k' p with hc0 | ⟨hc1, hc2, hc5, hc12⟩
          · rw [if_pos hc0] at he
            have HE := Lib.hid he
            have hO2 : Hp.Ok ⟨k'.s, k'.d, k'.code, (Hp.readP k' p).1, k'.outp⟩ m := ⟨hO'.fine, hO'.closed, hO'.dir, Hp.read_len hO' p, hO'.outp⟩
            have HRd := Lib.hid fun (W : World) (hS : StoreAt W sb bm k'.s.L k'.s.c) => Read_any W (str p) _ hS hpm2 (Lib.hid rfl)
            have HC : Hid ((readA (getR k'.s.L (bs (str p)))) = ((Hp.readP k' p).1, 0)) := Lib.hid (Prod.ext rfl hc0)
            clear he hj hK hg hgn hx hp hkeep
            generalize (Hp.readP k' p).1 = tx at *
            go_wp2_with (first
              | (go_at_call 137; refine (path_yes _ (str gp) p (hR'.alloc _) (by omega) (by rw [← bs_len, bs_str]; omega) HJ).mono ?_; rintro e w1 ⟨rfl, B1⟩; have hR1 := (hR'.alloc _).below B1; have hK1 := (HKw.out.alloc _).below B1; obtain ⟨c0, c1, c3, c4, c8, c9⟩ := hR1.cells; have hltr1 := hR1.lt; have z0 : w1.cell? ⟨wr.heap.size, 0, none⟩ = some (.int .i64 6) := (B1.cell (p := ⟨wr.heap.size, 0, none⟩) (by simp)).trans (cell_at (heap_new wr _ rfl) rfl); have hz1 : wr.heap.size < w1.heap.size := Nat.lt_of_lt_of_le (by simp) B1.size)
              | (go_at_call 121; refine (HRd.out _ hR1.store).mono ?_; rw [HC.out]; rintro e w2 ⟨rfl, B2⟩; have hR2 := hR1.below B2; have hK2 := hK1.below B2; obtain ⟨c0, c1, c3, c4, c8, c9⟩ := hR2.cells; have f8 := hR2.frozen 8; have hltr2 := hR2.lt)
              | (go_at_call 126; refine (status_zero _).mono ?_; rintro e w3 ⟨rfl, rfl⟩))
            go_roundw
            case rel => exact ⟨n + 1, _, d, hlt2, by go_num, rfl, hR2.set8 tx, hO2, h0', HE.out, kept_set hK2 (by simp) _⟩
            case measure => simp [intOf]; omega
          · rw [if_neg hc2] at he
            have HE := Lib.hid he
            have HRd := Lib.hid fun (W : World) (hS : StoreAt W sb bm k'.s.L k'.s.c) => Read_any W (str p) _ hS hpm2 (Lib.hid rfl)
            obtain ⟨cd, hcd⟩ : ∃ cd, (Hp.readP k' p).2 = cd := ⟨_, rfl⟩
            have HC : Hid ((readA (getR k'.s.L (bs (str p)))) = ([], cd)) := Lib.hid (Prod.ext hc1 hcd)
            rw [hcd] at hc2 hc5 hc12
            clear he hj hK hg hgn hx hp hkeep hc1 hcd
            go_wp2_with (first
              | (go_at_call 137; refine (path_yes _ (str gp) p (hR'.alloc _) (by omega) (by rw [← bs_len, bs_str]; omega) HJ).mono ?_; rintro e w1 ⟨rfl, B1⟩; have hR1 := (hR'.alloc _).below B1; have hK1 := (HKw.out.alloc _).below B1; obtain ⟨c0, c1, c3, c4, c8, c9⟩ := hR1.cells; have hltr1 := hR1.lt; have z0 : w1.cell? ⟨wr.heap.size, 0, none⟩ = some (.int .i64 6) := (B1.cell (p := ⟨wr.heap.size, 0, none⟩) (by simp)).trans (cell_at (heap_new wr _ rfl) rfl); have hz1 : wr.heap.size < w1.heap.size := Nat.lt_of_lt_of_le (by simp) B1.size)
              | (go_at_call 121; refine (HRd.out _ hR1.store).mono ?_; rw [HC.out]; rintro e w2 ⟨rfl, B2⟩; have hR2 := hR1.below B2; have hK2 := hK1.below B2; obtain ⟨c0, c1, c3, c4, c8, c9⟩ := hR2.cells; have f8 := hR2.frozen 8; have hltr2 := hR2.lt)
              | (go_at_call 126; refine (status_one _ cd hc2 hc5 hc12).mono ?_; rintro e w3 ⟨rfl, rfl⟩))
            go_ret2
            rw [HE.out]
            exact ⟨⟨by simp only [h0', if_true]; rfl, [], hR2.set8 []⟩, kept_set hK2 (by simp) _⟩
        · rw [open_cons_out hj h6] at he
          dsimp only at he
          have q6 : ((gk : Int) == 6) = false := beq_eq_false_iff_ne.2 (by omega)
          obtain ⟨m5, hm5⟩ : ∃ m5, decide (gk = 5) = m5 := ⟨_, rfl⟩
          have q5 : ((gk : Int) == 5) = m5 := by rw [← hm5, Bool.eq_iff_iff]; simp; try omega
          rw [hm5] at he
          have hF := hO'.fine
          have hbx : wr.heap.size ∉ [sb, bm] := by
            have h1 := hR'.store.lt
            have h2 := hR'.store.map.lt
            simp; omega
          have hO2 := hO'.wrote (p := p) (t := []) (by omega) m5
          obtain ⟨⟨s2, cd⟩, hq⟩ : ∃ q, Sw.writeA k'.s p [] m5 = q := ⟨_, rfl⟩
          have HWr := Lib.hid fun (W : World) (hS : StoreAt W sb bm k'.s.L k'.s.c) => Write_any W (str p) ⟨#[]⟩ m5 hS hF (by omega) (by decide)
          have HC : Hid (Sw.writeA k'.s (bs (str p)) (bs ⟨#[]⟩) m5 = (s2, cd)) := Lib.hid hq
          rw [hq] at he hO2
          by_cases hc0 : cd = 0
          · subst hc0
            rw [if_pos (show (k'.took (s2, 0)).2 = 0 from rfl)] at he
            have HE := Lib.hid he
            clear he hj hK hg hgn hx hp hkeep hm5 hq
            go_wp2_with (first
              | (go_at_call 137; refine (path_yes _ (str gp) p (hR'.alloc _) (by omega) (by rw [← bs_len, bs_str]; omega) HJ).mono ?_; rintro e w1 ⟨rfl, B1⟩; have hR1 := (hR'.alloc _).below B1; have hK1 := (HKw.out.alloc _).below B1; obtain ⟨c0, c1, c3, c4, c8, c9⟩ := hR1.cells; have hltr1 := hR1.lt; have z0 : w1.cell? ⟨wr.heap.size, 0, none⟩ = some (.int .i64 gk) := (B1.cell (p := ⟨wr.heap.size, 0, none⟩) (by simp)).trans (cell_at (heap_new wr _ rfl) rfl); have hz1 : wr.heap.size < w1.heap.size := Nat.lt_of_lt_of_le (by simp) B1.size))
            have D0 : Below w1.heap.size w1 w1.drew := (Below.refl _ _).drew
            have hR1d := hR1.below D0
            have hK1d := hK1.below D0
            go_region_held3 (fun w' => w'.cell? ⟨rb, 0, none⟩ = some (.pointer (some ⟨sb, 0, none⟩)) ∧ w'.cell? ⟨wr.heap.size, 0, none⟩ = some (.int .i64 gk))
              (first | exact ⟨c0, z0⟩ | exact S2)
              (first
                | (go_at_call 125; refine (HWr.out _ hR1d.store).mono ?_; rw [HC.out]; rintro e w2 ⟨rfl, hS2, hK2⟩; have hR2 := hR1d.stored hS2 hK2; have S2 : w2.cell? ⟨rb, 0, none⟩ = some (.pointer (some ⟨sb, 0, none⟩)) ∧ w2.cell? ⟨wr.heap.size, 0, none⟩ = some (.int .i64 gk) := ⟨hR2.cells.1, (hK2.cell (p := ⟨wr.heap.size, 0, none⟩) hz1 hbx).trans z0⟩; have hK3 := hK1d.trans (hK2.mono (Y := [rb, sb, bm]) (by simp))))
            all_goals go_wp2_with (go_at_call 126; refine (status_zero _).mono ?_; rintro e w3 ⟨rfl, rfl⟩)
            all_goals go_roundw
            all_goals first
              | exact ⟨n + 1, _, p, hlt2, by go_num, rfl, hR2, hO2, h0', HE.out, hK3⟩
              | (simp [intOf]; omega)
          · rw [if_neg (show ¬ (k'.took (s2, cd)).2 = 0 by simp [Hp.K.took, hc0])] at he
            have HE := Lib.hid he
            by_cases h5 : cd = 5 ∨ cd = 12
            · have hcode : (k'.took (s2, cd)).1.code = cd := by simp [Hp.K.took, h5]
              clear he hj hK hg hgn hx hp hkeep hm5 hq
              go_wp2_with (first
                | (go_at_call 137; refine (path_yes _ (str gp) p (hR'.alloc _) (by omega) (by rw [← bs_len, bs_str]; omega) HJ).mono ?_; rintro e w1 ⟨rfl, B1⟩; have hR1 := (hR'.alloc _).below B1; have hK1 := (HKw.out.alloc _).below B1; obtain ⟨c0, c1, c3, c4, c8, c9⟩ := hR1.cells; have hltr1 := hR1.lt; have z0 : w1.cell? ⟨wr.heap.size, 0, none⟩ = some (.int .i64 gk) := (B1.cell (p := ⟨wr.heap.size, 0, none⟩) (by simp)).trans (cell_at (heap_new wr _ rfl) rfl); have hz1 : wr.heap.size < w1.heap.size := Nat.lt_of_lt_of_le (by simp) B1.size))
              have D0 : Below w1.heap.size w1 w1.drew := (Below.refl _ _).drew
              have hR1d := hR1.below D0
              have hK1d := hK1.below D0
              go_region_held3 (fun w' => w'.cell? ⟨rb, 0, none⟩ = some (.pointer (some ⟨sb, 0, none⟩)) ∧ w'.cell? ⟨wr.heap.size, 0, none⟩ = some (.int .i64 gk))
                (first | exact ⟨c0, z0⟩ | exact S2)
                (first
                  | (go_at_call 125; refine (HWr.out _ hR1d.store).mono ?_; rw [HC.out]; rintro e w2 ⟨rfl, hS2, hK2⟩; have hR2 := hR1d.stored hS2 hK2; have S2 : w2.cell? ⟨rb, 0, none⟩ = some (.pointer (some ⟨sb, 0, none⟩)) ∧ w2.cell? ⟨wr.heap.size, 0, none⟩ = some (.int .i64 gk) := ⟨hR2.cells.1, (hK2.cell (p := ⟨wr.heap.size, 0, none⟩) hz1 hbx).trans z0⟩; have hK3 := hK1d.trans (hK2.mono (Y := [rb, sb, bm]) (by simp))))
              all_goals go_wp2_with (go_at_call 126; refine (status_end _ cd h5).mono ?_; rintro e w3 ⟨rfl, rfl⟩; unfold endE)
              all_goals refine ⟨rfl, ?_⟩
              all_goals rw [HE.out]
              all_goals exact ⟨⟨by rw [if_neg (by rw [hcode]; exact hc0), hcode]; rfl, k'.inp, ⟨hR2.box, hR2.store, hR2.n1, hR2.n2⟩⟩, hK3⟩
            · have hcode : (k'.took (s2, cd)).1.code = 0 := by simp [Hp.K.took, h5, h0']
              clear he hj hK hg hgn hx hp hkeep hm5 hq
              go_wp2_with (first
                | (go_at_call 137; refine (path_yes _ (str gp) p (hR'.alloc _) (by omega) (by rw [← bs_len, bs_str]; omega) HJ).mono ?_; rintro e w1 ⟨rfl, B1⟩; have hR1 := (hR'.alloc _).below B1; have hK1 := (HKw.out.alloc _).below B1; obtain ⟨c0, c1, c3, c4, c8, c9⟩ := hR1.cells; have hltr1 := hR1.lt; have z0 : w1.cell? ⟨wr.heap.size, 0, none⟩ = some (.int .i64 gk) := (B1.cell (p := ⟨wr.heap.size, 0, none⟩) (by simp)).trans (cell_at (heap_new wr _ rfl) rfl); have hz1 : wr.heap.size < w1.heap.size := Nat.lt_of_lt_of_le (by simp) B1.size))
              have D0 : Below w1.heap.size w1 w1.drew := (Below.refl _ _).drew
              have hR1d := hR1.below D0
              have hK1d := hK1.below D0
              go_region_held3 (fun w' => w'.cell? ⟨rb, 0, none⟩ = some (.pointer (some ⟨sb, 0, none⟩)) ∧ w'.cell? ⟨wr.heap.size, 0, none⟩ = some (.int .i64 gk))
                (first | exact ⟨c0, z0⟩ | exact S2)
                (first
                  | (go_at_call 125; refine (HWr.out _ hR1d.store).mono ?_; rw [HC.out]; rintro e w2 ⟨rfl, hS2, hK2⟩; have hR2 := hR1d.stored hS2 hK2; have S2 : w2.cell? ⟨rb, 0, none⟩ = some (.pointer (some ⟨sb, 0, none⟩)) ∧ w2.cell? ⟨wr.heap.size, 0, none⟩ = some (.int .i64 gk) := ⟨hR2.cells.1, (hK2.cell (p := ⟨wr.heap.size, 0, none⟩) hz1 hbx).trans z0⟩; have hK3 := hK1d.trans (hK2.mono (Y := [rb, sb, bm]) (by simp))))
              all_goals go_wp2_with (go_at_call 126; refine (status_one _ cd hc0 (fun e => h5 (.inl e)) (fun e => h5 (.inr e))).mono ?_; rintro e w3 ⟨rfl, rfl⟩)
              all_goals go_ret2
              all_goals rw [HE.out]
              all_goals exact ⟨⟨by simp only [hcode, if_true]; rfl, k'.inp, ⟨hR2.box, hR2.store, hR2.n1, hR2.n2⟩⟩, hK3⟩
    · obtain rfl : n = l.length := by omega
      rw [List.drop_length] at he
      have HE := Lib.hid he
      clear he
      go_wp2_with fail
      go_ret2
      rw [HE.out]
      exact ⟨⟨rfl, hR'⟩, hK⟩
end
end Go.Proofs.YteommneijlelkaaGreatDoor.Hx
namespace Go.Proofs.YteommneijlelkaaGreatDoor.Hx
open Go.RowKit Go.Proofs.YteommneijlelkaaGreatDoor Go.Maps Go.Proofs.YteommneijlelkaaGreatDoor.Sw
set_option maxRecDepth 100000

abbrev BT : TypeId := 86
abbrev U8 : TypeId := 5
theorem infoU : (Tryz.prog.info? U8).map (fun i => (i.zero, i.size, i.bytes)) = some (some (.int .u8 0), 1, 1) := by kernel_rfl
theorem sizeB : (Tryz.prog.info? BT).map (·.size) = some 2 := by kernel_rfl
theorem liesB : liesAt Tryz.prog Tryz.prog.depth BT (2 / Tryz.prog.cellsOf BT) 0 BT 1 = true := by kernel_rfl
theorem liesR : liesAt Tryz.prog Tryz.prog.depth RT (10 / Tryz.prog.cellsOf RT) 6 BT 1 = true := by kernel_rfl

theorem copy_used (b k : Nat) (w : World) (h0 : w.cell? ⟨b, k, none⟩ = some (.pointer (some ⟨b, k, none⟩))) :
    Calls Tryz.prog 167 #[.pointer (some ⟨b, k, none⟩)] w fun e w' => e = .returned (.tuple #[]) ∧ w' = w := by
  obtain ⟨j, hj, _⟩ := Option.map_eq_some_iff.1 sizeB
  go_enter Tryz.func167, Tryz.ntmps167
  go_wp2
  rw [Lib.run_neq_ptr_same w _ Tryz.underlying83 hj]
  go_wp2
  go_end0
  exact ⟨rfl, rfl⟩

theorem copy_fresh (T : TypeId) (b k n : Nat) (w : World) (hk : k < n) (h0 : w.cell? ⟨b, k, none⟩ = some (.pointer none)) (hsh : w.shape? b = some (T, n)) (hl : liesAt Tryz.prog Tryz.prog.depth T (n / Tryz.prog.cellsOf T) k BT 1 = true) (hfz : w.frozen? ⟨b, k, none⟩ = false) :
    Calls Tryz.prog 167 #[.pointer (some ⟨b, k, none⟩)] w fun e w' => e = .returned (.tuple #[]) ∧ w' = w.setCell ⟨b, k, none⟩ (.pointer (some ⟨b, k, none⟩)) := by
  obtain ⟨j, hj, hjs⟩ := Option.map_eq_some_iff.1 sizeB
  go_enter Tryz.func167, Tryz.ntmps167
  go_wp2
  rw [Lib.run_to_unsafe w ⟨b, k, none⟩ Tryz.underlying83 Tryz.underlying241 hj (by rw [hjs]; decide) hsh hk]
  simp only [Result.andThen]
  rw [Oper.upon_value]
  go_wp2
  rw [run_callFunc_extern Tryz.func204 (by kernel_rfl) (by kernel_rfl) (by kernel_rfl) (e := Extern.AbiNoEscape.same) (by kernel_rfl)]
  rw [Lib.run_noEscape]
  simp only [Result.andThen]
  rw [Oper.upon_value]
  go_wp2
  rw [Lib.run_from_unsafe w ⟨b, k, none⟩ Tryz.underlying241 Tryz.underlying83 hj hsh hl]
  simp only [Result.andThen]
  rw [Oper.upon_value]
  go_wp2
  go_end0
  exact ⟨rfl, rfl⟩

/-- A builder at cells k, k + 1 of block b, a row of type T; its text is l. -/
structure BAt (w : World) (T : TypeId) (b k B : Nat) (l : Bs) (pv bv : Value) (cs : Array Value) : Prop where
  cells : w.heap[b]? = some (.cells cs T (0, 0))
  ptr : cs[k]? = some pv
  buf : cs[k + 1]? = some bv
  used : pv = .pointer none ∨ pv = .pointer (some ⟨b, k, none⟩)
  own : w.ownsRow B U8 1 bv l.length (Lib.byteCells l)
  lies : liesAt Tryz.prog Tryz.prog.depth T (cs.size / Tryz.prog.cellsOf T) k BT 1 = true
  ne : T ≠ U8
theorem BAt.not_own {w : World} {T : TypeId} {b k B : Nat} {l : Bs} {pv bv : Value} {cs : Array Value} (h : BAt w T b k B l pv bv cs) : bv.ownBlock ≠ some b := Lib.ownBlock_ne h.own h.cells h.ne
theorem BAt.lt {w : World} {T : TypeId} {b k B : Nat} {l : Bs} {pv bv : Value} {cs : Array Value} (h : BAt w T b k B l pv bv cs) : b < w.heap.size := (Array.getElem?_eq_some_iff.1 h.cells).1

theorem Len_any (w : World) {T : TypeId} {b k B : Nat} {l : Bs} {pv bv : Value} {cs : Array Value} (h : BAt w T b k B l pv bv cs) :
    Calls Tryz.prog 122 #[.pointer (some ⟨b, k, none⟩)] w fun e w' => e = .returned (.int .i64 l.length) ∧ w = w' := by
  obtain ⟨a, c, rfl⟩ := owns_slice h.own
  have c1 : w.cell? ⟨b, k + 1, none⟩ = some (.slice a l.length c) := cell_at h.cells h.buf
  go_enter Tryz.func122, Tryz.ntmps122
  go_wp2
  go_ret
  exact ⟨rfl, rfl⟩

theorem copy_any (w : World) {T : TypeId} {b k B : Nat} {l : Bs} {pv bv : Value} {cs : Array Value} (h : BAt w T b k B l pv bv cs) :
    Calls Tryz.prog 167 #[.pointer (some ⟨b, k, none⟩)] w fun e w' => e = .returned (.tuple #[]) ∧ BAt w' T b k B l (.pointer (some ⟨b, k, none⟩)) bv (cs.setIfInBounds k (.pointer (some ⟨b, k, none⟩))) ∧ Kept [b] w w' := by
  have hk : k < cs.size := by
    have := (Array.getElem?_eq_some_iff.1 h.ptr).1
    exact this
  rcases h.used with rfl | rfl
  · refine (copy_fresh T b k cs.size w hk (cell_at h.cells h.ptr) (by simp [World.shape?, h.cells]) h.lies (frozen_at h.cells k)).mono ?_
    rintro e w' ⟨rfl, rfl⟩
    refine ⟨rfl, ⟨heap_set3 h.cells _, by simp [hk], by rw [Array.getElem?_setIfInBounds_ne (by omega)]; exact h.buf, .inr rfl, ?_, by simpa using h.lies, h.ne⟩, (Kept.refl _ _).setCell (.inl (by simp)) _⟩
    exact h.own.kept (row := some b) ⟨rfl, rfl, rfl, by simp [World.setCell], fun j _ hj => Below.heap_setCell _ _ _ _ (fun e => hj (by simp [e]))⟩ (Or.inr h.not_own)
  · refine (copy_used b k w (cell_at h.cells h.ptr)).mono ?_
    rintro e w' ⟨rfl, rfl⟩
    have he : cs.setIfInBounds k (.pointer (some ⟨b, k, none⟩)) = cs := by
      have := h.ptr
      apply Array.ext (by simp)
      intro i h1 h2
      rw [Array.getElem_setIfInBounds]
      split
      · rename_i e; subst e
        rw [Array.getElem?_eq_getElem hk] at this
        exact (Option.some.inj this).symm
      · rfl
    exact ⟨rfl, ⟨by rw [he]; exact h.cells, by simp [hk], by rw [Array.getElem?_setIfInBounds_ne (by omega)]; exact h.buf, .inr rfl, h.own, by simpa using h.lies, h.ne⟩, Kept.refl _ _⟩

theorem strCells_bs (s : ByteArray) : Lib.strCells s = Lib.byteCells (bs s) := rfl
set_option maxHeartbeats 1000000 in
theorem WriteString_any (w : World) {T : TypeId} {b k B : Nat} {l : Bs} {pv bv : Value} {cs : Array Value} (h : BAt w T b k B l pv bv cs) (s : ByteArray) (hl : l.length + s.size ≤ 1000000000000) (hBw : B ≤ w.heap.size) :
    Calls Tryz.prog 123 #[.pointer (some ⟨b, k, none⟩), .string s] w fun e w' => e = .returned (.tuple #[.int .i64 s.size, .nilIface]) ∧
      ∃ bv', BAt w' T b k B (l ++ bs s) (.pointer (some ⟨b, k, none⟩)) bv' ((cs.setIfInBounds k (.pointer (some ⟨b, k, none⟩))).setIfInBounds (k + 1) bv') ∧ Kept (b :: bv.ownBlock.toList) w w' := by
  obtain ⟨i0, hi, hz0, hz1, hz2⟩ := info_parts infoU
  have HC := Lib.hid (copy_any w h)
  have hk : k + 1 < cs.size := by
    have := (Array.getElem?_eq_some_iff.1 h.buf).1
    exact this
  clear h
  go_enter Tryz.func123, Tryz.ntmps123
  go_wp2_with (go_at_call 167; refine HC.out.mono ?_)
  rintro e w1 ⟨rfl, h1, hK1⟩
  have hno := h1.not_own
  have c0 : w1.cell? ⟨b, k, none⟩ = some (.pointer (some ⟨b, k, none⟩)) := cell_at h1.cells h1.ptr
  have c1 : w1.cell? ⟨b, k + 1, none⟩ = some bv := cell_at h1.cells h1.buf
  have hlt1 := h1.lt
  go_wp2_with (at_builtin; refine Lib.wpList_append_own_string _ rfl _ _ 84 9 rfl B U8 i0 Tryz.underlying84 Tryz.underlying9 hi hz0 hz1 hz2 _ _ _ rfl h1.own s rfl ?c3 ?c4 ?c5 ?_)
  case c3 => unfold maxLen; omega
  case c4 => omega
  case c5 => exact Nat.le_trans hBw hK1.size
  intro v' w2 hown' hgrow _
  have hb2 : w2.heap[b]? = some (.cells (cs.setIfInBounds k (.pointer (some ⟨b, k, none⟩))) T (0, 0)) := (hgrow.block b hlt1 (fun e => hno e.symm)).trans h1.cells
  have f1 : w2.frozen? ⟨b, k + 1, none⟩ = false := frozen_at hb2 _
  have d1 : w2.cell? ⟨b, k + 1, none⟩ = some bv := cell_at hb2 h1.buf
  have hlt2 : b < w2.heap.size := Nat.lt_of_lt_of_le hlt1 hgrow.size
  obtain ⟨ao, n', rfl⟩ := owns_slice hown'
  go_wp2
  go_ret2
  rw [strCells_bs] at hown'
  have hlen : (l ++ bs s).length = l.length + s.size := by rw [List.length_append, bs_len]
  have hcells : Lib.byteCells (l ++ bs s) = Lib.byteCells l ++ Lib.byteCells (bs s) := by simp [Lib.byteCells]
  have hne' : (Value.slice ao (l.length + s.size) n').ownBlock ≠ some b := Lib.ownBlock_ne hown' hb2 h1.ne
  refine ⟨rfl, _, ⟨heap_set3 hb2 _, ?_, by simp [hk], .inr rfl, ?_, by simpa using h1.lies, h1.ne⟩, ?_⟩
  · rw [Array.getElem?_setIfInBounds_ne (by omega)]; exact h1.ptr
  · rw [hlen, hcells]
    exact hown'.kept (row := some b) ⟨rfl, rfl, rfl, by simp [World.setCell], fun j _ hj => Below.heap_setCell _ _ _ _ (fun e => hj (by simp [e]))⟩ (Or.inr hne')
  · refine ((hK1.mono (Y := b :: bv.ownBlock.toList) (fun i hi => by simp at hi; simp [hi])).grown hgrow (fun r hr => .inl (by simp [hr]))).setCell (.inl (by simp)) _

abbrev pU8 : TypeId := 127
theorem cellsU : Tryz.prog.cellsOf U8 = 1 := by kernel_rfl
theorem kept_freeze {X : List Nat} {a w : World} (h : Kept X a w) {p : Addr} (hp : p.block ∈ X) (n : Nat) : Kept X a (w.freeze p n) := by
  refine h.trans ?_
  unfold World.freeze
  split
  · exact Kept.refl X w
  · exact ⟨rfl, rfl, rfl, by simp, fun k hk hx => by
      simp only [Array.getElem?_modify]
      rw [if_neg (fun e => by subst e; exact hx hp)]⟩

set_option maxHeartbeats 1000000 in
theorem String_some (w : World) {b k B : Nat} (l : Bs) (g cap : Nat) (cur : Array Value) (h0 : l ≠ []) (c0 : w.cell? ⟨b, k + 1, none⟩ = some (.slice (some ⟨g, 0, none⟩) l.length cap)) (hg : w.heap[g]? = some (.cells cur U8 (0, 0)))
    (hown : w.ownsRow B U8 1 (.slice (some ⟨g, 0, none⟩) l.length cap) l.length (Lib.byteCells l)) (hn : l.length ≤ cap) (hc : cap ≤ maxLen) (hs : cur.size = cap * 1) :
    Calls Tryz.prog 27 #[.pointer (some ⟨b, k, none⟩)] w fun e w' => e = .returned (.string (str l)) ∧ Kept [g] w w' := by
  have hl0 : l.length ≠ 0 := by simpa using h0
  have c1 : w.drew.cell? ⟨b, k + 1, none⟩ = some (.slice (some ⟨g, 0, none⟩) l.length cap) := c0
  have hSD : (Builtin.unsafeSliceData_ #[84] pU8 #[.slice (some ⟨g, 0, none⟩) l.length cap]).run Tryz.prog w.drew = .ok (.pointer (some ⟨g, 0, none⟩)) w.drew :=
    Lib.run_unsafeSliceData_row _ _ _ _ _ _ (by omega)
  have hUS : (Builtin.unsafeString_ #[pU8, 3] 9 #[.pointer (some ⟨g, 0, none⟩), .int .i64 l.length]).run Tryz.prog w.drew = .ok (.string (str l)) (w.drew.freeze ⟨g, 0, none⟩ l.length) := by
    refine Lib.run_unsafeString_row w.drew pU8 3 9 U8 Tryz.underlying127 cellsU g cur.size (by have hg' : w.drew.heap[g]? = some (.cells cur U8 (0, 0)) := hg; simp [World.shape?, hg']) l h0 (by omega) (by unfold maxLen at hc; omega) ?_
    intro j x hx
    exact hown.cells (g := g) rfl j (.int .u8 x.toNat) (by simp [Lib.byteCells, hx])
  clear hown
  go_enter Tryz.func27, Tryz.ntmps27
  go_wp2
  go_region
  all_goals (go_wp2; go_ret; exact ⟨rfl, kept_freeze ((Kept.refl _ w).drewN 1) (p := ⟨g, 0, none⟩) (by simp) _⟩)

theorem String_nil (w : World) {b k : Nat} (c0 : w.cell? ⟨b, k + 1, none⟩ = some (.slice none 0 0)) :
    Calls Tryz.prog 27 #[.pointer (some ⟨b, k, none⟩)] w fun e w' => e = .returned (.string ⟨#[]⟩) ∧ Kept [] w w' := by
  have c1 : w.drew.cell? ⟨b, k + 1, none⟩ = some (.slice none 0 0) := c0
  have hUS : ∀ (W : World) (q : Option Addr), (Builtin.unsafeString_ #[pU8, 3] 9 #[.pointer q, .int .i64 0]).run Tryz.prog W = .ok (.string .empty) W := fun W q => Lib.run_unsafeString_none W _ _ _ q
  have hSD : (Builtin.unsafeSliceData_ #[84] pU8 #[.slice none 0 0]).run Tryz.prog w.drew = .ok (.pointer none) w.drew := rfl
  go_enter Tryz.func27, Tryz.ntmps27
  go_wp2
  go_region
  all_goals (go_wp2; go_ret; exact ⟨rfl, (Kept.refl _ w).drewN 1⟩)
theorem String_room (w : World) {b k : Nat} (g cap : Nat) (hc0 : cap ≠ 0) (c0 : w.cell? ⟨b, k + 1, none⟩ = some (.slice (some ⟨g, 0, none⟩) 0 cap)) :
    Calls Tryz.prog 27 #[.pointer (some ⟨b, k, none⟩)] w fun e w' => e = .returned (.string ⟨#[]⟩) ∧ Kept [] w w' := by
  have c1 : w.drew.cell? ⟨b, k + 1, none⟩ = some (.slice (some ⟨g, 0, none⟩) 0 cap) := c0
  have hUS : ∀ (W : World) (q : Option Addr), (Builtin.unsafeString_ #[pU8, 3] 9 #[.pointer q, .int .i64 0]).run Tryz.prog W = .ok (.string .empty) W := fun W q => Lib.run_unsafeString_none W _ _ _ q
  have hSD : (Builtin.unsafeSliceData_ #[84] pU8 #[.slice (some ⟨g, 0, none⟩) 0 cap]).run Tryz.prog w.drew = .ok (.pointer (some ⟨g, 0, none⟩)) w.drew := Lib.run_unsafeSliceData_row _ _ _ _ _ _ hc0
  clear hc0
  go_enter Tryz.func27, Tryz.ntmps27
  go_wp2
  go_region
  all_goals (go_wp2; go_ret; exact ⟨rfl, (Kept.refl _ w).drewN 1⟩)
theorem String_noroom (w : World) {b k : Nat} (g : Nat) (cur : Array Value) (hb : b < w.heap.size) (hg : w.heap[g]? = some (.cells cur U8 (0, 0))) (c0 : w.cell? ⟨b, k + 1, none⟩ = some (.slice (some ⟨g, 0, none⟩) 0 0)) :
    Calls Tryz.prog 27 #[.pointer (some ⟨b, k, none⟩)] w fun e w' => e = .returned (.string ⟨#[]⟩) ∧ Kept [] w w' := by
  have c1 : w.drew.cell? ⟨b, k + 1, none⟩ = some (.slice (some ⟨g, 0, none⟩) 0 0) := c0
  have hUS : ∀ (W : World) (q : Option Addr), (Builtin.unsafeString_ #[pU8, 3] 9 #[.pointer q, .int .i64 0]).run Tryz.prog W = .ok (.string .empty) W := fun W q => Lib.run_unsafeString_none W _ _ _ q
  have hSD : (Builtin.unsafeSliceData_ #[84] pU8 #[.slice (some ⟨g, 0, none⟩) 0 0]).run Tryz.prog w.drew = .ok (.pointer (some ⟨w.drew.heap.size, 0, none⟩)) (w.drew.alloc (.view ⟨g, 0, none⟩ U8)) :=
    Lib.run_unsafeSliceData_zero w.drew _ _ U8 Tryz.underlying127 ⟨g, 0, none⟩ 0 (U8, cur.size) (by have hg' : w.drew.heap[g]? = some (.cells cur U8 (0, 0)) := hg; simp [World.shape?, hg'])
  have c2 : (w.drew.alloc (.view ⟨g, 0, none⟩ U8)).cell? ⟨b, k + 1, none⟩ = some (.slice (some ⟨g, 0, none⟩) 0 0) := (((Below.refl _ w).alloc (Nat.le_refl _) (.view ⟨g, 0, none⟩ U8)).cell (p := ⟨b, k + 1, none⟩) hb).trans c0
  have c3 : (w.alloc (.view ⟨g, 0, none⟩ U8)).drew.cell? ⟨b, k + 1, none⟩ = some (.slice (some ⟨g, 0, none⟩) 0 0) := c2
  go_enter Tryz.func27, Tryz.ntmps27
  go_wp2
  go_region
  all_goals (go_wp2; go_ret; exact ⟨rfl, ((Kept.refl _ w).drewN 1).alloc _⟩)

theorem String_any (w : World) {T : TypeId} {b k B : Nat} {l : Bs} {pv bv : Value} {cs : Array Value} (h : BAt w T b k B l pv bv cs) :
    Calls Tryz.prog 27 #[.pointer (some ⟨b, k, none⟩)] w fun e w' => e = .returned (.string (str l)) ∧ Kept bv.ownBlock.toList w w' := by
  have c1 : w.cell? ⟨b, k + 1, none⟩ = some bv := cell_at h.cells h.buf
  have hown := h.own
  by_cases h0 : l = []
  · subst h0
    rcases hown.2 with ⟨rfl, _⟩ | ⟨g, cap, cur, rfl, hbg, hg, _, _, _, _⟩
    · exact String_nil w c1
    · by_cases hc0 : cap = 0
      · subst hc0
        refine (String_noroom w g cur h.lt hg c1).mono ?_
        rintro e w' ⟨rfl, hK⟩
        exact ⟨rfl, hK.mono (by simp)⟩
      · refine (String_room w g cap hc0 c1).mono ?_
        rintro e w' ⟨rfl, hK⟩
        exact ⟨rfl, hK.mono (by simp)⟩
  · rcases hown.2 with ⟨_, hz⟩ | ⟨g, cap, cur, rfl, hbg, hg, hn, hc, hs, _⟩
    · exact absurd (List.eq_nil_of_length_eq_zero hz) h0
    · exact String_some w l g cap cur h0 c1 hg hown hn hc hs
end Go.Proofs.YteommneijlelkaaGreatDoor.Hx
