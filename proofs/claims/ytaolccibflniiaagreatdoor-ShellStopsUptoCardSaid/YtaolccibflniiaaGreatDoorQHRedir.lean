/-
  (*run).redirect: the redirections of a command.
-/
import Derived.Deep.RegionHeld3
import Derived.Test.YtaolccibflniiaaGreatDoorQHWorld
namespace Go.Proofs.YtaolccibflniiaaGreatDoor.Hx
open Go.RowKit Go.Proofs.YtaolccibflniiaaGreatDoor Go.Maps Go.Proofs.YtaolccibflniiaaGreatDoor.Sw
set_option maxRecDepth 100000

/-- Blocks that no run turns. -/
abbrev Old (rb sb bm : Nat) : Nat → Prop := fun b => b < rb ∧ b ≠ sb ∧ b ≠ bm
theorem kept_old {X : List Nat} {w w' : World} {rb sb bm : Nat} (hK : Kept X w w') (hX : ∀ i ∈ X, i = sb ∨ i = bm ∨ rb ≤ i) (hl : rb < w.heap.size) : ∀ b, Old rb sb bm b → w'.heap[b]? = w.heap[b]? := fun b hb =>
  hK.block b (Nat.lt_trans hb.1 hl) fun h => by
    rcases hX b h with e | e | e
    · exact hb.2.1 e
    · exact hb.2.2 e
    · exact absurd hb.1 (Nat.not_lt.2 e)

section
variable {rb sb bm : Nat} {st ran : Int} {pv bv : Value}
/-- What redirect returns. -/
def RedPost (w : World) (rb sb bm : Nat) (st ran : Int) (pv bv : Value) (r : Hp.K × Option Bs) (e : Ending) (w' : World) : Prop :=
  (match r.2 with
   | some d => e = .returned (.tuple #[.string (str d), .int .i64 0]) ∧ RunAt w' rb sb bm r.1 st ran pv bv
   | none => (if r.1.code = 0 then e = .returned (.tuple #[.string ⟨#[]⟩, .int .i64 1]) else e = endE r.1.code) ∧ ∃ i, RunAt w' rb sb bm ⟨r.1.s, r.1.d, r.1.code, i, r.1.outp⟩ st ran pv bv) ∧ Kept [rb, sb, bm] w w'
def RdRel (w : World) (rb sb bm : Nat) (st ran : Int) (pv bv : Value) (k : Hp.K) (m : Nat) (l : List Pp.G) (v6 v14 : Value) (wr : World) : Prop :=
  ∃ (n : Nat) (k' : Hp.K) (d : Bs), n ≤ l.length ∧ v14 = .int .i64 n ∧ v6 = .string (str d) ∧ RunAt wr rb sb bm k' st ran pv bv ∧ Hp.Ok k' m ∧ k'.code = 0 ∧ Hp.openA k l [] = Hp.openA k' (l.drop n) d ∧ Kept [rb, sb, bm] w wr

theorem open_cons_no {k : Hp.K} {g : Pp.G} {r : List Pp.G} {d : Bs} (h : Hp.joinP k.d g.p = none) : Hp.openA k (g :: r) d = (k, none) := by
  conv => lhs; unfold Hp.openA
  rw [h]
theorem open_cons_in {k : Hp.K} {g : Pp.G} {r : List Pp.G} {d p : Bs} (h : Hp.joinP k.d g.p = some p) (h6 : g.k = 6) : Hp.openA k (g :: r) d = if (Hp.readP k p).2 = 0 then Hp.openA ⟨k.s, k.d, k.code, (Hp.readP k p).1, k.outp⟩ r d else (k, none) := by
  conv => lhs; unfold Hp.openA
  rw [h]
  exact if_pos h6
theorem open_cons_out {k : Hp.K} {g : Pp.G} {r : List Pp.G} {d p : Bs} (h : Hp.joinP k.d g.p = some p) (h6 : g.k ≠ 6) : Hp.openA k (g :: r) d =
    if (k.took (Sw.writeA k.s p [] (decide (g.k = 5)))).2 = 0 then Hp.openA (k.took (Sw.writeA k.s p [] (decide (g.k = 5)))).1 r p else ((k.took (Sw.writeA k.s p [] (decide (g.k = 5)))).1, none) := by
  conv => lhs; unfold Hp.openA
  rw [h]
  exact if_neg h6
theorem read_code (k : Hp.K) (p : Bs) : (Hp.readP k p).2 = 0 ∨ ((Hp.readP k p).1 = [] ∧ (Hp.readP k p).2 ≠ 0 ∧ (Hp.readP k p).2 ≠ 5 ∧ (Hp.readP k p).2 ≠ 12) := by
  unfold Hp.readP readA
  split
  · right; simp
  · split
    · right; simp
    · left; rfl

set_option maxHeartbeats 2000000 in
theorem redirect_any (w : World) (k : Hp.K) (m : Nat) (v : Value) (l : List Pp.G) (hR : RunAt w rb sb bm k st ran pv bv) (hO : Hp.Ok k m) (h0 : k.code = 0) (hv : Px.Rg w (Old rb sb bm) v l.length (Px.tgsC l)) (hl : ∀ g ∈ l, m + g.p.length + 2 ≤ 100000) (hll : l.length ≤ 1000000) :
    Calls Tryz.prog 98 #[.pointer (some ⟨rb, 0, none⟩), v] w (RedPost w rb sb bm st ran pv bv (Hp.openA k l [])) := by
  obtain ⟨a, c, rfl, hc⟩ := hv.shape
  have HV := Lib.hid hv
  have HL := Lib.hid hl
  have hlt := hR.lt
  clear hv hl
  go_enter Tryz.func98, Tryz.ntmps98
  go_wp2_with fail
  go_loopw [6, 14] (fun v6 v14 wr => RdRel w rb sb bm st ran pv bv k m l v6 v14 wr) (fun _ i _ => l.length - (intOf i).toNat)
  case atStart => exact ⟨0, k, [], Nat.zero_le _, rfl, rfl, hR, hO, h0, rfl, Kept.refl _ _⟩
  case round =>
    obtain ⟨n, k', d, hn, rfl, rfl, hR', hO', h0', he, hK⟩ := hrel
    by_cases hlt2 : n < l.length
    · obtain ⟨b, o, rfl, hcp, hp, hx⟩ := Px.tos_cells HV.out (by omega)
      obtain ⟨x0, x1⟩ := hx n hlt2
      have hg : l.drop n = l[n] :: l.drop (n + 1) := List.drop_eq_getElem_cons hlt2
      have hsz := HL.out _ (List.getElem_mem hlt2)
      obtain ⟨⟨gk, gp⟩, hgn⟩ : ∃ g, l[n] = g := ⟨_, rfl⟩
      rw [hgn] at x0 x1 hg hsz
      rw [hg] at he
      dsimp only at x0 x1 hsz
      rw [lstr] at x1
      have hkeep := kept_old hK (by simp [hR'.n1]) hlt b hp
      have e0 : wr.cell? ⟨b, o + n * 2, none⟩ = some (.int .i64 gk) := (World.cell?_of_block (a := ⟨b, o + n * 2, none⟩) hkeep).trans x0
      have e1 : wr.cell? ⟨b, o + n * 2 + 1, none⟩ = some (.string (str gp)) := (World.cell?_of_block (a := ⟨b, o + n * 2 + 1, none⟩) hkeep).trans x1
      have HKw : Hid (Kept [rb, sb, bm] w wr) := Lib.hid hK
      have hd := hO'.dir
      have hltr := hR'.lt
      cases hj : Hp.joinP k'.d gp with
      | none =>
        have HJ : Hid (Hp.joinP k'.d (bs (str gp)) = none) := Lib.hid hj
        have HE : Hid (Hp.openA k l [] = (k', none)) := Lib.hid (he.trans (open_cons_no hj))
        clear he hj hK hg hgn hx hp hkeep
        go_wp2_with (first
          | (go_at_call 134; refine (path_no _ (str gp) (hR'.alloc _) (by omega) (by rw [← bs_len, bs_str]; omega) HJ).mono ?_; rintro e w1 ⟨rfl, B1⟩; have hR1 := (hR'.alloc _).below B1; have hK1 := (HKw.out.alloc _).below B1)
          | (go_at_call 123; refine (status_one _ 2 (by decide) (by decide) (by decide)).mono ?_; rintro e w2 ⟨rfl, rfl⟩))
        go_ret2
        rw [HE.out]
        exact ⟨⟨by simp only [h0', if_true]; rfl, k'.inp, hR1⟩, hK1⟩
      | some p =>
        have hpl := Hp.joinP_len hj
        have HJ : Hid (Hp.joinP k'.d (bs (str gp)) = some p) := Lib.hid hj
        have hpm : (str p).size ≤ 100000 := by rw [← bs_len, bs_str]; omega
        have hpm2 : (str p).size ≤ maxLen := by unfold maxLen; omega
        by_cases h6 : gk = 6
        · subst h6
          rw [open_cons_in hj rfl] at he
          rcases read_code k' p with hc0 | ⟨hc1, hc2, hc5, hc12⟩
          · rw [if_pos hc0] at he
            have HE := Lib.hid he
            have hO2 : Hp.Ok ⟨k'.s, k'.d, k'.code, (Hp.readP k' p).1, k'.outp⟩ m := ⟨hO'.fine, hO'.closed, hO'.dir, Hp.read_len hO' p, hO'.outp⟩
            have HRd := Lib.hid fun (W : World) (hS : StoreAt W sb bm k'.s.L k'.s.c) => Read_any W (str p) _ hS hpm2 (Lib.hid rfl)
            have HC : Hid ((readA (getR k'.s.L (bs (str p)))) = ((Hp.readP k' p).1, 0)) := Lib.hid (Prod.ext rfl hc0)
            clear he hj hK hg hgn hx hp hkeep
            generalize (Hp.readP k' p).1 = tx at *
            go_wp2_with (first
              | (go_at_call 134; refine (path_yes _ (str gp) p (hR'.alloc _) (by omega) (by rw [← bs_len, bs_str]; omega) HJ).mono ?_; rintro e w1 ⟨rfl, B1⟩; have hR1 := (hR'.alloc _).below B1; have hK1 := (HKw.out.alloc _).below B1; obtain ⟨c0, c1, c3, c4, c8, c9⟩ := hR1.cells; have hltr1 := hR1.lt; have z0 : w1.cell? ⟨wr.heap.size, 0, none⟩ = some (.int .i64 6) := (B1.cell (p := ⟨wr.heap.size, 0, none⟩) (by simp)).trans (cell_at (heap_new wr _ rfl) rfl); have hz1 : wr.heap.size < w1.heap.size := Nat.lt_of_lt_of_le (by simp) B1.size)
              | (go_at_call 118; refine (HRd.out _ hR1.store).mono ?_; rw [HC.out]; rintro e w2 ⟨rfl, B2⟩; have hR2 := hR1.below B2; have hK2 := hK1.below B2; obtain ⟨c0, c1, c3, c4, c8, c9⟩ := hR2.cells; have f8 := hR2.frozen 8; have hltr2 := hR2.lt)
              | (go_at_call 123; refine (status_zero _).mono ?_; rintro e w3 ⟨rfl, rfl⟩))
            go_roundw
            case rel => exact ⟨n + 1, _, d, hlt2, by go_num, rfl, hR2.set8 tx, hO2, h0', HE.out, kept_set hK2 (by simp) _⟩
            case measure => simp [intOf]; omega
          · rw [if_neg hc2] at he
            have HE := Lib.hid he
            have HRd := Lib.hid fun (W : World) (hS : StoreAt W sb bm k'.s.L k'.s.c) => Read_any W (str p) _ hS hpm2 (Lib.hid rfl)
            obtain ⟨cd, hcd⟩ : ∃ cd, (Hp.readP k' p).2 = cd := ⟨_, rfl⟩
            have HC : Hid ((readA (getR k'.s.L (bs (str p)))) = ([], cd)) := Lib.hid (Prod.ext hc1 hcd)
            rw [hcd] at hc2 hc5 hc12
            clear he hj hK hg hgn hx hp hkeep hc1 hcd
            go_wp2_with (first
              | (go_at_call 134; refine (path_yes _ (str gp) p (hR'.alloc _) (by omega) (by rw [← bs_len, bs_str]; omega) HJ).mono ?_; rintro e w1 ⟨rfl, B1⟩; have hR1 := (hR'.alloc _).below B1; have hK1 := (HKw.out.alloc _).below B1; obtain ⟨c0, c1, c3, c4, c8, c9⟩ := hR1.cells; have hltr1 := hR1.lt; have z0 : w1.cell? ⟨wr.heap.size, 0, none⟩ = some (.int .i64 6) := (B1.cell (p := ⟨wr.heap.size, 0, none⟩) (by simp)).trans (cell_at (heap_new wr _ rfl) rfl); have hz1 : wr.heap.size < w1.heap.size := Nat.lt_of_lt_of_le (by simp) B1.size)
              | (go_at_call 118; refine (HRd.out _ hR1.store).mono ?_; rw [HC.out]; rintro e w2 ⟨rfl, B2⟩; have hR2 := hR1.below B2; have hK2 := hK1.below B2; obtain ⟨c0, c1, c3, c4, c8, c9⟩ := hR2.cells; have f8 := hR2.frozen 8; have hltr2 := hR2.lt)
              | (go_at_call 123; refine (status_one _ cd hc2 hc5 hc12).mono ?_; rintro e w3 ⟨rfl, rfl⟩))
            go_ret2
            rw [HE.out]
            exact ⟨⟨by simp only [h0', if_true]; rfl, [], hR2.set8 []⟩, kept_set hK2 (by simp) _⟩
        · rw [open_cons_out hj h6] at he
          dsimp only at he
          have q6 : ((gk : Int) == 6) = false := beq_eq_false_iff_ne.2 (by omega)
          obtain ⟨m5, hm5⟩ : ∃ m5, decide (gk = 5) = m5 := ⟨_, rfl⟩
          have q5 : ((gk : Int) == 5) = m5 := by rw [← hm5, Bool.eq_iff_iff]; simp; try omega
          rw [hm5] at he
          have hF := hO'.fine
          have hbx : wr.heap.size ∉ [sb, bm] := by
            have h1 := hR'.store.lt
            have h2 := hR'.store.map.lt
            simp; omega
          have hO2 := hO'.wrote (p := p) (t := []) (by omega) m5
          obtain ⟨⟨s2, cd⟩, hq⟩ : ∃ q, Sw.writeA k'.s p [] m5 = q := ⟨_, rfl⟩
          have HWr := Lib.hid fun (W : World) (hS : StoreAt W sb bm k'.s.L k'.s.c) => Write_any W (str p) ⟨#[]⟩ m5 hS hF (by omega) (by decide)
          have HC : Hid (Sw.writeA k'.s (bs (str p)) (bs ⟨#[]⟩) m5 = (s2, cd)) := Lib.hid hq
          rw [hq] at he hO2
          by_cases hc0 : cd = 0
          · subst hc0
            rw [if_pos (show (k'.took (s2, 0)).2 = 0 from rfl)] at he
            have HE := Lib.hid he
            clear he hj hK hg hgn hx hp hkeep hm5 hq
            go_wp2_with (first
              | (go_at_call 134; refine (path_yes _ (str gp) p (hR'.alloc _) (by omega) (by rw [← bs_len, bs_str]; omega) HJ).mono ?_; rintro e w1 ⟨rfl, B1⟩; have hR1 := (hR'.alloc _).below B1; have hK1 := (HKw.out.alloc _).below B1; obtain ⟨c0, c1, c3, c4, c8, c9⟩ := hR1.cells; have hltr1 := hR1.lt; have z0 : w1.cell? ⟨wr.heap.size, 0, none⟩ = some (.int .i64 gk) := (B1.cell (p := ⟨wr.heap.size, 0, none⟩) (by simp)).trans (cell_at (heap_new wr _ rfl) rfl); have hz1 : wr.heap.size < w1.heap.size := Nat.lt_of_lt_of_le (by simp) B1.size))
            have D0 : Below w1.heap.size w1 w1.drew := (Below.refl _ _).drew
            have hR1d := hR1.below D0
            have hK1d := hK1.below D0
            go_region_held3 (fun w' => w'.cell? ⟨rb, 0, none⟩ = some (.pointer (some ⟨sb, 0, none⟩)) ∧ w'.cell? ⟨wr.heap.size, 0, none⟩ = some (.int .i64 gk))
              (first | exact ⟨c0, z0⟩ | exact S2)
              (first
                | (go_at_call 122; refine (HWr.out _ hR1d.store).mono ?_; rw [HC.out]; rintro e w2 ⟨rfl, hS2, hK2⟩; have hR2 := hR1d.stored hS2 hK2; have S2 : w2.cell? ⟨rb, 0, none⟩ = some (.pointer (some ⟨sb, 0, none⟩)) ∧ w2.cell? ⟨wr.heap.size, 0, none⟩ = some (.int .i64 gk) := ⟨hR2.cells.1, (hK2.cell (p := ⟨wr.heap.size, 0, none⟩) hz1 hbx).trans z0⟩; have hK3 := hK1d.trans (hK2.mono (Y := [rb, sb, bm]) (by simp))))
            all_goals go_wp2_with (go_at_call 123; refine (status_zero _).mono ?_; rintro e w3 ⟨rfl, rfl⟩)
            all_goals go_roundw
            all_goals first
              | exact ⟨n + 1, _, p, hlt2, by go_num, rfl, hR2, hO2, h0', HE.out, hK3⟩
              | (simp [intOf]; omega)
          · rw [if_neg (show ¬ (k'.took (s2, cd)).2 = 0 by simp [Hp.K.took, hc0])] at he
            have HE := Lib.hid he
            by_cases h5 : cd = 5 ∨ cd = 12
            · have hcode : (k'.took (s2, cd)).1.code = cd := by simp [Hp.K.took, h5]
              clear he hj hK hg hgn hx hp hkeep hm5 hq
              go_wp2_with (first
                | (go_at_call 134; refine (path_yes _ (str gp) p (hR'.alloc _) (by omega) (by rw [← bs_len, bs_str]; omega) HJ).mono ?_; rintro e w1 ⟨rfl, B1⟩; have hR1 := (hR'.alloc _).below B1; have hK1 := (HKw.out.alloc _).below B1; obtain ⟨c0, c1, c3, c4, c8, c9⟩ := hR1.cells; have hltr1 := hR1.lt; have z0 : w1.cell? ⟨wr.heap.size, 0, none⟩ = some (.int .i64 gk) := (B1.cell (p := ⟨wr.heap.size, 0, none⟩) (by simp)).trans (cell_at (heap_new wr _ rfl) rfl); have hz1 : wr.heap.size < w1.heap.size := Nat.lt_of_lt_of_le (by simp) B1.size))
              have D0 : Below w1.heap.size w1 w1.drew := (Below.refl _ _).drew
              have hR1d := hR1.below D0
              have hK1d := hK1.below D0
              go_region_held3 (fun w' => w'.cell? ⟨rb, 0, none⟩ = some (.pointer (some ⟨sb, 0, none⟩)) ∧ w'.cell? ⟨wr.heap.size, 0, none⟩ = some (.int .i64 gk))
                (first | exact ⟨c0, z0⟩ | exact S2)
                (first
                  | (go_at_call 122; refine (HWr.out _ hR1d.store).mono ?_; rw [HC.out]; rintro e w2 ⟨rfl, hS2, hK2⟩; have hR2 := hR1d.stored hS2 hK2; have S2 : w2.cell? ⟨rb, 0, none⟩ = some (.pointer (some ⟨sb, 0, none⟩)) ∧ w2.cell? ⟨wr.heap.size, 0, none⟩ = some (.int .i64 gk) := ⟨hR2.cells.1, (hK2.cell (p := ⟨wr.heap.size, 0, none⟩) hz1 hbx).trans z0⟩; have hK3 := hK1d.trans (hK2.mono (Y := [rb, sb, bm]) (by simp))))
              all_goals go_wp2_with (go_at_call 123; refine (status_end _ cd h5).mono ?_; rintro e w3 ⟨rfl, rfl⟩; unfold endE)
              all_goals refine ⟨rfl, ?_⟩
              all_goals rw [HE.out]
              all_goals exact ⟨⟨by rw [if_neg (by rw [hcode]; exact hc0), hcode]; rfl, k'.inp, ⟨hR2.box, hR2.store, hR2.n1, hR2.n2⟩⟩, hK3⟩
            · have hcode : (k'.took (s2, cd)).1.code = 0 := by simp [Hp.K.took, h5, h0']
              clear he hj hK hg hgn hx hp hkeep hm5 hq
              go_wp2_with (first
                | (go_at_call 134; refine (path_yes _ (str gp) p (hR'.alloc _) (by omega) (by rw [← bs_len, bs_str]; omega) HJ).mono ?_; rintro e w1 ⟨rfl, B1⟩; have hR1 := (hR'.alloc _).below B1; have hK1 := (HKw.out.alloc _).below B1; obtain ⟨c0, c1, c3, c4, c8, c9⟩ := hR1.cells; have hltr1 := hR1.lt; have z0 : w1.cell? ⟨wr.heap.size, 0, none⟩ = some (.int .i64 gk) := (B1.cell (p := ⟨wr.heap.size, 0, none⟩) (by simp)).trans (cell_at (heap_new wr _ rfl) rfl); have hz1 : wr.heap.size < w1.heap.size := Nat.lt_of_lt_of_le (by simp) B1.size))
              have D0 : Below w1.heap.size w1 w1.drew := (Below.refl _ _).drew
              have hR1d := hR1.below D0
              have hK1d := hK1.below D0
              go_region_held3 (fun w' => w'.cell? ⟨rb, 0, none⟩ = some (.pointer (some ⟨sb, 0, none⟩)) ∧ w'.cell? ⟨wr.heap.size, 0, none⟩ = some (.int .i64 gk))
                (first | exact ⟨c0, z0⟩ | exact S2)
                (first
                  | (go_at_call 122; refine (HWr.out _ hR1d.store).mono ?_; rw [HC.out]; rintro e w2 ⟨rfl, hS2, hK2⟩; have hR2 := hR1d.stored hS2 hK2; have S2 : w2.cell? ⟨rb, 0, none⟩ = some (.pointer (some ⟨sb, 0, none⟩)) ∧ w2.cell? ⟨wr.heap.size, 0, none⟩ = some (.int .i64 gk) := ⟨hR2.cells.1, (hK2.cell (p := ⟨wr.heap.size, 0, none⟩) hz1 hbx).trans z0⟩; have hK3 := hK1d.trans (hK2.mono (Y := [rb, sb, bm]) (by simp))))
              all_goals go_wp2_with (go_at_call 123; refine (status_one _ cd hc0 (fun e => h5 (.inl e)) (fun e => h5 (.inr e))).mono ?_; rintro e w3 ⟨rfl, rfl⟩)
              all_goals go_ret2
              all_goals rw [HE.out]
              all_goals exact ⟨⟨by simp only [hcode, if_true]; rfl, k'.inp, ⟨hR2.box, hR2.store, hR2.n1, hR2.n2⟩⟩, hK3⟩
    · obtain rfl : n = l.length := by omega
      rw [List.drop_length] at he
      have HE := Lib.hid he
      clear he
      go_wp2_with fail
      go_ret2
      rw [HE.out]
      exact ⟨⟨rfl, hR'⟩, hK⟩
end
end Go.Proofs.YtaolccibflniiaaGreatDoor.Hx
