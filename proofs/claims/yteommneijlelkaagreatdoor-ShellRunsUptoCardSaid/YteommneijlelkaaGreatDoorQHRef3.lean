/-
  The reference's run: its box, took, path, truth.
  The reference's cd (and what a command of the reference leaves).
  The reference's Has, and what it does to one path (rm, touch, mkdir).
-/
import Derived.Test.YteommneijlelkaaGreatDoorQHRun
import Derived.Test.YteommneijlelkaaGreatDoorQHWorld
import Derived.Test.YteommneijlelkaaGreatDoorQSRPut
import Derived.Test.YteommneijlelkaaGreatDoorQSIs
import Derived.Test.YteommneijlelkaaGreatDoorQRefDirs
import Derived.Test.YteommneijlelkaaGreatDoorQPTake
import Derived.Test.YteommneijlelkaaGreatDoorQWReads
import Derived.Test.YteommneijlelkaaGreatDoorQSRRemove2
namespace Go.Proofs.YteommneijlelkaaGreatDoor.Hx
open Go.RowKit Go.Proofs.YteommneijlelkaaGreatDoor Go.Maps Go.Proofs.YteommneijlelkaaGreatDoor.Sw
set_option maxRecDepth 100000

abbrev QT : TypeId := 50
/-- The reference's run in block qb. -/
structure RefAt (w : World) (qb : Nat) (v : Value) (k : Hp.K) (st ran : Int) (out : Bs) : Prop where
  box : w.heap[qb]? = some (.cells #[v, .int .i64 k.s.c, .string (str k.d), .int .i64 st, .string (str out), .int .i64 ran, .int .i64 k.code, .string (str k.inp), .string (str k.outp)] QT (0, 0))
  files : RFiles w v k.s.L
  ne : ∀ b, v.ownBlock = some b → b ≠ qb
section
variable {w w' : World} {qb : Nat} {v : Value} {k : Hp.K} {st ran : Int} {out : Bs}
theorem RefAt.lt (h : RefAt w qb v k st ran out) : qb < w.heap.size := (Array.getElem?_eq_some_iff.1 h.box).1
theorem RefAt.below (h : RefAt w qb v k st ran out) (hB : Below w.heap.size w w') : RefAt w' qb v k st ran out := ⟨(hB.block _ h.lt).trans h.box, h.files.below hB, h.ne⟩
theorem RefAt.frozen (h : RefAt w qb v k st ran out) (i : Nat) : w.frozen? ⟨qb, i, none⟩ = false := frozen_at h.box i
theorem RefAt.cells (h : RefAt w qb v k st ran out) :
    w.cell? ⟨qb, 0, none⟩ = some v ∧ w.cell? ⟨qb, 1, none⟩ = some (.int .i64 k.s.c) ∧ w.cell? ⟨qb, 2, none⟩ = some (.string (str k.d)) ∧ w.cell? ⟨qb, 3, none⟩ = some (.int .i64 st) ∧ w.cell? ⟨qb, 4, none⟩ = some (.string (str out)) ∧
    w.cell? ⟨qb, 5, none⟩ = some (.int .i64 ran) ∧ w.cell? ⟨qb, 6, none⟩ = some (.int .i64 k.code) ∧ w.cell? ⟨qb, 7, none⟩ = some (.string (str k.inp)) ∧ w.cell? ⟨qb, 8, none⟩ = some (.string (str k.outp)) :=
  ⟨cell_at h.box rfl, cell_at h.box rfl, cell_at h.box rfl, cell_at h.box rfl, cell_at h.box rfl, cell_at h.box rfl, cell_at h.box rfl, cell_at h.box rfl, cell_at h.box rfl⟩
theorem RefAt.setD (h : RefAt w qb v k st ran out) (x : Bs) : RefAt (w.setCell ⟨qb, 2, none⟩ (.string (str x))) qb v ⟨k.s, x, k.code, k.inp, k.outp⟩ st ran out := ⟨heap_set3 h.box _, h.files.setCell _ _ _ h.ne, h.ne⟩
theorem RefAt.setSt (h : RefAt w qb v k st ran out) (x : Int) : RefAt (w.setCell ⟨qb, 3, none⟩ (.int .i64 x)) qb v k x ran out := ⟨heap_set3 h.box _, h.files.setCell _ _ _ h.ne, h.ne⟩
theorem RefAt.setOut (h : RefAt w qb v k st ran out) (x : Bs) : RefAt (w.setCell ⟨qb, 4, none⟩ (.string (str x))) qb v k st ran x := ⟨heap_set3 h.box _, h.files.setCell _ _ _ h.ne, h.ne⟩
theorem RefAt.setRan (h : RefAt w qb v k st ran out) (x : Int) : RefAt (w.setCell ⟨qb, 5, none⟩ (.int .i64 x)) qb v k st x out := ⟨heap_set3 h.box _, h.files.setCell _ _ _ h.ne, h.ne⟩
theorem RefAt.setCode (h : RefAt w qb v k st ran out) (x : Int) : RefAt (w.setCell ⟨qb, 6, none⟩ (.int .i64 x)) qb v ⟨k.s, k.d, x, k.inp, k.outp⟩ st ran out := ⟨heap_set3 h.box _, h.files.setCell _ _ _ h.ne, h.ne⟩
theorem RefAt.setIn (h : RefAt w qb v k st ran out) (x : Bs) : RefAt (w.setCell ⟨qb, 7, none⟩ (.string (str x))) qb v ⟨k.s, k.d, k.code, x, k.outp⟩ st ran out := ⟨heap_set3 h.box _, h.files.setCell _ _ _ h.ne, h.ne⟩
theorem RefAt.setOutp (h : RefAt w qb v k st ran out) (x : Bs) : RefAt (w.setCell ⟨qb, 8, none⟩ (.string (str x))) qb v ⟨k.s, k.d, k.code, k.inp, x⟩ st ran out := ⟨heap_set3 h.box _, h.files.setCell _ _ _ h.ne, h.ne⟩
/-- A new store in it. -/
theorem RefAt.setS (h : RefAt w qb v k st ran out) {u : Value} {s : St} (hf : RFiles w u s.L) (hu : ∀ b, u.ownBlock = some b → b ≠ qb) :
    RefAt ((w.setCell ⟨qb, 0, none⟩ u).setCell ⟨qb, 1, none⟩ (.int .i64 s.c)) qb u ⟨s, k.d, k.code, k.inp, k.outp⟩ st ran out :=
  ⟨heap_set3 (heap_set3 h.box _) _, (hf.setCell _ _ _ hu).setCell _ _ _ hu, hu⟩
/-- Of a new store. -/
theorem RefAt.new_ne (h : RefAt w qb v k st ran out) {u : Value} (hu : u = v ∨ ∀ b, u.ownBlock = some b → w.heap.size ≤ b) : ∀ b, u.ownBlock = some b → b ≠ qb := by
  intro b hb
  rcases hu with rfl | hu
  · exact h.ne b hb
  · have := hu b hb
    have := h.lt
    omega

theorem rtruth_any (w : World) (b : Bool) : Calls Tryz.prog 147 #[.bool b] w fun e w' => e = .returned (.int .i64 (if b then 0 else 1)) ∧ w = w' := by
  cases b <;>
  · go_enter Tryz.func147, Tryz.ntmps147
    go_wp2
    go_ret
    exact ⟨rfl, rfl⟩
theorem rjoin_yes (w : World) (x : Value) (ss : List ByteArray) (q : Bs) (hv : Strs w x ss) (hne : ss ≠ []) (hs : tot ss ≤ 1000000) (h : Hid (Pt.join (ss.map bs) = some q)) :
    Calls Tryz.prog 41 #[x] w fun e w' => e = .returned (.tuple #[.string (str q), .bool true]) ∧ Below w.heap.size w w' := by
  rcases hv with ⟨rfl, a, c, rfl⟩ | ⟨b, o, c, rfl, hb, hc⟩
  · exact absurd rfl hne
  · refine (RJoinB_any w b o c ss hb hc hs).mono ?_
    rw [h.out]
    rintro e w' ⟨hB, rfl⟩
    exact ⟨rfl, hB⟩
theorem rjoin_no (w : World) (x : Value) (ss : List ByteArray) (hv : Strs w x ss) (hne : ss ≠ []) (hs : tot ss ≤ 1000000) (h : Hid (Pt.join (ss.map bs) = none)) :
    Calls Tryz.prog 41 #[x] w fun e w' => e = .returned (.tuple #[.string (str []), .bool false]) ∧ Below w.heap.size w w' := by
  rcases hv with ⟨rfl, a, c, rfl⟩ | ⟨b, o, c, rfl, hb, hc⟩
  · exact absurd rfl hne
  · refine (RJoinB_any w b o c ss hb hc hs).mono ?_
    rw [h.out]
    rintro e w' ⟨hB, rfl⟩
    exact ⟨rfl, hB⟩
theorem rpath_yes (w : World) (s : ByteArray) (q : Bs) (hR : RefAt w qb v k st ran out) (hd : k.d.length ≤ 100000) (hs : s.size ≤ 800000) (h : Hid (Hp.joinP k.d (bs s) = some q)) :
    Calls Tryz.prog 93 #[.pointer (some ⟨qb, 0, none⟩), .string s] w fun e w' => e = .returned (.tuple #[.string (str q), .bool true]) ∧ Below w.heap.size w w' := by
  obtain ⟨c0, c1, c2, c3, c4, c5, c6, c7, c8⟩ := hR.cells
  have hlt := hR.lt
  have HJ : Hid (Pt.join ([str k.d, s].map bs) = some q) := h
  have hl : (str k.d).size ≤ 100000 := by rw [← bs_len, bs_str]; exact hd
  have hss := strs_two w (str k.d) s
  go_enter Tryz.func93, Tryz.ntmps93
  go_wp2_with (go_at_call 41; refine (rjoin_yes _ _ [str k.d, s] q hss (by simp) (by simp [tot]; omega) HJ).mono ?_; rintro e w' ⟨rfl, hB2⟩)
  go_ret2
  exact ⟨rfl, ((Below.refl _ w).alloc (Nat.le_refl _) _).trans (hB2.mono (by simp))⟩
theorem rpath_no (w : World) (s : ByteArray) (hR : RefAt w qb v k st ran out) (hd : k.d.length ≤ 100000) (hs : s.size ≤ 800000) (h : Hid (Hp.joinP k.d (bs s) = none)) :
    Calls Tryz.prog 93 #[.pointer (some ⟨qb, 0, none⟩), .string s] w fun e w' => e = .returned (.tuple #[.string (str []), .bool false]) ∧ Below w.heap.size w w' := by
  obtain ⟨c0, c1, c2, c3, c4, c5, c6, c7, c8⟩ := hR.cells
  have hlt := hR.lt
  have HJ : Hid (Pt.join ([str k.d, s].map bs) = none) := h
  have hl : (str k.d).size ≤ 100000 := by rw [← bs_len, bs_str]; exact hd
  have hss := strs_two w (str k.d) s
  go_enter Tryz.func93, Tryz.ntmps93
  go_wp2_with (go_at_call 41; refine (rjoin_no _ _ [str k.d, s] hss (by simp) (by simp [tot]; omega) HJ).mono ?_; rintro e w' ⟨rfl, hB2⟩)
  go_ret2
  exact ⟨rfl, ((Below.refl _ w).alloc (Nat.le_refl _) _).trans (hB2.mono (by simp))⟩
/-- A store behind a call, and its error. -/
theorem rtook_any (w : World) (u : Value) (s : St) (c : Int) (hR : RefAt w qb v k st ran out) (hf : RFiles w u s.L) (hu : u = v ∨ ∀ b, u.ownBlock = some b → b ≠ qb) :
    Calls Tryz.prog 60 #[.pointer (some ⟨qb, 0, none⟩), .agg #[u, .int .i64 s.c], .int .i64 c] w fun e w' => e = .returned (.int .i64 (k.took (s, c)).2) ∧ RefAt w' qb u (k.took (s, c)).1 st ran out ∧ Kept [qb] w w' := by
  have hne : ∀ b, u.ownBlock = some b → b ≠ qb := by
    rcases hu with rfl | hu
    · exact hR.ne
    · exact hu
  obtain ⟨ua, un, uc, rfl⟩ := hf.shape
  have hlt := hR.lt
  have f0 := hR.frozen 0
  have f1 := hR.frozen 1
  have f6 := hR.frozen 6
  obtain ⟨c0, c1, c2, c3, c4, c5, c6, c7, c8⟩ := hR.cells
  obtain ⟨va, vn, vc, rfl⟩ := hR.files.shape
  have hR0 := hR.setS hf hne
  have K0 : Kept [qb] w ((w.setCell ⟨qb, 0, none⟩ (.slice ua un uc)).setCell ⟨qb, 1, none⟩ (.int .i64 s.c)) := kept_set (b := qb) (i := 1) (kept_set (b := qb) (i := 0) (.refl _ _) (by simp) _) (by simp) _
  by_cases h5 : c = 5
  · subst h5
    go_enter Tryz.func60, Tryz.ntmps60
    go_wp2_with fail
    go_ret
    exact ⟨rfl, (hR0.setCode 5).below ((Below.refl _ _).alloc (Nat.le_refl _) _), (kept_set (b := qb) (i := 6) K0 (by simp) _).alloc _⟩
  · by_cases h12 : c = 12
    · subst h12
      go_enter Tryz.func60, Tryz.ntmps60
      go_wp2_with fail
      go_ret
      exact ⟨rfl, (hR0.setCode 12).below ((Below.refl _ _).alloc (Nat.le_refl _) _), (kept_set (b := qb) (i := 6) K0 (by simp) _).alloc _⟩
    · have hk : (k.took (s, c)).1 = ⟨s, k.d, k.code, k.inp, k.outp⟩ := by simp [Hp.K.took, h5, h12]
      have q5 : (c == 5) = false := by simp [h5]
      have q12 : (c == 12) = false := by simp [h12]
      rw [hk]
      by_cases h0 : c = 0
      · subst h0
        clear hk
        go_enter Tryz.func60, Tryz.ntmps60
        go_wp2_with fail
        go_ret
        exact ⟨rfl, hR0.below ((Below.refl _ _).alloc (Nat.le_refl _) _), K0.alloc _⟩
      · have hs : (k.took (s, c)).2 = 1 := by simp [Hp.K.took, h0]
        have q0 : (c != 0) = true := by simp [h0]
        rw [hs]
        clear hk hs
        go_enter Tryz.func60, Tryz.ntmps60
        go_wp2_with fail
        go_ret
        exact ⟨rfl, hR0.below ((Below.refl _ _).alloc (Nat.le_refl _) _), K0.alloc _⟩
end
end Go.Proofs.YteommneijlelkaaGreatDoor.Hx
namespace Go.Proofs.YteommneijlelkaaGreatDoor.Hx
open Go.RowKit Go.Proofs.YteommneijlelkaaGreatDoor Go.Maps Go.Proofs.YteommneijlelkaaGreatDoor.Sw
set_option maxRecDepth 100000

/-- What a command of the reference leaves. -/
def RefPost (w : World) (qb : Nat) (st ran : Int) (out : Bs) (r : Hp.K × Nat) (e : Ending) (w' : World) : Prop :=
  e = .returned (.int .i64 r.2) ∧ (∃ v, RefAt w' qb v r.1 st ran out) ∧ Kept [qb] w w'
/-- The words of a command, in blocks below N. -/
def RWs (w : World) (qb N : Nat) (x : Value) (l : List Bs) : Prop := Px.Rg w (fun b => b < N ∧ b ≠ qb) x l.length (Px.strsC l)
section
variable {w w' : World} {qb N : Nat} {v x : Value} {k : Hp.K} {st ran : Int} {out : Bs} {l : List Bs}
theorem RWs.kept (h : RWs w qb N x l) (hK : Kept [qb] w w') (hN : N ≤ w.heap.size) : RWs w' qb N x l := h.keep fun b hb => hK.block b (Nat.lt_of_lt_of_le hb.1 hN) (by simp [hb.2])
theorem RWs.cell {a : Option Addr} {c : Nat} (h : RWs w qb N (.slice a l.length c) l) (hn : 0 < l.length) : ∃ b o, a = some ⟨b, o, none⟩ ∧ l.length ≤ c ∧ (b < N ∧ b ≠ qb) ∧ ∀ j (hj : j < l.length), w.cell? ⟨b, o + j, none⟩ = some (.string (str l[j])) := by
  obtain ⟨b, o, ha, hc, hp, hx⟩ := Px.strs_cells h hn
  exact ⟨b, o, ha, hc, hp, fun j hj => hx j hj⟩
theorem rget_any (w : World) (u : Value) (s : St) (p : ByteArray) (hF : Fine s) (h : RFiles w u s.L) (r : Option F) (hr : Hid (getR s.L (bs p) = r)) :
    Calls Tryz.prog 10 #[.agg #[u, .int .i64 s.c], .string p] w fun e w' => e = .returned (.tuple #[fV (r.getD noF), .bool r.isSome]) ∧ Below w.heap.size w w' := by
  have hl : s.L.length ≤ 100000 := by have := hF.len; omega
  cases r with
  | some f => exact RGet_yes w u s.c p hl h.files hF.sorted hr
  | none => exact RGet_no w u s.c p hl h.files hF.sorted hr
set_option maxHeartbeats 1000000 in
theorem rcd_any (w : World) (hR : RefAt w qb v k st ran out) (hF : Fine k.s) (hd : k.d.length ≤ 100000) (hx : RWs w qb N x l) (hl : ∀ y ∈ l, y.length ≤ 100000) (h8 : l.length ≤ 100000) :
    Calls Tryz.prog 101 #[.pointer (some ⟨qb, 0, none⟩), x] w (RefPost w qb st ran out (Hp.cdA k l)) := by
  have hlt := hR.lt
  obtain ⟨a, c, rfl, hc⟩ := Px.Rg.shape hx
  by_cases h1 : l.length = 1
  · obtain ⟨y, rfl⟩ := List.length_eq_one_iff.1 h1
    obtain ⟨b, o, rfl, _, hb, hy⟩ := RWs.cell hx (by simp)
    have e0 : w.cell? ⟨b, o, none⟩ = some (.string (str y)) := hy 0 (by simp)
    have hc1 : 1 ≤ c := hc
    have HR := Lib.hid hR
    have hsy : (str y).size ≤ 800000 := by rw [← bs_len, bs_str]; have := hl y (by simp); omega
    obtain ⟨va, vn, vc, rfl⟩ := hR.files.shape
    clear hx hy h1 hc
    obtain ⟨q, ok, hq⟩ : ∃ q ok, (match Hp.joinP k.d y with | some p => (p, true) | none => (([] : Bs), false)) = (q, ok) := ⟨_, _, rfl⟩
    have HP := Lib.hid fun (W : World) (h : RefAt W qb (.slice va vn vc) k st ran out) => show Calls Tryz.prog 93 #[.pointer (some ⟨qb, 0, none⟩), .string (str y)] W fun e w' => e = .returned (.tuple #[.string (str q), .bool ok]) ∧ Below W.heap.size W w' from by
      cases hj : Hp.joinP k.d y with
      | none =>
        rw [hj] at hq
        obtain ⟨rfl, rfl⟩ := Prod.mk.inj hq
        exact rpath_no W (str y) h hd hsy (Lib.hid hj)
      | some p =>
        rw [hj] at hq
        obtain ⟨rfl, rfl⟩ := Prod.mk.inj hq
        exact rpath_yes W (str y) _ h hd hsy (Lib.hid hj)
    obtain ⟨g, hg⟩ : ∃ g, getR k.s.L q = g := ⟨_, rfl⟩
    have HG := Lib.hid fun (W : World) (h : RFiles W (.slice va vn vc) k.s.L) => rget_any W _ k.s (str q) hF h g (Lib.hid hg)
    have hcd : ok = true → Hp.joinP k.d y = some q := fun h => by
      cases hj : Hp.joinP k.d y with
      | none => rw [hj] at hq; obtain ⟨_, rfl⟩ := Prod.mk.inj hq; cases h
      | some p => rw [hj] at hq; obtain ⟨rfl, _⟩ := Prod.mk.inj hq; rfl
    have hno : ok = false → Hp.joinP k.d y = none := fun h => by
      cases hj : Hp.joinP k.d y with
      | none => rfl
      | some p => rw [hj] at hq; obtain ⟨_, rfl⟩ := Prod.mk.inj hq; cases h
    clear hq
    cases ok with
    | false =>
      have HE : Hid (Hp.cdA k [y] = (k, 1)) := Lib.hid (by unfold Hp.cdA; simp only; rw [hno rfl])
      generalize g.getD noF = gd at *
      obtain ⟨gp, gt, gc, gdd⟩ := gd
      generalize g.isSome = gi at *
      clear hcd hno hg
      go_enter Tryz.func101, Tryz.ntmps101
      go_wp2_with fail
      refine (HP.out _ HR.out).mono ?_
      rintro e w1 ⟨rfl, B1⟩
      have hR1 := HR.out.below B1
      obtain ⟨c0, c1, c2, c3, c4, c5, c6, c7, c8⟩ := hR1.cells
      have hlt1 := hR1.lt
      have HF1 := Lib.hid hR1.files
      go_wp2_with fail
      refine (HG.out _ HF1.out).mono ?_
      rintro e w2 ⟨rfl, B2⟩
      have hR2 := hR1.below B2
      have f2 := hR2.frozen 2
      have e2 := hR2.cells.2.2.1
      have hlt2 := hR2.lt
      unfold fV
      go_wp2_with fail
      go_ret
      rw [HE.out]
      exact ⟨rfl, ⟨_, hR2.below ((Below.refl _ _).alloc (Nat.le_refl _) _)⟩, ((Kept.of_below B1).below B2).alloc _⟩
    | true =>
      have hj := hcd rfl
      clear hcd hno
      cases g with
      | none =>
        have HE : Hid (Hp.cdA k [y] = (k, 1)) := Lib.hid (by unfold Hp.cdA; simp only; rw [hj]; simp only; rw [hg]; rfl)
        clear hj hg
        dsimp only [Option.getD, Option.isSome] at HG
        go_enter Tryz.func101, Tryz.ntmps101
        go_wp2_with fail
        refine (HP.out _ HR.out).mono ?_
        rintro e w1 ⟨rfl, B1⟩
        have hR1 := HR.out.below B1
        obtain ⟨c0, c1, c2, c3, c4, c5, c6, c7, c8⟩ := hR1.cells
        have hlt1 := hR1.lt
        have HF1 := Lib.hid hR1.files
        go_wp2_with fail
        refine (HG.out _ HF1.out).mono ?_
        rintro e w2 ⟨rfl, B2⟩
        have hR2 := hR1.below B2
        have f2 := hR2.frozen 2
        have e2 := hR2.cells.2.2.1
        have hlt2 := hR2.lt
        unfold fV
        go_wp2_with fail
        go_ret
        rw [HE.out]
        exact ⟨rfl, ⟨_, hR2.below ((Below.refl _ _).alloc (Nat.le_refl _) _)⟩, ((Kept.of_below B1).below B2).alloc _⟩
      | some f =>
        obtain ⟨fp, ft, fc, fd⟩ := f
        cases fd with
        | false =>
          have HE : Hid (Hp.cdA k [y] = (k, 1)) := Lib.hid (by unfold Hp.cdA; simp only; rw [hj]; simp only; rw [hg]; rfl)
          clear hj hg
          dsimp only [Option.getD, Option.isSome] at HG
          go_enter Tryz.func101, Tryz.ntmps101
          go_wp2_with fail
          refine (HP.out _ HR.out).mono ?_
          rintro e w1 ⟨rfl, B1⟩
          have hR1 := HR.out.below B1
          obtain ⟨c0, c1, c2, c3, c4, c5, c6, c7, c8⟩ := hR1.cells
          have hlt1 := hR1.lt
          have HF1 := Lib.hid hR1.files
          go_wp2_with fail
          refine (HG.out _ HF1.out).mono ?_
          rintro e w2 ⟨rfl, B2⟩
          have hR2 := hR1.below B2
          have f2 := hR2.frozen 2
          have e2 := hR2.cells.2.2.1
          have hlt2 := hR2.lt
          unfold fV
          go_wp2_with fail
          go_ret
          rw [HE.out]
          exact ⟨rfl, ⟨_, hR2.below ((Below.refl _ _).alloc (Nat.le_refl _) _)⟩, ((Kept.of_below B1).below B2).alloc _⟩
        | true =>
          have HE : Hid (Hp.cdA k [y] = (⟨k.s, q, k.code, k.inp, k.outp⟩, 0)) := Lib.hid (by unfold Hp.cdA; simp only; rw [hj]; simp only; rw [hg]; rfl)
          clear hj hg
          dsimp only [Option.getD, Option.isSome] at HG
          go_enter Tryz.func101, Tryz.ntmps101
          go_wp2_with fail
          refine (HP.out _ HR.out).mono ?_
          rintro e w1 ⟨rfl, B1⟩
          have hR1 := HR.out.below B1
          obtain ⟨c0, c1, c2, c3, c4, c5, c6, c7, c8⟩ := hR1.cells
          have hlt1 := hR1.lt
          have HF1 := Lib.hid hR1.files
          go_wp2_with fail
          refine (HG.out _ HF1.out).mono ?_
          rintro e w2 ⟨rfl, B2⟩
          have hR2 := hR1.below B2
          have f2 := hR2.frozen 2
          have e2 := hR2.cells.2.2.1
          have hlt2 := hR2.lt
          unfold fV
          go_wp2_with fail
          go_ret
          rw [HE.out]
          exact ⟨rfl, ⟨_, (hR2.setD q).below ((Below.refl _ _).alloc (Nat.le_refl _) _)⟩, (kept_set (b := qb) (i := 2) ((Kept.of_below B1).below B2) (by simp) _).alloc _⟩
  · have q : ((l.length : Int) != 1) = true := by simp; omega
    have HE : Hid (Hp.cdA k l = (k, 1)) := Lib.hid (by
      unfold Hp.cdA
      match l, h1 with
      | [], _ => rfl
      | [_], h => exact absurd rfl h
      | _ :: _ :: _, _ => rfl)
    have HR := Lib.hid hR
    clear hx hR h1
    go_enter Tryz.func101, Tryz.ntmps101
    go_wp2_with fail
    go_ret
    rw [HE.out]
    exact ⟨rfl, ⟨_, HR.out⟩, .refl _ _⟩
end
end Go.Proofs.YteommneijlelkaaGreatDoor.Hx
namespace Go.Proofs.YteommneijlelkaaGreatDoor.Ww
open Go.RowKit Go.Proofs.YteommneijlelkaaGreatDoor
set_option maxRecDepth 100000

/-- Is a byte among a text's? -/
def hasB (s : ByteArray) (c : UInt8) : Bool := (by8 s).contains c

theorem Has_any (w : World) (s : ByteArray) (c : UInt8) (hs : s.size ≤ 1000000) :
    Calls Tryz.prog 145 #[.string s, .int .u8 (c.toNat : Int)] w fun e w' => e = .returned (.bool (hasB s c)) ∧ w = w' := by
  go_enter Tryz.func145, Tryz.ntmps145
  go_wp2
  go_loop [5] (fun v => ∃ k : Nat, v = .int .i64 k ∧ k ≤ s.size ∧ ((by8 s).drop k).contains c = (by8 s).contains c) (fun v => s.size - (intOf v).toNat)
  case atStart => exact ⟨0, rfl, Nat.zero_le _, rfl⟩
  case round =>
    obtain ⟨k, rfl, hk, hl⟩ := hrel
    by_cases h0 : k < s.size
    · rw [by8_at h0, List.contains_cons] at hl
      by_cases hc : s[k] = c
      · have hb := eq_true hc
        have HT : Hid (hasB s c = true) := Lib.hid (by unfold hasB; rw [← hl, hc]; simp)
        clear hc hl
        go_wp2
        go_ret
        exact ⟨ret_bool HT.out.symm, rfl⟩
      · have hb := eq_false hc
        have HT : Hid (((by8 s).drop (k + 1)).contains c = (by8 s).contains c) := Lib.hid (by rw [← hl, beq_eq_false_iff_ne.2 (fun h => hc h.symm), Bool.false_or])
        clear hc hl
        go_wp2
        go_round
        case rel => exact ⟨k + 1, by go_num, by omega, HT.out⟩
        case measure => simp [intOf]; omega
    · rw [List.drop_of_length_le (by rw [by8_len]; omega)] at hl
      have HT : Hid (hasB s c = false) := Lib.hid hl.symm
      clear hl
      go_wp2
      go_ret
      exact ⟨ret_bool HT.out.symm, rfl⟩

end Go.Proofs.YteommneijlelkaaGreatDoor.Ww
namespace Go.Proofs.YteommneijlelkaaGreatDoor.Hx
open Go.RowKit Go.Proofs.YteommneijlelkaaGreatDoor Go.Maps Go.Proofs.YteommneijlelkaaGreatDoor.Sw
set_option maxRecDepth 100000
section
variable {w w' : World} {qb N : Nat} {v x : Value} {k : Hp.K} {st ran : Int} {out : Bs} {l : List Bs}
/-- A store's call behind which took stands. -/
theorem rtook_post (w0 w : World) (u : Value) (q : St × Int) (hR : RefAt w0 qb v k st ran out) (hB : Below w0.heap.size w0 w) (hf : RFiles w u q.1.L) (hu : u = v ∨ ∀ b, u.ownBlock = some b → w0.heap.size ≤ b) :
    Calls Tryz.prog 60 #[.pointer (some ⟨qb, 0, none⟩), .agg #[u, .int .i64 q.1.c], .int .i64 q.2] w fun e w' => e = .returned (.int .i64 (k.took q).2) ∧ RefAt w' qb u (k.took q).1 st ran out ∧ Kept [qb] w0 w' := by
  refine (rtook_any w u q.1 q.2 (hR.below hB) hf (.inr (hR.new_ne hu))).mono ?_
  rintro e w' ⟨h1, h2, h3⟩
  exact ⟨h1, h2, (Kept.of_below hB).trans h3⟩
set_option maxHeartbeats 1000000 in
theorem rone_rm (w : World) (p f : ByteArray) (hR : RefAt w qb v k st ran out) (hF : Fine k.s) (hC : Closed k.s.L) (hp : p.size ≤ 100000) (hf : f.size ≤ 1000000) (all force : Bool) (ha : Hid (Ww.hasB f 114 = all)) (hfo : Hid (Ww.hasB f 102 = force)) :
    Calls Tryz.prog 146 #[.pointer (some ⟨qb, 0, none⟩), .string ⟨#[114, 109]⟩, .string p, .string f] w (RefPost w qb st ran out (Hp.oneA (.rm all force) k (bs p))) := by
  have hlt := hR.lt
  have H1 := Lib.hid fun (W : World) => show Calls Tryz.prog 145 #[.string f, .int .u8 114] W fun e w' => e = .returned (.bool all) ∧ W = w' from by
    have := Ww.Has_any W f 114 hf
    rwa [ha.out] at this
  have H2 := Lib.hid fun (W : World) => show Calls Tryz.prog 145 #[.string f, .int .u8 102] W fun e w' => e = .returned (.bool force) ∧ W = w' from by
    have := Ww.Has_any W f 102 hf
    rwa [hfo.out] at this
  obtain ⟨va, vn, vc, rfl⟩ := hR.files.shape
  have HRm := Lib.hid fun (W : World) (h : RFiles W (.slice va vn vc) k.s.L) => RRemoveA_any W _ k.s p all hF hC hp h
  obtain ⟨⟨s2, cd⟩, hq⟩ : ∃ q, removeA k.s (bs p) all = q := ⟨_, rfl⟩
  rw [hq] at HRm
  have hone : Hp.oneA (.rm all force) k (bs p) = if cd = 3 ∧ force = true then (k, 0) else k.took (s2, cd) := by
    unfold Hp.oneA
    simp only [hq]
  rw [hone]
  obtain ⟨c0, c1, c2, c3, c4, c5, c6, c7, c8⟩ := hR.cells
  have HR := Lib.hid hR
  have HFl := Lib.hid hR.files
  clear hR hq hone
  by_cases h3 : cd = 3
  · cases force with
    | true =>
      subst h3
      rw [if_pos ⟨rfl, rfl⟩]
      go_enter Tryz.func146, Tryz.ntmps146
      go_wp2_with fail
      refine (H1.out _).mono ?_
      rintro e w1 ⟨rfl, rfl⟩
      go_wp2_with fail
      refine (HRm.out _ HFl.out).mono ?_
      rintro e w2 ⟨u, rfl, hu, ho, B2⟩
      obtain ⟨ua, un, uc, rfl⟩ := hu.shape
      dsimp only
      go_wp2_with fail
      refine (H2.out _).mono ?_
      rintro e w3 ⟨rfl, rfl⟩
      go_wp2_with fail
      go_ret
      exact ⟨rfl, ⟨_, HR.out.below (B2.alloc (by have := B2.size; exact this) _)⟩, (Kept.of_below B2).alloc _⟩
    | false =>
      subst h3
      rw [if_neg (by simp)]
      go_enter Tryz.func146, Tryz.ntmps146
      go_wp2_with fail
      refine (H1.out _).mono ?_
      rintro e w1 ⟨rfl, rfl⟩
      go_wp2_with fail
      refine (HRm.out _ HFl.out).mono ?_
      rintro e w2 ⟨u, rfl, hu, ho, B2⟩
      obtain ⟨ua, un, uc, rfl⟩ := hu.shape
      have B3 := B2.alloc (by have := B2.size; exact this) (.cells #[.slice ua un uc, .int .i64 s2.c] 34)
      have HU := Lib.hid (hu.below ((Below.refl _ _).alloc (Nat.le_refl _) (.cells #[.slice ua un uc, .int .i64 s2.c] 34)))
      have HO := Lib.hid ho
      clear hu ho
      dsimp only
      go_wp2_with fail
      refine (H2.out _).mono ?_
      rintro e w3 ⟨rfl, rfl⟩
      go_wp2_with fail
      refine (rtook_post _ _ _ (s2, 3) HR.out B3 HU.out HO.out).mono ?_
      rintro e w4 ⟨rfl, hRt, hKt⟩
      have HRt := Lib.hid hRt
      clear hRt
      go_wp2_with fail
      go_ret
      exact ⟨rfl, ⟨_, HRt.out⟩, hKt⟩
  · have q3 : (cd == 3) = false := by simp [h3]
    rw [if_neg (fun h => h3 h.1)]
    go_enter Tryz.func146, Tryz.ntmps146
    go_wp2_with fail
    refine (H1.out _).mono ?_
    rintro e w1 ⟨rfl, rfl⟩
    go_wp2_with fail
    refine (HRm.out _ HFl.out).mono ?_
    rintro e w2 ⟨u, rfl, hu, ho, B2⟩
    obtain ⟨ua, un, uc, rfl⟩ := hu.shape
    have B3 := B2.alloc (by have := B2.size; exact this) (.cells #[.slice ua un uc, .int .i64 s2.c] 34)
    have HU := Lib.hid (hu.below ((Below.refl _ _).alloc (Nat.le_refl _) (.cells #[.slice ua un uc, .int .i64 s2.c] 34)))
    have HO := Lib.hid ho
    clear hu ho
    dsimp only
    go_wp2_with fail
    refine (H2.out _).mono ?_
    rintro e w3 ⟨rfl, rfl⟩
    go_wp2_with fail
    refine (rtook_post _ _ _ (s2, cd) HR.out B3 HU.out HO.out).mono ?_
    rintro e w4 ⟨rfl, hRt, hKt⟩
    have HRt := Lib.hid hRt
    clear hRt
    go_wp2_with fail
    go_ret
    exact ⟨rfl, ⟨_, HRt.out⟩, hKt⟩
set_option maxHeartbeats 1000000 in
theorem rone_touch (w : World) (p f : ByteArray) (hR : RefAt w qb v k st ran out) (hF : Fine k.s) (hp : p.size ≤ 100000) :
    Calls Tryz.prog 146 #[.pointer (some ⟨qb, 0, none⟩), .string ⟨#[116, 111, 117, 99, 104]⟩, .string p, .string f] w (RefPost w qb st ran out (Hp.oneA .touch k (bs p))) := by
  have hlt := hR.lt
  obtain ⟨va, vn, vc, rfl⟩ := hR.files.shape
  have HRm := Lib.hid fun (W : World) (h : RFiles W (.slice va vn vc) k.s.L) => RTouch_any W _ k.s p hF (by omega) h
  obtain ⟨⟨s2, cd⟩, hq⟩ : ∃ q, touchA k.s (bs p) = q := ⟨_, rfl⟩
  rw [hq] at HRm
  have hone : Hp.oneA .touch k (bs p) = k.took (s2, cd) := by
    unfold Hp.oneA
    simp only [hq]
  rw [hone]
  obtain ⟨c0, c1, c2, c3, c4, c5, c6, c7, c8⟩ := hR.cells
  have HR := Lib.hid hR
  have HFl := Lib.hid hR.files
  clear hR hq hone
  go_enter Tryz.func146, Tryz.ntmps146
  go_wp2_with fail
  refine (HRm.out _ HFl.out).mono ?_
  rintro e w2 ⟨u, rfl, hu, ho, B2⟩
  obtain ⟨ua, un, uc, rfl⟩ := hu.shape
  have B3 := B2.alloc (by have := B2.size; exact this) (.cells #[.slice ua un uc, .int .i64 s2.c] 34)
  have HU := Lib.hid (hu.below ((Below.refl _ _).alloc (Nat.le_refl _) (.cells #[.slice ua un uc, .int .i64 s2.c] 34)))
  have HO := Lib.hid ho
  clear hu ho
  dsimp only
  go_wp2_with fail
  refine (rtook_post _ _ _ (s2, cd) HR.out B3 HU.out HO.out).mono ?_
  rintro e w4 ⟨rfl, hRt, hKt⟩
  have HRt := Lib.hid hRt
  clear hRt
  go_wp2_with fail
  go_ret
  exact ⟨rfl, ⟨_, HRt.out⟩, hKt⟩
set_option maxHeartbeats 1000000 in
theorem rone_mkdir (w : World) (p f : ByteArray) (all : Bool) (hall : Hid ((decide (bs f ≠ [])) = all)) (hR : RefAt w qb v k st ran out) (hF : Fine k.s) (hC : Closed k.s.L) (hp : p.size ≤ 100000) :
    Calls Tryz.prog 146 #[.pointer (some ⟨qb, 0, none⟩), .string ⟨#[109, 107, 100, 105, 114]⟩, .string p, .string f] w (RefPost w qb st ran out (Hp.oneA (.mkdir all) k (bs p))) := by
  have hlt := hR.lt
  obtain ⟨va, vn, vc, rfl⟩ := hR.files.shape
  have HRm := Lib.hid fun (W : World) (h : RFiles W (.slice va vn vc) k.s.L) => RMkdir_any W _ k.s p all hF hC hp h
  obtain ⟨⟨s2, cd⟩, hq⟩ : ∃ q, mkdirA k.s (bs p) all = q := ⟨_, rfl⟩
  rw [hq] at HRm
  have hone : Hp.oneA (.mkdir all) k (bs p) = k.took (s2, cd) := by
    unfold Hp.oneA
    simp only [hq]
  rw [hone]
  obtain ⟨c0, c1, c2, c3, c4, c5, c6, c7, c8⟩ := hR.cells
  have HR := Lib.hid hR
  have HFl := Lib.hid hR.files
  clear hR hq hone
  have qf : (f.toList == []) = !all := by
    have := hall.out
    have e : f.toList = bs f := by rw [Lib.toList_data]; rfl
    rw [e]
    cases hb : bs f with
    | nil => rw [hb] at this; subst this; rfl
    | cons a r => rw [hb] at this; subst this; rfl
  go_enter Tryz.func146, Tryz.ntmps146
  go_wp2_with fail
  refine (HRm.out _ HFl.out).mono ?_
  rintro e w2 ⟨u, rfl, hu, ho, B2⟩
  obtain ⟨ua, un, uc, rfl⟩ := hu.shape
  have B3 := B2.alloc (by have := B2.size; exact this) (.cells #[.slice ua un uc, .int .i64 s2.c] 34)
  have HU := Lib.hid (hu.below ((Below.refl _ _).alloc (Nat.le_refl _) (.cells #[.slice ua un uc, .int .i64 s2.c] 34)))
  have HO := Lib.hid ho
  clear hu ho
  dsimp only
  go_wp2_with fail
  refine (rtook_post _ _ _ (s2, cd) HR.out B3 HU.out HO.out).mono ?_
  rintro e w4 ⟨rfl, hRt, hKt⟩
  have HRt := Lib.hid hRt
  clear hRt
  go_wp2_with fail
  go_ret
  exact ⟨rfl, ⟨_, HRt.out⟩, hKt⟩
end
end Go.Proofs.YteommneijlelkaaGreatDoor.Hx
