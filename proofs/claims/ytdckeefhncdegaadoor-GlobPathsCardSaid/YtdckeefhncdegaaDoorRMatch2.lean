/-
  flatironref02.Match: whether all of a text is of a pattern, by which beginnings are of which.
-/
import Derived.Test.YtdckeefhncdegaaDoorRMatch
namespace Go.Proofs.YtdckeefhncdegaaDoor.Gm
open Go.RowKit Go.Proofs.YtdckeefhncdegaaDoor
set_option maxRecDepth 100000

theorem infoB : (Tryd.prog.info? 4).map (fun i => (i.zero, i.size, i.bytes)) = some (some (.bool false), 1, 1) := by kernel_rfl

abbrev start : Nat → Bool := fun k => k == 0
theorem rows_take (s : Bs) (L : List Gl.Pl) (k : Nat) (h : k < L.length) : Gl.rows s (L.take (k + 1)) start = Gl.nxt L[k] s (Gl.rows s (L.take k) start) := by
  unfold Gl.rows
  rw [List.take_succ_eq_append_getElem h, List.foldl_append]; rfl

theorem plsC_at : ∀ (L : List Gl.Pl) (k : Nat) (h : k < L.length), (plsC L)[k * 2]? = some (.int .i64 (kindP L[k])) ∧ (plsC L)[k * 2 + 1]? = some (.string ⟨(textP L[k]).toArray⟩)
  | x :: L, 0, _ => ⟨rfl, rfl⟩
  | x :: L, k + 1, h => by
    have ih := plsC_at L k (by simpa using h)
    have e : plsC (x :: L) = .int .i64 (kindP x) :: .string ⟨(textP x).toArray⟩ :: plsC L := rfl
    rw [e, show (k + 1) * 2 = k * 2 + 1 + 1 by omega, List.getElem?_cons_succ, List.getElem?_cons_succ, List.getElem?_cons_succ, List.getElem?_cons_succ]
    exact ih

theorem owns_some {w : World} {base : Nat} {e : TypeId} {size : Nat} {v : Value} {n : Nat} {xs : List Value} (h : w.ownsRow base e size v n xs) (hn : 0 < n) : ∃ g c, v = .slice (some ⟨g, 0, none⟩) n c ∧ n ≤ c ∧ c ≤ maxLen := by
  rcases h.2 with ⟨_, h0⟩ | ⟨g, cap, cur, rfl, _, _, h1, h2, _⟩
  · omega
  · exact ⟨g, cap, rfl, h1, h2⟩

theorem keep_row {w w' : World} {base : Nat} {e : TypeId} {size : Nat} {v : Value} {n : Nat} {xs : List Value} {row : Option Nat} (h : w.ownsRow base e size v n xs) (hg : w.grownBy w' row) (hne : ∀ g, v.ownBlock = some g → row ≠ some g) : w'.ownsRow base e size v n xs := by
  refine h.kept hg ?_
  cases hv : v.ownBlock with
  | none => exact .inl rfl
  | some g => exact .inr (fun e => hne g hv e.symm)

theorem bl_start (n : Nat) : (bl (fun _ => false) n).set 0 (.bool true) = bl start n := by
  rw [bl_set]
  apply bl_congr
  intro j _
  cases j <;> rfl

theorem text_le : ∀ (n : Nat) (t : Bs), t.length ≤ n → ∀ x ∈ Gl.places t, (textP x).length ≤ n
  | 0, t, h, x, hx => by
    have : t = [] := List.length_eq_zero_iff.1 (by omega)
    subst this
    rw [Gl.places_nil] at hx; cases hx
  | n + 1, t, h, x, hx => by
    by_cases ht : t = []
    · subst ht; rw [Gl.places_nil] at hx; cases hx
    · rw [Gl.places_cons ht] at hx
      rcases List.mem_cons.1 hx with rfl | hx
      · cases t with
        | nil => exact absurd rfl ht
        | cons c u =>
          rw [List.length_cons] at h
          rw [Gl.place_cons]
          split
          · exact Nat.zero_le _
          · split
            · exact Nat.zero_le _
            · split
              · cases Gl.endOf u with
                | none => show 1 ≤ n + 1; omega
                | some k => show (u.take k).length ≤ n + 1; rw [List.length_take]; omega
              · split
                · show 1 ≤ n + 1; omega
                · show 1 ≤ n + 1; omega
      · have hp := Gl.pc_pos ht
        have := text_le n (t.drop (Gl.pc t)) (by rw [List.length_drop]; omega) x hx
        omega

/-- What stands at the head of a round: the row of as many places as have been looked at. -/
def MRel (B n : Nat) (w : World) (s : Bs) (L : List Gl.Pl) (lv : Value) (ok i : Value) (wr : World) : Prop :=
  ∃ k g : Nat, i = .int .i64 k ∧ ok = .slice (some ⟨g, 0, none⟩) (n + 1) (n + 1) ∧ k ≤ L.length ∧
    wr.ownsRow B 4 1 (.slice (some ⟨g, 0, none⟩) (n + 1) (n + 1)) (n + 1) (bl (Gl.rows s (L.take k) start) (n + 1)) ∧ wr.ownsRow B 33 2 lv L.length (plsC L) ∧ Below B w wr

/-- The inner loop: the next row as far as m. -/
def IRel (B n : Nat) (w : World) (h g : Nat) (f nx : Nat → Bool) (L : List Gl.Pl) (lv : Value) (kk : Value) (wx : World) : Prop :=
  ∃ m : Nat, kk = .int .i64 m ∧ m ≤ n + 1 ∧ wx.ownsRow B 4 1 (.slice (some ⟨h, 0, none⟩) (n + 1) (n + 1)) (n + 1) (bl (upTo m nx) (n + 1)) ∧
    wx.ownsRow B 4 1 (.slice (some ⟨g, 0, none⟩) (n + 1) (n + 1)) (n + 1) (bl f (n + 1)) ∧ wx.ownsRow B 33 2 lv L.length (plsC L) ∧ Below B w wx

theorem IRel.store {B n : Nat} {w wx : World} {h g gl m c : Nat} {f nx : Nat → Bool} {L : List Gl.Pl} {b : Bool} (hgh : g < h) (hlh : gl < h) (hBh : B ≤ h) (hm : m ≤ n)
    (hn1 : wx.ownsRow B 4 1 (.slice (some ⟨h, 0, none⟩) (n + 1) (n + 1)) (n + 1) (bl (upTo m nx) (n + 1)))
    (ho1 : wx.ownsRow B 4 1 (.slice (some ⟨g, 0, none⟩) (n + 1) (n + 1)) (n + 1) (bl f (n + 1))) (hl1 : wx.ownsRow B 33 2 (.slice (some ⟨gl, 0, none⟩) L.length c) L.length (plsC L)) (hB : Below B w wx) (hb : nx m = b) :
    IRel B n w h g f nx L (.slice (some ⟨gl, 0, none⟩) L.length c) (.int .i64 ((m : Int) + 1)) (wx.setCell ⟨h, m, none⟩ (.bool b)) := by
  obtain ⟨s1, s2⟩ := hn1.stored m (.bool b)
  rw [← hb, upTo_set] at s1
  rw [← hb] at s2 ⊢
  refine ⟨m + 1, by go_num, by omega, s1, keep_row ho1 s2 ?_, keep_row hl1 s2 ?_, hB.setCell (p := ⟨h, m, none⟩) hBh _⟩
  · intro j hj e
    have : g = j := Option.some.inj hj
    have : h = j := Option.some.inj e
    omega
  · intro j hj e
    have : gl = j := Option.some.inj hj
    have : h = j := Option.some.inj e
    omega

theorem IRel.alloc {B n : Nat} {w wx : World} {h g : Nat} {f nx : Nat → Bool} {L : List Gl.Pl} {lv kk : Value} (hr : IRel B n w h g f nx L lv kk wx) (hB : B ≤ wx.heap.size) (o : Obj) : IRel B n w h g f nx L lv kk (wx.alloc o) := by
  obtain ⟨m, a, b, c, d, e, f⟩ := hr
  exact ⟨m, a, b, c.alloc o, d.alloc o, e.alloc o, f.alloc hB o⟩
theorem IRel.drew {B n : Nat} {w wx : World} {h g : Nat} {f nx : Nat → Bool} {L : List Gl.Pl} {lv kk : Value} (hr : IRel B n w h g f nx L lv kk wx) : IRel B n w h g f nx L lv kk wx.drew := by
  obtain ⟨m, a, b, c, d, e, f⟩ := hr
  exact ⟨m, a, b, c, d, e, f.drew⟩

theorem IRel.skip {B n : Nat} {w wx : World} {h g m : Nat} {f nx : Nat → Bool} {L : List Gl.Pl} {lv : Value} (hm : m ≤ n)
    (hn1 : wx.ownsRow B 4 1 (.slice (some ⟨h, 0, none⟩) (n + 1) (n + 1)) (n + 1) (bl (upTo m nx) (n + 1)))
    (ho1 : wx.ownsRow B 4 1 (.slice (some ⟨g, 0, none⟩) (n + 1) (n + 1)) (n + 1) (bl f (n + 1))) (hl1 : wx.ownsRow B 33 2 lv L.length (plsC L)) (hB : Below B w wx) (hb : nx m = false) :
    IRel B n w h g f nx L lv (.int .i64 ((m : Int) + 1)) wx :=
  ⟨m + 1, by go_num, by omega, by rw [← upTo_skip _ _ _ hb]; exact hn1, ho1, hl1, hB⟩

theorem kind_no {X : Gl.Pl} (h : Gl.isStar X = false) : ((kindP X : Int) == 0) = false := by
  cases X with
  | star => cases h
  | any => rfl
  | br t => rfl
  | lit c => rfl
theorem kind_star {X : Gl.Pl} (h : Gl.isStar X = true) : kindP X = 0 := by
  cases X with
  | star => rfl
  | any => cases h
  | br t => cases h
  | lit c => cases h

set_option maxHeartbeats 8000000 in
theorem RMatch_any (w : World) (p s : ByteArray) (hp : p.size ≤ 1000000) (hs : s.size ≤ 1000000) :
    Calls Tryd.prog 7 #[.string p, .string s] w fun e w' => e = .returned (.bool (Gl.matchB (by8 p) (by8 s))) ∧ Below w.heap.size w w' := by
  obtain ⟨i0, hi, hz0, hz1, hz2⟩ := info_parts infoB
  go_enter Tryd.func7, Tryd.ntmps7
  go_wp2_with fail
  refine (places_any w p hp).mono ?_
  rintro e w1 ⟨la, lc, rfl, hL, hB1, hLn⟩
  have HM : Hid (Gl.rows (by8 s) (Gl.places (by8 p)) start (by8 s).length = Gl.matchB (by8 p) (by8 s)) := Lib.hid (Gl.rows_match _ _)
  have HTX : Hid (∀ x ∈ Gl.places (by8 p), (textP x).length ≤ p.size) := Lib.hid (text_le _ _ (by rw [by8_len]; exact Nat.le_refl _))
  generalize Gl.places (by8 p) = L at *
  go_wp2_with (at_make; refine wpList_make_full _ rfl _ _ 31 rfl w.heap.size 4 i0 (.bool false) 1 Tryd.underlying31 hi hz0 hz1 _ _ _ _ (s.size + 1) rfl rfl (by push_cast; rfl) (by push_cast; rfl) (by rw [hz2]; omega) (by unfold maxLen; omega) hB1.size ?_; intro w2 ho hg2; rw [bl_made] at ho; have hc0 : w2.cell? ⟨w1.heap.size, 0, none⟩ = some (.bool false) := (by rw [ho.cellAt 0 (by omega), bl_get (by omega)]); have hf0 := ho.frozenAt 0)
  have hL2 := keep_row hL hg2 (fun g _ => by simp)
  have hst := ho.stored 0 (.bool true)
  have hrow := hst.1
  rw [bl_start] at hrow
  have hL3 := keep_row hL2 hst.2 (fun g hg => by have := (hL.lt g hg).2; simp; omega)
  have hB2 : Below w.heap.size w (w2.setCell ⟨w1.heap.size, 0, none⟩ (.bool true)) := ((hB1.grown hg2 hB1.size (fun j e => by cases e)).setCell (p := ⟨w1.heap.size, 0, none⟩) hB1.size _)
  have HC0 := Lib.hid hc0
  have HF0 := Lib.hid hf0
  clear hL hL2 hst ho hg2 hc0 hf0
  go_loopw [6, 7] (fun ok i wr => MRel w.heap.size s.size w (by8 s) L (.slice la L.length lc) ok i wr) (fun _ i _ => L.length - (intOf i).toNat)
  case atStart => exact ⟨0, w1.heap.size, rfl, rfl, Nat.zero_le _, hrow, hL3, hB2⟩
  case round =>
    obtain ⟨k, g, rfl, rfl, hk, ho, hl, hB⟩ := hrel
    by_cases hlt : k < L.length
    · obtain ⟨gl, c2, e2, _, _⟩ := owns_some hl (by omega)
      cases e2
      have hlg := (hl.lt gl rfl).2
      have hgg := (ho.lt g rfl).2
      obtain ⟨wo, rfl⟩ : ∃ wo : World, wo = wr := ⟨_, rfl⟩
      have hX := plsC_at L k hlt
      have HR := Lib.hid (rows_take (by8 s) L k hlt)
      have htx := HTX.out L[k] (List.getElem_mem hlt)
      generalize hx : L[k] = X at hX HR htx
      generalize hf : Gl.rows (by8 s) (L.take k) start = f at ho HR
      have hKs : textP X = [] ∨ True := .inr trivial
      clear hx hf hKs
      have HX := Lib.hid hX
      clear hX
      go_wp2_with (at_make; refine wpList_make_full _ rfl _ _ 31 rfl w.heap.size 4 i0 (.bool false) 1 Tryd.underlying31 hi hz0 hz1 _ _ _ _ (s.size + 1) rfl rfl (by push_cast; rfl) (by push_cast; rfl) (by rw [hz2]; omega) (by unfold maxLen; omega) hB.size ?_; intro w3 hn hg3; rw [bl_made] at hn)
      go_loopw [9] (fun kk wx => IRel w.heap.size s.size w wo.heap.size g f (Gl.nxt X (by8 s) f) L (.slice (some ⟨gl, 0, none⟩) L.length lc) kk wx) (fun kk _ => s.size + 1 - (intOf kk).toNat)
      case atStart => exact ⟨0, rfl, Nat.zero_le _, hn, keep_row ho hg3 (fun _ _ => by simp), keep_row hl hg3 (fun _ _ => by simp), hB.grown hg3 hB.size (fun j e => by cases e)⟩
      case round =>
        obtain ⟨m, rfl, hm, hn1, ho1, hl1, hBx⟩ := hrel
        by_cases hlm : m ≤ s.size
        · have k0 : wr.cell? ⟨gl, k * 2, none⟩ = some (.int .i64 (kindP X)) := by rw [hl1.cellAt (k * 2) (by omega)]; exact HX.out.1
          have k1 : wr.cell? ⟨gl, k * 2 + 1, none⟩ = some (.string ⟨(textP X).toArray⟩) := by rw [hl1.cellAt (k * 2 + 1) (by omega)]; exact HX.out.2
          have c0 : wr.cell? ⟨g, m, none⟩ = some (.bool (f m)) := by rw [ho1.cellAt m (by omega), bl_get (by omega)]
          have n0 : wr.cell? ⟨wo.heap.size, m, none⟩ = some (.bool (upTo m (Gl.nxt X (by8 s) f) m)) := by rw [hn1.cellAt m (by omega), bl_get (by omega)]
          have nf := hn1.frozenAt m
          cases hst : Gl.isStar X with
          | true =>
            rw [kind_star hst] at k0
            have HO := Lib.hid ho1
            have HL := Lib.hid hl1
            have HN := Lib.hid hn1
            cases m with
            | zero =>
              have hnx : Hid (Gl.nxt X (by8 s) f 0 = f 0) := Lib.hid (by simp [Gl.nxt, hst])
              have HST := Lib.hid hst
              clear hst hn1 ho1 hl1 k1
              cases hf0 : f 0 with
              | true =>
                rw [hf0] at c0
                have HB := Lib.hid (hnx.out.trans hf0)
                clear hf0
                go_wp2
                go_roundw
                case rel => exact IRel.store hgg hlg hB.size hlm HN.out HO.out HL.out hBx HB.out
                case measure => simp [intOf] <;> omega
              | false =>
                rw [hf0] at c0
                have HB := Lib.hid (hnx.out.trans hf0)
                clear hf0
                go_wp2
                go_roundw
                case rel => exact IRel.store hgg hlg hB.size hlm HN.out HO.out HL.out hBx HB.out
                case measure => simp [intOf] <;> omega
            | succ j =>
              have p0 : wr.cell? ⟨wo.heap.size, j, none⟩ = some (.bool (Gl.nxt X (by8 s) f j)) := by
                rw [hn1.cellAt j (by omega), bl_get (by omega)]
                simp [upTo]
              have hnx : Hid (Gl.nxt X (by8 s) f (j + 1) = (f (j + 1) || Gl.nxt X (by8 s) f j)) := Lib.hid (by simp [Gl.nxt, hst])
              have HST := Lib.hid hst
              clear hst hn1 ho1 hl1 k1
              cases hf0 : f (j + 1) with
              | true =>
                rw [hf0] at c0
                have HB : Hid (Gl.nxt X (by8 s) f (j + 1) = true) := Lib.hid (by rw [hnx.out, hf0]; rfl)
                clear hf0
                go_wp2
                go_roundw
                case rel => exact IRel.store hgg hlg hB.size hlm HN.out HO.out HL.out hBx HB.out
                case measure => simp [intOf] <;> omega
              | false =>
                rw [hf0] at c0
                obtain ⟨b, hb⟩ : ∃ b, Hid (Gl.nxt X (by8 s) f j = b) := ⟨_, Lib.hid rfl⟩
                rw [hb.out] at p0
                have HB : Hid (Gl.nxt X (by8 s) f (j + 1) = b) := Lib.hid (by rw [hnx.out, hf0, hb.out]; rfl)
                clear hf0
                go_wp2
                go_roundw
                case rel => exact IRel.store hgg hlg hB.size hlm HN.out HO.out HL.out hBx HB.out
                case measure => simp [intOf] <;> omega
          | false =>
            have hk := kind_no hst
            have HO := Lib.hid ho1
            have HL := Lib.hid hl1
            have HN := Lib.hid hn1
            cases m with
            | zero =>
              have HB : Hid (Gl.nxt X (by8 s) f 0 = false) := Lib.hid (by simp [Gl.nxt, hst])
              clear hst hn1 ho1 hl1 k1
              go_wp2
              go_roundw
              case rel => exact IRel.skip hlm HN.out HO.out HL.out hBx HB.out
              case measure => simp [intOf] <;> omega
            | succ j =>
              have hnlt := (hn1.lt wo.heap.size rfl).2
              have hj : j < s.size := by omega
              have q0 : wr.cell? ⟨g, j, none⟩ = some (.bool (f j)) := by rw [ho1.cellAt j (by omega), bl_get (by omega)]
              have hnx : Hid (Gl.nxt X (by8 s) f (j + 1) = (f j && Gl.stands X s[j])) := Lib.hid (by
                simp only [Gl.nxt, hst, Bool.false_eq_true, if_false, by8_get hj, Option.getD_some])
              have HST := Lib.hid hst
              clear hst hn1 ho1 hl1 c0
              cases hf0 : f j with
              | false =>
                rw [hf0] at q0
                have HB : Hid (Gl.nxt X (by8 s) f (j + 1) = false) := Lib.hid (by rw [hnx.out, hf0]; rfl)
                clear hf0
                go_wp2
                go_roundw
                case rel => exact IRel.skip hlm HN.out HO.out HL.out hBx HB.out
                case measure => simp [intOf] <;> omega
              | true =>
                rw [hf0] at q0
                have HB : Hid (Gl.nxt X (by8 s) f (j + 1) = Gl.stands X s[j]) := Lib.hid (by rw [hnx.out, hf0]; rfl)
                clear hf0
                have hts : (⟨(textP X).toArray⟩ : ByteArray).size ≤ 1000000 := by
                  show (textP X).toArray.size ≤ 1000000
                  rw [List.size_toArray]; omega
                have hk0 : (0 : Int) ≤ (k : Int) := Int.natCast_nonneg _
                have hk1 : (k : Int) < (L.length : Int) := by omega
                have hj0 : (0 : Int) ≤ (j : Int) := Int.natCast_nonneg _
                have hj1 : (j : Int) < (s.size : Int) := by omega
                have hj2 : (j : Int) + 1 < (s.size : Int) + 1 := by omega
                go_wp2
                have hwr : IntKind.i64.wrap ((((j + 1 : Nat) : Int)) - 1) = (j : Int) := by rw [IntWalk.i64_in _ (by omega)]; omega
                have hwr2 : IntKind.i64.wrap ((j : Int) + 1 - 1) = (j : Int) := by rw [IntWalk.i64_in _ (by omega)]; omega
                have hwr3 : IntKind.i64.wrap (j : Int) = (j : Int) := by rw [IntWalk.i64_in _ (by omega)]
                have hfz : ∀ o : Obj, (wr.alloc o).frozen? ⟨wo.heap.size, j + 1, none⟩ = false := fun o => (((Below.refl wr.heap.size wr).alloc (Nat.le_refl _) o).frozen (p := ⟨wo.heap.size, j + 1, none⟩) hnlt).trans nf
                have hcz : ∀ o : Obj, (wr.alloc o).cell? ⟨wo.heap.size, j + 1, none⟩ = some (.bool (upTo (j + 1) (Gl.nxt X (by8 s) f) (j + 1))) := fun o => (((Below.refl wr.heap.size wr).alloc (Nat.le_refl _) o).cell (p := ⟨wo.heap.size, j + 1, none⟩) hnlt).trans n0
                have hs0 : ∀ (v : Value) (o : Obj), ((wr.setCell ⟨wo.heap.size, j + 1, none⟩ v).alloc o).cell? ⟨gl, k * 2, none⟩ = some (.int .i64 (kindP X)) := fun v o =>
                  ((((Below.refl wo.heap.size wr).setCell (p := ⟨wo.heap.size, j + 1, none⟩) (Nat.le_refl _) v).alloc (by simp; omega) o).cell (p := ⟨gl, k * 2, none⟩) hlg).trans k0
                have hs1 : ∀ (v : Value) (o : Obj), ((wr.setCell ⟨wo.heap.size, j + 1, none⟩ v).alloc o).cell? ⟨gl, k * 2 + 1, none⟩ = some (.string ⟨(textP X).toArray⟩) := fun v o =>
                  ((((Below.refl wo.heap.size wr).setCell (p := ⟨wo.heap.size, j + 1, none⟩) (Nat.le_refl _) v).alloc (by simp; omega) o).cell (p := ⟨gl, k * 2 + 1, none⟩) hlg).trans k1
                have hj3 : (0 : Int) ≤ (j : Int) + 1 := by omega
                have hj4 : ((j + 1 : Nat) : Int) < ((s.size + 1 : Nat) : Int) := by omega
                have hj5 : (0 : Int) ≤ ((j + 1 : Nat) : Int) := by omega
                go_region_held3 (fun w' => w'.cell? ⟨gl, k * 2, none⟩ = some (.int .i64 (kindP X)) ∧ w'.cell? ⟨gl, k * 2 + 1, none⟩ = some (.string ⟨(textP X).toArray⟩)) (first | go_keep | exact ⟨hs0 _ _, hs1 _ _⟩)
                  (first | (go_at_call 16; refine (stands_any _ X (kindP X) ⟨(textP X).toArray⟩ s[j] (Lib.hid rfl) (Lib.hid rfl) hts HST.out).mono ?_; rintro e w' ⟨rfl, rfl⟩))
                go_wp2
                go_roundw
                case rel => exact ((IRel.store hgg hlg hB.size hlm HN.out HO.out HL.out hBx HB.out).alloc (Nat.le_trans hB.size (Nat.le_of_lt (by simp; omega))) _).drew
                case measure => simp [intOf] <;> omega
        · obtain rfl : m = s.size + 1 := by omega
          rw [upTo_all] at hn1
          go_wp2
          go_roundw
          case rel => exact ⟨k + 1, wo.heap.size, by go_num, rfl, hlt, by rw [HR.out]; exact hn1, hl1, hBx⟩
          case measure => simp [intOf] <;> omega
    · obtain rfl : k = L.length := by omega
      have hcell : wr.cell? ⟨g, s.size, none⟩ = some (.bool (Gl.rows (by8 s) (L.take L.length) start s.size)) := by rw [ho.cellAt s.size (by omega), bl_get (by omega)]
      have HE : Hid (Gl.rows (by8 s) (L.take L.length) start s.size = Gl.matchB (by8 p) (by8 s)) := Lib.hid (by rw [List.take_length, ← by8_len, HM.out])
      rw [HE.out] at hcell
      go_wp2
      go_ret
      exact ⟨rfl, hB⟩
end Go.Proofs.YtdckeefhncdegaaDoor.Gm
