/-
  (*reading).rule of a rule of one target with a %.
  Patterns in memory, each of one need and no order.
  (*reading).part and all of patterns.
  data.Read of a makefile of patterns.
-/
import Derived.Test.YtgednccpjegbmaaGreatDoorQDQRule2
import Derived.Test.YtgednccpjegbmaaGreatDoorQFdPart
import Derived.Test.YtgednccpjegbmaaGreatDoorQDQRead
namespace Go.Proofs.YtgednccpjegbmaaGreatDoor.Dq
open Go.RowKit Go.Proofs.YtgednccpjegbmaaGreatDoor Go.Maps Go.Proofs.YtgednccpjegbmaaGreatDoor.Ww Go.Proofs.YtgednccpjegbmaaGreatDoor.Tw Go.Proofs.YtgednccpjegbmaaGreatDoor.Kw Go.Proofs.YtgednccpjegbmaaGreatDoor.Jw Go.Proofs.YtgednccpjegbmaaGreatDoor.Xb Go.Proofs.YtgednccpjegbmaaGreatDoor.Xw Go.Proofs.YtgednccpjegbmaaGreatDoor.Dz
set_option maxRecDepth 100000

section
abbrev PaT : TypeId := 140
theorem infoPaT : (Tryz.prog.info? PaT).map (fun i => (i.zero, i.size, i.bytes)) = some (some (.agg #[.string ⟨#[]⟩, .slice none 0 0, .slice none 0 0, .slice none 0 0, .int .i64 0]), 5, 96) := by kernel_rfl
def ruR (ln : Int) (t n o : ByteArray) (rv : Value) : Array Value := #[.int .i64 1, .int .i64 ln, .string ⟨#[]⟩, .string ⟨#[]⟩, .string ⟨#[]⟩, .bool false, .bool false, .string t, .string n, .string o, rv]
def patC (x : ByteArray) (nv ov rv : Value) (ln : Int) : List Value := [.string x, nv, ov, rv, .int .i64 ln]
theorem own_ne {W : World} {B : Nat} {e T : TypeId} {z n b : Nat} {v : Value} {xs : List Value} {cs : Array Value} (h : W.ownsRow B e z v n xs) (hb : W.heap[b]? = some (.cells cs T (0, 0))) (hT : T ≠ e) : v.ownBlock ≠ some b := by
  rcases h.2 with ⟨rfl, _⟩ | ⟨g, cap, cur, rfl, _, hg, _⟩
  · intro e; cases e
  · intro e
    have : g = b := by simpa [Value.ownBlock] using e
    subst this
    rw [hg] at hb
    cases hb
    exact hT rfl
theorem own_same {W W' : World} {B : Nat} {e : TypeId} {z n : Nat} {v : Value} {xs : List Value} (h : W.ownsRow B e z v n xs) (hs : ∀ g, v.ownBlock = some g → g < W.heap.size → W'.heap[g]? = W.heap[g]?) : W'.ownsRow B e z v n xs := by
  refine ⟨h.1, ?_⟩
  rcases h.2 with h | ⟨g, cap, cur, hv, hg, hh, r⟩
  · exact .inl h
  · exact .inr ⟨g, cap, cur, hv, hg, (hs g (by rw [hv]; rfl) (Array.getElem?_eq_some_iff.1 hh).1).trans hh, r⟩
theorem own_lt {W : World} {B : Nat} {e : TypeId} {z n g : Nat} {v : Value} {xs : List Value} (h : W.ownsRow B e z v n xs) (hv : v.ownBlock = some g) : B ≤ g ∧ g < W.heap.size := by
  rcases h.2 with ⟨rfl, _⟩ | ⟨g', cap, cur, rfl, hb, hg, _⟩
  · cases hv
  · have : g' = g := by simpa [Value.ownBlock] using hv
    subst this
    exact ⟨hb, (Array.getElem?_eq_some_iff.1 hg).1⟩
theorem own_mono {W : World} {B B' : Nat} {e : TypeId} {z n : Nat} {v : Value} {xs : List Value} (h : W.ownsRow B e z v n xs) (hb : B' ≤ B) : W.ownsRow B' e z v n xs := by
  refine ⟨h.1, ?_⟩
  rcases h.2 with h | ⟨g, cap, cur, hv, hg, r⟩
  · exact .inl h
  · exact .inr ⟨g, cap, cur, hv, Nat.le_trans hb hg, r⟩
/-- What the memory of a step is to hold. -/
def TT (rb db xb : Nat) (R X D : Array Value) (b : Bool) (W : World) : Prop := W.heap[rb]? = some (.cells R RT (0, 0)) ∧ W.heap[xb]? = some (.cells X PT (0, 0)) ∧ (b = false → W.heap[db]? = some (.cells D DT (0, 0)))
variable {rb db tb ib kb : Nat} {au gv : Value} {w : World}
def RulePatP (w : World) (B db tb : Nat) (dir : ByteArray) (tv pv cv gl : Value) (n : Nat) (xs : List Value) (x y : ByteArray) (rv : Value) (ln : Int) (e : Ending) (w' : World) : Prop :=
  e = .returned (.tuple #[]) ∧ ∃ pv' nv ov, w'.heap[db]? = some (.cells (dC dir tb tv pv' cv gl) DT (0, 0)) ∧ w'.ownsRow B PaT 5 pv' (n + 1) (xs ++ patC x nv ov rv ln) ∧ w'.ownsRow w.heap.size ST 1 nv [y].length (strsC [y]) ∧ w'.ownsRow w.heap.size ST 1 ov 0 [] ∧ Kept (db :: pv.ownBlock.toList) w w'
set_option maxHeartbeats 8000000 in
theorem rule_pat (hr : w.heap[rb]? = some (.cells (rC db tb au gv ib kb) RT (0, 0))) {dir : ByteArray} {tv pv cv gl : Value} (hd : w.heap[db]? = some (.cells (dC dir tb tv pv cv gl) DT (0, 0))) {B n : Nat} {xs : List Value} (hpv : w.ownsRow B PaT 5 pv n xs) (hB : B ≤ w.heap.size) (hn1 : n ≤ 1000000) (x y : ByteArray) (hs : x.size ≤ 1000000)
    (ln : Int) (t nd o : Bs) (ra : Option Addr) (rn rc : Nat) (ht : (36 : UInt8) ∉ t ∧ t.length ≤ 1000 ∧ wordsS (str t) = [x]) (hn : (36 : UInt8) ∉ nd ∧ nd.length ≤ 1000 ∧ wordsS (str nd) = [y]) (ho : (36 : UInt8) ∉ o ∧ o.length ≤ 1000 ∧ wordsS (str o) = []) (hat : (Tp.atA (by8 x)).isSome = true) :
    Calls Tryz.prog 82 #[.pointer (some ⟨rb, 0, none⟩), .agg (ruR ln (str t) (str nd) (str o) (.slice ra rn rc))] w (RulePatP w B db tb dir tv pv cv gl n xs x y (.slice ra rn rc) ln) := by
  obtain ⟨ip, hip, hz0, hz1, hz2⟩ := info_parts infoPaT
  have hrl := (Array.getElem?_eq_some_iff.1 hr).1
  have hdl := (Array.getElem?_eq_some_iff.1 hd).1
  have B0 := (Below.refl w.heap.size w).alloc (Nat.le_refl _) (.cells (ruR ln (str t) (str nd) (str o) (.slice ra rn rc)) PT)
  have hx0 := heap_last w (.cells (ruR ln (str t) (str nd) (str o) (.slice ra rn rc)) PT)
  have HX0 := Lib.hid hx0
  have HR0 := Lib.hid ((B0.block _ hrl).trans hr)
  have HD0 := Lib.hid ((B0.block _ hdl).trans hd)
  have HDL := Lib.hid hdl
  have HB0 := Lib.hid B0
  have HW := Lib.hid fun (W : World) (h1 : W.heap[rb]? = some (.cells (rC db tb au gv ib kb) RT (0, 0))) => words_plain (w := W) h1 t ht.1 ht.2.1
  rw [ht.2.2] at HW
  have HF1 := Lib.hid fun (W : World) (h1 : W.heap[rb]? = some (.cells (rC db tb au gv ib kb) RT (0, 0))) lb h3 => asWords_new (w := W) h1 lb nd h3 hn.1 hn.2.1
  rw [hn.2.2] at HF1
  have HF2 := Lib.hid fun (W : World) (h1 : W.heap[rb]? = some (.cells (rC db tb au gv ib kb) RT (0, 0))) lb h3 => asWords_new (w := W) h1 lb o h3 ho.1 ho.2.1
  rw [ho.2.2] at HF2
  have HPV := Lib.hid hpv
  have HH := Lib.hid fun W => Has_any W x hs
  rw [hat] at HH
  have y8' := cell_at (i := 8) hx0 rfl
  have y9 := cell_at (i := 9) hx0 rfl
  have hl0 := (Array.getElem?_eq_some_iff.1 hx0).1
  have HBW0 := Lib.hid hB
  have HD00 := Lib.hid hd
  have HR00 := Lib.hid hr
  clear hr hd B0 ht hn ho hat hx0 hpv hB
  unfold ruR at *
  go_enter Tryz.func82, Tryz.ntmps82
  go_wp2_with fail
  generalize w.alloc (.cells #[.int .i64 1, .int .i64 ln, .string ⟨#[]⟩, .string ⟨#[]⟩, .string ⟨#[]⟩, .bool false, .bool false, .string (str t), .string (str nd), .string (str o), .slice ra rn rc] PT) = w0 at *
  refine Code.wp_mono (Q := fun e a W => match e with
    | .normal => ∃ v4 v5, a = { tmps := #[.pointer (some ⟨rb, 0, none⟩), .agg #[.int .i64 1, .int .i64 ln, .string ⟨#[]⟩, .string ⟨#[]⟩, .string ⟨#[]⟩, .bool false, .bool false, .string (str t), .string (str nd), .string (str o), .slice ra rn rc], undef, .pointer (some ⟨w.heap.size, 0, none⟩), v4, v5, undef, undef, .pointer (some ⟨rb, 0, none⟩), .pointer (some ⟨w.heap.size, 8, none⟩), .string (str nd), .agg #[.pointer (some ⟨rb, 0, none⟩), .string (str nd), .slice none 0 0, .slice none 0 0, .bool false, .bool false], .pointer (some ⟨rb, 0, none⟩), .pointer (some ⟨w.heap.size, 9, none⟩), .string (str o), .agg #[.pointer (some ⟨rb, 0, none⟩), .string (str o), .slice none 0 0, .slice none 0 0, .bool false, .bool false], undef, undef, undef, undef, undef, undef, undef, undef, undef, undef, undef, undef, undef, undef, undef, undef, undef, undef, undef, undef, undef, undef, undef, undef, undef, undef, undef, undef, undef, undef, undef, undef, undef, undef, undef, undef, undef, undef, undef, undef, undef], defers := [] } ∧ Lists w w0 rb (str nd) (str o) v4 v5 W
    | _ => False) ?_ ?_
  · rintro e a W hq
    cases e with
    | normal =>
      obtain ⟨v4, v5, rfl, b1, b2, rfl, rfl, hbb, hl1, hl2, hb1, hb2, BW⟩ := hq
      have hlr0 := (Array.getElem?_eq_some_iff.1 HR0.out).1
      have hld0 := (Array.getElem?_eq_some_iff.1 HD0.out).1
      have HRW := Lib.hid ((BW.block rb hlr0).trans HR0.out)
      have HDW := Lib.hid ((BW.block db hld0).trans HD0.out)
      have hxw := (BW.block w.heap.size hl0).trans HX0.out
      have HXW := Lib.hid hxw
      have HBW := Lib.hid (HB0.out.trans (BW.mono HB0.out.size))
      have HL1 := Lib.hid hl1
      have HL2 := Lib.hid hl2
      have HN := Lib.hid (show w.heap.size ≤ b1 ∧ w.heap.size ≤ b2 ∧ b1 ≠ b2 ∧ rb < w0.heap.size ∧ db < w0.heap.size ∧ w0.heap.size ≤ b1 ∧ w0.heap.size ≤ b2 ∧ w.heap.size < w0.heap.size from ⟨Nat.le_trans HB0.out.size hb1, Nat.le_trans HB0.out.size hb2, hbb, hlr0, hld0, hb1, hb2, hl0⟩)
      clear y8' y9 hl0 hl1 hl2 hbb hb1 hb2 BW hlr0 hld0
      have y7 := cell_at (i := 7) hxw rfl
      have hlw := (Array.getElem?_eq_some_iff.1 hxw).1
      clear hxw
      go_wp2_with fail
      refine (HW.out W HRW.out).mono ?_
      rintro e w2 ⟨v, rfl, B2, ho2⟩
      obtain ⟨gx, cx, rfl, hgx, kx, hge⟩ := strs_one_is ho2
      have HR2 := Lib.hid ((B2.block rb (Array.getElem?_eq_some_iff.1 HRW.out).1).trans HRW.out)
      have HD2 := Lib.hid ((B2.block db (Array.getElem?_eq_some_iff.1 HDW.out).1).trans HDW.out)
      have HX2 := Lib.hid ((B2.block w.heap.size (Array.getElem?_eq_some_iff.1 HXW.out).1).trans HXW.out)
      have HL12 := Lib.hid ((B2.block b1 (Array.getElem?_eq_some_iff.1 HL1.out).1).trans HL1.out)
      have HL22 := Lib.hid ((B2.block b2 (Array.getElem?_eq_some_iff.1 HL2.out).1).trans HL2.out)
      have HB2 := Lib.hid (HBW.out.trans (B2.mono HBW.out.size))
      clear B2 ho2 y7 hlw HL1 HL2 HRW HDW HXW
      go_wp2_with fail
      refine wp_loop_rounds 2 ?_
      rw [rounds_succ]
      go_wp2_with fail
      refine (HH.out w2).mono ?_
      rintro e w3 ⟨rfl, B3⟩
      have HR3 := Lib.hid ((B3.block rb (Array.getElem?_eq_some_iff.1 HR2.out).1).trans HR2.out)
      have HD3 := Lib.hid ((B3.block db (Array.getElem?_eq_some_iff.1 HD2.out).1).trans HD2.out)
      have HX3 := Lib.hid ((B3.block w.heap.size (Array.getElem?_eq_some_iff.1 HX2.out).1).trans HX2.out)
      have HL13 := Lib.hid ((B3.block b1 (Array.getElem?_eq_some_iff.1 HL12.out).1).trans HL12.out)
      have HL23 := Lib.hid ((B3.block b2 (Array.getElem?_eq_some_iff.1 HL22.out).1).trans HL22.out)
      have HB3 := Lib.hid (HB2.out.trans (B3.mono HB2.out.size))
      clear B3 HR2 HD2 HX2 HL12 HL22 kx
      go_wp2_with fail
      have hT0 : (TT rb db w.heap.size (rC db tb au gv ib kb) #[.int .i64 1, .int .i64 ln, .string ⟨#[]⟩, .string ⟨#[]⟩, .string ⟨#[]⟩, .bool false, .bool false, .string (str t), .string (str nd), .string (str o), .slice ra rn rc] (dC dir tb tv pv cv gl)) false w3.drew := ⟨HR3.out, HX3.out, fun _ => HD3.out⟩
      refine wp_region_D 23 (TT rb db w.heap.size (rC db tb au gv ib kb) #[.int .i64 1, .int .i64 ln, .string ⟨#[]⟩, .string ⟨#[]⟩, .string ⟨#[]⟩, .bool false, .bool false, .string (str t), .string (str nd), .string (str o), .slice ra rn rc] (dC dir tb tv pv cv gl)) (by kernel_rfl) ?_
      refine wpAnyD_pre (i := 0) [0, 23] (v := .pointer (some ⟨rb, 0, none⟩)) (by rfl) rfl (by rfl) (by kernel_rfl) (by kernel_rfl) (by kernel_rfl) (by kernel_rfl) (by kernel_rfl) (fun c a w h => h) (Or.inl ⟨by rfl, ?_⟩) hT0 ?_
      · rintro W hW; have q0 : W.cell? ⟨rb, 0, none⟩ = some (.pointer (some ⟨db, 0, none⟩)) := cell_at hW.1 rfl; have q1 : W.cell? ⟨w.heap.size, 10, none⟩ = some (.slice ra rn rc) := cell_at hW.2.1 rfl; have q2 : W.cell? ⟨w.heap.size, 1, none⟩ = some (.int .i64 ln) := cell_at hW.2.1 rfl; have q3 : W.cell? ⟨db, 3, none⟩ = some pv := cell_at (hW.2.2 rfl) rfl; have l0 := (Array.getElem?_eq_some_iff.1 hW.1).1; have l1 := (Array.getElem?_eq_some_iff.1 (hW.2.2 rfl)).1; clear hW; go_simp
      simp only [Act.put, List.setIfInBounds_toArray]
      refine wpAnyD_pre (i := 1) [1, 23] (v := .pointer (some ⟨rb, 0, none⟩)) (by rfl) rfl (by rfl) (by kernel_rfl) (by kernel_rfl) (by kernel_rfl) (by kernel_rfl) (by kernel_rfl) (fun c a w h => h) (Or.inl ⟨by rfl, ?_⟩) hT0 ?_
      · rintro W hW; have q0 : W.cell? ⟨rb, 0, none⟩ = some (.pointer (some ⟨db, 0, none⟩)) := cell_at hW.1 rfl; have q1 : W.cell? ⟨w.heap.size, 10, none⟩ = some (.slice ra rn rc) := cell_at hW.2.1 rfl; have q2 : W.cell? ⟨w.heap.size, 1, none⟩ = some (.int .i64 ln) := cell_at hW.2.1 rfl; have q3 : W.cell? ⟨db, 3, none⟩ = some pv := cell_at (hW.2.2 rfl) rfl; have l0 := (Array.getElem?_eq_some_iff.1 hW.1).1; have l1 := (Array.getElem?_eq_some_iff.1 (hW.2.2 rfl)).1; clear hW; go_simp
      simp only [Act.put]
      refine wpAnyD_pre (i := 2) [2, 23] (v := .pointer (some ⟨rb, 0, none⟩)) (by rfl) rfl (by rfl) (by kernel_rfl) (by kernel_rfl) (by kernel_rfl) (by kernel_rfl) (by kernel_rfl) (fun c a w h => h) (Or.inl ⟨by rfl, ?_⟩) hT0 ?_
      · rintro W hW; have q0 : W.cell? ⟨rb, 0, none⟩ = some (.pointer (some ⟨db, 0, none⟩)) := cell_at hW.1 rfl; have q1 : W.cell? ⟨w.heap.size, 10, none⟩ = some (.slice ra rn rc) := cell_at hW.2.1 rfl; have q2 : W.cell? ⟨w.heap.size, 1, none⟩ = some (.int .i64 ln) := cell_at hW.2.1 rfl; have q3 : W.cell? ⟨db, 3, none⟩ = some pv := cell_at (hW.2.2 rfl) rfl; have l0 := (Array.getElem?_eq_some_iff.1 hW.1).1; have l1 := (Array.getElem?_eq_some_iff.1 (hW.2.2 rfl)).1; clear hW; go_simp
      simp only [Act.put]
      refine wpAnyD_pre (i := 3) [3, 23] (v := .pointer (some ⟨db, 0, none⟩)) (by rfl) rfl (by rfl) (by kernel_rfl) (by kernel_rfl) (by kernel_rfl) (by kernel_rfl) (by kernel_rfl) (fun c a w h => h) (Or.inl ⟨by rfl, ?_⟩) hT0 ?_
      · rintro W hW; have q0 : W.cell? ⟨rb, 0, none⟩ = some (.pointer (some ⟨db, 0, none⟩)) := cell_at hW.1 rfl; have q1 : W.cell? ⟨w.heap.size, 10, none⟩ = some (.slice ra rn rc) := cell_at hW.2.1 rfl; have q2 : W.cell? ⟨w.heap.size, 1, none⟩ = some (.int .i64 ln) := cell_at hW.2.1 rfl; have q3 : W.cell? ⟨db, 3, none⟩ = some pv := cell_at (hW.2.2 rfl) rfl; have l0 := (Array.getElem?_eq_some_iff.1 hW.1).1; have l1 := (Array.getElem?_eq_some_iff.1 (hW.2.2 rfl)).1; clear hW; go_simp
      simp only [Act.put]
      refine wpAnyD_pre (i := 4) [4, 23] (v := .pointer (some ⟨rb, 0, none⟩)) (by rfl) rfl (by rfl) (by kernel_rfl) (by kernel_rfl) (by kernel_rfl) (by kernel_rfl) (by kernel_rfl) (fun c a w h => h) (Or.inl ⟨by rfl, ?_⟩) hT0 ?_
      · rintro W hW; have q0 : W.cell? ⟨rb, 0, none⟩ = some (.pointer (some ⟨db, 0, none⟩)) := cell_at hW.1 rfl; have q1 : W.cell? ⟨w.heap.size, 10, none⟩ = some (.slice ra rn rc) := cell_at hW.2.1 rfl; have q2 : W.cell? ⟨w.heap.size, 1, none⟩ = some (.int .i64 ln) := cell_at hW.2.1 rfl; have q3 : W.cell? ⟨db, 3, none⟩ = some pv := cell_at (hW.2.2 rfl) rfl; have l0 := (Array.getElem?_eq_some_iff.1 hW.1).1; have l1 := (Array.getElem?_eq_some_iff.1 (hW.2.2 rfl)).1; clear hW; go_simp
      simp only [Act.put]
      refine wpAnyD_pre (i := 5) [5, 23] (v := .pointer (some ⟨rb, 0, none⟩)) (by rfl) rfl (by rfl) (by kernel_rfl) (by kernel_rfl) (by kernel_rfl) (by kernel_rfl) (by kernel_rfl) (fun c a w h => h) (Or.inl ⟨by rfl, ?_⟩) hT0 ?_
      · rintro W hW; have q0 : W.cell? ⟨rb, 0, none⟩ = some (.pointer (some ⟨db, 0, none⟩)) := cell_at hW.1 rfl; have q1 : W.cell? ⟨w.heap.size, 10, none⟩ = some (.slice ra rn rc) := cell_at hW.2.1 rfl; have q2 : W.cell? ⟨w.heap.size, 1, none⟩ = some (.int .i64 ln) := cell_at hW.2.1 rfl; have q3 : W.cell? ⟨db, 3, none⟩ = some pv := cell_at (hW.2.2 rfl) rfl; have l0 := (Array.getElem?_eq_some_iff.1 hW.1).1; have l1 := (Array.getElem?_eq_some_iff.1 (hW.2.2 rfl)).1; clear hW; go_simp
      simp only [Act.put]
      refine wpAnyD_pre (i := 6) [6, 23] (v := .pointer (some ⟨rb, 0, none⟩)) (by rfl) rfl (by rfl) (by kernel_rfl) (by kernel_rfl) (by kernel_rfl) (by kernel_rfl) (by kernel_rfl) (fun c a w h => h) (Or.inl ⟨by rfl, ?_⟩) hT0 ?_
      · rintro W hW; have q0 : W.cell? ⟨rb, 0, none⟩ = some (.pointer (some ⟨db, 0, none⟩)) := cell_at hW.1 rfl; have q1 : W.cell? ⟨w.heap.size, 10, none⟩ = some (.slice ra rn rc) := cell_at hW.2.1 rfl; have q2 : W.cell? ⟨w.heap.size, 1, none⟩ = some (.int .i64 ln) := cell_at hW.2.1 rfl; have q3 : W.cell? ⟨db, 3, none⟩ = some pv := cell_at (hW.2.2 rfl) rfl; have l0 := (Array.getElem?_eq_some_iff.1 hW.1).1; have l1 := (Array.getElem?_eq_some_iff.1 (hW.2.2 rfl)).1; clear hW; go_simp
      simp only [Act.put]
      refine wpAnyD_pre (i := 7) [7, 23] (v := .pointer (some ⟨db, 0, none⟩)) (by rfl) rfl (by rfl) (by kernel_rfl) (by kernel_rfl) (by kernel_rfl) (by kernel_rfl) (by kernel_rfl) (fun c a w h => h) (Or.inl ⟨by rfl, ?_⟩) hT0 ?_
      · rintro W hW; have q0 : W.cell? ⟨rb, 0, none⟩ = some (.pointer (some ⟨db, 0, none⟩)) := cell_at hW.1 rfl; have q1 : W.cell? ⟨w.heap.size, 10, none⟩ = some (.slice ra rn rc) := cell_at hW.2.1 rfl; have q2 : W.cell? ⟨w.heap.size, 1, none⟩ = some (.int .i64 ln) := cell_at hW.2.1 rfl; have q3 : W.cell? ⟨db, 3, none⟩ = some pv := cell_at (hW.2.2 rfl) rfl; have l0 := (Array.getElem?_eq_some_iff.1 hW.1).1; have l1 := (Array.getElem?_eq_some_iff.1 (hW.2.2 rfl)).1; clear hW; go_simp
      simp only [Act.put]
      refine wpAnyD_pre (i := 8) [8, 23] (v := .pointer (some ⟨db, 0, none⟩)) (by rfl) rfl (by rfl) (by kernel_rfl) (by kernel_rfl) (by kernel_rfl) (by kernel_rfl) (by kernel_rfl) (fun c a w h => h) (Or.inl ⟨by rfl, ?_⟩) hT0 ?_
      · rintro W hW; have q0 : W.cell? ⟨rb, 0, none⟩ = some (.pointer (some ⟨db, 0, none⟩)) := cell_at hW.1 rfl; have q1 : W.cell? ⟨w.heap.size, 10, none⟩ = some (.slice ra rn rc) := cell_at hW.2.1 rfl; have q2 : W.cell? ⟨w.heap.size, 1, none⟩ = some (.int .i64 ln) := cell_at hW.2.1 rfl; have q3 : W.cell? ⟨db, 3, none⟩ = some pv := cell_at (hW.2.2 rfl) rfl; have l0 := (Array.getElem?_eq_some_iff.1 hW.1).1; have l1 := (Array.getElem?_eq_some_iff.1 (hW.2.2 rfl)).1; clear hW; go_simp
      simp only [Act.put]
      refine wpAnyD_pre (i := 9) [9, 23] (v := .pointer (some ⟨db, 3, none⟩)) (by rfl) rfl (by rfl) (by kernel_rfl) (by kernel_rfl) (by kernel_rfl) (by kernel_rfl) (by kernel_rfl) (fun c a w h => h) (Or.inl ⟨by rfl, ?_⟩) hT0 ?_
      · rintro W hW; have q0 : W.cell? ⟨rb, 0, none⟩ = some (.pointer (some ⟨db, 0, none⟩)) := cell_at hW.1 rfl; have q1 : W.cell? ⟨w.heap.size, 10, none⟩ = some (.slice ra rn rc) := cell_at hW.2.1 rfl; have q2 : W.cell? ⟨w.heap.size, 1, none⟩ = some (.int .i64 ln) := cell_at hW.2.1 rfl; have q3 : W.cell? ⟨db, 3, none⟩ = some pv := cell_at (hW.2.2 rfl) rfl; have l0 := (Array.getElem?_eq_some_iff.1 hW.1).1; have l1 := (Array.getElem?_eq_some_iff.1 (hW.2.2 rfl)).1; clear hW; go_simp
      simp only [Act.put]
      refine wpAnyD_pre (i := 10) [10, 23] (v := pv) (by rfl) rfl (by rfl) (by kernel_rfl) (by kernel_rfl) (by kernel_rfl) (by kernel_rfl) (by kernel_rfl) (fun c a w h => h) (Or.inl ⟨by rfl, ?_⟩) hT0 ?_
      · rintro W hW; have q0 : W.cell? ⟨rb, 0, none⟩ = some (.pointer (some ⟨db, 0, none⟩)) := cell_at hW.1 rfl; have q1 : W.cell? ⟨w.heap.size, 10, none⟩ = some (.slice ra rn rc) := cell_at hW.2.1 rfl; have q2 : W.cell? ⟨w.heap.size, 1, none⟩ = some (.int .i64 ln) := cell_at hW.2.1 rfl; have q3 : W.cell? ⟨db, 3, none⟩ = some pv := cell_at (hW.2.2 rfl) rfl; have l0 := (Array.getElem?_eq_some_iff.1 hW.1).1; have l1 := (Array.getElem?_eq_some_iff.1 (hW.2.2 rfl)).1; clear hW; go_simp
      simp only [Act.put]
      refine wpAnyD_pre (i := 11) [11, 23] (v := .string x) (by rfl) rfl (by rfl) (by kernel_rfl) (by kernel_rfl) (by kernel_rfl) (by kernel_rfl) (by kernel_rfl) (fun c a w h => h) (Or.inl ⟨by rfl, ?_⟩) hT0 ?_
      · rintro W hW; have q0 : W.cell? ⟨rb, 0, none⟩ = some (.pointer (some ⟨db, 0, none⟩)) := cell_at hW.1 rfl; have q1 : W.cell? ⟨w.heap.size, 10, none⟩ = some (.slice ra rn rc) := cell_at hW.2.1 rfl; have q2 : W.cell? ⟨w.heap.size, 1, none⟩ = some (.int .i64 ln) := cell_at hW.2.1 rfl; have q3 : W.cell? ⟨db, 3, none⟩ = some pv := cell_at (hW.2.2 rfl) rfl; have l0 := (Array.getElem?_eq_some_iff.1 hW.1).1; have l1 := (Array.getElem?_eq_some_iff.1 (hW.2.2 rfl)).1; clear hW; go_simp
      simp only [Act.put]
      refine wpAnyD_pre (i := 14) [14, 23] (v := .pointer (some ⟨w.heap.size, 10, none⟩)) (by rfl) rfl (by rfl) (by kernel_rfl) (by kernel_rfl) (by kernel_rfl) (by kernel_rfl) (by kernel_rfl) (fun c a w h => h) (Or.inl ⟨by rfl, ?_⟩) hT0 ?_
      · rintro W hW; have q0 : W.cell? ⟨rb, 0, none⟩ = some (.pointer (some ⟨db, 0, none⟩)) := cell_at hW.1 rfl; have q1 : W.cell? ⟨w.heap.size, 10, none⟩ = some (.slice ra rn rc) := cell_at hW.2.1 rfl; have q2 : W.cell? ⟨w.heap.size, 1, none⟩ = some (.int .i64 ln) := cell_at hW.2.1 rfl; have q3 : W.cell? ⟨db, 3, none⟩ = some pv := cell_at (hW.2.2 rfl) rfl; have l0 := (Array.getElem?_eq_some_iff.1 hW.1).1; have l1 := (Array.getElem?_eq_some_iff.1 (hW.2.2 rfl)).1; clear hW; go_simp
      simp only [Act.put]
      refine wpAnyD_pre (i := 15) [15, 23] (v := .slice ra rn rc) (by rfl) rfl (by rfl) (by kernel_rfl) (by kernel_rfl) (by kernel_rfl) (by kernel_rfl) (by kernel_rfl) (fun c a w h => h) (Or.inl ⟨by rfl, ?_⟩) hT0 ?_
      · rintro W hW; have q0 : W.cell? ⟨rb, 0, none⟩ = some (.pointer (some ⟨db, 0, none⟩)) := cell_at hW.1 rfl; have q1 : W.cell? ⟨w.heap.size, 10, none⟩ = some (.slice ra rn rc) := cell_at hW.2.1 rfl; have q2 : W.cell? ⟨w.heap.size, 1, none⟩ = some (.int .i64 ln) := cell_at hW.2.1 rfl; have q3 : W.cell? ⟨db, 3, none⟩ = some pv := cell_at (hW.2.2 rfl) rfl; have l0 := (Array.getElem?_eq_some_iff.1 hW.1).1; have l1 := (Array.getElem?_eq_some_iff.1 (hW.2.2 rfl)).1; clear hW; go_simp
      simp only [Act.put]
      refine wpAnyD_pre (i := 16) [16, 23] (v := .pointer (some ⟨w.heap.size, 1, none⟩)) (by rfl) rfl (by rfl) (by kernel_rfl) (by kernel_rfl) (by kernel_rfl) (by kernel_rfl) (by kernel_rfl) (fun c a w h => h) (Or.inl ⟨by rfl, ?_⟩) hT0 ?_
      · rintro W hW; have q0 : W.cell? ⟨rb, 0, none⟩ = some (.pointer (some ⟨db, 0, none⟩)) := cell_at hW.1 rfl; have q1 : W.cell? ⟨w.heap.size, 10, none⟩ = some (.slice ra rn rc) := cell_at hW.2.1 rfl; have q2 : W.cell? ⟨w.heap.size, 1, none⟩ = some (.int .i64 ln) := cell_at hW.2.1 rfl; have q3 : W.cell? ⟨db, 3, none⟩ = some pv := cell_at (hW.2.2 rfl) rfl; have l0 := (Array.getElem?_eq_some_iff.1 hW.1).1; have l1 := (Array.getElem?_eq_some_iff.1 (hW.2.2 rfl)).1; clear hW; go_simp
      simp only [Act.put]
      refine wpAnyD_pre (i := 17) [17, 23] (v := .int .i64 ln) (by rfl) rfl (by rfl) (by kernel_rfl) (by kernel_rfl) (by kernel_rfl) (by kernel_rfl) (by kernel_rfl) (fun c a w h => h) (Or.inl ⟨by rfl, ?_⟩) hT0 ?_
      · rintro W hW; have q0 : W.cell? ⟨rb, 0, none⟩ = some (.pointer (some ⟨db, 0, none⟩)) := cell_at hW.1 rfl; have q1 : W.cell? ⟨w.heap.size, 10, none⟩ = some (.slice ra rn rc) := cell_at hW.2.1 rfl; have q2 : W.cell? ⟨w.heap.size, 1, none⟩ = some (.int .i64 ln) := cell_at hW.2.1 rfl; have q3 : W.cell? ⟨db, 3, none⟩ = some pv := cell_at (hW.2.2 rfl) rfl; have l0 := (Array.getElem?_eq_some_iff.1 hW.1).1; have l1 := (Array.getElem?_eq_some_iff.1 (hW.2.2 rfl)).1; clear hW; go_simp
      simp only [Act.put]
      refine wpAnyD_one (i := 12) (by kernel_rfl) rfl false (by rfl) (fun K hK => ?_)
      go_simp
      refine (HF1.out w3.drew HR3.out b1 HL13.out).mono ?_
      rintro e w4 ⟨nv, rfl, hl4, ho4, hk4⟩
      have hkk : ∀ i, i < w3.heap.size → i ≠ b1 → w4.heap[i]? = w3.heap[i]? := fun i hi hb => hk4.block i hi (by simpa using hb)
      have HR4 := Lib.hid ((hkk rb (Array.getElem?_eq_some_iff.1 HR3.out).1 (by have := HN.out; omega)).trans HR3.out)
      have HD4 := Lib.hid ((hkk db (Array.getElem?_eq_some_iff.1 HD3.out).1 (by have := HN.out; omega)).trans HD3.out)
      have HX4 := Lib.hid ((hkk w.heap.size (Array.getElem?_eq_some_iff.1 HX3.out).1 (by have := HN.out; omega)).trans HX3.out)
      have HL24 := Lib.hid ((hkk b2 (Array.getElem?_eq_some_iff.1 HL23.out).1 (by have := HN.out; omega)).trans HL23.out)
      have HB4 := Lib.hid (HB3.out.drew.trans (hk4.to_below (B := w.heap.size) (show w.heap.size ≤ w3.heap.size from HB3.out.size) (by simp; have := HN.out; omega)))
      have HO4 := Lib.hid (show w4.ownsRow w3.heap.size ST 1 nv [y].length (strsC [y]) from ho4)
      refine hK.out _ _ ⟨HR4.out, HX4.out, fun _ => HD4.out⟩ ?_
      clear hK K ho4 hl4 hk4 hkk HR3 HD3 HX3 HL13 hT0
      refine wpAnyD_one (i := 13) (by kernel_rfl) rfl false (by rfl) (fun K hK => ?_)
      go_simp
      refine (HF2.out w4 HR4.out b2 HL24.out).mono ?_
      rintro e w5 ⟨ov, rfl, hl4, ho4, hk4⟩
      have hkk : ∀ i, i < w4.heap.size → i ≠ b2 → w5.heap[i]? = w4.heap[i]? := fun i hi hb => hk4.block i hi (by simpa using hb)
      have HR5 := Lib.hid ((hkk rb (Array.getElem?_eq_some_iff.1 HR4.out).1 (by have := HN.out; omega)).trans HR4.out)
      have HD5 := Lib.hid ((hkk db (Array.getElem?_eq_some_iff.1 HD4.out).1 (by have := HN.out; omega)).trans HD4.out)
      have HX5 := Lib.hid ((hkk w.heap.size (Array.getElem?_eq_some_iff.1 HX4.out).1 (by have := HN.out; omega)).trans HX4.out)
      have HB5 := Lib.hid (HB4.out.trans (hk4.to_below (B := w.heap.size) HB4.out.size (by simp; have := HN.out; omega)))
      have HO5 := Lib.hid (own_same HO4.out (fun g e hg => hkk g hg (by have := own_lt HO4.out e; have := (Array.getElem?_eq_some_iff.1 HL23.out).1; omega)))
      have HV5 := Lib.hid (show w5.ownsRow w4.heap.size ST 1 ov 0 [] from ho4)
      have hpv5 := own_same HPV.out (fun g e hg => HB5.out.block g hg)
      have HPV5 := Lib.hid hpv5
      refine hK.out _ _ ⟨HR5.out, HX5.out, fun _ => HD5.out⟩ ?_
      clear hK K ho4 hl4 hk4 hkk HR4 HD4 HX4 HL24 hpv5
      obtain ⟨na, nk, nc, rfl⟩ := slice_of HO5.out
      obtain ⟨oa, ok, oc, rfl⟩ := slice_of HV5.out
      refine wpAnyD_one (i := 18) (by kernel_rfl) rfl false (by rfl) (fun K hK => ?_)
      go_simp
      refine hK.out _ _ ⟨HR5.out, HX5.out, fun _ => HD5.out⟩ ?_
      clear hK K
      refine wpAnyD_one (i := 19) (by kernel_rfl) rfl false (by rfl) (fun K hK => ?_)
      go_simp
      refine hK.out _ _ ⟨alloc_keep HR5.out _, alloc_keep HX5.out _, fun _ => alloc_keep HD5.out _⟩ ?_
      clear hK K
      have hpv6 := own_same (W' := w5.alloc (.cells #[.string x, .slice na nk nc, .slice oa ok oc, .slice ra rn rc, .int .i64 ln] PaT)) HPV5.out (fun g _ hg => ((Below.refl _ w5).alloc (Nat.le_refl _) _).block g hg)
      have HPV6 := Lib.hid hpv6
      clear hpv6
      refine wpAnyD_one (i := 20) (by kernel_rfl) rfl false (by rfl) (fun K hK => ?_)
      refine Mw.step_append_own rfl _ _ 75 rfl B PaT ip _ 5 96 Tryz.underlying75 hip hz0 hz1 hz2 rfl (by decide) pv n xs (by simp [go_sem]) HPV6.out ⟨w5.heap.size, 0, none⟩ 1 1 (patC x (.slice na nk nc) (.slice oa ok oc) (.slice ra rn rc) ln) (by simp [go_sem]) rfl (cells_new _ #[.string x, .slice na nk nc, .slice oa ok oc, .slice ra rn rc, .int .i64 ln] _ rfl) (by simp [patC, Value.oneCell']) (by unfold maxLen; omega) (by omega) (by have := HB5.out.size; have := HBW0.out; simp; omega) ?_
      intro v6 w6 hown hgrow hat6
      obtain ⟨a6, n6, c6, rfl⟩ := slice_of hown
      have lr5 := (Array.getElem?_eq_some_iff.1 HR5.out).1
      have ld5 := (Array.getElem?_eq_some_iff.1 HD5.out).1
      have lx5 := (Array.getElem?_eq_some_iff.1 HX5.out).1
      have HR6 := Lib.hid ((hgrow.block rb (by simp; omega) (fun e => own_ne HPV5.out HR5.out (by decide) e.symm)).trans (alloc_keep HR5.out _))
      have HD6 := Lib.hid ((hgrow.block db (by simp; omega) (fun e => own_ne HPV5.out HD5.out (by decide) e.symm)).trans (alloc_keep HD5.out _))
      have HX6 := Lib.hid ((hgrow.block w.heap.size (by simp; omega) (fun e => own_ne HPV5.out HX5.out (by decide) e.symm)).trans (alloc_keep HX5.out _))
      have HO6 := Lib.hid (own_same (W' := w6) HO5.out (fun g e hg => (hgrow.block g (by simp; omega) (fun e2 => by have h1 := own_lt HPV.out e2.symm; have h2 := own_lt HO5.out e; have h3 := HB3.out.size; omega)).trans (((Below.refl _ w5).alloc (Nat.le_refl _) _).block g hg)))
      have HV6 := Lib.hid (own_same (W' := w6) HV5.out (fun g e hg => (hgrow.block g (by simp; omega) (fun e2 => by have h1 := own_lt HPV.out e2.symm; have h2 := own_lt HV5.out e; have h3 := HB4.out.size; omega)).trans (((Below.refl _ w5).alloc (Nat.le_refl _) _).block g hg)))
      have HP6 := Lib.hid hown
      have HK6 := Lib.hid (show Kept (db :: pv.ownBlock.toList) w w6 from ((Kept.of_below HB5.out).alloc _).grown hgrow (fun r e => .inl (by simp [e])))
      clear hown hgrow hat6 lr5 ld5 lx5
      refine hK.out _ _ ⟨HR6.out, HX6.out, fun _ => HD6.out⟩ ?_
      clear hK K
      refine wpAnyD_one (i := 21) (by kernel_rfl) rfl false (by rfl) (fun K hK => ?_)
      go_simp
      refine hK.out _ _ ⟨HR6.out, HX6.out, fun _ => HD6.out⟩ ?_
      clear hK K
      refine wpAnyD_one (i := 22) (by kernel_rfl) rfl false (by rfl) (fun K hK => ?_)
      go_simp
      refine hK.out _ _ ⟨HR6.out, HX6.out, fun _ => HD6.out⟩ ?_
      clear hK K
      refine wpAnyD_one (i := 23) (by kernel_rfl) rfl true (by rfl) (fun K hK => ?_)
      have k33 : w6.cell? ⟨db, 3, none⟩ = some pv := cell_at HD6.out rfl
      have f33 := frozen_at HD6.out 3
      have l33 := (Array.getElem?_eq_some_iff.1 HD6.out).1
      go_simp
      have hrd : rb ≠ db := by
        intro e
        have h1 := HR6.out
        rw [e, HD6.out] at h1
        injection h1 with h1
        injection h1 with _ h2 _
        exact absurd h2 (by decide)
      have hxd : w.heap.size ≠ db := by have := HDL.out; omega
      have HD7 := Lib.hid (heap_set (i := 3) HD6.out (.slice a6 n6 c6))
      refine hK.out _ _ ⟨set_ne (i := 3) HR6.out hrd _, set_ne (i := 3) HX6.out hxd _, fun h => by cases h⟩ ?_
      clear hK K k33 f33 l33 hrd hxd
      refine wpAnyD_done (by kernel_rfl) ?_ _
      go_wp2_with fail
      rw [rounds_succ]
      go_wp2_with fail
      go_end0
      have hsd : ∀ {e : TypeId} {z m : Nat} {C : Nat} {v : Value} {zs : List Value}, w6.ownsRow C e z v m zs → DT ≠ e → (w6.setCell ⟨db, 3, none⟩ (.slice a6 n6 c6)).ownsRow C e z v m zs := fun h hT => own_same h (fun g e _ => Below.heap_setCell _ _ _ _ (fun e2 => own_ne h HD6.out hT (by have e3 : db = g := e2.symm; rw [e3]; exact e)))
      exact ⟨rfl, _, _, _, HD7.out, hsd HP6.out (by decide), own_mono (hsd HO6.out (by decide)) HB3.out.size, own_mono (hsd HV6.out (by decide)) HB4.out.size, HK6.out.setCell (.inl (by simp)) _⟩
    | _ => exact hq.elim
  · have l1 := heap_last w0 (.cells (lC rb (str nd) (.slice none 0 0) (.slice none 0 0) false false) LsT)
    have l2 := heap_last (w0.alloc (.cells (lC rb (str nd) (.slice none 0 0) (.slice none 0 0) false false) LsT)) (.cells (lC rb (str o) (.slice none 0 0) (.slice none 0 0) false false) LsT)
    rw [World.size_alloc] at l2
    have k1 := heap_last w0 (.cells (lC rb (str o) (.slice none 0 0) (.slice none 0 0) false false) LsT)
    have k2 := heap_last (w0.alloc (.cells (lC rb (str o) (.slice none 0 0) (.slice none 0 0) false false) LsT)) (.cells (lC rb (str nd) (.slice none 0 0) (.slice none 0 0) false false) LsT)
    rw [World.size_alloc] at k2
    have BB : ∀ o1 o2, Below w0.heap.size w0 ((w0.alloc o1).alloc o2).drew := fun o1 o2 => (((Below.refl _ w0).alloc (Nat.le_refl _) o1).alloc (by simp) o2).drew
    have L1 := Lib.hid l1
    have L2 := Lib.hid l2
    have K1 := Lib.hid k1
    have K2 := Lib.hid k2
    have HBB := Lib.hid BB
    clear l1 l2 k1 k2 BB
    go_region
    all_goals first
      | exact ⟨_, _, rfl, w0.heap.size, w0.heap.size + 1, rfl, rfl, by omega, alloc_keep L1.out _, L2.out, Nat.le_refl _, Nat.le_succ _, HBB.out _ _⟩
      | exact ⟨_, _, rfl, w0.heap.size + 1, w0.heap.size, rfl, rfl, by omega, K2.out, alloc_keep K1.out _, Nat.le_succ _, Nat.le_refl _, HBB.out _ _⟩
end
end Go.Proofs.YtgednccpjegbmaaGreatDoor.Dq
namespace Go.Proofs.YtgednccpjegbmaaGreatDoor.Dq
open Go.RowKit Go.Proofs.YtgednccpjegbmaaGreatDoor Go.Maps Go.Proofs.YtgednccpjegbmaaGreatDoor.Ww Go.Proofs.YtgednccpjegbmaaGreatDoor.Tw Go.Proofs.YtgednccpjegbmaaGreatDoor.Kw Go.Proofs.YtgednccpjegbmaaGreatDoor.Jw Go.Proofs.YtgednccpjegbmaaGreatDoor.Xb Go.Proofs.YtgednccpjegbmaaGreatDoor.Xw Go.Proofs.YtgednccpjegbmaaGreatDoor.Dz
set_option maxRecDepth 100000
theorem by8S (l : Bs) : by8 (str l) = l := rfl
theorem strL (l : Bs) : (str l).size = l.length := rfl
/-- A pattern, as a makefile has it: its target, its need, its line, its recipe; and the texts of its part. -/
structure Pn where
  x : ByteArray
  y : ByteArray
  ln : Nat
  R : List Ip.L
  t : Bs
  nd : Bs
  o : Bs
def Pn.P (q : Pn) : Mp.P := ⟨1, q.ln, [], [], [], false, false, q.t, q.nd, q.o, q.R⟩
structure Pn.Ok (q : Pn) : Prop where
  t : (36 : UInt8) ∉ q.t ∧ q.t.length ≤ 1000 ∧ wordsS (str q.t) = [q.x]
  n : (36 : UInt8) ∉ q.nd ∧ q.nd.length ≤ 1000 ∧ wordsS (str q.nd) = [q.y]
  o : (36 : UInt8) ∉ q.o ∧ q.o.length ≤ 1000 ∧ wordsS (str q.o) = []
  h : (Tp.atA (by8 q.x)).isSome = true
  s : q.x.size ≤ 1000000
/-- .. and its three slices. -/
structure PnV where
  p : Pn
  nv : Value
  ov : Value
  rv : Value
def pnC (q : PnV) : List Value := patC q.p.x q.nv q.ov q.rv q.p.ln
def pnsC (l : List PnV) : List Value := l.flatMap pnC
theorem pnsC_snoc (l : List PnV) (q : PnV) : pnsC (l ++ [q]) = pnsC l ++ pnC q := by simp [pnsC]
theorem pnsC_get {l : List PnV} {k j : Nat} (h : k < l.length) (hj : j < 5) : (pnsC l)[k * 5 + j]? = (pnC l[k])[j]? := by
  induction l generalizing k with
  | nil => cases h
  | cons x r ih =>
    show (pnC x ++ pnsC r)[k * 5 + j]? = _
    cases k with
    | zero => rw [Nat.zero_mul, Nat.zero_add, List.getElem?_append_left (by show j < 5; exact hj)]; rfl
    | succ k =>
      rw [List.getElem?_append_right (by show 5 ≤ _; omega), show (k + 1) * 5 + j - (pnC x).length = k * 5 + j by show _ - 5 = _; omega]
      exact ih (by simpa using h)
structure Pats (W : World) (B lo : Nat) (pv : Value) (l : List PnV) : Prop where
  row : W.ownsRow B PaT 5 pv l.length (pnsC l)
  needs : ∀ q ∈ l, W.ownsRow B ST 1 q.nv [q.p.y].length (strsC [q.p.y])
  order : ∀ q ∈ l, W.ownsRow B ST 1 q.ov 0 []
  recs : ∀ q ∈ l, W.ownsRow lo Iw.LT 3 q.rv q.p.R.length (Iw.linesC q.p.R)
theorem Pats.nil (W : World) (B lo : Nat) : Pats W B lo (.slice none 0 0) [] := ⟨World.ownsRow_nil _ _ _ _, by simp, by simp, by simp⟩
theorem Pats.same {W w' : World} {B lo : Nat} {pv : Value} {l : List PnV} (h : Pats W B lo pv l) (hk : ∀ (g : Nat) (cs : Array Value) (T : TypeId), W.heap[g]? = some (.cells cs T (0, 0)) → T = PaT ∨ T = ST ∨ T = Iw.LT → w'.heap[g]? = W.heap[g]?) : Pats w' B lo pv l := by
  have hk' : ∀ {C : Nat} {e : TypeId} {z n : Nat} {v : Value} {xs : List Value}, W.ownsRow C e z v n xs → e = PaT ∨ e = ST ∨ e = Iw.LT → w'.ownsRow C e z v n xs := fun {C e z n v xs} hr he => by
    refine ⟨hr.1, ?_⟩
    rcases hr.2 with h | ⟨g, cap, cur, hv, hg, hh, r⟩
    · exact .inl h
    · exact .inr ⟨g, cap, cur, hv, hg, (hk g _ _ hh he).trans hh, r⟩
  exact ⟨hk' h.row (.inl rfl), fun q hq => hk' (h.needs q hq) (.inr (.inl rfl)), fun q hq => hk' (h.order q hq) (.inr (.inl rfl)), fun q hq => hk' (h.recs q hq) (.inr (.inr rfl))⟩
theorem Pats.below {W w' : World} {B lo : Nat} {pv : Value} {l : List PnV} (h : Pats W B lo pv l) (hB : Below W.heap.size W w') : Pats w' B lo pv l :=
  h.same fun g _ _ e _ => hB.block g (Array.getElem?_eq_some_iff.1 e).1
theorem Pats.set {W : World} {B lo b i : Nat} {pv v : Value} {l : List PnV} {cs : Array Value} {T : TypeId} (h : Pats W B lo pv l) (hb : W.heap[b]? = some (.cells cs T (0, 0))) (h1 : T ≠ PaT) (h2 : T ≠ ST) (h3 : T ≠ Iw.LT) : Pats (W.setCell ⟨b, i, none⟩ v) B lo pv l :=
  h.same fun g cs' T' e hT => Below.heap_setCell _ _ _ _ (fun e2 => by
    have e3 : b = g := by first | exact e2 | exact e2.symm
    subst e3
    rw [hb] at e
    injection e with e; injection e with _ e _
    subst e
    rcases hT with h | h | h
    · exact h1 h
    · exact h2 h
    · exact h3 h)
theorem Pats.snoc {W w' : World} {B lo db : Nat} {pv pv' : Value} {l : List PnV} {dc : Array Value} (h : Pats W B lo pv l) (hd : W.heap[db]? = some (.cells dc DT (0, 0))) (q : PnV) (hr : W.ownsRow lo Iw.LT 3 q.rv q.p.R.length (Iw.linesC q.p.R)) (hB : B ≤ W.heap.size)
    (h1 : w'.ownsRow B PaT 5 pv' (l.length + 1) (pnsC l ++ pnC q)) (h2 : w'.ownsRow W.heap.size ST 1 q.nv [q.p.y].length (strsC [q.p.y])) (h3 : w'.ownsRow W.heap.size ST 1 q.ov 0 []) (hk : Kept (db :: pv.ownBlock.toList) W w') : Pats w' B lo pv' (l ++ [q]) := by
  have hkr : ∀ {C : Nat} {e : TypeId} {z n : Nat} {v : Value} {xs : List Value}, W.ownsRow C e z v n xs → DT ≠ e → e ≠ PaT → w'.ownsRow C e z v n xs := fun {C e z n v xs} hr hD hP => own_same hr fun g eg hg => hk.block g hg (fun hm => by
    rcases List.mem_cons.1 hm with rfl | hm
    · exact own_ne hr hd hD eg
    · have e1 : pv.ownBlock = some g := by simpa using hm
      rcases Iw.rows_ne hr h.row hP with h | h
      · rw [eg] at h; cases h
      · rw [eg, e1] at h; exact h rfl)
  refine ⟨by rw [List.length_append, pnsC_snoc]; exact h1, fun p hp => ?_, fun p hp => ?_, fun p hp => ?_⟩
  · rcases List.mem_append.1 hp with hp | hp
    · exact hkr (h.needs p hp) (by decide) (by decide)
    · rw [List.mem_singleton.1 hp]; exact own_mono h2 hB
  · rcases List.mem_append.1 hp with hp | hp
    · exact hkr (h.order p hp) (by decide) (by decide)
    · rw [List.mem_singleton.1 hp]; exact own_mono h3 hB
  · rcases List.mem_append.1 hp with hp | hp
    · exact hkr (h.recs p hp) (by decide) (by decide)
    · rw [List.mem_singleton.1 hp]; exact hkr hr (by decide) (by decide)
end Go.Proofs.YtgednccpjegbmaaGreatDoor.Dq
namespace Go.Proofs.YtgednccpjegbmaaGreatDoor.Dq
open Go.RowKit Go.Proofs.YtgednccpjegbmaaGreatDoor Go.Maps Go.Proofs.YtgednccpjegbmaaGreatDoor.Ww Go.Proofs.YtgednccpjegbmaaGreatDoor.Tw Go.Proofs.YtgednccpjegbmaaGreatDoor.Kw Go.Proofs.YtgednccpjegbmaaGreatDoor.Jw Go.Proofs.YtgednccpjegbmaaGreatDoor.Xb Go.Proofs.YtgednccpjegbmaaGreatDoor.Xw Go.Proofs.YtgednccpjegbmaaGreatDoor.Dz
set_option maxRecDepth 100000
theorem Pats.mono {W : World} {B lo B' lo' : Nat} {pv : Value} {l : List PnV} (h : Pats W B lo pv l) (hB : B' ≤ B) (hl : lo' ≤ lo) : Pats W B' lo' pv l :=
  ⟨own_mono h.row hB, fun q hq => own_mono (h.needs q hq) hB, fun q hq => own_mono (h.order q hq) hB, fun q hq => own_mono (h.recs q hq) hl⟩
set_option maxHeartbeats 4000000 in
theorem part_pat {W : World} {rb db tb ib kb B lo : Nat} {au gv pv : Value} {dir : ByteArray} {tv cv gl : Value} {l : List PnV} (hr : W.heap[rb]? = some (.cells (rC db tb au gv ib kb) RT (0, 0))) (hd : W.heap[db]? = some (.cells (dC dir tb tv pv cv gl) DT (0, 0))) (hP : Pats W B lo pv l) (hB : B ≤ W.heap.size) (hl : l.length ≤ 1000000) (q : Pn) (hq : q.Ok) (ra : Option Addr) (rn rc : Nat) (hrec : W.ownsRow lo Iw.LT 3 (.slice ra rn rc) q.R.length (Iw.linesC q.R)) :
    Calls Tryz.prog 47 #[.pointer (some ⟨rb, 0, none⟩), .agg #[.int .i64 1, .int .i64 q.ln, .string ⟨#[]⟩, .string ⟨#[]⟩, .string ⟨#[]⟩, .bool false, .bool false, .string (str q.t), .string (str q.nd), .string (str q.o), .slice ra rn rc]] W fun e w' => e = .returned (.tuple #[]) ∧ ∃ pv' v, v.p = q ∧ w'.heap[db]? = some (.cells (dC dir tb tv pv' cv gl) DT (0, 0)) ∧ Pats w' B lo pv' (l ++ [v]) ∧ Kept (db :: pv.ownBlock.toList) W w' := by
  have hA := (Below.refl W.heap.size W).alloc (Nat.le_refl _) (.cells #[.int .i64 1, .int .i64 q.ln, .string ⟨#[]⟩, .string ⟨#[]⟩, .string ⟨#[]⟩, .bool false, .bool false, .string (str q.t), .string (str q.nd), .string (str q.o), .slice ra rn rc] 130)
  have hr1 := (hA.block _ (Array.getElem?_eq_some_iff.1 hr).1).trans hr
  have hd1 := (hA.block _ (Array.getElem?_eq_some_iff.1 hd).1).trans hd
  have hP1 := hP.below hA
  have hB1 : B ≤ (W.alloc (.cells #[.int .i64 1, .int .i64 q.ln, .string ⟨#[]⟩, .string ⟨#[]⟩, .string ⟨#[]⟩, .bool false, .bool false, .string (str q.t), .string (str q.nd), .string (str q.o), .slice ra rn rc] 130)).heap.size := Nat.le_trans hB hA.size
  have h := rule_pat hr1 hd1 hP1.row hB1 hl q.x q.y hq.s q.ln q.t q.nd q.o ra rn rc hq.t hq.n hq.o hq.h
  refine part_rule W rb q.ln (str q.t) (str q.nd) (str q.o) (.slice ra rn rc) ⟨_, _, _, rfl⟩ (fun _ w' => ∃ pv' v, v.p = q ∧ w'.heap[db]? = some (.cells (dC dir tb tv pv' cv gl) DT (0, 0)) ∧ Pats w' B lo pv' (l ++ [v]) ∧ Kept (db :: pv.ownBlock.toList) W w') (h.mono ?_)
  rintro e w' ⟨rfl, pv', nv, ov, h1, h2, h3, h4, h5⟩
  exact ⟨rfl, pv', ⟨q, nv, ov, .slice ra rn rc⟩, rfl, h1, hP1.snoc hd1 ⟨q, nv, ov, .slice ra rn rc⟩ (own_same hrec fun g _ hg => hA.block g hg) hB1 h2 h3 h4 h5, (Kept.of_below hA).trans h5⟩
/-- How far all has come. -/
def ApRel (W : World) (db tb : Nat) (dir : ByteArray) (lo : Nat) (L : List Pn) (v11 : Value) (wr : World) : Prop :=
  ∃ (i : Nat) (l : List PnV) (pv : Value), v11 = .int .i64 i ∧ i ≤ L.length ∧ l.map PnV.p = L.take i ∧ Kept [db] W wr ∧ wr.heap[db]? = some (.cells (dC dir tb (.slice none 0 0) pv (.slice none 0 0) (.slice none 0 0)) DT (0, 0)) ∧ Pats wr W.heap.size lo pv l ∧ wr.heap[W.heap.size]? = some (.cells #[.int .i64 0] ErrT (0, 0))
def AllPost (W : World) (db tb : Nat) (dir : ByteArray) (lo : Nat) (L : List Pn) (e : Ending) (w' : World) : Prop :=
  e = .returned (.tuple #[.int .i64 0, .int .i64 0]) ∧ Kept [db] W w' ∧ ∃ pv l, l.map PnV.p = L ∧ w'.heap[db]? = some (.cells (dC dir tb (.slice none 0 0) pv (.slice none 0 0) (.slice none 0 0)) DT (0, 0)) ∧ Pats w' W.heap.size lo pv l
set_option maxHeartbeats 8000000 in
theorem all_pats {W0 W : World} {rb db tb sx dx rx fx ib kb : Nat} {sv : Value} {dir : ByteArray} (hB : Beg W0 W rb db tb sx dx rx fx ib kb sv dir) (L : List Pn) (hL : ∀ q ∈ L, q.Ok) (hn : L.length ≤ 1000) (lo : Nat) (a : Option Addr) (c : Nat) (X : List Mw.PV) (hX : X.map Mw.PV.p = L.map Pn.P) (hP : Mw.Ps W lo (.slice a X.length c) X) :
    Calls Tryz.prog 24 #[.pointer (some ⟨rb, 0, none⟩), .slice a X.length c] W (AllPost W db tb dir lo L) := by
  have hmf : ∀ (fn : Fn) (first cap : Array Value) (w : World), (Instr.makeFunc fn first cap).run Tryz.prog w = .ok (.func fn first cap) w := fun _ _ _ _ => rfl
  have hXL : X.length = L.length := by have := congrArg List.length hX; simpa using this
  rw [hXL] at hP ⊢
  have HL := Lib.hid hL
  have HN := Lib.hid hn
  have HXL := Lib.hid hXL
  have HX := Lib.hid hX
  have HP := Lib.hid hP
  have HR := Lib.hid hB.r
  have HD := Lib.hid hB.d
  have hrd : rb ≠ db := fun e => by
    have h1 := hB.r
    rw [e, hB.d] at h1
    injection h1 with h1
    injection h1 with _ h2 _
    exact absurd h2 (by decide)
  have HRD := Lib.hid hrd
  have HB0 := Lib.hid ((Below.refl W.heap.size W).alloc (Nat.le_refl _) (.cells #[.int .i64 0] ErrT))
  have HC0 := Lib.hid (heap_last W (.cells #[.int .i64 0] ErrT))
  have HDL := Lib.hid (show db < W.heap.size from (Array.getElem?_eq_some_iff.1 hB.d).1)
  clear hL hn hXL hX hP hB hrd
  go_enter_defers Tryz.func24, Tryz.ntmps24
  go_wp2_with fail
  generalize W.alloc (.cells #[.int .i64 0] ErrT) = w0 at *
  go_loopw [11] (fun v11 wr => ApRel W db tb dir lo L v11 wr) (fun v11 _ => L.length - (intOf v11).toNat)
  case atStart => exact ⟨0, [], .slice none 0 0, rfl, Nat.zero_le _, rfl, Kept.of_below HB0.out, (HB0.out.block _ HDL.out).trans HD.out, Pats.nil _ _ _, HC0.out⟩
  case round =>
    obtain ⟨i, l, pv, rfl, hi, hl, hk, hd, hp, hc⟩ := hrel
    have hll : l.length = i := by have := congrArg List.length hl; simpa [Nat.min_eq_left hi] using this
    by_cases hlt : i < L.length
    · have hltX : i < X.length := by rw [HXL.out]; exact hlt
      obtain ⟨g, rfl⟩ := Mw.row_some HP.out (by intro e; rw [e] at hltX; cases hltX)
      have hrow0 := HP.out.row
      rw [HXL.out] at hrow0
      have hrow : wr.ownsRow lo Mw.PT 11 (.slice (some ⟨g, 0, none⟩) L.length c) L.length (Mw.pvsC X) := own_same hrow0 fun g' e hg => hk.block g' hg fun hm => own_ne hrow0 HD.out (by decide) (by rw [List.mem_singleton.1 hm] at e; exact e)
      have hgl : g < wr.heap.size := (own_lt hrow rfl).2
      obtain ⟨q, hq⟩ : ∃ q, q = L[i] := ⟨_, rfl⟩
      have hqo : q.Ok := by rw [hq]; exact HL.out _ (List.getElem_mem hlt)
      have hxi : X[i].p = q.P := by
        have h1 := congrArg (fun (l : List Mp.P) => l[i]?) HX.out
        simp only [List.getElem?_map, List.getElem?_eq_getElem hltX, List.getElem?_eq_getElem hlt, Option.map_some] at h1
        rw [hq]; exact Option.some.inj h1
      have hrec0 := HP.out.each X[i] (List.getElem_mem hltX)
      obtain ⟨rv, hrv⟩ : ∃ rv, X[i].v = rv := ⟨_, rfl⟩
      rw [hxi, hrv] at hrec0
      have hrec : wr.ownsRow lo Iw.LT 3 rv q.R.length (Iw.linesC q.R) := own_same hrec0 fun g' e hg => hk.block g' hg fun hm => own_ne hrec0 HD.out (by decide) (by rw [List.mem_singleton.1 hm] at e; exact e)
      obtain ⟨ra, rn, rc, rfl⟩ := slice_of hrec
      have hpc : ∀ j, j < 11 → wr.cell? ⟨g, i * 11 + j, none⟩ = (Mw.partC q.P (.slice ra rn rc)).toList[j]? := fun j hj => by
        rw [hrow.cellAt (i * 11 + j) (by show i * 11 + j < L.length * 11; omega), Mw.pvsC_get hltX hj]
        show (Mw.partC X[i].p X[i].v).toList[j]? = _
        rw [hxi, hrv]
      have p0 : wr.cell? ⟨g, i * 11, none⟩ = some (.int .i64 1) := hpc 0 (by decide)
      have p1 : wr.cell? ⟨g, i * 11 + 1, none⟩ = some (.int .i64 (q.ln : Int)) := hpc 1 (by decide)
      have p2 : wr.cell? ⟨g, i * 11 + 2, none⟩ = some (.string ⟨#[]⟩) := hpc 2 (by decide)
      have p3 : wr.cell? ⟨g, i * 11 + 3, none⟩ = some (.string ⟨#[]⟩) := hpc 3 (by decide)
      have p4 : wr.cell? ⟨g, i * 11 + 4, none⟩ = some (.string ⟨#[]⟩) := hpc 4 (by decide)
      have p5 : wr.cell? ⟨g, i * 11 + 5, none⟩ = some (.bool false) := hpc 5 (by decide)
      have p6 : wr.cell? ⟨g, i * 11 + 6, none⟩ = some (.bool false) := hpc 6 (by decide)
      have p7 : wr.cell? ⟨g, i * 11 + 7, none⟩ = some (.string (str q.t)) := hpc 7 (by decide)
      have p8 : wr.cell? ⟨g, i * 11 + 8, none⟩ = some (.string (str q.nd)) := hpc 8 (by decide)
      have p9 : wr.cell? ⟨g, i * 11 + 9, none⟩ = some (.string (str q.o)) := hpc 9 (by decide)
      have p10 : wr.cell? ⟨g, i * 11 + 10, none⟩ = some (.slice ra rn rc) := hpc 10 (by decide)
      have hr := (hk.block rb (Array.getElem?_eq_some_iff.1 HR.out).1 (fun e => HRD.out (List.mem_singleton.1 e))).trans HR.out
      have hws := hk.size
      have HA := Lib.hid fun W' (hW : Below wr.heap.size wr W') => part_pat (rb := rb) (db := db) ((hW.block rb (Array.getElem?_eq_some_iff.1 hr).1).trans hr) ((hW.block db (Array.getElem?_eq_some_iff.1 hd).1).trans hd) (hp.below hW) (Nat.le_trans hws hW.size) (by have := HN.out; omega) q hqo ra rn rc (own_same hrec fun g' _ hg => hW.block g' hg)
      have HK := Lib.hid hk
      have HPa := Lib.hid hp
      have HC := Lib.hid hc
      have HLL := Lib.hid (And.intro hl hll)
      have HQ := Lib.hid hq
      have hki : (i : Int) < L.length := by omega
      have hk0 : (0 : Int) ≤ (i : Int) := Int.natCast_nonneg _
      clear hpc hrow0 hrow hrec hrec0 hxi hrv hqo hr hk hp hc hl hll hq hd hi
      go_wp2_with fail
      refine (HA.out _ ((Below.refl wr.heap.size wr).alloc (Nat.le_refl _) _)).mono ?_
      rintro e w2 ⟨rfl, pv2, v2, hv2, hd2, hp2, hk2⟩
      have h2 : l.map PnV.p ++ [v2.p] = L.take (i + 1) := by rw [HLL.out.1, hv2, HQ.out, List.take_succ_eq_append_getElem hlt]
      have hk3 : Kept [db] W w2 := trans_new (HK.out.alloc _) hk2 (fun j hj => by
        rcases List.mem_cons.1 hj with rfl | hj
        · exact .inl (by simp)
        · exact .inr (own_lt HPa.out.row (by simpa using hj)).1)
      have hc2 := (hk2.block W.heap.size (Nat.lt_of_lt_of_le (Array.getElem?_eq_some_iff.1 HC.out).1 (by simp)) (fun hm => by
        rcases List.mem_cons.1 hm with e | e
        · have := HDL.out; omega
        · exact own_ne HPa.out.row HC.out (by decide) (by simpa using e))).trans (alloc_keep HC.out _)
      have HR2 : Hid (ApRel W db tb dir lo L (.int .i64 ((i + 1 : Nat) : Int)) w2) := Lib.hid ⟨i + 1, l ++ [v2], pv2, rfl, hlt, by rw [List.map_append]; exact h2, hk3, hd2, hp2, hc2⟩
      clear hv2 hd2 hp2 hk2 h2 hk3 hc2 HA p0 p1 p2 p3 p4 p5 p6 p7 p8 p9 p10
      have hlb := HN.out
      go_wp2_with fail
      have hv : ∀ v, v = Value.int .i64 ((i + 1 : Nat) : Int) → ApRel W db tb dir lo L v w2 := fun v h => h ▸ HR2.out
      go_roundw
      case rel => exact hv _ (by go_num)
      case measure => simp [intOf]; omega
    · obtain rfl : i = L.length := by omega
      rw [List.take_length] at hl
      have HK := Lib.hid hk
      have HPa := Lib.hid hp
      have HC := Lib.hid hc
      have HLL := Lib.hid hl
      have HD2 := Lib.hid hd
      have hki : ¬ (L.length : Int) < L.length := by omega
      have k1 := cell_at (i := 0) hc rfl
      have f1 := frozen_at hc 0
      have l1 := (Array.getElem?_eq_some_iff.1 hc).1
      have hc4 := heap_set (i := 0) hc (.int .i64 0)
      have c4 : (wr.setCell ⟨W.heap.size, 0, none⟩ (.int .i64 0)).cell? ⟨W.heap.size, 0, none⟩ = some (.int .i64 0) := cell_at (i := 0) hc4 rfl
      clear hk hp hc hl hll hd hc4 hi
      go_wp2_with fail
      refine leaves_cons (f := 46) (args := #[.pointer (some ⟨W.heap.size, 0, none⟩)]) (by simp) (by simp [go_sem]) ?_
      refine (all_idle W.heap.size _).mono ?_
      rintro e u' w4 ⟨rfl, rfl, rfl⟩
      simp only [Leaves, settle]
      refine ⟨.tuple #[.int .i64 0, .int .i64 0], ?_, rfl, HK.out.setCell (.inr (Nat.le_refl _)) _, pv, l, HLL.out, set_ne HD2.out (by have := HDL.out; omega) _, HPa.out.set HC.out (by decide) (by decide) (by decide)⟩
      simp [results, Tryz.results24, go_sem, c4]
end Go.Proofs.YtgednccpjegbmaaGreatDoor.Dq
namespace Go.Proofs.YtgednccpjegbmaaGreatDoor.Dq
open Go.RowKit Go.Proofs.YtgednccpjegbmaaGreatDoor Go.Maps Go.Proofs.YtgednccpjegbmaaGreatDoor.Ww Go.Proofs.YtgednccpjegbmaaGreatDoor.Tw Go.Proofs.YtgednccpjegbmaaGreatDoor.Kw Go.Proofs.YtgednccpjegbmaaGreatDoor.Jw Go.Proofs.YtgednccpjegbmaaGreatDoor.Xb Go.Proofs.YtgednccpjegbmaaGreatDoor.Xw Go.Proofs.YtgednccpjegbmaaGreatDoor.Dz
set_option maxRecDepth 100000
/-- What a makefile of patterns says, in memory. -/
def SaysP (W : World) (lo db : Nat) (dir : ByteArray) (L : List Pn) : Prop :=
  ∃ cb pv l, l.map PnV.p = L ∧ W.heap[db]? = some (.cells (dC dir cb (.slice none 0 0) pv (.slice none 0 0) (.slice none 0 0)) DT (0, 0)) ∧ Pats W lo lo pv l
theorem SaysP.set {W : World} {lo db b i : Nat} {dir : ByteArray} {L : List Pn} {v : Value} {cs : Array Value} {T : TypeId} (h : SaysP W lo db dir L) (hb : W.heap[b]? = some (.cells cs T (0, 0))) (h0 : T ≠ DT) (h1 : T ≠ PaT) (h2 : T ≠ ST) (h3 : T ≠ Iw.LT) : SaysP (W.setCell ⟨b, i, none⟩ v) lo db dir L := by
  obtain ⟨cb, pv, l, e1, e2, e3⟩ := h
  exact ⟨cb, pv, l, e1, set_ne e2 (fun e => by subst e; rw [hb] at e2; injection e2 with e2; injection e2 with _ e2 _; exact h0 e2) v, e3.set hb h1 h2 h3⟩
set_option maxHeartbeats 8000000 in
theorem Read_pats (w : World) (sp : Option Addr) {tb : Nat} (hT : NewT w tb) (q : ByteArray) (wh t : Bs) (hq : q.size ≤ 1000) (hcl : isPath (bs q) = true) (hj : Hid (Pt.join [bs q, [77, 97, 107, 101, 102, 105, 108, 101]] = some wh))
    (HRd : ∀ W, Below w.heap.size w W → Calls Tryz.prog 20 #[.pointer sp, .string (str wh)] W fun e w' => e = .returned (.tuple #[.string (str t), .int .i64 0]) ∧ Below W.heap.size W w') (ht : t.length ≤ 99990)
    (L : List Pn) (hL : ∀ q ∈ L, q.Ok) (hn : L.length ≤ 1000) (hp : Mp.partsA t = .ok (L.map Pn.P)) :
    Calls Tryz.prog 8 #[.pointer sp, .string q, .pointer (some ⟨tb, 0, none⟩)] w fun e w' => ∃ db, e = .returned (.tuple #[.pointer (some ⟨db, 0, none⟩), .agg #[.int .i64 0, .string ⟨#[]⟩, .int .i64 0]]) ∧ Below w.heap.size w w' ∧ w.heap.size ≤ db ∧ SaysP w' w.heap.size db q L := by
  have HCl := Lib.hid fun W => Clean_any W q (by omega)
  rw [hcl] at HCl
  have HJ := Lib.hid fun W b hb => join2_yes W b hb q ⟨#[77, 97, 107, 101, 102, 105, 108, 101]⟩ wh ⟨by omega, by decide⟩ hj
  have HOf := Lib.hid fun W => Mw.Of_any W (str wh) (str t) (by show t.toArray.size ≤ _; rw [List.size_toArray]; exact ht)
  rw [show by8 (str t) = t from rfl, hp] at HOf
  have HRd := Lib.hid HRd
  have HLok := Lib.hid hL
  have HN := Lib.hid hn
  have HC := Lib.hid fun W (h : Below w.heap.size w W) => PClone_new W (hT.below h)
  clear hT hcl hj ht hp hL hn
  have hB0 := (Below.refl w.heap.size w).alloc (Nat.le_refl _) (.cells #[.int .i64 0, .string ⟨#[]⟩, .int .i64 0] FaT)
  have hf0 := heap_last w (.cells #[.int .i64 0, .string ⟨#[]⟩, .int .i64 0] FaT)
  have HB0 := Lib.hid hB0
  have HF0 := Lib.hid hf0
  have hlf := (Array.getElem?_eq_some_iff.1 hf0).1
  clear hB0 hf0
  go_enter Tryz.func8, Tryz.ntmps8
  go_wp2_with fail
  generalize w.alloc (.cells #[.int .i64 0, .string ⟨#[]⟩, .int .i64 0] FaT) = w0 at *
  refine (HCl.out _).mono ?_
  rintro e w1 ⟨rfl, B1⟩
  have hs1 := HB0.out.size
  have HB1 := Lib.hid (HB0.out.trans (B1.mono hs1))
  have HF1 := Lib.hid ((B1.block _ hlf).trans HF0.out)
  clear B1 HCl
  go_wp2_with fail
  refine (HJ.out w1 _ rfl).mono ?_
  rintro e w2 ⟨rfl, B2⟩
  have HB2 := Lib.hid (HB1.out.trans (B2.mono HB1.out.size))
  have HF2 := Lib.hid ((B2.block _ (Array.getElem?_eq_some_iff.1 HF1.out).1).trans HF1.out)
  clear B2 HJ
  go_wp2_with fail
  refine (HRd.out w2 HB2.out).mono ?_
  rintro e w3 ⟨rfl, B3⟩
  have HB3 := Lib.hid (HB2.out.trans (B3.mono HB2.out.size))
  have HN3 := Lib.hid (show w.heap.size < w3.heap.size from Nat.lt_of_lt_of_le (Array.getElem?_eq_some_iff.1 HF2.out).1 B3.size)
  have HF3 := Lib.hid ((B3.block _ (Array.getElem?_eq_some_iff.1 HF2.out).1).trans HF2.out)
  clear B3 HRd HF1
  go_wp2_with fail
  refine (HOf.out w3).mono ?_
  rintro e w4 ⟨⟨XX, a, c, hX, rfl, hPs⟩, B4⟩
  have HX := Lib.hid hX
  have hpa := hPs
  have HB4 := Lib.hid (HB3.out.trans (B4.mono HB3.out.size))
  have hf4 := (B4.block _ (Array.getElem?_eq_some_iff.1 HF3.out).1).trans HF3.out
  have HF4 := Lib.hid hf4
  have HPA := Lib.hid hpa
  have z0 := cell_at (i := 0) hf4 rfl
  have z1 := cell_at (i := 1) hf4 rfl
  have z2 := cell_at (i := 2) hf4 rfl
  have fz0 := frozen_at hf4 0
  have fz1 := frozen_at hf4 1
  have fz2 := frozen_at hf4 2
  have l4 := (Array.getElem?_eq_some_iff.1 hf4).1
  clear hX hPs B4 hf4 hpa HOf HF3 HF2 HF0 hlf
  go_wp2_with fail
  have h50 := heap_set (i := 0) HF4.out (.int .i64 0)
  have h51 := heap_set (i := 1) h50 (.string ⟨#[]⟩)
  have h52 := heap_set (i := 2) h51 (.int .i64 0)
  have B5 := ((HB4.out.setCell (p := ⟨w.heap.size, 0, none⟩) (by simp) (.int .i64 0)).setCell (p := ⟨w.heap.size, 1, none⟩) (by simp) (.string ⟨#[]⟩)).setCell (p := ⟨w.heap.size, 2, none⟩) (by simp) (.int .i64 0)
  have hpa5 : Mw.Ps (((w4.setCell ⟨w.heap.size, 0, none⟩ (.int .i64 0)).setCell ⟨w.heap.size, 1, none⟩ (.string ⟨#[]⟩)).setCell ⟨w.heap.size, 2, none⟩ (.int .i64 0)) w3.heap.size (.slice a XX.length c) XX := by
    have hk : ∀ g, g ≠ w.heap.size → (((w4.setCell ⟨w.heap.size, 0, none⟩ (.int .i64 0)).setCell ⟨w.heap.size, 1, none⟩ (.string ⟨#[]⟩)).setCell ⟨w.heap.size, 2, none⟩ (.int .i64 0)).heap[g]? = w4.heap[g]? := fun g hg => (Below.heap_setCell _ _ _ _ (fun e => hg (by first | exact e | exact e.symm))).trans ((Below.heap_setCell _ _ _ _ (fun e => hg (by first | exact e | exact e.symm))).trans (Below.heap_setCell _ _ _ _ (fun e => hg (by first | exact e | exact e.symm))))
    exact HPA.out.kept fun g h1 _ => hk g (by have := HN3.out; omega)
  have HF5 := Lib.hid h52
  have HB5 := Lib.hid B5
  have HPA5 := Lib.hid hpa5
  clear z0 z1 z2 fz0 fz1 fz2 l4 h50 h51 h52 B5 hpa5 HF4 HPA
  generalize ((w4.setCell ⟨w.heap.size, 0, none⟩ (.int .i64 0)).setCell ⟨w.heap.size, 1, none⟩ (.string ⟨#[]⟩)).setCell ⟨w.heap.size, 2, none⟩ (.int .i64 0) = w5 at *
  refine (HC.out w5 HB5.out).mono ?_
  rintro e w6 ⟨cb, X1, rfl, hT61, hX61, B6⟩
  obtain ⟨X', hT6, hK6, hsub⟩ := hT61.shrink
  have hX6 : ∀ i ∈ X', w5.heap.size ≤ i := fun i hi => hX61 i (hsub i hi)
  clear hT61 hX61 hsub
  have HF6 := Lib.hid ((B6.block _ (Array.getElem?_eq_some_iff.1 HF5.out).1).trans HF5.out)
  have HB6 := Lib.hid (HB5.out.trans (B6.mono HB5.out.size))
  have HPA6 := Lib.hid (HPA5.out.below B6)
  have HT6 := Lib.hid hT6
  have HX6 := Lib.hid (show ∀ i ∈ X', w.heap.size < i from fun i hi => Nat.lt_of_lt_of_le (Array.getElem?_eq_some_iff.1 HF5.out).1 (hX6 i hi))
  have HXL := Lib.hid (show ∀ i ∈ X', i < w6.heap.size from fun i hi => kinds_lt hK6 i hi)
  clear hT6 hX6 B6 HC hK6
  go_wp2_with fail
  have HA0 := Lib.hid ((Below.refl _ w6).alloc (Nat.le_refl _) (.cells (dC q cb (.slice none 0 0) (.slice none 0 0) (.slice none 0 0) (.slice none 0 0)) DT))
  have HD6 := Lib.hid (heap_last w6 (.cells (dC q cb (.slice none 0 0) (.slice none 0 0) (.slice none 0 0) (.slice none 0 0)) DT))
  have hs6 : (w6.alloc (.cells (dC q cb (.slice none 0 0) (.slice none 0 0) (.slice none 0 0) (.slice none 0 0)) DT)).heap.size = w6.heap.size + 1 := by simp
  have HS6 := Lib.hid hs6
  clear hs6
  refine (start_any HD6.out sp).mono ?_
  rintro e w7 ⟨rb, sx, dx, rx, fx, ib, kb, rfl, hBeg⟩
  have HBG := Lib.hid hBeg
  have B7 := HA0.out.trans (hBeg.b.mono HA0.out.size)
  have HF7 := Lib.hid ((B7.block _ (Array.getElem?_eq_some_iff.1 HF6.out).1).trans HF6.out)
  have HB7 := Lib.hid (HB6.out.trans (B7.mono HB6.out.size))
  have HPA7 := Lib.hid (HPA6.out.below B7)
  have HT7 := Lib.hid (HT6.out.below B7)
  clear hBeg B7
  go_wp2_with fail
  have hlo : w.heap.size ≤ w3.heap.size := HB3.out.size
  have HLO := Lib.hid hlo
  clear hlo
  refine (all_pats HBG.out L HLok.out HN.out w3.heap.size a c XX HX.out HPA7.out).mono ?_
  rintro e w8 ⟨rfl, hk8, pv8, l8, hl8, hd8, hp8⟩
  have hrl := (Array.getElem?_eq_some_iff.1 HBG.out.r).1
  have hnr : rb ∉ [w6.heap.size] := fun e => by
    have := HBG.out.new.1; have := HS6.out; have := List.mem_singleton.1 e; omega
  have hr8 := (hk8.block rb hrl hnr).trans HBG.out.r
  have hfl := (Array.getElem?_eq_some_iff.1 HF6.out).1
  have hnf : w.heap.size ∉ [w6.heap.size] := fun e => by
    have := List.mem_singleton.1 e; have := (Array.getElem?_eq_some_iff.1 HF6.out).1; omega
  have hf8 := (hk8.block _ (Array.getElem?_eq_some_iff.1 HF7.out).1 hnf).trans HF7.out
  have HB8 := Lib.hid (HB7.out.trans (hk8.to_below HB7.out.size (fun i hi => by
    have := HB6.out.size; have := List.mem_singleton.1 hi; omega)))
  have HF8 := Lib.hid hf8
  have hsz7 : w.heap.size ≤ w7.heap.size := HB7.out.size
  have HP8 := Lib.hid (show SaysP w8 w.heap.size w6.heap.size q L from ⟨cb, pv8, l8, hl8, hd8, hp8.mono hsz7 HLO.out⟩)
  clear hsz7 hl8 hd8
  have r80 := cell_at (i := 0) hr8 rfl
  have lr8 := (Array.getElem?_eq_some_iff.1 hr8).1
  have z0 := cell_at (i := 0) hf8 rfl
  have z1 := cell_at (i := 1) hf8 rfl
  have z2 := cell_at (i := 2) hf8 rfl
  have fz0 := frozen_at hf8 0
  have fz1 := frozen_at hf8 1
  have fz2 := frozen_at hf8 2
  have l8 := (Array.getElem?_eq_some_iff.1 hf8).1
  clear hk8 hp8 hr8 hf8
  go_wp2_with fail
  have h50 := heap_set (i := 0) HF8.out (.int .i64 0)
  have h51 := heap_set (i := 1) h50 (.string ⟨#[]⟩)
  have h52 := heap_set (i := 2) h51 (.int .i64 0)
  have hz : (Tryz.prog.info? FaT).map (·.size) = some 3 := by kernel_rfl
  have hu : Tryz.prog.underlying FaT = some (.struct (Tryz.prog.fieldsOf FaT)) := by kernel_rfl
  refine bodyPost_ret (Mw.results_tc Tryz.results8 _ _ w.heap.size FaT _ (0, 0) _ (.pointer (some ⟨w6.heap.size, 0, none⟩)) rfl rfl h52 hu rfl hz) rfl ?_
  exact ⟨w6.heap.size, rfl, ((HB8.out.setCell (p := ⟨w.heap.size, 0, none⟩) (by simp) (.int .i64 0)).setCell (p := ⟨w.heap.size, 1, none⟩) (by simp) (.string ⟨#[]⟩)).setCell (p := ⟨w.heap.size, 2, none⟩) (by simp) (.int .i64 0), HB6.out.size,
    ((HP8.out.set HF8.out (by decide) (by decide) (by decide) (by decide)).set h50 (by decide) (by decide) (by decide) (by decide)).set h51 (by decide) (by decide) (by decide) (by decide)⟩
end Go.Proofs.YtgednccpjegbmaaGreatDoor.Dq
