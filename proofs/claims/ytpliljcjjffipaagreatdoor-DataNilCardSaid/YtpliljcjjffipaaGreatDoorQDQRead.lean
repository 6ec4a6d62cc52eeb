/-
  data.Read of a makefile of one part, by what is done with that part.
-/
import Derived.Test.YtpliljcjjffipaaGreatDoorQDQStart
import Derived.Test.YtpliljcjjffipaaGreatDoorQDQAll
import Derived.Test.YtpliljcjjffipaaGreatDoorQJPClone
import Derived.Test.YtpliljcjjffipaaGreatDoorQMOf
import Derived.Test.YtpliljcjjffipaaGreatDoorQSPut
import Derived.Test.YtpliljcjjffipaaGreatDoorQJKinds
namespace Go.Proofs.YtpliljcjjffipaaGreatDoor.Dq
open Go.RowKit Go.Proofs.YtpliljcjjffipaaGreatDoor Go.Maps Go.Proofs.YtpliljcjjffipaaGreatDoor.Ww Go.Proofs.YtpliljcjjffipaaGreatDoor.Tw Go.Proofs.YtpliljcjjffipaaGreatDoor.Kw Go.Proofs.YtpliljcjjffipaaGreatDoor.Jw Go.Proofs.YtpliljcjjffipaaGreatDoor.Xb Go.Proofs.YtpliljcjjffipaaGreatDoor.Xw Go.Proofs.YtpliljcjjffipaaGreatDoor.Dz
set_option maxRecDepth 100000

abbrev FaT : TypeId := 42
def pC (k ln : Int) (s2 s3 s4 : ByteArray) (q5 q6 : Bool) (t nd o : ByteArray) (rv : Value) : Array Value := #[.int .i64 k, .int .i64 ln, .string s2, .string s3, .string s4, .bool q5, .bool q6, .string t, .string nd, .string o, rv]
/-- What all comes to, at the beginning. -/
def AllC (w : World) (L : List Jp.V) (sv : Value) (dir : ByteArray) (pc : Value → Array Value) (P : Nat → World → Prop) : Prop :=
  ∀ (W0 W : World) (rb db tb sx dx rx fx ib kb : Nat) (X : List Nat) (g c : Nat) (ra : Option Addr) (rc : Nat), Beg W0 W rb db tb sx dx rx fx ib kb sv dir → w.heap.size ≤ W0.heap.size → Below w.heap.size w W → w.heap.size ≤ db → db < W0.heap.size → Tab W tb X L [] false → (∀ i ∈ X, w.heap.size ≤ i ∧ i < W0.heap.size) → g < W0.heap.size → PAt W g (pc (.slice ra 0 rc)) →
    Calls Tryz.prog 38 #[.pointer (some ⟨rb, 0, none⟩), .slice (some ⟨g, 0, none⟩) 1 c] W fun e w' => ∃ Y, e = .returned (.tuple #[.int .i64 0, .int .i64 0]) ∧ Kept Y W w' ∧ (∀ i ∈ Y, i = db ∨ W0.heap.size ≤ i ∧ i ≠ rb) ∧ P db w'
theorem part_is {w : World} {lo : Nat} {a : Option Addr} {c : Nat} {X : List Mw.PV} {p : Mp.P} (hX : X.map Mw.PV.p = [p]) (hr : p.recipe = []) (h : Mw.Ps w lo (.slice a X.length c) X) :
    ∃ g ra rc, a = some ⟨g, 0, none⟩ ∧ X.length = 1 ∧ lo ≤ g ∧ PAt w g (Mw.partC p (.slice ra 0 rc)) := by
  obtain ⟨x, rfl⟩ : ∃ x, X = [x] := by
    have := congrArg List.length hX
    exact List.length_eq_one_iff.1 (by simpa using this)
  have hp : x.p = p := by simpa using hX
  subst hp
  have hv := h.each x (by simp)
  rw [hr] at hv
  obtain ⟨ra, rc, hvr⟩ : ∃ a c, x.v = .slice a 0 c := by
    rcases hv.2 with ⟨h, _⟩ | ⟨g, cap, _, h, _⟩
    · exact ⟨_, _, h⟩
    · exact ⟨_, _, h⟩
  rcases h.row.2 with ⟨_, h0⟩ | ⟨g, cap, cur, hv, hb, hg, _⟩
  · cases h0
  · cases hv
    refine ⟨g, ra, rc, rfl, rfl, hb, (Array.getElem?_eq_some_iff.1 hg).1, fun j u hu => ?_⟩
    have := h.row.cells (g := g) rfl j u (by
      show (Mw.pvsC [x])[j]? = some u
      have e : Mw.pvsC [x] = (Mw.partC x.p x.v).toList := by simp [Mw.pvsC, Mw.pvC]
      rw [e, hvr]
      simpa using hu)
    rw [Addr.add_lit, Nat.zero_add] at this
    exact this
theorem kinds_lt {w : World} {X : List Nat} (h : Kinds w X) : ∀ i ∈ X, i < w.heap.size := fun i hi => by
  rcases h i hi with ⟨es, ck, h1⟩ | ⟨cs, t, fz, h1, _⟩
  · exact (Array.getElem?_eq_some_iff.1 h1).1
  · exact (Array.getElem?_eq_some_iff.1 h1).1
set_option maxHeartbeats 8000000 in
theorem Read_ok (w : World) (sp : Option Addr) {tb : Nat} {X : List Nat} {L : List Jp.V} (hT : Tab w tb X L [] false) (hL : L.length ≤ 1000000) (hLn : ∀ v ∈ L, v.n.length ≤ 1000000) (q : ByteArray) (wh t : Bs) (hq : q.size ≤ 1000) (hcl : isPath (bs q) = true) (hj : Hid (Pt.join [bs q, [77, 97, 107, 101, 102, 105, 108, 101]] = some wh))
    (HRd : ∀ W, Below w.heap.size w W → Calls Tryz.prog 34 #[.pointer sp, .string (str wh)] W fun e w' => e = .returned (.tuple #[.string (str t), .int .i64 0]) ∧ Below W.heap.size W w') (ht : t.length ≤ 99990)
    (k ln : Nat) (s2 s3 s4 tt nd o : Bs) (q5 q6 : Bool) (hp : Mp.partsA t = .ok [⟨k, ln, s2, s3, s4, q5, q6, tt, nd, o, []⟩]) (P : Nat → World → Prop) (hPe : ∀ db W b i v, (∃ cs, W.heap[b]? = some (.cells cs FaT (0, 0))) → P db W → P db (W.setCell ⟨b, i, none⟩ v))
    (HA : AllC w L (.pointer sp) q (pC k ln (str s2) (str s3) (str s4) q5 q6 (str tt) (str nd) (str o)) P) :
    Calls Tryz.prog 9 #[.pointer sp, .string q, .pointer (some ⟨tb, 0, none⟩)] w fun e w' => ∃ db, e = .returned (.tuple #[.pointer (some ⟨db, 0, none⟩), .agg #[.int .i64 0, .string ⟨#[]⟩, .int .i64 0]]) ∧ Below w.heap.size w w' ∧ w.heap.size ≤ db ∧ P db w' := by
  have HCl := Lib.hid fun W => Clean_any W q (by omega)
  rw [hcl] at HCl
  have HJ := Lib.hid fun W b hb => join2_yes W b hb q ⟨#[77, 97, 107, 101, 102, 105, 108, 101]⟩ wh ⟨by omega, by decide⟩ hj
  have HOf := Lib.hid fun W => Mw.Of_any W (str wh) (str t) (by show t.toArray.size ≤ _; rw [List.size_toArray]; exact ht)
  rw [show by8 (str t) = t from rfl, hp] at HOf
  have HRd := Lib.hid HRd
  have HA := Lib.hid HA
  have HPE := Lib.hid hPe
  have HC := Lib.hid fun W (h : Below w.heap.size w W) => PClone_any W (hT.below h) hL hLn
  clear hT hL hLn hcl hj ht hp hPe
  have hB0 := (Below.refl w.heap.size w).alloc (Nat.le_refl _) (.cells #[.int .i64 0, .string ⟨#[]⟩, .int .i64 0] FaT)
  have hf0 := heap_last w (.cells #[.int .i64 0, .string ⟨#[]⟩, .int .i64 0] FaT)
  have HB0 := Lib.hid hB0
  have HF0 := Lib.hid hf0
  have hlf := (Array.getElem?_eq_some_iff.1 hf0).1
  clear hB0 hf0
  go_enter Tryz.func9, Tryz.ntmps9
  go_wp2_with fail
  generalize w.alloc (.cells #[.int .i64 0, .string ⟨#[]⟩, .int .i64 0] FaT) = w0 at *
  refine (HCl.out _).mono ?_
  rintro e w1 ⟨rfl, B1⟩
  have hs1 := HB0.out.size
  have HB1 := Lib.hid (HB0.out.trans (B1.mono hs1))
  have HF1 := Lib.hid ((B1.block _ hlf).trans HF0.out)
  clear B1 HCl
  go_wp2_with fail
  refine (HJ.out w1 _ rfl).mono ?_
  rintro e w2 ⟨rfl, B2⟩
  have HB2 := Lib.hid (HB1.out.trans (B2.mono HB1.out.size))
  have HF2 := Lib.hid ((B2.block _ (Array.getElem?_eq_some_iff.1 HF1.out).1).trans HF1.out)
  clear B2 HJ
  go_wp2_with fail
  refine (HRd.out w2 HB2.out).mono ?_
  rintro e w3 ⟨rfl, B3⟩
  have HB3 := Lib.hid (HB2.out.trans (B3.mono HB2.out.size))
  have HN3 := Lib.hid (show w.heap.size < w3.heap.size from Nat.lt_of_lt_of_le (Array.getElem?_eq_some_iff.1 HF2.out).1 B3.size)
  have HF3 := Lib.hid ((B3.block _ (Array.getElem?_eq_some_iff.1 HF2.out).1).trans HF2.out)
  clear B3 HRd HF1
  go_wp2_with fail
  refine (HOf.out w3).mono ?_
  rintro e w4 ⟨⟨XX, a, c, hX, rfl, hPs⟩, B4⟩
  obtain ⟨g, ra, rc, rfl, hl1, hgl, hpa⟩ := part_is hX rfl hPs
  rw [hl1]
  have HB4 := Lib.hid (HB3.out.trans (B4.mono HB3.out.size))
  have hf4 := (B4.block _ (Array.getElem?_eq_some_iff.1 HF3.out).1).trans HF3.out
  have HF4 := Lib.hid hf4
  have HPA := Lib.hid hpa
  have z0 := cell_at (i := 0) hf4 rfl
  have z1 := cell_at (i := 1) hf4 rfl
  have z2 := cell_at (i := 2) hf4 rfl
  have fz0 := frozen_at hf4 0
  have fz1 := frozen_at hf4 1
  have fz2 := frozen_at hf4 2
  have l4 := (Array.getElem?_eq_some_iff.1 hf4).1
  clear hX hPs B4 hf4 hpa HOf HF3 HF2 HF0 hlf hl1
  go_wp2_with fail
  have h50 := heap_set (i := 0) HF4.out (.int .i64 0)
  have h51 := heap_set (i := 1) h50 (.string ⟨#[]⟩)
  have h52 := heap_set (i := 2) h51 (.int .i64 0)
  have B5 := ((HB4.out.setCell (p := ⟨w.heap.size, 0, none⟩) (by simp) (.int .i64 0)).setCell (p := ⟨w.heap.size, 1, none⟩) (by simp) (.string ⟨#[]⟩)).setCell (p := ⟨w.heap.size, 2, none⟩) (by simp) (.int .i64 0)
  have hgne : g ≠ w.heap.size := by have := HB3.out.size; have := HN3.out; omega
  have hpa5 : PAt (((w4.setCell ⟨w.heap.size, 0, none⟩ (.int .i64 0)).setCell ⟨w.heap.size, 1, none⟩ (.string ⟨#[]⟩)).setCell ⟨w.heap.size, 2, none⟩ (.int .i64 0)) g (Mw.partC ⟨k, ln, s2, s3, s4, q5, q6, tt, nd, o, []⟩ (.slice ra 0 rc)) :=
    ⟨by simpa [World.setCell] using HPA.out.1, fun j u hu => by
      have e : (((w4.setCell ⟨w.heap.size, 0, none⟩ (.int .i64 0)).setCell ⟨w.heap.size, 1, none⟩ (.string ⟨#[]⟩)).setCell ⟨w.heap.size, 2, none⟩ (.int .i64 0)).heap[g]? = w4.heap[g]? := (Below.heap_setCell _ _ _ _ hgne).trans ((Below.heap_setCell _ _ _ _ hgne).trans (Below.heap_setCell _ _ _ _ hgne))
      exact (World.cell?_of_block (w := w4) e).trans (HPA.out.2 j u hu)⟩
  have HF5 := Lib.hid h52
  have HB5 := Lib.hid B5
  have HPA5 := Lib.hid hpa5
  clear z0 z1 z2 fz0 fz1 fz2 l4 h50 h51 h52 B5 hpa5 HF4 HPA
  generalize ((w4.setCell ⟨w.heap.size, 0, none⟩ (.int .i64 0)).setCell ⟨w.heap.size, 1, none⟩ (.string ⟨#[]⟩)).setCell ⟨w.heap.size, 2, none⟩ (.int .i64 0) = w5 at *
  refine (HC.out w5 HB5.out).mono ?_
  rintro e w6 ⟨cb, X1, rfl, hT61, hX61, B6⟩
  obtain ⟨X', hT6, hK6, hsub⟩ := hT61.shrink
  have hX6 : ∀ i ∈ X', w5.heap.size ≤ i := fun i hi => hX61 i (hsub i hi)
  clear hT61 hX61 hsub
  have HF6 := Lib.hid ((B6.block _ (Array.getElem?_eq_some_iff.1 HF5.out).1).trans HF5.out)
  have HB6 := Lib.hid (HB5.out.trans (B6.mono HB5.out.size))
  have HPA6 := Lib.hid (HPA5.out.below B6)
  have HT6 := Lib.hid hT6
  have HX6 := Lib.hid (show ∀ i ∈ X', w.heap.size ≤ i from fun i hi => Nat.le_trans HB5.out.size (hX6 i hi))
  have HXL := Lib.hid (show ∀ i ∈ X', i < w6.heap.size from fun i hi => kinds_lt hK6 i hi)
  clear hT6 hX6 B6 HC hK6
  go_wp2_with fail
  have HA0 := Lib.hid ((Below.refl _ w6).alloc (Nat.le_refl _) (.cells (dC q cb (.slice none 0 0) (.slice none 0 0) (.slice none 0 0) (.slice none 0 0)) DT))
  have HD6 := Lib.hid (heap_last w6 (.cells (dC q cb (.slice none 0 0) (.slice none 0 0) (.slice none 0 0) (.slice none 0 0)) DT))
  have hs6 : (w6.alloc (.cells (dC q cb (.slice none 0 0) (.slice none 0 0) (.slice none 0 0) (.slice none 0 0)) DT)).heap.size = w6.heap.size + 1 := by simp
  have HS6 := Lib.hid hs6
  clear hs6
  refine (start_any HD6.out sp).mono ?_
  rintro e w7 ⟨rb, sx, dx, rx, fx, ib, kb, rfl, hBeg⟩
  have HBG := Lib.hid hBeg
  have B7 := HA0.out.trans (hBeg.b.mono HA0.out.size)
  have HF7 := Lib.hid ((B7.block _ (Array.getElem?_eq_some_iff.1 HF6.out).1).trans HF6.out)
  have HB7 := Lib.hid (HB6.out.trans (B7.mono HB6.out.size))
  have HPA7 := Lib.hid (HPA6.out.below B7)
  have HT7 := Lib.hid (HT6.out.below B7)
  clear hBeg B7
  go_wp2_with fail
  have hXl : ∀ i ∈ X', w.heap.size ≤ i ∧ i < (w6.alloc (.cells (dC q cb (.slice none 0 0) (.slice none 0 0) (.slice none 0 0) (.slice none 0 0)) DT)).heap.size := fun i hi => ⟨HX6.out i hi, by have := HS6.out; have := HXL.out i hi; omega⟩
  refine (HA.out _ w7 rb w6.heap.size cb sx dx rx fx ib kb X' g c ra rc HBG.out (by have := HS6.out; have := HB6.out.size; omega) HB7.out HB6.out.size (by have := HS6.out; omega) HT7.out hXl (by have := HS6.out; have := HPA6.out.1; omega) HPA7.out).mono ?_
  rintro e w8 ⟨Y, rfl, hk8, hY8, hp8⟩
  have hrl := (Array.getElem?_eq_some_iff.1 HBG.out.r).1
  have hnr : rb ∉ Y := fun e => by
    rcases hY8 rb e with h | h
    · have := HBG.out.new.1; have := HS6.out; omega
    · exact h.2 rfl
  have hr8 := (hk8.block rb hrl hnr).trans HBG.out.r
  have hfl := (Array.getElem?_eq_some_iff.1 HF6.out).1
  have hnf : w.heap.size ∉ Y := fun e => by
    rcases hY8 _ e with h | h
    · omega
    · have := HS6.out; omega
  have hf8 := (hk8.block _ (Array.getElem?_eq_some_iff.1 HF7.out).1 hnf).trans HF7.out
  have HB8 := Lib.hid (HB7.out.trans (hk8.to_below HB7.out.size (fun i hi => by
    have h0 := HB6.out.size; have h1 := HS6.out
    rcases hY8 i hi with h | h
    · omega
    · omega)))
  have HF8 := Lib.hid hf8
  have HP8 := Lib.hid hp8
  have r80 := cell_at (i := 0) hr8 rfl
  have lr8 := (Array.getElem?_eq_some_iff.1 hr8).1
  have z0 := cell_at (i := 0) hf8 rfl
  have z1 := cell_at (i := 1) hf8 rfl
  have z2 := cell_at (i := 2) hf8 rfl
  have fz0 := frozen_at hf8 0
  have fz1 := frozen_at hf8 1
  have fz2 := frozen_at hf8 2
  have l8 := (Array.getElem?_eq_some_iff.1 hf8).1
  clear hk8 hp8 hr8 hf8 HA
  go_wp2_with fail
  have h50 := heap_set (i := 0) HF8.out (.int .i64 0)
  have h51 := heap_set (i := 1) h50 (.string ⟨#[]⟩)
  have h52 := heap_set (i := 2) h51 (.int .i64 0)
  have hz : (Tryz.prog.info? FaT).map (·.size) = some 3 := by kernel_rfl
  have hu : Tryz.prog.underlying FaT = some (.struct (Tryz.prog.fieldsOf FaT)) := by kernel_rfl
  refine bodyPost_ret (Mw.results_tc Tryz.results9 _ _ w.heap.size FaT _ (0, 0) _ (.pointer (some ⟨w6.heap.size, 0, none⟩)) rfl rfl h52 hu rfl hz) rfl ?_
  exact ⟨w6.heap.size, rfl, ((HB8.out.setCell (p := ⟨w.heap.size, 0, none⟩) (by simp) (.int .i64 0)).setCell (p := ⟨w.heap.size, 1, none⟩) (by simp) (.string ⟨#[]⟩)).setCell (p := ⟨w.heap.size, 2, none⟩) (by simp) (.int .i64 0), HB6.out.size,
    HPE.out _ _ _ _ _ ⟨_, h51⟩ (HPE.out _ _ _ _ _ ⟨_, h50⟩ (HPE.out _ _ _ _ _ ⟨_, HF8.out⟩ HP8.out))⟩
end Go.Proofs.YtpliljcjjffipaaGreatDoor.Dq
