/-
  The chapter's example, $(X:.c=.o), expanded.
  flatironlaw14.lives: true.
-/
import Derived.Test.YtebagfadcjgllaaGreatDoorXOf
import Derived.Test.YtebagfadcjgllaaGreatDoorXRef
import Derived.Test.YtebagfadcjgllaaGreatDoorXVal
import Derived.Test.YtebagfadcjgllaaGreatDoorXIns
import Derived.Test.YtebagfadcjgllaaGreatDoorXSub
import Derived.Test.YtebagfadcjgllaaGreatDoorXText
namespace Go.Proofs.YtebagfadcjgllaaGreatDoor.Xw
open Go.RowKit Go.Proofs.YtebagfadcjgllaaGreatDoor Go.Proofs.YtebagfadcjgllaaGreatDoor.Ww Go.Proofs.YtebagfadcjgllaaGreatDoor.Tw Go.Proofs.YtebagfadcjgllaaGreatDoor.Kw Go.Proofs.YtebagfadcjgllaaGreatDoor.Jw Go.Proofs.YtebagfadcjgllaaGreatDoor.Xb
set_option maxRecDepth 100000

/-- X:.c=.o. -/
def iX : Bs := [88, 58, 46, 99, 61, 46, 111]
section
variable {xb tb ab lb yb : Nat} {gv kv : Value} {X : List Nat} {L : List Jp.V}
set_option maxHeartbeats 4000000 in
theorem inside_X (d : Int) (B : List (Bs × Unit)) (h1 : 0 ≤ d) (hd : d < 60) (HV : ValueC xb tb ab lb yb gv kv X L [88] d B (some aX)) : InsideC xb tb ab lb yb gv kv X L iX d B (some bX) := by
  intro w hC
  have HI := Lib.hid fun W => IndexAny_no W iX (by decide) (by decide) (by decide)
  have HK := Lib.hid fun W => WCut_yes W [88] [46, 99, 61, 46, 111] [58] 58 (by unfold Flat; decide) (by decide) (by decide) (by decide)
  have HJ := Lib.hid fun W => WCut_yes W [46, 99] [46, 111] [61] 61 (by unfold Flat; decide) (by decide) (by decide) (by decide)
  rw [show str [58] = ⟨#[58]⟩ from rfl, show ([88] : Bs) ++ 58 :: [46, 99, 61, 46, 111] = iX from rfl] at HK
  rw [show str [61] = ⟨#[61]⟩ from rfl, show ([46, 99] : Bs) ++ 61 :: [46, 111] = [46, 99, 61, 46, 111] from rfl] at HJ
  have HS := Lib.hid fun W (h : Cx xb tb ab lb yb gv kv X L W d B) => sub_X d B h1 hd HV W h
  have HO := Lib.hid (On.refl hC)
  have q1 : (((58 : UInt8).toNat : Int) != 0) = true := by decide
  have q2 : (((61 : UInt8).toNat : Int) != 0) = true := by decide
  clear hC HV
  go_enter Tryz.func43, Tryz.ntmps43
  go_wp2_with fail
  refine (HI.out _).mono ?_
  rintro e w1 ⟨rfl, B1⟩
  have HO1 := Lib.hid (HO.out.below B1)
  clear HI HO B1
  go_wp2_with fail
  refine (HK.out _).mono ?_
  rintro e w2 ⟨rfl, B2⟩
  have HO2 := Lib.hid (HO1.out.below B2)
  clear HK HO1 B2
  go_wp2_with fail
  refine (HJ.out _).mono ?_
  rintro e w3 ⟨rfl, B3⟩
  have HO3 := Lib.hid (HO2.out.below B3)
  clear HJ HO2 B3
  go_wp2_with fail
  refine (HS.out _ HO3.out.cx).mono ?_
  rintro e w4 ⟨rfl, hC4, hK4⟩
  have HO4 := Lib.hid (HO3.out.call hC4 hK4)
  clear hC4 hK4 HO3 HS
  go_wp2_with fail
  go_ret
  exact ⟨rfl, HO4.out.cx, HO4.out.k⟩
theorem live_X (hg : Jp.getA L [88] = some ⟨[88], aX, false, 2⟩) : ExpandC xb tb ab lb yb gv kv X L ([] ++ 36 :: (40 :: (iX ++ [41]))) 0 [] (some bX) :=
  expand_ref [] _ 0 [] (some bX) (by decide) (by decide) (by decide) (fun v hv => by cases hv; decide) (by decide) (by decide)
    (reference_is iX (0 + 1) [] (some bX) (by unfold Flat iX; decide) (by decide)
      (inside_X (0 + 1) [] (by decide) (by decide) (value_var [88] aX 2 (0 + 1) [] (some aX) hg (by decide) (fun f h => by cases h) (by decide) (expand_plain aX (0 + 1) _ (by decide) (by decide) (by decide) (by decide)))))
end
end Go.Proofs.YtebagfadcjgllaaGreatDoor.Xw

namespace Go.Proofs.YtebagfadcjgllaaGreatDoor.Xw
open Go.RowKit Go.Proofs.YtebagfadcjgllaaGreatDoor Go.Proofs.YtebagfadcjgllaaGreatDoor.Ww Go.Proofs.YtebagfadcjgllaaGreatDoor.Tw Go.Proofs.YtebagfadcjgllaaGreatDoor.Kw Go.Proofs.YtebagfadcjgllaaGreatDoor.Jw Go.Proofs.YtebagfadcjgllaaGreatDoor.Xb
set_option maxRecDepth 100000

theorem three_cells {a b c : Value} (ha : a.oneCell' = true) (hb : b.oneCell' = true) (hc : c.oneCell' = true) : (#[a, b, c]).all (·.oneCell') = true := by simp [ha, hb, hc]
/-- A slice of one variable, fresh. -/
theorem one_row (w : World) (v : Jp.V) : (w.alloc (.cells (vA v) PV)).ownsRow w.heap.size PV 4 (.slice (some ⟨w.heap.size, 0, none⟩) 1 1) 1 (vsC [v]) :=
  ⟨rfl, .inr ⟨w.heap.size, 1, vA v, rfl, Nat.le_refl _, heap_last _ _, Nat.le_refl _, by decide, rfl, rfl⟩⟩
/-- What Of leaves, with no more blocks than the table has. -/
def OfPost2 (w : World) (L : List Jp.V) (e : Ending) (w' : World) : Prop :=
  ∃ (tb mb : Nat) (f : Value) (r : Array Value) (X : List Nat), e = .returned (.tuple #[.agg #[.pointer (some ⟨tb, 0, none⟩), .map (some mb), f], .agg r]) ∧ r.size = 6 ∧ r.all (·.oneCell') = true ∧ f.oneCell' = true ∧
    Tab w' tb X (setsA L).l [] false ∧ MapAt AK w' mb [] ∧ (∀ x ∈ X, w.heap.size ≤ x ∧ x ≠ mb ∧ x < w'.heap.size) ∧ Below w.heap.size w w'
theorem Of2_any (w : World) {lo : Nat} {a : Option Addr} {c : Nat} {L : List Jp.V} (hl : w.ownsRow lo PV 4 (.slice a L.length c) L.length (vsC L)) (hr : ∀ v ∈ L, Jp.rightA v = true) (hn : ∀ v ∈ L, v.n.length ≤ 1000) (hz : L.length ≤ 1000) :
    Calls Tryz.prog 6 #[.agg #[.slice a L.length c, .slice none 0 0, .slice none 0 0]] w (OfPost2 w L) := by
  refine (Of14_any w hl hr hn hz).mono ?_
  rintro e w' ⟨tb, mb, f, s, X, rfl, hf, hT, hm, hX, hmb, hB⟩
  obtain ⟨X0, hT0, hK0, hX0⟩ := hT.shrink
  exact ⟨tb, mb, f, _, X0, rfl, rfl, by simp [Value.oneCell'], hf, hT0, map_empty AK hm, fun x hx => ⟨(hX x (hX0 x hx)).1, (hX x (hX0 x hx)).2, hK0.lt x hx⟩, hB⟩
theorem env_boxes (w : World) : ((w.alloc (.cells zE ET)).alloc (.cells zR RT)).heap[w.heap.size]? = some (.cells zE ET (0, 0)) ∧ ((w.alloc (.cells zE ET)).alloc (.cells zR RT)).heap[w.heap.size + 1]? = some (.cells zR RT (0, 0)) := by
  refine ⟨alloc_keep (heap_last _ _) _, ?_⟩
  have h := heap_last (w.alloc (.cells zE ET)) (.cells zR RT)
  rw [World.size_alloc] at h
  exact h
def liveV : Jp.V := ⟨[88], aX, false, 2⟩
theorem live_get : Jp.getA (setsA [liveV]).l [88] = some ⟨[88], aX, false, 2⟩ := rfl
set_option maxHeartbeats 4000000 in
theorem lives_any (w : World) : Calls Tryz.prog 4 #[] w fun e w' => e = .returned (.bool true) ∧ Below w.heap.size w w' := by
  have HB0 := Lib.hid ((Below.refl w.heap.size w).alloc (Nat.le_refl _) (.cells (vA liveV) PV))
  have HO := Lib.hid (Of2_any _ (one_row w liveV) (by decide) (by decide) (by decide))
  have q0 : str [88] = ⟨#[88]⟩ := rfl
  have q1 : str aX = ⟨#[97, 46, 99, 32, 98, 46, 99]⟩ := rfl
  unfold vA at HB0 HO
  rw [show liveV.n = [88] from rfl, show liveV.x = aX from rfl, q0, q1, show liveV.s = false from rfl, show liveV.f = 2 from rfl] at HB0 HO
  clear q0 q1
  go_enter Tryz.func4, Tryz.ntmps4
  go_wp2_with fail
  refine HO.out.mono ?_
  rintro e w1 ⟨tb, mb, f, r, X, rfl, hr, hro, hf, hT, hm, hX, hB⟩
  have HB1 := Lib.hid (HB0.out.trans (hB.mono HB0.out.size))
  have HX := Lib.hid (env_boxes w1)
  have hst := Lib.hid (And.intro hT (And.intro hm hX))
  have iE : (Tryz.prog.info? ET).map (·.size) = some (#[Value.pointer (some ⟨tb, 0, none⟩), .map (some mb), f]).size := sizeE
  have iR : (Tryz.prog.info? RT).map (·.size) = some r.size := by rw [hr]; exact sizeR
  have zR' : zR.size = r.size := by rw [hr]; rfl
  have oE : (#[Value.pointer (some ⟨tb, 0, none⟩), .map (some mb), f]).all (·.oneCell') = true := three_cells rfl rfl hf
  clear HO HB0 hT hm hX hB hr
  go_wp2_with (first
    | (refine store_box rfl ET _ _ rfl w1.heap.size #[.pointer (some ⟨tb, 0, none⟩), .map (some mb), f] rfl rfl ET zE HX.out.1 iE rfl oE ?_; intro W3 HG3 HE3; have HY3 : Hid (W3.heap[w1.heap.size + 1]? = some (.cells zR RT (0, 0))) := Lib.hid (by rw [HE3.out]; exact (setRow_other _ _ _ _ (by omega)).trans HX.out.2))
    | (refine store_box rfl RT _ _ rfl (w1.heap.size + 1) r rfl rfl RT zR HY3.out iR zR' hro ?_; intro W4 HG4 HE4; have HB4 : Hid (Below w1.heap.size w1 W4) := Lib.hid (by rw [HE4.out, HE3.out]; exact below_setRow (below_setRow (((Below.refl w1.heap.size w1).alloc (Nat.le_refl _) _).alloc (by simp) _) (Nat.le_refl _) _) (by omega) _); have HE5 : Hid (W4.heap[w1.heap.size]? = some (.cells #[.pointer (some ⟨tb, 0, none⟩), .map (some mb), f] ET (0, 0))) := Lib.hid (by rw [HE4.out]; exact (setRow_other _ _ _ _ (by omega)).trans HG3.out); have e0 := cell_at (i := 0) HE5.out rfl; have e1 := cell_at (i := 1) HE5.out rfl; have e2 := cell_at (i := 2) HE5.out rfl; have el := (Array.getElem?_eq_some_iff.1 HE5.out).1; clear HG3 HE3 HY3 HG4 HE4 HX))
  have HTx := Lib.hid (Text_any W4 tb mb f X (setsA [liveV]).l ([] ++ 36 :: (40 :: (iX ++ [41]))) (some bX) (hst.out.1.below HB4.out) (MapAt.below hst.out.2.1 HB4.out) (fun x hx => Nat.lt_of_lt_of_le (hst.out.2.2 x hx).2.2 HB4.out.size) (fun _ _ _ _ => live_X live_get))
  have q0 : str ([] ++ 36 :: (40 :: (iX ++ [41]))) = ⟨#[36, 40, 88, 58, 46, 99, 61, 46, 111, 41]⟩ := rfl
  rw [q0] at HTx
  clear e0 e1 e2 el HE5 q0 iE iR zR' hro oE hf
  refine HTx.out.mono ?_
  rintro e w5 ⟨rfl, B5⟩
  have HB5 := Lib.hid (HB1.out.trans ((HB4.out.trans (B5.mono HB4.out.size)).mono HB1.out.size))
  have q1 : str ((some bX).getD []) = ⟨#[97, 46, 111, 32, 98, 46, 111]⟩ := rfl
  rw [q1]
  clear B5 HTx HB4 HB1 hst q1
  go_wp2_with fail
  go_ret
  exact ⟨rfl, HB5.out⟩
end Go.Proofs.YtebagfadcjgllaaGreatDoor.Xw
