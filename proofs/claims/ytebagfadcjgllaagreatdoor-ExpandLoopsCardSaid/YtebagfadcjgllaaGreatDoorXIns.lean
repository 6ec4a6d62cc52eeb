/-
  (*expansion).inside and reference, of a name between brackets.
-/
import Derived.Lib.IndexAny
import Derived.Test.YtebagfadcjgllaaGreatDoorWCut
import Derived.Test.YtebagfadcjgllaaGreatDoorXPlain
namespace Go.Proofs.YtebagfadcjgllaaGreatDoor.Xw
open Go.RowKit Go.Proofs.YtebagfadcjgllaaGreatDoor Go.Proofs.YtebagfadcjgllaaGreatDoor.Ww Go.Proofs.YtebagfadcjgllaaGreatDoor.Tw Go.Proofs.YtebagfadcjgllaaGreatDoor.Kw Go.Proofs.YtebagfadcjgllaaGreatDoor.Jw Go.Proofs.YtebagfadcjgllaaGreatDoor.Xb
set_option maxRecDepth 100000

/-- Bytes that are no brackets, and none that is looked for. -/
def Flat (stops N : Bs) : Prop := ∀ c ∈ N, c ≠ 40 ∧ c ≠ 123 ∧ stops.contains c = false
theorem cut_skip {stops : Bs} : ∀ {N : Bs} (R : Bs) (k : Nat), Flat stops N → Wp.cutA stops [] (N ++ R) k = Wp.cutA stops [] R (k + N.length)
  | [], R, k, _ => by simp
  | c :: r, R, k, h => by
    obtain ⟨h1, h2, h3⟩ := h c (by simp)
    rw [List.cons_append, Wp.cutA_miss (fun e => by rw [h3] at e; cases e.2), Wp.next_other h1 h2 (fun d hd => by cases hd), cut_skip R (k + 1) (fun x hx => h x (by simp [hx]))]
    congr 1
    simp; omega
theorem cut_none {stops N : Bs} (h : Flat stops N) : Wp.cutA stops [] N 0 = none := by
  have := cut_skip [] 0 h
  rw [List.append_nil] at this
  rw [this, Wp.cutA_nil]
theorem cut_some {stops N R : Bs} {c : UInt8} (h : Flat stops N) (hc : stops.contains c = true) : Wp.cutA stops [] (N ++ c :: R) 0 = some N.length := by
  rw [cut_skip _ 0 h, Wp.cutA_hit hc, Nat.zero_add]
theorem WCut_no (w : World) (N stops : Bs) (h : Flat stops N) (hn : N.length ≤ 1000) (hs : stops.length ≤ 1000) : Calls Tryz.prog 42 #[.string (str N), .string (str stops)] w fun e w' => e = .returned (.tuple #[.string (str N), .int .u8 0, .string ⟨#[]⟩]) ∧ Below w.heap.size w w' := by
  refine (Cut_any w (str N) (str stops) (by rw [str_size]; omega) (by rw [str_size]; omega)).mono ?_
  rintro e w' ⟨rfl, hB⟩
  rw [by8_str, by8_str, cut_none h]
  exact ⟨rfl, hB⟩
theorem WCut_yes (w : World) (N R stops : Bs) (c : UInt8) (h : Flat stops N) (hc : stops.contains c = true) (hn : N.length + R.length ≤ 1000) (hs : stops.length ≤ 1000) : Calls Tryz.prog 42 #[.string (str (N ++ c :: R)), .string (str stops)] w fun e w' => e = .returned (.tuple #[.string (str N), .int .u8 c.toNat, .string (str R)]) ∧ Below w.heap.size w w' := by
  refine (Cut_any w (str (N ++ c :: R)) (str stops) (by rw [str_size]; simp; omega) (by rw [str_size]; omega)).mono ?_
  rintro e w' ⟨rfl, hB⟩
  rw [by8_str, by8_str, cut_some h hc]
  refine ⟨?_, hB⟩
  unfold cutOut
  have e1 : (str (N ++ c :: R)).extract 0 N.length = str N := by8_ext (by rw [by8_mid, by8_str, by8_str]; simp)
  have e2 : (str (N ++ c :: R)).extract (N.length + 1) (str (N ++ c :: R)).size = str R := by8_ext (by rw [by8_drop, by8_str, by8_str]; simp [List.drop_append])
  dsimp only
  rw [e1, e2, by8_str]
  simp

/-- A name: short, of letters, no brackets, no blanks, no :. -/
structure Nam (N : Bs) : Prop where
  len : N.length ≤ 8
  low : ∀ c ∈ N, c.toNat < 128
  flat : Flat [41, 58, 61, 44] N
  blank : ∀ c ∈ N, ([32, 9] : Bs).contains c = false
  plain : (36 : UInt8) ∉ N
theorem any_none {chars : Bs} : ∀ {s : Bs}, (∀ c ∈ s, chars.contains c = false) → Lib.indexAny s chars = -1
  | [], _ => rfl
  | c :: r, h => by
    unfold Lib.indexAny
    rw [if_neg (by rw [h c (by simp)]; simp), any_none (fun x hx => h x (by simp [hx]))]
    rfl
theorem IndexAny_no (w : World) (N : Bs) (h : N.length ≤ 8) (hl : ∀ c ∈ N, c.toNat < 128) (hb : ∀ c ∈ N, ([32, 9] : Bs).contains c = false) : Calls Tryz.prog 56 #[.string (str N), .string ⟨#[32, 9]⟩] w fun e w' => e = .returned (.int .i64 (-1)) ∧ Below w.heap.size w w' := by
  refine (Tryz.strings_IndexAny_short (str N) ⟨#[32, 9]⟩ w (by decide) (by rw [str_size]; exact h) (fun j b hj => hl b (List.mem_of_getElem? hj))).mono ?_
  rintro e w' ⟨rfl, pos, rfl⟩
  refine ⟨?_, (Below.refl _ w).alloc (Nat.le_refl _) _⟩
  rw [show Lib.indexAny (str N).data.toList (⟨#[32, 9]⟩ : ByteArray).data.toList = -1 from any_none hb]
theorem Flat.less {a b N : Bs} (h : Flat a N) (hs : ∀ c, a.contains c = false → b.contains c = false) : Flat b N := fun c hc => ⟨(h c hc).1, (h c hc).2.1, hs c (h c hc).2.2⟩
theorem Nam.colon {N : Bs} (h : Nam N) : Flat [58] N := h.flat.less fun c hc => by simp at hc ⊢; exact hc.2.1
theorem Nam.close {N : Bs} (h : Nam N) : Flat [41] N := h.flat.less fun c hc => by simp at hc ⊢; exact hc.1

section
variable {xb tb ab lb yb : Nat} {gv kv : Value} {X : List Nat} {L : List Jp.V}
set_option maxHeartbeats 4000000 in
theorem inside_name (N : Bs) (d : Int) (B : List (Bs × Unit)) (o : Option Bs) (hN : Nam N) (h1 : 0 ≤ d) (hd : d < 60) (HV : ValueC xb tb ab lb yb gv kv X L N d B o) : InsideC xb tb ab lb yb gv kv X L N d B o := by
  intro w hC
  have HI := Lib.hid fun W => IndexAny_no W N hN.len hN.low hN.blank
  have HK := Lib.hid fun W => WCut_no W N [58] hN.colon (by have := hN.len; omega) (by decide)
  have HP := Lib.hid (expand_plain (xb := xb) (tb := tb) (ab := ab) (lb := lb) (yb := yb) (gv := gv) (kv := kv) (X := X) (L := L) N d B hN.plain (by have := hN.len; omega) h1 hd)
  have HV := Lib.hid HV
  have HO := Lib.hid (On.refl hC)
  clear hC hN
  rw [show str [58] = ⟨#[58]⟩ from rfl] at HK
  go_enter Tryz.func43, Tryz.ntmps43
  go_wp2_with fail
  refine (HI.out _).mono ?_
  rintro e w1 ⟨rfl, B1⟩
  have HO1 := Lib.hid (HO.out.below B1)
  clear HI HO B1
  go_wp2_with fail
  refine (HK.out _).mono ?_
  rintro e w2 ⟨rfl, B2⟩
  have HO2 := Lib.hid (HO1.out.below B2)
  clear HK HO1 B2
  go_wp2_with fail
  refine (HP.out _ HO2.out.cx).mono ?_
  rintro e w3 ⟨rfl, hC3, hK3⟩
  have HO3 := Lib.hid (HO2.out.call hC3 hK3)
  clear hC3 hK3 HO2 HP
  go_wp2_with fail
  refine (HV.out _ HO3.out.cx).mono ?_
  cases o with
  | none =>
    rintro e w4 ⟨he, hK4⟩
    unfold failE at he
    subst he
    have HK := Lib.hid (HO3.out.k.trans hK4)
    clear hK4 HO3 HV
    go_wp2_with fail
    exact ⟨rfl, rfl, HK.out⟩
  | some v =>
    rintro e w4 ⟨rfl, hC4, hK4⟩
    have HO4 := Lib.hid (HO3.out.call hC4 hK4)
    clear hC4 hK4 HO3 HV
    go_wp2_with fail
    go_ret
    exact ⟨rfl, HO4.out.cx, HO4.out.k⟩

set_option maxHeartbeats 4000000 in
theorem reference_is (N : Bs) (d : Int) (B : List (Bs × Unit)) (o : Option Bs) (hN : Flat [41] N) (hl : N.length ≤ 100) (HI : InsideC xb tb ab lb yb gv kv X L N d B o) : RefC xb tb ab lb yb gv kv X L (40 :: (N ++ [41])) [] d B o := by
  intro w hC
  have HI := Lib.hid HI
  have HO := Lib.hid (On.refl hC)
  have HK := Lib.hid fun W => WCut_yes W N [] [41] 41 hN (by decide) (by simp; omega) (by decide)
  rw [show str [41] = ⟨#[41]⟩ from rfl] at HK
  have e1 : (str (40 :: (N ++ [41]))).extract 1 (str (40 :: (N ++ [41]))).size = str (N ++ [41]) := by8_ext (by rw [by8_drop, by8_str, by8_str]; rfl)
  rw [← e1] at HK
  have hs0 : 0 < (str (40 :: (N ++ [41]))).size := by rw [str_size]; simp
  have hs1 : 1 ≤ (str (40 :: (N ++ [41]))).size := hs0
  have hsm : (str (40 :: (N ++ [41]))).size ≤ 1000 := by rw [str_size]; simp; omega
  have q0 : (str (40 :: (N ++ [41])))[0] = 40 := rfl
  have qe := emp_is (l := 40 :: (N ++ [41])) (by intro h; cases h)
  have qe2 := emp_no (l := 40 :: (N ++ [41])) (by intro h; cases h)
  have q36 : (((str (40 :: (N ++ [41])))[0].toNat : Int) == 36) = false := by rw [q0]; decide
  have q40 : (((str (40 :: (N ++ [41])))[0].toNat : Int) == 40) = true := by rw [q0]; decide
  clear hC e1 q0 hN
  generalize str (40 :: (N ++ [41])) = sv at *
  go_enter Tryz.func28, Tryz.ntmps28
  go_wp2_with fail
  refine (HK.out _).mono ?_
  rintro e w1 ⟨rfl, B1⟩
  have HO1 := Lib.hid (HO.out.below B1)
  have qc : (((41 : UInt8).toNat : Int) == 0) = false := by decide
  clear HK HO B1 q36 q40 qe qe2
  go_wp2_with fail
  refine (HI.out _ HO1.out.cx).mono ?_
  cases o with
  | none =>
    rintro e w4 ⟨he, hK4⟩
    unfold failE at he
    subst he
    have HK := Lib.hid (HO1.out.k.trans hK4)
    clear hK4 HO1 HI
    go_wp2_with fail
    exact ⟨rfl, rfl, HK.out⟩
  | some v =>
    rintro e w4 ⟨rfl, hC4, hK4⟩
    have HO4 := Lib.hid (HO1.out.call hC4 hK4)
    clear hC4 hK4 HO1 HI
    go_wp2_with fail
    go_ret2
    exact ⟨rfl, HO4.out.cx, HO4.out.k⟩
end
end Go.Proofs.YtebagfadcjgllaaGreatDoor.Xw
