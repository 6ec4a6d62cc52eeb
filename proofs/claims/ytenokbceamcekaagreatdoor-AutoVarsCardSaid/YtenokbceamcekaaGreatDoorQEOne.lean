/-
  The functions' names; what a function makes of a word.
-/
import Derived.Deep.RegionHeld3
import Derived.Test.YtenokbceamcekaaGreatDoorQESmall
import Derived.Test.YtenokbceamcekaaGreatDoorQEList
import Derived.Test.YtenokbceamcekaaGreatDoorQETrim
namespace Go.Proofs.YtenokbceamcekaaGreatDoor.Ew
open Go.RowKit Go.Proofs.YtenokbceamcekaaGreatDoor Go.Proofs.YtenokbceamcekaaGreatDoor.Ww Go.Proofs.YtenokbceamcekaaGreatDoor.Tw
set_option maxRecDepth 100000

/-- The functions' names. -/
def nm : Nat → ByteArray
  | 0 => ⟨#[115, 117, 98, 115, 116]⟩
  | 1 => ⟨#[112, 97, 116, 115, 117, 98, 115, 116]⟩
  | 2 => ⟨#[115, 116, 114, 105, 112]⟩
  | 3 => ⟨#[102, 105, 110, 100, 115, 116, 114, 105, 110, 103]⟩
  | 4 => ⟨#[102, 105, 108, 116, 101, 114]⟩
  | 5 => ⟨#[102, 105, 108, 116, 101, 114, 45, 111, 117, 116]⟩
  | 6 => ⟨#[115, 111, 114, 116]⟩
  | 7 => ⟨#[119, 111, 114, 100]⟩
  | 8 => ⟨#[119, 111, 114, 100, 115]⟩
  | 9 => ⟨#[119, 111, 114, 100, 108, 105, 115, 116]⟩
  | 10 => ⟨#[102, 105, 114, 115, 116, 119, 111, 114, 100]⟩
  | 11 => ⟨#[108, 97, 115, 116, 119, 111, 114, 100]⟩
  | 12 => ⟨#[100, 105, 114]⟩
  | 13 => ⟨#[110, 111, 116, 100, 105, 114]⟩
  | 14 => ⟨#[115, 117, 102, 102, 105, 120]⟩
  | 15 => ⟨#[98, 97, 115, 101, 110, 97, 109, 101]⟩
  | 16 => ⟨#[97, 100, 100, 112, 114, 101, 102, 105, 120]⟩
  | 17 => ⟨#[97, 100, 100, 115, 117, 102, 102, 105, 120]⟩
  | _ => ⟨#[106, 111, 105, 110]⟩
/-- What a function makes of a word. -/
def oneS (k : Nat) (A : List ByteArray) (x : ByteArray) : ByteArray :=
  if k = 1 then chS (trimT (A.getD 0 ⟨#[]⟩)) (trimT (A.getD 1 ⟨#[]⟩)) x
  else if k = 12 then (if Ep.nameA (by8 x) = 0 then ⟨#[46, 47]⟩ else x.extract 0 (Ep.nameA (by8 x)))
  else if k = 13 then x.extract (Ep.nameA (by8 x)) x.size
  else if k = 14 then x.extract (Ep.endA (by8 x)) x.size
  else if k = 15 then x.extract 0 (Ep.endA (by8 x))
  else if k = 16 then A.getD 0 ⟨#[]⟩ ++ x
  else x ++ A.getD 0 ⟨#[]⟩
theorem trim_len (s : ByteArray) : (trimT s).size ≤ s.size := by
  have : (by8 (trimT s)).length ≤ (by8 s).length := by
    show (Lib.trimS (by8 s) [32, 9, 10]).length ≤ _
    unfold Lib.trimS Lib.trimLeftS Lib.trimRightS
    refine Nat.le_trans (List.dropWhile_sublist _).length_le ?_
    rw [List.length_reverse]
    refine Nat.le_trans (List.dropWhile_sublist _).length_le ?_
    rw [List.length_reverse]
    exact Nat.le_refl _
  rwa [by8_len, by8_len] at this
theorem getD_size {A : List ByteArray} {n : Nat} (h : ∀ p ∈ A, p.size ≤ n) (k : Nat) : (A.getD k ⟨#[]⟩).size ≤ n := by
  rw [List.getD]
  cases e : A[k]? with
  | none => exact Nat.zero_le _
  | some p => exact h p (List.mem_of_getElem? e)
theorem rd_cell {w : World} {B : Nat} {a : Option Addr} {n c : Nat} {A : List ByteArray} (h : Rd w B (.slice a n c) (strsC A)) (k : Nat) (hk : k < A.length) : ∃ g o, a = some ⟨g, o, none⟩ ∧ n = A.length ∧ n ≤ c ∧ g < B ∧ ∀ j, j < A.length → w.cell? ⟨g, o + j, none⟩ = some (.string (A.getD j ⟨#[]⟩)) := by
  obtain ⟨g, o, c', hv, hc', hg, hx⟩ := h.open_ (by rw [strsC_len]; omega)
  rw [strsC_len] at hv hc'
  obtain ⟨rfl, rfl, rfl⟩ := (Value.slice.injEq ..).mp hv
  exact ⟨g, o, rfl, rfl, hc', hg, fun j hj => by rw [hx j _ (strsC_get A hj), List.getD, List.getElem?_eq_getElem hj]; rfl⟩

set_option maxHeartbeats 2000000 in
theorem one12 (w : World) (v : Value) (A : List ByteArray) (x : ByteArray) (hx : x.size ≤ 1000000) : Calls Tryz.prog 44 #[.string ⟨#[100, 105, 114]⟩, v, .string x] w fun e w' => e = .returned (.string (oneS 12 A x)) ∧ Below w.heap.size w w' := by
  have HN := Lib.hid fun W => Rname_any W x hx
  have HE : Hid (oneS 12 A x = if Ep.nameA (by8 x) = 0 then ⟨#[46, 47]⟩ else x.extract 0 (Ep.nameA (by8 x))) := Lib.hid rfl
  have hnl := Ep.name_le (by8 x)
  rw [by8_len] at hnl
  generalize Ep.nameA (by8 x) = n at *
  by_cases h0 : n = 0
  · subst h0
    have HE2 := Lib.hid (HE.out.trans (if_pos rfl))
    go_enter Tryz.func44, Tryz.ntmps44
    go_wp2_with fail
    refine (HN.out _).mono ?_
    rintro e w' ⟨rfl, rfl⟩
    go_wp2_with fail
    go_ret
    rw [HE2.out]
    exact ⟨rfl, Below.refl _ _⟩
  · have HE2 := Lib.hid (HE.out.trans (if_neg h0))
    have hnz : ((n : Int) == 0) = false := beq_eq_false_iff_ne.2 (by omega)
    have hn1 : (0 : Int) ≤ (n : Int) := by omega
    have hn2 : (n : Int) ≤ (x.size : Int) := by omega
    go_enter Tryz.func44, Tryz.ntmps44
    go_wp2_with fail
    refine (HN.out _).mono ?_
    rintro e w' ⟨rfl, rfl⟩
    go_wp2_with fail
    refine (HN.out _).mono ?_
    rintro e w' ⟨rfl, rfl⟩
    go_wp2_with fail
    go_ret
    rw [HE2.out]
    exact ⟨rfl, Below.refl _ _⟩
set_option maxHeartbeats 2000000 in
theorem one13 (w : World) (v : Value) (A : List ByteArray) (x : ByteArray) (hx : x.size ≤ 1000000) : Calls Tryz.prog 44 #[.string ⟨#[110, 111, 116, 100, 105, 114]⟩, v, .string x] w fun e w' => e = .returned (.string (oneS 13 A x)) ∧ Below w.heap.size w w' := by
  have HN := Lib.hid fun W => Rname_any W x hx
  have HE : Hid (oneS 13 A x = x.extract (Ep.nameA (by8 x)) x.size) := Lib.hid rfl
  have hnl : Ep.nameA (by8 x) ≤ (by8 x).length := Ep.name_le _
  rw [by8_len] at hnl
  generalize Ep.nameA (by8 x) = n at *
  have hn1 : (0 : Int) ≤ (n : Int) := by omega
  have hn2 : (n : Int) ≤ (x.size : Int) := by omega
  go_enter Tryz.func44, Tryz.ntmps44
  go_wp2_with fail
  refine (HN.out _).mono ?_
  rintro e w' ⟨rfl, rfl⟩
  go_wp2_with fail
  go_ret
  rw [HE.out]
  exact ⟨rfl, Below.refl _ _⟩
set_option maxHeartbeats 2000000 in
theorem one14 (w : World) (v : Value) (A : List ByteArray) (x : ByteArray) (hx : x.size ≤ 1000000) : Calls Tryz.prog 44 #[.string ⟨#[115, 117, 102, 102, 105, 120]⟩, v, .string x] w fun e w' => e = .returned (.string (oneS 14 A x)) ∧ Below w.heap.size w w' := by
  have HN := Lib.hid fun W => Rend_any W x hx
  have HE : Hid (oneS 14 A x = x.extract (Ep.endA (by8 x)) x.size) := Lib.hid rfl
  have hnl : Ep.endA (by8 x) ≤ (by8 x).length := (Ep.end_le _).1
  rw [by8_len] at hnl
  generalize Ep.endA (by8 x) = n at *
  have hn1 : (0 : Int) ≤ (n : Int) := by omega
  have hn2 : (n : Int) ≤ (x.size : Int) := by omega
  go_enter Tryz.func44, Tryz.ntmps44
  go_wp2_with fail
  refine (HN.out _).mono ?_
  rintro e w' ⟨rfl, rfl⟩
  go_wp2_with fail
  go_ret
  rw [HE.out]
  exact ⟨rfl, Below.refl _ _⟩
set_option maxHeartbeats 2000000 in
theorem one15 (w : World) (v : Value) (A : List ByteArray) (x : ByteArray) (hx : x.size ≤ 1000000) : Calls Tryz.prog 44 #[.string ⟨#[98, 97, 115, 101, 110, 97, 109, 101]⟩, v, .string x] w fun e w' => e = .returned (.string (oneS 15 A x)) ∧ Below w.heap.size w w' := by
  have HN := Lib.hid fun W => Rend_any W x hx
  have HE : Hid (oneS 15 A x = x.extract 0 (Ep.endA (by8 x))) := Lib.hid rfl
  have hnl : Ep.endA (by8 x) ≤ (by8 x).length := (Ep.end_le _).1
  rw [by8_len] at hnl
  generalize Ep.endA (by8 x) = n at *
  have hn1 : (0 : Int) ≤ (n : Int) := by omega
  have hn2 : (n : Int) ≤ (x.size : Int) := by omega
  go_enter Tryz.func44, Tryz.ntmps44
  go_wp2_with fail
  refine (HN.out _).mono ?_
  rintro e w' ⟨rfl, rfl⟩
  go_wp2_with fail
  go_ret
  rw [HE.out]
  exact ⟨rfl, Below.refl _ _⟩
set_option maxHeartbeats 2000000 in
theorem one16 (w : World) (v : Value) (A : List ByteArray) (x : ByteArray) (hx : x.size ≤ 1000000) (hr : Rd w w.heap.size v (strsC A)) (hl : A.length = 2) (hs : ∀ p ∈ A, p.size ≤ 1000000) : Calls Tryz.prog 44 #[.string ⟨#[97, 100, 100, 112, 114, 101, 102, 105, 120]⟩, v, .string x] w fun e w' => e = .returned (.string (oneS 16 A x)) ∧ Below w.heap.size w w' := by
  obtain ⟨a0, c0, rfl, _⟩ := hr.shape
  obtain ⟨g, o, rfl, hn, hc, hg, hcell⟩ := rd_cell hr 0 (by omega)
  have hp := getD_size hs 0
  have hc0 := hcell 0 (by omega)
  rw [Nat.add_zero] at hc0
  have HE : Hid (oneS 16 A x = A.getD 0 ⟨#[]⟩ ++ x) := Lib.hid rfl
  rw [hn, hl] at *
  clear hcell hn hl hs hr
  generalize A.getD 0 ⟨#[]⟩ = p at *
  have hcat : ¬ 9223372036854775807 < p.size + x.size := by omega
  go_enter Tryz.func44, Tryz.ntmps44
  go_wp2_with fail
  go_ret
  rw [HE.out]
  exact ⟨rfl, Below.refl _ _⟩
set_option maxHeartbeats 2000000 in
theorem one17 (w : World) (v : Value) (A : List ByteArray) (x : ByteArray) (hx : x.size ≤ 1000000) (hr : Rd w w.heap.size v (strsC A)) (hl : A.length = 2) (hs : ∀ p ∈ A, p.size ≤ 1000000) : Calls Tryz.prog 44 #[.string ⟨#[97, 100, 100, 115, 117, 102, 102, 105, 120]⟩, v, .string x] w fun e w' => e = .returned (.string (oneS 17 A x)) ∧ Below w.heap.size w w' := by
  obtain ⟨a0, c0, rfl, _⟩ := hr.shape
  obtain ⟨g, o, rfl, hn, hc, hg, hcell⟩ := rd_cell hr 0 (by omega)
  have hp := getD_size hs 0
  have hc0 := hcell 0 (by omega)
  rw [Nat.add_zero] at hc0
  have HE : Hid (oneS 17 A x = x ++ A.getD 0 ⟨#[]⟩) := Lib.hid rfl
  rw [hn, hl] at *
  clear hcell hn hl hs hr
  generalize A.getD 0 ⟨#[]⟩ = p at *
  have hcat : ¬ 9223372036854775807 < x.size + p.size := by omega
  go_enter Tryz.func44, Tryz.ntmps44
  go_wp2_with fail
  go_ret
  rw [HE.out]
  exact ⟨rfl, Below.refl _ _⟩
theorem held_two {w0 W W' : World} {g o o2 : Nat} {u u2 : Value} (hg : g < w0.heap.size) (h : W.cell? ⟨g, o, none⟩ = some u ∧ W.cell? ⟨g, o2, none⟩ = some u2 ∧ Below w0.heap.size w0 W) (B : Below W.heap.size W W') : W'.cell? ⟨g, o, none⟩ = some u ∧ W'.cell? ⟨g, o2, none⟩ = some u2 ∧ Below w0.heap.size w0 W' :=
  ⟨(B.cell (p := ⟨g, o, none⟩) (Nat.lt_of_lt_of_le hg h.2.2.size)).trans h.1, (B.cell (p := ⟨g, o2, none⟩) (Nat.lt_of_lt_of_le hg h.2.2.size)).trans h.2.1, h.2.2.trans (B.mono h.2.2.size)⟩
set_option maxHeartbeats 4000000 in
theorem one1 (w : World) (v : Value) (A : List ByteArray) (x : ByteArray) (hx : x.size ≤ 100000) (hr : Rd w w.heap.size v (strsC A)) (hl : A.length = 3) (hs : ∀ p ∈ A, p.size ≤ 100000) : Calls Tryz.prog 44 #[.string ⟨#[112, 97, 116, 115, 117, 98, 115, 116]⟩, v, .string x] w fun e w' => e = .returned (.string (oneS 1 A x)) ∧ Below w.heap.size w w' := by
  obtain ⟨a0, c0, rfl, _⟩ := hr.shape
  obtain ⟨g, o, rfl, hn, hc, hg, hcell⟩ := rd_cell hr 0 (by omega)
  have hp0 := getD_size hs 0
  have hp1 := getD_size hs 1
  have hc0 := hcell 0 (by omega)
  have hc1 := hcell 1 (by omega)
  rw [Nat.add_zero] at hc0
  have HE : Hid (oneS 1 A x = chS (trimT (A.getD 0 ⟨#[]⟩)) (trimT (A.getD 1 ⟨#[]⟩)) x) := Lib.hid rfl
  rw [hn, hl] at *
  have ht0 := trim_len (A.getD 0 ⟨#[]⟩)
  have ht1 := trim_len (A.getD 1 ⟨#[]⟩)
  have HC : Hid (∀ W, Calls Tryz.prog 76 #[.string x, .string (trimT (A.getD 0 ⟨#[]⟩)), .string (trimT (A.getD 1 ⟨#[]⟩))] W fun e w' => e = .returned (.string (chS (trimT (A.getD 0 ⟨#[]⟩)) (trimT (A.getD 1 ⟨#[]⟩)) x)) ∧ Below W.heap.size W w') := Lib.hid fun W => RChange_any W x _ _ (by omega) (by omega) (by omega)
  clear hcell hn hl hs hr
  generalize chS (trimT (A.getD 0 ⟨#[]⟩)) (trimT (A.getD 1 ⟨#[]⟩)) x = r at *
  generalize A.getD 0 ⟨#[]⟩ = p0 at *
  generalize A.getD 1 ⟨#[]⟩ = p1 at *
  go_enter Tryz.func44, Tryz.ntmps44
  have S5 : w.drew.cell? ⟨g, o, none⟩ = some (.string p0) ∧ w.drew.cell? ⟨g, o + 1, none⟩ = some (.string p1) ∧ Below w.heap.size w w.drew := ⟨hc0, hc1, (Below.refl _ _).drew⟩
  go_wp2_with fail
  go_region_held3 (fun W => W.cell? ⟨g, o, none⟩ = some (.string p0) ∧ W.cell? ⟨g, o + 1, none⟩ = some (.string p1) ∧ Below w.heap.size w W)
    (first | exact S7 | exact S5)
    (first
      | (go_at_call 43; refine (RTrim_any _ _ (by omega)).mono ?_; rintro e w6 ⟨rfl, rfl⟩)
      | (go_at_call 76; refine (HC.out _).mono ?_; rintro e w7 ⟨rfl, B7⟩; have S7 := held_two hg S5 B7))
  all_goals go_wp2_with fail
  all_goals go_ret
  all_goals (rw [HE.out]; exact ⟨rfl, S7.2.2⟩)
end Go.Proofs.YtenokbceamcekaaGreatDoor.Ew
