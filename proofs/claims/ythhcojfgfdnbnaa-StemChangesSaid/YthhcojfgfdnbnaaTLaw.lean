/-
  flatironlaw12.StemMatches, by what package stem's functions return.
-/
import Derived.Test.YthhcojfgfdnbnaaTRef
namespace Go.Proofs.Ythhcojfgfdnbnaa.Tw
open Go.RowKit Go.Proofs.Ythhcojfgfdnbnaa Go.Proofs.Ythhcojfgfdnbnaa.Ww
set_option maxRecDepth 100000

/- What package stem's functions return. -/
def HasC : Prop := ∀ (w : World) (p : ByteArray), p.size ≤ 100000 → Calls Try.prog 8 #[.string p] w fun e w' => e = .returned (.bool (Tp.atA (by8 p)).isSome) ∧ Below w.heap.size w w'
def MatchC : Prop := ∀ (w : World) (p x : ByteArray), p.size ≤ 100000 → x.size ≤ 100000 → Calls Try.prog 6 #[.string p, .string x] w fun e w' => e = mV (Tp.matchA (by8 p) (by8 x)) ∧ Below w.heap.size w w'
def PutC : Prop := ∀ (w : World) (p s : ByteArray), p.size ≤ 100000 → s.size ≤ 100000 → Calls Try.prog 10 #[.string p, .string s] w fun e w' => e = .returned (.string (str (Tp.putA (by8 p) (by8 s)))) ∧ Below w.heap.size w w'
def ChangeC : Prop := ∀ (w : World) (x a b : ByteArray), x.size ≤ 100000 → a.size ≤ 100000 → b.size ≤ 100000 → Calls Try.prog 14 #[.string x, .string a, .string b] w fun e w' => e = .returned (.string (str (Tp.changeA (by8 x) (by8 a) (by8 b)))) ∧ Below w.heap.size w w'

theorem ex_change : str (Tp.changeA (by8 ⟨#[120, 46, 99]⟩) (by8 ⟨#[37, 46, 99]⟩) (by8 ⟨#[37, 46, 111]⟩)) = ⟨#[120, 46, 111]⟩ := by rfl
theorem ex_has : (Tp.atA (by8 ⟨#[37]⟩)).isSome = true := by rfl
set_option maxHeartbeats 1000000 in
theorem lives_any (HC : ChangeC) (HH : HasC) (w : World) : Calls Try.prog 5 #[] w fun e w' => e = .returned (.bool true) ∧ Below w.heap.size w w' := by
  have h1 := fun W => HC W ⟨#[120, 46, 99]⟩ ⟨#[37, 46, 99]⟩ ⟨#[37, 46, 111]⟩ (by decide) (by decide) (by decide)
  rw [ex_change] at h1
  have h2 := fun W => HH W ⟨#[37]⟩ (by decide)
  rw [ex_has] at h2
  have H1 := Lib.hid h1
  have H2 := Lib.hid h2
  clear h1 h2 HC HH
  go_enter Try.func5, Try.ntmps5
  go_wp2_with fail
  refine (H1.out _).mono ?_
  rintro e w1 ⟨rfl, B1⟩
  go_wp2_with fail
  refine (H2.out _).mono ?_
  rintro e w2 ⟨rfl, B2⟩
  go_wp2_with fail
  go_ret
  exact ⟨rfl, B1.trans (B2.mono B1.size)⟩

def TruePost (w : World) (e : Ending) (w' : World) : Prop := e = .returned (.bool true) ∧ Below w.heap.size w w'
set_option maxHeartbeats 2000000 in
theorem matches_long (HC : ChangeC) (HH : HasC) (w : World) (p x s : ByteArray) (hp : p.size ≤ 9000000000000000000) (hx : x.size ≤ 9000000000000000000) (h : 2000 < p.size + x.size + s.size) (hz : p.size + x.size + s.size ≤ 9000000000000000000) : Calls Try.prog 3 #[.string p, .string x, .string s] w (TruePost w) := by
  have HL := Lib.hid fun W => lives_any HC HH W
  have hz1 : (2000 : Int) < (p.size : Int) + (x.size : Int) + (s.size : Int) := by omega
  clear HC HH
  go_enter Try.func3, Try.ntmps3
  go_wp2_with fail
  refine (HL.out _).mono ?_
  rintro e w1 ⟨rfl, B1⟩
  go_wp2_with fail
  refine (HL.out _).mono ?_
  rintro e w2 ⟨rfl, B2⟩
  go_wp2_with fail
  go_ret
  exact ⟨rfl, B1.trans (B2.mono B1.size)⟩

theorem isSome_is (o : Option Nat) : (decide ((0 : Int) ≤ atI o)) = o.isSome := by
  cases o with
  | none => rfl
  | some i => exact decide_eq_true (by show (0 : Int) ≤ (i : Int); omega)
set_option maxHeartbeats 4000000 in
theorem matches_none (HC : ChangeC) (HH : HasC) (HM : MatchC) (HP : PutC) (w : World) (p x s : ByteArray) (h : p.size + x.size + s.size ≤ 2000) (hm : Tp.matchA (by8 p) (by8 x) = none) : Calls Try.prog 3 #[.string p, .string x, .string s] w (TruePost w) := by
  have HL := Lib.hid fun W => lives_any HC HH W
  have hz1 : ¬ (2000 : Int) < (p.size : Int) + (x.size : Int) + (s.size : Int) := by omega
  have h1 := fun W => HM W p x (by omega) (by omega)
  have h2 := fun W => RMatch_any W p x (by omega) (by omega)
  rw [hm] at h1 h2
  simp only [mV] at h1 h2
  have H1 := Lib.hid h1
  have H2 := Lib.hid h2
  have H3 := Lib.hid fun W => HH W p (by omega)
  have H4 := Lib.hid fun W => RAt_any W p (by omega)
  have hat := isSome_is (Tp.atA (by8 p))
  have H5 := Lib.hid fun W => HP W p s (by omega) (by omega)
  have H6 := Lib.hid fun W => RPut_any W p s (by omega) (by omega)
  clear h1 h2 hm HC HH HM HP
  generalize Tp.atA (by8 p) = o at *
  generalize atI o = oi at *
  generalize o.isSome = ob at *
  go_enter Try.func3, Try.ntmps3
  go_wp2_with fail
  refine (HL.out _).mono ?_
  rintro e w1 ⟨rfl, B1⟩
  go_wp2_with fail
  refine (H1.out _).mono ?_
  rintro e w2 ⟨rfl, B2⟩
  have HB2 := Lib.hid (B1.trans (B2.mono B1.size))
  clear B1 B2
  go_wp2_with fail
  refine (H2.out _).mono ?_
  rintro e w3 ⟨rfl, B3⟩
  have HB3 := Lib.hid (HB2.out.trans (B3.mono HB2.out.size))
  clear B3
  go_wp2_with fail
  refine (H3.out _).mono ?_
  rintro e w4 ⟨rfl, B4⟩
  have HB4 := Lib.hid (HB3.out.trans (B4.mono HB3.out.size))
  clear B4
  go_wp2_with fail
  refine (H4.out _).mono ?_
  rintro e w5 ⟨rfl, rfl⟩
  go_wp2_with fail
  refine (H5.out _).mono ?_
  rintro e w6 ⟨rfl, B6⟩
  have HB6 := Lib.hid (HB4.out.trans (B6.mono HB4.out.size))
  clear B6
  go_wp2_with fail
  refine (H6.out _).mono ?_
  rintro e w7 ⟨rfl, B7⟩
  have HB7 := Lib.hid (HB6.out.trans (B7.mono HB6.out.size))
  clear B7
  go_wp2_with fail
  go_ret
  exact ⟨rfl, HB7.out⟩
set_option maxHeartbeats 4000000 in
theorem matches_some (HC : ChangeC) (HH : HasC) (HM : MatchC) (HP : PutC) (w : World) (p x s : ByteArray) (h : p.size + x.size + s.size ≤ 2000) (z : Bs) (hm : Tp.matchA (by8 p) (by8 x) = some z) : Calls Try.prog 3 #[.string p, .string x, .string s] w (TruePost w) := by
  have HL := Lib.hid fun W => lives_any HC HH W
  have hz1 : ¬ (2000 : Int) < (p.size : Int) + (x.size : Int) + (s.size : Int) := by omega
  have h1 := fun W => HM W p x (by omega) (by omega)
  have h2 := fun W => RMatch_any W p x (by omega) (by omega)
  rw [hm] at h1 h2
  simp only [mV] at h1 h2
  have H1 := Lib.hid h1
  have H2 := Lib.hid h2
  have H3 := Lib.hid fun W => HH W p (by omega)
  have H4 := Lib.hid fun W => RAt_any W p (by omega)
  have hat := isSome_is (Tp.atA (by8 p))
  have hl := Tp.match_len hm
  rw [by8_len] at hl
  have h8 := fun W => HP W p (str z) (by omega) (by rw [str_size]; omega)
  rw [by8_str, Tp.put_match hm, str_by8] at h8
  have H8 := Lib.hid h8
  have H5 := Lib.hid fun W => HP W p s (by omega) (by omega)
  have H6 := Lib.hid fun W => RPut_any W p s (by omega) (by omega)
  clear h1 h2 h8 hm HC HH HM HP
  generalize Tp.atA (by8 p) = o at *
  generalize atI o = oi at *
  generalize o.isSome = ob at *
  go_enter Try.func3, Try.ntmps3
  go_wp2_with fail
  refine (HL.out _).mono ?_
  rintro e w1 ⟨rfl, B1⟩
  go_wp2_with fail
  refine (H1.out _).mono ?_
  rintro e w2 ⟨rfl, B2⟩
  have HB2 := Lib.hid (B1.trans (B2.mono B1.size))
  clear B1 B2
  go_wp2_with fail
  refine (H2.out _).mono ?_
  rintro e w3 ⟨rfl, B3⟩
  have HB3 := Lib.hid (HB2.out.trans (B3.mono HB2.out.size))
  clear B3
  go_wp2_with fail
  refine (H3.out _).mono ?_
  rintro e w4 ⟨rfl, B4⟩
  have HB4 := Lib.hid (HB3.out.trans (B4.mono HB3.out.size))
  clear B4
  go_wp2_with fail
  refine (H4.out _).mono ?_
  rintro e w5 ⟨rfl, rfl⟩
  go_wp2_with fail
  refine (H5.out _).mono ?_
  rintro e w6 ⟨rfl, B6⟩
  have HB6 := Lib.hid (HB4.out.trans (B6.mono HB4.out.size))
  clear B6
  go_wp2_with fail
  refine (H6.out _).mono ?_
  rintro e w7 ⟨rfl, B7⟩
  have HB7 := Lib.hid (HB6.out.trans (B7.mono HB6.out.size))
  clear B7
  go_wp2_with fail
  refine (H8.out _).mono ?_
  rintro e w8 ⟨rfl, B8⟩
  go_wp2_with fail
  go_ret
  exact ⟨rfl, HB7.out.trans (B8.mono HB7.out.size)⟩
theorem StemMatchesL_any (HC : ChangeC) (HH : HasC) (HM : MatchC) (HP : PutC) (w : World) (p x s : ByteArray) (hz : p.size + x.size + s.size ≤ 9000000000000000000) : Calls Try.prog 3 #[.string p, .string x, .string s] w (TruePost w) := by
  by_cases h : p.size + x.size + s.size ≤ 2000
  · cases hm : Tp.matchA (by8 p) (by8 x) with
    | none => exact matches_none HC HH HM HP w p x s h hm
    | some z => exact matches_some HC HH HM HP w p x s h z hm
  · exact matches_long HC HH w p x s (by omega) (by omega) (by omega) hz
end Go.Proofs.Ythhcojfgfdnbnaa.Tw
