/-
  flatironref13.Call: what a function makes.
  flatironref13.Call: subst, findstring, word, wordlist; no function; too many or too few texts.
-/
import Derived.Deep.RegionHeld3
import Derived.Test.YtenokbceamcekaaGreatDoorQETakes
import Derived.Test.YtenokbceamcekaaGreatDoorQEEach
import Derived.Test.YtenokbceamcekaaGreatDoorQENum
import Derived.Test.YtenokbceamcekaaGreatDoorQEJoined
import Derived.Test.YtenokbceamcekaaGreatDoorQESorted
namespace Go.Proofs.YtenokbceamcekaaGreatDoor.Ew
open Go.RowKit Go.Proofs.YtenokbceamcekaaGreatDoor Go.Proofs.YtenokbceamcekaaGreatDoor.Ww Go.Proofs.YtenokbceamcekaaGreatDoor.Tw
set_option maxRecDepth 100000

/-- Words by numbers. -/
def pickS (a b : Option Nat) (L : List ByteArray) : ByteArray × Int := if numI a < 1 ∨ numI b < 0 then (⟨#[]⟩, 1) else (joinS (someS L (a.getD 0) (b.getD 0)), 0)
def numS (p : ByteArray) : Option Nat := Ep.numA (by8 (trimT p))
/-- What a function makes of as many texts as it takes. -/
def resS (k : Nat) (A : List ByteArray) : ByteArray × Int :=
  let L := wordsS (A.getD (takesN k - 1) ⟨#[]⟩)
  match k with
  | 0 => (str (Ep.substA (by8 (A.getD 0 ⟨#[]⟩)) (by8 (A.getD 1 ⟨#[]⟩)) (by8 (A.getD 2 ⟨#[]⟩))), 0)
  | 2 => (joinS L, 0)
  | 3 => (if Ep.insideA (by8 (A.getD 0 ⟨#[]⟩)) (by8 (A.getD 1 ⟨#[]⟩)) = true then A.getD 0 ⟨#[]⟩ else ⟨#[]⟩, 0)
  | 4 => (joinS (keptS (wordsS (A.getD 0 ⟨#[]⟩)) true (wordsS (A.getD 1 ⟨#[]⟩))), 0)
  | 5 => (joinS (keptS (wordsS (A.getD 0 ⟨#[]⟩)) false (wordsS (A.getD 1 ⟨#[]⟩))), 0)
  | 6 => (joinS (Wp.sortS L), 0)
  | 7 => pickS (numS (A.getD 0 ⟨#[]⟩)) (numS (A.getD 0 ⟨#[]⟩)) L
  | 8 => (str (Ep.digitsA L.length), 0)
  | 9 => pickS (numS (A.getD 0 ⟨#[]⟩)) (numS (A.getD 1 ⟨#[]⟩)) L
  | 10 => (joinS (someS L 1 1), 0)
  | 11 => (joinS (someS L (max L.length 1) L.length), 0)
  | 18 => (joinS (pairsS (wordsS (A.getD 0 ⟨#[]⟩)) L), 0)
  | k => (joinS (eachS (oneS k A) L), 0)
/-- An answer of Call. -/
def ansE (r : ByteArray × Int) : Ending := .returned (.tuple #[.string r.1, .int .i64 r.2])
theorem hold3 {w0 W W' : World} {g o : Nat} {A : List ByteArray} (hg : g < w0.heap.size) (h : (∀ j, j < A.length → W.cell? ⟨g, o + j, none⟩ = some (.string (A.getD j ⟨#[]⟩))) ∧ Below w0.heap.size w0 W) (B : Below W.heap.size W W') : (∀ j, j < A.length → W'.cell? ⟨g, o + j, none⟩ = some (.string (A.getD j ⟨#[]⟩))) ∧ Below w0.heap.size w0 W' :=
  ⟨fun j hj => (B.cell (p := ⟨g, o + j, none⟩) (Nat.lt_of_lt_of_le hg h.2.size)).trans (h.1 j hj), h.2.trans (B.mono h.2.size)⟩
theorem one_size (k : Nat) (A : List ByteArray) (x : ByteArray) (hs : ∀ p ∈ A, p.size ≤ 10000) (hx : x.size ≤ 10000) : (oneS k A x).size ≤ 100000 := by
  have h0 := getD_size hs 0
  have h1 := getD_size hs 1
  unfold oneS
  split
  · have := ch_len (trimT (A.getD 0 ⟨#[]⟩)) (trimT (A.getD 1 ⟨#[]⟩)) x
    have := trim_len (A.getD 0 ⟨#[]⟩)
    have := trim_len (A.getD 1 ⟨#[]⟩)
    omega
  · split
    · split
      · show 2 ≤ 100000; omega
      · rw [ByteArray.size_extract]; omega
    · split
      · rw [ByteArray.size_extract]; omega
      · split
        · rw [ByteArray.size_extract]; omega
        · split
          · rw [ByteArray.size_extract]; omega
          · split
            · rw [ByteArray.size_append]; omega
            · rw [ByteArray.size_append]; omega
theorem word_lim {p q : ByteArray} (hp : p.size ≤ 9000) (h : q ∈ wordsS p) : q.size ≤ 9000 := Nat.le_trans (words_size h) hp

set_option maxHeartbeats 8000000 in
theorem call2 (w : World) (v : Value) (A : List ByteArray) (hr : Rd w w.heap.size v (strsC A)) (hl : A.length = 1) (hs : ∀ p ∈ A, p.size ≤ 9000) : Calls Tryz.prog 15 #[.string ⟨#[115, 116, 114, 105, 112]⟩, v] w fun e w' => e = ansE (resS 2 A) ∧ Below w.heap.size w w' := by
  obtain ⟨a0, c0, rfl, _⟩ := hr.shape
  simp only [strsC_len] at hr ⊢
  obtain ⟨g, o, rfl, hn, hc, hg, hcell⟩ := rd_cell hr 0 (by omega)
  rw [hl] at hr hc ⊢
  have HR := Lib.hid hr
  have HT := Lib.hid fun W => takes2 W
  have hp0 := getD_size hs 0
  have HL := Lib.hid fun W => Rlist2_any W (A.getD 0 ⟨#[]⟩) (by omega)
  have hwl := words_few (A.getD 0 ⟨#[]⟩)
  have hcn := hcell 0 (by omega)
  rw [Nat.add_zero] at hcn
  have HE : Hid (resS 2 A = (joinS (wordsS (A.getD 0 ⟨#[]⟩)), 0)) := Lib.hid rfl
  have HS : Hid (∀ q ∈ wordsS (A.getD 0 ⟨#[]⟩), q.size ≤ 9000) := Lib.hid fun q hq => word_lim hp0 hq
  clear hcell hn hs hr
  generalize A.getD 0 ⟨#[]⟩ = p at *
  generalize wordsS p = L at *
  go_enter Tryz.func15, Tryz.ntmps15
  go_wp2_with fail
  refine (HT.out _).mono ?_
  rintro e w' ⟨rfl, rfl⟩
  go_wp2_with fail
  refine (HL.out _).mono ?_
  rintro e w1 ⟨a1, c1, rfl, HR1, B1⟩
  have HJ := Lib.hid (RJoin_any w1 _ L HR1.out (by omega) (fun q hq => by have := HS.out q hq; omega))
  have HB := Lib.hid B1
  clear B1 hcn
  go_wp2_with fail
  refine HJ.out.mono ?_
  rintro e w2 ⟨rfl, B2⟩
  go_wp2_with fail
  go_ret2
  rw [HE.out]
  exact ⟨rfl, HB.out.trans (B2.mono HB.out.size)⟩
set_option maxHeartbeats 8000000 in
theorem call8 (w : World) (v : Value) (A : List ByteArray) (hr : Rd w w.heap.size v (strsC A)) (hl : A.length = 1) (hs : ∀ p ∈ A, p.size ≤ 9000) : Calls Tryz.prog 15 #[.string ⟨#[119, 111, 114, 100, 115]⟩, v] w fun e w' => e = ansE (resS 8 A) ∧ Below w.heap.size w w' := by
  obtain ⟨a0, c0, rfl, _⟩ := hr.shape
  simp only [strsC_len] at hr ⊢
  obtain ⟨g, o, rfl, hn, hc, hg, hcell⟩ := rd_cell hr 0 (by omega)
  rw [hl] at hr hc ⊢
  have HR := Lib.hid hr
  have HT := Lib.hid fun W => takes8 W
  have hp0 := getD_size hs 0
  have HL := Lib.hid fun W => Rlist2_any W (A.getD 0 ⟨#[]⟩) (by omega)
  have hwl := words_few (A.getD 0 ⟨#[]⟩)
  have hcn := hcell 0 (by omega)
  rw [Nat.add_zero] at hcn
  have HE : Hid (resS 8 A = (str (Ep.digitsA (wordsS (A.getD 0 ⟨#[]⟩)).length), 0)) := Lib.hid rfl
  clear hcell hn hs hr
  generalize A.getD 0 ⟨#[]⟩ = p at *
  generalize wordsS p = L at *
  go_enter Tryz.func15, Tryz.ntmps15
  go_wp2_with fail
  refine (HT.out _).mono ?_
  rintro e w' ⟨rfl, rfl⟩
  go_wp2_with fail
  refine (HL.out _).mono ?_
  rintro e w1 ⟨a1, c1, rfl, HR1, B1⟩
  have HD := Lib.hid (Digits_any L.length (by omega) w1)
  have HB := Lib.hid B1
  clear B1 hcn
  go_wp2_with fail
  refine HD.out.mono ?_
  rintro e w2 ⟨rfl, rfl⟩
  go_wp2_with fail
  go_ret2
  rw [HE.out]
  exact ⟨rfl, HB.out⟩
set_option maxHeartbeats 8000000 in
theorem call6 (w : World) (v : Value) (A : List ByteArray) (hr : Rd w w.heap.size v (strsC A)) (hl : A.length = 1) (hs : ∀ p ∈ A, p.size ≤ 9000) : Calls Tryz.prog 15 #[.string ⟨#[115, 111, 114, 116]⟩, v] w fun e w' => e = ansE (resS 6 A) ∧ Below w.heap.size w w' := by
  obtain ⟨a0, c0, rfl, _⟩ := hr.shape
  simp only [strsC_len] at hr ⊢
  obtain ⟨g, o, rfl, hn, hc, hg, hcell⟩ := rd_cell hr 0 (by omega)
  rw [hl] at hr hc ⊢
  have HR := Lib.hid hr
  have HT := Lib.hid fun W => takes6 W
  have hp0 := getD_size hs 0
  have HL := Lib.hid fun W => Rlist2_any W (A.getD 0 ⟨#[]⟩) (by omega)
  have hwl := words_few (A.getD 0 ⟨#[]⟩)
  have hcn := hcell 0 (by omega)
  rw [Nat.add_zero] at hcn
  have HE : Hid (resS 6 A = (joinS (Wp.sortS (wordsS (A.getD 0 ⟨#[]⟩))), 0)) := Lib.hid rfl
  have HS : Hid (∀ q ∈ wordsS (A.getD 0 ⟨#[]⟩), q.size ≤ 9000) := Lib.hid fun q hq => word_lim hp0 hq
  clear hcell hn hs hr
  generalize A.getD 0 ⟨#[]⟩ = p at *
  generalize wordsS p = L at *
  go_enter Tryz.func15, Tryz.ntmps15
  go_wp2_with fail
  refine (HT.out _).mono ?_
  rintro e w' ⟨rfl, rfl⟩
  go_wp2_with fail
  refine (HL.out _).mono ?_
  rintro e w1 ⟨a1, c1, rfl, HR1, B1⟩
  have HJ := Lib.hid (Rsorted_any L.length L w1 _ (by omega) (by omega) HR1.out)
  have HB := Lib.hid B1
  clear B1 hcn
  go_wp2_with fail
  refine HJ.out.mono ?_
  rintro e w2 ⟨v2, rfl, hr2, B2⟩
  have HJ2 := Lib.hid (RJoin_any w2 v2 (Wp.sortS L) hr2 (by have := Wp.sort_len L; omega) (fun q hq => by have := HS.out q (Wp.sort_mem.1 hq); omega))
  have HB2 := Lib.hid (HB.out.trans (B2.mono HB.out.size))
  clear B2 hr2
  go_wp2_with fail
  refine HJ2.out.mono ?_
  rintro e w3 ⟨rfl, B3⟩
  go_wp2_with fail
  go_ret2
  rw [HE.out]
  exact ⟨rfl, HB2.out.trans (B3.mono HB2.out.size)⟩
set_option maxHeartbeats 8000000 in
theorem call10 (w : World) (v : Value) (A : List ByteArray) (hr : Rd w w.heap.size v (strsC A)) (hl : A.length = 1) (hs : ∀ p ∈ A, p.size ≤ 9000) : Calls Tryz.prog 15 #[.string ⟨#[102, 105, 114, 115, 116, 119, 111, 114, 100]⟩, v] w fun e w' => e = ansE (resS 10 A) ∧ Below w.heap.size w w' := by
  obtain ⟨a0, c0, rfl, _⟩ := hr.shape
  simp only [strsC_len] at hr ⊢
  obtain ⟨g, o, rfl, hn, hc, hg, hcell⟩ := rd_cell hr 0 (by omega)
  rw [hl] at hr hc ⊢
  have HR := Lib.hid hr
  have HT := Lib.hid fun W => takes10 W
  have hp0 := getD_size hs 0
  have HL := Lib.hid fun W => Rlist2_any W (A.getD 0 ⟨#[]⟩) (by omega)
  have hwl := words_few (A.getD 0 ⟨#[]⟩)
  have hcn := hcell 0 (by omega)
  rw [Nat.add_zero] at hcn
  have HE : Hid (resS 10 A = (joinS (someS (wordsS (A.getD 0 ⟨#[]⟩)) 1 1), 0)) := Lib.hid rfl
  have HS : Hid (∀ q ∈ wordsS (A.getD 0 ⟨#[]⟩), q.size ≤ 9000) := Lib.hid fun q hq => word_lim hp0 hq
  clear hcell hn hs hr
  generalize A.getD 0 ⟨#[]⟩ = p at *
  generalize wordsS p = L at *
  go_enter Tryz.func15, Tryz.ntmps15
  go_wp2_with fail
  refine (HT.out _).mono ?_
  rintro e w' ⟨rfl, rfl⟩
  go_wp2_with fail
  refine (HL.out _).mono ?_
  rintro e w1 ⟨a1, c1, rfl, HR1, B1⟩
  have HJ := Lib.hid (Rsome_any w1 _ L 1 1 HR1.out (by omega) (by omega) (by omega) (by omega))
  have HB := Lib.hid B1
  clear B1 hcn
  go_wp2_with fail
  refine HJ.out.mono ?_
  rintro e w2 ⟨v2, rfl, hr2, B2⟩
  have HJ2 := Lib.hid (RJoin_any w2 v2 (someS L 1 1) hr2 (by have := someS_len L 1 1; omega) (fun q hq => by have := HS.out q (List.mem_of_mem_take (List.mem_of_mem_drop hq)); omega))
  have HB2 := Lib.hid (HB.out.trans (B2.mono HB.out.size))
  clear B2 hr2
  go_wp2_with fail
  refine HJ2.out.mono ?_
  rintro e w3 ⟨rfl, B3⟩
  go_wp2_with fail
  go_ret2
  rw [HE.out]
  exact ⟨rfl, HB2.out.trans (B3.mono HB2.out.size)⟩
set_option maxHeartbeats 8000000 in
theorem call11 (w : World) (v : Value) (A : List ByteArray) (hr : Rd w w.heap.size v (strsC A)) (hl : A.length = 1) (hs : ∀ p ∈ A, p.size ≤ 9000) : Calls Tryz.prog 15 #[.string ⟨#[108, 97, 115, 116, 119, 111, 114, 100]⟩, v] w fun e w' => e = ansE (resS 11 A) ∧ Below w.heap.size w w' := by
  obtain ⟨a0, c0, rfl, _⟩ := hr.shape
  simp only [strsC_len] at hr ⊢
  obtain ⟨g, o, rfl, hn, hc, hg, hcell⟩ := rd_cell hr 0 (by omega)
  rw [hl] at hr hc ⊢
  have HR := Lib.hid hr
  have HT := Lib.hid fun W => takes11 W
  have hp0 := getD_size hs 0
  have HL := Lib.hid fun W => Rlist2_any W (A.getD 0 ⟨#[]⟩) (by omega)
  have hwl := words_few (A.getD 0 ⟨#[]⟩)
  have hcn := hcell 0 (by omega)
  rw [Nat.add_zero] at hcn
  have HE : Hid (resS 11 A = (joinS (someS (wordsS (A.getD 0 ⟨#[]⟩)) (max (wordsS (A.getD 0 ⟨#[]⟩)).length 1) (wordsS (A.getD 0 ⟨#[]⟩)).length), 0)) := Lib.hid rfl
  have HS : Hid (∀ q ∈ wordsS (A.getD 0 ⟨#[]⟩), q.size ≤ 9000) := Lib.hid fun q hq => word_lim hp0 hq
  clear hcell hn hs hr
  generalize A.getD 0 ⟨#[]⟩ = p at *
  generalize wordsS p = L at *
  go_enter Tryz.func15, Tryz.ntmps15
  go_wp2_with fail
  refine (HT.out _).mono ?_
  rintro e w' ⟨rfl, rfl⟩
  go_wp2_with fail
  refine (HL.out _).mono ?_
  rintro e w1 ⟨a1, c1, rfl, HR1, B1⟩
  have HJ := Lib.hid (Rsome_any w1 _ L (max L.length 1) L.length HR1.out (by omega) (by omega) (by omega) (by omega))
  have HB := Lib.hid B1
  clear B1 hcn
  have hmx : max (L.length : Int) 1 = ((max L.length 1 : Nat) : Int) := by omega
  obtain ⟨m, hm⟩ : ∃ m, max L.length 1 = m := ⟨_, rfl⟩
  rw [hm] at hmx HJ HE
  clear hm
  go_wp2_with fail
  refine HJ.out.mono ?_
  rintro e w2 ⟨v2, rfl, hr2, B2⟩
  have HJ2 := Lib.hid (RJoin_any w2 v2 (someS L m L.length) hr2 (by have := someS_len L m L.length; omega) (fun q hq => by have := HS.out q (List.mem_of_mem_take (List.mem_of_mem_drop hq)); omega))
  have HB2 := Lib.hid (HB.out.trans (B2.mono HB.out.size))
  clear B2 hr2
  go_wp2_with fail
  refine HJ2.out.mono ?_
  rintro e w3 ⟨rfl, B3⟩
  go_wp2_with fail
  go_ret2
  rw [HE.out]
  exact ⟨rfl, HB2.out.trans (B3.mono HB2.out.size)⟩
set_option maxHeartbeats 8000000 in
theorem call4 (w : World) (v : Value) (A : List ByteArray) (hr : Rd w w.heap.size v (strsC A)) (hl : A.length = 2) (hs : ∀ p ∈ A, p.size ≤ 9000) : Calls Tryz.prog 15 #[.string ⟨#[102, 105, 108, 116, 101, 114]⟩, v] w fun e w' => e = ansE (resS 4 A) ∧ Below w.heap.size w w' := by
  obtain ⟨a0, c0, rfl, _⟩ := hr.shape
  simp only [strsC_len] at hr ⊢
  obtain ⟨g, o, rfl, hn, hc, hg, hcell⟩ := rd_cell hr 0 (by omega)
  rw [hl] at hr hc ⊢
  have HR := Lib.hid hr
  have HT := Lib.hid fun W => takes4 W
  have hp0 := getD_size hs 0
  have hp1 := getD_size hs 1
  have HL := Lib.hid fun W => Rlist2_any W (A.getD 1 ⟨#[]⟩) (by omega)
  have hwl := words_few (A.getD 1 ⟨#[]⟩)
  have hcn := hcell 1 (by omega)
  have HE : Hid (resS 4 A = (joinS (keptS (wordsS (A.getD 0 ⟨#[]⟩)) true (wordsS (A.getD 1 ⟨#[]⟩))), 0)) := Lib.hid rfl
  have HK : Hid (∀ W, Below w.heap.size w W → Calls Tryz.prog 27 #[.slice (some ⟨g, o, none⟩) 2 c0, .bool true] W fun e w' => e = .returned (.string (joinS (keptS (wordsS (A.getD 0 ⟨#[]⟩)) true (wordsS (A.getD 1 ⟨#[]⟩))))) ∧ Below W.heap.size W w') := Lib.hid fun W hW => Rkept_any W _ A true ((hr.below hW).more hW.size) hl (fun p hp => by have := hs p hp; omega)
  clear hcell hn hs hr
  generalize joinS (keptS (wordsS (A.getD 0 ⟨#[]⟩)) true (wordsS (A.getD 1 ⟨#[]⟩))) = r at *
  generalize A.getD 1 ⟨#[]⟩ = p at *
  generalize wordsS p = L at *
  go_enter Tryz.func15, Tryz.ntmps15
  go_wp2_with fail
  refine (HT.out _).mono ?_
  rintro e w' ⟨rfl, rfl⟩
  go_wp2_with fail
  refine (HL.out _).mono ?_
  rintro e w1 ⟨a1, c1, rfl, HR1, B1⟩
  have HJ := Lib.hid (HK.out w1 B1)
  have HB := Lib.hid B1
  clear B1 hcn
  go_wp2_with fail
  refine HJ.out.mono ?_
  rintro e w2 ⟨rfl, B2⟩
  go_wp2_with fail
  go_ret2
  rw [HE.out]
  exact ⟨rfl, HB.out.trans (B2.mono HB.out.size)⟩
set_option maxHeartbeats 8000000 in
theorem call5 (w : World) (v : Value) (A : List ByteArray) (hr : Rd w w.heap.size v (strsC A)) (hl : A.length = 2) (hs : ∀ p ∈ A, p.size ≤ 9000) : Calls Tryz.prog 15 #[.string ⟨#[102, 105, 108, 116, 101, 114, 45, 111, 117, 116]⟩, v] w fun e w' => e = ansE (resS 5 A) ∧ Below w.heap.size w w' := by
  obtain ⟨a0, c0, rfl, _⟩ := hr.shape
  simp only [strsC_len] at hr ⊢
  obtain ⟨g, o, rfl, hn, hc, hg, hcell⟩ := rd_cell hr 0 (by omega)
  rw [hl] at hr hc ⊢
  have HR := Lib.hid hr
  have HT := Lib.hid fun W => takes5 W
  have hp0 := getD_size hs 0
  have hp1 := getD_size hs 1
  have HL := Lib.hid fun W => Rlist2_any W (A.getD 1 ⟨#[]⟩) (by omega)
  have hwl := words_few (A.getD 1 ⟨#[]⟩)
  have hcn := hcell 1 (by omega)
  have HE : Hid (resS 5 A = (joinS (keptS (wordsS (A.getD 0 ⟨#[]⟩)) false (wordsS (A.getD 1 ⟨#[]⟩))), 0)) := Lib.hid rfl
  have HK : Hid (∀ W, Below w.heap.size w W → Calls Tryz.prog 27 #[.slice (some ⟨g, o, none⟩) 2 c0, .bool false] W fun e w' => e = .returned (.string (joinS (keptS (wordsS (A.getD 0 ⟨#[]⟩)) false (wordsS (A.getD 1 ⟨#[]⟩))))) ∧ Below W.heap.size W w') := Lib.hid fun W hW => Rkept_any W _ A false ((hr.below hW).more hW.size) hl (fun p hp => by have := hs p hp; omega)
  clear hcell hn hs hr
  generalize joinS (keptS (wordsS (A.getD 0 ⟨#[]⟩)) false (wordsS (A.getD 1 ⟨#[]⟩))) = r at *
  generalize A.getD 1 ⟨#[]⟩ = p at *
  generalize wordsS p = L at *
  go_enter Tryz.func15, Tryz.ntmps15
  go_wp2_with fail
  refine (HT.out _).mono ?_
  rintro e w' ⟨rfl, rfl⟩
  go_wp2_with fail
  refine (HL.out _).mono ?_
  rintro e w1 ⟨a1, c1, rfl, HR1, B1⟩
  have HJ := Lib.hid (HK.out w1 B1)
  have HB := Lib.hid B1
  clear B1 hcn
  go_wp2_with fail
  refine HJ.out.mono ?_
  rintro e w2 ⟨rfl, B2⟩
  go_wp2_with fail
  go_ret2
  rw [HE.out]
  exact ⟨rfl, HB.out.trans (B2.mono HB.out.size)⟩
set_option maxHeartbeats 8000000 in
theorem call1 (w : World) (v : Value) (A : List ByteArray) (hr : Rd w w.heap.size v (strsC A)) (hl : A.length = 3) (hs : ∀ p ∈ A, p.size ≤ 9000) : Calls Tryz.prog 15 #[.string ⟨#[112, 97, 116, 115, 117, 98, 115, 116]⟩, v] w fun e w' => e = ansE (resS 1 A) ∧ Below w.heap.size w w' := by
  obtain ⟨a0, c0, rfl, _⟩ := hr.shape
  simp only [strsC_len] at hr ⊢
  obtain ⟨g, o, rfl, hn, hc, hg, hcell⟩ := rd_cell hr 0 (by omega)
  rw [hl] at hr hc ⊢
  have HR := Lib.hid hr
  have HT := Lib.hid fun W => takes1 W
  have hp0 := getD_size hs 0
  have hp1 := getD_size hs 1
  have hp2 := getD_size hs 2
  have HL := Lib.hid fun W => Rlist2_any W (A.getD 2 ⟨#[]⟩) (by omega)
  have hwl := words_few (A.getD 2 ⟨#[]⟩)
  have hcn := hcell 2 (by omega)
  have HE : Hid (resS 1 A = (joinS (eachS (oneS 1 A) (wordsS (A.getD 2 ⟨#[]⟩))), 0)) := Lib.hid rfl
  have HK : Hid (∀ W, Below w.heap.size w W → Calls Tryz.prog 33 #[.string ⟨#[112, 97, 116, 115, 117, 98, 115, 116]⟩, .slice (some ⟨g, o, none⟩) 3 c0] W fun e w' => e = .returned (.string (joinS (eachS (oneS 1 A) (wordsS (A.getD 2 ⟨#[]⟩))))) ∧ Below W.heap.size W w') := Lib.hid fun V hV => Reach_gen V _ A _ (oneS 1 A) 2 ((hr.below hV).more hV.size) hl (by omega) (fun p hp => by have := hs p hp; omega)
    (fun W hW2 x hx => by have hW := hV.trans (hW2.mono hV.size); exact one1 W _ A x (by omega) ((hr.below hW).more hW.size) hl (fun p hp => by have := hs p hp; omega)) (fun x hx => one_size 1 A x (fun p hp => by have := hs p hp; omega) hx)
  clear hcell hn hs hr
  generalize joinS (eachS (oneS 1 A) (wordsS (A.getD 2 ⟨#[]⟩))) = r at *
  generalize A.getD 2 ⟨#[]⟩ = p at *
  generalize wordsS p = L at *
  go_enter Tryz.func15, Tryz.ntmps15
  go_wp2_with fail
  refine (HT.out _).mono ?_
  rintro e w' ⟨rfl, rfl⟩
  go_wp2_with fail
  refine (HL.out _).mono ?_
  rintro e w1 ⟨a1, c1, rfl, HR1, B1⟩
  have HJ := Lib.hid (HK.out w1 B1)
  have HB := Lib.hid B1
  clear B1 hcn
  go_wp2_with fail
  refine HJ.out.mono ?_
  rintro e w2 ⟨rfl, B2⟩
  go_wp2_with fail
  go_ret2
  rw [HE.out]
  exact ⟨rfl, HB.out.trans (B2.mono HB.out.size)⟩
set_option maxHeartbeats 8000000 in
theorem call12 (w : World) (v : Value) (A : List ByteArray) (hr : Rd w w.heap.size v (strsC A)) (hl : A.length = 1) (hs : ∀ p ∈ A, p.size ≤ 9000) : Calls Tryz.prog 15 #[.string ⟨#[100, 105, 114]⟩, v] w fun e w' => e = ansE (resS 12 A) ∧ Below w.heap.size w w' := by
  obtain ⟨a0, c0, rfl, _⟩ := hr.shape
  simp only [strsC_len] at hr ⊢
  obtain ⟨g, o, rfl, hn, hc, hg, hcell⟩ := rd_cell hr 0 (by omega)
  rw [hl] at hr hc ⊢
  have HR := Lib.hid hr
  have HT := Lib.hid fun W => takes12 W
  have hp0 := getD_size hs 0
  have HL := Lib.hid fun W => Rlist2_any W (A.getD 0 ⟨#[]⟩) (by omega)
  have hwl := words_few (A.getD 0 ⟨#[]⟩)
  have hcn := hcell 0 (by omega)
  rw [Nat.add_zero] at hcn
  have HE : Hid (resS 12 A = (joinS (eachS (oneS 12 A) (wordsS (A.getD 0 ⟨#[]⟩))), 0)) := Lib.hid rfl
  have HK : Hid (∀ W, Below w.heap.size w W → Calls Tryz.prog 33 #[.string ⟨#[100, 105, 114]⟩, .slice (some ⟨g, o, none⟩) 1 c0] W fun e w' => e = .returned (.string (joinS (eachS (oneS 12 A) (wordsS (A.getD 0 ⟨#[]⟩))))) ∧ Below W.heap.size W w') := Lib.hid fun V hV => Reach_gen V _ A _ (oneS 12 A) 0 ((hr.below hV).more hV.size) hl (by omega) (fun p hp => by have := hs p hp; omega)
    (fun W hW2 x hx => by have hW := hV.trans (hW2.mono hV.size); exact one12 W _ A x (by omega)) (fun x hx => one_size 12 A x (fun p hp => by have := hs p hp; omega) hx)
  clear hcell hn hs hr
  generalize joinS (eachS (oneS 12 A) (wordsS (A.getD 0 ⟨#[]⟩))) = r at *
  generalize A.getD 0 ⟨#[]⟩ = p at *
  generalize wordsS p = L at *
  go_enter Tryz.func15, Tryz.ntmps15
  go_wp2_with fail
  refine (HT.out _).mono ?_
  rintro e w' ⟨rfl, rfl⟩
  go_wp2_with fail
  refine (HL.out _).mono ?_
  rintro e w1 ⟨a1, c1, rfl, HR1, B1⟩
  have HJ := Lib.hid (HK.out w1 B1)
  have HB := Lib.hid B1
  clear B1 hcn
  go_wp2_with fail
  refine HJ.out.mono ?_
  rintro e w2 ⟨rfl, B2⟩
  go_wp2_with fail
  go_ret2
  rw [HE.out]
  exact ⟨rfl, HB.out.trans (B2.mono HB.out.size)⟩
set_option maxHeartbeats 8000000 in
theorem call13 (w : World) (v : Value) (A : List ByteArray) (hr : Rd w w.heap.size v (strsC A)) (hl : A.length = 1) (hs : ∀ p ∈ A, p.size ≤ 9000) : Calls Tryz.prog 15 #[.string ⟨#[110, 111, 116, 100, 105, 114]⟩, v] w fun e w' => e = ansE (resS 13 A) ∧ Below w.heap.size w w' := by
  obtain ⟨a0, c0, rfl, _⟩ := hr.shape
  simp only [strsC_len] at hr ⊢
  obtain ⟨g, o, rfl, hn, hc, hg, hcell⟩ := rd_cell hr 0 (by omega)
  rw [hl] at hr hc ⊢
  have HR := Lib.hid hr
  have HT := Lib.hid fun W => takes13 W
  have hp0 := getD_size hs 0
  have HL := Lib.hid fun W => Rlist2_any W (A.getD 0 ⟨#[]⟩) (by omega)
  have hwl := words_few (A.getD 0 ⟨#[]⟩)
  have hcn := hcell 0 (by omega)
  rw [Nat.add_zero] at hcn
  have HE : Hid (resS 13 A = (joinS (eachS (oneS 13 A) (wordsS (A.getD 0 ⟨#[]⟩))), 0)) := Lib.hid rfl
  have HK : Hid (∀ W, Below w.heap.size w W → Calls Tryz.prog 33 #[.string ⟨#[110, 111, 116, 100, 105, 114]⟩, .slice (some ⟨g, o, none⟩) 1 c0] W fun e w' => e = .returned (.string (joinS (eachS (oneS 13 A) (wordsS (A.getD 0 ⟨#[]⟩))))) ∧ Below W.heap.size W w') := Lib.hid fun V hV => Reach_gen V _ A _ (oneS 13 A) 0 ((hr.below hV).more hV.size) hl (by omega) (fun p hp => by have := hs p hp; omega)
    (fun W hW2 x hx => by have hW := hV.trans (hW2.mono hV.size); exact one13 W _ A x (by omega)) (fun x hx => one_size 13 A x (fun p hp => by have := hs p hp; omega) hx)
  clear hcell hn hs hr
  generalize joinS (eachS (oneS 13 A) (wordsS (A.getD 0 ⟨#[]⟩))) = r at *
  generalize A.getD 0 ⟨#[]⟩ = p at *
  generalize wordsS p = L at *
  go_enter Tryz.func15, Tryz.ntmps15
  go_wp2_with fail
  refine (HT.out _).mono ?_
  rintro e w' ⟨rfl, rfl⟩
  go_wp2_with fail
  refine (HL.out _).mono ?_
  rintro e w1 ⟨a1, c1, rfl, HR1, B1⟩
  have HJ := Lib.hid (HK.out w1 B1)
  have HB := Lib.hid B1
  clear B1 hcn
  go_wp2_with fail
  refine HJ.out.mono ?_
  rintro e w2 ⟨rfl, B2⟩
  go_wp2_with fail
  go_ret2
  rw [HE.out]
  exact ⟨rfl, HB.out.trans (B2.mono HB.out.size)⟩
set_option maxHeartbeats 8000000 in
theorem call14 (w : World) (v : Value) (A : List ByteArray) (hr : Rd w w.heap.size v (strsC A)) (hl : A.length = 1) (hs : ∀ p ∈ A, p.size ≤ 9000) : Calls Tryz.prog 15 #[.string ⟨#[115, 117, 102, 102, 105, 120]⟩, v] w fun e w' => e = ansE (resS 14 A) ∧ Below w.heap.size w w' := by
  obtain ⟨a0, c0, rfl, _⟩ := hr.shape
  simp only [strsC_len] at hr ⊢
  obtain ⟨g, o, rfl, hn, hc, hg, hcell⟩ := rd_cell hr 0 (by omega)
  rw [hl] at hr hc ⊢
  have HR := Lib.hid hr
  have HT := Lib.hid fun W => takes14 W
  have hp0 := getD_size hs 0
  have HL := Lib.hid fun W => Rlist2_any W (A.getD 0 ⟨#[]⟩) (by omega)
  have hwl := words_few (A.getD 0 ⟨#[]⟩)
  have hcn := hcell 0 (by omega)
  rw [Nat.add_zero] at hcn
  have HE : Hid (resS 14 A = (joinS (eachS (oneS 14 A) (wordsS (A.getD 0 ⟨#[]⟩))), 0)) := Lib.hid rfl
  have HK : Hid (∀ W, Below w.heap.size w W → Calls Tryz.prog 33 #[.string ⟨#[115, 117, 102, 102, 105, 120]⟩, .slice (some ⟨g, o, none⟩) 1 c0] W fun e w' => e = .returned (.string (joinS (eachS (oneS 14 A) (wordsS (A.getD 0 ⟨#[]⟩))))) ∧ Below W.heap.size W w') := Lib.hid fun V hV => Reach_gen V _ A _ (oneS 14 A) 0 ((hr.below hV).more hV.size) hl (by omega) (fun p hp => by have := hs p hp; omega)
    (fun W hW2 x hx => by have hW := hV.trans (hW2.mono hV.size); exact one14 W _ A x (by omega)) (fun x hx => one_size 14 A x (fun p hp => by have := hs p hp; omega) hx)
  clear hcell hn hs hr
  generalize joinS (eachS (oneS 14 A) (wordsS (A.getD 0 ⟨#[]⟩))) = r at *
  generalize A.getD 0 ⟨#[]⟩ = p at *
  generalize wordsS p = L at *
  go_enter Tryz.func15, Tryz.ntmps15
  go_wp2_with fail
  refine (HT.out _).mono ?_
  rintro e w' ⟨rfl, rfl⟩
  go_wp2_with fail
  refine (HL.out _).mono ?_
  rintro e w1 ⟨a1, c1, rfl, HR1, B1⟩
  have HJ := Lib.hid (HK.out w1 B1)
  have HB := Lib.hid B1
  clear B1 hcn
  go_wp2_with fail
  refine HJ.out.mono ?_
  rintro e w2 ⟨rfl, B2⟩
  go_wp2_with fail
  go_ret2
  rw [HE.out]
  exact ⟨rfl, HB.out.trans (B2.mono HB.out.size)⟩
set_option maxHeartbeats 8000000 in
theorem call15 (w : World) (v : Value) (A : List ByteArray) (hr : Rd w w.heap.size v (strsC A)) (hl : A.length = 1) (hs : ∀ p ∈ A, p.size ≤ 9000) : Calls Tryz.prog 15 #[.string ⟨#[98, 97, 115, 101, 110, 97, 109, 101]⟩, v] w fun e w' => e = ansE (resS 15 A) ∧ Below w.heap.size w w' := by
  obtain ⟨a0, c0, rfl, _⟩ := hr.shape
  simp only [strsC_len] at hr ⊢
  obtain ⟨g, o, rfl, hn, hc, hg, hcell⟩ := rd_cell hr 0 (by omega)
  rw [hl] at hr hc ⊢
  have HR := Lib.hid hr
  have HT := Lib.hid fun W => takes15 W
  have hp0 := getD_size hs 0
  have HL := Lib.hid fun W => Rlist2_any W (A.getD 0 ⟨#[]⟩) (by omega)
  have hwl := words_few (A.getD 0 ⟨#[]⟩)
  have hcn := hcell 0 (by omega)
  rw [Nat.add_zero] at hcn
  have HE : Hid (resS 15 A = (joinS (eachS (oneS 15 A) (wordsS (A.getD 0 ⟨#[]⟩))), 0)) := Lib.hid rfl
  have HK : Hid (∀ W, Below w.heap.size w W → Calls Tryz.prog 33 #[.string ⟨#[98, 97, 115, 101, 110, 97, 109, 101]⟩, .slice (some ⟨g, o, none⟩) 1 c0] W fun e w' => e = .returned (.string (joinS (eachS (oneS 15 A) (wordsS (A.getD 0 ⟨#[]⟩))))) ∧ Below W.heap.size W w') := Lib.hid fun V hV => Reach_gen V _ A _ (oneS 15 A) 0 ((hr.below hV).more hV.size) hl (by omega) (fun p hp => by have := hs p hp; omega)
    (fun W hW2 x hx => by have hW := hV.trans (hW2.mono hV.size); exact one15 W _ A x (by omega)) (fun x hx => one_size 15 A x (fun p hp => by have := hs p hp; omega) hx)
  clear hcell hn hs hr
  generalize joinS (eachS (oneS 15 A) (wordsS (A.getD 0 ⟨#[]⟩))) = r at *
  generalize A.getD 0 ⟨#[]⟩ = p at *
  generalize wordsS p = L at *
  go_enter Tryz.func15, Tryz.ntmps15
  go_wp2_with fail
  refine (HT.out _).mono ?_
  rintro e w' ⟨rfl, rfl⟩
  go_wp2_with fail
  refine (HL.out _).mono ?_
  rintro e w1 ⟨a1, c1, rfl, HR1, B1⟩
  have HJ := Lib.hid (HK.out w1 B1)
  have HB := Lib.hid B1
  clear B1 hcn
  go_wp2_with fail
  refine HJ.out.mono ?_
  rintro e w2 ⟨rfl, B2⟩
  go_wp2_with fail
  go_ret2
  rw [HE.out]
  exact ⟨rfl, HB.out.trans (B2.mono HB.out.size)⟩
set_option maxHeartbeats 8000000 in
theorem call16 (w : World) (v : Value) (A : List ByteArray) (hr : Rd w w.heap.size v (strsC A)) (hl : A.length = 2) (hs : ∀ p ∈ A, p.size ≤ 9000) : Calls Tryz.prog 15 #[.string ⟨#[97, 100, 100, 112, 114, 101, 102, 105, 120]⟩, v] w fun e w' => e = ansE (resS 16 A) ∧ Below w.heap.size w w' := by
  obtain ⟨a0, c0, rfl, _⟩ := hr.shape
  simp only [strsC_len] at hr ⊢
  obtain ⟨g, o, rfl, hn, hc, hg, hcell⟩ := rd_cell hr 0 (by omega)
  rw [hl] at hr hc ⊢
  have HR := Lib.hid hr
  have HT := Lib.hid fun W => takes16 W
  have hp0 := getD_size hs 0
  have hp1 := getD_size hs 1
  have HL := Lib.hid fun W => Rlist2_any W (A.getD 1 ⟨#[]⟩) (by omega)
  have hwl := words_few (A.getD 1 ⟨#[]⟩)
  have hcn := hcell 1 (by omega)
  have HE : Hid (resS 16 A = (joinS (eachS (oneS 16 A) (wordsS (A.getD 1 ⟨#[]⟩))), 0)) := Lib.hid rfl
  have HK : Hid (∀ W, Below w.heap.size w W → Calls Tryz.prog 33 #[.string ⟨#[97, 100, 100, 112, 114, 101, 102, 105, 120]⟩, .slice (some ⟨g, o, none⟩) 2 c0] W fun e w' => e = .returned (.string (joinS (eachS (oneS 16 A) (wordsS (A.getD 1 ⟨#[]⟩))))) ∧ Below W.heap.size W w') := Lib.hid fun V hV => Reach_gen V _ A _ (oneS 16 A) 1 ((hr.below hV).more hV.size) hl (by omega) (fun p hp => by have := hs p hp; omega)
    (fun W hW2 x hx => by have hW := hV.trans (hW2.mono hV.size); exact one16 W _ A x (by omega) ((hr.below hW).more hW.size) hl (fun p hp => by have := hs p hp; omega)) (fun x hx => one_size 16 A x (fun p hp => by have := hs p hp; omega) hx)
  clear hcell hn hs hr
  generalize joinS (eachS (oneS 16 A) (wordsS (A.getD 1 ⟨#[]⟩))) = r at *
  generalize A.getD 1 ⟨#[]⟩ = p at *
  generalize wordsS p = L at *
  go_enter Tryz.func15, Tryz.ntmps15
  go_wp2_with fail
  refine (HT.out _).mono ?_
  rintro e w' ⟨rfl, rfl⟩
  go_wp2_with fail
  refine (HL.out _).mono ?_
  rintro e w1 ⟨a1, c1, rfl, HR1, B1⟩
  have HJ := Lib.hid (HK.out w1 B1)
  have HB := Lib.hid B1
  clear B1 hcn
  go_wp2_with fail
  refine HJ.out.mono ?_
  rintro e w2 ⟨rfl, B2⟩
  go_wp2_with fail
  go_ret2
  rw [HE.out]
  exact ⟨rfl, HB.out.trans (B2.mono HB.out.size)⟩
set_option maxHeartbeats 8000000 in
theorem call17 (w : World) (v : Value) (A : List ByteArray) (hr : Rd w w.heap.size v (strsC A)) (hl : A.length = 2) (hs : ∀ p ∈ A, p.size ≤ 9000) : Calls Tryz.prog 15 #[.string ⟨#[97, 100, 100, 115, 117, 102, 102, 105, 120]⟩, v] w fun e w' => e = ansE (resS 17 A) ∧ Below w.heap.size w w' := by
  obtain ⟨a0, c0, rfl, _⟩ := hr.shape
  simp only [strsC_len] at hr ⊢
  obtain ⟨g, o, rfl, hn, hc, hg, hcell⟩ := rd_cell hr 0 (by omega)
  rw [hl] at hr hc ⊢
  have HR := Lib.hid hr
  have HT := Lib.hid fun W => takes17 W
  have hp0 := getD_size hs 0
  have hp1 := getD_size hs 1
  have HL := Lib.hid fun W => Rlist2_any W (A.getD 1 ⟨#[]⟩) (by omega)
  have hwl := words_few (A.getD 1 ⟨#[]⟩)
  have hcn := hcell 1 (by omega)
  have HE : Hid (resS 17 A = (joinS (eachS (oneS 17 A) (wordsS (A.getD 1 ⟨#[]⟩))), 0)) := Lib.hid rfl
  have HK : Hid (∀ W, Below w.heap.size w W → Calls Tryz.prog 33 #[.string ⟨#[97, 100, 100, 115, 117, 102, 102, 105, 120]⟩, .slice (some ⟨g, o, none⟩) 2 c0] W fun e w' => e = .returned (.string (joinS (eachS (oneS 17 A) (wordsS (A.getD 1 ⟨#[]⟩))))) ∧ Below W.heap.size W w') := Lib.hid fun V hV => Reach_gen V _ A _ (oneS 17 A) 1 ((hr.below hV).more hV.size) hl (by omega) (fun p hp => by have := hs p hp; omega)
    (fun W hW2 x hx => by have hW := hV.trans (hW2.mono hV.size); exact one17 W _ A x (by omega) ((hr.below hW).more hW.size) hl (fun p hp => by have := hs p hp; omega)) (fun x hx => one_size 17 A x (fun p hp => by have := hs p hp; omega) hx)
  clear hcell hn hs hr
  generalize joinS (eachS (oneS 17 A) (wordsS (A.getD 1 ⟨#[]⟩))) = r at *
  generalize A.getD 1 ⟨#[]⟩ = p at *
  generalize wordsS p = L at *
  go_enter Tryz.func15, Tryz.ntmps15
  go_wp2_with fail
  refine (HT.out _).mono ?_
  rintro e w' ⟨rfl, rfl⟩
  go_wp2_with fail
  refine (HL.out _).mono ?_
  rintro e w1 ⟨a1, c1, rfl, HR1, B1⟩
  have HJ := Lib.hid (HK.out w1 B1)
  have HB := Lib.hid B1
  clear B1 hcn
  go_wp2_with fail
  refine HJ.out.mono ?_
  rintro e w2 ⟨rfl, B2⟩
  go_wp2_with fail
  go_ret2
  rw [HE.out]
  exact ⟨rfl, HB.out.trans (B2.mono HB.out.size)⟩
set_option maxHeartbeats 8000000 in
theorem call18 (w : World) (v : Value) (A : List ByteArray) (hr : Rd w w.heap.size v (strsC A)) (hl : A.length = 2) (hs : ∀ p ∈ A, p.size ≤ 9000) : Calls Tryz.prog 15 #[.string ⟨#[106, 111, 105, 110]⟩, v] w fun e w' => e = ansE (resS 18 A) ∧ Below w.heap.size w w' := by
  obtain ⟨a0, c0, rfl, _⟩ := hr.shape
  simp only [strsC_len] at hr ⊢
  obtain ⟨g, o, rfl, hn, hc, hg, hcell⟩ := rd_cell hr 0 (by omega)
  rw [hl] at hr hc ⊢
  have HR := Lib.hid hr
  have HT := Lib.hid fun W => takes18 W
  have hp0 := getD_size hs 0
  have hp1 := getD_size hs 1
  have HL := Lib.hid fun W => Rlist2_any W (A.getD 1 ⟨#[]⟩) (by omega)
  have hwl := words_few (A.getD 1 ⟨#[]⟩)
  have hcn := hcell 1 (by omega)
  have HE : Hid (resS 18 A = (joinS (pairsS (wordsS (A.getD 0 ⟨#[]⟩)) (wordsS (A.getD 1 ⟨#[]⟩))), 0)) := Lib.hid rfl
  have HS : Hid (∀ q ∈ wordsS (A.getD 0 ⟨#[]⟩), q.size ≤ 9000) := Lib.hid fun q hq => word_lim hp0 hq
  have HS1 : Hid (∀ q ∈ wordsS (A.getD 1 ⟨#[]⟩), q.size ≤ 9000) := Lib.hid fun q hq => word_lim hp1 hq
  have HL0 := Lib.hid fun W => Rlist2_any W (A.getD 0 ⟨#[]⟩) (by omega)
  have hwl0 := words_few (A.getD 0 ⟨#[]⟩)
  have hcm := hcell 0 (by omega)
  rw [Nat.add_zero] at hcm
  clear hcell hn hs hr
  generalize A.getD 1 ⟨#[]⟩ = p at *
  generalize A.getD 0 ⟨#[]⟩ = p0 at *
  generalize wordsS p = L at *
  generalize wordsS p0 = L0 at *
  go_enter Tryz.func15, Tryz.ntmps15
  go_wp2_with fail
  refine (HT.out _).mono ?_
  rintro e w' ⟨rfl, rfl⟩
  go_wp2_with fail
  refine (HL.out _).mono ?_
  rintro e w1 ⟨a1, c1, rfl, HR1, B1⟩
  have hcm1 := (B1.cell (p := ⟨g, o, none⟩) hg).trans hcm
  have HB := Lib.hid B1
  clear B1 hcn hcm
  go_wp2_with fail
  refine (HL0.out _).mono ?_
  rintro e w2 ⟨a2, c2, rfl, HR2, B2⟩
  have HJ := Lib.hid (Rjoined_any w2 _ _ L0 L HR2.out ((HR1.out.below B2).more B2.size) (by omega) (by omega) (fun q hq => by have := HS.out q hq; omega) (fun q hq => by have := HS1.out q hq; omega))
  have HB2 := Lib.hid (HB.out.trans (B2.mono HB.out.size))
  clear B2
  go_wp2_with fail
  refine HJ.out.mono ?_
  rintro e w3 ⟨rfl, B3⟩
  go_wp2_with fail
  go_ret2
  rw [HE.out]
  exact ⟨rfl, HB2.out.trans (B3.mono HB2.out.size)⟩
end Go.Proofs.YtenokbceamcekaaGreatDoor.Ew
namespace Go.Proofs.YtenokbceamcekaaGreatDoor.Ew
open Go.RowKit Go.Proofs.YtenokbceamcekaaGreatDoor Go.Proofs.YtenokbceamcekaaGreatDoor.Ww Go.Proofs.YtenokbceamcekaaGreatDoor.Tw
set_option maxRecDepth 100000

theorem numS_le {p : ByteArray} {m : Nat} (h : numS p = some m) : m ≤ 1073741824 := Ep.numA_le h
theorem numI_some (m : Nat) : numI (some m) = (m : Int) := rfl
theorem pick_bad1 {a b : Option Nat} {L : List ByteArray} (h : numI a < 1) : pickS a b L = (⟨#[]⟩, 1) := if_pos (.inl h)
theorem pick_bad2 {a b : Option Nat} {L : List ByteArray} (h : numI b < 0) : pickS a b L = (⟨#[]⟩, 1) := if_pos (.inr h)
theorem pick_good {a b : Nat} {L : List ByteArray} (h : 1 ≤ a) : pickS (some a) (some b) L = (joinS (someS L a b), 0) := if_neg (by
  rw [numI_some, numI_some]; omega)
set_option maxHeartbeats 8000000 in
theorem call0 (w : World) (v : Value) (A : List ByteArray) (hr : Rd w w.heap.size v (strsC A)) (hl : A.length = 3) (hs : ∀ p ∈ A, p.size ≤ 9000) : Calls Tryz.prog 15 #[.string ⟨#[115, 117, 98, 115, 116]⟩, v] w fun e w' => e = ansE (resS 0 A) ∧ Below w.heap.size w w' := by
  obtain ⟨a0, c0, rfl, _⟩ := hr.shape
  simp only [strsC_len] at hr ⊢
  obtain ⟨g, o, rfl, hn, hc, hg, hcell⟩ := rd_cell hr 0 (by omega)
  rw [hl] at hr hc ⊢
  have HR := Lib.hid hr
  have HT := Lib.hid fun W => takes0 W
  have hp0 := getD_size hs 0
  have hp1 := getD_size hs 1
  have hp2 := getD_size hs 2
  have HL := Lib.hid fun W => Rlist2_any W (A.getD 2 ⟨#[]⟩) (by omega)
  have hwl := words_few (A.getD 2 ⟨#[]⟩)
  have hcn := hcell 2 (by omega)
  have HE : Hid (resS 0 A = (str (Ep.substA (by8 (A.getD 0 ⟨#[]⟩)) (by8 (A.getD 1 ⟨#[]⟩)) (by8 (A.getD 2 ⟨#[]⟩))), 0)) := Lib.hid rfl
  have hcm := hcell 0 (by omega)
  rw [Nat.add_zero] at hcm
  have hcm1 := hcell 1 (by omega)
  have HC : Hid (∀ W, Calls Tryz.prog 25 #[.string (A.getD 0 ⟨#[]⟩), .string (A.getD 1 ⟨#[]⟩), .string (A.getD 2 ⟨#[]⟩)] W fun e w' => e = .returned (.string (str (Ep.substA (by8 (A.getD 0 ⟨#[]⟩)) (by8 (A.getD 1 ⟨#[]⟩)) (by8 (A.getD 2 ⟨#[]⟩))))) ∧ Below W.heap.size W w') := Lib.hid fun W => Rsubst_any W _ _ _ (by omega) (by omega) (by omega)
  clear hcell hn hs hr
  generalize str (Ep.substA (by8 (A.getD 0 ⟨#[]⟩)) (by8 (A.getD 1 ⟨#[]⟩)) (by8 (A.getD 2 ⟨#[]⟩))) = r at *
  generalize A.getD 2 ⟨#[]⟩ = p at *
  generalize A.getD 0 ⟨#[]⟩ = p0 at *
  generalize A.getD 1 ⟨#[]⟩ = p1 at *
  generalize wordsS p = L at *
  go_enter Tryz.func15, Tryz.ntmps15
  go_wp2_with fail
  refine (HT.out _).mono ?_
  rintro e w' ⟨rfl, rfl⟩
  go_wp2_with fail
  refine (HL.out _).mono ?_
  rintro e w1 ⟨a1, c1, rfl, HR1, B1⟩
  have HB := Lib.hid B1
  have hg1 : g < w1.heap.size := Nat.lt_of_lt_of_le hg B1.size
  have S5 : (w1.drew.cell? ⟨g, o, none⟩ = some (.string p0) ∧ w1.drew.cell? ⟨g, o + 1, none⟩ = some (.string p1)) ∧ w1.drew.cell? ⟨g, o + 2, none⟩ = some (.string p) ∧ Below w1.heap.size w1 w1.drew := ⟨⟨(B1.cell (p := ⟨g, o, none⟩) hg).trans hcm, (B1.cell (p := ⟨g, o + 1, none⟩) hg).trans hcm1⟩, (B1.cell (p := ⟨g, o + 2, none⟩) hg).trans hcn, (Below.refl _ _).drew⟩
  clear B1 hcn hcm hcm1
  go_wp2_with fail
  go_region_held3 (fun W => (W.cell? ⟨g, o, none⟩ = some (.string p0) ∧ W.cell? ⟨g, o + 1, none⟩ = some (.string p1)) ∧ W.cell? ⟨g, o + 2, none⟩ = some (.string p) ∧ Below w1.heap.size w1 W)
    (first | exact S7 | exact S5)
    (first
      | (go_at_call 25; refine (HC.out _).mono ?_; rintro e w7 ⟨rfl, B7⟩; have S7 := (⟨⟨(B7.cell (p := ⟨g, o, none⟩) (Nat.lt_of_lt_of_le hg1 S5.2.2.size)).trans S5.1.1, (B7.cell (p := ⟨g, o + 1, none⟩) (Nat.lt_of_lt_of_le hg1 S5.2.2.size)).trans S5.1.2⟩, (B7.cell (p := ⟨g, o + 2, none⟩) (Nat.lt_of_lt_of_le hg1 S5.2.2.size)).trans S5.2.1, S5.2.2.trans (B7.mono S5.2.2.size)⟩ : (w7.cell? ⟨g, o, none⟩ = some (.string p0) ∧ w7.cell? ⟨g, o + 1, none⟩ = some (.string p1)) ∧ w7.cell? ⟨g, o + 2, none⟩ = some (.string p) ∧ Below w1.heap.size w1 w7)))
  all_goals go_wp2_with fail
  all_goals go_ret2
  all_goals (rw [HE.out]; exact ⟨rfl, HB.out.trans (S7.2.2.mono HB.out.size)⟩)
set_option maxHeartbeats 8000000 in
theorem call3 (w : World) (v : Value) (A : List ByteArray) (hr : Rd w w.heap.size v (strsC A)) (hl : A.length = 2) (hs : ∀ p ∈ A, p.size ≤ 9000) : Calls Tryz.prog 15 #[.string ⟨#[102, 105, 110, 100, 115, 116, 114, 105, 110, 103]⟩, v] w fun e w' => e = ansE (resS 3 A) ∧ Below w.heap.size w w' := by
  obtain ⟨a0, c0, rfl, _⟩ := hr.shape
  simp only [strsC_len] at hr ⊢
  obtain ⟨g, o, rfl, hn, hc, hg, hcell⟩ := rd_cell hr 0 (by omega)
  rw [hl] at hr hc ⊢
  have HR := Lib.hid hr
  have HT := Lib.hid fun W => takes3 W
  have hp0 := getD_size hs 0
  have hp1 := getD_size hs 1
  have HL := Lib.hid fun W => Rlist2_any W (A.getD 1 ⟨#[]⟩) (by omega)
  have hwl := words_few (A.getD 1 ⟨#[]⟩)
  have hcn := hcell 1 (by omega)
  have HE : Hid (resS 3 A = (if Ep.insideA (by8 (A.getD 0 ⟨#[]⟩)) (by8 (A.getD 1 ⟨#[]⟩)) = true then A.getD 0 ⟨#[]⟩ else ⟨#[]⟩, 0)) := Lib.hid rfl
  have hcm := hcell 0 (by omega)
  rw [Nat.add_zero] at hcm
  have HC := Lib.hid fun W => Rinside_any W (A.getD 0 ⟨#[]⟩) (A.getD 1 ⟨#[]⟩) (by omega) (by omega)
  clear hcell hn hs hr
  generalize A.getD 1 ⟨#[]⟩ = p at *
  generalize A.getD 0 ⟨#[]⟩ = p0 at *
  generalize wordsS p = L at *
  generalize Ep.insideA (by8 p0) (by8 p) = q at *
  go_enter Tryz.func15, Tryz.ntmps15
  go_wp2_with fail
  refine (HT.out _).mono ?_
  rintro e w' ⟨rfl, rfl⟩
  go_wp2_with fail
  refine (HL.out _).mono ?_
  rintro e w1 ⟨a1, c1, rfl, HR1, B1⟩
  have HB := Lib.hid B1
  have S5 : w1.drew.cell? ⟨g, o, none⟩ = some (.string p0) ∧ w1.drew.cell? ⟨g, o + 1, none⟩ = some (.string p) ∧ Below w1.heap.size w1 w1.drew := ⟨(B1.cell (p := ⟨g, o, none⟩) hg).trans hcm, (B1.cell (p := ⟨g, o + 1, none⟩) hg).trans hcn, (Below.refl _ _).drew⟩
  clear B1 hcn hcm
  cases q
  all_goals go_wp2_with fail
  all_goals go_region_held3 (fun W => W.cell? ⟨g, o, none⟩ = some (.string p0) ∧ W.cell? ⟨g, o + 1, none⟩ = some (.string p) ∧ Below w1.heap.size w1 W)
    (first | exact S5)
    (first
      | (go_at_call 26; refine (HC.out _).mono ?_; rintro e w7 ⟨rfl, rfl⟩))
  all_goals have hcx := S5.1
  all_goals go_wp2_with fail
  all_goals go_ret2
  all_goals (rw [HE.out]; exact ⟨rfl, HB.out.trans (S5.2.2.mono HB.out.size)⟩)
set_option maxHeartbeats 8000000 in
theorem call7 (w : World) (v : Value) (A : List ByteArray) (hr : Rd w w.heap.size v (strsC A)) (hl : A.length = 2) (hs : ∀ p ∈ A, p.size ≤ 9000) : Calls Tryz.prog 15 #[.string ⟨#[119, 111, 114, 100]⟩, v] w fun e w' => e = ansE (resS 7 A) ∧ Below w.heap.size w w' := by
  obtain ⟨a0, c0, rfl, _⟩ := hr.shape
  simp only [strsC_len] at hr ⊢
  obtain ⟨g, o, rfl, hn, hc, hg, hcell⟩ := rd_cell hr 0 (by omega)
  rw [hl] at hr hc ⊢
  have HR := Lib.hid hr
  have HT := Lib.hid fun W => takes7 W
  have hp0 := getD_size hs 0
  have hp1 := getD_size hs 1
  have HL := Lib.hid fun W => Rlist2_any W (A.getD 1 ⟨#[]⟩) (by omega)
  have hwl := words_few (A.getD 1 ⟨#[]⟩)
  have hcn := hcell 1 (by omega)
  have HE : Hid (resS 7 A = pickS (numS (A.getD 0 ⟨#[]⟩)) (numS (A.getD 0 ⟨#[]⟩)) (wordsS (A.getD 1 ⟨#[]⟩))) := Lib.hid rfl
  have HS : Hid (∀ q ∈ wordsS (A.getD 1 ⟨#[]⟩), q.size ≤ 9000) := Lib.hid fun q hq => word_lim hp1 hq
  have hcm := hcell 0 (by omega)
  rw [Nat.add_zero] at hcm
  have HN0 : Hid (∀ W, Calls Tryz.prog 29 #[.string (A.getD 0 ⟨#[]⟩)] W fun e w' => e = .returned (.int .i64 (numI (numS (A.getD 0 ⟨#[]⟩)))) ∧ W = w') := Lib.hid fun W => Rnumber_any W _ (by omega)
  have hm0 := fun m => @numS_le (A.getD 0 ⟨#[]⟩) m
  clear hcell hn hs hr
  generalize numS (A.getD 0 ⟨#[]⟩) = x0 at *
  generalize A.getD 1 ⟨#[]⟩ = p at *
  generalize A.getD 0 ⟨#[]⟩ = p0 at *
  generalize wordsS p = L at *
  by_cases hb1 : numI x0 < 1
  · have hb1' := hb1
    have HP := Lib.hid (HE.out.trans (pick_bad1 hb1))
    go_enter Tryz.func15, Tryz.ntmps15
    go_wp2_with fail
    refine (HT.out _).mono ?_
    rintro e w' ⟨rfl, rfl⟩
    go_wp2_with fail
    refine (HL.out _).mono ?_
    rintro e w1 ⟨a1, c1, rfl, HR1, B1⟩
    have hcm' := (B1.cell (p := ⟨g, o, none⟩) hg).trans hcm
    have HB := Lib.hid B1
    clear B1 hcn hcm
    go_wp2_with fail
    refine (HN0.out _).mono ?_
    rintro e w' ⟨rfl, rfl⟩
    go_wp2_with fail
    refine (HN0.out _).mono ?_
    rintro e w' ⟨rfl, rfl⟩
    go_wp2_with fail
    go_ret2
    rw [HP.out]
    exact ⟨rfl, HB.out⟩
  · obtain ⟨a, rfl⟩ : ∃ a : Nat, x0 = some a := by
      cases x0 with
      | none => exact absurd (by decide) hb1
      | some a => exact ⟨a, rfl⟩
    have hab := hm0 a rfl
    simp only [numI_some] at *
    have ha1 : 1 ≤ a := by omega
    have hi1 : ¬ (a : Int) < 1 := by omega
    have hi2 : ¬ (a : Int) < 0 := by omega
    have HP := Lib.hid (HE.out.trans (pick_good (b := a) (L := L) ha1))
    clear HE hm0
    go_enter Tryz.func15, Tryz.ntmps15
    go_wp2_with fail
    refine (HT.out _).mono ?_
    rintro e w' ⟨rfl, rfl⟩
    go_wp2_with fail
    refine (HL.out _).mono ?_
    rintro e w1 ⟨a1, c1, rfl, HR1, B1⟩
    have hcm' := (B1.cell (p := ⟨g, o, none⟩) hg).trans hcm
    have HB := Lib.hid B1
    clear B1 hcn hcm
    go_wp2_with fail
    refine (HN0.out _).mono ?_
    rintro e w' ⟨rfl, rfl⟩
    go_wp2_with fail
    refine (HN0.out _).mono ?_
    rintro e w' ⟨rfl, rfl⟩
    have HJ := Lib.hid (Rsome_any w1 _ L a a HR1.out (by omega) (by omega) (by omega) (by omega))
    go_wp2_with fail
    refine HJ.out.mono ?_
    rintro e w2 ⟨v2, rfl, hr2, B2⟩
    have HJ2 := Lib.hid (RJoin_any w2 v2 (someS L a a) hr2 (by have := someS_len L a a; omega) (fun q hq => by have := HS.out q (List.mem_of_mem_take (List.mem_of_mem_drop hq)); omega))
    have HB2 := Lib.hid (HB.out.trans (B2.mono HB.out.size))
    clear B2 hr2
    go_wp2_with fail
    refine HJ2.out.mono ?_
    rintro e w3 ⟨rfl, B3⟩
    go_wp2_with fail
    go_ret2
    rw [HP.out]
    exact ⟨rfl, HB2.out.trans (B3.mono HB2.out.size)⟩
set_option maxHeartbeats 8000000 in
theorem call9 (w : World) (v : Value) (A : List ByteArray) (hr : Rd w w.heap.size v (strsC A)) (hl : A.length = 3) (hs : ∀ p ∈ A, p.size ≤ 9000) : Calls Tryz.prog 15 #[.string ⟨#[119, 111, 114, 100, 108, 105, 115, 116]⟩, v] w fun e w' => e = ansE (resS 9 A) ∧ Below w.heap.size w w' := by
  obtain ⟨a0, c0, rfl, _⟩ := hr.shape
  simp only [strsC_len] at hr ⊢
  obtain ⟨g, o, rfl, hn, hc, hg, hcell⟩ := rd_cell hr 0 (by omega)
  rw [hl] at hr hc ⊢
  have HR := Lib.hid hr
  have HT := Lib.hid fun W => takes9 W
  have hp0 := getD_size hs 0
  have hp1 := getD_size hs 1
  have hp2 := getD_size hs 2
  have HL := Lib.hid fun W => Rlist2_any W (A.getD 2 ⟨#[]⟩) (by omega)
  have hwl := words_few (A.getD 2 ⟨#[]⟩)
  have hcn := hcell 2 (by omega)
  have HE : Hid (resS 9 A = pickS (numS (A.getD 0 ⟨#[]⟩)) (numS (A.getD 1 ⟨#[]⟩)) (wordsS (A.getD 2 ⟨#[]⟩))) := Lib.hid rfl
  have HS : Hid (∀ q ∈ wordsS (A.getD 2 ⟨#[]⟩), q.size ≤ 9000) := Lib.hid fun q hq => word_lim hp2 hq
  have hcm := hcell 0 (by omega)
  rw [Nat.add_zero] at hcm
  have hcm1 := hcell 1 (by omega)
  have HN0 : Hid (∀ W, Calls Tryz.prog 29 #[.string (A.getD 0 ⟨#[]⟩)] W fun e w' => e = .returned (.int .i64 (numI (numS (A.getD 0 ⟨#[]⟩)))) ∧ W = w') := Lib.hid fun W => Rnumber_any W _ (by omega)
  have HN1 : Hid (∀ W, Calls Tryz.prog 29 #[.string (A.getD 1 ⟨#[]⟩)] W fun e w' => e = .returned (.int .i64 (numI (numS (A.getD 1 ⟨#[]⟩)))) ∧ W = w') := Lib.hid fun W => Rnumber_any W _ (by omega)
  have hm0 := fun m => @numS_le (A.getD 0 ⟨#[]⟩) m
  have hm1 := fun m => @numS_le (A.getD 1 ⟨#[]⟩) m
  clear hcell hn hs hr
  generalize numS (A.getD 0 ⟨#[]⟩) = x0 at *
  generalize numS (A.getD 1 ⟨#[]⟩) = x1 at *
  generalize A.getD 2 ⟨#[]⟩ = p at *
  generalize A.getD 0 ⟨#[]⟩ = p0 at *
  generalize A.getD 1 ⟨#[]⟩ = p1 at *
  generalize wordsS p = L at *
  by_cases hb1 : numI x0 < 1
  · have hb1' := hb1
    have HP := Lib.hid (HE.out.trans (pick_bad1 hb1))
    go_enter Tryz.func15, Tryz.ntmps15
    go_wp2_with fail
    refine (HT.out _).mono ?_
    rintro e w' ⟨rfl, rfl⟩
    go_wp2_with fail
    refine (HL.out _).mono ?_
    rintro e w1 ⟨a1, c1, rfl, HR1, B1⟩
    have hcm' := (B1.cell (p := ⟨g, o, none⟩) hg).trans hcm
    have hcm1' := (B1.cell (p := ⟨g, o + 1, none⟩) hg).trans hcm1
    have HB := Lib.hid B1
    clear B1 hcn hcm hcm1
    go_wp2_with fail
    refine (HN0.out _).mono ?_
    rintro e w' ⟨rfl, rfl⟩
    go_wp2_with fail
    refine (HN1.out _).mono ?_
    rintro e w' ⟨rfl, rfl⟩
    go_wp2_with fail
    go_ret2
    rw [HP.out]
    exact ⟨rfl, HB.out⟩
  · by_cases hb2 : numI x1 < 0
    · have hb2' := hb2
      have HP := Lib.hid (HE.out.trans (pick_bad2 hb2))
      go_enter Tryz.func15, Tryz.ntmps15
      go_wp2_with fail
      refine (HT.out _).mono ?_
      rintro e w' ⟨rfl, rfl⟩
      go_wp2_with fail
      refine (HL.out _).mono ?_
      rintro e w1 ⟨a1, c1, rfl, HR1, B1⟩
      have hcm' := (B1.cell (p := ⟨g, o, none⟩) hg).trans hcm
      have hcm1' := (B1.cell (p := ⟨g, o + 1, none⟩) hg).trans hcm1
      have HB := Lib.hid B1
      clear B1 hcn hcm hcm1
      go_wp2_with fail
      refine (HN0.out _).mono ?_
      rintro e w' ⟨rfl, rfl⟩
      go_wp2_with fail
      refine (HN1.out _).mono ?_
      rintro e w' ⟨rfl, rfl⟩
      go_wp2_with fail
      go_ret2
      rw [HP.out]
      exact ⟨rfl, HB.out⟩
    · obtain ⟨a, rfl⟩ : ∃ a : Nat, x0 = some a := by
        cases x0 with
        | none => exact absurd (by decide) hb1
        | some a => exact ⟨a, rfl⟩
      obtain ⟨b, rfl⟩ : ∃ b : Nat, x1 = some b := by
        cases x1 with
        | none => exact absurd (by decide) hb2
        | some b => exact ⟨b, rfl⟩
      have hab := hm0 a rfl
      have hbb := hm1 b rfl
      simp only [numI_some] at *
      have ha1 : 1 ≤ a := by omega
      have hi1 : ¬ (a : Int) < 1 := by omega
      have hi2 : ¬ (b : Int) < 0 := by omega
      have HP := Lib.hid (HE.out.trans (pick_good (b := b) (L := L) ha1))
      clear HE hm0 hm1
      go_enter Tryz.func15, Tryz.ntmps15
      go_wp2_with fail
      refine (HT.out _).mono ?_
      rintro e w' ⟨rfl, rfl⟩
      go_wp2_with fail
      refine (HL.out _).mono ?_
      rintro e w1 ⟨a1, c1, rfl, HR1, B1⟩
      have hcm' := (B1.cell (p := ⟨g, o, none⟩) hg).trans hcm
      have hcm1' := (B1.cell (p := ⟨g, o + 1, none⟩) hg).trans hcm1
      have HB := Lib.hid B1
      clear B1 hcn hcm hcm1
      go_wp2_with fail
      refine (HN0.out _).mono ?_
      rintro e w' ⟨rfl, rfl⟩
      go_wp2_with fail
      refine (HN1.out _).mono ?_
      rintro e w' ⟨rfl, rfl⟩
      have HJ := Lib.hid (Rsome_any w1 _ L a b HR1.out (by omega) (by omega) (by omega) (by omega))
      go_wp2_with fail
      refine HJ.out.mono ?_
      rintro e w2 ⟨v2, rfl, hr2, B2⟩
      have HJ2 := Lib.hid (RJoin_any w2 v2 (someS L a b) hr2 (by have := someS_len L a b; omega) (fun q hq => by have := HS.out q (List.mem_of_mem_take (List.mem_of_mem_drop hq)); omega))
      have HB2 := Lib.hid (HB.out.trans (B2.mono HB.out.size))
      clear B2 hr2
      go_wp2_with fail
      refine HJ2.out.mono ?_
      rintro e w3 ⟨rfl, B3⟩
      go_wp2_with fail
      go_ret2
      rw [HP.out]
      exact ⟨rfl, HB2.out.trans (B3.mono HB2.out.size)⟩

set_option maxHeartbeats 2000000 in
theorem call_none (w : World) (v : Value) (f : ByteArray) (h : NoFn f) : Calls Tryz.prog 15 #[.string f, v] w fun e w' => e = ansE (⟨#[]⟩, 3) ∧ Below w.heap.size w w' := by
  have HT := Lib.hid (takes_none w f h)
  clear h
  go_enter Tryz.func15, Tryz.ntmps15
  go_wp2_with fail
  refine HT.out.mono ?_
  rintro e w' ⟨rfl, rfl⟩
  go_wp2_with fail
  go_ret2
  exact ⟨rfl, Below.refl _ _⟩
theorem takes_all (w : World) (k : Nat) (hk : k < 19) : Calls Tryz.prog 23 #[.string (nm k)] w fun e w' => e = .returned (.int .i64 (takesN k : Nat)) ∧ w = w' := by
  match k, hk with
  | 0, _ => exact takes0 w
  | 1, _ => exact takes1 w
  | 2, _ => exact takes2 w
  | 3, _ => exact takes3 w
  | 4, _ => exact takes4 w
  | 5, _ => exact takes5 w
  | 6, _ => exact takes6 w
  | 7, _ => exact takes7 w
  | 8, _ => exact takes8 w
  | 9, _ => exact takes9 w
  | 10, _ => exact takes10 w
  | 11, _ => exact takes11 w
  | 12, _ => exact takes12 w
  | 13, _ => exact takes13 w
  | 14, _ => exact takes14 w
  | 15, _ => exact takes15 w
  | 16, _ => exact takes16 w
  | 17, _ => exact takes17 w
  | 18, _ => exact takes18 w
  | n + 19, h => exact absurd h (by omega)
theorem takes_lim (k : Nat) : 1 ≤ takesN k ∧ takesN k ≤ 3 := by unfold takesN; split <;> omega
set_option maxHeartbeats 2000000 in
theorem call_bad (w : World) (k : Nat) (hk : k < 19) (a : Option Addr) (n c : Nat) (hn : n ≠ takesN k) : Calls Tryz.prog 15 #[.string (nm k), .slice a n c] w fun e w' => e = ansE (⟨#[]⟩, 1) ∧ Below w.heap.size w w' := by
  have HT := Lib.hid (takes_all w k hk)
  have h1 := takes_lim k
  generalize takesN k = t at *
  have hz : ((t : Int) == 0) = false := beq_eq_false_iff_ne.2 (by omega)
  have hz2 : ((n : Int) == (t : Int)) = false := beq_eq_false_iff_ne.2 (by omega)
  have hz3 : ((n : Int) != (t : Int)) = true := by rw [bne, hz2]; rfl
  generalize nm k = f at *
  clear hn h1
  go_enter Tryz.func15, Tryz.ntmps15
  go_wp2_with fail
  refine HT.out.mono ?_
  rintro e w' ⟨rfl, rfl⟩
  go_wp2_with fail
  go_ret2
  exact ⟨rfl, Below.refl _ _⟩
theorem call_any (w : World) (v : Value) (A : List ByteArray) (k : Nat) (hk : k < 19) (hr : Rd w w.heap.size v (strsC A)) (hl : A.length = takesN k) (hs : ∀ p ∈ A, p.size ≤ 9000) : Calls Tryz.prog 15 #[.string (nm k), v] w fun e w' => e = ansE (resS k A) ∧ Below w.heap.size w w' := by
  match k, hk with
  | 0, _ => exact call0 w v A hr hl hs
  | 1, _ => exact call1 w v A hr hl hs
  | 2, _ => exact call2 w v A hr hl hs
  | 3, _ => exact call3 w v A hr hl hs
  | 4, _ => exact call4 w v A hr hl hs
  | 5, _ => exact call5 w v A hr hl hs
  | 6, _ => exact call6 w v A hr hl hs
  | 7, _ => exact call7 w v A hr hl hs
  | 8, _ => exact call8 w v A hr hl hs
  | 9, _ => exact call9 w v A hr hl hs
  | 10, _ => exact call10 w v A hr hl hs
  | 11, _ => exact call11 w v A hr hl hs
  | 12, _ => exact call12 w v A hr hl hs
  | 13, _ => exact call13 w v A hr hl hs
  | 14, _ => exact call14 w v A hr hl hs
  | 15, _ => exact call15 w v A hr hl hs
  | 16, _ => exact call16 w v A hr hl hs
  | 17, _ => exact call17 w v A hr hl hs
  | 18, _ => exact call18 w v A hr hl hs
  | n + 19, h => exact absurd h (by omega)
end Go.Proofs.YtenokbceamcekaaGreatDoor.Ew
