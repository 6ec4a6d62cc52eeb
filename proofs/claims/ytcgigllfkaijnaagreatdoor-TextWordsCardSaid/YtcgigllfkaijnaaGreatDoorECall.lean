/-
  flatironref13.Call: what a function makes.
-/
import Derived.Deep.RegionHeld3
import Derived.Test.YtcgigllfkaijnaaGreatDoorETakes
import Derived.Test.YtcgigllfkaijnaaGreatDoorEEach
import Derived.Test.YtcgigllfkaijnaaGreatDoorENum
import Derived.Test.YtcgigllfkaijnaaGreatDoorESubst
import Derived.Test.YtcgigllfkaijnaaGreatDoorEJoined
import Derived.Test.YtcgigllfkaijnaaGreatDoorESorted
namespace Go.Proofs.YtcgigllfkaijnaaGreatDoor.Ew
open Go.RowKit Go.Proofs.YtcgigllfkaijnaaGreatDoor Go.Proofs.YtcgigllfkaijnaaGreatDoor.Ww Go.Proofs.YtcgigllfkaijnaaGreatDoor.Tw
set_option maxRecDepth 100000

/-- Words by numbers. -/
def pickS (a b : Option Nat) (L : List ByteArray) : ByteArray × Int := if numI a < 1 ∨ numI b < 0 then (⟨#[]⟩, 1) else (joinS (someS L (a.getD 0) (b.getD 0)), 0)
def numS (p : ByteArray) : Option Nat := Ep.numA (by8 (trimT p))
/-- What a function makes of as many texts as it takes. -/
def resS (k : Nat) (A : List ByteArray) : ByteArray × Int :=
  let L := wordsS (A.getD (takesN k - 1) ⟨#[]⟩)
  match k with
  | 0 => (str (Ep.substA (by8 (A.getD 0 ⟨#[]⟩)) (by8 (A.getD 1 ⟨#[]⟩)) (by8 (A.getD 2 ⟨#[]⟩))), 0)
  | 2 => (joinS L, 0)
  | 3 => (if Ep.insideA (by8 (A.getD 0 ⟨#[]⟩)) (by8 (A.getD 1 ⟨#[]⟩)) = true then A.getD 0 ⟨#[]⟩ else ⟨#[]⟩, 0)
  | 4 => (joinS (keptS (wordsS (A.getD 0 ⟨#[]⟩)) true (wordsS (A.getD 1 ⟨#[]⟩))), 0)
  | 5 => (joinS (keptS (wordsS (A.getD 0 ⟨#[]⟩)) false (wordsS (A.getD 1 ⟨#[]⟩))), 0)
  | 6 => (joinS (Wp.sortS L), 0)
  | 7 => pickS (numS (A.getD 0 ⟨#[]⟩)) (numS (A.getD 0 ⟨#[]⟩)) L
  | 8 => (str (Ep.digitsA L.length), 0)
  | 9 => pickS (numS (A.getD 0 ⟨#[]⟩)) (numS (A.getD 1 ⟨#[]⟩)) L
  | 10 => (joinS (someS L 1 1), 0)
  | 11 => (joinS (someS L (max L.length 1) L.length), 0)
  | 18 => (joinS (pairsS (wordsS (A.getD 0 ⟨#[]⟩)) L), 0)
  | k => (joinS (eachS (oneS k A) L), 0)
/-- An answer of Call. -/
def ansE (r : ByteArray × Int) : Ending := .returned (.tuple #[.string r.1, .int .i64 r.2])
theorem hold3 {w0 W W' : World} {g o : Nat} {A : List ByteArray} (hg : g < w0.heap.size) (h : (∀ j, j < A.length → W.cell? ⟨g, o + j, none⟩ = some (.string (A.getD j ⟨#[]⟩))) ∧ Below w0.heap.size w0 W) (B : Below W.heap.size W W') : (∀ j, j < A.length → W'.cell? ⟨g, o + j, none⟩ = some (.string (A.getD j ⟨#[]⟩))) ∧ Below w0.heap.size w0 W' :=
  ⟨fun j hj => (B.cell (p := ⟨g, o + j, none⟩) (Nat.lt_of_lt_of_le hg h.2.size)).trans (h.1 j hj), h.2.trans (B.mono h.2.size)⟩
theorem one_size (k : Nat) (A : List ByteArray) (x : ByteArray) (hs : ∀ p ∈ A, p.size ≤ 10000) (hx : x.size ≤ 10000) : (oneS k A x).size ≤ 100000 := by
  have h0 := getD_size hs 0
  have h1 := getD_size hs 1
  unfold oneS
  split
  · have := ch_len (trimT (A.getD 0 ⟨#[]⟩)) (trimT (A.getD 1 ⟨#[]⟩)) x
    have := trim_len (A.getD 0 ⟨#[]⟩)
    have := trim_len (A.getD 1 ⟨#[]⟩)
    omega
  · split
    · split
      · show 2 ≤ 100000; omega
      · rw [ByteArray.size_extract]; omega
    · split
      · rw [ByteArray.size_extract]; omega
      · split
        · rw [ByteArray.size_extract]; omega
        · split
          · rw [ByteArray.size_extract]; omega
          · split
            · rw [ByteArray.size_append]; omega
            · rw [ByteArray.size_append]; omega
theorem word_lim {p q : ByteArray} (hp : p.size ≤ 9000) (h : q ∈ wordsS p) : q.size ≤ 9000 := Nat.le_trans (words_size h) hp

set_option maxHeartbeats 8000000 in
theorem call2 (w : World) (v : Value) (A : List ByteArray) (hr : Rd w w.heap.size v (strsC A)) (hl : A.length = 1) (hs : ∀ p ∈ A, p.size ≤ 9000) : Calls Tryz.prog 9 #[.string ⟨#[115, 116, 114, 105, 112]⟩, v] w fun e w' => e = ansE (resS 2 A) ∧ Below w.heap.size w w' := by
  obtain ⟨a0, c0, rfl, _⟩ := hr.shape
  simp only [strsC_len] at hr ⊢
  obtain ⟨g, o, rfl, hn, hc, hg, hcell⟩ := rd_cell hr 0 (by omega)
  rw [hl] at hr hc ⊢
  have HR := Lib.hid hr
  have HT := Lib.hid fun W => takes2 W
  have hp0 := getD_size hs 0
  have HL := Lib.hid fun W => Rlist2_any W (A.getD 0 ⟨#[]⟩) (by omega)
  have hwl := words_few (A.getD 0 ⟨#[]⟩)
  have hcn := hcell 0 (by omega)
  rw [Nat.add_zero] at hcn
  have HE : Hid (resS 2 A = (joinS (wordsS (A.getD 0 ⟨#[]⟩)), 0)) := Lib.hid rfl
  have HS : Hid (∀ q ∈ wordsS (A.getD 0 ⟨#[]⟩), q.size ≤ 9000) := Lib.hid fun q hq => word_lim hp0 hq
  clear hcell hn hs hr
  generalize A.getD 0 ⟨#[]⟩ = p at *
  generalize wordsS p = L at *
  go_enter Tryz.func9, Tryz.ntmps9
  go_wp2_with fail
  refine (HT.out _).mono ?_
  rintro e w' ⟨rfl, rfl⟩
  go_wp2_with fail
  refine (HL.out _).mono ?_
  rintro e w1 ⟨a1, c1, rfl, HR1, B1⟩
  have HJ := Lib.hid (RJoin_any w1 _ L HR1.out (by omega) (fun q hq => by have := HS.out q hq; omega))
  have HB := Lib.hid B1
  clear B1 hcn
  go_wp2_with fail
  refine HJ.out.mono ?_
  rintro e w2 ⟨rfl, B2⟩
  go_wp2_with fail
  go_ret2
  rw [HE.out]
  exact ⟨rfl, HB.out.trans (B2.mono HB.out.size)⟩
set_option maxHeartbeats 8000000 in
theorem call8 (w : World) (v : Value) (A : List ByteArray) (hr : Rd w w.heap.size v (strsC A)) (hl : A.length = 1) (hs : ∀ p ∈ A, p.size ≤ 9000) : Calls Tryz.prog 9 #[.string ⟨#[119, 111, 114, 100, 115]⟩, v] w fun e w' => e = ansE (resS 8 A) ∧ Below w.heap.size w w' := by
  obtain ⟨a0, c0, rfl, _⟩ := hr.shape
  simp only [strsC_len] at hr ⊢
  obtain ⟨g, o, rfl, hn, hc, hg, hcell⟩ := rd_cell hr 0 (by omega)
  rw [hl] at hr hc ⊢
  have HR := Lib.hid hr
  have HT := Lib.hid fun W => takes8 W
  have hp0 := getD_size hs 0
  have HL := Lib.hid fun W => Rlist2_any W (A.getD 0 ⟨#[]⟩) (by omega)
  have hwl := words_few (A.getD 0 ⟨#[]⟩)
  have hcn := hcell 0 (by omega)
  rw [Nat.add_zero] at hcn
  have HE : Hid (resS 8 A = (str (Ep.digitsA (wordsS (A.getD 0 ⟨#[]⟩)).length), 0)) := Lib.hid rfl
  clear hcell hn hs hr
  generalize A.getD 0 ⟨#[]⟩ = p at *
  generalize wordsS p = L at *
  go_enter Tryz.func9, Tryz.ntmps9
  go_wp2_with fail
  refine (HT.out _).mono ?_
  rintro e w' ⟨rfl, rfl⟩
  go_wp2_with fail
  refine (HL.out _).mono ?_
  rintro e w1 ⟨a1, c1, rfl, HR1, B1⟩
  have HD := Lib.hid (Digits_any L.length (by omega) w1)
  have HB := Lib.hid B1
  clear B1 hcn
  go_wp2_with fail
  refine HD.out.mono ?_
  rintro e w2 ⟨rfl, rfl⟩
  go_wp2_with fail
  go_ret2
  rw [HE.out]
  exact ⟨rfl, HB.out⟩
set_option maxHeartbeats 8000000 in
theorem call6 (w : World) (v : Value) (A : List ByteArray) (hr : Rd w w.heap.size v (strsC A)) (hl : A.length = 1) (hs : ∀ p ∈ A, p.size ≤ 9000) : Calls Tryz.prog 9 #[.string ⟨#[115, 111, 114, 116]⟩, v] w fun e w' => e = ansE (resS 6 A) ∧ Below w.heap.size w w' := by
  obtain ⟨a0, c0, rfl, _⟩ := hr.shape
  simp only [strsC_len] at hr ⊢
  obtain ⟨g, o, rfl, hn, hc, hg, hcell⟩ := rd_cell hr 0 (by omega)
  rw [hl] at hr hc ⊢
  have HR := Lib.hid hr
  have HT := Lib.hid fun W => takes6 W
  have hp0 := getD_size hs 0
  have HL := Lib.hid fun W => Rlist2_any W (A.getD 0 ⟨#[]⟩) (by omega)
  have hwl := words_few (A.getD 0 ⟨#[]⟩)
  have hcn := hcell 0 (by omega)
  rw [Nat.add_zero] at hcn
  have HE : Hid (resS 6 A = (joinS (Wp.sortS (wordsS (A.getD 0 ⟨#[]⟩))), 0)) := Lib.hid rfl
  have HS : Hid (∀ q ∈ wordsS (A.getD 0 ⟨#[]⟩), q.size ≤ 9000) := Lib.hid fun q hq => word_lim hp0 hq
  clear hcell hn hs hr
  generalize A.getD 0 ⟨#[]⟩ = p at *
  generalize wordsS p = L at *
  go_enter Tryz.func9, Tryz.ntmps9
  go_wp2_with fail
  refine (HT.out _).mono ?_
  rintro e w' ⟨rfl, rfl⟩
  go_wp2_with fail
  refine (HL.out _).mono ?_
  rintro e w1 ⟨a1, c1, rfl, HR1, B1⟩
  have HJ := Lib.hid (Rsorted_any L.length L w1 _ (by omega) (by omega) HR1.out)
  have HB := Lib.hid B1
  clear B1 hcn
  go_wp2_with fail
  refine HJ.out.mono ?_
  rintro e w2 ⟨v2, rfl, hr2, B2⟩
  have HJ2 := Lib.hid (RJoin_any w2 v2 (Wp.sortS L) hr2 (by have := Wp.sort_len L; omega) (fun q hq => by have := HS.out q (Wp.sort_mem.1 hq); omega))
  have HB2 := Lib.hid (HB.out.trans (B2.mono HB.out.size))
  clear B2 hr2
  go_wp2_with fail
  refine HJ2.out.mono ?_
  rintro e w3 ⟨rfl, B3⟩
  go_wp2_with fail
  go_ret2
  rw [HE.out]
  exact ⟨rfl, HB2.out.trans (B3.mono HB2.out.size)⟩
set_option maxHeartbeats 8000000 in
theorem call10 (w : World) (v : Value) (A : List ByteArray) (hr : Rd w w.heap.size v (strsC A)) (hl : A.length = 1) (hs : ∀ p ∈ A, p.size ≤ 9000) : Calls Tryz.prog 9 #[.string ⟨#[102, 105, 114, 115, 116, 119, 111, 114, 100]⟩, v] w fun e w' => e = ansE (resS 10 A) ∧ Below w.heap.size w w' := by
  obtain ⟨a0, c0, rfl, _⟩ := hr.shape
  simp only [strsC_len] at hr ⊢
  obtain ⟨g, o, rfl, hn, hc, hg, hcell⟩ := rd_cell hr 0 (by omega)
  rw [hl] at hr hc ⊢
  have HR := Lib.hid hr
  have HT := Lib.hid fun W => takes10 W
  have hp0 := getD_size hs 0
  have HL := Lib.hid fun W => Rlist2_any W (A.getD 0 ⟨#[]⟩) (by omega)
  have hwl := words_few (A.getD 0 ⟨#[]⟩)
  have hcn := hcell 0 (by omega)
  rw [Nat.add_zero] at hcn
  have HE : Hid (resS 10 A = (joinS (someS (wordsS (A.getD 0 ⟨#[]⟩)) 1 1), 0)) := Lib.hid rfl
  have HS : Hid (∀ q ∈ wordsS (A.getD 0 ⟨#[]⟩), q.size ≤ 9000) := Lib.hid fun q hq => word_lim hp0 hq
  clear hcell hn hs hr
  generalize A.getD 0 ⟨#[]⟩ = p at *
  generalize wordsS p = L at *
  go_enter Tryz.func9, Tryz.ntmps9
  go_wp2_with fail
  refine (HT.out _).mono ?_
  rintro e w' ⟨rfl, rfl⟩
  go_wp2_with fail
  refine (HL.out _).mono ?_
  rintro e w1 ⟨a1, c1, rfl, HR1, B1⟩
  have HJ := Lib.hid (Rsome_any w1 _ L 1 1 HR1.out (by omega) (by omega) (by omega) (by omega))
  have HB := Lib.hid B1
  clear B1 hcn
  go_wp2_with fail
  refine HJ.out.mono ?_
  rintro e w2 ⟨v2, rfl, hr2, B2⟩
  have HJ2 := Lib.hid (RJoin_any w2 v2 (someS L 1 1) hr2 (by have := someS_len L 1 1; omega) (fun q hq => by have := HS.out q (List.mem_of_mem_take (List.mem_of_mem_drop hq)); omega))
  have HB2 := Lib.hid (HB.out.trans (B2.mono HB.out.size))
  clear B2 hr2
  go_wp2_with fail
  refine HJ2.out.mono ?_
  rintro e w3 ⟨rfl, B3⟩
  go_wp2_with fail
  go_ret2
  rw [HE.out]
  exact ⟨rfl, HB2.out.trans (B3.mono HB2.out.size)⟩
set_option maxHeartbeats 8000000 in
theorem call11 (w : World) (v : Value) (A : List ByteArray) (hr : Rd w w.heap.size v (strsC A)) (hl : A.length = 1) (hs : ∀ p ∈ A, p.size ≤ 9000) : Calls Tryz.prog 9 #[.string ⟨#[108, 97, 115, 116, 119, 111, 114, 100]⟩, v] w fun e w' => e = ansE (resS 11 A) ∧ Below w.heap.size w w' := by
  obtain ⟨a0, c0, rfl, _⟩ := hr.shape
  simp only [strsC_len] at hr ⊢
  obtain ⟨g, o, rfl, hn, hc, hg, hcell⟩ := rd_cell hr 0 (by omega)
  rw [hl] at hr hc ⊢
  have HR := Lib.hid hr
  have HT := Lib.hid fun W => takes11 W
  have hp0 := getD_size hs 0
  have HL := Lib.hid fun W => Rlist2_any W (A.getD 0 ⟨#[]⟩) (by omega)
  have hwl := words_few (A.getD 0 ⟨#[]⟩)
  have hcn := hcell 0 (by omega)
  rw [Nat.add_zero] at hcn
  have HE : Hid (resS 11 A = (joinS (someS (wordsS (A.getD 0 ⟨#[]⟩)) (max (wordsS (A.getD 0 ⟨#[]⟩)).length 1) (wordsS (A.getD 0 ⟨#[]⟩)).length), 0)) := Lib.hid rfl
  have HS : Hid (∀ q ∈ wordsS (A.getD 0 ⟨#[]⟩), q.size ≤ 9000) := Lib.hid fun q hq => word_lim hp0 hq
  clear hcell hn hs hr
  generalize A.getD 0 ⟨#[]⟩ = p at *
  generalize wordsS p = L at *
  go_enter Tryz.func9, Tryz.ntmps9
  go_wp2_with fail
  refine (HT.out _).mono ?_
  rintro e w' ⟨rfl, rfl⟩
  go_wp2_with fail
  refine (HL.out _).mono ?_
  rintro e w1 ⟨a1, c1, rfl, HR1, B1⟩
  have HJ := Lib.hid (Rsome_any w1 _ L (max L.length 1) L.length HR1.out (by omega) (by omega) (by omega) (by omega))
  have HB := Lib.hid B1
  clear B1 hcn
  have hmx : max (L.length : Int) 1 = ((max L.length 1 : Nat) : Int) := by omega
  obtain ⟨m, hm⟩ : ∃ m, max L.length 1 = m := ⟨_, rfl⟩
  rw [hm] at hmx HJ HE
  clear hm
  go_wp2_with fail
  refine HJ.out.mono ?_
  rintro e w2 ⟨v2, rfl, hr2, B2⟩
  have HJ2 := Lib.hid (RJoin_any w2 v2 (someS L m L.length) hr2 (by have := someS_len L m L.length; omega) (fun q hq => by have := HS.out q (List.mem_of_mem_take (List.mem_of_mem_drop hq)); omega))
  have HB2 := Lib.hid (HB.out.trans (B2.mono HB.out.size))
  clear B2 hr2
  go_wp2_with fail
  refine HJ2.out.mono ?_
  rintro e w3 ⟨rfl, B3⟩
  go_wp2_with fail
  go_ret2
  rw [HE.out]
  exact ⟨rfl, HB2.out.trans (B3.mono HB2.out.size)⟩
set_option maxHeartbeats 8000000 in
theorem call4 (w : World) (v : Value) (A : List ByteArray) (hr : Rd w w.heap.size v (strsC A)) (hl : A.length = 2) (hs : ∀ p ∈ A, p.size ≤ 9000) : Calls Tryz.prog 9 #[.string ⟨#[102, 105, 108, 116, 101, 114]⟩, v] w fun e w' => e = ansE (resS 4 A) ∧ Below w.heap.size w w' := by
  obtain ⟨a0, c0, rfl, _⟩ := hr.shape
  simp only [strsC_len] at hr ⊢
  obtain ⟨g, o, rfl, hn, hc, hg, hcell⟩ := rd_cell hr 0 (by omega)
  rw [hl] at hr hc ⊢
  have HR := Lib.hid hr
  have HT := Lib.hid fun W => takes4 W
  have hp0 := getD_size hs 0
  have hp1 := getD_size hs 1
  have HL := Lib.hid fun W => Rlist2_any W (A.getD 1 ⟨#[]⟩) (by omega)
  have hwl := words_few (A.getD 1 ⟨#[]⟩)
  have hcn := hcell 1 (by omega)
  have HE : Hid (resS 4 A = (joinS (keptS (wordsS (A.getD 0 ⟨#[]⟩)) true (wordsS (A.getD 1 ⟨#[]⟩))), 0)) := Lib.hid rfl
  have HK : Hid (∀ W, Below w.heap.size w W → Calls Tryz.prog 21 #[.slice (some ⟨g, o, none⟩) 2 c0, .bool true] W fun e w' => e = .returned (.string (joinS (keptS (wordsS (A.getD 0 ⟨#[]⟩)) true (wordsS (A.getD 1 ⟨#[]⟩))))) ∧ Below W.heap.size W w') := Lib.hid fun W hW => Rkept_any W _ A true ((hr.below hW).more hW.size) hl (fun p hp => by have := hs p hp; omega)
  clear hcell hn hs hr
  generalize joinS (keptS (wordsS (A.getD 0 ⟨#[]⟩)) true (wordsS (A.getD 1 ⟨#[]⟩))) = r at *
  generalize A.getD 1 ⟨#[]⟩ = p at *
  generalize wordsS p = L at *
  go_enter Tryz.func9, Tryz.ntmps9
  go_wp2_with fail
  refine (HT.out _).mono ?_
  rintro e w' ⟨rfl, rfl⟩
  go_wp2_with fail
  refine (HL.out _).mono ?_
  rintro e w1 ⟨a1, c1, rfl, HR1, B1⟩
  have HJ := Lib.hid (HK.out w1 B1)
  have HB := Lib.hid B1
  clear B1 hcn
  go_wp2_with fail
  refine HJ.out.mono ?_
  rintro e w2 ⟨rfl, B2⟩
  go_wp2_with fail
  go_ret2
  rw [HE.out]
  exact ⟨rfl, HB.out.trans (B2.mono HB.out.size)⟩
set_option maxHeartbeats 8000000 in
theorem call5 (w : World) (v : Value) (A : List ByteArray) (hr : Rd w w.heap.size v (strsC A)) (hl : A.length = 2) (hs : ∀ p ∈ A, p.size ≤ 9000) : Calls Tryz.prog 9 #[.string ⟨#[102, 105, 108, 116, 101, 114, 45, 111, 117, 116]⟩, v] w fun e w' => e = ansE (resS 5 A) ∧ Below w.heap.size w w' := by
  obtain ⟨a0, c0, rfl, _⟩ := hr.shape
  simp only [strsC_len] at hr ⊢
  obtain ⟨g, o, rfl, hn, hc, hg, hcell⟩ := rd_cell hr 0 (by omega)
  rw [hl] at hr hc ⊢
  have HR := Lib.hid hr
  have HT := Lib.hid fun W => takes5 W
  have hp0 := getD_size hs 0
  have hp1 := getD_size hs 1
  have HL := Lib.hid fun W => Rlist2_any W (A.getD 1 ⟨#[]⟩) (by omega)
  have hwl := words_few (A.getD 1 ⟨#[]⟩)
  have hcn := hcell 1 (by omega)
  have HE : Hid (resS 5 A = (joinS (keptS (wordsS (A.getD 0 ⟨#[]⟩)) false (wordsS (A.getD 1 ⟨#[]⟩))), 0)) := Lib.hid rfl
  have HK : Hid (∀ W, Below w.heap.size w W → Calls Tryz.prog 21 #[.slice (some ⟨g, o, none⟩) 2 c0, .bool false] W fun e w' => e = .returned (.string (joinS (keptS (wordsS (A.getD 0 ⟨#[]⟩)) false (wordsS (A.getD 1 ⟨#[]⟩))))) ∧ Below W.heap.size W w') := Lib.hid fun W hW => Rkept_any W _ A false ((hr.below hW).more hW.size) hl (fun p hp => by have := hs p hp; omega)
  clear hcell hn hs hr
  generalize joinS (keptS (wordsS (A.getD 0 ⟨#[]⟩)) false (wordsS (A.getD 1 ⟨#[]⟩))) = r at *
  generalize A.getD 1 ⟨#[]⟩ = p at *
  generalize wordsS p = L at *
  go_enter Tryz.func9, Tryz.ntmps9
  go_wp2_with fail
  refine (HT.out _).mono ?_
  rintro e w' ⟨rfl, rfl⟩
  go_wp2_with fail
  refine (HL.out _).mono ?_
  rintro e w1 ⟨a1, c1, rfl, HR1, B1⟩
  have HJ := Lib.hid (HK.out w1 B1)
  have HB := Lib.hid B1
  clear B1 hcn
  go_wp2_with fail
  refine HJ.out.mono ?_
  rintro e w2 ⟨rfl, B2⟩
  go_wp2_with fail
  go_ret2
  rw [HE.out]
  exact ⟨rfl, HB.out.trans (B2.mono HB.out.size)⟩
set_option maxHeartbeats 8000000 in
theorem call1 (w : World) (v : Value) (A : List ByteArray) (hr : Rd w w.heap.size v (strsC A)) (hl : A.length = 3) (hs : ∀ p ∈ A, p.size ≤ 9000) : Calls Tryz.prog 9 #[.string ⟨#[112, 97, 116, 115, 117, 98, 115, 116]⟩, v] w fun e w' => e = ansE (resS 1 A) ∧ Below w.heap.size w w' := by
  obtain ⟨a0, c0, rfl, _⟩ := hr.shape
  simp only [strsC_len] at hr ⊢
  obtain ⟨g, o, rfl, hn, hc, hg, hcell⟩ := rd_cell hr 0 (by omega)
  rw [hl] at hr hc ⊢
  have HR := Lib.hid hr
  have HT := Lib.hid fun W => takes1 W
  have hp0 := getD_size hs 0
  have hp1 := getD_size hs 1
  have hp2 := getD_size hs 2
  have HL := Lib.hid fun W => Rlist2_any W (A.getD 2 ⟨#[]⟩) (by omega)
  have hwl := words_few (A.getD 2 ⟨#[]⟩)
  have hcn := hcell 2 (by omega)
  have HE : Hid (resS 1 A = (joinS (eachS (oneS 1 A) (wordsS (A.getD 2 ⟨#[]⟩))), 0)) := Lib.hid rfl
  have HK : Hid (∀ W, Below w.heap.size w W → Calls Tryz.prog 26 #[.string ⟨#[112, 97, 116, 115, 117, 98, 115, 116]⟩, .slice (some ⟨g, o, none⟩) 3 c0] W fun e w' => e = .returned (.string (joinS (eachS (oneS 1 A) (wordsS (A.getD 2 ⟨#[]⟩))))) ∧ Below W.heap.size W w') := Lib.hid fun V hV => Reach_gen V _ A _ (oneS 1 A) 2 ((hr.below hV).more hV.size) hl (by omega) (fun p hp => by have := hs p hp; omega)
    (fun W hW2 x hx => by have hW := hV.trans (hW2.mono hV.size); exact one1 W _ A x (by omega) ((hr.below hW).more hW.size) hl (fun p hp => by have := hs p hp; omega)) (fun x hx => one_size 1 A x (fun p hp => by have := hs p hp; omega) hx)
  clear hcell hn hs hr
  generalize joinS (eachS (oneS 1 A) (wordsS (A.getD 2 ⟨#[]⟩))) = r at *
  generalize A.getD 2 ⟨#[]⟩ = p at *
  generalize wordsS p = L at *
  go_enter Tryz.func9, Tryz.ntmps9
  go_wp2_with fail
  refine (HT.out _).mono ?_
  rintro e w' ⟨rfl, rfl⟩
  go_wp2_with fail
  refine (HL.out _).mono ?_
  rintro e w1 ⟨a1, c1, rfl, HR1, B1⟩
  have HJ := Lib.hid (HK.out w1 B1)
  have HB := Lib.hid B1
  clear B1 hcn
  go_wp2_with fail
  refine HJ.out.mono ?_
  rintro e w2 ⟨rfl, B2⟩
  go_wp2_with fail
  go_ret2
  rw [HE.out]
  exact ⟨rfl, HB.out.trans (B2.mono HB.out.size)⟩
set_option maxHeartbeats 8000000 in
theorem call12 (w : World) (v : Value) (A : List ByteArray) (hr : Rd w w.heap.size v (strsC A)) (hl : A.length = 1) (hs : ∀ p ∈ A, p.size ≤ 9000) : Calls Tryz.prog 9 #[.string ⟨#[100, 105, 114]⟩, v] w fun e w' => e = ansE (resS 12 A) ∧ Below w.heap.size w w' := by
  obtain ⟨a0, c0, rfl, _⟩ := hr.shape
  simp only [strsC_len] at hr ⊢
  obtain ⟨g, o, rfl, hn, hc, hg, hcell⟩ := rd_cell hr 0 (by omega)
  rw [hl] at hr hc ⊢
  have HR := Lib.hid hr
  have HT := Lib.hid fun W => takes12 W
  have hp0 := getD_size hs 0
  have HL := Lib.hid fun W => Rlist2_any W (A.getD 0 ⟨#[]⟩) (by omega)
  have hwl := words_few (A.getD 0 ⟨#[]⟩)
  have hcn := hcell 0 (by omega)
  rw [Nat.add_zero] at hcn
  have HE : Hid (resS 12 A = (joinS (eachS (oneS 12 A) (wordsS (A.getD 0 ⟨#[]⟩))), 0)) := Lib.hid rfl
  have HK : Hid (∀ W, Below w.heap.size w W → Calls Tryz.prog 26 #[.string ⟨#[100, 105, 114]⟩, .slice (some ⟨g, o, none⟩) 1 c0] W fun e w' => e = .returned (.string (joinS (eachS (oneS 12 A) (wordsS (A.getD 0 ⟨#[]⟩))))) ∧ Below W.heap.size W w') := Lib.hid fun V hV => Reach_gen V _ A _ (oneS 12 A) 0 ((hr.below hV).more hV.size) hl (by omega) (fun p hp => by have := hs p hp; omega)
    (fun W hW2 x hx => by have hW := hV.trans (hW2.mono hV.size); exact one12 W _ A x (by omega)) (fun x hx => one_size 12 A x (fun p hp => by have := hs p hp; omega) hx)
  clear hcell hn hs hr
  generalize joinS (eachS (oneS 12 A) (wordsS (A.getD 0 ⟨#[]⟩))) = r at *
  generalize A.getD 0 ⟨#[]⟩ = p at *
  generalize wordsS p = L at *
  go_enter Tryz.func9, Tryz.ntmps9
  go_wp2_with fail
  refine (HT.out _).mono ?_
  rintro e w' ⟨rfl, rfl⟩
  go_wp2_with fail
  refine (HL.out _).mono ?_
  rintro e w1 ⟨a1, c1, rfl, HR1, B1⟩
  have HJ := Lib.hid (HK.out w1 B1)
  have HB := Lib.hid B1
  clear B1 hcn
  go_wp2_with fail
  refine HJ.out.mono ?_
  rintro e w2 ⟨rfl, B2⟩
  go_wp2_with fail
  go_ret2
  rw [HE.out]
  exact ⟨rfl, HB.out.trans (B2.mono HB.out.size)⟩
set_option maxHeartbeats 8000000 in
theorem call13 (w : World) (v : Value) (A : List ByteArray) (hr : Rd w w.heap.size v (strsC A)) (hl : A.length = 1) (hs : ∀ p ∈ A, p.size ≤ 9000) : Calls Tryz.prog 9 #[.string ⟨#[110, 111, 116, 100, 105, 114]⟩, v] w fun e w' => e = ansE (resS 13 A) ∧ Below w.heap.size w w' := by
  obtain ⟨a0, c0, rfl, _⟩ := hr.shape
  simp only [strsC_len] at hr ⊢
  obtain ⟨g, o, rfl, hn, hc, hg, hcell⟩ := rd_cell hr 0 (by omega)
  rw [hl] at hr hc ⊢
  have HR := Lib.hid hr
  have HT := Lib.hid fun W => takes13 W
  have hp0 := getD_size hs 0
  have HL := Lib.hid fun W => Rlist2_any W (A.getD 0 ⟨#[]⟩) (by omega)
  have hwl := words_few (A.getD 0 ⟨#[]⟩)
  have hcn := hcell 0 (by omega)
  rw [Nat.add_zero] at hcn
  have HE : Hid (resS 13 A = (joinS (eachS (oneS 13 A) (wordsS (A.getD 0 ⟨#[]⟩))), 0)) := Lib.hid rfl
  have HK : Hid (∀ W, Below w.heap.size w W → Calls Tryz.prog 26 #[.string ⟨#[110, 111, 116, 100, 105, 114]⟩, .slice (some ⟨g, o, none⟩) 1 c0] W fun e w' => e = .returned (.string (joinS (eachS (oneS 13 A) (wordsS (A.getD 0 ⟨#[]⟩))))) ∧ Below W.heap.size W w') := Lib.hid fun V hV => Reach_gen V _ A _ (oneS 13 A) 0 ((hr.below hV).more hV.size) hl (by omega) (fun p hp => by have := hs p hp; omega)
    (fun W hW2 x hx => by have hW := hV.trans (hW2.mono hV.size); exact one13 W _ A x (by omega)) (fun x hx => one_size 13 A x (fun p hp => by have := hs p hp; omega) hx)
  clear hcell hn hs hr
  generalize joinS (eachS (oneS 13 A) (wordsS (A.getD 0 ⟨#[]⟩))) = r at *
  generalize A.getD 0 ⟨#[]⟩ = p at *
  generalize wordsS p = L at *
  go_enter Tryz.func9, Tryz.ntmps9
  go_wp2_with fail
  refine (HT.out _).mono ?_
  rintro e w' ⟨rfl, rfl⟩
  go_wp2_with fail
  refine (HL.out _).mono ?_
  rintro e w1 ⟨a1, c1, rfl, HR1, B1⟩
  have HJ := Lib.hid (HK.out w1 B1)
  have HB := Lib.hid B1
  clear B1 hcn
  go_wp2_with fail
  refine HJ.out.mono ?_
  rintro e w2 ⟨rfl, B2⟩
  go_wp2_with fail
  go_ret2
  rw [HE.out]
  exact ⟨rfl, HB.out.trans (B2.mono HB.out.size)⟩
set_option maxHeartbeats 8000000 in
theorem call14 (w : World) (v : Value) (A : List ByteArray) (hr : Rd w w.heap.size v (strsC A)) (hl : A.length = 1) (hs : ∀ p ∈ A, p.size ≤ 9000) : Calls Tryz.prog 9 #[.string ⟨#[115, 117, 102, 102, 105, 120]⟩, v] w fun e w' => e = ansE (resS 14 A) ∧ Below w.heap.size w w' := by
  obtain ⟨a0, c0, rfl, _⟩ := hr.shape
  simp only [strsC_len] at hr ⊢
  obtain ⟨g, o, rfl, hn, hc, hg, hcell⟩ := rd_cell hr 0 (by omega)
  rw [hl] at hr hc ⊢
  have HR := Lib.hid hr
  have HT := Lib.hid fun W => takes14 W
  have hp0 := getD_size hs 0
  have HL := Lib.hid fun W => Rlist2_any W (A.getD 0 ⟨#[]⟩) (by omega)
  have hwl := words_few (A.getD 0 ⟨#[]⟩)
  have hcn := hcell 0 (by omega)
  rw [Nat.add_zero] at hcn
  have HE : Hid (resS 14 A = (joinS (eachS (oneS 14 A) (wordsS (A.getD 0 ⟨#[]⟩))), 0)) := Lib.hid rfl
  have HK : Hid (∀ W, Below w.heap.size w W → Calls Tryz.prog 26 #[.string ⟨#[115, 117, 102, 102, 105, 120]⟩, .slice (some ⟨g, o, none⟩) 1 c0] W fun e w' => e = .returned (.string (joinS (eachS (oneS 14 A) (wordsS (A.getD 0 ⟨#[]⟩))))) ∧ Below W.heap.size W w') := Lib.hid fun V hV => Reach_gen V _ A _ (oneS 14 A) 0 ((hr.below hV).more hV.size) hl (by omega) (fun p hp => by have := hs p hp; omega)
    (fun W hW2 x hx => by have hW := hV.trans (hW2.mono hV.size); exact one14 W _ A x (by omega)) (fun x hx => one_size 14 A x (fun p hp => by have := hs p hp; omega) hx)
  clear hcell hn hs hr
  generalize joinS (eachS (oneS 14 A) (wordsS (A.getD 0 ⟨#[]⟩))) = r at *
  generalize A.getD 0 ⟨#[]⟩ = p at *
  generalize wordsS p = L at *
  go_enter Tryz.func9, Tryz.ntmps9
  go_wp2_with fail
  refine (HT.out _).mono ?_
  rintro e w' ⟨rfl, rfl⟩
  go_wp2_with fail
  refine (HL.out _).mono ?_
  rintro e w1 ⟨a1, c1, rfl, HR1, B1⟩
  have HJ := Lib.hid (HK.out w1 B1)
  have HB := Lib.hid B1
  clear B1 hcn
  go_wp2_with fail
  refine HJ.out.mono ?_
  rintro e w2 ⟨rfl, B2⟩
  go_wp2_with fail
  go_ret2
  rw [HE.out]
  exact ⟨rfl, HB.out.trans (B2.mono HB.out.size)⟩
set_option maxHeartbeats 8000000 in
theorem call15 (w : World) (v : Value) (A : List ByteArray) (hr : Rd w w.heap.size v (strsC A)) (hl : A.length = 1) (hs : ∀ p ∈ A, p.size ≤ 9000) : Calls Tryz.prog 9 #[.string ⟨#[98, 97, 115, 101, 110, 97, 109, 101]⟩, v] w fun e w' => e = ansE (resS 15 A) ∧ Below w.heap.size w w' := by
  obtain ⟨a0, c0, rfl, _⟩ := hr.shape
  simp only [strsC_len] at hr ⊢
  obtain ⟨g, o, rfl, hn, hc, hg, hcell⟩ := rd_cell hr 0 (by omega)
  rw [hl] at hr hc ⊢
  have HR := Lib.hid hr
  have HT := Lib.hid fun W => takes15 W
  have hp0 := getD_size hs 0
  have HL := Lib.hid fun W => Rlist2_any W (A.getD 0 ⟨#[]⟩) (by omega)
  have hwl := words_few (A.getD 0 ⟨#[]⟩)
  have hcn := hcell 0 (by omega)
  rw [Nat.add_zero] at hcn
  have HE : Hid (resS 15 A = (joinS (eachS (oneS 15 A) (wordsS (A.getD 0 ⟨#[]⟩))), 0)) := Lib.hid rfl
  have HK : Hid (∀ W, Below w.heap.size w W → Calls Tryz.prog 26 #[.string ⟨#[98, 97, 115, 101, 110, 97, 109, 101]⟩, .slice (some ⟨g, o, none⟩) 1 c0] W fun e w' => e = .returned (.string (joinS (eachS (oneS 15 A) (wordsS (A.getD 0 ⟨#[]⟩))))) ∧ Below W.heap.size W w') := Lib.hid fun V hV => Reach_gen V _ A _ (oneS 15 A) 0 ((hr.below hV).more hV.size) hl (by omega) (fun p hp => by have := hs p hp; omega)
    (fun W hW2 x hx => by have hW := hV.trans (hW2.mono hV.size); exact one15 W _ A x (by omega)) (fun x hx => one_size 15 A x (fun p hp => by have := hs p hp; omega) hx)
  clear hcell hn hs hr
  generalize joinS (eachS (oneS 15 A) (wordsS (A.getD 0 ⟨#[]⟩))) = r at *
  generalize A.getD 0 ⟨#[]⟩ = p at *
  generalize wordsS p = L at *
  go_enter Tryz.func9, Tryz.ntmps9
  go_wp2_with fail
  refine (HT.out _).mono ?_
  rintro e w' ⟨rfl, rfl⟩
  go_wp2_with fail
  refine (HL.out _).mono ?_
  rintro e w1 ⟨a1, c1, rfl, HR1, B1⟩
  have HJ := Lib.hid (HK.out w1 B1)
  have HB := Lib.hid B1
  clear B1 hcn
  go_wp2_with fail
  refine HJ.out.mono ?_
  rintro e w2 ⟨rfl, B2⟩
  go_wp2_with fail
  go_ret2
  rw [HE.out]
  exact ⟨rfl, HB.out.trans (B2.mono HB.out.size)⟩
set_option maxHeartbeats 8000000 in
theorem call16 (w : World) (v : Value) (A : List ByteArray) (hr : Rd w w.heap.size v (strsC A)) (hl : A.length = 2) (hs : ∀ p ∈ A, p.size ≤ 9000) : Calls Tryz.prog 9 #[.string ⟨#[97, 100, 100, 112, 114, 101, 102, 105, 120]⟩, v] w fun e w' => e = ansE (resS 16 A) ∧ Below w.heap.size w w' := by
  obtain ⟨a0, c0, rfl, _⟩ := hr.shape
  simp only [strsC_len] at hr ⊢
  obtain ⟨g, o, rfl, hn, hc, hg, hcell⟩ := rd_cell hr 0 (by omega)
  rw [hl] at hr hc ⊢
  have HR := Lib.hid hr
  have HT := Lib.hid fun W => takes16 W
  have hp0 := getD_size hs 0
  have hp1 := getD_size hs 1
  have HL := Lib.hid fun W => Rlist2_any W (A.getD 1 ⟨#[]⟩) (by omega)
  have hwl := words_few (A.getD 1 ⟨#[]⟩)
  have hcn := hcell 1 (by omega)
  have HE : Hid (resS 16 A = (joinS (eachS (oneS 16 A) (wordsS (A.getD 1 ⟨#[]⟩))), 0)) := Lib.hid rfl
  have HK : Hid (∀ W, Below w.heap.size w W → Calls Tryz.prog 26 #[.string ⟨#[97, 100, 100, 112, 114, 101, 102, 105, 120]⟩, .slice (some ⟨g, o, none⟩) 2 c0] W fun e w' => e = .returned (.string (joinS (eachS (oneS 16 A) (wordsS (A.getD 1 ⟨#[]⟩))))) ∧ Below W.heap.size W w') := Lib.hid fun V hV => Reach_gen V _ A _ (oneS 16 A) 1 ((hr.below hV).more hV.size) hl (by omega) (fun p hp => by have := hs p hp; omega)
    (fun W hW2 x hx => by have hW := hV.trans (hW2.mono hV.size); exact one16 W _ A x (by omega) ((hr.below hW).more hW.size) hl (fun p hp => by have := hs p hp; omega)) (fun x hx => one_size 16 A x (fun p hp => by have := hs p hp; omega) hx)
  clear hcell hn hs hr
  generalize joinS (eachS (oneS 16 A) (wordsS (A.getD 1 ⟨#[]⟩))) = r at *
  generalize A.getD 1 ⟨#[]⟩ = p at *
  generalize wordsS p = L at *
  go_enter Tryz.func9, Tryz.ntmps9
  go_wp2_with fail
  refine (HT.out _).mono ?_
  rintro e w' ⟨rfl, rfl⟩
  go_wp2_with fail
  refine (HL.out _).mono ?_
  rintro e w1 ⟨a1, c1, rfl, HR1, B1⟩
  have HJ := Lib.hid (HK.out w1 B1)
  have HB := Lib.hid B1
  clear B1 hcn
  go_wp2_with fail
  refine HJ.out.mono ?_
  rintro e w2 ⟨rfl, B2⟩
  go_wp2_with fail
  go_ret2
  rw [HE.out]
  exact ⟨rfl, HB.out.trans (B2.mono HB.out.size)⟩
set_option maxHeartbeats 8000000 in
theorem call17 (w : World) (v : Value) (A : List ByteArray) (hr : Rd w w.heap.size v (strsC A)) (hl : A.length = 2) (hs : ∀ p ∈ A, p.size ≤ 9000) : Calls Tryz.prog 9 #[.string ⟨#[97, 100, 100, 115, 117, 102, 102, 105, 120]⟩, v] w fun e w' => e = ansE (resS 17 A) ∧ Below w.heap.size w w' := by
  obtain ⟨a0, c0, rfl, _⟩ := hr.shape
  simp only [strsC_len] at hr ⊢
  obtain ⟨g, o, rfl, hn, hc, hg, hcell⟩ := rd_cell hr 0 (by omega)
  rw [hl] at hr hc ⊢
  have HR := Lib.hid hr
  have HT := Lib.hid fun W => takes17 W
  have hp0 := getD_size hs 0
  have hp1 := getD_size hs 1
  have HL := Lib.hid fun W => Rlist2_any W (A.getD 1 ⟨#[]⟩) (by omega)
  have hwl := words_few (A.getD 1 ⟨#[]⟩)
  have hcn := hcell 1 (by omega)
  have HE : Hid (resS 17 A = (joinS (eachS (oneS 17 A) (wordsS (A.getD 1 ⟨#[]⟩))), 0)) := Lib.hid rfl
  have HK : Hid (∀ W, Below w.heap.size w W → Calls Tryz.prog 26 #[.string ⟨#[97, 100, 100, 115, 117, 102, 102, 105, 120]⟩, .slice (some ⟨g, o, none⟩) 2 c0] W fun e w' => e = .returned (.string (joinS (eachS (oneS 17 A) (wordsS (A.getD 1 ⟨#[]⟩))))) ∧ Below W.heap.size W w') := Lib.hid fun V hV => Reach_gen V _ A _ (oneS 17 A) 1 ((hr.below hV).more hV.size) hl (by omega) (fun p hp => by have := hs p hp; omega)
    (fun W hW2 x hx => by have hW := hV.trans (hW2.mono hV.size); exact one17 W _ A x (by omega) ((hr.below hW).more hW.size) hl (fun p hp => by have := hs p hp; omega)) (fun x hx => one_size 17 A x (fun p hp => by have := hs p hp; omega) hx)
  clear hcell hn hs hr
  generalize joinS (eachS (oneS 17 A) (wordsS (A.getD 1 ⟨#[]⟩))) = r at *
  generalize A.getD 1 ⟨#[]⟩ = p at *
  generalize wordsS p = L at *
  go_enter Tryz.func9, Tryz.ntmps9
  go_wp2_with fail
  refine (HT.out _).mono ?_
  rintro e w' ⟨rfl, rfl⟩
  go_wp2_with fail
  refine (HL.out _).mono ?_
  rintro e w1 ⟨a1, c1, rfl, HR1, B1⟩
  have HJ := Lib.hid (HK.out w1 B1)
  have HB := Lib.hid B1
  clear B1 hcn
  go_wp2_with fail
  refine HJ.out.mono ?_
  rintro e w2 ⟨rfl, B2⟩
  go_wp2_with fail
  go_ret2
  rw [HE.out]
  exact ⟨rfl, HB.out.trans (B2.mono HB.out.size)⟩
set_option maxHeartbeats 8000000 in
theorem call18 (w : World) (v : Value) (A : List ByteArray) (hr : Rd w w.heap.size v (strsC A)) (hl : A.length = 2) (hs : ∀ p ∈ A, p.size ≤ 9000) : Calls Tryz.prog 9 #[.string ⟨#[106, 111, 105, 110]⟩, v] w fun e w' => e = ansE (resS 18 A) ∧ Below w.heap.size w w' := by
  obtain ⟨a0, c0, rfl, _⟩ := hr.shape
  simp only [strsC_len] at hr ⊢
  obtain ⟨g, o, rfl, hn, hc, hg, hcell⟩ := rd_cell hr 0 (by omega)
  rw [hl] at hr hc ⊢
  have HR := Lib.hid hr
  have HT := Lib.hid fun W => takes18 W
  have hp0 := getD_size hs 0
  have hp1 := getD_size hs 1
  have HL := Lib.hid fun W => Rlist2_any W (A.getD 1 ⟨#[]⟩) (by omega)
  have hwl := words_few (A.getD 1 ⟨#[]⟩)
  have hcn := hcell 1 (by omega)
  have HE : Hid (resS 18 A = (joinS (pairsS (wordsS (A.getD 0 ⟨#[]⟩)) (wordsS (A.getD 1 ⟨#[]⟩))), 0)) := Lib.hid rfl
  have HS : Hid (∀ q ∈ wordsS (A.getD 0 ⟨#[]⟩), q.size ≤ 9000) := Lib.hid fun q hq => word_lim hp0 hq
  have HS1 : Hid (∀ q ∈ wordsS (A.getD 1 ⟨#[]⟩), q.size ≤ 9000) := Lib.hid fun q hq => word_lim hp1 hq
  have HL0 := Lib.hid fun W => Rlist2_any W (A.getD 0 ⟨#[]⟩) (by omega)
  have hwl0 := words_few (A.getD 0 ⟨#[]⟩)
  have hcm := hcell 0 (by omega)
  rw [Nat.add_zero] at hcm
  clear hcell hn hs hr
  generalize A.getD 1 ⟨#[]⟩ = p at *
  generalize A.getD 0 ⟨#[]⟩ = p0 at *
  generalize wordsS p = L at *
  generalize wordsS p0 = L0 at *
  go_enter Tryz.func9, Tryz.ntmps9
  go_wp2_with fail
  refine (HT.out _).mono ?_
  rintro e w' ⟨rfl, rfl⟩
  go_wp2_with fail
  refine (HL.out _).mono ?_
  rintro e w1 ⟨a1, c1, rfl, HR1, B1⟩
  have hcm1 := (B1.cell (p := ⟨g, o, none⟩) hg).trans hcm
  have HB := Lib.hid B1
  clear B1 hcn hcm
  go_wp2_with fail
  refine (HL0.out _).mono ?_
  rintro e w2 ⟨a2, c2, rfl, HR2, B2⟩
  have HJ := Lib.hid (Rjoined_any w2 _ _ L0 L HR2.out ((HR1.out.below B2).more B2.size) (by omega) (by omega) (fun q hq => by have := HS.out q hq; omega) (fun q hq => by have := HS1.out q hq; omega))
  have HB2 := Lib.hid (HB.out.trans (B2.mono HB.out.size))
  clear B2
  go_wp2_with fail
  refine HJ.out.mono ?_
  rintro e w3 ⟨rfl, B3⟩
  go_wp2_with fail
  go_ret2
  rw [HE.out]
  exact ⟨rfl, HB2.out.trans (B3.mono HB2.out.size)⟩
end Go.Proofs.YtcgigllfkaijnaaGreatDoor.Ew
