/-
  package text: patsubst, addprefix, addsuffix; each and filter as values; word and wordlist of a list.
-/
import Derived.Test.YtenokbceamcekaaGreatDoorQEPFns1
import Derived.Test.YtenokbceamcekaaGreatDoorQEPKept
import Derived.Test.YtenokbceamcekaaGreatDoorQEPPick
namespace Go.Proofs.YtenokbceamcekaaGreatDoor.Ew
open Go.RowKit Go.Proofs.YtenokbceamcekaaGreatDoor Go.Proofs.YtenokbceamcekaaGreatDoor.Ww Go.Proofs.YtenokbceamcekaaGreatDoor.Tw
set_option maxRecDepth 100000

set_option maxHeartbeats 2000000 in
theorem word1_any (w : World) (v : Value) (A : List ByteArray) (hr : Rd w w.heap.size v (strsC A)) (hl : A.length = 2) (hs : ∀ p ∈ A, p.size ≤ 9000) :
    Calls Tryz.prog 60 #[v] w fun e w' => e = ansE (resS 7 A) ∧ Below w.heap.size w w' := by
  obtain ⟨a0, c0, rfl, _⟩ := hr.shape
  simp only [strsC_len] at hr ⊢
  obtain ⟨g0, o, rfl, hn, hc, hg, hcell⟩ := rd_cell hr 0 (by omega)
  rw [hl] at hr hc ⊢
  have hcm := hcell 0 (by omega)
  have hcm1 := hcell 1 (by omega)
  rw [Nat.add_zero] at hcm
  have HE : Hid (resS 7 A = pickS (numS (A.getD 0 ⟨#[]⟩)) (numS (A.getD 0 ⟨#[]⟩)) (wordsS (A.getD 1 ⟨#[]⟩))) := Lib.hid rfl
  have HC := Lib.hid fun W => Pword_any W (A.getD 0 ⟨#[]⟩) (A.getD 1 ⟨#[]⟩) (getD_size hs 0) (getD_size hs 1)
  rw [HE.out]
  clear hcell hn hr hs HE
  generalize pickS (numS (A.getD 0 ⟨#[]⟩)) (numS (A.getD 0 ⟨#[]⟩)) (wordsS (A.getD 1 ⟨#[]⟩)) = r at *
  obtain ⟨r1, r2⟩ := r
  simp only [ansE] at HC ⊢
  generalize A.getD 0 ⟨#[]⟩ = p at *
  generalize A.getD 1 ⟨#[]⟩ = p1 at *
  go_enter Tryz.func60, Tryz.ntmps60
  have S5 : w.drew.cell? ⟨g0, o, none⟩ = some (.string p) ∧ w.drew.cell? ⟨g0, o + 1, none⟩ = some (.string p1) ∧ Below w.heap.size w w.drew := ⟨hcm, hcm1, (Below.refl _ _).drew⟩
  clear hcm hcm1
  go_wp2_with fail
  go_region_held3 (fun W => W.cell? ⟨g0, o, none⟩ = some (.string p) ∧ W.cell? ⟨g0, o + 1, none⟩ = some (.string p1) ∧ Below w.heap.size w W)
    (first | exact S7 | exact S5)
    (first
      | (go_at_call 61; refine (HC.out _).mono ?_; rintro e w7 ⟨rfl, B7⟩; have S7 : w7.cell? ⟨g0, o, none⟩ = some (.string p) ∧ w7.cell? ⟨g0, o + 1, none⟩ = some (.string p1) ∧ Below w.heap.size w w7 := ⟨(B7.cell (p := ⟨g0, o, none⟩) hg).trans S5.1, (B7.cell (p := ⟨g0, o + 1, none⟩) hg).trans S5.2.1, S5.2.2.trans (B7.mono S5.2.2.size)⟩))
  all_goals go_wp2_with fail
  all_goals go_ret2
  all_goals exact ⟨rfl, S7.2.2⟩
set_option maxHeartbeats 2000000 in
theorem wordlist1_any (w : World) (v : Value) (A : List ByteArray) (hr : Rd w w.heap.size v (strsC A)) (hl : A.length = 3) (hs : ∀ p ∈ A, p.size ≤ 9000) :
    Calls Tryz.prog 63 #[v] w fun e w' => e = ansE (resS 9 A) ∧ Below w.heap.size w w' := by
  obtain ⟨a0, c0, rfl, _⟩ := hr.shape
  simp only [strsC_len] at hr ⊢
  obtain ⟨g0, o, rfl, hn, hc, hg, hcell⟩ := rd_cell hr 0 (by omega)
  rw [hl] at hr hc ⊢
  have hcm := hcell 0 (by omega)
  have hcm1 := hcell 1 (by omega)
  have hcm2 := hcell 2 (by omega)
  rw [Nat.add_zero] at hcm
  have HE : Hid (resS 9 A = pickS (numS (A.getD 0 ⟨#[]⟩)) (numS (A.getD 1 ⟨#[]⟩)) (wordsS (A.getD 2 ⟨#[]⟩))) := Lib.hid rfl
  have HC := Lib.hid fun W => Pwordlist_any W (A.getD 0 ⟨#[]⟩) (A.getD 1 ⟨#[]⟩) (A.getD 2 ⟨#[]⟩) (getD_size hs 0) (getD_size hs 1) (getD_size hs 2)
  rw [HE.out]
  clear hcell hn hr hs HE
  generalize pickS (numS (A.getD 0 ⟨#[]⟩)) (numS (A.getD 1 ⟨#[]⟩)) (wordsS (A.getD 2 ⟨#[]⟩)) = r at *
  obtain ⟨r1, r2⟩ := r
  simp only [ansE] at HC ⊢
  generalize A.getD 0 ⟨#[]⟩ = p at *
  generalize A.getD 1 ⟨#[]⟩ = p1 at *
  generalize A.getD 2 ⟨#[]⟩ = p2 at *
  go_enter Tryz.func63, Tryz.ntmps63
  have S5 : w.drew.cell? ⟨g0, o, none⟩ = some (.string p) ∧ w.drew.cell? ⟨g0, o + 1, none⟩ = some (.string p1) ∧ w.drew.cell? ⟨g0, o + 2, none⟩ = some (.string p2) ∧ Below w.heap.size w w.drew := ⟨hcm, hcm1, hcm2, (Below.refl _ _).drew⟩
  clear hcm hcm1 hcm2
  go_wp2_with fail
  go_region_held3 (fun W => W.cell? ⟨g0, o, none⟩ = some (.string p) ∧ W.cell? ⟨g0, o + 1, none⟩ = some (.string p1) ∧ W.cell? ⟨g0, o + 2, none⟩ = some (.string p2) ∧ Below w.heap.size w W)
    (first | exact S7 | exact S5)
    (first
      | (go_at_call 64; refine (HC.out _).mono ?_; rintro e w7 ⟨rfl, B7⟩; have S7 : w7.cell? ⟨g0, o, none⟩ = some (.string p) ∧ w7.cell? ⟨g0, o + 1, none⟩ = some (.string p1) ∧ w7.cell? ⟨g0, o + 2, none⟩ = some (.string p2) ∧ Below w.heap.size w w7 := ⟨(B7.cell (p := ⟨g0, o, none⟩) hg).trans S5.1, (B7.cell (p := ⟨g0, o + 1, none⟩) hg).trans S5.2.1, (B7.cell (p := ⟨g0, o + 2, none⟩) hg).trans S5.2.2.1, S5.2.2.2.trans (B7.mono S5.2.2.2.size)⟩))
  all_goals go_wp2_with fail
  all_goals go_ret2
  all_goals exact ⟨rfl, S7.2.2.2⟩

theorem CK.alloc (w : World) (o : Obj) : CK w (w.alloc o) := CK.of ((Below.refl _ w).alloc (Nat.le_refl _) o)
theorem each_any (w : World) (g : Nat) (lb : Array Value) : Calls Tryz.prog 67 #[FA g lb] w fun e w' => e = .returned (FA 95 #[.pointer (some ⟨w.heap.size, 0, none⟩)]) ∧ w.alloc (.cells #[FA g lb] FT) = w' := by
  go_enter Tryz.func67, Tryz.ntmps67
  go_wp2_with fail
  go_ret
  exact ⟨rfl, rfl⟩
theorem eg_each1 : Enters 95 := enters_of Tryz.func95 (by kernel_rfl) rfl
theorem each_fn (w : World) (g : Nat) (lb : Array Value) (f : ByteArray → ByteArray) (eg : Enters g) (HG : ∀ W x, CK w W → x.size ≤ 9000 → Calls Tryz.prog g (#[.string x] ++ lb) W fun e w' => e = .returned (.string (f x)) ∧ Below W.heap.size W w') (hf : ∀ x, x.size ≤ 9000 → (f x).size ≤ 100000) :
    Fn1 (w.alloc (.cells #[FA g lb] FT)) 95 #[.pointer (some ⟨w.heap.size, 0, none⟩)] (fun s => joinS (eachS f (wordsS s))) :=
  ⟨eg_each1, fun w' p c _ hp => each1_any w' p hp w.heap.size g lb f eg (c.box (Boxed.new w FT (FA g lb))) (fun W x hW hx => HG W x (((CK.alloc w _).trans c).trans (CK.of hW)) hx) hf⟩
theorem filter_any (w : World) (q : Bool) : Calls Tryz.prog 58 #[.bool q] w fun e w' => e = .returned (FA 90 #[.pointer (some ⟨w.heap.size, 0, none⟩)]) ∧ w.alloc (.cells #[.bool q] 4) = w' := by
  go_enter Tryz.func58, Tryz.ntmps58
  go_wp2_with fail
  go_ret
  exact ⟨rfl, rfl⟩
theorem eg_filter1 : Enters 90 := enters_of Tryz.func90 (by kernel_rfl) rfl
theorem filter_fn (w : World) (q : Bool) : Fn2 (w.alloc (.cells #[.bool q] 4)) 90 #[.pointer (some ⟨w.heap.size, 0, none⟩)] (fun p s => joinS (keptS (wordsS p) q (wordsS s))) :=
  ⟨eg_filter1, fun w' p s c _ hp hs => filter1_any w' p s hp hs w.heap.size q (c.box (Boxed.new w 4 (.bool q)))⟩
theorem prefix1_any (w : World) (b : Nat) (p x : ByteArray) (hb : Boxed w b ST (.string p)) (hp : p.size ≤ 9000) (hx : x.size ≤ 9000) : Calls Tryz.prog 97 #[.string x, .pointer (some ⟨b, 0, none⟩)] w fun e w' => e = .returned (.string (p ++ x)) ∧ Below w.heap.size w w' := by
  have c1 := hb.cell
  have hz : p.size + x.size ≤ 18000 := by omega
  clear hb
  go_enter Tryz.func97, Tryz.ntmps97
  go_wp2_with fail
  go_ret
  exact ⟨rfl, Below.refl _ _⟩
theorem suffix1_any (w : World) (b : Nat) (p x : ByteArray) (hb : Boxed w b ST (.string p)) (hp : p.size ≤ 9000) (hx : x.size ≤ 9000) : Calls Tryz.prog 98 #[.string x, .pointer (some ⟨b, 0, none⟩)] w fun e w' => e = .returned (.string (x ++ p)) ∧ Below w.heap.size w w' := by
  have c1 := hb.cell
  have hz : x.size + p.size ≤ 18000 := by omega
  clear hb
  go_enter Tryz.func98, Tryz.ntmps98
  go_wp2_with fail
  go_ret
  exact ⟨rfl, Below.refl _ _⟩
theorem eg_prefix1 : Enters 97 := enters_of Tryz.func97 (by kernel_rfl) rfl
theorem eg_suffix1 : Enters 98 := enters_of Tryz.func98 (by kernel_rfl) rfl
set_option maxHeartbeats 2000000 in
theorem Paddprefix_any (w : World) (p s : ByteArray) (hp : p.size ≤ 9000) (hs : s.size ≤ 9000) : Calls Tryz.prog 72 #[.string p, .string s] w fun e w' => e = .returned (.string (joinS (eachS (fun x => p ++ x) (wordsS s)))) ∧ Below w.heap.size w w' := by
  have HE := Lib.hid fun W => each_any W 97 #[.pointer (some ⟨w.heap.size, 0, none⟩)]
  have hA := ((Below.refl w.heap.size w).alloc (Nat.le_refl _) (.cells #[.string p] ST)).alloc (by simp) (.cells #[FA 97 #[.pointer (some ⟨w.heap.size, 0, none⟩)]] FT)
  have hbx : Boxed ((w.alloc (.cells #[.string p] ST)).alloc (.cells #[FA 97 #[.pointer (some ⟨w.heap.size, 0, none⟩)]] FT)) w.heap.size ST (.string p) := (Boxed.new w ST (.string p)).alloc _
  have hfb : Boxed ((w.alloc (.cells #[.string p] ST)).alloc (.cells #[FA 97 #[.pointer (some ⟨w.heap.size, 0, none⟩)]] FT)) (w.heap.size + 1) FT (FA 97 #[.pointer (some ⟨w.heap.size, 0, none⟩)]) := by
    have := Boxed.new (w.alloc (.cells #[.string p] ST)) FT (FA 97 #[.pointer (some ⟨w.heap.size, 0, none⟩)])
    rwa [World.size_alloc] at this
  have HC := Lib.hid (each1_any _ s hs (w.heap.size + 1) 97 #[.pointer (some ⟨w.heap.size, 0, none⟩)] (fun x => p ++ x) eg_prefix1 hfb (fun W x hW hx => prefix1_any W w.heap.size p x ((CK.of hW).box hbx) hp hx) (fun x hx => by rw [ByteArray.size_append]; omega))
  have HA := Lib.hid hA
  clear hfb hbx hA
  generalize joinS (eachS (fun x => p ++ x) (wordsS s)) = r at *
  go_enter Tryz.func72, Tryz.ntmps72
  go_wp2_with fail
  refine (HE.out _).mono ?_
  rintro e w' ⟨rfl, rfl⟩
  go_wp2_with fail
  refine HC.out.mono ?_
  rintro e w3 ⟨rfl, B3⟩
  go_wp2_with fail
  go_ret
  exact ⟨rfl, HA.out.trans (B3.mono HA.out.size)⟩
set_option maxHeartbeats 2000000 in
theorem Paddsuffix_any (w : World) (p s : ByteArray) (hp : p.size ≤ 9000) (hs : s.size ≤ 9000) : Calls Tryz.prog 73 #[.string p, .string s] w fun e w' => e = .returned (.string (joinS (eachS (fun x => x ++ p) (wordsS s)))) ∧ Below w.heap.size w w' := by
  have HE := Lib.hid fun W => each_any W 98 #[.pointer (some ⟨w.heap.size, 0, none⟩)]
  have hA := ((Below.refl w.heap.size w).alloc (Nat.le_refl _) (.cells #[.string p] ST)).alloc (by simp) (.cells #[FA 98 #[.pointer (some ⟨w.heap.size, 0, none⟩)]] FT)
  have hbx : Boxed ((w.alloc (.cells #[.string p] ST)).alloc (.cells #[FA 98 #[.pointer (some ⟨w.heap.size, 0, none⟩)]] FT)) w.heap.size ST (.string p) := (Boxed.new w ST (.string p)).alloc _
  have hfb : Boxed ((w.alloc (.cells #[.string p] ST)).alloc (.cells #[FA 98 #[.pointer (some ⟨w.heap.size, 0, none⟩)]] FT)) (w.heap.size + 1) FT (FA 98 #[.pointer (some ⟨w.heap.size, 0, none⟩)]) := by
    have := Boxed.new (w.alloc (.cells #[.string p] ST)) FT (FA 98 #[.pointer (some ⟨w.heap.size, 0, none⟩)])
    rwa [World.size_alloc] at this
  have HC := Lib.hid (each1_any _ s hs (w.heap.size + 1) 98 #[.pointer (some ⟨w.heap.size, 0, none⟩)] (fun x => x ++ p) eg_suffix1 hfb (fun W x hW hx => suffix1_any W w.heap.size p x ((CK.of hW).box hbx) hp hx) (fun x hx => by rw [ByteArray.size_append]; omega))
  have HA := Lib.hid hA
  clear hfb hbx hA
  generalize joinS (eachS (fun x => x ++ p) (wordsS s)) = r at *
  go_enter Tryz.func73, Tryz.ntmps73
  go_wp2_with fail
  refine (HE.out _).mono ?_
  rintro e w' ⟨rfl, rfl⟩
  go_wp2_with fail
  refine HC.out.mono ?_
  rintro e w3 ⟨rfl, B3⟩
  go_wp2_with fail
  go_ret
  exact ⟨rfl, HA.out.trans (B3.mono HA.out.size)⟩
set_option maxHeartbeats 2000000 in
theorem Ppatsubst_any (w : World) (a b s : ByteArray) (ha : a.size ≤ 9000) (hb : b.size ≤ 9000) (hs : s.size ≤ 9000) : Calls Tryz.prog 53 #[.string a, .string b, .string s] w fun e w' => e = .returned (.string (joinS (eachS (fun x => chS (trimT a) (trimT b) x) (wordsS s)))) ∧ Below w.heap.size w w' := by
  have HL := Lib.hid fun W => PSplit_any W s (by omega)
  have HTa := Lib.hid fun W => PTrim_any W a (by omega)
  have HTb := Lib.hid fun W => PTrim_any W b (by omega)
  have hwl := words_few s
  have HS : Hid (∀ q ∈ wordsS s, q.size ≤ 9000) := Lib.hid fun q hq => word_lim hs hq
  have hta := trim_len a
  have htb := trim_len b
  have HE : Hid (eachS (fun x => chS (trimT a) (trimT b) x) (wordsS s) = fullS ((wordsS s).map (chS (trimT a) (trimT b)))) := Lib.hid rfl
  rw [HE.out]
  clear HE
  generalize wordsS s = L at *
  generalize trimT a = ta at *
  generalize trimT b = tb at *
  go_enter Tryz.func53, Tryz.ntmps53
  go_wp2_with fail
  refine (HL.out _).mono ?_
  rintro e w1 ⟨a1, c1, rfl, HO, B1⟩
  have HB1 := Lib.hid B1
  clear B1
  go_wp2_with fail
  refine (HTa.out _).mono ?_
  rintro e w2 ⟨rfl, B2⟩
  have HB2 := Lib.hid (HB1.out.trans (B2.mono HB1.out.size))
  have HO2 := Lib.hid (owns_below HO.out B2)
  clear B2
  go_wp2_with fail
  refine (HTb.out _).mono ?_
  rintro e w3 ⟨rfl, B3⟩
  have HB3 := Lib.hid (HB2.out.trans (B3.mono HB2.out.size))
  have HA := Lib.hid (All_own w3 (.slice a1 L.length c1) L ta tb (Rd.of_own (owns_below HO2.out B3)) (by omega) (fun x hx => by have := HS.out x hx; omega) (by omega) (by omega))
  clear B3
  go_wp2_with fail
  refine HA.out.mono ?_
  rintro e w4 ⟨v4, rfl, ho4, B4⟩
  have HB4 := Lib.hid (HB3.out.trans (B4.mono HB3.out.size))
  have HP := Lib.hid (Plist_any w4 w3.heap.size v4 (L.map (chS ta tb)) (by rw [List.length_map]; exact ho4) B4.size (by rw [List.length_map]; omega) (fun q hq => by
    obtain ⟨y, hy, rfl⟩ := List.mem_map.1 hq
    have h1 := ch_len ta tb y
    have h2 := HS.out y hy
    omega))
  have hw3 := HB3.out.size
  obtain ⟨a4, c4, rfl⟩ := owns_slice ho4
  clear B4 ho4
  go_wp2_with fail
  refine HP.out.mono ?_
  rintro e w5 ⟨rfl, B5, _⟩
  go_wp2_with fail
  go_ret
  exact ⟨rfl, HB4.out.trans (B5.mono hw3)⟩
end Go.Proofs.YtenokbceamcekaaGreatDoor.Ew
