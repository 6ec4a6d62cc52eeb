/-
  flatironref13: each, kept.
-/
import Derived.Deep.RegionHeld3
import Derived.Test.YtenokbceamcekaaGreatDoorQEOne
import Derived.Test.YtenokbceamcekaaGreatDoorQEJoin
namespace Go.Proofs.YtenokbceamcekaaGreatDoor.Ew
open Go.RowKit Go.Proofs.YtenokbceamcekaaGreatDoor Go.Proofs.YtenokbceamcekaaGreatDoor.Ww Go.Proofs.YtenokbceamcekaaGreatDoor.Tw
set_option maxRecDepth 100000

theorem words_size {s p : ByteArray} (h : p ∈ wordsS s) : p.size ≤ s.size := by
  unfold wordsS at h
  obtain ⟨x, hx, rfl⟩ := List.mem_map.1 h
  have := Wp.items_in hx
  rw [by8_len] at this
  unfold part
  rw [ByteArray.size_extract]; omega
theorem words_few (s : ByteArray) : (wordsS s).length ≤ s.size := by rw [wordsS_len]; exact items_size s
/-- list, its answer written out. -/
theorem Rlist2_any (w : World) (s : ByteArray) (hs : s.size ≤ 1000000) : Calls Tryz.prog 24 #[.string s] w fun e w' => ∃ a c, e = .returned (.slice a (wordsS s).length c) ∧ Hid (Rd w' w'.heap.size (.slice a (wordsS s).length c) (strsC (wordsS s))) ∧ Below w.heap.size w w' := by
  refine (Rlist_any w s hs).mono ?_
  rintro e w' ⟨v, rfl, hr, hB⟩
  obtain ⟨a, c, rfl, hc⟩ := hr.shape
  rw [strsC_len] at hr
  exact ⟨a, c, by rw [strsC_len], Lib.hid hr, hB⟩

/-- What a function makes of each word, without what is empty. -/
def eachS (g : ByteArray → ByteArray) (l : List ByteArray) : List ByteArray := (l.map g).filter fun p => decide (by8 p ≠ [])
theorem each_take {g : ByteArray → ByteArray} {l : List ByteArray} {k : Nat} (h : k < l.length) : eachS g (l.take (k + 1)) = eachS g (l.take k) ++ (if by8 (g l[k]) = [] then [] else [g l[k]]) := by
  unfold eachS
  rw [List.take_succ_eq_append_getElem h, List.map_append, List.filter_append]
  congr 1
  by_cases h0 : by8 (g l[k]) = []
  · rw [if_pos h0]; simp [h0]
  · rw [if_neg h0]; simp [h0]
theorem each_len (g : ByteArray → ByteArray) (l : List ByteArray) : (eachS g l).length ≤ l.length := by
  unfold eachS
  exact Nat.le_trans (List.length_filter_le _ _) (by rw [List.length_map]; exact Nat.le_refl _)
theorem each_mem {g : ByteArray → ByteArray} {l : List ByteArray} {p : ByteArray} (h : p ∈ eachS g l) : ∃ x ∈ l, p = g x := by
  unfold eachS at h
  obtain ⟨x, hx, rfl⟩ := List.mem_map.1 (List.mem_filter.1 h).1
  exact ⟨x, hx, rfl⟩
/-- What the loop's head knows. -/
def EaRel (w0 : World) (g : ByteArray → ByteArray) (l : List ByteArray) (v i : Value) (wr : World) : Prop :=
  ∃ (k : Nat) (out : List ByteArray) (ad : Option Addr) (c : Nat), v = .slice ad out.length c ∧ i = .int .i64 (k : Int) ∧ k ≤ l.length ∧ out = eachS g (l.take k) ∧ wr.ownsRow w0.heap.size ST 1 (.slice ad out.length c) out.length (strsC out) ∧ Below w0.heap.size w0 wr

set_option maxHeartbeats 4000000 in
theorem Reach_gen (w : World) (v : Value) (A : List ByteArray) (f : ByteArray) (g : ByteArray → ByteArray) (n : Nat) (hr : Rd w w.heap.size v (strsC A)) (hl : A.length = n + 1) (hn3 : n ≤ 2) (hs : ∀ p ∈ A, p.size ≤ 10000)
    (HO : ∀ W, Below w.heap.size w W → ∀ x, x.size ≤ 10000 → Calls Tryz.prog 44 #[.string f, v, .string x] W fun e w' => e = .returned (.string (g x)) ∧ Below W.heap.size W w')
    (hg : ∀ x, x.size ≤ 10000 → (g x).size ≤ 100000) :
    Calls Tryz.prog 33 #[.string f, v] w fun e w' => e = .returned (.string (joinS (eachS g (wordsS (A.getD n ⟨#[]⟩))))) ∧ Below w.heap.size w w' := by
  obtain ⟨i0, hi, hz0, hz1, hz2⟩ := info_parts infoS
  have HG := Lib.hid hg
  obtain ⟨a0, c0, rfl, _⟩ := hr.shape
  simp only [strsC_len] at hr HO ⊢
  obtain ⟨ga, oa, rfl, hn, hc, hga, hcell⟩ := rd_cell hr 0 (by omega)
  have hp := getD_size hs n
  have hcn := hcell n (by omega)
  rw [hl] at HO hc ⊢
  have HOO := Lib.hid HO
  clear hcell hn hl hs hr HO hg
  generalize A.getD n ⟨#[]⟩ = p at *
  have HL := Lib.hid fun W => Rlist2_any W p (by omega)
  have HWS : Hid (∀ q ∈ wordsS p, q.size ≤ 10000) := Lib.hid fun q hq => Nat.le_trans (words_size hq) hp
  have hwl := words_few p
  generalize wordsS p = l at *
  have hw1 : IntKind.i64.wrap ((n : Int) + 1 - 1) = (n : Int) := by rw [IntWalk.i64_in _ (by omega)]; omega
  have hw2 : IntKind.i64.wrap (n : Int) = (n : Int) := by rw [IntWalk.i64_in _ (by omega)]
  have hw3 : (n : Int) + 1 - 1 = (n : Int) := by omega
  have hn0 : (0 : Int) ≤ (n : Int) := by omega
  have hn1 : (n : Int) < (n : Int) + 1 := by omega
  go_enter Tryz.func33, Tryz.ntmps33
  go_wp2_with fail
  refine (HL.out _).mono ?_
  rintro e w1 ⟨a1, c1, rfl, HR, B1⟩
  have HB1 := Lib.hid B1
  clear B1 hcn
  go_wp2_with fail
  go_loopw [5, 7] (fun v i wr => EaRel w1 g l v i wr) (fun _ i _ => l.length - (intOf i).toNat)
  case atStart => exact ⟨0, [], none, 0, rfl, rfl, Nat.zero_le _, rfl, World.ownsRow_nil _ _ _ _, Below.refl _ _⟩
  case round =>
    obtain ⟨k, out, ad, c, rfl, rfl, hk, ho, hrow, hB⟩ := hrel
    have HRow := Lib.hid hrow
    have HB := Lib.hid hB
    have hol : out.length ≤ l.length := by rw [ho]; exact Nat.le_trans (each_len g _) (by rw [List.length_take]; omega)
    by_cases hlt : k < l.length
    · obtain ⟨g2, o2, ha1, _, hc1, hg2, hcell⟩ := rd_cell HR.out 0 (by omega)
      subst ha1
      have hcx : wr.cell? ⟨g2, o2 + k, none⟩ = some (.string l[k]) := by
        have h := (hB.cell (p := ⟨g2, o2 + k, none⟩) hg2).trans (hcell k hlt)
        rw [List.getD, List.getElem?_eq_getElem hlt] at h
        exact h
      have hki : (k : Int) < l.length := by omega
      have hk0 : (0 : Int) ≤ (k : Int) := Int.natCast_nonneg _
      have hxs := HWS.out _ (List.getElem_mem hlt)
      have HC := Lib.hid (HOO.out wr (HB1.out.trans (hB.mono HB1.out.size)) l[k] hxs)
      have HT := Lib.hid (each_take (g := g) hlt)
      clear hcell hrow hB
      generalize l[k] = x at *
      by_cases h0 : by8 (g x) = []
      · have hb0 : ((g x).toList == []) = true := by rw [toList_by8, h0]; rfl
        have HN : Hid (out = eachS g (l.take (k + 1))) := Lib.hid (by rw [HT.out, if_pos h0, List.append_nil, ho])
        clear ho h0 HT
        generalize g x = r at *
        go_wp2_with fail
        refine HC.out.mono ?_
        rintro e w2 ⟨rfl, B2⟩
        have HRow2 := Lib.hid (show w2.ownsRow _ ST 1 (.slice ad out.length c) out.length (strsC out) from owns_below HRow.out B2)
        have HB2 := Lib.hid (HB.out.trans (B2.mono HB.out.size))
        clear B2
        go_wp2_with fail
        go_roundw
        case rel => exact ⟨k + 1, out, ad, c, rfl, by go_num, hlt, HN.out, HRow2.out, HB2.out⟩
        case measure => simp [intOf]; omega
      · have hb0 : ((g x).toList == []) = false := by rw [toList_by8]; exact beq_eq_false_iff_ne.2 h0
        have HN : Hid (out ++ [g x] = eachS g (l.take (k + 1))) := Lib.hid (by rw [HT.out, if_neg h0, ho])
        clear ho h0 HT
        generalize g x = r at *
        go_wp2_with fail
        refine HC.out.mono ?_
        rintro e w2 ⟨rfl, B2⟩
        have HRow2 := Lib.hid (show w2.ownsRow _ ST 1 (.slice ad out.length c) out.length (strsC out) from owns_below HRow.out B2)
        have HB2 := Lib.hid (HB.out.trans (B2.mono HB.out.size))
        clear B2
        go_wp2_with (at_builtin; refine wpList_append_own _ rfl _ _ 22 rfl w1.heap.size ST i0 (.string ByteArray.empty) 1 16 Tryz.underlying22 hi hz0 hz1 hz2 rfl (by decide) _ _ _ rfl (HRow2.out.alloc _) ⟨w2.heap.size, 0, none⟩ 1 1 [.string r] rfl rfl (cell_one_new _ _ _) (by simp [Value.oneCell']) (by unfold maxLen; omega) (by omega) (by have := HB2.out.size; simp; omega) ?_; intro v' w3 hown' hgrow _; obtain ⟨a2, c2, rfl⟩ := owns_slice hown')
        go_roundw
        case rel => exact ⟨k + 1, out ++ [r], a2, c2, by rw [List.length_append]; rfl, by go_num, hlt, HN.out, row_snoc hown', (HB2.out.alloc HB2.out.size _).grown hgrow (by have := HB2.out.size; simp; omega) fun j ej => (HRow2.out.lt j ej).1⟩
        case measure => simp [intOf]; omega
    · obtain rfl : k = l.length := by omega
      have hki : ¬ (l.length : Int) < l.length := by omega
      have HE : Hid (out = eachS g l) := Lib.hid (by rw [ho, List.take_of_length_le (Nat.le_refl _)])
      have HJ := Lib.hid (RJoin_any wr _ out (Rd.of_own hrow) (by omega) (fun q hq => by
        rw [HE.out] at hq
        obtain ⟨x, hx, rfl⟩ := each_mem hq
        exact HG.out x (HWS.out x hx)))
      clear ho hrow hB
      go_wp2_with fail
      refine HJ.out.mono ?_
      rintro e w2 ⟨rfl, B2⟩
      go_wp2_with fail
      go_ret
      rw [← HE.out]
      exact ⟨rfl, HB1.out.trans ((HB.out.trans (B2.mono HB.out.size)).mono HB1.out.size)⟩

/-- Words that are of patterns, or not. -/
def keptS (P : List ByteArray) (q : Bool) (l : List ByteArray) : List ByteArray := l.filter fun x => ofS P x == q
theorem kept_take {P : List ByteArray} {q : Bool} {l : List ByteArray} {k : Nat} (h : k < l.length) : keptS P q (l.take (k + 1)) = keptS P q (l.take k) ++ (if ofS P l[k] = q then [l[k]] else []) := by
  unfold keptS
  rw [List.take_succ_eq_append_getElem h, List.filter_append]
  congr 1
  by_cases h0 : ofS P l[k] = q
  · rw [if_pos h0]; simp [h0]
  · rw [if_neg h0]; simp [h0]
theorem kept_len (P : List ByteArray) (q : Bool) (l : List ByteArray) : (keptS P q l).length ≤ l.length := by unfold keptS; exact List.length_filter_le _ _
/-- What the loop's head knows. -/
def KeRel (w0 : World) (P : List ByteArray) (q : Bool) (l : List ByteArray) (v i : Value) (wr : World) : Prop :=
  ∃ (k : Nat) (out : List ByteArray) (ad : Option Addr) (c : Nat), v = .slice ad out.length c ∧ i = .int .i64 (k : Int) ∧ k ≤ l.length ∧ out = keptS P q (l.take k) ∧ wr.ownsRow w0.heap.size ST 1 (.slice ad out.length c) out.length (strsC out) ∧ Below w0.heap.size w0 wr
theorem held_pq {w0 W W' : World} {p1 p2 : Addr} {u u2 : Value} (h1 : p1.block < w0.heap.size) (h2 : p2.block < w0.heap.size) (h : W.cell? p1 = some u ∧ W.cell? p2 = some u2 ∧ Below w0.heap.size w0 W) (b : Below W.heap.size W W') : W'.cell? p1 = some u ∧ W'.cell? p2 = some u2 ∧ Below w0.heap.size w0 W' :=
  ⟨(b.cell (p := p1) (Nat.lt_of_lt_of_le h1 h.2.2.size)).trans h.1, (b.cell (p := p2) (Nat.lt_of_lt_of_le h2 h.2.2.size)).trans h.2.1, h.2.2.trans (b.mono h.2.2.size)⟩
set_option maxHeartbeats 8000000 in
theorem Rkept_any (w : World) (v : Value) (A : List ByteArray) (q : Bool) (hr : Rd w w.heap.size v (strsC A)) (hl : A.length = 2) (hs : ∀ p ∈ A, p.size ≤ 10000) :
    Calls Tryz.prog 27 #[v, .bool q] w fun e w' => e = .returned (.string (joinS (keptS (wordsS (A.getD 0 ⟨#[]⟩)) q (wordsS (A.getD 1 ⟨#[]⟩))))) ∧ Below w.heap.size w w' := by
  obtain ⟨i0, hi, hz0, hz1, hz2⟩ := info_parts infoS
  obtain ⟨a0, c0, rfl, _⟩ := hr.shape
  simp only [strsC_len] at hr ⊢
  obtain ⟨ga, oa, rfl, hn, hc, hga, hcell⟩ := rd_cell hr 0 (by omega)
  have hp0 := getD_size hs 0
  have hp1 := getD_size hs 1
  have hcn := hcell 0 (by omega)
  have hcm := hcell 1 (by omega)
  rw [Nat.add_zero] at hcn
  rw [hl] at hc ⊢
  clear hcell hn hl hs hr
  generalize A.getD 0 ⟨#[]⟩ = p at *
  generalize A.getD 1 ⟨#[]⟩ = p1 at *
  have HL := Lib.hid fun W => Rlist2_any W p (by omega)
  have HL1 := Lib.hid fun W => Rlist2_any W p1 (by omega)
  have HPS : Hid (∀ q ∈ wordsS p, q.size ≤ 10000) := Lib.hid fun q hq => Nat.le_trans (words_size hq) hp0
  have hpl := words_few p
  generalize wordsS p = P at *
  have HWS : Hid (∀ q ∈ wordsS p1, q.size ≤ 10000) := Lib.hid fun q hq => Nat.le_trans (words_size hq) hp1
  have hwl := words_few p1
  generalize wordsS p1 = l at *
  go_enter Tryz.func27, Tryz.ntmps27
  go_wp2_with fail
  refine (HL1.out _).mono ?_
  rintro e w1 ⟨a1, c1, rfl, HR, B1⟩
  have HB1 := Lib.hid B1
  clear B1 hcm
  go_wp2_with fail
  go_loopw [5, 7] (fun v i wr => KeRel w1 P q l v i wr) (fun _ i _ => l.length - (intOf i).toNat)
  case atStart => exact ⟨0, [], none, 0, rfl, rfl, Nat.zero_le _, rfl, World.ownsRow_nil _ _ _ _, Below.refl _ _⟩
  case round =>
    obtain ⟨k, out, ad, c, rfl, rfl, hk, ho, hrow, hB⟩ := hrel
    have HRow := Lib.hid hrow
    have HB := Lib.hid hB
    have hol : out.length ≤ l.length := by rw [ho]; exact Nat.le_trans (kept_len P q _) (by rw [List.length_take]; omega)
    by_cases hlt : k < l.length
    · obtain ⟨g2, o2, ha1, _, hc1, hg2, hcell⟩ := rd_cell HR.out 0 (by omega)
      subst ha1
      have hcx : wr.cell? ⟨g2, o2 + k, none⟩ = some (.string l[k]) := by
        have h := (hB.cell (p := ⟨g2, o2 + k, none⟩) hg2).trans (hcell k hlt)
        rw [List.getD, List.getElem?_eq_getElem hlt] at h
        exact h
      have hca : wr.cell? ⟨ga, oa, none⟩ = some (.string p) := ((HB1.out.trans (hB.mono HB1.out.size)).cell (p := ⟨ga, oa, none⟩) hga).trans hcn
      have hga1 : ga < wr.heap.size := Nat.lt_of_lt_of_le (Nat.lt_of_lt_of_le hga HB1.out.size) hB.size
      have hg2w : g2 < wr.heap.size := Nat.lt_of_lt_of_le hg2 hB.size
      have hki : (k : Int) < l.length := by omega
      have hk0 : (0 : Int) ≤ (k : Int) := Int.natCast_nonneg _
      have hxs := HWS.out _ (List.getElem_mem hlt)
      have HT := Lib.hid (kept_take (P := P) (q := q) hlt)
      have HO := Lib.hid ho
      clear hcell hrow hB ho hcn
      generalize l[k] = x at *
      have S5 : wr.drew.cell? ⟨ga, oa, none⟩ = some (.string p) ∧ wr.drew.cell? ⟨g2, o2 + k, none⟩ = some (.string x) ∧ Below wr.heap.size wr wr.drew := ⟨hca, hcx, (Below.refl _ _).drew⟩
      obtain ⟨y, hy⟩ : ∃ y, ofS P x = y := ⟨_, rfl⟩
      rw [hy] at HT
      have HY := Lib.hid hy
      clear hy
      go_wp2_with fail
      go_region_held3 (fun W => W.cell? ⟨ga, oa, none⟩ = some (.string p) ∧ W.cell? ⟨g2, o2 + k, none⟩ = some (.string x) ∧ Below wr.heap.size wr W)
        (first | exact S7 | exact S6 | exact S5)
        (first
          | (go_at_call 24; refine (HL.out _).mono ?_; rintro e w6 ⟨a6, c6, rfl, HR6, B6⟩; have S6 := held_pq (p1 := ⟨ga, oa, none⟩) (p2 := ⟨g2, o2 + k, none⟩) hga1 hg2w S5 B6)
          | (go_at_call 42; refine (Rof_any _ _ P x HR6.out (by omega) (fun z hz => by have := HPS.out z hz; omega) (by omega)).mono ?_; rintro e w7 ⟨rfl, B7⟩; rw [HY.out]; have S7 := held_pq (p1 := ⟨ga, oa, none⟩) (p2 := ⟨g2, o2 + k, none⟩) hga1 hg2w S6 B7))
      all_goals (
        have HRow7 := Lib.hid (owns_below HRow.out S7.2.2)
        have HB7 := Lib.hid (HB.out.trans (S7.2.2.mono HB.out.size))
        have hcx7 := S7.2.1
        clear S5 S6 S7 B6 B7
        by_cases hyq : y = q)
      · have HN : Hid (out ++ [x] = keptS P q (l.take (k + 1))) := Lib.hid (by rw [HT.out, if_pos hyq, HO.out])
        clear HT HO
        subst hyq
        have hyy : (y == y) = true := beq_self_eq_true _
        go_wp2_with (at_builtin; refine wpList_append_own _ rfl _ _ 22 rfl w1.heap.size ST i0 (.string ByteArray.empty) 1 16 Tryz.underlying22 hi hz0 hz1 hz2 rfl (by decide) _ _ _ rfl (HRow7.out.alloc _) ⟨w7.heap.size, 0, none⟩ 1 1 [.string x] rfl rfl (cell_one_new _ _ _) (by simp [Value.oneCell']) (by unfold maxLen; omega) (by omega) (by have := HB7.out.size; simp; omega) ?_; intro v' w8 hown' hgrow _; obtain ⟨a2, c2, rfl⟩ := owns_slice hown')
        go_roundw
        case rel => exact ⟨k + 1, out ++ [x], a2, c2, by rw [List.length_append]; rfl, by go_num, hlt, HN.out, row_snoc hown', (HB7.out.alloc HB7.out.size _).grown hgrow (by have := HB7.out.size; simp; omega) fun j ej => (HRow7.out.lt j ej).1⟩
        case measure => simp [intOf]; omega
      · have HN : Hid (out = keptS P q (l.take (k + 1))) := Lib.hid (by rw [HT.out, if_neg hyq, List.append_nil, HO.out])
        clear HT HO
        have hyy : (y == q) = false := beq_eq_false_iff_ne.2 hyq
        go_wp2_with fail
        go_roundw
        case rel => exact ⟨k + 1, out, ad, c, rfl, by go_num, hlt, HN.out, HRow7.out, HB7.out⟩
        case measure => simp [intOf]; omega
    · obtain rfl : k = l.length := by omega
      have hki : ¬ (l.length : Int) < l.length := by omega
      have HE : Hid (out = keptS P q l) := Lib.hid (by rw [ho, List.take_of_length_le (Nat.le_refl _)])
      have HJ := Lib.hid (RJoin_any wr _ out (Rd.of_own hrow) (by omega) (fun z hz => by
        rw [HE.out] at hz
        have := HWS.out z (List.mem_filter.1 hz).1
        omega))
      clear ho hrow hB
      go_wp2_with fail
      refine HJ.out.mono ?_
      rintro e w2 ⟨rfl, B2⟩
      go_wp2_with fail
      go_ret
      rw [← HE.out]
      exact ⟨rfl, HB1.out.trans ((HB.out.trans (B2.mono HB.out.size)).mono HB1.out.size)⟩
end Go.Proofs.YtenokbceamcekaaGreatDoor.Ew
