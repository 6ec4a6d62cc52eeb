/-
  package auto: call, first, directories.
-/
import Derived.Deep.RegionHeld3
import Derived.Test.YtenokbceamcekaaGreatDoorQEPCall
import Derived.Test.YtenokbceamcekaaGreatDoorQADirs
namespace Go.Proofs.YtenokbceamcekaaGreatDoor.Aw
open Go.RowKit Go.Proofs.YtenokbceamcekaaGreatDoor Go.Proofs.YtenokbceamcekaaGreatDoor.Ew
open Go.Proofs.YtenokbceamcekaaGreatDoor.Ww hiding wordsS ST
open Go.Proofs.YtenokbceamcekaaGreatDoor.Tw hiding ST
set_option maxRecDepth 100000

theorem good_take {l : Bs} {n : Nat} (h : Wp.Good l) (hn : 0 < n) : Wp.Good (l.take n) := by
  refine ⟨?_, fun c hc => h.2 c (List.mem_of_mem_take hc)⟩
  have := h.1
  cases l with
  | nil => exact absurd rfl this
  | cons a r =>
    obtain ⟨m, rfl⟩ : ∃ m, n = m + 1 := ⟨n - 1, by omega⟩
    simp
theorem dir_slash {x : ByteArray} (hx : GoodS x) : GoodS (oneS 12 [] x) ∧ ∃ l, by8 (oneS 12 [] x) = l ++ [47] := by
  have e : oneS 12 [] x = if Ep.nameA (by8 x) = 0 then ⟨#[46, 47]⟩ else x.extract 0 (Ep.nameA (by8 x)) := rfl
  rw [e]
  split
  · exact ⟨⟨by decide, by decide⟩, [46], rfl⟩
  · rename_i h
    rcases Lib.Pa.lastIndexByte_spec (by8 x) 47 with ⟨h1, _⟩ | ⟨i, h1, h2, _⟩
    · exact absurd (by unfold Ep.nameA; rw [h1]; rfl) h
    · have hn : Ep.nameA (by8 x) = i + 1 := by unfold Ep.nameA; rw [h1]; omega
      have hb : by8 (x.extract 0 (i + 1)) = (by8 x).take (i + 1) := by rw [by8_mid, List.drop_zero, Nat.sub_zero]
      rw [hn]
      refine ⟨by unfold GoodS; rw [hb]; exact good_take hx (Nat.succ_pos _), (by8 x).take i, ?_⟩
      rw [hb, List.take_add_one, h2]; rfl
theorem dirs_words (s : ByteArray) : ∀ x ∈ wordsS (dirT s), ∃ l, by8 x = l ++ [47] := by
  have e : wordsS (dirT s) = eachS (oneS 12 []) (wordsS s) := words_join fun p hp => by
    obtain ⟨x, hx, rfl⟩ := each_mem hp
    exact (dir_slash (words_good hx)).1
  intro x hx
  rw [e] at hx
  obtain ⟨y, hy, rfl⟩ := each_mem hx
  exact (dir_slash (words_good hy)).2
theorem trim_slash (w : World) (x : ByteArray) (hs : x.size ≤ 1000000) (h : ∃ l, by8 x = l ++ [47]) :
    Calls Tryz.prog 20 #[.string x, .string ⟨#[47]⟩] w fun e w' => e = .returned (.string (x.extract 0 (x.size - 1))) ∧ w = w' := by
  obtain ⟨l, hl⟩ := h
  have hz : x.size = l.length + 1 := by rw [← by8_len, hl]; simp
  have he : (⟨#[47]⟩ : ByteArray) = x.extract (x.size - 1) x.size := by8_ext (by
    rw [by8_mid, hl, hz, show l.length + 1 - 1 = l.length by omega, List.drop_left, show l.length + 1 - l.length = 1 by omega]; rfl)
  refine (Tryz.strings_TrimSuffix x ⟨#[47]⟩ w (by omega)).mono ?_
  rintro e w' ⟨rfl, rfl⟩
  refine ⟨?_, rfl⟩
  rw [he, suffix_cut _ _ (by omega)]
theorem slash_is {x : ByteArray} (h : ∃ l, by8 x = l ++ [47]) : (x.toList == [47]) = decide (x.size = 1) := by
  obtain ⟨l, hl⟩ := h
  have hz : x.size = l.length + 1 := by rw [← by8_len, hl]; simp
  rw [toList_by8, hl, hz]
  cases l with
  | nil => rfl
  | cons a r => rw [decide_eq_false (by simp), beq_eq_false_iff_ne]; intro e; have := congrArg List.length e; simp at this
theorem DiRel.store0 {w0 wr : World} {l : List ByteArray} {g c k : Nat} (hk : k < l.length) (hs : 1 < l[k].size) (h : wr.ownsRow w0.heap.size ST 1 (.slice (some ⟨g, 0, none⟩) l.length c) l.length (strsC (rowS l k))) (hB : Below w0.heap.size w0 wr) (hg : w0.heap.size ≤ g) :
    DiRel w0 l (some ⟨g, 0, none⟩) c (.int .i64 ((k : Int) + 1)) (wr.setCell ⟨g, k, none⟩ (.string (l[k].extract 0 (l[k].size - 1)))) := by
  refine ⟨k + 1, by go_num, hk, ?_, hB.setCell (p := ⟨g, k, none⟩) hg _⟩
  have h1 := (h.stored k (.string (l[k].extract 0 (l[k].size - 1)))).1
  rw [strsC_set] at h1
  have e : sh l[k] = l[k].extract 0 (l[k].size - 1) := if_pos hs
  rw [← e, rowS_next hk] at h1
  rw [← e]
  exact h1
theorem Pcall_dir (w : World) (s : ByteArray) (hG : GM w) (hs : s.size ≤ 9000) : Calls Tryz.prog 12 #[.string ⟨#[100, 105, 114]⟩, .string s] w fun e w' => e = .returned (.string (dirT s)) ∧ Below w.heap.size w w' := by
  have hB : Below w.heap.size w (w.alloc (.cells #[.string s] ST)) := (Below.refl _ w).alloc (Nat.le_refl _) _
  have HC := Lib.hid (PCall_any (w.alloc (.cells #[.string s] ST)) _ [s] 12 (hG.below hB) (by decide) (rd_lit w [s] #[.string s] rfl 1 (Nat.le_refl _)) rfl (fun p hp => by rw [List.mem_singleton.1 hp]; exact hs))
  have HE : Hid (resS 12 [s] = (dirT s, 0)) := Lib.hid rfl
  have HN : nm 12 = ⟨#[100, 105, 114]⟩ := rfl
  rw [HE.out, HN] at HC
  simp only [ansE] at HC
  have HB := Lib.hid hB
  clear hB HN HE
  generalize dirT s = d at *
  go_enter Tryz.func12, Tryz.ntmps12
  go_wp2_with fail
  refine HC.out.mono ?_
  rintro e w1 ⟨rfl, B1⟩
  go_wp2_with fail
  go_ret
  exact ⟨rfl, HB.out.trans (B1.mono HB.out.size)⟩
theorem Pcall_notdir (w : World) (s : ByteArray) (hG : GM w) (hs : s.size ≤ 9000) : Calls Tryz.prog 12 #[.string ⟨#[110, 111, 116, 100, 105, 114]⟩, .string s] w fun e w' => e = .returned (.string (nameT s)) ∧ Below w.heap.size w w' := by
  have hB : Below w.heap.size w (w.alloc (.cells #[.string s] ST)) := (Below.refl _ w).alloc (Nat.le_refl _) _
  have HC := Lib.hid (PCall_any (w.alloc (.cells #[.string s] ST)) _ [s] 13 (hG.below hB) (by decide) (rd_lit w [s] #[.string s] rfl 1 (Nat.le_refl _)) rfl (fun p hp => by rw [List.mem_singleton.1 hp]; exact hs))
  have HE : Hid (resS 13 [s] = (nameT s, 0)) := Lib.hid rfl
  have HN : nm 13 = ⟨#[110, 111, 116, 100, 105, 114]⟩ := rfl
  rw [HE.out, HN] at HC
  simp only [ansE] at HC
  have HB := Lib.hid hB
  clear hB HN HE
  generalize nameT s = d at *
  go_enter Tryz.func12, Tryz.ntmps12
  go_wp2_with fail
  refine HC.out.mono ?_
  rintro e w1 ⟨rfl, B1⟩
  go_wp2_with fail
  go_ret
  exact ⟨rfl, HB.out.trans (B1.mono HB.out.size)⟩
set_option maxHeartbeats 4000000 in
theorem Pdirectories_any (w : World) (s : ByteArray) (hG : GM w) (hs : s.size ≤ 9000) : Calls Tryz.prog 11 #[.string s] w fun e w' => e = .returned (.string (dirsT s)) ∧ Below w.heap.size w w' := by
  have HC := Lib.hid (Pcall_dir w s hG hs)
  have hdl := dirT_size hs
  have hsl := dirs_words s
  have HDs : Hid (dirsT s = joinS ((wordsS (dirT s)).map sh)) := Lib.hid rfl
  clear hG
  generalize dirT s = d at *
  have HSp := Lib.hid fun W => PSplit_any W d (by omega)
  have hwl := words_few d
  have HWS : Hid (∀ p ∈ wordsS d, p.size ≤ 100000) := Lib.hid fun p hp => Nat.le_trans (words_size hp) hdl
  have HSl := Lib.hid hsl
  clear hsl
  generalize wordsS d = l at *
  go_enter Tryz.func11, Tryz.ntmps11
  go_wp2_with fail
  refine HC.out.mono ?_
  rintro e w1 ⟨rfl, B1⟩
  have HB1 := Lib.hid B1
  clear B1
  go_wp2_with fail
  refine (HSp.out _).mono ?_
  rintro e w2 ⟨a, c, rfl, hown, B2⟩
  have HO := hown
  have HB2 := Lib.hid B2
  clear hown B2
  go_wp2_with fail
  go_loopw [11] (fun vi wr => DiRel w1 l a c vi wr) (fun vi _ => l.length - (intOf vi).toNat)
  case atStart => exact ⟨0, rfl, Nat.zero_le _, by rw [show rowS l 0 = l from by simp [rowS]]; exact HO.out, HB2.out⟩
  case round =>
    obtain ⟨k, rfl, hk, hrow, hB⟩ := hrel
    by_cases hlt : k < l.length
    · obtain ⟨g, rfl, hgc⟩ := owns_addr hrow (by omega)
      have hg := (hrow.lt g rfl).1
      have hcx : wr.cell? ⟨g, k, none⟩ = some (.string l[k]) := owns_cell hrow (by unfold strsC; rw [List.getElem?_map, rowS_get hlt]; rfl)
      have hfz := hrow.frozenAt k
      have hki : (k : Int) < l.length := by omega
      have hk0 : (0 : Int) ≤ (k : Int) := Int.natCast_nonneg _
      have hsx := HSl.out _ (List.getElem_mem hlt)
      have hpos : 1 ≤ l[k].size := by
        obtain ⟨r, hr⟩ := hsx
        rw [← by8_len, hr]; simp
      have hxs := HWS.out _ (List.getElem_mem hlt)
      have hq := slash_is hsx
      have HTr := Lib.hid fun W => trim_slash W l[k] (by omega) hsx
      clear hsx
      by_cases h1 : 1 < l[k].size
      · rw [decide_eq_false (by omega)] at hq
        have HN := Lib.hid (DiRel.store0 hlt h1 hrow hB hg)
        clear hrow hB h1 hpos
        generalize l[k] = x at *
        go_wp2_with fail
        refine (HTr.out _).mono ?_
        rintro e w3 ⟨rfl, rfl⟩
        go_wp2_with fail
        go_roundw
        case rel => exact HN.out
        case measure => simp [intOf]; omega
      · rw [decide_eq_true (by omega)] at hq
        have hsh : sh l[k] = l[k] := if_neg h1
        rw [rowS_same hlt hsh] at hrow
        clear hcx
        have hcx : wr.cell? ⟨g, k, none⟩ = some (.string l[k]) := owns_cell hrow (by rw [← rowS_same hlt hsh]; unfold strsC; rw [List.getElem?_map, rowS_get hlt]; rfl)
        have HRow := Lib.hid hrow
        clear hrow h1 hsh hpos
        generalize l[k] = x at *
        go_wp2_with fail
        go_roundw
        case rel => exact ⟨k + 1, by go_num, hlt, HRow.out, hB⟩
        case measure => simp [intOf]; omega
    · obtain rfl : k = l.length := by omega
      have hki : ¬ (l.length : Int) < l.length := by omega
      have HB := Lib.hid hB
      have hfull : rowS l l.length = l.map sh := by unfold rowS; rw [List.take_of_length_le (Nat.le_refl _), List.drop_of_length_le (Nat.le_refl _), List.append_nil]
      have HJ := Lib.hid (PJoin_any wr _ (rowS l l.length) (Rd.of_own hrow) (by rw [rowS_len]; omega) (fun p hp => by
        rw [hfull] at hp
        obtain ⟨x, hx, rfl⟩ := List.mem_map.1 hp
        have h1 := HWS.out x hx
        have h2 := sh_size x
        omega))
      rw [hfull] at HJ
      clear hrow hB hfull
      go_wp2_with fail
      refine HJ.out.mono ?_
      rintro e w3 ⟨rfl, B3⟩
      go_wp2_with fail
      go_ret
      rw [HDs.out]
      exact ⟨rfl, HB1.out.trans ((HB.out.trans (B3.mono HB.out.size)).mono HB1.out.size)⟩
/-- The first one, if there is one. -/
theorem Pfirst_one (w : World) (v : Value) (needs : List ByteArray) (hr : Rd w w.heap.size v (strsC needs)) (hl : needs.length ≤ 60) : Calls Tryz.prog 7 #[v] w fun e w' => e = .returned (.string (needs.headD ⟨#[]⟩)) ∧ w = w' := by
  obtain ⟨a0, c0, rfl, hc0⟩ := hr.shape
  cases needs with
  | nil =>
    go_enter Tryz.func7, Tryz.ntmps7
    go_wp2_with fail
    go_ret
    exact ⟨rfl, rfl⟩
  | cons x r =>
    obtain ⟨g, o, ha, _, _, hg, hcell⟩ := rd_cell hr 0 (by simp)
    have hcf : w.cell? ⟨g, o, none⟩ = some (.string x) := hcell 0 (by simp)
    subst ha
    simp only [strsC_len] at *
    obtain ⟨n, hn⟩ : ∃ n, (x :: r).length = n := ⟨_, rfl⟩
    have hn0 : 0 < n := by rw [← hn]; simp
    rw [hn] at hc0 hl ⊢
    have hkk : (0 : Int) < (n : Int) := by omega
    have hkb : ((n : Int) == 0) = false := beq_eq_false_iff_ne.2 (by omega)
    show Calls _ _ _ _ fun e w' => e = .returned (.string x) ∧ w = w'
    clear hr hn hcell
    go_enter Tryz.func7, Tryz.ntmps7
    go_wp2_with fail
    go_ret
    exact ⟨rfl, rfl⟩
end Go.Proofs.YtenokbceamcekaaGreatDoor.Aw
