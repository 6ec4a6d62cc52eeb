/-
  flatironref15.dirs: what a text's words are in.
-/
import Derived.Test.YtenokbceamcekaaGreatDoorQAPlain
namespace Go.Proofs.YtenokbceamcekaaGreatDoor.Aw
open Go.RowKit Go.Proofs.YtenokbceamcekaaGreatDoor Go.Proofs.YtenokbceamcekaaGreatDoor.Ww Go.Proofs.YtenokbceamcekaaGreatDoor.Tw Go.Proofs.YtenokbceamcekaaGreatDoor.Ew
set_option maxRecDepth 100000

theorem each_szs {g : ByteArray → ByteArray} : ∀ {l : List ByteArray}, (∀ x ∈ l, (g x).size ≤ x.size + 1) → szs (eachS g l) ≤ szs l + l.length
  | [], _ => Nat.zero_le _
  | x :: l, h => by
    have ih := each_szs (g := g) (l := l) fun y hy => h y (by simp [hy])
    have hx := h x (by simp)
    unfold eachS at ih ⊢
    rw [List.map_cons, List.filter_cons, szs_cons, List.length_cons]
    split
    · rw [szs_cons]; omega
    · omega
theorem each_join {g : ByteArray → ByteArray} {s : ByteArray} (h : ∀ x, GoodS x → (g x).size ≤ x.size + 1) : (joinS (eachS g (wordsS s))).size ≤ 2 * s.size + 2 := by
  have h1 := join_len (l := eachS g (wordsS s)) (n := s.size + 1) fun p hp => by
    obtain ⟨x, hx, rfl⟩ := each_mem hp
    have := h x (words_good hx)
    have := words_size hx
    omega
  have h2 := each_szs (g := g) (l := wordsS s) fun x hx => h x (words_good hx)
  have h3 := each_len g (wordsS s)
  have h4 := words_sum s
  unfold szs at h2
  omega
theorem good_size {x : ByteArray} (h : GoodS x) : 1 ≤ x.size := by rw [← by8_len]; exact List.length_pos_iff.2 h.1
theorem dirT_size {s : ByteArray} (hs : s.size ≤ 9000) : (dirT s).size ≤ 100000 := by
  have := each_join (g := oneS 12 []) (s := s) fun x hx => by
    have h1 := good_size hx
    have e : oneS 12 [] x = if Ep.nameA (by8 x) = 0 then ⟨#[46, 47]⟩ else x.extract 0 (Ep.nameA (by8 x)) := rfl
    rw [e]
    split
    · show 2 ≤ _; omega
    · rw [ByteArray.size_extract]; omega
  unfold dirT
  omega
/-- The row, its first words shortened. -/
def rowS (l : List ByteArray) (k : Nat) : List ByteArray := (l.take k).map sh ++ l.drop k
theorem rowS_len (l : List ByteArray) (k : Nat) : (rowS l k).length = l.length := by
  unfold rowS
  rw [List.length_append, List.length_map, List.length_take, List.length_drop]; omega
theorem rowS_get {l : List ByteArray} {k : Nat} (h : k < l.length) : (rowS l k)[k]? = some l[k] := by
  unfold rowS
  rw [List.getElem?_append_right (by rw [List.length_map, List.length_take]; omega), List.length_map, List.length_take, Nat.min_eq_left (Nat.le_of_lt h), Nat.sub_self, List.getElem?_drop, Nat.add_zero, List.getElem?_eq_getElem h]
theorem rowS_next {l : List ByteArray} {k : Nat} (h : k < l.length) : (rowS l k).set k (sh l[k]) = rowS l (k + 1) := by
  unfold rowS
  rw [List.set_append_right _ _ (by rw [List.length_map, List.length_take]; omega), List.length_map, List.length_take, Nat.min_eq_left (Nat.le_of_lt h), Nat.sub_self, List.drop_eq_getElem_cons h, List.set_cons_zero, List.take_succ_eq_append_getElem h, List.map_append, List.append_assoc]
  rfl
theorem rowS_same {l : List ByteArray} {k : Nat} (h : k < l.length) (hs : sh l[k] = l[k]) : rowS l k = rowS l (k + 1) := by
  rw [← rowS_next h, hs]
  refine (List.ext_getElem? fun j => ?_)
  rw [List.getElem?_set]
  split
  · rename_i e
    subst e
    rw [rowS_get h, if_pos (by rw [rowS_len]; exact h)]
  · rfl
theorem strsC_set (l : List ByteArray) (k : Nat) (x : ByteArray) : (strsC l).set k (.string x) = strsC (l.set k x) := by simp [strsC, List.map_set]
/-- What the loop's head knows. -/
def DiRel (w0 : World) (l : List ByteArray) (a : Option Addr) (c : Nat) (i : Value) (wr : World) : Prop :=
  ∃ k : Nat, i = .int .i64 (k : Int) ∧ k ≤ l.length ∧ wr.ownsRow w0.heap.size ST 1 (.slice a l.length c) l.length (strsC (rowS l k)) ∧ Below w0.heap.size w0 wr
theorem DiRel.store {w0 wr : World} {l : List ByteArray} {g c k : Nat} (hk : k < l.length) (hs : 1 < l[k].size) (h : wr.ownsRow w0.heap.size ST 1 (.slice (some ⟨g, 0, none⟩) l.length c) l.length (strsC (rowS l k))) (hB : Below w0.heap.size w0 wr) (hg : w0.heap.size ≤ g) :
    DiRel w0 l (some ⟨g, 0, none⟩) c (.int .i64 ((k : Int) + 1)) ((wr.setCell ⟨g, k, none⟩ (.string (l[k].extract 0 (l[k].size - 1)))).drew) := by
  refine ⟨k + 1, by go_num, hk, ?_, (hB.setCell (p := ⟨g, k, none⟩) hg _).drew⟩
  have h1 := (h.stored k (.string (l[k].extract 0 (l[k].size - 1)))).1
  rw [strsC_set] at h1
  have e : sh l[k] = l[k].extract 0 (l[k].size - 1) := if_pos hs
  rw [← e, rowS_next hk] at h1
  rw [← e]
  exact h1
set_option maxHeartbeats 4000000 in
theorem Rdirs_any (w : World) (s : ByteArray) (hs : s.size ≤ 9000) : Calls Tryz.prog 16 #[.string s] w fun e w' => e = .returned (.string (dirsT s)) ∧ Below w.heap.size w w' := by
  have HC := Lib.hid (call12 (w.alloc (.cells #[.string s] ST)) _ [s] (rd_lit w [s] #[.string s] rfl 1 (Nat.le_refl _)) rfl (fun p hp => by rw [List.mem_singleton.1 hp]; exact hs))
  have HE : Hid (resS 12 [s] = (dirT s, 0)) := Lib.hid rfl
  rw [HE.out] at HC
  simp only [ansE] at HC
  have hdl := dirT_size hs
  have HDs : Hid (dirsT s = joinS ((wordsS (dirT s)).map sh)) := Lib.hid rfl
  generalize dirT s = d at *
  have HSp := Lib.hid fun W => RSplitO_any W d (by omega)
  have hwl := words_few d
  have HWS : Hid (∀ p ∈ wordsS d, p.size ≤ 100000) := Lib.hid fun p hp => Nat.le_trans (words_size hp) hdl
  generalize wordsS d = l at *
  go_enter Tryz.func16, Tryz.ntmps16
  go_wp2_with fail
  refine HC.out.mono ?_
  rintro e w1 ⟨rfl, B1⟩
  have HB1 := Lib.hid (((Below.refl w.heap.size w).alloc (Nat.le_refl _) (.cells #[.string s] ST)).trans (B1.mono (by simp)))
  clear B1
  go_wp2_with fail
  refine (HSp.out _).mono ?_
  rintro e w2 ⟨v1, v2, rfl, hown, hr2, B2⟩
  obtain ⟨a, c, rfl⟩ := owns_slice hown
  have HO := Lib.hid hown
  have HB2 := Lib.hid B2
  clear hown hr2 B2
  go_wp2_with fail
  go_loopw [7] (fun vi wr => DiRel w1 l a c vi wr) (fun vi _ => l.length - (intOf vi).toNat)
  case atStart => exact ⟨0, rfl, Nat.zero_le _, by rw [show rowS l 0 = l from by simp [rowS]]; exact HO.out, HB2.out⟩
  case round =>
    obtain ⟨k, rfl, hk, hrow, hB⟩ := hrel
    by_cases hlt : k < l.length
    · obtain ⟨g, rfl, hgc⟩ := owns_addr hrow (by omega)
      have hg := (hrow.lt g rfl).1
      have hcx : wr.cell? ⟨g, k, none⟩ = some (.string l[k]) := owns_cell hrow (by unfold strsC; rw [List.getElem?_map, rowS_get hlt]; rfl)
      have hfz := hrow.frozenAt k
      have hki : (k : Int) < l.length := by omega
      have hk0 : (0 : Int) ≤ (k : Int) := Int.natCast_nonneg _
      by_cases h1 : 1 < l[k].size
      · have hq : (1 : Int) < (l[k].size : Int) := by omega
        have hw1 : IntKind.i64.wrap ((l[k].size : Int) - 1) = (l[k].size : Int) - 1 := by have := HWS.out _ (List.getElem_mem hlt); rw [IntWalk.i64_in _ (by omega)]
        have hw2 : ((l[k].size : Int) - 1).toNat = l[k].size - 1 := by omega
        have hw3 : (0 : Int) ≤ (l[k].size : Int) - 1 := by omega
        have hw4 : (l[k].size : Int) - 1 ≤ (l[k].size : Int) := by omega
        have HN := Lib.hid (DiRel.store hlt h1 hrow hB hg)
        clear hrow hB h1
        generalize l[k] = x at *
        go_wp2_with fail
        go_region
        go_wp2_with fail
        go_roundw
        case rel => exact HN.out
        case measure => simp [intOf]; omega
      · have hq : ¬ (1 : Int) < (l[k].size : Int) := by omega
        have hsh : sh l[k] = l[k] := if_neg h1
        rw [rowS_same hlt hsh] at hrow
        clear hcx
        have hcx : wr.cell? ⟨g, k, none⟩ = some (.string l[k]) := owns_cell hrow (by rw [← rowS_same hlt hsh]; unfold strsC; rw [List.getElem?_map, rowS_get hlt]; rfl)
        have HRow := Lib.hid hrow
        clear hrow h1 hsh
        generalize l[k] = x at *
        go_wp2_with fail
        go_roundw
        case rel => exact ⟨k + 1, by go_num, hlt, HRow.out, hB⟩
        case measure => simp [intOf]; omega
    · obtain rfl : k = l.length := by omega
      have hki : ¬ (l.length : Int) < l.length := by omega
      have HRw := Lib.hid hrow
      have HB := Lib.hid hB
      have hfull : rowS l l.length = l.map sh := by unfold rowS; rw [List.take_of_length_le (Nat.le_refl _), List.drop_of_length_le (Nat.le_refl _), List.append_nil]
      have HJ := Lib.hid (RJoin_any wr _ (rowS l l.length) (Rd.of_own hrow) (by rw [rowS_len]; omega) (fun p hp => by
        rw [hfull] at hp
        obtain ⟨x, hx, rfl⟩ := List.mem_map.1 hp
        have h1 := HWS.out x hx
        have h2 := sh_size x
        omega))
      rw [hfull] at HJ
      clear hrow hB hfull
      go_wp2_with fail
      refine HJ.out.mono ?_
      rintro e w3 ⟨rfl, B3⟩
      go_wp2_with fail
      go_ret
      rw [HDs.out]
      exact ⟨rfl, HB1.out.trans ((HB.out.trans (B3.mono HB.out.size)).mono HB1.out.size)⟩
end Go.Proofs.YtenokbceamcekaaGreatDoor.Aw
