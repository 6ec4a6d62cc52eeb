/-
  The document's answer for layer 1: Split, Text and Join of flatironref01, for every string and list that fits into memory.
-/
import Derived.Test.YtmmilnmlmgcobaaGreatDoorJoin
namespace Go.Proofs.YtmmilnmlmgcobaaGreatDoor
open Go.RowKit
set_option maxRecDepth 100000

/-- Strings as cells. -/
def strC (ss : List ByteArray) : List Value := ss.map Value.string
theorem strC_len (ss : List ByteArray) : (strC ss).length = ss.length := by simp [strC]

theorem pieces_snoc : ∀ (l : List UInt8) (D : List (List UInt8)) (p : List UInt8) (c : UInt8), Pt.pieces l = D ++ [p] → Pt.pieces (l ++ [c]) = if c = 47 then D ++ [p, []] else D ++ [p ++ [c]]
  | [], D, p, c, h => by
    have hD : D = [] ∧ p = [] := by
      cases D with
      | nil => simpa [Pt.pieces, eq_comm] using h
      | cons d D => simp [Pt.pieces] at h
    obtain ⟨rfl, rfl⟩ := hD
    simp [Pt.pieces]
  | b :: r, D, p, c, h => by
    obtain ⟨D', p', hr⟩ : ∃ D' p', Pt.pieces r = D' ++ [p'] := by
      rcases List.eq_nil_or_concat (Pt.pieces r) with e | ⟨D', p', e⟩
      · exact absurd e (Pt.pieces_ne r)
      · exact ⟨D', p', by rw [e, List.concat_eq_append]⟩
    have ih := pieces_snoc r D' p' c hr
    rw [List.cons_append]
    rw [Pt.pieces] at h ⊢
    by_cases hb : b = 47
    · rw [if_pos hb] at h ⊢
      rw [hr] at h
      have h' : ([] :: D') ++ [p'] = D ++ [p] := h
      obtain ⟨rfl, e⟩ := List.append_inj' h' rfl
      cases e
      rw [ih]
      split <;> rfl
    · rw [if_neg hb] at h ⊢
      rw [ih]
      rw [hr] at h
      cases D' with
      | nil =>
        simp only [List.nil_append] at h ⊢
        have h' : [] ++ [b :: p'] = D ++ [p] := h
        obtain ⟨rfl, e⟩ := List.append_inj' h' rfl
        cases e
        by_cases hc : c = 47
        · simp only [if_pos hc]; rfl
        · simp only [if_neg hc]; rfl
      | cons d D' =>
        simp only [List.cons_append] at h ⊢
        have h' : ((b :: d) :: D') ++ [p'] = D ++ [p] := h
        obtain ⟨rfl, e⟩ := List.append_inj' h' rfl
        cases e
        by_cases hc : c = 47
        · simp only [if_pos hc]; rfl
        · simp only [if_neg hc]; rfl

/-- What has been cut of the first k bytes. -/
def Cut (s : ByteArray) (k : Nat) (out : List ByteArray) (part : ByteArray) : Prop := ∃ D, Pt.pieces ((bs s).take k) = D ++ [bs part] ∧ out.map bs = D.filter Pt.says

theorem Cut.zero (s : ByteArray) : Cut s 0 [] ByteArray.empty := ⟨[], rfl, rfl⟩
theorem take_snoc' {l : List UInt8} {k : Nat} (h : k < l.length) : l.take (k + 1) = l.take k ++ [l[k]] := by
  rw [List.take_succ_eq_append_getElem h]
theorem bs_get {s : ByteArray} {k : Nat} (h : k < s.size) : (bs s)[k]'(by rw [bs_len]; exact h) = s[k] := rfl
theorem bs_one {s : ByteArray} {k : Nat} (h : k < s.size) : bs (s.extract k (k + 1)) = [s[k]] := by
  have h' : k < (bs s).length := by rw [bs_len]; exact h
  rw [show bs (s.extract k (k + 1)) = ((bs s).drop k).take (k + 1 - k) from Lib.extract_data s k (k + 1), List.drop_eq_getElem_cons h', show k + 1 - k = 1 by omega, List.take_succ_cons, List.take_zero]
  rfl
theorem bs_app (a b : ByteArray) : bs (a ++ b) = bs a ++ bs b := by simp [bs]

theorem Cut.byte {s : ByteArray} {k : Nat} {out : List ByteArray} {part : ByteArray} (h : Cut s k out part) (hk : k < s.size) (hc : s[k] ≠ 47) : Cut s (k + 1) out (part ++ s.extract k (k + 1)) := by
  obtain ⟨D, h1, h2⟩ := h
  refine ⟨D, ?_, h2⟩
  rw [take_snoc' (by rw [bs_len]; exact hk), pieces_snoc _ D _ _ h1, bs_get hk, if_neg hc, bs_app, bs_one hk]
theorem Cut.says {s : ByteArray} {k : Nat} {out : List ByteArray} {part : ByteArray} (h : Cut s k out part) (hk : k < s.size) (hc : s[k] = 47) (hs : Pt.says (bs part) = true) : Cut s (k + 1) (out ++ [part]) ByteArray.empty := by
  obtain ⟨D, h1, h2⟩ := h
  refine ⟨D ++ [bs part], ?_, ?_⟩
  · rw [take_snoc' (by rw [bs_len]; exact hk), pieces_snoc _ D _ _ h1, bs_get hk, if_pos hc]
    simp [bs]
  · rw [List.map_append, h2, List.filter_append, List.filter_cons_of_pos hs]; rfl
theorem Cut.mute {s : ByteArray} {k : Nat} {out : List ByteArray} {part : ByteArray} (h : Cut s k out part) (hk : k < s.size) (hc : s[k] = 47) (hs : Pt.says (bs part) = false) : Cut s (k + 1) out ByteArray.empty := by
  obtain ⟨D, h1, h2⟩ := h
  refine ⟨D ++ [bs part], ?_, ?_⟩
  · rw [take_snoc' (by rw [bs_len]; exact hk), pieces_snoc _ D _ _ h1, bs_get hk, if_pos hc]
    simp [bs]
  · rw [h2, List.filter_append, List.filter_cons_of_neg (by rw [hs]; simp)]; simp
theorem Cut.endSays {s : ByteArray} {out : List ByteArray} {part : ByteArray} (h : Cut s s.size out part) (hs : Pt.says (bs part) = true) : (out ++ [part]).map bs = Pt.parts (bs s) := by
  obtain ⟨D, h1, h2⟩ := h
  rw [List.take_of_length_le (by rw [bs_len]; exact Nat.le_refl _)] at h1
  unfold Pt.parts
  rw [h1, List.filter_append, List.filter_cons_of_pos hs, List.map_append, h2]; rfl
theorem Cut.endMute {s : ByteArray} {out : List ByteArray} {part : ByteArray} (h : Cut s s.size out part) (hs : Pt.says (bs part) = false) : out.map bs = Pt.parts (bs s) := by
  obtain ⟨D, h1, h2⟩ := h
  rw [List.take_of_length_le (by rw [bs_len]; exact Nat.le_refl _)] at h1
  unfold Pt.parts
  rw [h1, List.filter_append, List.filter_cons_of_neg (by rw [hs]; simp), h2]; simp
theorem len_cost : ∀ (D : List (List UInt8)), D.length ≤ cost D
  | [] => Nat.zero_le _
  | x :: D => by
    have := len_cost D
    have h3 : cost (x :: D) = (x.length + 1) + cost D := by simp [cost]
    rw [List.length_cons, h3]; omega
theorem Cut.part_le {s : ByteArray} {k : Nat} {out : List ByteArray} {part : ByteArray} (h : Cut s k out part) (hk : k ≤ s.size) : part.size + out.length ≤ k := by
  obtain ⟨D, h1, h2⟩ := h
  have h3 := cost_pieces ((bs s).take k)
  rw [h1, cost_snoc, List.length_take, bs_len, bs_len] at h3
  have h4 : (D.filter Pt.says).length ≤ D.length := List.length_filter_le _ _
  have h5 : D.length ≤ cost D := len_cost D
  have h6 : out.length = (D.filter Pt.says).length := by rw [← h2, List.length_map]
  omega

theorem infoS : (Tryz.prog.info? 9).map (fun i => (i.zero, i.size, i.bytes)) = some (some (.string ByteArray.empty), 1, 16) := by kernel_rfl

/-- What says nothing, as the code asks it. -/
theorem says_of {p : ByteArray} (h1 : p.toList.isEmpty = false) (h2 : (p.toList == [46]) = false) : Pt.says (bs p) = true := by
  unfold Pt.says
  have a := bs_ne h1
  have b := bs_not h2
  simp [a, b]

set_option maxHeartbeats 2000000 in
theorem Split_any (w : World) (s : ByteArray) (hs : s.size ≤ 1000000) :
    Calls Tryz.prog 57 #[.string s] w fun e w' => ∃ (out : List ByteArray) (a : Option Addr) (c : Nat), e = .returned (.slice a out.length c) ∧ out.map bs = Pt.parts (bs s) ∧ w'.ownsRow w.heap.size 9 1 (.slice a out.length c) out.length (strC out) ∧ Below w.heap.size w w' := by
  obtain ⟨i0, hi, hz0, hz1, hz2⟩ := info_parts infoS
  go_enter Tryz.func57, Tryz.ntmps57
  go_wp2
  go_loopw [3, 4, 5] (fun v p i wr => ∃ (k : Nat) (out : List ByteArray) (part : ByteArray) (a : Option Addr) (c : Nat), i = .int .i64 k ∧ p = .string part ∧ v = .slice a out.length c ∧ wr.ownsRow w.heap.size 9 1 (.slice a out.length c) out.length (strC out) ∧ Below w.heap.size w wr ∧
      ((k ≤ s.size ∧ Cut s k out part) ∨ (k = s.size + 1 ∧ out.map bs = Pt.parts (bs s))))
    (fun _ _ i _ => s.size + 1 - (intOf i).toNat)
  case atStart => exact ⟨0, [], ByteArray.empty, none, 0, rfl, rfl, rfl, World.ownsRow_nil _ _ _ _, Below.refl _ _, .inl ⟨Nat.zero_le _, Cut.zero s⟩⟩
  case round =>
    obtain ⟨k, out, part, a, c, rfl, rfl, rfl, hr, hB, hcase⟩ := hrel
    rcases hcase with ⟨hk, hcut⟩ | ⟨hk, hout⟩
    · have hle := hcut.part_le hk
      by_cases hlt : k < s.size
      · by_cases hc : s[k] = 47
        · have hcb : ((s[k].toNat : Int) != 47) = false := by rw [hc]; rfl
          by_cases h1 : part.toList.isEmpty = true
          · have HC := Lib.hid (hcut.mute hlt hc (by rw [bs_empty h1]; rfl))
            clear hc hcut
            go_wp2
            go_roundw
            case rel => exact ⟨k + 1, out, ByteArray.empty, a, c, by go_num, rfl, rfl, hr, hB, .inl ⟨hlt, HC.out⟩⟩
            case measure => simp [intOf] <;> omega
          · have h1' : part.toList.isEmpty = false := by simpa using h1
            clear h1
            by_cases h2 : (part.toList == [46]) = true
            · have HC := Lib.hid (hcut.mute hlt hc (by rw [bs_is h2]; rfl))
              clear hc hcut
              go_wp2
              go_roundw
              case rel => exact ⟨k + 1, out, ByteArray.empty, a, c, by go_num, rfl, rfl, hr, hB, .inl ⟨hlt, HC.out⟩⟩
              case measure => simp [intOf] <;> omega
            · have h2' : (part.toList == [46]) = false := by simpa using h2
              clear h2
              have HC := Lib.hid (hcut.says hlt hc (says_of h1' h2'))
              clear hc hcut
              go_wp2_with (at_builtin; refine wpList_append_own _ rfl _ _ 79 rfl w.heap.size 9 i0 (.string ByteArray.empty) 1 16 Tryz.underlying79 hi hz0 hz1 hz2 rfl (by decide) _ _ _ rfl (hr.alloc _) ⟨wr.heap.size, 0, none⟩ 1 1 [.string part] rfl rfl (cell_one_new _ _ _) (by simp [Value.oneCell']) (by unfold maxLen; omega) (by omega) (by have := hB.size; simp; omega) ?_; intro v' w1 hown' hgrow _; obtain ⟨a2, c2, rfl⟩ := owns_slice hown')
              go_roundw
              case rel => exact ⟨k + 1, out ++ [part], ByteArray.empty, a2, c2, by go_num, rfl, by rw [List.length_append]; rfl, by rw [List.length_append, show strC (out ++ [part]) = strC out ++ [.string part] by simp [strC]]; exact hown', (hB.alloc hB.size _).grown hgrow (by have := hB.size; simp; omega) fun j ej => (hr.lt j ej).1, .inl ⟨hlt, HC.out⟩⟩
              case measure => simp [intOf] <;> omega
        · have hcb : ((s[k].toNat : Int) != 47) = true := by
            rw [bne_iff_ne]; intro e; exact hc (UInt8.toNat_inj.1 (by simpa using (by omega : s[k].toNat = 47)))
          have HC := Lib.hid (hcut.byte hlt hc)
          clear hc hcut
          go_wp2
          go_roundw
          case rel => exact ⟨k + 1, out, part ++ s.extract k (k + 1), a, c, by go_num, rfl, rfl, hr, hB, .inl ⟨hlt, HC.out⟩⟩
          case measure => simp [intOf] <;> omega
      · obtain rfl : k = s.size := by omega
        by_cases h1 : part.toList.isEmpty = true
        · have HC := Lib.hid (hcut.endMute (by rw [bs_empty h1]; rfl))
          clear hcut
          go_wp2
          go_roundw
          case rel => exact ⟨s.size + 1, out, ByteArray.empty, a, c, by go_num, rfl, rfl, hr, hB, .inr ⟨rfl, HC.out⟩⟩
          case measure => simp [intOf] <;> omega
        · have h1' : part.toList.isEmpty = false := by simpa using h1
          clear h1
          by_cases h2 : (part.toList == [46]) = true
          · have HC := Lib.hid (hcut.endMute (by rw [bs_is h2]; rfl))
            clear hcut
            go_wp2
            go_roundw
            case rel => exact ⟨s.size + 1, out, ByteArray.empty, a, c, by go_num, rfl, rfl, hr, hB, .inr ⟨rfl, HC.out⟩⟩
            case measure => simp [intOf] <;> omega
          · have h2' : (part.toList == [46]) = false := by simpa using h2
            clear h2
            have HC := Lib.hid (hcut.endSays (says_of h1' h2'))
            clear hcut
            go_wp2_with (at_builtin; refine wpList_append_own _ rfl _ _ 79 rfl w.heap.size 9 i0 (.string ByteArray.empty) 1 16 Tryz.underlying79 hi hz0 hz1 hz2 rfl (by decide) _ _ _ rfl (hr.alloc _) ⟨wr.heap.size, 0, none⟩ 1 1 [.string part] rfl rfl (cell_one_new _ _ _) (by simp [Value.oneCell']) (by unfold maxLen; omega) (by omega) (by have := hB.size; simp; omega) ?_; intro v' w1 hown' hgrow _; obtain ⟨a2, c2, rfl⟩ := owns_slice hown')
            go_roundw
            case rel => exact ⟨s.size + 1, out ++ [part], ByteArray.empty, a2, c2, by go_num, rfl, by rw [List.length_append]; rfl, by rw [List.length_append, show strC (out ++ [part]) = strC out ++ [.string part] by simp [strC]]; exact hown', (hB.alloc hB.size _).grown hgrow (by have := hB.size; simp; omega) fun j ej => (hr.lt j ej).1, .inr ⟨rfl, HC.out⟩⟩
            case measure => simp [intOf] <;> omega
    · have HO := Lib.hid hout
      have h1 : ¬ (k : Int) ≤ s.size := by omega
      clear hout
      go_wp2
      go_ret
      exact ⟨out, a, c, rfl, HO.out, hr, hB⟩

theorem take_one {ss : List ByteArray} {k : Nat} (h : k < ss.length) : ss.take (k + 1) = ss.take k ++ [ss[k]?.getD ByteArray.empty] := by
  rw [List.take_succ_eq_append_getElem h, List.getElem?_eq_getElem h]; rfl

theorem text_ne (l : List (List UInt8)) (h : Pt.inter l ≠ []) : Pt.text l = Pt.inter l := by unfold Pt.text; rw [if_neg h]
theorem text_nil (l : List (List UInt8)) (h : Pt.inter l = []) : Pt.text l = [46] := by unfold Pt.text; rw [if_pos h]

set_option maxHeartbeats 2000000 in
theorem TextB_any (w : World) (b o c : Nat) (ss : List ByteArray) (hc : ∀ j, j < ss.length → w.cell? ⟨b, o + j, none⟩ = some (.string (ss[j]?.getD ByteArray.empty))) (hn : ss.length ≤ 1000000) (hs : tot ss ≤ 140737488355327) :
    Calls Tryz.prog 58 #[.slice (some ⟨b, o, none⟩) ss.length c] w fun e w' => e = .returned (.string (str (Pt.text (ss.map bs)))) ∧ w = w' := by
  have HC := Lib.hid hc
  clear hc
  go_enter Tryz.func58, Tryz.ntmps58
  go_wp2
  go_loop [3, 4] (fun p i => ∃ (k : Nat) (t : ByteArray), k ≤ ss.length ∧ i = .int .i64 k ∧ p = .string t ∧ bs t = Pt.inter ((ss.take k).map bs) ∧ t.size + tot (ss.drop k) ≤ tot ss) (fun _ i => ss.length - (intOf i).toNat)
  case atStart => exact ⟨0, ByteArray.empty, Nat.zero_le _, rfl, rfl, rfl, by simp⟩
  case round =>
    obtain ⟨k, t, hk, rfl, rfl, ht, hz⟩ := hrel
    by_cases hlt : k < ss.length
    · have hcell := HC.out k hlt
      have h1 := take_one hlt
      rw [drop_cons hlt] at hz
      generalize ss[k]?.getD ByteArray.empty = x at *
      have hz2 : t.size + (x.size + 1) + tot (ss.drop (k + 1)) ≤ tot ss := by simp [tot] at hz ⊢; omega
      clear hz
      by_cases h0 : k = 0
      · subst h0
        rw [Nat.add_zero] at hcell
        have HT : Hid (bs (t ++ x) = Pt.inter ((ss.take (0 + 1)).map bs)) := Lib.hid (by rw [bs_app, ht, h1]; rfl)
        clear ht h1
        go_wp2
        go_round
        case rel => exact ⟨1, t ++ x, hlt, rfl, rfl, HT.out, by rw [ByteArray.size_append]; simp at hz2 ⊢; omega⟩
        case measure => simp [intOf] <;> omega
      · have hpos : 0 < k := by omega
        have HT : Hid (bs (t ++ ⟨#[47]⟩ ++ x) = Pt.inter ((ss.take (k + 1)).map bs)) := Lib.hid (by
          rw [bs_app, bs_app, ht, h1, List.map_append, List.map_singleton, Pt.inter_snoc]
          · simp [bs]
          · intro e
            have := congrArg List.length e
            rw [List.length_map, List.length_take, List.length_nil] at this; omega)
        clear ht h1 h0
        go_wp2
        go_round
        case rel => exact ⟨k + 1, t ++ ⟨#[47]⟩ ++ x, hlt, by go_num, rfl, HT.out, by rw [ByteArray.size_append, ByteArray.size_append, show (⟨#[47]⟩ : ByteArray).size = 1 from rfl]; omega⟩
        case measure => simp [intOf] <;> omega
    · obtain rfl : k = ss.length := by omega
      rw [List.take_length] at ht
      by_cases h0 : t.toList.isEmpty = true
      · have HT := Lib.hid (text_nil (ss.map bs) (by rw [← ht]; exact bs_empty h0))
        clear ht
        go_wp2
        go_ret
        exact ⟨by rw [HT.out]; rfl, rfl⟩
      · have h0' : t.toList.isEmpty = false := by simpa using h0
        clear h0
        have HT : Hid (str (Pt.text (ss.map bs)) = t) := Lib.hid (by rw [text_ne _ (by rw [← ht]; exact bs_ne h0'), ← ht]; exact str_bs t)
        clear ht
        go_wp2
        go_ret
        exact ⟨by rw [HT.out]; rfl, rfl⟩

set_option maxHeartbeats 1000000 in
theorem Text0_any (w : World) (a : Option Addr) (c : Nat) :
    Calls Tryz.prog 58 #[.slice a 0 c] w fun e w' => e = .returned (.string (str [46])) ∧ w = w' := by
  go_enter Tryz.func58, Tryz.ntmps58
  go_wp2
  go_loop [3, 4] (fun p i => i = .int .i64 0 ∧ p = .string ⟨#[]⟩) (fun _ _ => 0)
  case atStart => exact ⟨rfl, rfl⟩
  case round =>
    obtain ⟨rfl, rfl⟩ := hrel
    go_wp2
    go_ret
    exact ⟨rfl, rfl⟩

theorem Text_any (w : World) (v : Value) (ss : List ByteArray) (hv : Strs w v ss) (hn : ss.length ≤ 1000000) (hs : tot ss ≤ 140737488355327) :
    Calls Tryz.prog 58 #[v] w fun e w' => e = .returned (.string (str (Pt.text (ss.map bs)))) ∧ w = w' := by
  rcases hv with ⟨rfl, a, c, rfl⟩ | ⟨b, o, c, rfl, hb, hc⟩
  · exact Text0_any w a c
  · exact TextB_any w b o c ss hc hn hs

theorem strs_own {w : World} {base : Nat} {v : Value} {ss : List ByteArray} (h : w.ownsRow base 9 1 v ss.length (strC ss)) : Strs w v ss := by
  rcases h.2 with ⟨rfl, h0⟩ | ⟨g, cap, cur, rfl, hb, hg, _⟩
  · exact .inl ⟨List.eq_nil_of_length_eq_zero h0, none, 0, rfl⟩
  · refine .inr ⟨g, 0, cap, rfl, (Array.getElem?_eq_some_iff.1 hg).1, fun j hj => ?_⟩
    have := h.cells (g := g) rfl j (.string (ss[j]?.getD ByteArray.empty)) (by rw [strC, List.getElem?_map, List.getElem?_eq_getElem hj]; rfl)
    rw [Addr.add_lit] at this
    exact this
end Go.Proofs.YtmmilnmlmgcobaaGreatDoor
