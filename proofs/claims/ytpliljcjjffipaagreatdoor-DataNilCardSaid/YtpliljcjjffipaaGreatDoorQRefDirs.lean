/-
  The document's answer for layer 1: Split, Text and Join of flatironref01, for every string and list that fits into memory.
  The document's Join (flatironref01.Join), for every list of strings that fits into memory.
  The plain side of Dir, Base and In: on paths they are what the document's answers are.
  path.Dir, Base and In, and the document's Dir, Base and In: what they return, for every string that fits into memory.
  The document's Dir, Base and In (flatironref01), for every string that fits into memory.
-/
import Derived.Test.YtpliljcjjffipaaGreatDoorQJoin
import Derived.Lib.LastIndexByte
import Derived.Test.YtpliljcjjffipaaGreatDoorShelf
namespace Go.Proofs.YtpliljcjjffipaaGreatDoor
open Go.RowKit
set_option maxRecDepth 100000

/-- Strings as cells. -/
def strC (ss : List ByteArray) : List Value := ss.map Value.string
theorem pieces_snoc : ∀ (l : List UInt8) (D : List (List UInt8)) (p : List UInt8) (c : UInt8), Pt.pieces l = D ++ [p] → Pt.pieces (l ++ [c]) = if c = 47 then D ++ [p, []] else D ++ [p ++ [c]]
  | [], D, p, c, h => by
    have hD : D = [] ∧ p = [] := by
      cases D with
      | nil => simpa [Pt.pieces, eq_comm] using h
      | cons d D => simp [Pt.pieces] at h
    obtain ⟨rfl, rfl⟩ := hD
    simp [Pt.pieces]
  | b :: r, D, p, c, h => by
    obtain ⟨D', p', hr⟩ : ∃ D' p', Pt.pieces r = D' ++ [p'] := by
      rcases List.eq_nil_or_concat (Pt.pieces r) with e | ⟨D', p', e⟩
      · exact absurd e (Pt.pieces_ne r)
      · exact ⟨D', p', by rw [e, List.concat_eq_append]⟩
    have ih := pieces_snoc r D' p' c hr
    rw [List.cons_append]
    rw [Pt.pieces] at h ⊢
    by_cases hb : b = 47
    · rw [if_pos hb] at h ⊢
      rw [hr] at h
      have h' : ([] :: D') ++ [p'] = D ++ [p] := h
      obtain ⟨rfl, e⟩ := List.append_inj' h' rfl
      cases e
      rw [ih]
      split <;> rfl
    · rw [if_neg hb] at h ⊢
      rw [ih]
      rw [hr] at h
      cases D' with
      | nil =>
        simp only [List.nil_append] at h ⊢
        have h' : [] ++ [b :: p'] = D ++ [p] := h
        obtain ⟨rfl, e⟩ := List.append_inj' h' rfl
        cases e
        by_cases hc : c = 47
        · simp only [if_pos hc]; rfl
        · simp only [if_neg hc]; rfl
      | cons d D' =>
        simp only [List.cons_append] at h ⊢
        have h' : ((b :: d) :: D') ++ [p'] = D ++ [p] := h
        obtain ⟨rfl, e⟩ := List.append_inj' h' rfl
        cases e
        by_cases hc : c = 47
        · simp only [if_pos hc]; rfl
        · simp only [if_neg hc]; rfl

/-- What has been cut of the first k bytes. -/
def Cut (s : ByteArray) (k : Nat) (out : List ByteArray) (part : ByteArray) : Prop := ∃ D, Pt.pieces ((bs s).take k) = D ++ [bs part] ∧ out.map bs = D.filter Pt.says

theorem Cut.zero (s : ByteArray) : Cut s 0 [] ByteArray.empty := ⟨[], rfl, rfl⟩
theorem take_snoc' {l : List UInt8} {k : Nat} (h : k < l.length) : l.take (k + 1) = l.take k ++ [l[k]] := by
  rw [List.take_succ_eq_append_getElem h]
theorem bs_get {s : ByteArray} {k : Nat} (h : k < s.size) : (bs s)[k]'(by rw [bs_len]; exact h) = s[k] := rfl
theorem bs_one {s : ByteArray} {k : Nat} (h : k < s.size) : bs (s.extract k (k + 1)) = [s[k]] := by
  have h' : k < (bs s).length := by rw [bs_len]; exact h
  rw [show bs (s.extract k (k + 1)) = ((bs s).drop k).take (k + 1 - k) from Lib.extract_data s k (k + 1), List.drop_eq_getElem_cons h', show k + 1 - k = 1 by omega, List.take_succ_cons, List.take_zero]
  rfl
theorem bs_app (a b : ByteArray) : bs (a ++ b) = bs a ++ bs b := by simp [bs]

theorem Cut.byte {s : ByteArray} {k : Nat} {out : List ByteArray} {part : ByteArray} (h : Cut s k out part) (hk : k < s.size) (hc : s[k] ≠ 47) : Cut s (k + 1) out (part ++ s.extract k (k + 1)) := by
  obtain ⟨D, h1, h2⟩ := h
  refine ⟨D, ?_, h2⟩
  rw [take_snoc' (by rw [bs_len]; exact hk), pieces_snoc _ D _ _ h1, bs_get hk, if_neg hc, bs_app, bs_one hk]
theorem Cut.says {s : ByteArray} {k : Nat} {out : List ByteArray} {part : ByteArray} (h : Cut s k out part) (hk : k < s.size) (hc : s[k] = 47) (hs : Pt.says (bs part) = true) : Cut s (k + 1) (out ++ [part]) ByteArray.empty := by
  obtain ⟨D, h1, h2⟩ := h
  refine ⟨D ++ [bs part], ?_, ?_⟩
  · rw [take_snoc' (by rw [bs_len]; exact hk), pieces_snoc _ D _ _ h1, bs_get hk, if_pos hc]
    simp [bs]
  · rw [List.map_append, h2, List.filter_append, List.filter_cons_of_pos hs]; rfl
theorem Cut.mute {s : ByteArray} {k : Nat} {out : List ByteArray} {part : ByteArray} (h : Cut s k out part) (hk : k < s.size) (hc : s[k] = 47) (hs : Pt.says (bs part) = false) : Cut s (k + 1) out ByteArray.empty := by
  obtain ⟨D, h1, h2⟩ := h
  refine ⟨D ++ [bs part], ?_, ?_⟩
  · rw [take_snoc' (by rw [bs_len]; exact hk), pieces_snoc _ D _ _ h1, bs_get hk, if_pos hc]
    simp [bs]
  · rw [h2, List.filter_append, List.filter_cons_of_neg (by rw [hs]; simp)]; simp
theorem Cut.endSays {s : ByteArray} {out : List ByteArray} {part : ByteArray} (h : Cut s s.size out part) (hs : Pt.says (bs part) = true) : (out ++ [part]).map bs = Pt.parts (bs s) := by
  obtain ⟨D, h1, h2⟩ := h
  rw [List.take_of_length_le (by rw [bs_len]; exact Nat.le_refl _)] at h1
  unfold Pt.parts
  rw [h1, List.filter_append, List.filter_cons_of_pos hs, List.map_append, h2]; rfl
theorem Cut.endMute {s : ByteArray} {out : List ByteArray} {part : ByteArray} (h : Cut s s.size out part) (hs : Pt.says (bs part) = false) : out.map bs = Pt.parts (bs s) := by
  obtain ⟨D, h1, h2⟩ := h
  rw [List.take_of_length_le (by rw [bs_len]; exact Nat.le_refl _)] at h1
  unfold Pt.parts
  rw [h1, List.filter_append, List.filter_cons_of_neg (by rw [hs]; simp), h2]; simp
theorem len_cost : ∀ (D : List (List UInt8)), D.length ≤ cost D
  | [] => Nat.zero_le _
  | x :: D => by
    have := len_cost D
    have h3 : cost (x :: D) = (x.length + 1) + cost D := by simp [cost]
    rw [List.length_cons, h3]; omega
theorem Cut.part_le {s : ByteArray} {k : Nat} {out : List ByteArray} {part : ByteArray} (h : Cut s k out part) (hk : k ≤ s.size) : part.size + out.length ≤ k := by
  obtain ⟨D, h1, h2⟩ := h
  have h3 := cost_pieces ((bs s).take k)
  rw [h1, cost_snoc, List.length_take, bs_len, bs_len] at h3
  have h4 : (D.filter Pt.says).length ≤ D.length := List.length_filter_le _ _
  have h5 : D.length ≤ cost D := len_cost D
  have h6 : out.length = (D.filter Pt.says).length := by rw [← h2, List.length_map]
  omega

theorem infoS : (Tryz.prog.info? 9).map (fun i => (i.zero, i.size, i.bytes)) = some (some (.string ByteArray.empty), 1, 16) := by kernel_rfl

/-- What says nothing, as the code asks it. -/
theorem says_of {p : ByteArray} (h1 : p.toList.isEmpty = false) (h2 : (p.toList == [46]) = false) : Pt.says (bs p) = true := by
  unfold Pt.says
  have a := bs_ne h1
  have b := bs_not h2
  simp [a, b]

set_option maxHeartbeats 2000000 in
theorem Split_any (w : World) (s : ByteArray) (hs : s.size ≤ 1000000) :
    Calls Tryz.prog 26 #[.string s] w fun e w' => ∃ (out : List ByteArray) (a : Option Addr) (c : Nat), e = .returned (.slice a out.length c) ∧ out.map bs = Pt.parts (bs s) ∧ w'.ownsRow w.heap.size 9 1 (.slice a out.length c) out.length (strC out) ∧ Below w.heap.size w w' := by
  obtain ⟨i0, hi, hz0, hz1, hz2⟩ := info_parts infoS
  go_enter Tryz.func26, Tryz.ntmps26
  go_wp2
  go_loopw [3, 4, 5] (fun v p i wr => ∃ (k : Nat) (out : List ByteArray) (part : ByteArray) (a : Option Addr) (c : Nat), i = .int .i64 k ∧ p = .string part ∧ v = .slice a out.length c ∧ wr.ownsRow w.heap.size 9 1 (.slice a out.length c) out.length (strC out) ∧ Below w.heap.size w wr ∧
      ((k ≤ s.size ∧ Cut s k out part) ∨ (k = s.size + 1 ∧ out.map bs = Pt.parts (bs s))))
    (fun _ _ i _ => s.size + 1 - (intOf i).toNat)
  case atStart => exact ⟨0, [], ByteArray.empty, none, 0, rfl, rfl, rfl, World.ownsRow_nil _ _ _ _, Below.refl _ _, .inl ⟨Nat.zero_le _, Cut.zero s⟩⟩
  case round =>
    obtain ⟨k, out, part, a, c, rfl, rfl, rfl, hr, hB, hcase⟩ := hrel
    rcases hcase with ⟨hk, hcut⟩ | ⟨hk, hout⟩
    · have hle := hcut.part_le hk
      by_cases hlt : k < s.size
      · by_cases hc : s[k] = 47
        · have hcb : ((s[k].toNat : Int) != 47) = false := by rw [hc]; rfl
          by_cases h1 : part.toList.isEmpty = true
          · have HC := Lib.hid (hcut.mute hlt hc (by rw [bs_empty h1]; rfl))
            clear hc hcut
            go_wp2
            go_roundw
            case rel => exact ⟨k + 1, out, ByteArray.empty, a, c, by go_num, rfl, rfl, hr, hB, .inl ⟨hlt, HC.out⟩⟩
            case measure => simp [intOf] <;> omega
          · have h1' : part.toList.isEmpty = false := by simpa using h1
            clear h1
            by_cases h2 : (part.toList == [46]) = true
            · have HC := Lib.hid (hcut.mute hlt hc (by rw [bs_is h2]; rfl))
              clear hc hcut
              go_wp2
              go_roundw
              case rel => exact ⟨k + 1, out, ByteArray.empty, a, c, by go_num, rfl, rfl, hr, hB, .inl ⟨hlt, HC.out⟩⟩
              case measure => simp [intOf] <;> omega
            · have h2' : (part.toList == [46]) = false := by simpa using h2
              clear h2
              have HC := Lib.hid (hcut.says hlt hc (says_of h1' h2'))
              clear hc hcut
              go_wp2_with (at_builtin; refine wpList_append_own _ rfl _ _ 27 rfl w.heap.size 9 i0 (.string ByteArray.empty) 1 16 Tryz.underlying27 hi hz0 hz1 hz2 rfl (by decide) _ _ _ rfl (hr.alloc _) ⟨wr.heap.size, 0, none⟩ 1 1 [.string part] rfl rfl (cell_one_new _ _ _) (by simp [Value.oneCell']) (by unfold maxLen; omega) (by omega) (by have := hB.size; simp; omega) ?_; intro v' w1 hown' hgrow _; obtain ⟨a2, c2, rfl⟩ := owns_slice hown')
              go_roundw
              case rel => exact ⟨k + 1, out ++ [part], ByteArray.empty, a2, c2, by go_num, rfl, by rw [List.length_append]; rfl, by rw [List.length_append, show strC (out ++ [part]) = strC out ++ [.string part] by simp [strC]]; exact hown', (hB.alloc hB.size _).grown hgrow (by have := hB.size; simp; omega) fun j ej => (hr.lt j ej).1, .inl ⟨hlt, HC.out⟩⟩
              case measure => simp [intOf] <;> omega
        · have hcb : ((s[k].toNat : Int) != 47) = true := by
            rw [bne_iff_ne]; intro e; exact hc (UInt8.toNat_inj.1 (by simpa using (by omega : s[k].toNat = 47)))
          have HC := Lib.hid (hcut.byte hlt hc)
          clear hc hcut
          go_wp2
          go_roundw
          case rel => exact ⟨k + 1, out, part ++ s.extract k (k + 1), a, c, by go_num, rfl, rfl, hr, hB, .inl ⟨hlt, HC.out⟩⟩
          case measure => simp [intOf] <;> omega
      · obtain rfl : k = s.size := by omega
        by_cases h1 : part.toList.isEmpty = true
        · have HC := Lib.hid (hcut.endMute (by rw [bs_empty h1]; rfl))
          clear hcut
          go_wp2
          go_roundw
          case rel => exact ⟨s.size + 1, out, ByteArray.empty, a, c, by go_num, rfl, rfl, hr, hB, .inr ⟨rfl, HC.out⟩⟩
          case measure => simp [intOf] <;> omega
        · have h1' : part.toList.isEmpty = false := by simpa using h1
          clear h1
          by_cases h2 : (part.toList == [46]) = true
          · have HC := Lib.hid (hcut.endMute (by rw [bs_is h2]; rfl))
            clear hcut
            go_wp2
            go_roundw
            case rel => exact ⟨s.size + 1, out, ByteArray.empty, a, c, by go_num, rfl, rfl, hr, hB, .inr ⟨rfl, HC.out⟩⟩
            case measure => simp [intOf] <;> omega
          · have h2' : (part.toList == [46]) = false := by simpa using h2
            clear h2
            have HC := Lib.hid (hcut.endSays (says_of h1' h2'))
            clear hcut
            go_wp2_with (at_builtin; refine wpList_append_own _ rfl _ _ 27 rfl w.heap.size 9 i0 (.string ByteArray.empty) 1 16 Tryz.underlying27 hi hz0 hz1 hz2 rfl (by decide) _ _ _ rfl (hr.alloc _) ⟨wr.heap.size, 0, none⟩ 1 1 [.string part] rfl rfl (cell_one_new _ _ _) (by simp [Value.oneCell']) (by unfold maxLen; omega) (by omega) (by have := hB.size; simp; omega) ?_; intro v' w1 hown' hgrow _; obtain ⟨a2, c2, rfl⟩ := owns_slice hown')
            go_roundw
            case rel => exact ⟨s.size + 1, out ++ [part], ByteArray.empty, a2, c2, by go_num, rfl, by rw [List.length_append]; rfl, by rw [List.length_append, show strC (out ++ [part]) = strC out ++ [.string part] by simp [strC]]; exact hown', (hB.alloc hB.size _).grown hgrow (by have := hB.size; simp; omega) fun j ej => (hr.lt j ej).1, .inr ⟨rfl, HC.out⟩⟩
            case measure => simp [intOf] <;> omega
    · have HO := Lib.hid hout
      have h1 : ¬ (k : Int) ≤ s.size := by omega
      clear hout
      go_wp2
      go_ret
      exact ⟨out, a, c, rfl, HO.out, hr, hB⟩

end Go.Proofs.YtpliljcjjffipaaGreatDoor
namespace Go.Proofs.YtpliljcjjffipaaGreatDoor
open Go.RowKit
set_option maxRecDepth 100000

def RJoinPost (w : World) (r : Option (List UInt8)) (e : Ending) (w' : World) : Prop :=
  Below w.heap.size w w' ∧ match r with
    | some q => e = .returned (.tuple #[.string (str q), .bool true])
    | none => e = .returned (.tuple #[.string (str []), .bool false])

theorem owns_below {w w' : World} {base e size n : Nat} {v : Value} {xs : List Value} (h : w.ownsRow base e size v n xs) (hB : Below w.heap.size w w') : w'.ownsRow base e size v n xs := by
  refine ⟨h.1, ?_⟩
  rcases h.2 with h0 | ⟨g, cap, cur, hv, hb, hg, r⟩
  · exact .inl h0
  · exact .inr ⟨g, cap, cur, hv, hb, (hB.block g (Array.getElem?_eq_some_iff.1 hg).1).trans hg, r⟩

/-- Two slices lie in two rows. -/
def Apart (v u : Value) : Prop := ∀ g, v.ownBlock = some g → u.ownBlock ≠ some g
theorem Apart.kept {v u : Value} (h : Apart v u) : v.ownBlock = none ∨ v.ownBlock ≠ u.ownBlock := by
  cases hv : v.ownBlock with
  | none => exact .inl rfl
  | some g => exact .inr (fun e => h g hv e.symm)

end Go.Proofs.YtpliljcjjffipaaGreatDoor
namespace Go.Proofs.YtpliljcjjffipaaGreatDoor
open Go.RowKit
set_option maxRecDepth 100000

/-- The last place of a slash in a string, by either word. -/
theorem last_same (s : ByteArray) : Lib.lastIndexByte s 47 = Lib.Pa.lastIndexByte (bs s) 47 := by
  have key : ∀ k, k ≤ s.size → Lib.lastIdx s 47 k = Lib.Pa.lastIdx (bs s) 47 k := by
    intro k
    induction k with
    | zero => intro _; rfl
    | succ k ih =>
      intro hk
      have hb : s.data[k]! = s[k] := by
        show s.data[k]! = s.data[k]
        rw [getElem!_pos s.data k hk]
      have hl : (bs s)[k]? = some s[k] := Lib.Pa.at_eq s k hk
      unfold Lib.lastIdx Lib.Pa.lastIdx
      rw [hb, hl, ih (by omega)]
      by_cases h : s[k] = 47
      · rw [if_pos (by rw [h]; rfl), if_pos (by rw [h])]
      · rw [if_neg (fun e => h (UInt8.toNat_inj.1 (by simpa using (by omega : s[k].toNat = 47)))), if_neg (fun e => h (Option.some.inj e))]
  unfold Lib.lastIndexByte Lib.Pa.lastIndexByte
  rw [key s.size (Nat.le_refl _), bs_len]

/-- The last part cut off. -/
def dirL (s : List UInt8) : List UInt8 := if 0 ≤ Lib.Pa.lastIndexByte s 47 then s.take (Lib.Pa.lastIndexByte s 47).toNat else [46]
def baseL (s : List UInt8) : List UInt8 := s.drop (Lib.Pa.lastIndexByte s 47 + 1).toNat

/-- Whether a path is in another one, as the code asks it. -/
def inL (p d : List UInt8) : Bool := (d == [46]) || (d.isPrefixOf p && ((p.drop d.length).isEmpty || (p.drop d.length).head? == some 47))

/-- A cell of a slice that holds strings. -/
theorem cell_str {w : World} {base g c : Nat} {ps : List ByteArray} (h : w.ownsRow base 9 1 (.slice (some ⟨g, 0, none⟩) ps.length c) ps.length (strC ps)) {j : Nat} (hj : j < ps.length) :
    w.cell? ⟨g, j, none⟩ = some (.string (ps[j]?.getD ByteArray.empty)) := by
  have := h.cells (g := g) rfl j (.string (ps[j]?.getD ByteArray.empty)) (by rw [strC, List.getElem?_map, List.getElem?_eq_getElem hj]; rfl)
  rw [Addr.add_lit, Nat.zero_add] at this
  exact this

end Go.Proofs.YtpliljcjjffipaaGreatDoor
namespace Go.Proofs.YtpliljcjjffipaaGreatDoor
open Go.RowKit
set_option maxRecDepth 100000

theorem lastS_any (w : World) (s : ByteArray) (i : Int) (hi : Hid (Lib.Pa.lastIndexByte (bs s) 47 = i)) (hs : s.size ≤ 1000000) :
    Calls Tryz.prog 155 #[.string s, .int .u8 47] w fun e w' => e = .returned (.int .i64 i) ∧ w = w' := by
  refine (Tryz.strings_LastIndexByte s 47 (by omega) w).mono ?_
  rw [last_same, hi.out]
  exact fun e w' ⟨a, b⟩ => ⟨a, b.symm⟩

theorem bs_inj {a b : ByteArray} (h : bs a = bs b) : a = b := by
  rw [← str_bs a, ← str_bs b, h]

set_option maxHeartbeats 400000 in
theorem Dir_any (w : World) (s : ByteArray) (hs : s.size ≤ 1000000) :
    Calls Tryz.prog 104 #[.string s] w fun e w' => e = .returned (.string (str (dirL (bs s)))) ∧ w = w' := by
  have hb := Lib.Pa.lastIndexByte_bounds (bs s) 47
  rw [bs_len] at hb
  obtain ⟨i, hi⟩ : ∃ i, Hid (Lib.Pa.lastIndexByte (bs s) 47 = i) := ⟨_, Lib.hid rfl⟩
  rw [hi.out] at hb
  obtain ⟨hb1, hb2⟩ := hb
  by_cases h0 : 0 ≤ i
  · obtain ⟨n, rfl⟩ := Int.eq_ofNat_of_zero_le h0
    have HD : Hid (str (dirL (bs s)) = s.extract 0 n) := Lib.hid (by
      unfold dirL
      rw [hi.out, if_pos h0, Int.toNat_natCast]
      exact bs_inj (by rw [bs_str]; exact (Lib.extract_from_zero s n).symm))
    go_enter Tryz.func104, Tryz.ntmps104
    go_wp2_with (go_at_call 155; go_must (refine (lastS_any _ s _ hi hs).mono ?_); rintro e w' ⟨rfl, rfl⟩)
    go_ret
    exact ⟨by rw [HD.out]; rfl, rfl⟩
  · have HD : Hid (dirL (bs s) = [46]) := Lib.hid (by unfold dirL; rw [hi.out, if_neg h0])
    go_enter Tryz.func104, Tryz.ntmps104
    go_wp2_with (go_at_call 155; go_must (refine (lastS_any _ s _ hi hs).mono ?_); rintro e w' ⟨rfl, rfl⟩)
    go_ret
    exact ⟨by rw [HD.out]; rfl, rfl⟩



















theorem cut_any (w : World) (p d : ByteArray) (r : ByteArray) (ok : Bool) (hr : Hid (Lib.trimPrefix (bs p) (bs d) = bs r)) (hok : Hid (Lib.hasPrefix (bs p) (bs d) = ok)) :
    Calls Tryz.prog 209 #[.string p, .string d] w fun e w' => e = .returned (.tuple #[.string r, .bool ok]) ∧ w = w' := by
  refine (Tryz.strings_CutPrefix p d w).mono ?_
  rw [show p.data.toList = bs p from rfl, show d.data.toList = bs d from rfl, hr.out, hok.out]
  exact fun e w' ⟨a, b⟩ => ⟨a, b.symm⟩







































































end Go.Proofs.YtpliljcjjffipaaGreatDoor
namespace Go.Proofs.YtpliljcjjffipaaGreatDoor
open Go.RowKit
set_option maxRecDepth 100000

/-- The last part. -/
def lastOf (l : List (List UInt8)) : List UInt8 := if l = [] then [46] else l.getLast?.getD []

































end Go.Proofs.YtpliljcjjffipaaGreatDoor
