/-
  path.Join and path.Clean: for every list of strings that fits into memory.
-/
import Derived.Laws.IdiomStrings
import Derived.Test.YtmmilnmlmgcobaaGreatDoorFollow
namespace Go.Proofs.YtmmilnmlmgcobaaGreatDoor
open Go.RowKit
set_option maxRecDepth 100000

/-- The value holds these strings. -/
def Strs (w : World) (v : Value) (ss : List ByteArray) : Prop :=
  (ss = [] ∧ ∃ a c, v = .slice a 0 c) ∨ ∃ b o c, v = .slice (some ⟨b, o, none⟩) ss.length c ∧ b < w.heap.size ∧ ∀ j, j < ss.length → w.cell? ⟨b, o + j, none⟩ = some (.string (ss[j]?.getD ByteArray.empty))

def tot (ss : List ByteArray) : Nat := (ss.map fun s => s.size + 1).sum

theorem Strs.below {w w' : World} {v : Value} {ss : List ByteArray} (h : Strs w v ss) (hB : Below w.heap.size w w') : Strs w' v ss := by
  rcases h with h | ⟨b, o, c, hv, hb, hc⟩
  · exact .inl h
  · exact .inr ⟨b, o, c, hv, Nat.lt_of_lt_of_le hb hB.size, fun j hj => (hB.cell (p := ⟨b, o + j, none⟩) hb).trans (hc j hj)⟩

theorem stepB_len {p x q : List UInt8} (h : Pt.stepB p x = some q) : q.length ≤ p.length + (x.length + 1) := by
  unfold Pt.stepB at h
  split at h
  · cases h; omega
  · split at h
    · split at h
      · cases h
      · cases h; rw [List.length_take]; omega
    · cases h
      split
      · rw [List.length_append]; omega
      · rw [List.length_append, List.length_append, List.length_singleton]; omega
theorem walkB_len : ∀ (l : List (List UInt8)) (p q : List UInt8), Pt.walkB p l = some q → q.length ≤ p.length + cost l
  | [], p, q, h => by cases h; simp
  | x :: l, p, q, h => by
    unfold Pt.walkB at h
    cases hs : Pt.stepB p x with
    | none => rw [hs] at h; cases h
    | some r =>
      rw [hs] at h
      have h1 := stepB_len hs
      have h2 := walkB_len l r q h
      have h3 : cost (x :: l) = (x.length + 1) + cost l := by simp [cost]
      omega

theorem follow_yes (w : World) (base : Nat) (v : Value) (p q : List UInt8) (s : ByteArray) (hown : w.ownsRow base 5 1 v p.length (u8s p)) (hb : base ≤ w.heap.size) (hs : p.length + s.size + 1 ≤ 140737488355328)
    (hw : Hid (Pt.walkB p (Pt.pieces (bs s)) = some q)) :
    Calls Tryz.prog 90 #[v, .string s] w fun e w' => ∃ a c, e = .returned (.tuple #[.slice a q.length c, .bool true]) ∧ w'.ownsRow base 5 1 (.slice a q.length c) q.length (u8s q) ∧ Below base w w' := by
  refine (follow_any w base v p s hown hb hs).mono ?_
  rw [hw.out]
  rintro e w' ⟨hB, v', rfl, hr⟩
  obtain ⟨a, c, rfl⟩ := owns_slice hr
  exact ⟨a, c, rfl, hr, hB⟩
theorem follow_no (w : World) (base : Nat) (v : Value) (p : List UInt8) (s : ByteArray) (hown : w.ownsRow base 5 1 v p.length (u8s p)) (hb : base ≤ w.heap.size) (hs : p.length + s.size + 1 ≤ 140737488355328)
    (hw : Hid (Pt.walkB p (Pt.pieces (bs s)) = none)) :
    Calls Tryz.prog 90 #[v, .string s] w fun e w' => e = .returned (.tuple #[.slice none 0 0, .bool false]) ∧ Below base w w' := by
  refine (follow_any w base v p s hown hb hs).mono ?_
  rw [hw.out]
  rintro e w' ⟨hB, rfl⟩
  exact ⟨rfl, hB⟩

/-- A string of bytes. -/
def str (l : List UInt8) : ByteArray := ⟨l.toArray⟩
theorem bs_str (l : List UInt8) : bs (str l) = l := rfl
theorem str_bs (s : ByteArray) : str (bs s) = s := rfl

def JoinPost (w : World) (r : Option (List UInt8)) (e : Ending) (w' : World) : Prop :=
  Below w.heap.size w w' ∧ match r with
    | some q => e = .returned (.tuple #[.string (str q), .int .i64 0])
    | none => e = .returned (.tuple #[.string (str []), .int .i64 2])

theorem drop_cons {ss : List ByteArray} {k : Nat} (h : k < ss.length) : ss.drop k = (ss[k]?.getD ByteArray.empty) :: ss.drop (k + 1) := by
  rw [List.drop_eq_getElem_cons h, List.getElem?_eq_getElem h]; rfl

set_option maxHeartbeats 2000000 in
theorem JoinB_any (w : World) (b o c : Nat) (ss : List ByteArray) (hlt : b < w.heap.size) (hc : ∀ j, j < ss.length → w.cell? ⟨b, o + j, none⟩ = some (.string (ss[j]?.getD ByteArray.empty))) (hn : ss.length ≤ 1000000) (hs : tot ss ≤ 140737488355327) :
    Calls Tryz.prog 76 #[.slice (some ⟨b, o, none⟩) ss.length c] w (JoinPost w ((Pt.goB [] (ss.map bs)).map fun p => if p = [] then [46] else p)) := by
  have HC := Lib.hid hc
  clear hc
  go_enter Tryz.func76, Tryz.ntmps76
  go_wp2
  go_loopw [4, 10] (fun v i wr => ∃ (k : Nat) (q : List UInt8) (a : Option Addr) (cp : Nat), k ≤ ss.length ∧ i = .int .i64 k ∧ v = .slice a q.length cp ∧ wr.ownsRow w.heap.size 5 1 (.slice a q.length cp) q.length (u8s q) ∧
      Pt.goB q ((ss.drop k).map bs) = Pt.goB [] (ss.map bs) ∧ q.length + tot (ss.drop k) ≤ tot ss ∧ Below w.heap.size w wr)
    (fun _ i _ => ss.length - (intOf i).toNat)
  case atStart => exact ⟨0, [], none, 0, Nat.zero_le _, rfl, rfl, World.ownsRow_nil _ _ _ _, rfl, by simp, Below.refl _ _⟩
  case round =>
    obtain ⟨k, q, a, cp, hk, rfl, rfl, hr, hg, hq, hB⟩ := hrel
    have HG := Lib.hid hg
    clear hg
    by_cases hlk : k < ss.length
    · have hcell := (hB.cell (p := ⟨b, o + k, none⟩) hlt).trans (HC.out k hlk)
      rw [drop_cons hlk] at hq
      have hG2 := HG.out
      rw [drop_cons hlk] at hG2
      generalize ss[k]?.getD ByteArray.empty = x at *
      have hq2 : q.length + (x.size + 1) + tot (ss.drop (k + 1)) ≤ tot ss := by simp [tot] at hq ⊢; omega
      clear hq
      rw [List.map_cons, Pt.goB] at hG2
      cases hw : Pt.walkB q (Pt.pieces (bs x)) with
      | none =>
        rw [hw] at hG2
        have HW := Lib.hid hw
        have HE := Lib.hid hG2
        clear hw hG2
        go_wp2_with (go_at_call 90; refine (follow_no _ w.heap.size _ q x hr hB.size (by omega) HW).mono ?_; rintro e w' ⟨rfl, hB2⟩)
        go_ret2
        refine ⟨hB.trans hB2, ?_⟩
        rw [← HE.out]
        rfl
      | some r =>
        rw [hw] at hG2
        have hlen := walkB_len _ _ _ hw
        rw [cost_pieces, bs_len] at hlen
        have HW := Lib.hid hw
        have HE := Lib.hid hG2
        clear hw hG2
        go_wp2_with (go_at_call 90; refine (follow_yes _ w.heap.size _ q r x hr hB.size (by omega) HW).mono ?_; rintro e w' ⟨a2, c2, rfl, hr2, hB2⟩)
        go_roundw
        case rel => exact ⟨k + 1, r, a2, c2, by omega, by go_num, rfl, hr2, HE.out, by omega, hB.trans hB2⟩
        case measure => simp [intOf]; omega
    · have hke : k = ss.length := by omega
      have hG2 := HG.out
      rw [hke, List.drop_length] at hG2
      have HE : Hid (Pt.goB [] (ss.map bs) = some q) := Lib.hid hG2.symm
      clear hG2
      have hql : q.length ≤ 140737488355328 := by omega
      clear hq hke
      have hge : ¬ (k : Int) < ss.length := by omega
      by_cases h0 : q.length = 0
      · have h0' : ((q.length : Int) == 0) = true := by rw [h0]; rfl
        have hqe := Lib.hid (List.eq_nil_of_length_eq_zero h0)
        clear h0
        go_wp2
        go_ret2
        refine ⟨hB, ?_⟩
        rw [HE.out, hqe.out]
        rfl
      · have h0' : ((q.length : Int) == 0) = false := by rw [beq_eq_false_iff_ne]; omega
        obtain ⟨g, c2, e2, _, _⟩ := owns_some hr (by omega)
        cases e2
        have hh := held_of hr
        have hconv := run_convert_bytes_back (P := Tryz.prog) wr 123 9 5 ⟨g, 0, none⟩ cp q Tryz.underlying123 Tryz.underlying5 Tryz.underlying9
          (fun j hj => by
            have := hh j hj
            rw [List.getElem?_eq_getElem hj] at this
            rw [Addr.add_lit, Nat.zero_add]
            exact this)
        have hqe := Lib.hid (fun e => h0 (by rw [e]; rfl) : q ≠ [])
        clear h0 hh
        go_wp2
        go_ret2
        refine ⟨hB, ?_⟩
        rw [HE.out]
        simp only [Option.map_some]
        rw [if_neg hqe.out]
        rfl

set_option maxHeartbeats 1000000 in
theorem Join0_any (w : World) (a : Option Addr) (c : Nat) :
    Calls Tryz.prog 76 #[.slice a 0 c] w (JoinPost w (some [46])) := by
  go_enter Tryz.func76, Tryz.ntmps76
  go_wp2
  go_loopw [4, 10] (fun v i wr => v = .slice none 0 0 ∧ i = .int .i64 0 ∧ wr = w) (fun _ _ _ => 0)
  case atStart => exact ⟨rfl, rfl, rfl⟩
  case round =>
    obtain ⟨rfl, rfl, rfl⟩ := hrel
    go_wp2
    go_ret2
    exact ⟨Below.refl _ _, rfl⟩

/-- path.Join: where the strings lead. -/
theorem Join_any (w : World) (v : Value) (ss : List ByteArray) (hv : Strs w v ss) (hn : ss.length ≤ 1000000) (hs : tot ss ≤ 140737488355327) :
    Calls Tryz.prog 76 #[v] w (JoinPost w (Pt.join (ss.map bs))) := by
  rw [Pt.join_eq]
  rcases hv with ⟨rfl, a, c, rfl⟩ | ⟨b, o, c, rfl, hb, hc⟩
  · exact Join0_any w a c
  · exact JoinB_any w b o c ss hb hc hn hs

theorem Join_yes (w : World) (v : Value) (ss : List ByteArray) (q : List UInt8) (hv : Strs w v ss) (hn : ss.length ≤ 1000000) (hs : tot ss ≤ 140737488355327) (h : Hid (Pt.join (ss.map bs) = some q)) :
    Calls Tryz.prog 76 #[v] w fun e w' => e = .returned (.tuple #[.string (str q), .int .i64 0]) ∧ Below w.heap.size w w' := by
  refine (Join_any w v ss hv hn hs).mono ?_
  rw [h.out]
  rintro e w' ⟨hB, rfl⟩
  exact ⟨rfl, hB⟩
theorem Join_no (w : World) (v : Value) (ss : List ByteArray) (hv : Strs w v ss) (hn : ss.length ≤ 1000000) (hs : tot ss ≤ 140737488355327) (h : Hid (Pt.join (ss.map bs) = none)) :
    Calls Tryz.prog 76 #[v] w fun e w' => e = .returned (.tuple #[.string (str []), .int .i64 2]) ∧ Below w.heap.size w w' := by
  refine (Join_any w v ss hv hn hs).mono ?_
  rw [h.out]
  rintro e w' ⟨hB, rfl⟩
  exact ⟨rfl, hB⟩

/-- A list of one string, as a call lays it. -/
theorem strs_one (w : World) (s : ByteArray) (c : Nat) : Strs (w.alloc (.cells #[.string s] 9)) (.slice (some ⟨w.heap.size, 0, none⟩) 1 c) [s] :=
  .inr ⟨w.heap.size, 0, c, rfl, by simp, fun j hj => by
    obtain rfl : j = 0 := by simpa using hj
    exact (Boxed.new w 9 (.string s)).cell⟩

/-- Whether a string is the path that Join of it returns. -/
def isPath (s : List UInt8) : Bool := decide (Pt.join [s] = some s)

set_option maxHeartbeats 1000000 in
theorem Clean_any (w : World) (s : ByteArray) (hs : s.size ≤ 140737488355326) :
    Calls Tryz.prog 49 #[.string s] w fun e w' => e = .returned (.bool (isPath (bs s))) ∧ Below w.heap.size w w' := by
  have hss := strs_one w s 1
  cases hj : Pt.join [bs s] with
  | none =>
    have HN : Hid (Pt.join ([s].map bs) = none) := Lib.hid hj
    have HE : Hid (isPath (bs s) = false) := Lib.hid (by unfold isPath; rw [hj]; rfl)
    clear hj
    go_enter Tryz.func49, Tryz.ntmps49
    go_wp2_with (go_at_call 76; refine (Join_no _ _ [s] hss (by simp) (by simp [tot]; omega) HN).mono ?_; rintro e w' ⟨rfl, hB2⟩)
    go_ret
    exact ⟨by rw [HE.out]; rfl, ((Below.refl _ w).alloc (Nat.le_refl _) _).trans (hB2.mono (by simp))⟩
  | some q =>
    have HN : Hid (Pt.join ([s].map bs) = some q) := Lib.hid hj
    by_cases hq : q = bs s
    · have HE : Hid (isPath (bs s) = true) := Lib.hid (by unfold isPath; rw [hj, hq]; simp)
      have hb : ((str q).toList == s.toList) = true := by rw [Lib.toList_data, Lib.toList_data, hq, beq_iff_eq]; rfl
      clear hj hq
      go_enter Tryz.func49, Tryz.ntmps49
      go_wp2_with (go_at_call 76; refine (Join_yes _ _ [s] q hss (by simp) (by simp [tot]; omega) HN).mono ?_; rintro e w' ⟨rfl, hB2⟩)
      go_ret
      exact ⟨by rw [HE.out]; rfl, ((Below.refl _ w).alloc (Nat.le_refl _) _).trans (hB2.mono (by simp))⟩
    · have HE : Hid (isPath (bs s) = false) := Lib.hid (by unfold isPath; rw [hj]; simpa using hq)
      have hb : ((str q).toList == s.toList) = false := by rw [Lib.toList_data, Lib.toList_data, beq_eq_false_iff_ne]; exact hq
      clear hj hq
      go_enter Tryz.func49, Tryz.ntmps49
      go_wp2_with (go_at_call 76; refine (Join_yes _ _ [s] q hss (by simp) (by simp [tot]; omega) HN).mono ?_; rintro e w' ⟨rfl, hB2⟩)
      go_ret
      exact ⟨by rw [HE.out]; rfl, ((Below.refl _ w).alloc (Nat.le_refl _) _).trans (hB2.mono (by simp))⟩
end Go.Proofs.YtmmilnmlmgcobaaGreatDoor
