/-
  words.Cut as what precedes the byte, the byte, and what follows it; makefile.has and makefile.operator.
-/
import Derived.Deep.QuietTactic
import Derived.Test.YtjjlafbdhpojpaaDoorWCut
import Derived.Test.YtjjlafbdhpojpaaDoorIEach
import Derived.Test.YtjjlafbdhpojpaaDoorMPlain2
namespace Go.Proofs.YtjjlafbdhpojpaaDoor.Mw
open Go.RowKit Go.Proofs.YtjjlafbdhpojpaaDoor Go.Proofs.YtjjlafbdhpojpaaDoor.Ww Go.Proofs.YtjjlafbdhpojpaaDoor.Iw
set_option maxRecDepth 100000

theorem str_take {s : ByteArray} {k : Nat} : s.extract 0 k = str ((by8 s).take k) := by8_ext (by rw [by8_take]; rfl)
theorem str_drop {s : ByteArray} {k : Nat} : s.extract k s.size = str ((by8 s).drop k) := by8_ext (by rw [by8_drop]; rfl)
theorem CutN (w : World) (s stops : Bs) (hs : s.length ≤ 100000) (hst : stops.length ≤ 100000) (h : Mp.cut stops s = none) :
    Calls Tryd.prog 75 #[.string (str s), .string ⟨stops.toArray⟩] w fun e w' => e = .returned (.tuple #[.string (str s), .int .u8 0, .string ⟨#[]⟩]) ∧ Below w.heap.size w w' := by
  have H := Ww.Cut_any w (str s) (str stops) (by rw [str_size]; exact hs) (by rw [str_size]; exact hst)
  refine H.mono fun e w' ⟨h1, h2⟩ => ⟨?_, h2⟩
  rw [h1]
  rw [show Wp.cutA (by8 (str stops)) [] (by8 (str s)) 0 = none from h]
  rfl
theorem CutS (w : World) (s stops : Bs) (hs : s.length ≤ 100000) (hst : stops.length ≤ 100000) (k : Nat) (h : Mp.cut stops s = some k) :
    Calls Tryd.prog 75 #[.string (str s), .string ⟨stops.toArray⟩] w fun e w' => e = .returned (.tuple #[.string (str (s.take k)), .int .u8 ((s.getD k 0).toNat : Int), .string (str (s.drop (k + 1)))]) ∧ Below w.heap.size w w' := by
  have H := Ww.Cut_any w (str s) (str stops) (by rw [str_size]; exact hs) (by rw [str_size]; exact hst)
  refine H.mono fun e w' ⟨h1, h2⟩ => ⟨?_, h2⟩
  rw [h1]
  rw [show Wp.cutA (by8 (str stops)) [] (by8 (str s)) 0 = some k from h]
  show Ending.returned (.tuple #[.string ((str s).extract 0 k), .int .u8 (((by8 (str s)).getD k 0).toNat : Int), .string ((str s).extract (k + 1) (str s).size)]) = _
  rw [str_take, str_drop]
  rfl
theorem pre_is (r : Bs) (c : UInt8) : Lib.hasPrefix r [c] = (r.head? == some c) := by
  unfold Lib.hasPrefix
  cases r with
  | nil => rfl
  | cons x r =>
    show ((c == x) && true) = (some x == some c)
    rw [Bool.and_true]
    by_cases h : x = c
    · subst h; simp
    · rw [beq_eq_false_iff_ne.2 (Ne.symm h), beq_eq_false_iff_ne.2 (by simpa using h)]
theorem Pre_c (w : World) (r : Bs) (c : UInt8) (q : Bool) (hq : Hid ((r.head? == some c) = q)) : Calls Tryd.prog 47 #[.string (str r), .string ⟨#[c]⟩] w fun e w' => e = .returned (.bool q) ∧ w = w' :=
  (Tryd.strings_HasPrefix (str r) ⟨#[c]⟩ w).mono fun e w' ⟨he, hw⟩ => ⟨by rw [he, ← hq.out, ← pre_is]; rfl, hw.symm⟩
theorem Suf_c (w : World) (a : Bs) (c : UInt8) (q : Bool) (ha : a.length ≤ 1000000) (hq : Hid ((a.getLast? == some c) = q)) : Calls Tryd.prog 49 #[.string (str a), .string ⟨#[c]⟩] w fun e w' => e = .returned (.bool q) ∧ w = w' :=
  (Tryd.strings_HasSuffix (str a) ⟨#[c]⟩ w (by rw [str_size]; omega)).mono fun e w' ⟨he, hw⟩ => ⟨by
    rw [he]
    have hq := hq.out
    have : Lib.hasSuffix (str a).data.toList (⟨#[c]⟩ : ByteArray).data.toList = q := by
      show Lib.hasSuffix a [c] = q
      cases q with
      | true =>
        rw [beq_iff_eq] at hq
        obtain ⟨a', rfl⟩ := List.getLast?_eq_some_iff.1 hq
        exact suffix_yes
      | false => exact suffix_no (by rw [beq_eq_false_iff_ne] at hq; exact hq)
    rw [this], hw.symm⟩

theorem has_any (w : World) (s stops : Bs) (hs : s.length ≤ 100000) (hst : stops.length ≤ 100000) (h0 : (0 : UInt8) ∉ stops) (q : Bool) (hq : Hid (Mp.has stops s = q)) :
    Calls Tryd.prog 89 #[.string (str s), .string ⟨stops.toArray⟩] w fun e w' => e = .returned (.bool q) ∧ Below w.heap.size w w' := by
  cases h : Mp.cut stops s with
  | none =>
    have HC := Lib.hid (CutN w s stops hs hst h)
    obtain rfl : false = q := by rw [← hq.out]; unfold Mp.has; rw [h]; rfl
    clear h hq
    go_enter Tryd.func89, Tryd.ntmps89
    go_wp2_with fail
    refine HC.out.mono ?_
    rintro e w1 ⟨rfl, B1⟩
    go_wp2_with fail
    go_ret
    exact ⟨rfl, B1⟩
  | some k =>
    have HC := Lib.hid (CutS w s stops hs hst k h)
    obtain rfl : true = q := by rw [← hq.out]; unfold Mp.has; rw [h]; rfl
    have hk := Mp.cut_lt h
    have hc : (s.getD k 0) ≠ 0 := by
      intro e
      have := Mp.cut_hits h
      rw [e] at this
      exact h0 this
    have hb : (((s.getD k 0).toNat : Int) != 0) = true := by
      rw [bne_iff_ne]
      intro e
      exact hc (UInt8.toNat_inj.1 (by show _ = 0; omega))
    generalize s.getD k 0 = c at *
    clear h hq
    go_enter Tryd.func89, Tryd.ntmps89
    go_wp2_with fail
    refine HC.out.mono ?_
    rintro e w1 ⟨rfl, B1⟩
    go_wp2_with fail
    go_ret
    exact ⟨rfl, B1⟩

def OperPost (w : World) (o : Bs × Bs × Bs) (e : Ending) (w' : World) : Prop := e = .returned (.tuple #[.string (str o.1), .string (str o.2.1), .string (str o.2.2)]) ∧ Below w.heap.size w w'
theorem oper_none {s : Bs} (h : Mp.cut [61, 58] s = none) : Mp.operA s = ([], [], []) := by unfold Mp.operA; rw [h]
theorem oper_some {s : Bs} {k : Nat} (h : Mp.cut [61, 58] s = some k) : Mp.operA s = Mp.opAt (s.take k) (s.getD k 0) (s.drop (k + 1)) := by unfold Mp.operA; rw [h]

set_option maxHeartbeats 1000000 in
theorem operator_any (w : World) (s : Bs) (hs : s.length ≤ 100000) :
    Calls Tryd.prog 73 #[.string (str s)] w (OperPost w (Mp.operA s)) := by
  cases h : Mp.cut [61, 58] s with
  | none =>
    have HC := Lib.hid (CutN w s [61, 58] hs (by decide) h)
    rw [oper_none h]
    clear h
    go_enter Tryd.func73, Tryd.ntmps73
    go_wp2_with fail
    refine HC.out.mono ?_
    rintro e w1 ⟨rfl, B1⟩
    go_wp2_with fail
    go_ret3
    exact ⟨rfl, B1⟩
  | some k =>
    have HC := Lib.hid (CutS w s [61, 58] hs (by decide) k h)
    rw [oper_some h]
    have hb : (s.take k).length ≤ 100000 := by rw [List.length_take]; omega
    have hr : (s.drop (k + 1)).length ≤ 100000 := by rw [List.length_drop]; omega
    clear h
    generalize s.take k = b at *
    generalize s.drop (k + 1) = r at *
    generalize s.getD k 0 = c at *
    by_cases h58 : c = 58
    · subst h58
      by_cases h61 : r.head? = some 61
      · obtain ⟨r', rfl⟩ : ∃ r', r = 61 :: r' := by
          cases r with
          | nil => cases h61
          | cons x r => obtain rfl : x = 61 := by simpa using h61
                        exact ⟨r, rfl⟩
        have HE : Hid (Mp.opAt b 58 (61 :: r') = (b, [58, 61], r')) := Lib.hid (if_pos ⟨rfl, rfl⟩)
        obtain ⟨sr, hsr⟩ : ∃ sr, str (61 :: r') = sr := ⟨_, rfl⟩
        have hsz : sr.size = r'.length + 1 := by rw [← hsr, str_size]; rfl
        have HX : Hid (sr.extract 1 sr.size = str r') := Lib.hid (by rw [str_drop, ← hsr]; rfl)
        have HP := Lib.hid fun W => Pre_c W (61 :: r') 61 true (Lib.hid (by simp))
        rw [hsr] at HC HP
        have q1 : (1 : Int) ≤ (sr.size : Int) := by omega
        clear h61 hsz hsr
        go_enter Tryd.func73, Tryd.ntmps73
        go_wp2_with fail
        refine HC.out.mono ?_
        rintro e w1 ⟨rfl, B1⟩
        go_wp2_with fail
        refine (HP.out _).mono ?_
        rintro e w2 ⟨rfl, rfl⟩
        go_wp2_with fail
        go_quiet (fail)
        go_wp2_with fail
        go_ret3
        exact ⟨by rw [HE.out, ← HX.out]; rfl, below_drewN B1 _⟩
      · have HE : Hid (Mp.opAt b 58 r = ([], [], [])) := Lib.hid (by unfold Mp.opAt; rw [if_neg (fun h => h61 h.2), if_pos (by decide)])
        have HP := Lib.hid fun W => Pre_c W r 61 false (Lib.hid (beq_eq_false_iff_ne.2 h61))
        clear h61
        go_enter Tryd.func73, Tryd.ntmps73
        go_wp2_with fail
        refine HC.out.mono ?_
        rintro e w1 ⟨rfl, B1⟩
        go_wp2_with fail
        refine (HP.out _).mono ?_
        rintro e w2 ⟨rfl, rfl⟩
        go_wp2_with fail
        go_ret3
        exact ⟨by rw [HE.out]; rfl, B1⟩
    · have e58 : ((c.toNat : Int) == 58) = false := eq_false (b := 58) h58
      by_cases h61 : c = 61
      · subst h61
        by_cases hq : b.getLast? = some 63 ∨ (¬ b.getLast? = some 63 ∧ b.getLast? = some 43)
        · obtain ⟨d, q, hd, hq1, hq2⟩ : ∃ (d : UInt8) (q : Bool), b.getLast? = some d ∧ (b.getLast? == some 63) = q ∧ (q = true ∧ d = 63 ∨ q = false ∧ d = 43) := by
            rcases hq with h | ⟨h, h'⟩
            · exact ⟨63, true, h, by rw [h]; rfl, .inl ⟨rfl, rfl⟩⟩
            · exact ⟨43, false, h', beq_eq_false_iff_ne.2 h, .inr ⟨rfl, rfl⟩⟩
          obtain ⟨b', rfl⟩ := List.getLast?_eq_some_iff.1 hd
          have HE : Hid (Mp.opAt (b' ++ [d]) 61 r = (b', [d, 61], r)) := Lib.hid (by
            unfold Mp.opAt
            rw [if_neg (fun h => absurd h.1 (by decide)), if_neg (by decide)]
            rcases hq2 with ⟨_, rfl⟩ | ⟨_, rfl⟩
            · rw [if_pos (by simp)]; simp
            · rw [if_neg (by simp), if_pos (by simp)]; simp)
          have H1 := Lib.hid fun W => Suf_c W (b' ++ [d]) 63 q (by omega) (Lib.hid hq1)
          have H2 := Lib.hid fun W => Suf_c W (b' ++ [d]) 43 (d == 43) (by omega) (Lib.hid (by simp))
          obtain ⟨sb, hsb⟩ : ∃ sb, str (b' ++ [d]) = sb := ⟨_, rfl⟩
          have hsz : sb.size = b'.length + 1 := by rw [← hsb, str_size]; simp
          have X1 : Hid (sb.extract 0 b'.length = str b') := Lib.hid (by rw [str_take, ← hsb, by8_str]; simp)
          have X2 : Hid (sb.extract b'.length sb.size ++ ⟨#[61]⟩ = str [d, 61]) := Lib.hid (by rw [str_drop, ← hsb, by8_str]; simp; exact by8_ext (by rw [by8_add]; rfl))
          have p1 : (0 : Int) ≤ (sb.size : Int) - 1 := by omega
          have p2 : (sb.size : Int) - 1 ≤ (sb.size : Int) := by omega
          have p3 : ((sb.size : Int) - 1).toNat = b'.length := by omega
          have p4 : sb.size < 1000000 := by rw [hsz]; simp at hb; omega
          have p5 : IntKind.i64.wrap ((sb.size : Int) - 1) = (sb.size : Int) - 1 := IntWalk.i64_in _ (by omega)
          have p6 : (sb.extract b'.length sb.size).size ≤ 1000000 := by rw [ByteArray.size_extract]; omega
          rw [hsb] at HC H1 H2
          clear hsb hsz hd hq1 hq hb
          cases q with
          | true =>
            clear hq2
            go_enter Tryd.func73, Tryd.ntmps73
            go_wp2_with fail
            refine HC.out.mono ?_
            rintro e w1 ⟨rfl, B1⟩
            go_wp2_with fail
            refine (H1.out _).mono ?_
            rintro e w2 ⟨rfl, rfl⟩
            go_wp2_with fail
            go_quiet (fail)
            go_wp2_with fail
            go_ret3
            exact ⟨by rw [HE.out]; show Ending.returned (.tuple #[.string (sb.extract 0 b'.length), .string (sb.extract b'.length sb.size ++ ⟨#[61]⟩), .string (str r)]) = _; rw [X1.out, X2.out], below_drewN B1 _⟩
          | false =>
            obtain rfl : d = 43 := by rcases hq2 with ⟨h, _⟩ | ⟨_, h⟩; cases h; exact h
            clear hq2
            go_enter Tryd.func73, Tryd.ntmps73
            go_wp2_with fail
            refine HC.out.mono ?_
            rintro e w1 ⟨rfl, B1⟩
            go_wp2_with fail
            refine (H1.out _).mono ?_
            rintro e w2 ⟨rfl, rfl⟩
            go_wp2_with fail
            refine (H2.out _).mono ?_
            rintro e w2 ⟨rfl, rfl⟩
            go_wp2_with fail
            go_quiet (fail)
            go_wp2_with fail
            go_ret3
            exact ⟨by rw [HE.out]; show Ending.returned (.tuple #[.string (sb.extract 0 b'.length), .string (sb.extract b'.length sb.size ++ ⟨#[61]⟩), .string (str r)]) = _; rw [X1.out, X2.out], below_drewN B1 _⟩
        · have h1 : ¬ b.getLast? = some 63 := fun h => hq (.inl h)
          have h2 : ¬ b.getLast? = some 43 := fun h => hq (.inr ⟨h1, h⟩)
          have HE : Hid (Mp.opAt b 61 r = (b, [61], r)) := Lib.hid (by
            unfold Mp.opAt
            rw [if_neg (fun h => absurd h.1 (by decide)), if_neg (by decide), if_neg h1, if_neg h2])
          have H1 := Lib.hid fun W => Suf_c W b 63 false (by omega) (Lib.hid (beq_eq_false_iff_ne.2 h1))
          have H2 := Lib.hid fun W => Suf_c W b 43 false (by omega) (Lib.hid (beq_eq_false_iff_ne.2 h2))
          clear h1 h2 hq
          go_enter Tryd.func73, Tryd.ntmps73
          go_wp2_with fail
          refine HC.out.mono ?_
          rintro e w1 ⟨rfl, B1⟩
          go_wp2_with fail
          refine (H1.out _).mono ?_
          rintro e w2 ⟨rfl, rfl⟩
          go_wp2_with fail
          refine (H2.out _).mono ?_
          rintro e w2 ⟨rfl, rfl⟩
          go_wp2_with fail
          go_ret3
          exact ⟨by rw [HE.out]; rfl, B1⟩
      · have e61 : ((c.toNat : Int) != 61) = true := by rw [bne, show ((c.toNat : Int) == 61) = false from eq_false (b := 61) h61]; rfl
        have HE : Hid (Mp.opAt b c r = ([], [], [])) := Lib.hid (by unfold Mp.opAt; rw [if_neg (fun h => h58 h.1), if_pos h61])
        clear h58 h61
        go_enter Tryd.func73, Tryd.ntmps73
        go_wp2_with fail
        refine HC.out.mono ?_
        rintro e w1 ⟨rfl, B1⟩
        go_wp2_with fail
        go_ret3
        exact ⟨by rw [HE.out]; rfl, B1⟩
end Go.Proofs.YtjjlafbdhpojpaaDoor.Mw
