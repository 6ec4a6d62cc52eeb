/-
  words.Cut as what precedes the byte, the byte, and what follows it; makefile.has and makefile.operator.
  strings.IndexRune of one of the runes from 128 on in a text of bytes below 128: none. First part: how such runes are written and read; the runes that are no runes.
  strings.IndexRune of a rune from 128 on in a text of four bytes below 128: none.
  glob.Magic: whether one of the four bytes is in a text, for every text, also one that is no valid UTF-8.
-/
import Derived.Deep.QuietTactic
import Derived.Test.YtgednccpjegbmaaGreatDoorQWCut
import Derived.Test.YtgednccpjegbmaaGreatDoorQIEach
import Derived.Test.YtgednccpjegbmaaGreatDoorQMPlain2
import Derived.Shelf.Strings.IndexAnyAll
import Derived.Shelf.Small.Utf8
import Derived.Lib.DecodeN
import Derived.Lib.OthersKept
import Derived.Laws.IdiomStrings
import Derived.Deep.LoopGhost
import Derived.Test.YtgednccpjegbmaaGreatDoorShelf
import Derived.Test.YtgednccpjegbmaaGreatDoorQIBuild
namespace Go.Proofs.YtgednccpjegbmaaGreatDoor.Mw
open Go.RowKit Go.Proofs.YtgednccpjegbmaaGreatDoor Go.Proofs.YtgednccpjegbmaaGreatDoor.Ww Go.Proofs.YtgednccpjegbmaaGreatDoor.Iw
set_option maxRecDepth 100000

theorem str_take {s : ByteArray} {k : Nat} : s.extract 0 k = str ((by8 s).take k) := by8_ext (by rw [by8_take]; rfl)
theorem str_drop {s : ByteArray} {k : Nat} : s.extract k s.size = str ((by8 s).drop k) := by8_ext (by rw [by8_drop]; rfl)
theorem CutN (w : World) (s stops : Bs) (hs : s.length ≤ 100000) (hst : stops.length ≤ 100000) (h : Mp.cut stops s = none) :
    Calls Tryz.prog 158 #[.string (str s), .string ⟨stops.toArray⟩] w fun e w' => e = .returned (.tuple #[.string (str s), .int .u8 0, .string ⟨#[]⟩]) ∧ Below w.heap.size w w' := by
  have H := Ww.Cut_any w (str s) (str stops) (by rw [str_size]; exact hs) (by rw [str_size]; exact hst)
  refine H.mono fun e w' ⟨h1, h2⟩ => ⟨?_, h2⟩
  rw [h1]
  rw [show Wp.cutA (by8 (str stops)) [] (by8 (str s)) 0 = none from h]
  rfl
theorem CutS (w : World) (s stops : Bs) (hs : s.length ≤ 100000) (hst : stops.length ≤ 100000) (k : Nat) (h : Mp.cut stops s = some k) :
    Calls Tryz.prog 158 #[.string (str s), .string ⟨stops.toArray⟩] w fun e w' => e = .returned (.tuple #[.string (str (s.take k)), .int .u8 ((s.getD k 0).toNat : Int), .string (str (s.drop (k + 1)))]) ∧ Below w.heap.size w w' := by
  have H := Ww.Cut_any w (str s) (str stops) (by rw [str_size]; exact hs) (by rw [str_size]; exact hst)
  refine H.mono fun e w' ⟨h1, h2⟩ => ⟨?_, h2⟩
  rw [h1]
  rw [show Wp.cutA (by8 (str stops)) [] (by8 (str s)) 0 = some k from h]
  show Ending.returned (.tuple #[.string ((str s).extract 0 k), .int .u8 (((by8 (str s)).getD k 0).toNat : Int), .string ((str s).extract (k + 1) (str s).size)]) = _
  rw [str_take, str_drop]
  rfl
theorem pre_is (r : Bs) (c : UInt8) : Lib.hasPrefix r [c] = (r.head? == some c) := by
  unfold Lib.hasPrefix
  cases r with
  | nil => rfl
  | cons x r =>
    show ((c == x) && true) = (some x == some c)
    rw [Bool.and_true]
    by_cases h : x = c
    · subst h; simp
    · rw [beq_eq_false_iff_ne.2 (Ne.symm h), beq_eq_false_iff_ne.2 (by simpa using h)]
theorem Pre_c (w : World) (r : Bs) (c : UInt8) (q : Bool) (hq : Hid ((r.head? == some c) = q)) : Calls Tryz.prog 37 #[.string (str r), .string ⟨#[c]⟩] w fun e w' => e = .returned (.bool q) ∧ w = w' :=
  (Tryz.strings_HasPrefix (str r) ⟨#[c]⟩ w).mono fun e w' ⟨he, hw⟩ => ⟨by rw [he, ← hq.out, ← pre_is]; rfl, hw.symm⟩
theorem Suf_c (w : World) (a : Bs) (c : UInt8) (q : Bool) (ha : a.length ≤ 1000000) (hq : Hid ((a.getLast? == some c) = q)) : Calls Tryz.prog 121 #[.string (str a), .string ⟨#[c]⟩] w fun e w' => e = .returned (.bool q) ∧ w = w' :=
  (Tryz.strings_HasSuffix (str a) ⟨#[c]⟩ w (by rw [str_size]; omega)).mono fun e w' ⟨he, hw⟩ => ⟨by
    rw [he]
    have hq := hq.out
    have : Lib.hasSuffix (str a).data.toList (⟨#[c]⟩ : ByteArray).data.toList = q := by
      show Lib.hasSuffix a [c] = q
      cases q with
      | true =>
        rw [beq_iff_eq] at hq
        obtain ⟨a', rfl⟩ := List.getLast?_eq_some_iff.1 hq
        exact suffix_yes
      | false => exact suffix_no (by rw [beq_eq_false_iff_ne] at hq; exact hq)
    rw [this], hw.symm⟩

theorem has_any (w : World) (s stops : Bs) (hs : s.length ≤ 100000) (hst : stops.length ≤ 100000) (h0 : (0 : UInt8) ∉ stops) (q : Bool) (hq : Hid (Mp.has stops s = q)) :
    Calls Tryz.prog 224 #[.string (str s), .string ⟨stops.toArray⟩] w fun e w' => e = .returned (.bool q) ∧ Below w.heap.size w w' := by
  cases h : Mp.cut stops s with
  | none =>
    have HC := Lib.hid (CutN w s stops hs hst h)
    obtain rfl : false = q := by rw [← hq.out]; unfold Mp.has; rw [h]; rfl
    clear h hq
    go_enter Tryz.func224, Tryz.ntmps224
    go_wp2_with fail
    refine HC.out.mono ?_
    rintro e w1 ⟨rfl, B1⟩
    go_wp2_with fail
    go_ret
    exact ⟨rfl, B1⟩
  | some k =>
    have HC := Lib.hid (CutS w s stops hs hst k h)
    obtain rfl : true = q := by rw [← hq.out]; unfold Mp.has; rw [h]; rfl
    have hk := Mp.cut_lt h
    have hc : (s.getD k 0) ≠ 0 := by
      intro e
      have := Mp.cut_hits h
      rw [e] at this
      exact h0 this
    have hb : (((s.getD k 0).toNat : Int) != 0) = true := by
      rw [bne_iff_ne]
      intro e
      exact hc (UInt8.toNat_inj.1 (by show _ = 0; omega))
    generalize s.getD k 0 = c at *
    clear h hq
    go_enter Tryz.func224, Tryz.ntmps224
    go_wp2_with fail
    refine HC.out.mono ?_
    rintro e w1 ⟨rfl, B1⟩
    go_wp2_with fail
    go_ret
    exact ⟨rfl, B1⟩

def OperPost (w : World) (o : Bs × Bs × Bs) (e : Ending) (w' : World) : Prop := e = .returned (.tuple #[.string (str o.1), .string (str o.2.1), .string (str o.2.2)]) ∧ Below w.heap.size w w'
theorem oper_none {s : Bs} (h : Mp.cut [61, 58] s = none) : Mp.operA s = ([], [], []) := by unfold Mp.operA; rw [h]
theorem oper_some {s : Bs} {k : Nat} (h : Mp.cut [61, 58] s = some k) : Mp.operA s = Mp.opAt (s.take k) (s.getD k 0) (s.drop (k + 1)) := by unfold Mp.operA; rw [h]

set_option maxHeartbeats 1000000 in
theorem operator_any (w : World) (s : Bs) (hs : s.length ≤ 100000) :
    Calls Tryz.prog 181 #[.string (str s)] w (OperPost w (Mp.operA s)) := by
  cases h : Mp.cut [61, 58] s with
  | none =>
    have HC := Lib.hid (CutN w s [61, 58] hs (by decide) h)
    rw [oper_none h]
    clear h
    go_enter Tryz.func181, Tryz.ntmps181
    go_wp2_with fail
    refine HC.out.mono ?_
    rintro e w1 ⟨rfl, B1⟩
    go_wp2_with fail
    go_ret3
    exact ⟨rfl, B1⟩
  | some k =>
    have HC := Lib.hid (CutS w s [61, 58] hs (by decide) k h)
    rw [oper_some h]
    have hb : (s.take k).length ≤ 100000 := by rw [List.length_take]; omega
    have hr : (s.drop (k + 1)).length ≤ 100000 := by rw [List.length_drop]; omega
    clear h
    generalize s.take k = b at *
    generalize s.drop (k + 1) = r at *
    generalize s.getD k 0 = c at *
    by_cases h58 : c = 58
    · subst h58
      by_cases h61 : r.head? = some 61
      · obtain ⟨r', rfl⟩ : ∃ r', r = 61 :: r' := by
          cases r with
          | nil => cases h61
          | cons x r =>
            obtain rfl : x = 61 := by simpa using h61
            exact ⟨r, rfl⟩
        have HE : Hid (Mp.opAt b 58 (61 :: r') = (b, [58, 61], r')) := Lib.hid (if_pos ⟨rfl, rfl⟩)
        obtain ⟨sr, hsr⟩ : ∃ sr, str (61 :: r') = sr := ⟨_, rfl⟩
        have hsz : sr.size = r'.length + 1 := by rw [← hsr, str_size]; rfl
        have HX : Hid (sr.extract 1 sr.size = str r') := Lib.hid (by rw [str_drop, ← hsr]; rfl)
        have HP := Lib.hid fun W => Pre_c W (61 :: r') 61 true (Lib.hid (by simp))
        rw [hsr] at HC HP
        have q1 : (1 : Int) ≤ (sr.size : Int) := by omega
        clear h61 hsz hsr
        go_enter Tryz.func181, Tryz.ntmps181
        go_wp2_with fail
        refine HC.out.mono ?_
        rintro e w1 ⟨rfl, B1⟩
        go_wp2_with fail
        refine (HP.out _).mono ?_
        rintro e w2 ⟨rfl, rfl⟩
        go_wp2_with fail
        go_quiet (fail)
        go_wp2_with fail
        go_ret3
        exact ⟨by rw [HE.out, ← HX.out]; rfl, below_drewN B1 _⟩
      · have HE : Hid (Mp.opAt b 58 r = ([], [], [])) := Lib.hid (by unfold Mp.opAt; rw [if_neg (fun h => h61 h.2), if_pos (by decide)])
        have HP := Lib.hid fun W => Pre_c W r 61 false (Lib.hid (beq_eq_false_iff_ne.2 h61))
        clear h61
        go_enter Tryz.func181, Tryz.ntmps181
        go_wp2_with fail
        refine HC.out.mono ?_
        rintro e w1 ⟨rfl, B1⟩
        go_wp2_with fail
        refine (HP.out _).mono ?_
        rintro e w2 ⟨rfl, rfl⟩
        go_wp2_with fail
        go_ret3
        exact ⟨by rw [HE.out]; rfl, B1⟩
    · have e58 : ((c.toNat : Int) == 58) = false := eq_false (b := 58) h58
      by_cases h61 : c = 61
      · subst h61
        by_cases hq : b.getLast? = some 63 ∨ (¬ b.getLast? = some 63 ∧ b.getLast? = some 43)
        · obtain ⟨d, q, hd, hq1, hq2⟩ : ∃ (d : UInt8) (q : Bool), b.getLast? = some d ∧ (b.getLast? == some 63) = q ∧ (q = true ∧ d = 63 ∨ q = false ∧ d = 43) := by
            rcases hq with h | ⟨h, h'⟩
            · exact ⟨63, true, h, by rw [h]; rfl, .inl ⟨rfl, rfl⟩⟩
            · exact ⟨43, false, h', beq_eq_false_iff_ne.2 h, .inr ⟨rfl, rfl⟩⟩
          obtain ⟨b', rfl⟩ := List.getLast?_eq_some_iff.1 hd
          have HE : Hid (Mp.opAt (b' ++ [d]) 61 r = (b', [d, 61], r)) := Lib.hid (by
            unfold Mp.opAt
            rw [if_neg (fun h => absurd h.1 (by decide)), if_neg (by decide)]
            rcases hq2 with ⟨_, rfl⟩ | ⟨_, rfl⟩
            · rw [if_pos (by simp)]; simp
            · rw [if_neg (by simp), if_pos (by simp)]; simp)
          have H1 := Lib.hid fun W => Suf_c W (b' ++ [d]) 63 q (by omega) (Lib.hid hq1)
          have H2 := Lib.hid fun W => Suf_c W (b' ++ [d]) 43 (d == 43) (by omega) (Lib.hid (by simp))
          obtain ⟨sb, hsb⟩ : ∃ sb, str (b' ++ [d]) = sb := ⟨_, rfl⟩
          have hsz : sb.size = b'.length + 1 := by rw [← hsb, str_size]; simp
          have X1 : Hid (sb.extract 0 b'.length = str b') := Lib.hid (by rw [str_take, ← hsb, by8_str]; simp)
          have X2 : Hid (sb.extract b'.length sb.size ++ ⟨#[61]⟩ = str [d, 61]) := Lib.hid (by rw [str_drop, ← hsb, by8_str]; simp; exact by8_ext (by rw [by8_add]; rfl))
          have p1 : (0 : Int) ≤ (sb.size : Int) - 1 := by omega
          have p2 : (sb.size : Int) - 1 ≤ (sb.size : Int) := by omega
          have p3 : ((sb.size : Int) - 1).toNat = b'.length := by omega
          have p4 : sb.size < 1000000 := by rw [hsz]; simp at hb; omega
          have p5 : IntKind.i64.wrap ((sb.size : Int) - 1) = (sb.size : Int) - 1 := IntWalk.i64_in _ (by omega)
          have p6 : (sb.extract b'.length sb.size).size ≤ 1000000 := by rw [ByteArray.size_extract]; omega
          rw [hsb] at HC H1 H2
          clear hsb hsz hd hq1 hq hb
          cases q with
          | true =>
            clear hq2
            go_enter Tryz.func181, Tryz.ntmps181
            go_wp2_with fail
            refine HC.out.mono ?_
            rintro e w1 ⟨rfl, B1⟩
            go_wp2_with fail
            refine (H1.out _).mono ?_
            rintro e w2 ⟨rfl, rfl⟩
            go_wp2_with fail
            go_quiet (fail)
            go_wp2_with fail
            go_ret3
            exact ⟨by rw [HE.out]; show Ending.returned (.tuple #[.string (sb.extract 0 b'.length), .string (sb.extract b'.length sb.size ++ ⟨#[61]⟩), .string (str r)]) = _; rw [X1.out, X2.out], below_drewN B1 _⟩
          | false =>
            obtain rfl : d = 43 := by rcases hq2 with ⟨h, _⟩ | ⟨_, h⟩; cases h; exact h
            clear hq2
            go_enter Tryz.func181, Tryz.ntmps181
            go_wp2_with fail
            refine HC.out.mono ?_
            rintro e w1 ⟨rfl, B1⟩
            go_wp2_with fail
            refine (H1.out _).mono ?_
            rintro e w2 ⟨rfl, rfl⟩
            go_wp2_with fail
            refine (H2.out _).mono ?_
            rintro e w2 ⟨rfl, rfl⟩
            go_wp2_with fail
            go_quiet (fail)
            go_wp2_with fail
            go_ret3
            exact ⟨by rw [HE.out]; show Ending.returned (.tuple #[.string (sb.extract 0 b'.length), .string (sb.extract b'.length sb.size ++ ⟨#[61]⟩), .string (str r)]) = _; rw [X1.out, X2.out], below_drewN B1 _⟩
        · have h1 : ¬ b.getLast? = some 63 := fun h => hq (.inl h)
          have h2 : ¬ b.getLast? = some 43 := fun h => hq (.inr ⟨h1, h⟩)
          have HE : Hid (Mp.opAt b 61 r = (b, [61], r)) := Lib.hid (by
            unfold Mp.opAt
            rw [if_neg (fun h => absurd h.1 (by decide)), if_neg (by decide), if_neg h1, if_neg h2])
          have H1 := Lib.hid fun W => Suf_c W b 63 false (by omega) (Lib.hid (beq_eq_false_iff_ne.2 h1))
          have H2 := Lib.hid fun W => Suf_c W b 43 false (by omega) (Lib.hid (beq_eq_false_iff_ne.2 h2))
          clear h1 h2 hq
          go_enter Tryz.func181, Tryz.ntmps181
          go_wp2_with fail
          refine HC.out.mono ?_
          rintro e w1 ⟨rfl, B1⟩
          go_wp2_with fail
          refine (H1.out _).mono ?_
          rintro e w2 ⟨rfl, rfl⟩
          go_wp2_with fail
          refine (H2.out _).mono ?_
          rintro e w2 ⟨rfl, rfl⟩
          go_wp2_with fail
          go_ret3
          exact ⟨by rw [HE.out]; rfl, B1⟩
      · have e61 : ((c.toNat : Int) != 61) = true := by rw [bne, show ((c.toNat : Int) == 61) = false from eq_false (b := 61) h61]; rfl
        have HE : Hid (Mp.opAt b c r = ([], [], [])) := Lib.hid (by unfold Mp.opAt; rw [if_neg (fun h => h58 h.1), if_pos h61])
        clear h58 h61
        go_enter Tryz.func181, Tryz.ntmps181
        go_wp2_with fail
        refine HC.out.mono ?_
        rintro e w1 ⟨rfl, B1⟩
        go_wp2_with fail
        go_ret3
        exact ⟨by rw [HE.out]; rfl, B1⟩
end Go.Proofs.YtgednccpjegbmaaGreatDoor.Mw
namespace Go.Proofs.YtgednccpjegbmaaGreatDoor.Mw
open Go.RowKit Go.Proofs.YtgednccpjegbmaaGreatDoor Go.Proofs.YtgednccpjegbmaaGreatDoor.Ww Go.Proofs.YtgednccpjegbmaaGreatDoor.Iw
set_option maxRecDepth 1000000

theorem x_IndexByte (s : ByteArray) (c : Int) (w : World) : Calls Tryz.prog 233 #[.string s, .int .u8 c] w fun e w' => e = .returned (.int .i64 (Lib.indexByte s.data.toList c.toNat.toUInt8)) ∧ w' = w := Any.strings_IndexByte { Tryz.lays150 with } s c w
theorem x_ValidRune (r : Int) (w : World) : Calls Tryz.prog 265 #[.int .i32 r] w fun e w' => e = .returned (.bool (Lib.validRune r)) ∧ w' = w := Any.utf8_ValidRune { Tryz.lays150 with } r w
theorem x_IndexRune_ascii (s : ByteArray) (r : Int) (w : World) (h0 : 0 ≤ r) (h1 : r < 128) : Calls Tryz.prog 213 #[.string s, .int .i32 r] w fun e w' => e = .returned (.int .i64 (Lib.indexByte s.data.toList r.toNat.toUInt8)) ∧ w' = w := Any.strings_IndexRune_ascii { Tryz.lays150 with } s r w h0 h1
theorem x_shouldUse (n : Int) (w : World) : Calls Tryz.prog 260 #[.int .i64 n] w fun e w' => e = .returned (.bool (decide (8 < n))) ∧ w' = w := Any.strings_shouldUseASCIISet { Tryz.lays150 with } n w
/-- A callee that leaves the world alone, behind draws and draws of this region. -/
theorem quiet_at {P : Program} {f : FuncId} {args : Array Value} {w : World} {a n : Nat} {v : Value} (h : ∀ W : World, Calls P f args W fun e w' => e = .returned v ∧ w' = W) :
    Calls P f args (w.drewN (a + n)) fun e w'' => e = .returned v ∧ ∃ m, w'' = w.drewN (a + m) := (h _).mono fun _ _ ⟨he, hm⟩ => ⟨he, n, hm⟩

theorem decodeN_high (n b0 b1 b2 b3 : Nat) (h0 : 128 ≤ b0) (hn : 1 ≤ n) : ∃ c d, Lib.decodeN n b0 b1 b2 b3 = (c, d) ∧ 128 ≤ c ∧ c ≤ 1114111 ∧ 1 ≤ d ∧ d ≤ n ∧ d ≤ 4 ∧ (2 ≤ d → 128 ≤ b1) ∧ (3 ≤ d → 128 ≤ b2) ∧ (4 ≤ d → 128 ≤ b3) := by
  unfold Lib.decodeN
  rw [if_neg (by omega)]
  split
  · split
    · exact ⟨_, _, rfl, by omega, by omega, by omega, by omega, by omega, by omega, by omega, by omega⟩
    · exact ⟨_, _, rfl, by omega, by omega, by omega, by omega, by omega, by omega, by omega, by omega⟩
  · split
    · split
      · exact ⟨_, _, rfl, by omega, by omega, by omega, by omega, by omega, by omega, by omega, by omega⟩
      · exact ⟨_, _, rfl, by omega, by omega, by omega, by omega, by omega, by omega, by omega, by omega⟩
    · split
      · split
        · exact ⟨_, _, rfl, by omega, by omega, by omega, by omega, by omega, by omega, by omega, by omega⟩
        · exact ⟨_, _, rfl, by omega, by omega, by omega, by omega, by omega, by omega, by omega, by omega⟩
      · exact ⟨_, _, rfl, by omega, by omega, by omega, by omega, by omega, by omega, by omega, by omega⟩

theorem get_bang {s : ByteArray} {k : Nat} (h : k < s.size) : s.get! k = s[k] := get_at s k h

/-- A rune that begins with a byte from 128 on: what it takes are such bytes. -/
theorem decode_span (s : ByteArray) (i : Nat) (h : i < s.size) (hb : 128 ≤ s[i].toNat) :
    ∃ c d, Utf8.decode s i = (c, d) ∧ 128 ≤ c ∧ c ≤ 1114111 ∧ 1 ≤ d ∧ i + d ≤ s.size ∧ ∀ k (hk : k < s.size), i ≤ k → k < i + d → 128 ≤ s[k].toNat := by
  obtain ⟨c, d, he, h1, h2, h3, h4, h5, h6, h7, h8⟩ := decodeN_high (s.size - i) (s.get! i).toNat (s.get! (i + 1)).toNat (s.get! (i + 2)).toNat (s.get! (i + 3)).toNat (by rw [get_bang h]; exact hb) (by omega)
  refine ⟨c, d, by rw [Lib.decode_at, he], h1, h2, h3, by omega, fun k hk hik hkd => ?_⟩
  rw [← get_bang hk]
  rcases (by omega : k = i ∨ k = i + 1 ∨ k = i + 2 ∨ k = i + 3) with rfl | rfl | rfl | rfl
  · rw [get_bang h]; exact hb
  · exact h6 (by omega)
  · exact h7 (by omega)
  · exact h8 (by omega)

theorem b8 {n : Nat} (h : 128 ≤ n) (h2 : n < 256) : 128 ≤ (UInt8.ofNat n).toNat := by
  rw [UInt8.toNat_ofNat', Nat.mod_eq_of_lt h2]; exact h

/-- What a rune from 128 on is written with: two to four bytes, each from 128 on. -/
def HighText (t : ByteArray) : Prop := 2 ≤ t.size ∧ t.size ≤ 4 ∧ ∀ x ∈ t.data.toList, 128 ≤ x.toNat
def encC (c : Nat) : ByteArray :=
  if c < 0x80 then ⟨#[UInt8.ofNat c]⟩
  else if c < 0x800 then ⟨#[UInt8.ofNat (0xC0 + c / 64), UInt8.ofNat (0x80 + c % 64)]⟩
  else if c < 0x10000 then ⟨#[UInt8.ofNat (0xE0 + c / 4096), UInt8.ofNat (0x80 + c / 64 % 64), UInt8.ofNat (0x80 + c % 64)]⟩
  else ⟨#[UInt8.ofNat (0xF0 + c / 262144), UInt8.ofNat (0x80 + c / 4096 % 64), UInt8.ofNat (0x80 + c / 64 % 64), UInt8.ofNat (0x80 + c % 64)]⟩
theorem encode_is (r : Int) : Utf8.encode r = encC (if Utf8.valid r then r.toNat else Utf8.runeError) := rfl
theorem encC_high (c : Nat) (h : 128 ≤ c) (h2 : c ≤ 1114111) : HighText (encC c) := by
  unfold encC
  rw [if_neg (by omega)]
  split
  · refine ⟨Nat.le_refl _, show 2 ≤ 4 by decide, ?_⟩
    intro x hx
    simp only [List.mem_cons, List.not_mem_nil, or_false] at hx
    rcases hx with rfl | rfl
    · exact b8 (by omega) (by omega)
    · exact b8 (by omega) (by omega)
  · split
    · refine ⟨show 2 ≤ 3 by decide, show 3 ≤ 4 by decide, ?_⟩
      intro x hx
      simp only [List.mem_cons, List.not_mem_nil, or_false] at hx
      rcases hx with rfl | rfl | rfl
      · exact b8 (by omega) (by omega)
      · exact b8 (by omega) (by omega)
      · exact b8 (by omega) (by omega)
    · refine ⟨show 2 ≤ 4 by decide, Nat.le_refl _, ?_⟩
      intro x hx
      simp only [List.mem_cons, List.not_mem_nil, or_false] at hx
      rcases hx with rfl | rfl | rfl | rfl
      · exact b8 (by omega) (by omega)
      · exact b8 (by omega) (by omega)
      · exact b8 (by omega) (by omega)
      · exact b8 (by omega) (by omega)
theorem enc_high (r : Int) (h : 128 ≤ r) (h2 : r ≤ 1114111) : ∃ t : ByteArray, Utf8.encode r = t ∧ 2 ≤ t.size ∧ t.size ≤ 4 ∧ ∀ k (hk : k < t.size), 128 ≤ t[k].toNat := by
  obtain ⟨c, hc, hc1, hc2⟩ : ∃ c : Nat, (if Utf8.valid r then r.toNat else Utf8.runeError) = c ∧ 128 ≤ c ∧ c ≤ 1114111 := by
    refine ⟨_, rfl, ?_⟩
    split
    · omega
    · exact ⟨by decide, by decide⟩
  obtain ⟨h3, h4, h5⟩ := encC_high c hc1 hc2
  exact ⟨encC c, by rw [encode_is, hc], h3, h4, fun k hk => h5 _ (Array.mem_toList_iff.2 (Array.getElem_mem hk))⟩

theorem indexHi_any (w : World) (l : ByteArray) (x : UInt8) (hl : ∀ k (hk : k < l.size), l[k].toNat < 128) (hx : 128 ≤ x.toNat) :
    Calls Tryz.prog 233 #[.string l, .int .u8 (x.toNat : Int)] w fun e w' => e = .returned (.int .i64 (-1)) ∧ w' = w := by
  refine (x_IndexByte l x.toNat w).mono ?_
  rintro e w' ⟨rfl, rfl⟩
  refine ⟨?_, rfl⟩
  have hb : ((x.toNat : Int)).toNat.toUInt8 = x := by simp
  rw [hb]
  have hge := Lib.indexByte_ge l.data.toList x
  by_cases h : Lib.indexByte l.data.toList x = -1
  · rw [h]
  · exfalso
    have h1 := (Lib.indexByte_some (l := l.data.toList) (c := x) (o := (Lib.indexByte l.data.toList x).toNat) (by omega)).1
    obtain ⟨hlt, e⟩ := List.getElem?_eq_some_iff.1 h1
    have hlt2 : (Lib.indexByte l.data.toList x).toNat < l.size := by rw [Lib.size_eq]; exact hlt
    have := hl _ hlt2
    have e2 : l[(Lib.indexByte l.data.toList x).toNat] = x := e
    rw [e2] at this
    omega

set_option maxHeartbeats 2000000 in
theorem runeErr_any (w : World) :
    Calls Tryz.prog 213 #[.string ⟨#[32, 9, 10, 58, 35, 61]⟩, .int .i32 65533] w fun e w' => e = .returned (.int .i64 (-1)) ∧ Below w.heap.size w w' := by
  go_enter Tryz.func213, Tryz.ntmps213
  go_wp2
  go_loopg [5, 6] 6 (fun g _ _ wx => ∃ i : Nat, i + g = 6 ∧ wx = w.iter ⟨#[32, 9, 10, 58, 35, 61]⟩ i)
  case atStart => exact ⟨0, by omega, rfl⟩
  case round =>
    obtain ⟨i, hig, rfl⟩ := hrel
    cases gk with
    | zero =>
      obtain rfl : i = 6 := by omega
      have hnx := run_next_end (P := Tryz.prog) w ⟨#[32, 9, 10, 58, 35, 61]⟩ 6
      go_wp2
      go_ret
      exact ⟨rfl, (Below.refl _ _).alloc (Nat.le_refl _) _⟩
    | succ g =>
      rcases (by omega : i = 0 ∨ i = 1 ∨ i = 2 ∨ i = 3 ∨ i = 4 ∨ i = 5) with rfl | rfl | rfl | rfl | rfl | rfl
      · have hnx := fun ty => run_next_ascii (P := Tryz.prog) w ⟨#[32, 9, 10, 58, 35, 61]⟩ 0 ty (by decide) (by decide)
        go_wp2
        go_roundg g
        case measure => omega
        case rel => exact ⟨1, by omega, rfl⟩
      · have hnx := fun ty => run_next_ascii (P := Tryz.prog) w ⟨#[32, 9, 10, 58, 35, 61]⟩ 1 ty (by decide) (by decide)
        go_wp2
        go_roundg g
        case measure => omega
        case rel => exact ⟨2, by omega, rfl⟩
      · have hnx := fun ty => run_next_ascii (P := Tryz.prog) w ⟨#[32, 9, 10, 58, 35, 61]⟩ 2 ty (by decide) (by decide)
        go_wp2
        go_roundg g
        case measure => omega
        case rel => exact ⟨3, by omega, rfl⟩
      · have hnx := fun ty => run_next_ascii (P := Tryz.prog) w ⟨#[32, 9, 10, 58, 35, 61]⟩ 3 ty (by decide) (by decide)
        go_wp2
        go_roundg g
        case measure => omega
        case rel => exact ⟨4, by omega, rfl⟩
      · have hnx := fun ty => run_next_ascii (P := Tryz.prog) w ⟨#[32, 9, 10, 58, 35, 61]⟩ 4 ty (by decide) (by decide)
        go_wp2
        go_roundg g
        case measure => omega
        case rel => exact ⟨5, by omega, rfl⟩
      · have hnx := fun ty => run_next_ascii (P := Tryz.prog) w ⟨#[32, 9, 10, 58, 35, 61]⟩ 5 ty (by decide) (by decide)
        go_wp2
        go_roundg g
        case measure => omega
        case rel => exact ⟨6, by omega, rfl⟩

set_option maxHeartbeats 2000000 in
theorem runeBad_any (w : World) (r : Nat) (h : 128 ≤ r) (h2 : r ≤ 1114111) (hne : ¬ r = 65533) (hv : Lib.validRune r = false) :
    Calls Tryz.prog 213 #[.string ⟨#[32, 9, 10, 58, 35, 61]⟩, .int .i32 r] w fun e w' => e = .returned (.int .i64 (-1)) ∧ Below w.heap.size w w' := by
  have hb : ((r : Int) == 65533) = false := by rw [beq_eq_false_iff_ne]; omega
  have HV := Lib.hid hv
  have H2 := Lib.hid h2
  clear hv hne h2
  go_enter Tryz.func213, Tryz.ntmps213
  go_wp2_with (go_at_call 265; go_must (refine (x_ValidRune _ _).mono ?_); rintro e w' ⟨rfl, rfl⟩; rw [HV.out])
  go_ret
  exact ⟨rfl, Below.refl _ _⟩

end Go.Proofs.YtgednccpjegbmaaGreatDoor.Mw
namespace Go.Proofs.YtgednccpjegbmaaGreatDoor.Mw
open Go.RowKit Go.Proofs.YtgednccpjegbmaaGreatDoor Go.Proofs.YtgednccpjegbmaaGreatDoor.Ww Go.Proofs.YtgednccpjegbmaaGreatDoor.Iw
set_option maxRecDepth 1000000

set_option maxHeartbeats 2000000 in
theorem runeGood_any (w : World) (S : ByteArray) (hS : S.size = 6) (hlow : ∀ k (hk : k < S.size), S[k].toNat < 128) (r : Nat) (h : 128 ≤ r) (h2 : r ≤ 1114111) (hne : ¬ r = 65533) (hv : Lib.validRune r = true) :
    Calls Tryz.prog 213 #[.string S, .int .i32 r] w fun e w' => e = .returned (.int .i64 (-1)) ∧ Below w.heap.size w w' := by
  have hb : ((r : Int) == 65533) = false := by rw [beq_eq_false_iff_ne]; omega
  obtain ⟨t, ht, ht1, ht2, hth⟩ := enc_high r (by omega) (by omega)
  obtain ⟨m, hm⟩ : ∃ m, t.size = m + 1 := ⟨t.size - 1, by omega⟩
  have hts : (t.size : Int) - 1 = m := by omega
  have HV := Lib.hid hv
  have H2 := Lib.hid h2
  have HL := Lib.hid hlow
  have hS1 : 6 ≤ S.size := by omega
  have HT := Lib.hid hth
  have hlt : m < S.size := by omega
  have hlt2 : m < t.size := by omega
  have hneq : ((S[m].toNat : Int) == (t[m].toNat : Int)) = false := by
    have := hlow _ hlt
    have := hth _ hlt2
    rw [beq_eq_false_iff_ne]; omega
  have hneq2 : ((S[m].toNat : Int) != (t[m].toNat : Int)) = true := by
    rw [bne, hneq]; rfl
  have hix := hth _ hlt2
  have HIX := Lib.hid hix
  have HM := Lib.hid hm
  have hm3 : m ≤ 3 := by omega
  clear hv hne h2 hlow hth hS hix hm ht1 ht2
  go_enter Tryz.func213, Tryz.ntmps213
  go_wp2_with (go_at_call 265; go_must (refine (x_ValidRune _ _).mono ?_); rintro e w' ⟨rfl, rfl⟩; rw [HV.out])
  go_step3
  go_wp2
  go_loopw [9] (fun v wr => v = .int .i64 (m : Int) ∧ ∃ n, wr = w'.drewN n) (fun _ _ => 0)
  case atStart => exact ⟨rfl, 0, rfl⟩
  case round =>
    obtain ⟨rfl, n, rfl⟩ := hrel
    have hlo : ∀ k (hk : k < (S.extract (m + 1) S.size).size), (S.extract (m + 1) S.size)[k].toNat < 128 := by
      intro k hk
      rw [ByteArray.size_extract] at hk
      rw [ByteArray.getElem_extract]
      exact HL.out _ (by omega)
    have HLO := Lib.hid hlo
    clear hlo
    go_wp2
    go_step3
    go_wp2
    go_quiet (fail)
    go_wp2
    go_quiet ((go_at_call 233; exact quiet_at (fun W => indexHi_any W _ _ HLO.out HIX.out)))
    go_wp2
    rw [Exit.noGoto_ret]
    go_wp2
    repeat rw [Exit.noGoto_ret]
    go_ret
    exact ⟨rfl, below_drewN (Below.refl _ _) _⟩
end Go.Proofs.YtgednccpjegbmaaGreatDoor.Mw
namespace Go.Proofs.YtgednccpjegbmaaGreatDoor.Mw
open Go.RowKit Go.Proofs.YtgednccpjegbmaaGreatDoor Go.Proofs.YtgednccpjegbmaaGreatDoor.Ww Go.Proofs.YtgednccpjegbmaaGreatDoor.Iw
set_option maxRecDepth 1000000

theorem four_low : ∀ k (hk : k < (⟨#[32, 9, 10, 58, 35, 61]⟩ : ByteArray).size), (⟨#[32, 9, 10, 58, 35, 61]⟩ : ByteArray)[k].toNat < 128 := by
  intro k hk
  have hk' : k < 6 := hk
  rcases (by omega : k = 0 ∨ k = 1 ∨ k = 2 ∨ k = 3 ∨ k = 4 ∨ k = 5) with rfl | rfl | rfl | rfl | rfl | rfl
  · show (32 : UInt8).toNat < 128; decide
  · show (9 : UInt8).toNat < 128; decide
  · show (10 : UInt8).toNat < 128; decide
  · show (58 : UInt8).toNat < 128; decide
  · show (35 : UInt8).toNat < 128; decide
  · show (61 : UInt8).toNat < 128; decide

theorem runeHigh_any (w : World) (r : Nat) (h : 128 ≤ r) (h2 : r ≤ 1114111) :
    Calls Tryz.prog 213 #[.string ⟨#[32, 9, 10, 58, 35, 61]⟩, .int .i32 r] w fun e w' => e = .returned (.int .i64 (-1)) ∧ Below w.heap.size w w' := by
  by_cases he : r = 65533
  · subst he; exact runeErr_any w
  · cases hv : Lib.validRune r with
    | false => exact runeBad_any w r h h2 he hv
    | true => exact runeGood_any w _ rfl four_low r h h2 he hv

/-- A byte from 128 on is none of the four. -/
theorem high_no {x : UInt8} (h : 128 ≤ x.toNat) : ([32, 9, 10, 58, 35, 61] : List UInt8).contains x = false := by
  rw [Bool.eq_false_iff]
  intro e
  simp at e
  rcases e with rfl | rfl | rfl | rfl | rfl | rfl <;> revert h <;> decide

theorem noAny_span {s : ByteArray} {i d : Nat} (hn : Lib.NoAny s.data.toList [32, 9, 10, 58, 35, 61] i) (hd : ∀ k (hk : k < s.size), i ≤ k → k < i + d → 128 ≤ s[k].toNat) : Lib.NoAny s.data.toList [32, 9, 10, 58, 35, 61] (i + d) := by
  intro j b hj hb
  by_cases hji : j < i
  · exact hn j b hji hb
  · obtain ⟨hlt, e⟩ := List.getElem?_eq_some_iff.1 hb
    have hlt2 : j < s.size := by rw [Lib.size_eq]; exact hlt
    have := hd j hlt2 (by omega) hj
    have e2 : s[j] = b := e
    rw [e2] at this
    exact high_no this

theorem should_any (w : World) (n : Int) (b : Bool) (hb : Hid (decide (8 < n) = b)) :
    Calls Tryz.prog 260 #[.int .i64 n] w fun e w' => e = .returned (.bool b) ∧ w = w' := by
  refine (x_shouldUse n w).mono ?_
  rw [hb.out]
  exact fun e w' ⟨a, b⟩ => ⟨a, b.symm⟩

/-- One of the four bytes is found among the four. -/
theorem idx_in {x : UInt8} (h : ([32, 9, 10, 58, 35, 61] : List UInt8).contains x = true) : 0 ≤ Lib.indexByte [32, 9, 10, 58, 35, 61] x := by
  rw [Lib.contains_iff_indexByte] at h; exact of_decide_eq_true h
theorem idx_out {x : UInt8} (h : ([32, 9, 10, 58, 35, 61] : List UInt8).contains x = false) : Lib.indexByte [32, 9, 10, 58, 35, 61] x = -1 := by
  rw [Lib.contains_iff_indexByte] at h
  have := of_decide_eq_false h
  have := Lib.indexByte_ge [32, 9, 10, 58, 35, 61] x
  omega

theorem runeLow_any (w : World) (x : UInt8) (v : Int) (hx : x.toNat < 128) (hv : Hid (Lib.indexByte [32, 9, 10, 58, 35, 61] x = v)) :
    Calls Tryz.prog 213 #[.string ⟨#[32, 9, 10, 58, 35, 61]⟩, .int .i32 (x.toNat : Int)] w fun e w' => e = .returned (.int .i64 v) ∧ w = w' := by
  refine (x_IndexRune_ascii ⟨#[32, 9, 10, 58, 35, 61]⟩ (x.toNat : Int) w (by omega) (by omega)).mono ?_
  rintro e w' ⟨rfl, rfl⟩
  refine ⟨?_, rfl⟩
  have hb : ((x.toNat : Int)).toNat.toUInt8 = x := by simp
  rw [hb, ← hv.out]

set_option maxHeartbeats 4000000 in
theorem indexAnyS_any (w : World) (s : ByteArray) (h8 : s.size ≤ 8) :
    Calls Tryz.prog 206 #[.string s, .string ⟨#[32, 9, 10, 58, 35, 61]⟩] w fun e w' => e = .returned (.int .i64 (Lib.indexAny s.data.toList [32, 9, 10, 58, 35, 61])) ∧ Below w.heap.size w w' := by
  have H8 : Hid (decide ((8 : Int) < (s.size : Int)) = false) := Lib.hid (decide_eq_false (by omega))
  go_enter Tryz.func206, Tryz.ntmps206
  go_wp2_with (go_at_call 260; go_must (refine (should_any _ _ _ H8).mono ?_); rintro e w' ⟨rfl, rfl⟩)
  go_loopg [9, 10] s.size (fun g _ _ wr => ∃ i : Nat, i ≤ s.size ∧ s.size ≤ i + g ∧ wr.heap[w.heap.size]? = some (Obj.stringIter s i) ∧ Below w.heap.size w wr ∧ Lib.NoAny s.data.toList [32, 9, 10, 58, 35, 61] i)
  case atStart => exact ⟨0, by omega, by omega, World.iter_heap _ _ _, (Below.refl _ _).alloc (Nat.le_refl _) _, Lib.NoAny.zero _ _⟩
  case round =>
    obtain ⟨i, hi1, hig, hit, hB, hno⟩ := hrel
    have HIT := Lib.hid hit
    have HN := Lib.hid hno
    clear hit hno
    by_cases hlt : i < s.size
    · obtain ⟨g, rfl⟩ : ∃ g, gk = g + 1 := ⟨gk - 1, by omega⟩
      have hsz : w.heap.size < wr.heap.size := (Array.getElem?_eq_some_iff.1 HIT.out).1
      by_cases hlow : s[i].toNat < 128
      · have hnx := fun ty => Lib.run_next_ascii_at (P := Tryz.prog) wr w.heap.size s i ty HIT.out hlt hlow
        have hB2 := Lib.below_iterAt hB (Nat.le_refl _) s (i + 1)
        have hit2 := Lib.hid (Lib.iterAt_heap wr _ s i (i + 1) HIT.out)
        have hxl : Hid (s.data.toList[i]? = some s[i]) := Lib.hid (Lib.data_getElem? s i hlt)
        cases hin : ([32, 9, 10, 58, 35, 61] : List UInt8).contains s[i] with
        | true =>
          have hv := idx_in hin
          obtain ⟨v, hve⟩ : ∃ v, Hid (Lib.indexByte [32, 9, 10, 58, 35, 61] s[i] = v) := ⟨_, Lib.hid rfl⟩
          rw [hve.out] at hv
          have HIN := Lib.hid hin
          clear hin
          go_wp2_with (go_at_call 213; go_must (refine (runeLow_any _ s[i] v hlow hve).mono ?_); rintro e w' ⟨rfl, rfl⟩)
          go_ret
          exact ⟨ret_int (Lib.indexAny_hit HN.out hxl.out HIN.out).symm, hB2⟩
        | false =>
          have hve := Lib.hid (idx_out hin)
          have HIN := Lib.hid hin
          clear hin
          go_wp2_with (go_at_call 213; go_must (refine (runeLow_any _ s[i] (-1) hlow hve).mono ?_); rintro e w' ⟨rfl, rfl⟩)
          go_roundg g
          case measure => omega
          case rel => exact ⟨i + 1, by omega, by omega, hit2.out, hB2, HN.out.succ hxl.out HIN.out⟩
      · obtain ⟨c, d, hd, hc1, hc2, hd1, hd2, hd3⟩ := decode_span s i hlt (by omega)
        have hnx := fun ty => Lib.run_next_any_at (P := Tryz.prog) wr w.heap.size s i ty HIT.out hlt
        rw [hd] at hnx
        have hB2 := Lib.below_iterAt hB (Nat.le_refl _) s (i + d)
        have hit2 := Lib.hid (Lib.iterAt_heap wr _ s i (i + d) HIT.out)
        have hno2 := Lib.hid (noAny_span HN.out hd3)
        have hsz2 : w.heap.size < (wr.iterAt w.heap.size s (i + d)).heap.size := by rw [Lib.iterAt_size]; exact hsz
        have HSZ := Lib.hid hsz2
        clear hd hd3 hsz2
        go_wp2_with (go_at_call 213; go_must (refine (runeHigh_any _ c hc1 hc2).mono ?_); rintro e w' ⟨rfl, B2⟩)
        go_roundg g
        case measure => omega
        case rel => exact ⟨i + d, hd2, by omega, (B2.block _ HSZ.out).trans hit2.out, hB2.trans (B2.mono (Nat.le_of_lt HSZ.out)), hno2.out⟩
    · obtain rfl : i = s.size := by omega
      have hnx := fun ty => Lib.run_next_end_at (P := Tryz.prog) wr w.heap.size s s.size ty HIT.out hlt
      have HR : Hid (Lib.indexAny s.data.toList [32, 9, 10, 58, 35, 61] = -1) := Lib.hid (Lib.indexAny_none (by rw [← Lib.size_eq]; exact HN.out))
      go_wp2
      go_ret
      exact ⟨ret_int HR.out.symm, hB⟩

theorem info_set : (Tryz.prog.info? (Tryz.lays150_ren.t 116)).map (fun i => (i.zero, i.size)) = some (some (.agg (Array.replicate 256 (.bool false))), 256) := by kernel_rfl

/-- At every text. -/
theorem indexAny_any (w : World) (s : ByteArray) (hs : s.size ≤ 1000000) :
    Calls Tryz.prog 206 #[.string s, .string ⟨#[32, 9, 10, 58, 35, 61]⟩] w fun e w' => e = .returned (.int .i64 (Lib.indexAny s.data.toList [32, 9, 10, 58, 35, 61])) ∧ Below w.heap.size w w' := by
  by_cases h8 : s.size ≤ 8
  · exact indexAnyS_any w s h8
  · refine (Any.strings_IndexAny_long { Tryz.lays150 with } (zero_of_info info_set).1 (zero_of_info info_set).2 s ⟨#[32, 9, 10, 58, 35, 61]⟩ w (by decide) (by omega) (by omega) (by decide) ?_).mono ?_
    · intro j b h
      have hb := List.mem_of_getElem? h
      simp at hb
      rcases hb with rfl | rfl | rfl | rfl | rfl | rfl <;> decide
    · rintro e w' ⟨rfl, rfl⟩
      exact ⟨rfl, ((Below.refl _ _).alloc (Nat.le_refl _) _).alloc (by simp) _⟩

theorem odd_is : ∀ (n : Bs), Mp.oddA n = Lib.containsAny n [32, 9, 10, 58, 35, 61]
  | [] => rfl
  | c :: n => by
    have ih := odd_is n
    have hge := Lib.indexAny_ge [32, 9, 10, 58, 35, 61] n
    show (([32, 9, 10, 58, 35, 61] : Bs).contains c || Mp.oddA n) = _
    rw [ih]
    unfold Lib.containsAny
    rw [Lib.indexAny]
    cases ([32, 9, 10, 58, 35, 61] : Bs).contains c with
    | true => rfl
    | false =>
      by_cases h : Lib.indexAny n [32, 9, 10, 58, 35, 61] = -1
      · rw [h]; rfl
      · have h1 : (Lib.indexAny n [32, 9, 10, 58, 35, 61] == -1) = false := beq_eq_false_iff_ne.2 h
        rw [h1]
        simp only [Bool.false_or, Bool.false_eq_true, if_false, decide_eq_decide]
        omega
theorem contains_any (w : World) (s : ByteArray) (hs : s.size ≤ 1000000) :
    Calls Tryz.prog 182 #[.string s, .string ⟨#[32, 9, 10, 58, 35, 61]⟩] w fun e w' => e = .returned (.bool (Mp.oddA (by8 s))) ∧ Below w.heap.size w w' := by
  have HM : Hid (Mp.oddA (by8 s) = decide (0 ≤ Lib.indexAny s.data.toList [32, 9, 10, 58, 35, 61])) := Lib.hid (odd_is _)
  go_enter Tryz.func182, Tryz.ntmps182
  go_wp2_with (go_at_call 206; go_must (refine (indexAny_any _ s hs).mono ?_); rintro e w' ⟨rfl, B⟩)
  go_ret
  exact ⟨ret_bool HM.out.symm, B⟩

end Go.Proofs.YtgednccpjegbmaaGreatDoor.Mw
