/-
  glob.Magic: whether one of the four bytes is in a text, for every text, also one that is no valid UTF-8.
-/
import Derived.Test.YtjjlafbdhpojpaaDoorMRuneG
import Derived.Test.YtjjlafbdhpojpaaDoorMPlain
namespace Go.Proofs.YtjjlafbdhpojpaaDoor.Mw
open Go.RowKit Go.Proofs.YtjjlafbdhpojpaaDoor Go.Proofs.YtjjlafbdhpojpaaDoor.Ww Go.Proofs.YtjjlafbdhpojpaaDoor.Iw
set_option maxRecDepth 1000000

theorem four_low : ∀ k (hk : k < (⟨#[32, 9, 10, 58, 35, 61]⟩ : ByteArray).size), (⟨#[32, 9, 10, 58, 35, 61]⟩ : ByteArray)[k].toNat < 128 := by
  intro k hk
  have hk' : k < 6 := hk
  rcases (by omega : k = 0 ∨ k = 1 ∨ k = 2 ∨ k = 3 ∨ k = 4 ∨ k = 5) with rfl | rfl | rfl | rfl | rfl | rfl
  · show (32 : UInt8).toNat < 128; decide
  · show (9 : UInt8).toNat < 128; decide
  · show (10 : UInt8).toNat < 128; decide
  · show (58 : UInt8).toNat < 128; decide
  · show (35 : UInt8).toNat < 128; decide
  · show (61 : UInt8).toNat < 128; decide

theorem runeHigh_any (w : World) (r : Nat) (h : 128 ≤ r) (h2 : r ≤ 1114111) :
    Calls Tryd.prog 91 #[.string ⟨#[32, 9, 10, 58, 35, 61]⟩, .int .i32 r] w fun e w' => e = .returned (.int .i64 (-1)) ∧ Below w.heap.size w w' := by
  by_cases he : r = 65533
  · subst he; exact runeErr_any w
  · cases hv : Lib.validRune r with
    | false => exact runeBad_any w r h h2 he hv
    | true => exact runeGood_any w _ rfl four_low r h h2 he hv

/-- A byte from 128 on is none of the four. -/
theorem high_no {x : UInt8} (h : 128 ≤ x.toNat) : ([32, 9, 10, 58, 35, 61] : List UInt8).contains x = false := by
  rw [Bool.eq_false_iff]
  intro e
  simp at e
  rcases e with rfl | rfl | rfl | rfl | rfl | rfl <;> revert h <;> decide

theorem noAny_span {s : ByteArray} {i d : Nat} (hn : Lib.NoAny s.data.toList [32, 9, 10, 58, 35, 61] i) (hd : ∀ k (hk : k < s.size), i ≤ k → k < i + d → 128 ≤ s[k].toNat) : Lib.NoAny s.data.toList [32, 9, 10, 58, 35, 61] (i + d) := by
  intro j b hj hb
  by_cases hji : j < i
  · exact hn j b hji hb
  · obtain ⟨hlt, e⟩ := List.getElem?_eq_some_iff.1 hb
    have hlt2 : j < s.size := by rw [Lib.size_eq]; exact hlt
    have := hd j hlt2 (by omega) hj
    have e2 : s[j] = b := e
    rw [e2] at this
    exact high_no this

theorem should_any (w : World) (n : Int) (b : Bool) (hb : Hid (decide (8 < n) = b)) :
    Calls Tryd.prog 93 #[.int .i64 n] w fun e w' => e = .returned (.bool b) ∧ w = w' := by
  refine (x_shouldUse n w).mono ?_
  rw [hb.out]
  exact fun e w' ⟨a, b⟩ => ⟨a, b.symm⟩

/-- One of the four bytes is found among the four. -/
theorem idx_in {x : UInt8} (h : ([32, 9, 10, 58, 35, 61] : List UInt8).contains x = true) : 0 ≤ Lib.indexByte [32, 9, 10, 58, 35, 61] x := by
  rw [Lib.contains_iff_indexByte] at h; exact of_decide_eq_true h
theorem idx_out {x : UInt8} (h : ([32, 9, 10, 58, 35, 61] : List UInt8).contains x = false) : Lib.indexByte [32, 9, 10, 58, 35, 61] x = -1 := by
  rw [Lib.contains_iff_indexByte] at h
  have := of_decide_eq_false h
  have := Lib.indexByte_ge [32, 9, 10, 58, 35, 61] x
  omega

theorem runeLow_any (w : World) (x : UInt8) (v : Int) (hx : x.toNat < 128) (hv : Hid (Lib.indexByte [32, 9, 10, 58, 35, 61] x = v)) :
    Calls Tryd.prog 91 #[.string ⟨#[32, 9, 10, 58, 35, 61]⟩, .int .i32 (x.toNat : Int)] w fun e w' => e = .returned (.int .i64 v) ∧ w = w' := by
  refine (x_IndexRune_ascii ⟨#[32, 9, 10, 58, 35, 61]⟩ (x.toNat : Int) w (by omega) (by omega)).mono ?_
  rintro e w' ⟨rfl, rfl⟩
  refine ⟨?_, rfl⟩
  have hb : ((x.toNat : Int)).toNat.toUInt8 = x := by simp
  rw [hb, ← hv.out]

set_option maxHeartbeats 4000000 in
theorem indexAnyS_any (w : World) (s : ByteArray) (h8 : s.size ≤ 8) :
    Calls Tryd.prog 86 #[.string s, .string ⟨#[32, 9, 10, 58, 35, 61]⟩] w fun e w' => e = .returned (.int .i64 (Lib.indexAny s.data.toList [32, 9, 10, 58, 35, 61])) ∧ Below w.heap.size w w' := by
  have H8 : Hid (decide ((8 : Int) < (s.size : Int)) = false) := Lib.hid (decide_eq_false (by omega))
  go_enter Tryd.func86, Tryd.ntmps86
  go_wp2_with (go_at_call 93; go_must (refine (should_any _ _ _ H8).mono ?_); rintro e w' ⟨rfl, rfl⟩)
  go_loopg [9, 10] s.size (fun g _ _ wr => ∃ i : Nat, i ≤ s.size ∧ s.size ≤ i + g ∧ wr.heap[w.heap.size]? = some (Obj.stringIter s i) ∧ Below w.heap.size w wr ∧ Lib.NoAny s.data.toList [32, 9, 10, 58, 35, 61] i)
  case atStart => exact ⟨0, by omega, by omega, World.iter_heap _ _ _, (Below.refl _ _).alloc (Nat.le_refl _) _, Lib.NoAny.zero _ _⟩
  case round =>
    obtain ⟨i, hi1, hig, hit, hB, hno⟩ := hrel
    have HIT := Lib.hid hit
    have HN := Lib.hid hno
    clear hit hno
    by_cases hlt : i < s.size
    · obtain ⟨g, rfl⟩ : ∃ g, gk = g + 1 := ⟨gk - 1, by omega⟩
      have hsz : w.heap.size < wr.heap.size := (Array.getElem?_eq_some_iff.1 HIT.out).1
      by_cases hlow : s[i].toNat < 128
      · have hnx := fun ty => Lib.run_next_ascii_at (P := Tryd.prog) wr w.heap.size s i ty HIT.out hlt hlow
        have hB2 := Lib.below_iterAt hB (Nat.le_refl _) s (i + 1)
        have hit2 := Lib.hid (Lib.iterAt_heap wr _ s i (i + 1) HIT.out)
        have hxl : Hid (s.data.toList[i]? = some s[i]) := Lib.hid (Lib.data_getElem? s i hlt)
        cases hin : ([32, 9, 10, 58, 35, 61] : List UInt8).contains s[i] with
        | true =>
          have hv := idx_in hin
          obtain ⟨v, hve⟩ : ∃ v, Hid (Lib.indexByte [32, 9, 10, 58, 35, 61] s[i] = v) := ⟨_, Lib.hid rfl⟩
          rw [hve.out] at hv
          have HIN := Lib.hid hin
          clear hin
          go_wp2_with (go_at_call 91; go_must (refine (runeLow_any _ s[i] v hlow hve).mono ?_); rintro e w' ⟨rfl, rfl⟩)
          go_ret
          exact ⟨ret_int (Lib.indexAny_hit HN.out hxl.out HIN.out).symm, hB2⟩
        | false =>
          have hve := Lib.hid (idx_out hin)
          have HIN := Lib.hid hin
          clear hin
          go_wp2_with (go_at_call 91; go_must (refine (runeLow_any _ s[i] (-1) hlow hve).mono ?_); rintro e w' ⟨rfl, rfl⟩)
          go_roundg g
          case measure => omega
          case rel => exact ⟨i + 1, by omega, by omega, hit2.out, hB2, HN.out.succ hxl.out HIN.out⟩
      · obtain ⟨c, d, hd, hc1, hc2, hd1, hd2, hd3⟩ := decode_span s i hlt (by omega)
        have hnx := fun ty => Lib.run_next_any_at (P := Tryd.prog) wr w.heap.size s i ty HIT.out hlt
        rw [hd] at hnx
        have hB2 := Lib.below_iterAt hB (Nat.le_refl _) s (i + d)
        have hit2 := Lib.hid (Lib.iterAt_heap wr _ s i (i + d) HIT.out)
        have hno2 := Lib.hid (noAny_span HN.out hd3)
        have hsz2 : w.heap.size < (wr.iterAt w.heap.size s (i + d)).heap.size := by rw [Lib.iterAt_size]; exact hsz
        have HSZ := Lib.hid hsz2
        clear hd hd3 hsz2
        go_wp2_with (go_at_call 91; go_must (refine (runeHigh_any _ c hc1 hc2).mono ?_); rintro e w' ⟨rfl, B2⟩)
        go_roundg g
        case measure => omega
        case rel => exact ⟨i + d, hd2, by omega, (B2.block _ HSZ.out).trans hit2.out, hB2.trans (B2.mono (Nat.le_of_lt HSZ.out)), hno2.out⟩
    · obtain rfl : i = s.size := by omega
      have hnx := fun ty => Lib.run_next_end_at (P := Tryd.prog) wr w.heap.size s s.size ty HIT.out hlt
      have HR : Hid (Lib.indexAny s.data.toList [32, 9, 10, 58, 35, 61] = -1) := Lib.hid (Lib.indexAny_none (by rw [← Lib.size_eq]; exact HN.out))
      go_wp2
      go_ret
      exact ⟨ret_int HR.out.symm, hB⟩

theorem info_set : (Tryd.prog.info? (Tryd.lays150_ren.t 116)).map (fun i => (i.zero, i.size)) = some (some (.agg (Array.replicate 256 (.bool false))), 256) := by kernel_rfl

/-- At every text. -/
theorem indexAny_any (w : World) (s : ByteArray) (hs : s.size ≤ 1000000) :
    Calls Tryd.prog 86 #[.string s, .string ⟨#[32, 9, 10, 58, 35, 61]⟩] w fun e w' => e = .returned (.int .i64 (Lib.indexAny s.data.toList [32, 9, 10, 58, 35, 61])) ∧ Below w.heap.size w w' := by
  by_cases h8 : s.size ≤ 8
  · exact indexAnyS_any w s h8
  · refine (Any.strings_IndexAny_long { Tryd.lays150 with } (zero_of_info info_set).1 (zero_of_info info_set).2 s ⟨#[32, 9, 10, 58, 35, 61]⟩ w (by decide) (by omega) (by omega) (by decide) ?_).mono ?_
    · intro j b h
      have hb := List.mem_of_getElem? h
      simp at hb
      rcases hb with rfl | rfl | rfl | rfl | rfl | rfl <;> decide
    · rintro e w' ⟨rfl, rfl⟩
      exact ⟨rfl, ((Below.refl _ _).alloc (Nat.le_refl _) _).alloc (by simp) _⟩

theorem odd_is : ∀ (n : Bs), Mp.oddA n = Lib.containsAny n [32, 9, 10, 58, 35, 61]
  | [] => rfl
  | c :: n => by
    have ih := odd_is n
    have hge := Lib.indexAny_ge [32, 9, 10, 58, 35, 61] n
    show (([32, 9, 10, 58, 35, 61] : Bs).contains c || Mp.oddA n) = _
    rw [ih]
    unfold Lib.containsAny
    rw [Lib.indexAny]
    cases ([32, 9, 10, 58, 35, 61] : Bs).contains c with
    | true => rfl
    | false =>
      by_cases h : Lib.indexAny n [32, 9, 10, 58, 35, 61] = -1
      · rw [h]; rfl
      · have h1 : (Lib.indexAny n [32, 9, 10, 58, 35, 61] == -1) = false := beq_eq_false_iff_ne.2 h
        rw [h1]
        simp only [Bool.false_or, Bool.false_eq_true, if_false, decide_eq_decide]
        omega
theorem contains_any (w : World) (s : ByteArray) (hs : s.size ≤ 1000000) :
    Calls Tryd.prog 74 #[.string s, .string ⟨#[32, 9, 10, 58, 35, 61]⟩] w fun e w' => e = .returned (.bool (Mp.oddA (by8 s))) ∧ Below w.heap.size w w' := by
  have HM : Hid (Mp.oddA (by8 s) = decide (0 ≤ Lib.indexAny s.data.toList [32, 9, 10, 58, 35, 61])) := Lib.hid (odd_is _)
  go_enter Tryd.func74, Tryd.ntmps74
  go_wp2_with (go_at_call 86; go_must (refine (indexAny_any _ s hs).mono ?_); rintro e w' ⟨rfl, B⟩)
  go_ret
  exact ⟨ret_bool HM.out.symm, B⟩

end Go.Proofs.YtjjlafbdhpojpaaDoor.Mw
