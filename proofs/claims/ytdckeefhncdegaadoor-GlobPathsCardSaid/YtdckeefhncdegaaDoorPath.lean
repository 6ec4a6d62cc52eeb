/-
  glob.Path: whether a text is a path of a pattern, part by part, for every pattern and text that fit into memory.
-/
import Derived.Test.YtdckeefhncdegaaDoorJoin
import Derived.Test.YtdckeefhncdegaaDoorMatch
namespace Go.Proofs.YtdckeefhncdegaaDoor.Gm
open Go.RowKit Go.Proofs.YtdckeefhncdegaaDoor
set_option maxRecDepth 100000

/-- Does a part begin with a point? -/
def hid (x : Bs) : Bool := decide (x.head? = some 46)
/-- Is a part of a pattern's part? -/
def partB (a b : Bs) : Bool := !(hid b && !hid a) && Gl.matchB a b
def partsB : List Bs → List Bs → Bool
  | a :: l, b :: r => partB a b && partsB l r
  | _, _ => true
def pathB (p s : Bs) : Bool := isPath s && decide ((Pt.pieces p).length = (Pt.pieces s).length) && partsB (Pt.pieces p) (Pt.pieces s)

theorem count_pieces : ∀ (l : Bs), ((Pt.pieces l).length : Int) = Lib.countByte l 47 + 1
  | [] => rfl
  | c :: l => by
    have ih := count_pieces l
    have hne := Pt.pieces_ne l
    unfold Lib.countByte at ih ⊢
    by_cases h : c = 47
    · subst h
      rw [List.count_cons_self]
      show ((([] : Bs) :: Pt.pieces l).length : Int) = _
      rw [List.length_cons]; omega
    · rw [List.count_cons_of_ne h]
      cases hp : Pt.pieces l with
      | nil => exact absurd hp hne
      | cons x xs =>
        rw [hp] at ih
        show ((if c = 47 then [] :: Pt.pieces l else match Pt.pieces l with | [] => [[c]] | x :: xs => (c :: x) :: xs).length : Int) = _
        rw [if_neg h, hp]
        exact ih

/-- What Cut returns at a slash. -/
def CutAt (s a b : Bs) (t : Bool) : Prop := (t = true ∧ Pt.pieces s = a :: Pt.pieces b ∧ b.length < s.length ∧ a.length ≤ s.length) ∨ (t = false ∧ Pt.pieces s = [a] ∧ b = [] ∧ a.length ≤ s.length)

set_option maxHeartbeats 1000000 in
theorem cutS_any (w : World) (s : ByteArray) (hs : s.size ≤ 1000000) :
    Calls Tryd.prog 40 #[.string s, .string ⟨#[47]⟩] w fun e w' => ∃ (a b : ByteArray) (t : Bool), e = .returned (.tuple #[.string a, .string b, .bool t]) ∧ CutAt (by8 s) (by8 a) (by8 b) t ∧ Below w.heap.size w w' := by
  have hge := Lib.indexByte_ge s.data.toList 47
  by_cases h : Lib.indexByte s.data.toList 47 = -1
  · have HC : Hid (CutAt (by8 s) (by8 s) (by8 ⟨#[]⟩) false) := Lib.hid (.inr ⟨rfl, Pt.pieces_none _ (fun hm => by
      obtain ⟨k, hk⟩ := List.mem_iff_getElem?.1 hm
      exact Lib.indexByte_none h k hk), rfl, Nat.le_refl _⟩)
    have HH := Lib.hid h
    clear h hge
    go_enter Tryd.func40, Tryd.ntmps40
    go_wp2_with (go_at_call 53; go_must (refine (indexS_any _ s).mono ?_); rw [HH.out]; rintro e w' ⟨rfl, rfl⟩)
    go_ret3
    exact ⟨s, ⟨#[]⟩, false, rfl, HC.out, Below.refl _ _⟩
  · obtain ⟨o, ho⟩ := Int.eq_ofNat_of_zero_le (show 0 ≤ Lib.indexByte s.data.toList 47 by omega)
    have HH := Lib.hid ho
    have hso : (by8 s)[o]? = some 47 := (Lib.indexByte_some ho).1
    have hol : o < s.size := by rw [← by8_len]; exact (List.getElem?_eq_some_iff.1 hso).1
    have hoi : (o : Int) < (s.size : Int) := by omega
    have ho0 : (0 : Int) ≤ (o : Int) := Int.natCast_nonneg _
    have HC : Hid (CutAt (by8 s) (by8 (s.extract 0 o)) (by8 (s.extract (o + 1) s.size)) true) := Lib.hid (by
      refine .inl ⟨rfl, ?_, ?_, ?_⟩
      · rw [by8_take, by8_drop, ← Pt.pieces_hit]
        · congr 1
          have := by8_at hol
          rw [by8_get hol] at hso
          rw [← Option.some.inj hso, ← this, List.take_append_drop]
        · intro hm
          obtain ⟨k, hk⟩ := List.mem_iff_getElem?.1 hm
          have hko : k < o := by
            have := (List.getElem?_eq_some_iff.1 hk).1
            rw [List.length_take] at this; omega
          rw [List.getElem?_take_of_lt hko] at hk
          exact (Lib.indexByte_some ho).2 k hko hk
      · rw [by8_len, by8_len, ByteArray.size_extract]; omega
      · rw [by8_len, by8_len, ByteArray.size_extract]; omega)
    have hwr : IntKind.i64.wrap ((o : Int) + 1) = (o : Int) + 1 := by rw [IntWalk.i64_in _ (by omega)]
    have ho1 : (0 : Int) ≤ (o : Int) + 1 := by omega
    have ho2 : (o : Int) + 1 ≤ (s.size : Int) := by omega
    have ho3 : ((o : Int) + 1).toNat = o + 1 := by omega
    clear h hge ho hso
    go_enter Tryd.func40, Tryd.ntmps40
    go_wp2_with (go_at_call 53; go_must (refine (indexS_any _ s).mono ?_); rw [HH.out]; rintro e w' ⟨rfl, rfl⟩)
    go_quiet (fail)
    go_wp2
    go_ret3
    exact ⟨_, _, _, rfl, HC.out, below_drewN (Below.refl _ _) _⟩

set_option maxHeartbeats 1000000 in
theorem cut_any (w : World) (s : ByteArray) (hs : s.size ≤ 1000000) :
    Calls Tryd.prog 20 #[.string s, .string ⟨#[47]⟩] w fun e w' => ∃ (a b : ByteArray) (t : Bool), e = .returned (.tuple #[.string a, .string b, .bool t]) ∧ CutAt (by8 s) (by8 a) (by8 b) t ∧ Below w.heap.size w w' := by
  go_enter Tryd.func20, Tryd.ntmps20
  go_wp2_with fail
  refine (cutS_any _ s hs).mono ?_
  rintro e w' ⟨a, b, t, rfl, hc, hB⟩
  go_wp2
  go_ret3
  exact ⟨a, b, t, rfl, hc, hB⟩

theorem hidden_any (w : World) (s : ByteArray) (b : Bool) (hb : Hid (hid (by8 s) = b)) :
    Calls Tryd.prog 21 #[.string s] w fun e w' => e = .returned (.bool b) ∧ w = w' := by
  have hpre : ∀ u : Bs, List.isPrefixOf [46] u = hid u := by
    intro u
    unfold hid
    cases u with
    | nil => rfl
    | cons c u =>
      by_cases h : c = 46
      · subst h; rfl
      · show ((46 : UInt8) == c && _) = _
        rw [beq_eq_false_iff_ne.2 (Ne.symm h)]; simp [h]
  have HP : Hid (Lib.hasPrefix s.data.toList [46] = b) := Lib.hid (by rw [← hb.out]; exact hpre _)
  clear hpre
  go_enter Tryd.func21, Tryd.ntmps21
  go_wp2_with (go_at_call 25; go_must (refine (Tryd.strings_HasPrefix s ⟨#[46]⟩ _).mono ?_); rintro e w' ⟨rfl, rfl⟩)
  go_ret
  exact ⟨ret_bool HP.out, rfl⟩

/-- How many slashes. -/
def cnt (s : ByteArray) : Int := (Lib.countByte (by8 s) 47 : Int)
theorem count_any (w : World) (s : ByteArray) :
    Calls Tryd.prog 19 #[.string s, .string ⟨#[47]⟩] w fun e w' => e = .returned (.int .i64 (cnt s)) ∧ w = w' := by
  refine (Tryd.strings_Count_one s 47 w).mono ?_
  rintro e w' ⟨rfl, rfl⟩
  exact ⟨rfl, rfl⟩

/-- What stands at the head of a round of glob.Path. -/
def PRel (B : Nat) (w : World) (p s : Bs) (pv sv mv : Value) (wr : World) : Prop :=
  ∃ (P S : ByteArray) (m : Bool), pv = .string P ∧ sv = .string S ∧ mv = .bool m ∧ P.size ≤ 1000000 ∧ S.size ≤ 1000000 ∧ Below B w wr ∧
    ((m = true ∧ (Pt.pieces (by8 P)).length = (Pt.pieces (by8 S)).length ∧ partsB (Pt.pieces (by8 P)) (Pt.pieces (by8 S)) = partsB (Pt.pieces p) (Pt.pieces s)) ∨ (m = false ∧ partsB (Pt.pieces p) (Pt.pieces s) = true))

/-- A round's part of the way. -/
def leftP (sv mv : Value) : Nat := match mv, sv with
  | .bool true, .string S => S.size + 1
  | _, _ => 0

theorem pathB_no1 {p s : Bs} (h : isPath s = false) : pathB p s = false := by unfold pathB; rw [h]; rfl
theorem pathB_no2 {p s : Bs} (h : ¬ (Pt.pieces p).length = (Pt.pieces s).length) : pathB p s = false := by unfold pathB; rw [decide_eq_false h, Bool.and_false]; rfl
theorem pathB_yes {p s : Bs} (h : isPath s = true) (h2 : (Pt.pieces p).length = (Pt.pieces s).length) : pathB p s = partsB (Pt.pieces p) (Pt.pieces s) := by unfold pathB; rw [h, decide_eq_true h2]; rfl

/-- Both cut: the parts ahead, and what is left. -/
theorem cut_both {P S a1 b1 a2 b2 : Bs} {t1 t2 : Bool} (h1 : CutAt P a1 b1 t1) (h2 : CutAt S a2 b2 t2) (hl : (Pt.pieces P).length = (Pt.pieces S).length) :
    (t2 = true ∧ (Pt.pieces b1).length = (Pt.pieces b2).length ∧ partsB (Pt.pieces P) (Pt.pieces S) = (partB a1 a2 && partsB (Pt.pieces b1) (Pt.pieces b2)) ∧ b2.length < S.length) ∨ (t2 = false ∧ partsB (Pt.pieces P) (Pt.pieces S) = partB a1 a2) := by
  rcases h1 with ⟨rfl, e1, _, _⟩ | ⟨rfl, e1, rfl, _⟩
  · rcases h2 with ⟨rfl, e2, hlt, _⟩ | ⟨rfl, e2, rfl, _⟩
    · rw [e1, e2] at hl ⊢
      exact .inl ⟨rfl, by simpa using hl, rfl, hlt⟩
    · rw [e1, e2, List.length_cons, List.length_cons, List.length_nil] at hl
      have := List.length_pos_iff.2 (Pt.pieces_ne b1)
      omega
  · rcases h2 with ⟨rfl, e2, _, _⟩ | ⟨rfl, e2, rfl, _⟩
    · rw [e1, e2, List.length_cons, List.length_cons, List.length_nil] at hl
      have := List.length_pos_iff.2 (Pt.pieces_ne b2)
      omega
    · rw [e1, e2]
      exact .inr ⟨rfl, by simp [partsB]⟩

theorem cut_sizes {P S a1 b1 a2 b2 : Bs} {t1 t2 : Bool} (h1 : CutAt P a1 b1 t1) (h2 : CutAt S a2 b2 t2) : a1.length ≤ P.length ∧ a2.length ≤ S.length ∧ b1.length ≤ P.length ∧ b2.length ≤ S.length := by
  rcases h1 with ⟨_, _, h3, h4⟩ | ⟨_, _, rfl, h4⟩ <;> rcases h2 with ⟨_, _, h5, h6⟩ | ⟨_, _, rfl, h6⟩
  all_goals (refine ⟨?_, ?_, ?_, ?_⟩)
  all_goals first | assumption | exact Nat.zero_le _ | omega

theorem parts_no {P S a1 b1 a2 b2 : Bs} {t2 : Bool} (h : (t2 = true ∧ (Pt.pieces b1).length = (Pt.pieces b2).length ∧ partsB (Pt.pieces P) (Pt.pieces S) = (partB a1 a2 && partsB (Pt.pieces b1) (Pt.pieces b2)) ∧ b2.length < S.length) ∨ (t2 = false ∧ partsB (Pt.pieces P) (Pt.pieces S) = partB a1 a2))
    (hb : partB a1 a2 = false) : partsB (Pt.pieces P) (Pt.pieces S) = false := by
  rcases h with ⟨_, _, e, _⟩ | ⟨_, e⟩
  · rw [e, hb]; rfl
  · rw [e, hb]
theorem parts_next {P S a1 b1 a2 b2 : Bs} {t2 r : Bool} (h : (t2 = true ∧ (Pt.pieces b1).length = (Pt.pieces b2).length ∧ partsB (Pt.pieces P) (Pt.pieces S) = (partB a1 a2 && partsB (Pt.pieces b1) (Pt.pieces b2)) ∧ b2.length < S.length) ∨ (t2 = false ∧ partsB (Pt.pieces P) (Pt.pieces S) = partB a1 a2))
    (hb : partB a1 a2 = true) (hr : partsB (Pt.pieces P) (Pt.pieces S) = r) : (t2 = true ∧ (Pt.pieces b1).length = (Pt.pieces b2).length ∧ partsB (Pt.pieces b1) (Pt.pieces b2) = r) ∨ (t2 = false ∧ r = true) := by
  rcases h with ⟨h1, h2, e, _⟩ | ⟨h1, e⟩
  · exact .inl ⟨h1, h2, by rw [← hr, e, hb]; rfl⟩
  · exact .inr ⟨h1, by rw [← hr, e, hb]⟩
theorem measure_p {P a1 b1 a2 : Bs} {S S2 : ByteArray} {t2 : Bool} (h : (t2 = true ∧ (Pt.pieces b1).length = (Pt.pieces (by8 S2)).length ∧ partsB (Pt.pieces P) (Pt.pieces (by8 S)) = (partB a1 a2 && partsB (Pt.pieces b1) (Pt.pieces (by8 S2))) ∧ (by8 S2).length < (by8 S).length) ∨ (t2 = false ∧ partsB (Pt.pieces P) (Pt.pieces (by8 S)) = partB a1 a2)) :
    leftP (.string S2) (.bool t2) < leftP (.string S) (.bool true) := by
  rcases h with ⟨rfl, _, _, h4⟩ | ⟨rfl, _⟩
  · rw [by8_len, by8_len] at h4
    show S2.size + 1 < S.size + 1; omega
  · show 0 < S.size + 1; omega

set_option maxHeartbeats 4000000 in
theorem Path_any (w : World) (p s : ByteArray) (hp : p.size ≤ 1000000) (hs : s.size ≤ 1000000) :
    Calls Tryd.prog 9 #[.string p, .string s] w fun e w' => e = .returned (.bool (pathB (by8 p) (by8 s))) ∧ Below w.heap.size w w' := by
  have hcl := Clean_any w s (by omega)
  cases hc : isPath (bs s) with
  | false =>
    rw [hc] at hcl
    have HCL := Lib.hid hcl
    have HE := Lib.hid (pathB_no1 (p := by8 p) (s := by8 s) hc)
    clear hc hcl
    go_enter Tryd.func9, Tryd.ntmps9
    go_wp2_with (go_at_call 18; go_must (refine HCL.out.mono ?_); rintro e w' ⟨rfl, hB⟩)
    go_ret
    exact ⟨ret_bool HE.out.symm, hB⟩
  | true =>
    rw [hc] at hcl
    have HCL := Lib.hid hcl
    have hcp : ((Pt.pieces (by8 p)).length : Int) = cnt p + 1 := count_pieces (by8 p)
    have hcs : ((Pt.pieces (by8 s)).length : Int) = cnt s + 1 := count_pieces (by8 s)
    by_cases hl : (Pt.pieces (by8 p)).length = (Pt.pieces (by8 s)).length
    · have hbe : (cnt p == cnt s) = true := by rw [beq_iff_eq]; omega
      have hbn : (cnt p != cnt s) = false := by rw [bne, hbe]; rfl
      have HE := Lib.hid (pathB_yes (p := by8 p) (s := by8 s) hc hl)
      have HL := Lib.hid hl
      clear hc hcl hcp hcs hl
      go_enter Tryd.func9, Tryd.ntmps9
      go_wp2_with (first
        | (go_at_call 18; go_must (refine HCL.out.mono ?_); rintro e w1 ⟨rfl, hB⟩)
        | (go_at_call 19; go_must (refine (count_any _ _).mono ?_); rintro e w' ⟨rfl, rfl⟩))
      go_loopw [0, 1, 5] (fun pv sv mv wr => PRel w.heap.size w (by8 p) (by8 s) pv sv mv wr) (fun _ sv mv _ => leftP sv mv)
      case atStart => exact ⟨p, s, true, rfl, rfl, rfl, hp, hs, hB, .inl ⟨rfl, HL.out, rfl⟩⟩
      case round =>
        obtain ⟨P, S, m, rfl, rfl, rfl, hP, hS, hBr, hcase⟩ := hrel
        rcases hcase with ⟨rfl, hlen, hpart⟩ | ⟨rfl, hpart⟩
        · have HLEN := Lib.hid hlen
          have HPART := Lib.hid hpart
          clear hlen hpart
          go_wp2_with fail
          refine (cut_any _ P hP).mono ?_
          rintro e w2 ⟨x, P2, t1, rfl, c1, B2⟩
          have C1 := Lib.hid c1
          clear c1
          go_wp2_with fail
          refine (cut_any _ S hS).mono ?_
          rintro e w3 ⟨y, S2, t2, rfl, c2, B3⟩
          have C2 := Lib.hid c2
          have hB3 := (hBr.trans (B2.mono hBr.size)).trans (B3.mono (Nat.le_trans hBr.size B2.size))
          have hboth := Lib.hid (cut_both C1.out C2.out HLEN.out)
          have hsz := Lib.hid (cut_sizes C1.out C2.out)
          clear c2 B2 B3
          have hxs : x.size ≤ 1000000 := by have := hsz.out.1; rw [by8_len, by8_len] at this; omega
          have hys : y.size ≤ 1000000 := by have := hsz.out.2.1; rw [by8_len, by8_len] at this; omega
          have hP2 : P2.size ≤ 1000000 := by have := hsz.out.2.2.1; rw [by8_len, by8_len] at this; omega
          have hS2 : S2.size ≤ 1000000 := by have := hsz.out.2.2.2; rw [by8_len, by8_len] at this; omega
          obtain ⟨h1, H1⟩ : ∃ b, Hid (hid (by8 y) = b) := ⟨_, Lib.hid rfl⟩
          obtain ⟨h2, H2⟩ : ∃ b, Hid (hid (by8 x) = b) := ⟨_, Lib.hid rfl⟩
          obtain ⟨h3, H3⟩ : ∃ b, Hid (Gl.matchB (by8 x) (by8 y) = b) := ⟨_, Lib.hid rfl⟩
          have HPB : Hid (partB (by8 x) (by8 y) = (!(h1 && !h2) && h3)) := Lib.hid (by unfold partB; rw [H1.out, H2.out, H3.out])
          have hm := Match_any w3 x y hxs hys
          rw [H3.out] at hm
          have HMT := Lib.hid hm
          clear hm
          cases h1 with
          | true =>
            cases h2 with
            | false =>
              have HF : Hid (partsB (Pt.pieces (by8 p)) (Pt.pieces (by8 s)) = false) := Lib.hid (by rw [← HPART.out]; exact parts_no hboth.out HPB.out)
              go_wp2_with fail
              refine (hidden_any _ _ _ H1).mono ?_
              rintro e w' ⟨rfl, rfl⟩
              go_wp2_with fail
              refine (hidden_any _ _ _ H2).mono ?_
              rintro e w' ⟨rfl, rfl⟩
              go_wp2_with fail
              go_ret
              exact ⟨ret_bool (HE.out.trans HF.out).symm, hB3⟩
            | true =>
              go_wp2_with fail
              refine (hidden_any _ _ _ H1).mono ?_
              rintro e w' ⟨rfl, rfl⟩
              go_wp2_with fail
              refine (hidden_any _ _ _ H2).mono ?_
              rintro e w' ⟨rfl, rfl⟩
              go_wp2_with fail
              refine HMT.out.mono ?_
              rintro e w' ⟨rfl, rfl⟩
              cases h3 with
              | false =>
                have HF : Hid (partsB (Pt.pieces (by8 p)) (Pt.pieces (by8 s)) = false) := Lib.hid (by rw [← HPART.out]; exact parts_no hboth.out HPB.out)
                go_wp2_with fail
                go_ret
                exact ⟨ret_bool (HE.out.trans HF.out).symm, hB3⟩
              | true =>
                go_wp2_with fail
                go_roundw
                case rel => exact ⟨P2, S2, t2, rfl, rfl, rfl, hP2, hS2, hB3, parts_next hboth.out HPB.out HPART.out⟩
                case measure => exact measure_p hboth.out
          | false =>
            go_wp2_with fail
            refine (hidden_any _ _ _ H1).mono ?_
            rintro e w' ⟨rfl, rfl⟩
            go_wp2_with fail
            refine HMT.out.mono ?_
            rintro e w' ⟨rfl, rfl⟩
            cases h3 with
            | false =>
              have HF : Hid (partsB (Pt.pieces (by8 p)) (Pt.pieces (by8 s)) = false) := Lib.hid (by rw [← HPART.out]; exact parts_no hboth.out HPB.out)
              go_wp2_with fail
              go_ret
              exact ⟨ret_bool (HE.out.trans HF.out).symm, hB3⟩
            | true =>
              go_wp2_with fail
              go_roundw
              case rel => exact ⟨P2, S2, t2, rfl, rfl, rfl, hP2, hS2, hB3, parts_next hboth.out HPB.out HPART.out⟩
              case measure => exact measure_p hboth.out
        · have HPART := Lib.hid hpart
          clear hpart
          go_wp2
          go_ret
          exact ⟨ret_bool (HE.out.trans HPART.out).symm, hBr⟩
    · have hbe : (cnt p == cnt s) = false := by rw [beq_eq_false_iff_ne]; omega
      have hbn : (cnt p != cnt s) = true := by rw [bne, hbe]; rfl
      have HE := Lib.hid (pathB_no2 (p := by8 p) (s := by8 s) hl)
      clear hc hcl hcp hcs hl
      go_enter Tryd.func9, Tryd.ntmps9
      go_wp2_with (first
        | (go_at_call 18; go_must (refine HCL.out.mono ?_); rintro e w1 ⟨rfl, hB⟩)
        | (go_at_call 19; go_must (refine (count_any _ _).mono ?_); rintro e w' ⟨rfl, rfl⟩))
      go_ret
      exact ⟨ret_bool HE.out.symm, hB⟩
end Go.Proofs.YtdckeefhncdegaaDoor.Gm
