/-
  (*Store).Write and Touch.
-/
import Derived.Test.YtaolccibflniiaaGreatDoorQSPut
namespace Go.Proofs.YtaolccibflniiaaGreatDoor.Sw
open Go.RowKit Go.Proofs.YtaolccibflniiaaGreatDoor Go.Maps
set_option maxRecDepth 100000

def writeA (s : St) (p t : List UInt8) (more : Bool) : St × Int :=
  if placeA s.L p ≠ 0 then (s, placeA s.L p) else
  let f := (Sp.get s.L p).getD noF
  if f.d = true then (s, 4) else
  let old := if more then f.t else []
  if 1048576 < old.length + t.length then (s, 12) else putA s ⟨p, old ++ t, 0, false⟩

theorem writeA_bad {s : St} {p t : List UInt8} {more : Bool} (h : placeA s.L p ≠ 0) : writeA s p t more = (s, placeA s.L p) := by unfold writeA; rw [if_pos h]
theorem writeA_ok {s : St} {p t : List UInt8} {more : Bool} (h : placeA s.L p = 0) : writeA s p t more =
    let f := (Sp.get s.L p).getD noF
    if f.d = true then (s, 4) else
    let old := if more then f.t else []
    if 1048576 < old.length + t.length then (s, 12) else putA s ⟨p, old ++ t, 0, false⟩ := by unfold writeA; rw [if_neg (by simp [h])]

theorem text_of {s : St} (hF : Fine s) (p : List UInt8) : ((Sp.get s.L p).getD noF).t.length ≤ 1048576 := by
  cases h : Sp.get s.L p with
  | none => simp [noF]
  | some f => exact hF.text f (List.mem_of_find?_eq_some h)
theorem str_len (l : List UInt8) : (str l).size = l.length := by rw [← bs_len, bs_str]

set_option maxHeartbeats 1000000 in
theorem Write_any (w : World) {sb bm : Nat} {s : St} (p t : ByteArray) (more : Bool) (hS : StoreAt w sb bm s.L s.c) (hF : Fine s) (hp : p.size ≤ 1000000) (ht : t.size ≤ 1000000000) :
    Calls Tryz.prog 122 #[.pointer (some ⟨sb, 0, none⟩), .string p, .string t, .bool more] w (OpPost w sb bm (writeA s (bs p) (bs t) more)) := by
  obtain ⟨n, hn⟩ : ∃ n, Hid (placeA s.L (bs p) = n) := ⟨_, Lib.hid rfl⟩
  by_cases h0 : n = 0
  · have hW := Lib.hid (writeA_ok (t := bs t) (more := more) (hn.out.trans h0))
    subst h0
    obtain ⟨f, hf⟩ : ∃ f, Hid ((Sp.get s.L (bs p)).getD noF = f) := ⟨_, Lib.hid rfl⟩
    have hfl : (str f.t).size ≤ 1048576 := by rw [str_len, ← hf.out]; exact text_of hF _
    have hpm : p.size ≤ maxLen := by unfold maxLen; omega
    obtain ⟨fp, ft, fc, fd⟩ := f
    cases fd with
    | true =>
      go_enter Tryz.func122, Tryz.ntmps122
      go_wp2_with fail
      refine (place_any _ p 0 hS hp hn).mono ?_
      rintro e w1 ⟨rfl, B1⟩
      have hS1 := hS.below B1
      have c1 := hS1.c1
      have hM := hS1.map
      go_wp2_with (at_lookup; refine wpList_get _ rfl _ _ rfl rfl rfl hM hpm hf ?_)
      go_ret
      have hE : writeA s (bs p) (bs t) more = (s, 4) := by rw [hW.out, hf.out]; rfl
      rw [hE]
      exact ⟨rfl, hS1.alloc _, (Kept.of_below B1).alloc _⟩
    | false =>
      cases more with
      | true =>
        by_cases hb : 1048576 < (str ft).size + t.size
        · skip
          have i1 : (1048576 : Int) - (str ft).size < t.size := by omega
          have hE : writeA s (bs p) (bs t) true = (s, 12) := by
            rw [hW.out, hf.out]
            show (if 1048576 < (ft : List UInt8).length + (bs t).length then (s, (12 : Int)) else putA s ⟨bs p, ft ++ bs t, 0, false⟩) = _
            rw [if_pos (by rw [bs_len]; have := str_len ft; omega)]
          have HE := Lib.hid hE
          clear hE hW
          go_enter Tryz.func122, Tryz.ntmps122
          go_wp2_with fail
          refine (place_any _ p 0 hS hp hn).mono ?_
          rintro e w1 ⟨rfl, B1⟩
          have hS1 := hS.below B1
          have c1 := hS1.c1
          have hM := hS1.map
          go_wp2_with (at_lookup; refine wpList_get _ rfl _ _ rfl rfl rfl hM hpm hf ?_)
          go_ret
          rw [HE.out]
          exact ⟨rfl, hS1.alloc _, (Kept.of_below B1).alloc _⟩
        · skip
          have i1 : ¬ (1048576 : Int) - (str ft).size < t.size := by omega
          have hE : writeA s (bs p) (bs t) true = putA s ⟨bs p, ft ++ bs t, 0, false⟩ := by
            rw [hW.out, hf.out]
            show (if 1048576 < (ft : List UInt8).length + (bs t).length then (s, (12 : Int)) else putA s ⟨bs p, ft ++ bs t, 0, false⟩) = _
            rw [if_neg (by rw [bs_len]; have := str_len ft; omega)]
          have HE := Lib.hid hE
          clear hE hW
          go_enter Tryz.func122, Tryz.ntmps122
          go_wp2_with fail
          refine (place_any _ p 0 hS hp hn).mono ?_
          rintro e w1 ⟨rfl, B1⟩
          have hS1 := hS.below B1
          have c1 := hS1.c1
          have hM := hS1.map
          go_wp2_with (at_lookup; refine wpList_get _ rfl _ _ rfl rfl rfl hM hpm hf ?_)
          go_wp2_with fail
          refine (put_bytes _ p (str ft ++ t) 0 false (hS1.alloc _) hF hpm).mono ?_
          rintro e w2 ⟨rfl, hS2, hK2⟩
          go_wp2
          go_ret
          rw [HE.out]
          exact ⟨rfl, hS2, ((Kept.of_below B1).alloc _).trans hK2⟩
      | false =>
        by_cases hb : 1048576 < t.size
        · skip
          have i1 : (1048576 : Int) < t.size := by omega
          have hE : writeA s (bs p) (bs t) false = (s, 12) := by
            rw [hW.out, hf.out]
            show (if 1048576 < ([] : List UInt8).length + (bs t).length then (s, (12 : Int)) else putA s ⟨bs p, [] ++ bs t, 0, false⟩) = _
            rw [if_pos (by rw [bs_len]; simp; omega)]
          have HE := Lib.hid hE
          clear hE hW
          go_enter Tryz.func122, Tryz.ntmps122
          go_wp2_with fail
          refine (place_any _ p 0 hS hp hn).mono ?_
          rintro e w1 ⟨rfl, B1⟩
          have hS1 := hS.below B1
          have c1 := hS1.c1
          have hM := hS1.map
          go_wp2_with (at_lookup; refine wpList_get _ rfl _ _ rfl rfl rfl hM hpm hf ?_)
          go_ret
          rw [HE.out]
          exact ⟨rfl, hS1.alloc _, (Kept.of_below B1).alloc _⟩
        · skip
          have i1 : ¬ (1048576 : Int) < t.size := by omega
          have hE : writeA s (bs p) (bs t) false = putA s ⟨bs p, [] ++ bs t, 0, false⟩ := by
            rw [hW.out, hf.out]
            show (if 1048576 < ([] : List UInt8).length + (bs t).length then (s, (12 : Int)) else putA s ⟨bs p, [] ++ bs t, 0, false⟩) = _
            rw [if_neg (by rw [bs_len]; simp; omega)]
          have HE := Lib.hid hE
          clear hE hW
          go_enter Tryz.func122, Tryz.ntmps122
          go_wp2_with fail
          refine (place_any _ p 0 hS hp hn).mono ?_
          rintro e w1 ⟨rfl, B1⟩
          have hS1 := hS.below B1
          have c1 := hS1.c1
          have hM := hS1.map
          go_wp2_with (at_lookup; refine wpList_get _ rfl _ _ rfl rfl rfl hM hpm hf ?_)
          go_wp2_with fail
          refine (put_bytes _ p (t) 0 false (hS1.alloc _) hF hpm).mono ?_
          rintro e w2 ⟨rfl, hS2, hK2⟩
          go_wp2
          go_ret
          rw [HE.out]
          exact ⟨rfl, hS2, ((Kept.of_below B1).alloc _).trans hK2⟩
  · have hW := Lib.hid (writeA_bad (t := bs t) (more := more) (fun e => h0 (hn.out.symm.trans e)))
    have h0' : (n == 0) = false := by simpa using h0
    go_enter Tryz.func122, Tryz.ntmps122
    go_wp2_with fail
    refine (place_any _ p n hS hp hn).mono ?_
    rintro e w1 ⟨rfl, B1⟩
    go_wp2
    go_ret
    rw [hW.out, hn.out]
    exact ⟨rfl, hS.below B1, .of_below B1⟩

theorem Write_nil (w : World) (p t : ByteArray) (more : Bool) :
    Calls Tryz.prog 122 #[.pointer none, .string p, .string t, .bool more] w fun e w' => e = .returned (.int .i64 1) ∧ w = w' := by
  go_enter Tryz.func122, Tryz.ntmps122
  go_wp2_with (go_at_call 162; go_must (refine (place_nil _ p).mono ?_); rintro e w1 ⟨rfl, rfl⟩)
  go_ret
  exact ⟨rfl, rfl⟩

/-! ### Touch -/
def touchA (s : St) (p : List UInt8) : St × Int :=
  match getR s.L p with
  | none => writeA s p [] false
  | some f => if f.d = true ∧ p ≠ [46] then putA s f else writeA s p f.t false

theorem Touch_nil (w : World) (p : ByteArray) :
    Calls Tryz.prog 132 #[.pointer none, .string p] w fun e w' => e = .returned (.int .i64 1) ∧ Below w.heap.size w w' := by
  go_enter Tryz.func132, Tryz.ntmps132
  go_wp2_with fail
  refine (Get_nil _ p).mono ?_
  rintro e w1 ⟨rfl, B1⟩
  unfold fV
  go_wp2_with (go_at_call 122; go_must (refine (Write_nil _ p _ false).mono ?_); rintro e w2 ⟨rfl, rfl⟩)
  go_ret
  exact ⟨rfl, B1.alloc B1.size _⟩

theorem getR_text {s : St} (hF : Fine s) {p : List UInt8} {f : F} (h : getR s.L p = some f) : f.t.length ≤ 1048576 := by
  unfold getR at h
  split at h
  · cases h; simp [rootF]
  · exact hF.text f (List.mem_of_find?_eq_some h)

set_option maxHeartbeats 1000000 in
theorem Touch_any (w : World) {sb bm : Nat} {s : St} (p : ByteArray) (hS : StoreAt w sb bm s.L s.c) (hF : Fine s) (hp : p.size ≤ 1000000) (hq : ∀ f, getR s.L (bs p) = some f → f.p = bs p) :
    Calls Tryz.prog 132 #[.pointer (some ⟨sb, 0, none⟩), .string p] w (OpPost w sb bm (touchA s (bs p))) := by
  have hpm : p.size ≤ maxLen := by unfold maxLen; omega
  cases hg : getR s.L (bs p) with
  | none =>
    have hG := Lib.hid hg
    have HE : Hid (touchA s (bs p) = writeA s (bs p) [] false) := Lib.hid (by unfold touchA; rw [hg])
    clear hg hq
    go_enter Tryz.func132, Tryz.ntmps132
    go_wp2_with fail
    refine (Get_no _ p hS hpm hG).mono ?_
    rintro e w1 ⟨rfl, B1⟩
    have hS1 := hS.below B1
    unfold fV
    go_wp2_with fail
    refine (Write_any _ p ⟨#[]⟩ false (hS1.alloc _) hF hp (by decide)).mono ?_
    rintro e w2 ⟨rfl, hS2, hK2⟩
    go_wp2
    go_ret
    rw [HE.out]
    exact ⟨rfl, hS2, ((Kept.of_below B1).alloc _).trans hK2⟩
  | some f =>
    have hG := Lib.hid hg
    have hfp := hq f hg
    have hft := getR_text hF hg
    obtain ⟨fp, ft, fc, fd⟩ := f
    obtain rfl : fp = bs p := hfp
    cases fd with
    | true =>
      by_cases h0 : (p.toList == [46]) = true
      · have HE : Hid (touchA s (bs p) = writeA s (bs p) ft false) := Lib.hid (by
          unfold touchA; rw [hg]; show (if true = true ∧ bs p ≠ [46] then _ else _) = _; rw [if_neg (by simp [bs_is h0])])
        clear hg hq
        go_enter Tryz.func132, Tryz.ntmps132
        go_wp2_with fail
        refine (Get_yes _ p hS hpm hG).mono ?_
        rintro e w1 ⟨rfl, B1⟩
        have hS1 := hS.below B1
        unfold fV
        go_wp2_with fail
        refine (Write_any _ p (str ft) false (hS1.alloc _) hF hp (by rw [str_len]; omega)).mono ?_
        rintro e w2 ⟨rfl, hS2, hK2⟩
        go_wp2
        go_ret
        rw [HE.out]
        exact ⟨rfl, hS2, ((Kept.of_below B1).alloc _).trans hK2⟩
      · have h0' : (p.toList == [46]) = false := by simpa using h0
        have HE : Hid (touchA s (bs p) = putA s ⟨bs p, ft, fc, true⟩) := Lib.hid (by
          unfold touchA; rw [hg]; show (if true = true ∧ bs p ≠ [46] then _ else _) = _; rw [if_pos ⟨rfl, bs_not h0'⟩])
        clear hg hq h0
        go_enter Tryz.func132, Tryz.ntmps132
        go_wp2_with fail
        refine (Get_yes _ p hS hpm hG).mono ?_
        rintro e w1 ⟨rfl, B1⟩
        have hS1 := hS.below B1
        unfold fV
        go_wp2_with fail
        refine (put_bytes _ p (str ft) fc true (hS1.alloc _) hF hpm).mono ?_
        rintro e w2 ⟨rfl, hS2, hK2⟩
        go_wp2
        go_ret
        rw [HE.out]
        exact ⟨rfl, hS2, ((Kept.of_below B1).alloc _).trans hK2⟩
    | false =>
      have HE : Hid (touchA s (bs p) = writeA s (bs p) ft false) := Lib.hid (by
        unfold touchA; rw [hg]; show (if false = true ∧ bs p ≠ [46] then _ else _) = _; rw [if_neg (by simp)])
      clear hg hq
      go_enter Tryz.func132, Tryz.ntmps132
      go_wp2_with fail
      refine (Get_yes _ p hS hpm hG).mono ?_
      rintro e w1 ⟨rfl, B1⟩
      have hS1 := hS.below B1
      unfold fV
      go_wp2_with fail
      refine (Write_any _ p (str ft) false (hS1.alloc _) hF hp (by rw [str_len]; omega)).mono ?_
      rintro e w2 ⟨rfl, hS2, hK2⟩
      go_wp2
      go_ret
      rw [HE.out]
      exact ⟨rfl, hS2, ((Kept.of_below B1).alloc _).trans hK2⟩
end Go.Proofs.YtaolccibflniiaaGreatDoor.Sw
