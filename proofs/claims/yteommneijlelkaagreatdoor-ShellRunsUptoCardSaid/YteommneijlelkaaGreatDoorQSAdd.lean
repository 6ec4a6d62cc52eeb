/-
  (*Store).Write and Touch.
  (*Store).Remove and Move.
  (*Store).mkdir and Mkdir.
  (*Store).Move; every call leaves a store as every store is.
  (*Store).add: a file is kept as it is; the clock is no less than its time.
-/
import Derived.Test.YteommneijlelkaaGreatDoorQSPut
import Derived.Maps.RangeWalk
import Derived.Sort.KeysCollected
import Derived.RegionTactic
import Derived.BigRegion
namespace Go.Proofs.YteommneijlelkaaGreatDoor.Sw
open Go.RowKit Go.Proofs.YteommneijlelkaaGreatDoor Go.Maps
set_option maxRecDepth 100000

def writeA (s : St) (p t : List UInt8) (more : Bool) : St × Int :=
  if placeA s.L p ≠ 0 then (s, placeA s.L p) else
  let f := (Sp.get s.L p).getD noF
  if f.d = true then (s, 4) else
  let old := if more then f.t else []
  if 1048576 < old.length + t.length then (s, 12) else putA s ⟨p, old ++ t, 0, false⟩

theorem writeA_bad {s : St} {p t : List UInt8} {more : Bool} (h : placeA s.L p ≠ 0) : writeA s p t more = (s, placeA s.L p) := by unfold writeA; rw [if_pos h]
theorem writeA_ok {s : St} {p t : List UInt8} {more : Bool} (h : placeA s.L p = 0) : writeA s p t more =
    let f := (Sp.get s.L p).getD noF
    if f.d = true then (s, 4) else
    let old := if more then f.t else []
    if 1048576 < old.length + t.length then (s, 12) else putA s ⟨p, old ++ t, 0, false⟩ := by unfold writeA; rw [if_neg (by simp [h])]

theorem text_of {s : St} (hF : Fine s) (p : List UInt8) : ((Sp.get s.L p).getD noF).t.length ≤ 1048576 := by
  cases h : Sp.get s.L p with
  | none => simp [noF]
  | some f => exact hF.text f (List.mem_of_find?_eq_some h)
theorem str_len (l : List UInt8) : (str l).size = l.length := by rw [← bs_len, bs_str]

set_option maxHeartbeats 1000000 in
theorem Write_any (w : World) {sb bm : Nat} {s : St} (p t : ByteArray) (more : Bool) (hS : StoreAt w sb bm s.L s.c) (hF : Fine s) (hp : p.size ≤ 1000000) (ht : t.size ≤ 1000000000) :
    Calls Tryz.prog 125 #[.pointer (some ⟨sb, 0, none⟩), .string p, .string t, .bool more] w (OpPost w sb bm (writeA s (bs p) (bs t) more)) := by
  obtain ⟨n, hn⟩ : ∃ n, Hid (placeA s.L (bs p) = n) := ⟨_, Lib.hid rfl⟩
  by_cases h0 : n = 0
  · have hW := Lib.hid (writeA_ok (t := bs t) (more := more) (hn.out.trans h0))
    subst h0
    obtain ⟨f, hf⟩ : ∃ f, Hid ((Sp.get s.L (bs p)).getD noF = f) := ⟨_, Lib.hid rfl⟩
    have hfl : (str f.t).size ≤ 1048576 := by rw [str_len, ← hf.out]; exact text_of hF _
    have hpm : p.size ≤ maxLen := by unfold maxLen; omega
    obtain ⟨fp, ft, fc, fd⟩ := f
    cases fd with
    | true =>
      go_enter Tryz.func125, Tryz.ntmps125
      go_wp2_with fail
      refine (place_any _ p 0 hS hp hn).mono ?_
      rintro e w1 ⟨rfl, B1⟩
      have hS1 := hS.below B1
      have c1 := hS1.c1
      have hM := hS1.map
      go_wp2_with (at_lookup; refine wpList_get _ rfl _ _ rfl rfl rfl hM hpm hf ?_)
      go_ret
      have hE : writeA s (bs p) (bs t) more = (s, 4) := by rw [hW.out, hf.out]; rfl
      rw [hE]
      exact ⟨rfl, hS1.alloc _, (Kept.of_below B1).alloc _⟩
    | false =>
      cases more with
      | true =>
        by_cases hb : 1048576 < (str ft).size + t.size
        · skip
          have i1 : (1048576 : Int) - (str ft).size < t.size := by omega
          have hE : writeA s (bs p) (bs t) true = (s, 12) := by
            rw [hW.out, hf.out]
            show (if 1048576 < (ft : List UInt8).length + (bs t).length then (s, (12 : Int)) else putA s ⟨bs p, ft ++ bs t, 0, false⟩) = _
            rw [if_pos (by rw [bs_len]; have := str_len ft; omega)]
          have HE := Lib.hid hE
          clear hE hW
          go_enter Tryz.func125, Tryz.ntmps125
          go_wp2_with fail
          refine (place_any _ p 0 hS hp hn).mono ?_
          rintro e w1 ⟨rfl, B1⟩
          have hS1 := hS.below B1
          have c1 := hS1.c1
          have hM := hS1.map
          go_wp2_with (at_lookup; refine wpList_get _ rfl _ _ rfl rfl rfl hM hpm hf ?_)
          go_ret
          rw [HE.out]
          exact ⟨rfl, hS1.alloc _, (Kept.of_below B1).alloc _⟩
        · skip
          have i1 : ¬ (1048576 : Int) - (str ft).size < t.size := by omega
          have hE : writeA s (bs p) (bs t) true = putA s ⟨bs p, ft ++ bs t, 0, false⟩ := by
            rw [hW.out, hf.out]
            show (if 1048576 < (ft : List UInt8).length + (bs t).length then (s, (12 : Int)) else putA s ⟨bs p, ft ++ bs t, 0, false⟩) = _
            rw [if_neg (by rw [bs_len]; have := str_len ft; omega)]
          have HE := Lib.hid hE
          clear hE hW
          go_enter Tryz.func125, Tryz.ntmps125
          go_wp2_with fail
          refine (place_any _ p 0 hS hp hn).mono ?_
          rintro e w1 ⟨rfl, B1⟩
          have hS1 := hS.below B1
          have c1 := hS1.c1
          have hM := hS1.map
          go_wp2_with (at_lookup; refine wpList_get _ rfl _ _ rfl rfl rfl hM hpm hf ?_)
          go_wp2_with fail
          refine (put_bytes _ p (str ft ++ t) 0 false (hS1.alloc _) hF hpm).mono ?_
          rintro e w2 ⟨rfl, hS2, hK2⟩
          go_wp2
          go_ret
          rw [HE.out]
          exact ⟨rfl, hS2, ((Kept.of_below B1).alloc _).trans hK2⟩
      | false =>
        by_cases hb : 1048576 < t.size
        · skip
          have i1 : (1048576 : Int) < t.size := by omega
          have hE : writeA s (bs p) (bs t) false = (s, 12) := by
            rw [hW.out, hf.out]
            show (if 1048576 < ([] : List UInt8).length + (bs t).length then (s, (12 : Int)) else putA s ⟨bs p, [] ++ bs t, 0, false⟩) = _
            rw [if_pos (by rw [bs_len]; simp; omega)]
          have HE := Lib.hid hE
          clear hE hW
          go_enter Tryz.func125, Tryz.ntmps125
          go_wp2_with fail
          refine (place_any _ p 0 hS hp hn).mono ?_
          rintro e w1 ⟨rfl, B1⟩
          have hS1 := hS.below B1
          have c1 := hS1.c1
          have hM := hS1.map
          go_wp2_with (at_lookup; refine wpList_get _ rfl _ _ rfl rfl rfl hM hpm hf ?_)
          go_ret
          rw [HE.out]
          exact ⟨rfl, hS1.alloc _, (Kept.of_below B1).alloc _⟩
        · skip
          have i1 : ¬ (1048576 : Int) < t.size := by omega
          have hE : writeA s (bs p) (bs t) false = putA s ⟨bs p, [] ++ bs t, 0, false⟩ := by
            rw [hW.out, hf.out]
            show (if 1048576 < ([] : List UInt8).length + (bs t).length then (s, (12 : Int)) else putA s ⟨bs p, [] ++ bs t, 0, false⟩) = _
            rw [if_neg (by rw [bs_len]; simp; omega)]
          have HE := Lib.hid hE
          clear hE hW
          go_enter Tryz.func125, Tryz.ntmps125
          go_wp2_with fail
          refine (place_any _ p 0 hS hp hn).mono ?_
          rintro e w1 ⟨rfl, B1⟩
          have hS1 := hS.below B1
          have c1 := hS1.c1
          have hM := hS1.map
          go_wp2_with (at_lookup; refine wpList_get _ rfl _ _ rfl rfl rfl hM hpm hf ?_)
          go_wp2_with fail
          refine (put_bytes _ p (t) 0 false (hS1.alloc _) hF hpm).mono ?_
          rintro e w2 ⟨rfl, hS2, hK2⟩
          go_wp2
          go_ret
          rw [HE.out]
          exact ⟨rfl, hS2, ((Kept.of_below B1).alloc _).trans hK2⟩
  · have hW := Lib.hid (writeA_bad (t := bs t) (more := more) (fun e => h0 (hn.out.symm.trans e)))
    have h0' : (n == 0) = false := by simpa using h0
    go_enter Tryz.func125, Tryz.ntmps125
    go_wp2_with fail
    refine (place_any _ p n hS hp hn).mono ?_
    rintro e w1 ⟨rfl, B1⟩
    go_wp2
    go_ret
    rw [hW.out, hn.out]
    exact ⟨rfl, hS.below B1, .of_below B1⟩

/-! ### Touch -/
def touchA (s : St) (p : List UInt8) : St × Int :=
  match getR s.L p with
  | none => writeA s p [] false
  | some f => if f.d = true ∧ p ≠ [46] then putA s f else writeA s p f.t false

theorem getR_text {s : St} (hF : Fine s) {p : List UInt8} {f : F} (h : getR s.L p = some f) : f.t.length ≤ 1048576 := by
  unfold getR at h
  split at h
  · cases h; simp [rootF]
  · exact hF.text f (List.mem_of_find?_eq_some h)

set_option maxHeartbeats 1000000 in
theorem Touch_any (w : World) {sb bm : Nat} {s : St} (p : ByteArray) (hS : StoreAt w sb bm s.L s.c) (hF : Fine s) (hp : p.size ≤ 1000000) (hq : ∀ f, getR s.L (bs p) = some f → f.p = bs p) :
    Calls Tryz.prog 135 #[.pointer (some ⟨sb, 0, none⟩), .string p] w (OpPost w sb bm (touchA s (bs p))) := by
  have hpm : p.size ≤ maxLen := by unfold maxLen; omega
  cases hg : getR s.L (bs p) with
  | none =>
    have hG := Lib.hid hg
    have HE : Hid (touchA s (bs p) = writeA s (bs p) [] false) := Lib.hid (by unfold touchA; rw [hg])
    clear hg hq
    go_enter Tryz.func135, Tryz.ntmps135
    go_wp2_with fail
    refine (Get_no _ p hS hpm hG).mono ?_
    rintro e w1 ⟨rfl, B1⟩
    have hS1 := hS.below B1
    unfold fV
    go_wp2_with fail
    refine (Write_any _ p ⟨#[]⟩ false (hS1.alloc _) hF hp (by decide)).mono ?_
    rintro e w2 ⟨rfl, hS2, hK2⟩
    go_wp2
    go_ret
    rw [HE.out]
    exact ⟨rfl, hS2, ((Kept.of_below B1).alloc _).trans hK2⟩
  | some f =>
    have hG := Lib.hid hg
    have hfp := hq f hg
    have hft := getR_text hF hg
    obtain ⟨fp, ft, fc, fd⟩ := f
    obtain rfl : fp = bs p := hfp
    cases fd with
    | true =>
      by_cases h0 : (p.toList == [46]) = true
      · have HE : Hid (touchA s (bs p) = writeA s (bs p) ft false) := Lib.hid (by
          unfold touchA; rw [hg]; show (if true = true ∧ bs p ≠ [46] then _ else _) = _; rw [if_neg (by simp [bs_is h0])])
        clear hg hq
        go_enter Tryz.func135, Tryz.ntmps135
        go_wp2_with fail
        refine (Get_yes _ p hS hpm hG).mono ?_
        rintro e w1 ⟨rfl, B1⟩
        have hS1 := hS.below B1
        unfold fV
        go_wp2_with fail
        refine (Write_any _ p (str ft) false (hS1.alloc _) hF hp (by rw [str_len]; omega)).mono ?_
        rintro e w2 ⟨rfl, hS2, hK2⟩
        go_wp2
        go_ret
        rw [HE.out]
        exact ⟨rfl, hS2, ((Kept.of_below B1).alloc _).trans hK2⟩
      · have h0' : (p.toList == [46]) = false := by simpa using h0
        have HE : Hid (touchA s (bs p) = putA s ⟨bs p, ft, fc, true⟩) := Lib.hid (by
          unfold touchA; rw [hg]; show (if true = true ∧ bs p ≠ [46] then _ else _) = _; rw [if_pos ⟨rfl, bs_not h0'⟩])
        clear hg hq h0
        go_enter Tryz.func135, Tryz.ntmps135
        go_wp2_with fail
        refine (Get_yes _ p hS hpm hG).mono ?_
        rintro e w1 ⟨rfl, B1⟩
        have hS1 := hS.below B1
        unfold fV
        go_wp2_with fail
        refine (put_bytes _ p (str ft) fc true (hS1.alloc _) hF hpm).mono ?_
        rintro e w2 ⟨rfl, hS2, hK2⟩
        go_wp2
        go_ret
        rw [HE.out]
        exact ⟨rfl, hS2, ((Kept.of_below B1).alloc _).trans hK2⟩
    | false =>
      have HE : Hid (touchA s (bs p) = writeA s (bs p) ft false) := Lib.hid (by
        unfold touchA; rw [hg]; show (if false = true ∧ bs p ≠ [46] then _ else _) = _; rw [if_neg (by simp)])
      clear hg hq
      go_enter Tryz.func135, Tryz.ntmps135
      go_wp2_with fail
      refine (Get_yes _ p hS hpm hG).mono ?_
      rintro e w1 ⟨rfl, B1⟩
      have hS1 := hS.below B1
      unfold fV
      go_wp2_with fail
      refine (Write_any _ p (str ft) false (hS1.alloc _) hF hp (by rw [str_len]; omega)).mono ?_
      rintro e w2 ⟨rfl, hS2, hK2⟩
      go_wp2
      go_ret
      rw [HE.out]
      exact ⟨rfl, hS2, ((Kept.of_below B1).alloc _).trans hK2⟩
end Go.Proofs.YteommneijlelkaaGreatDoor.Sw
namespace Go.Proofs.YteommneijlelkaaGreatDoor.Sw
open Go.RowKit Go.Proofs.YteommneijlelkaaGreatDoor Go.Maps
set_option maxRecDepth 100000

def occA (L : List F) (p : List UInt8) : Bool := L.any fun f => dirL f.p == p

theorem keyS (key : Value) (kl : Lit) (h : keyOf Tryz.prog 9 key = some kl) : ∃ x : List UInt8, key = Value.string (str x) := by
  obtain ⟨x, hx, _⟩ := Maps.keyOf_str Tryz.underlying9 h
  exact ⟨x, hx⟩
theorem keyS_inv {x : List UInt8} {kl : Lit} (h : keyOf Tryz.prog 9 (Value.string (str x)) = some kl) : kl = .string x := by
  obtain ⟨y, hy, rfl, _⟩ := Maps.keyOf_str Tryz.underlying9 h
  have : Value.string (str x) = Value.string (str y) := hy
  have e := congrArg (fun v => match v with | Value.string s => bs s | _ => []) this
  simp only [bs_str] at e
  rw [e]

set_option maxHeartbeats 2000000 in
theorem occupied_any (w : World) {sb bm : Nat} {L : List F} {c : Int} (p : ByteArray) (b : Bool) (hS : StoreAt w sb bm L c) (hl : ∀ f ∈ L, f.p.length ≤ 1000000) (hb : Hid (occA L (bs p) = b)) :
    Calls Tryz.prog 176 #[.pointer (some ⟨sb, 0, none⟩), .string p] w fun e w' => e = .returned (.bool b) ∧ Below w.heap.size w w' := by
  have c1 := hS.c1
  have hlt := hS.lt
  have hM := hS.map
  have hs := hM.sorted
  go_enter Tryz.func176, Tryz.ntmps176
  go_wp2_with (at_range; refine wpList_range_own _ rfl _ 55 rfl 9 44 key Tryz.underlying55 _ bm _ _ rfl hM.own ?_; intro w0 hrg0 hg0 hs0)
  go_frame
  go_loopw [5] (fun _ wr => ∃ (left : Lit → Bool) (cnt : Nat) (xs : List F), wr.ranges Tryz.prog 9 fElem bm w.heap.size L.length (Sp.mapOf L) left cnt ∧ Came L left xs ∧ (∀ f ∈ xs, dirL f.p ≠ bs p) ∧ Below w.heap.size w wr)
    (fun _ wr => wr.rangeLeft bm w.heap.size)
  case atStart => exact ⟨_, _, [], hrg0, Came.start L, by simp, (Below.refl _ w).grown hg0 (Nat.le_refl _) (fun r e => by cases e)⟩
  case round =>
    obtain ⟨left, cnt, xs, hrg, hC, hX, hB⟩ := hrel
    go_wp2_with (at_next; refine wpList_next_ranges _ rfl _ rfl 9 key fElem (fun x : List UInt8 => Value.string (str x)) (fun f : F => Value.agg #[.string (str f.p), .string (str f.t), .int .i64 f.c, .bool f.d]) keyS elem_inv bm w.heap.size _ _ _ _ rfl hrg ?_ ?_)
    · intro hc0 hl0
      have hE : b = false := by
        rw [← hb.out]
        unfold occA
        rw [List.any_eq_false]
        intro f hf
        have := hX f ((hC.2 f).2 ⟨hf, hl0 _⟩)
        simpa using this
      subst hE
      go_wp2
      go_ret
      exact ⟨rfl, hB⟩
    · intro x f kl yd yp w2 cnt2 hkey hlk hv hat hrg2 hlt2 hg2 hs2 hen
      obtain rfl := keyS_inv hkey
      obtain rfl : yd = Sp.fD f := (Prod.mk.inj (elem_of hv)).1
      obtain ⟨hC2, hfL, hfp⟩ := hC.step hs hlk hat
      subst hfp
      have hpl := hl f hfL
      have hB2 := hB.grown hg2 hB.size (fun r e => by cases e; exact Nat.le_refl _)
      obtain ⟨d, hd⟩ : ∃ d : ByteArray, dirL f.p = bs d := ⟨str (dirL f.p), rfl⟩
      have HD : Hid (dirL (bs (str f.p)) = bs d) := Lib.hid (by rw [bs_str]; exact hd)
      have hps : (str f.p).size ≤ 1000000 := by rw [← bs_len, bs_str]; exact hpl
      have HC2 := Lib.hid hC2
      have HX := Lib.hid hX
      clear hs2 hC2 hX hkey hv hat
      by_cases he : (d.toList == p.toList) = true
      · have hE : b = true := by
          rw [← hb.out]
          unfold occA
          rw [List.any_eq_true]
          refine ⟨f, hfL, ?_⟩
          rw [hd]
          have : bs d = bs p := by rw [Lib.toList_data, Lib.toList_data] at he; exact eq_of_beq he
          simpa using this
        subst hE
        clear hd
        go_wp2_with (go_at_call 39; go_must (refine (dir_is _ _ d hps HD).mono ?_); rintro e w4 ⟨rfl, rfl⟩)
        go_ret
        exact ⟨rfl, hB2⟩
      · have he' : (d.toList == p.toList) = false := by simpa using he
        have HN : Hid (dirL f.p ≠ bs p) := Lib.hid (by rw [hd]; intro e; rw [Lib.toList_data, Lib.toList_data] at he; exact he (beq_iff_eq.2 e))
        clear hd he
        go_wp2_with (go_at_call 39; go_must (refine (dir_is _ _ d hps HD).mono ?_); rintro e w4 ⟨rfl, rfl⟩)
        go_roundw
        case rel => exact ⟨_, cnt2, xs ++ [f], hrg2, HC2.out, fun g hg => by rcases List.mem_append.1 hg with h | h; exact HX.out g h; (obtain rfl : g = f := by simpa using h); exact HN.out, hB2⟩
        case measure => rw [hrg2.left_eq, hrg.left_eq]; exact hlt2

/-! ### DeleteFunc -/
def keepB (left : Lit → Bool) (p : List UInt8) (f : F) : Bool := left (.string f.p) || !inL f.p p
def remA (L : List F) (p : List UInt8) : List F := L.filter fun f => !inL f.p p

theorem del_mapOf (M : List F) (x : List UInt8) : (Sp.mapOf M).del (.string x) = Sp.mapOf (M.filter fun g => !(g.p == x)) := by
  show DataW.map ((M.map Sp.ent).filter fun q => !q.1.sameKey (.string x)) = _
  rw [List.filter_map]; rfl

theorem sorted_filter {L : List F} (h : Sp.Sorted L) (q : F → Bool) : Sp.Sorted (L.filter q) := List.Pairwise.filter q h

theorem closureR_any (k p : ByteArray) (a b c d : Value) (w : World) (pb : Nat) (hc : w.cell? ⟨pb, 0, none⟩ = some (.string p)) (hpb : pb < w.heap.size) (r : Bool) (hr : Hid (inL (bs k) (bs p) = r)) :
    Calls Tryz.prog 178 #[.string k, .agg #[a, b, c, d], .pointer (some ⟨pb, 0, none⟩)] w fun e w' => e = .returned (.bool r) ∧ Below w.heap.size w w' := by
  have hin : ∀ W, Calls Tryz.prog 179 #[.string k, .string p] W fun e w' => e = .returned (.bool r) ∧ W = w' := fun W => by
    have := In_any W k p
    rwa [hr.out] at this
  go_enter Tryz.func178, Tryz.ntmps178
  go_wp2_with (go_at_call 179; go_must (refine (hin _).mono ?_); rintro e w' ⟨rfl, rfl⟩)
  go_ret
  exact ⟨rfl, (Below.refl _ w).alloc (Nat.le_refl _) _⟩

def DfRel (w : World) (bm : Nat) (L : List F) (p : List UInt8) (wr : World) : Prop :=
  ∃ (left : Lit → Bool) (cnt : Nat), wr.ranges Tryz.prog 9 fElem bm w.heap.size L.length (Sp.mapOf (L.filter (keepB left p))) left cnt ∧ Kept [bm] w wr

set_option maxHeartbeats 4000000 in
theorem DeleteFunc_any (w : World) {bm : Nat} {L : List F} (p : ByteArray) (pb : Nat) (hM : MapAt w bm L) (hc : w.cell? ⟨pb, 0, none⟩ = some (.string p)) (hne : pb ≠ bm) (hl : ∀ f ∈ L, f.p.length ≤ 1000000) :
    Calls Tryz.prog 177 #[.map (some bm), .func (.func 178) #[] #[.pointer (some ⟨pb, 0, none⟩)]] w fun e w' =>
      e = .returned (.tuple #[]) ∧ MapAt w' bm (remA L (bs p)) ∧ Kept [bm] w w' := by
  have hs := hM.sorted
  have hpb : pb < w.heap.size := by have := World.block_lt_of_cell? _ _ hc; simpa using this
  have hbm := hM.lt
  go_enter Tryz.func177, Tryz.ntmps177
  go_wp2_with (at_range; refine wpList_range_own _ rfl _ 55 rfl 9 44 key Tryz.underlying55 _ bm _ _ rfl hM.own ?_; intro w0 hrg0 hg0 hs0)
  go_frame
  go_loopw [4, 5] (fun _ _ wr => DfRel w bm L (bs p) wr) (fun _ _ wr => wr.rangeLeft bm w.heap.size)
  case atStart =>
    refine ⟨Maps.has (Sp.mapOf L), Maps.size (Sp.mapOf L), ?_, (Kept.refl _ w).grown hg0 (fun r e => by cases e)⟩
    have e : L.filter (keepB (Maps.has (Sp.mapOf L)) (bs p)) = L := List.filter_eq_self.2 fun f hf => by
      unfold keepB
      rw [Sp.has_mapOf, (Sp.get_some hs).2 ⟨hf, rfl⟩]; rfl
    rw [e]; exact hrg0
  case round =>
    obtain ⟨left, cnt, hrg, hK⟩ := hrel
    go_wp2_with (at_next; refine wpList_next_ranges _ rfl _ rfl 9 key fElem (fun x : List UInt8 => Value.string (str x)) (fun f : F => Value.agg #[.string (str f.p), .string (str f.t), .int .i64 f.c, .bool f.d]) keyS elem_inv bm w.heap.size _ _ _ _ rfl hrg ?_ ?_)
    · intro hc0 hl0
      go_wp2
      go_end0
      have e : L.filter (keepB left (bs p)) = remA L (bs p) := List.filter_congr fun f _ => by unfold keepB; rw [hl0]; rfl
      rw [e] at hrg
      exact ⟨rfl, MapAt.of_own hrg.owns (sorted_filter hs _), hK⟩
    · intro x f kl yd yp w2 cnt2 hkey hlk hv hat hrg2 hlt2 hg2 hs2 hen
      obtain rfl := keyS_inv hkey
      obtain rfl : yd = Sp.fD f := (Prod.mk.inj (elem_of hv)).1
      have hg1 : (Sp.get (L.filter (keepB left (bs p))) x).isSome = true := by rw [← Sp.has_mapOf]; exact has_true_of_atKey hat
      obtain ⟨g, hg⟩ := Option.isSome_iff_exists.1 hg1
      have efg : f = g := (Sp.fD_inj ((Sp.at_mapOf_some hg .nil).symm.trans (hat .nil))).symm
      subst efg
      obtain ⟨m1, m2⟩ := (Sp.get_some (sorted_filter hs _)).1 hg
      have hfL := (List.mem_filter.1 m1).1
      subst m2
      have hpl := hl f hfL
      have hkm : (str f.p).size ≤ maxLen := by rw [← bs_len, bs_str]; unfold maxLen; omega
      have hK2 := hK.grown hg2 (fun r e => by cases e; exact .inr (Nat.le_refl _))
      have hK3 := hK2.alloc (.cells #[.string (str f.p), .string (str f.t), .int .i64 f.c, .bool f.d] 44)
      have hrg3 := hrg2.alloc (.cells #[.string (str f.p), .string (str f.t), .int .i64 f.c, .bool f.d] 44)
      have hcc : ∀ W, Kept [bm] w W → W.cell? ⟨pb, 0, none⟩ = some (.string p) := fun W hW => (hW.cell (p := ⟨pb, 0, none⟩) hpb (by simpa using hne)).trans hc
      have hcon := fun r hr => closureR_any (str f.p) p (.string (str f.p)) (.string (str f.t)) (.int .i64 f.c) (.bool f.d) _ pb (hcc _ hK3) (Nat.lt_of_lt_of_le hpb hK3.size) r hr
      have HC := Lib.hid hcon
      clear hs2 hkey hv hat hcc hcon hg1 hg
      cases hin : inL f.p (bs p) with
      | true =>
        have hR : Hid (inL (bs (str f.p)) (bs p) = true) := Lib.hid (by rw [bs_str]; exact hin)
        have HL : Hid ((Sp.mapOf (L.filter (keepB left (bs p)))).del (.string f.p) = Sp.mapOf (L.filter (keepB (fun z => left z && !z.sameKey (.string f.p)) (bs p)))) := Lib.hid (by
          rw [del_mapOf, List.filter_filter]
          congr 1
          refine List.filter_congr fun g hgL => ?_
          show (!(g.p == f.p) && (left (.string g.p) || !inL g.p (bs p))) = ((left (.string g.p) && !(g.p == f.p)) || !inL g.p (bs p))
          by_cases e : g.p = f.p
          · rw [e, hin]; simp
          · rw [show (g.p == f.p) = false by simpa using e]; simp)
        clear hin
        go_wp2_with (first
          | (go_at_call 178; go_must (refine (HC.out true hR).mono ?_); rintro e w4 ⟨rfl, B4⟩; have hrg4 := hrg3.kept (row := none) ⟨B4.os, B4.tape, B4.output, B4.size, fun i hi _ => B4.block i hi⟩ (by simp) (by simp); have hK4 := hK3.below B4)
          | (at_delete; refine wpList_delete_ranges _ rfl _ _ 55 9 rfl 44 key Tryz.underlying55 fElem bm w.heap.size _ _ _ _ rfl hrg4 _ _ rfl (key_of hkm) ?_; intro w5 cnt5 hrg5 hle5 ht5; go_frame))
        go_roundw
        case rel =>
          rw [bs_str, Maps.strike_twice, HL.out] at hrg5
          exact ⟨_, cnt5, hrg5, hK4.grown ht5.grown (by simp)⟩
        case measure =>
          rw [hrg5.left_eq, hrg.left_eq]; omega
      | false =>
        have hR : Hid (inL (bs (str f.p)) (bs p) = false) := Lib.hid (by rw [bs_str]; exact hin)
        have HL : Hid (L.filter (keepB left (bs p)) = L.filter (keepB (fun z => left z && !z.sameKey (.string f.p)) (bs p))) := Lib.hid (by
          refine List.filter_congr fun g hgL => ?_
          show (left (.string g.p) || !inL g.p (bs p)) = ((left (.string g.p) && !(g.p == f.p)) || !inL g.p (bs p))
          by_cases e : g.p = f.p
          · rw [e, hin]; simp
          · rw [show (g.p == f.p) = false by simpa using e]; simp)
        clear hin
        go_wp2_with (go_at_call 178; go_must (refine (HC.out false hR).mono ?_); rintro e w4 ⟨rfl, B4⟩; have hrg4 := hrg3.kept (row := none) ⟨B4.os, B4.tape, B4.output, B4.size, fun i hi _ => B4.block i hi⟩ (by simp) (by simp); have hK4 := hK3.below B4)
        go_roundw
        case rel =>
          rw [HL.out] at hrg4
          exact ⟨_, cnt2, hrg4, hK4⟩
        case measure => rw [hrg4.left_eq, hrg.left_eq]; exact hlt2

/-! ### Remove -/
def removeA (s : St) (p : List UInt8) (all : Bool) : St × Int :=
  if p = [46] then (s, 1) else match Sp.get s.L p with
    | none => (s, 3)
    | some _ => if all = false ∧ occA s.L p = true then (s, 4) else (⟨remA s.L p, s.c⟩, 0)

theorem Remove_root (w : World) {sb bm : Nat} {s : St} (p : ByteArray) (all : Bool) (hS : StoreAt w sb bm s.L s.c) (h0 : (p.toList == [46]) = true) :
    Calls Tryz.prog 132 #[.pointer (some ⟨sb, 0, none⟩), .string p, .bool all] w (OpPost w sb bm (s, 1)) := by
  go_enter Tryz.func132, Tryz.ntmps132
  go_wp2
  go_ret
  exact ⟨rfl, hS.alloc _, (Kept.refl _ w).alloc _⟩

set_option maxHeartbeats 4000000 in
theorem Remove_gone (w : World) {sb bm : Nat} {s : St} (p : ByteArray) (all : Bool) (hS : StoreAt w sb bm s.L s.c) (hp : p.size ≤ 1000000) (h0 : (p.toList == [46]) = false) (hg : Sp.get s.L (bs p) = none) :
    Calls Tryz.prog 132 #[.pointer (some ⟨sb, 0, none⟩), .string p, .bool all] w (OpPost w sb bm (s, 3)) := by
  have hpm : p.size ≤ maxLen := by unfold maxLen; omega
  have hlt := hS.lt
  have c1 := hS.c1
  have hbx := (Boxed.new w 9 (.string p)).cell
  have hS1 := hS.alloc (.cells #[.string p] 9)
  have c1' := hS1.c1
  have hr0 := (hS1.map.block (w' := (w.alloc (.cells #[.string p] 9)).drew) rfl).run_no hpm hg
  have hr1 := fun o : Obj => ((hS1.map.alloc o).block (w' := ((w.alloc (.cells #[.string p] 9)).alloc o).drew) rfl).run_no hpm hg
  go_enter Tryz.func132, Tryz.ntmps132
  go_wp2
  go_region
  go_wp2
  go_ret
  exact ⟨rfl, ⟨(hS1.alloc _).cells, (hS1.alloc _).map.block rfl⟩, (((Kept.refl _ w).alloc _).alloc _).drewN 1⟩

set_option maxHeartbeats 4000000 in
theorem Remove_some (w : World) {sb bm : Nat} {s : St} (p : ByteArray) (all : Bool) (f : F) (hS : StoreAt w sb bm s.L s.c) (hF : Fine s) (hp : p.size ≤ 1000000) (h0 : (p.toList == [46]) = false) (hg : Sp.get s.L (bs p) = some f) (r : St × Int) (hr : Hid ((if all = false ∧ occA s.L (bs p) = true then (s, 4) else (⟨remA s.L (bs p), s.c⟩, 0)) = r)) :
    Calls Tryz.prog 132 #[.pointer (some ⟨sb, 0, none⟩), .string p, .bool all] w (OpPost w sb bm r) := by
  have hpm : p.size ≤ maxLen := by unfold maxLen; omega
  have hpl : ∀ f ∈ s.L, f.p.length ≤ 1000000 := fun f hf => by have := hF.path f hf; omega
  have hlt := hS.lt
  have hbl := hS.map.lt
  have c1 := hS.c1
  have hbx := (Boxed.new w 9 (.string p)).cell
  have hS1 := hS.alloc (.cells #[.string p] 9)
  have c1' := hS1.c1
  have hr0 := (hS1.map.block (w' := (w.alloc (.cells #[.string p] 9)).drew) rfl).run_yes hpm hg
  have hr1 := fun o : Obj => ((hS1.map.alloc o).block (w' := ((w.alloc (.cells #[.string p] 9)).alloc o).drew) rfl).run_yes hpm hg
  obtain ⟨fp, ft, fc, fd⟩ := f
  simp only at hr0 hr1
  have hS2 : StoreAt (((w.alloc (.cells #[.string p] 9)).alloc (.cells #[.string (str fp), .string (str ft), .int .i64 fc, .bool fd] 44)).drew) sb bm s.L s.c := ⟨(hS1.alloc _).cells, (hS1.alloc _).map.block rfl⟩
  have hK2 : Kept [sb, bm] w (((w.alloc (.cells #[.string p] 9)).alloc (.cells #[.string (str fp), .string (str ft), .int .i64 fc, .bool fd] 44)).drew) := (((Kept.refl _ w).alloc _).alloc _).drewN 1
  have hcb : (((w.alloc (.cells #[.string p] 9)).alloc (.cells #[.string (str fp), .string (str ft), .int .i64 fc, .bool fd] 44)).drew).cell? ⟨w.heap.size, 0, none⟩ = some (.string p) :=
    (((Below.refl (w.alloc (.cells #[.string p] 9)).heap.size _).alloc (Nat.le_refl _) _).drew.cell (p := ⟨w.heap.size, 0, none⟩) (by simp)).trans hbx
  have HS2 := Lib.hid hS2
  have HK2 := Lib.hid hK2
  have HCB := Lib.hid hcb
  clear hS2 hK2 hcb
  go_enter Tryz.func132, Tryz.ntmps132
  go_wp2
  go_region
  clear hr0 hr1 hS1 hbx c1' c1 hS
  generalize (((w.alloc (.cells #[.string p] 9)).alloc (.cells #[.string (str fp), .string (str ft), .int .i64 fc, .bool fd] 44)).drew) = W at *
  have hS2 := HS2.out
  have hcb := HCB.out
  have c1 := hS2.c1
  have hlt2 := hS2.lt
  have hwl : w.heap.size < W.heap.size := by have := World.block_lt_of_cell? _ _ hcb; simpa using this
  obtain ⟨b, hb⟩ : ∃ b, Hid (occA s.L (bs p) = b) := ⟨_, Lib.hid rfl⟩
  have hdf := DeleteFunc_any W p w.heap.size hS2.map hcb (by omega) hpl
  have HD := Lib.hid hdf
  clear hdf
  have fin : ∀ w' : World, MapAt w' bm (remA s.L (bs p)) → Kept [bm] W w' → StoreAt w' sb bm (remA s.L (bs p)) s.c ∧ Kept [sb, bm] w w' := fun w' h1 h2 =>
    ⟨⟨(h2.block sb hlt2 (by simpa using fun e => hS2.ne e.symm)).trans hS2.cells, h1⟩, HK2.out.trans (h2.mono (by simp))⟩
  have FIN := Lib.hid fin
  clear fin
  cases all with
  | true =>
    have er := hr.out
    rw [if_neg (by simp)] at er
    subst er
    go_wp2_with (go_at_call 177; go_must (refine HD.out.mono ?_); rintro e w5 ⟨rfl, h1, h2⟩)
    go_ret
    exact ⟨rfl, FIN.out _ h1 h2⟩
  | false =>
    cases b with
    | true =>
      have er := hr.out
      rw [hb.out, if_pos ⟨rfl, rfl⟩] at er
      subst er
      go_wp2_with (go_at_call 176; go_must (refine (occupied_any _ p true hS2 hpl hb).mono ?_); rintro e w4 ⟨rfl, B4⟩)
      go_ret
      exact ⟨rfl, hS2.below B4, HK2.out.below B4⟩
    | false =>
      have er := hr.out
      rw [hb.out, if_neg (by simp)] at er
      subst er
      have hdf2 := fun w4 (B4 : Below W.heap.size W w4) => DeleteFunc_any w4 p w.heap.size (hS2.below B4).map ((B4.cell (p := ⟨w.heap.size, 0, none⟩) hwl).trans hcb) (by omega) hpl
      have HD2 := Lib.hid hdf2
      clear hdf2
      go_wp2_with (first
        | (go_at_call 176; go_must (refine (occupied_any _ p false hS2 hpl hb).mono ?_); rintro e w4 ⟨rfl, B4⟩; have c14 := (hS2.below B4).c1; have hlt4 := (hS2.below B4).lt)
        | (go_at_call 177; go_must (refine (HD2.out _ B4).mono ?_); rintro e w5 ⟨rfl, h1, h2⟩))
      go_ret
      exact ⟨rfl, FIN.out _ h1 ((Kept.of_below B4).trans h2)⟩

theorem Remove_any (w : World) {sb bm : Nat} {s : St} (p : ByteArray) (all : Bool) (hS : StoreAt w sb bm s.L s.c) (hF : Fine s) (hp : p.size ≤ 1000000) :
    Calls Tryz.prog 132 #[.pointer (some ⟨sb, 0, none⟩), .string p, .bool all] w (OpPost w sb bm (removeA s (bs p) all)) := by
  unfold removeA
  by_cases h0 : (p.toList == [46]) = true
  · rw [if_pos (bs_is h0)]; exact Remove_root w p all hS h0
  · have h0' : (p.toList == [46]) = false := by simpa using h0
    rw [if_neg (bs_not h0')]
    cases hg : Sp.get s.L (bs p) with
    | none => exact Remove_gone w p all hS hp h0' hg
    | some f => exact Remove_some w p all f hS hF hp h0' hg _ (Lib.hid rfl)
end Go.Proofs.YteommneijlelkaaGreatDoor.Sw
namespace Go.Proofs.YteommneijlelkaaGreatDoor.Sw
open Go.RowKit Go.Proofs.YteommneijlelkaaGreatDoor Go.Maps
set_option maxRecDepth 100000

/-- A directory, in one that exists. -/
def mk1 (s : St) (p : List UInt8) (old : Bool) : St × Int :=
  match getR s.L p with
  | some f => if f.d = true ∧ old = true then (s, 0) else (s, 4)
  | none => if placeA s.L p ≠ 0 then (s, placeA s.L p) else putA s ⟨p, [], 0, true⟩

set_option maxHeartbeats 1000000 in
theorem mk1_any (w : World) {sb bm : Nat} {s : St} (p : ByteArray) (old : Bool) (hS : StoreAt w sb bm s.L s.c) (hF : Fine s) (hp : p.size ≤ 1000000) :
    Calls Tryz.prog 180 #[.pointer (some ⟨sb, 0, none⟩), .string p, .bool old] w (OpPost w sb bm (mk1 s (bs p) old)) := by
  have hpm : p.size ≤ maxLen := by unfold maxLen; omega
  cases hg : getR s.L (bs p) with
  | none =>
    have hG := Lib.hid hg
    obtain ⟨n, hn⟩ : ∃ n, Hid (placeA s.L (bs p) = n) := ⟨_, Lib.hid rfl⟩
    by_cases h0 : n = 0
    · subst h0
      have HE : Hid (mk1 s (bs p) old = putA s ⟨bs p, [], 0, true⟩) := Lib.hid (by
        unfold mk1; rw [hg]; show (if placeA s.L (bs p) ≠ 0 then _ else _) = _; rw [if_neg (by simp [hn.out])])
      clear hg
      go_enter Tryz.func180, Tryz.ntmps180
      go_wp2_with fail
      refine (Get_no _ p hS hpm hG).mono ?_
      rintro e w1 ⟨rfl, B1⟩
      have hS1 := (hS.below B1).alloc
      unfold fV
      go_wp2_with (go_at_call 169; go_must (refine (place_any _ p 0 (hS1 _) hp hn).mono ?_); rintro e w2 ⟨rfl, B2⟩)
      go_wp2_with fail
      refine (put_bytes _ p ⟨#[]⟩ 0 true ((hS1 _).below B2) hF hpm).mono ?_
      rintro e w3 ⟨rfl, hS3, hK3⟩
      go_wp2
      go_ret
      rw [HE.out]
      exact ⟨rfl, hS3, (((Kept.of_below B1).alloc _).below B2).trans hK3⟩
    · have HE : Hid (mk1 s (bs p) old = (s, n)) := Lib.hid (by
        unfold mk1; rw [hg]; show (if placeA s.L (bs p) ≠ 0 then _ else _) = _; rw [hn.out, if_pos h0])
      have h0' : (n == 0) = false := by simpa using h0
      clear hg
      go_enter Tryz.func180, Tryz.ntmps180
      go_wp2_with fail
      refine (Get_no _ p hS hpm hG).mono ?_
      rintro e w1 ⟨rfl, B1⟩
      have hS1 := (hS.below B1).alloc
      unfold fV
      go_wp2_with (go_at_call 169; go_must (refine (place_any _ p n (hS1 _) hp hn).mono ?_); rintro e w2 ⟨rfl, B2⟩)
      go_ret
      rw [HE.out]
      exact ⟨rfl, (hS1 _).below B2, ((Kept.of_below B1).alloc _).below B2⟩
  | some f =>
    have hG := Lib.hid hg
    have HE : Hid (mk1 s (bs p) old = if f.d = true ∧ old = true then (s, 0) else (s, 4)) := Lib.hid (by unfold mk1; rw [hg])
    clear hg
    obtain ⟨fp, ft, fc, fd⟩ := f
    cases fd <;> cases old
    all_goals
      go_enter Tryz.func180, Tryz.ntmps180
      go_wp2_with fail
      refine (Get_yes _ p hS hpm hG).mono ?_
      rintro e w1 ⟨rfl, B1⟩
      have hS1 := (hS.below B1).alloc
      unfold fV
      go_wp2
      go_ret
      rw [HE.out]
      exact ⟨rfl, hS1 _, (Kept.of_below B1).alloc _⟩

theorem place_room {L : List F} {p : List UInt8} (h : placeA L p = 0) : (Sp.get L p).isSome ∨ L.length < 4096 := by
  unfold placeA at h
  split at h
  · cases h
  · split at h
    · cases h
    · split at h
      · cases h
      · split at h
        · cases h
        · split at h
          · cases h
          · rename_i h5
            cases hq : Sp.get L p with
            | some f => exact .inl rfl
            | none => exact .inr (by rw [hq] at h5; simp at h5; omega)

theorem Fine.mk1 {s : St} (h : Fine s) {p : List UInt8} (hp : p.length ≤ 100000) (old : Bool) : Fine (mk1 s p old).1 := by
  unfold Sw.mk1
  split
  · split <;> exact h
  · split
    · exact h
    · rename_i h0
      exact h.put (by simp) hp (place_room (by simpa using h0))

/-- The directories that a path is in, from the top down. -/
def heads : List UInt8 → List UInt8 → List (List UInt8)
  | _, [] => []
  | pre, c :: r => if c = 47 then pre :: heads (pre ++ [c]) r else heads (pre ++ [c]) r
def mkAll (s : St) : List (List UInt8) → St × Int
  | [] => (s, 0)
  | q :: r => if (mk1 s q true).2 ≠ 0 then mk1 s q true else mkAll (mk1 s q true).1 r
theorem mkAll_cons (s : St) (q : List UInt8) (r : List (List UInt8)) : mkAll s (q :: r) = if (mk1 s q true).2 ≠ 0 then mk1 s q true else mkAll (mk1 s q true).1 r := rfl
def mkdirA (s : St) (p : List UInt8) (all : Bool) : St × Int :=
  if isPath p = false then (s, 1) else if all = false then mk1 s p false else
  if (mkAll s (heads [] p)).2 ≠ 0 then mkAll s (heads [] p) else mk1 (mkAll s (heads [] p)).1 p true

theorem heads_at {p : ByteArray} {k : Nat} (h : k < p.size) : heads ((bs p).take k) ((bs p).drop k) = if p[k] = 47 then (bs p).take k :: heads ((bs p).take (k + 1)) ((bs p).drop (k + 1)) else heads ((bs p).take (k + 1)) ((bs p).drop (k + 1)) := by
  have h1 : k < (bs p).length := by rw [bs_len]; exact h
  have h2 : (bs p).drop k = p[k] :: (bs p).drop (k + 1) := by rw [List.drop_eq_getElem_cons h1]; rfl
  have h3 : (bs p).take (k + 1) = (bs p).take k ++ [p[k]] := by rw [List.take_succ_eq_append_getElem h1]; rfl
  rw [h2, h3]; rfl

theorem eq_t {a b : UInt8} (h : a = b) : (((a.toNat : Nat) : Int) == ((b.toNat : Nat) : Int)) = true := by rw [h]; exact beq_self_eq_true _
theorem eq_f {a b : UInt8} (h : ¬ a = b) : (((a.toNat : Nat) : Int) == ((b.toNat : Nat) : Int)) = false := by
  rw [beq_eq_false_iff_ne]; intro e; exact h (UInt8.toNat_inj.1 (by omega))
theorem bs_take (p : ByteArray) (k : Nat) : bs (p.extract 0 k) = (bs p).take k := (Lib.extract_from_zero p k)

def MkRel (w : World) (sb bm : Nat) (s : St) (p : ByteArray) (i : Value) (wr : World) : Prop :=
  ∃ (k : Nat) (t : St), i = .int .i64 k ∧ k ≤ p.size ∧ StoreAt wr sb bm t.L t.c ∧ Fine t ∧ Kept [sb, bm] w wr ∧ mkAll s (heads [] (bs p)) = mkAll t (heads ((bs p).take k) ((bs p).drop k))

set_option maxHeartbeats 1000000 in
theorem Mkdir_all (w : World) {sb bm : Nat} {s : St} (p : ByteArray) (hS : StoreAt w sb bm s.L s.c) (hF : Fine s) (hp : p.size ≤ 100000) (hc : Hid (isPath (bs p) = true)) :
    Calls Tryz.prog 134 #[.pointer (some ⟨sb, 0, none⟩), .string p, .bool true] w (OpPost w sb bm (mkdirA s (bs p) true)) := by
  go_enter Tryz.func134, Tryz.ntmps134
  go_wp2_with (go_at_call 32; go_must (refine (clean_is _ p true (by omega) hc).mono ?_); rintro e w1 ⟨rfl, B1⟩)
  go_loopw [18] (fun i wr => MkRel w sb bm s p i wr) (fun i _ => p.size - (intOf i).toNat)
  case atStart => exact ⟨0, s, rfl, Nat.zero_le _, hS.below B1, hF, .of_below B1, rfl⟩
  case round =>
    obtain ⟨k, t, rfl, hk, hT, hFt, hK, hrun⟩ := hrel
    by_cases hlt : k < p.size
    · rw [heads_at hlt] at hrun
      by_cases h47 : p[k] = 47
      · have hb : ((p[k].toNat : Int) == 47) = true := eq_t (b := 47) h47
        rw [if_pos h47] at hrun
        clear h47
        obtain ⟨q, hq⟩ : ∃ q, q = p.extract 0 k := ⟨_, rfl⟩
        have hqb : bs q = (bs p).take k := by rw [hq, bs_take]
        have hqs : q.size ≤ 100000 := by have := congrArg List.length hqb; rw [bs_len, List.length_take, bs_len] at this; omega
        have hcon := mk1_any wr q true hT hFt (by omega)
        have hFn := hFt.mk1 (p := bs q) (by rw [bs_len]; exact hqs) true
        rw [← hqb] at hrun
        obtain ⟨⟨t', n⟩, hr⟩ : ∃ r, mk1 t (bs q) true = r := ⟨_, rfl⟩
        rw [mkAll_cons] at hrun
        rw [hr] at hcon hFn hrun
        rw [hq] at hcon
        have HC := Lib.hid hcon
        have HR := Lib.hid hrun
        clear hcon hrun hr hqb hq hqs q
        by_cases hn : n = 0
        · subst hn
          go_wp2_with (go_at_call 180; go_must (refine HC.out.mono ?_); rintro e w2 ⟨rfl, hS2, hK2⟩)
          go_roundw
          case rel => exact ⟨k + 1, t', by go_num, by omega, hS2, hFn, hK.trans hK2, HR.out.trans (if_neg (by simp))⟩
          case measure => simp [intOf]; omega
        · have hn' : (n == 0) = false := by simpa using hn
          have HE : Hid (mkdirA s (bs p) true = (t', n)) := Lib.hid (by
            have h1 : mkAll s (heads [] (bs p)) = (t', n) := by rw [HR.out]; exact if_pos hn
            unfold mkdirA; rw [if_neg (by simp [hc.out]), if_neg (by simp), h1, if_pos hn])
          clear hn
          go_wp2_with (go_at_call 180; go_must (refine HC.out.mono ?_); rintro e w2 ⟨rfl, hS2, hK2⟩)
          go_ret
          rw [HE.out]
          exact ⟨rfl, hS2, hK.trans hK2⟩
      · have hb : ((p[k].toNat : Int) == 47) = false := eq_f (b := 47) h47
        rw [if_neg h47] at hrun
        have HR := Lib.hid hrun
        clear h47 hrun
        go_wp2
        go_roundw
        case rel => exact ⟨k + 1, t, by go_num, by omega, hT, hFt, hK, HR.out⟩
        case measure => simp [intOf]; omega
    · obtain rfl : k = p.size := by omega
      have h1 : mkAll s (heads [] (bs p)) = (t, 0) := by
        rw [hrun, List.drop_of_length_le (by rw [bs_len]; exact Nat.le_refl _)]; rfl
      have HE : Hid (mkdirA s (bs p) true = mk1 t (bs p) true) := Lib.hid (by
        unfold mkdirA; rw [if_neg (by simp [hc.out]), if_neg (by simp), h1, if_neg (by simp)])
      clear hrun h1
      have HC := Lib.hid (mk1_any wr p true hT hFt (by omega))
      go_wp2_with (go_at_call 180; go_must (refine HC.out.mono ?_); rintro e w2 ⟨rfl, hS2, hK2⟩)
      go_ret
      rw [HE.out]
      exact ⟨rfl, hS2, hK.trans hK2⟩

set_option maxHeartbeats 1000000 in
theorem Mkdir_one (w : World) {sb bm : Nat} {s : St} (p : ByteArray) (hS : StoreAt w sb bm s.L s.c) (hF : Fine s) (hp : p.size ≤ 100000) (hc : Hid (isPath (bs p) = true)) :
    Calls Tryz.prog 134 #[.pointer (some ⟨sb, 0, none⟩), .string p, .bool false] w (OpPost w sb bm (mkdirA s (bs p) false)) := by
  have HE : Hid (mkdirA s (bs p) false = mk1 s (bs p) false) := Lib.hid (by unfold mkdirA; rw [if_neg (by simp [hc.out]), if_pos rfl])
  go_enter Tryz.func134, Tryz.ntmps134
  go_wp2_with (go_at_call 32; go_must (refine (clean_is _ p true (by omega) hc).mono ?_); rintro e w1 ⟨rfl, B1⟩)
  go_loop [18] (fun i => ∃ k : Nat, i = .int .i64 k ∧ k ≤ p.size) (fun i => p.size - (intOf i).toNat)
  case atStart => exact ⟨0, rfl, Nat.zero_le _⟩
  case round =>
    obtain ⟨k, rfl, hk⟩ := hrel
    by_cases hlt : k < p.size
    · go_wp2
      go_round
      case rel => exact ⟨k + 1, by go_num, by omega⟩
      case measure => simp [intOf]; omega
    · obtain rfl : k = p.size := by omega
      have HC := Lib.hid (mk1_any w1 p false (hS.below B1) hF (by omega))
      go_wp2_with (go_at_call 180; go_must (refine HC.out.mono ?_); rintro e w2 ⟨rfl, hS2, hK2⟩)
      go_ret
      rw [HE.out]
      exact ⟨rfl, hS2, (Kept.of_below B1).trans hK2⟩

theorem Mkdir_any (w : World) {sb bm : Nat} {s : St} (p : ByteArray) (all : Bool) (hS : StoreAt w sb bm s.L s.c) (hF : Fine s) (hp : p.size ≤ 100000) :
    Calls Tryz.prog 134 #[.pointer (some ⟨sb, 0, none⟩), .string p, .bool all] w (OpPost w sb bm (mkdirA s (bs p) all)) := by
  cases hc : isPath (bs p) with
  | true =>
    cases all with
    | true => exact Mkdir_all w p hS hF hp (Lib.hid hc)
    | false => exact Mkdir_one w p hS hF hp (Lib.hid hc)
  | false =>
    have hC := Lib.hid hc
    have HE : Hid (mkdirA s (bs p) all = (s, 1)) := Lib.hid (by unfold mkdirA; rw [if_pos hc])
    clear hc
    go_enter Tryz.func134, Tryz.ntmps134
    go_wp2_with (go_at_call 32; go_must (refine (clean_is _ p false (by omega) hC).mono ?_); rintro e w1 ⟨rfl, B1⟩)
    go_ret
    rw [HE.out]
    exact ⟨rfl, hS.below B1, .of_below B1⟩
end Go.Proofs.YteommneijlelkaaGreatDoor.Sw
namespace Go.Proofs.YteommneijlelkaaGreatDoor.Sw
open Go.RowKit Go.Proofs.YteommneijlelkaaGreatDoor Go.Maps
set_option maxRecDepth 100000

theorem Fine.write {s : St} (h : Fine s) {p t : List UInt8} (hp : p.length ≤ 100000) (more : Bool) : Fine (writeA s p t more).1 := by
  by_cases h0 : placeA s.L p = 0
  · rw [writeA_ok h0]
    have hm : ∀ (d : Bool) (old : List UInt8), Fine (if d = true then (s, (4 : Int)) else if 1048576 < old.length + t.length then (s, 12) else putA s ⟨p, old ++ t, 0, false⟩).1 := fun d old => by
      split
      · exact h
      · split
        · exact h
        · rename_i h2
          exact h.put (f := ⟨p, old ++ t, 0, false⟩) (by show (old ++ t).length ≤ _; rw [List.length_append]; omega) hp (place_room h0)
    exact hm _ _
  · rw [writeA_bad h0]; exact h

theorem Fine.touch {s : St} (h : Fine s) {p : List UInt8} (hp : p.length ≤ 100000) : Fine (touchA s p).1 := by
  unfold touchA
  split
  · exact h.write hp false
  · rename_i f hf
    split
    · rename_i h2
      have hg : Sp.get s.L p = some f := by rw [← getR_ne h2.2]; exact hf
      obtain ⟨m1, m2⟩ := (Sp.get_some h.sorted).1 hg
      exact h.put (h.text f m1) (h.path f m1) (.inl (by rw [m2, hg]; rfl))
    · exact h.write hp false

theorem Fine.mkAll : ∀ (l : List (List UInt8)) {s : St}, Fine s → (∀ q ∈ l, q.length ≤ 100000) → Fine (mkAll s l).1
  | [], _, h, _ => h
  | q :: r, s, h, hl => by
    rw [mkAll_cons]
    have h1 := h.mk1 (hl q (by simp)) true
    split
    · exact h1
    · exact Fine.mkAll r h1 fun x hx => hl x (by simp [hx])
theorem heads_len : ∀ (r pre : List UInt8), ∀ q ∈ heads pre r, q.length ≤ pre.length + r.length
  | [], pre, q, h => by simp [heads] at h
  | c :: r, pre, q, h => by
    unfold heads at h
    have ih := heads_len r (pre ++ [c])
    split at h
    · rcases List.mem_cons.1 h with rfl | h
      · simp
      · have := ih q h; simp at this ⊢; omega
    · have := ih q h; simp at this ⊢; omega
theorem Fine.mkdir {s : St} (h : Fine s) {p : List UInt8} (hp : p.length ≤ 100000) (all : Bool) : Fine (mkdirA s p all).1 := by
  have h1 := Fine.mkAll (heads [] p) h fun q hq => by have := heads_len p [] q hq; simp at this; omega
  unfold mkdirA
  split
  · exact h
  · split
    · exact h.mk1 hp false
    · split
      · exact h1
      · exact h1.mk1 hp true

theorem Fine.remove {s : St} (h : Fine s) (p : List UInt8) (all : Bool) : Fine (removeA s p all).1 := by
  unfold removeA
  split
  · exact h
  · split
    · exact h
    · split
      · exact h
      · refine ⟨sorted_filter h.sorted _, h.c0, h.c1, Nat.le_trans (List.length_filter_le _ _) h.len, fun f hf => h.text f (List.mem_filter.1 hf).1, fun f hf => h.path f (List.mem_filter.1 hf).1⟩

def moveA (s : St) (a b : List UInt8) : St × Int :=
  if (readA (getR s.L a)).2 ≠ 0 then (s, (readA (getR s.L a)).2) else if a = b then (s, 1) else
  if (writeA s b (readA (getR s.L a)).1 false).2 ≠ 0 then writeA s b (readA (getR s.L a)).1 false else removeA (writeA s b (readA (getR s.L a)).1 false).1 a false
theorem Fine.move {s : St} (h : Fine s) {a b : List UInt8} (hb : b.length ≤ 100000) : Fine (moveA s a b).1 := by
  have h1 := h.write (t := (readA (getR s.L a)).1) hb false
  unfold moveA
  split
  · exact h
  · split
    · exact h
    · split
      · exact h1
      · exact h1.remove a false

theorem read_len {s : St} (h : Fine s) (p : List UInt8) : (readA (getR s.L p)).1.length ≤ 1048576 := by
  cases hg : getR s.L p with
  | none => simp [readA]
  | some f =>
    have := getR_text h hg
    unfold readA
    simp only
    split
    · simp
    · exact this

set_option maxHeartbeats 2000000 in
theorem Move_any (w : World) {sb bm : Nat} {s : St} (p q : ByteArray) (hS : StoreAt w sb bm s.L s.c) (hF : Fine s) (hp : p.size ≤ 100000) (hq : q.size ≤ 100000) :
    Calls Tryz.prog 127 #[.pointer (some ⟨sb, 0, none⟩), .string p, .string q] w (OpPost w sb bm (moveA s (bs p) (bs q))) := by
  have hpm : p.size ≤ maxLen := by unfold maxLen; omega
  have hR := Read_any w p _ hS hpm (Lib.hid rfl)
  have hrl := read_len hF (bs p)
  obtain ⟨⟨t, n⟩, hr⟩ : ∃ r, readA (getR s.L (bs p)) = r := ⟨_, rfl⟩
  rw [hr] at hR hrl
  simp only at hrl
  have hmv : moveA s (bs p) (bs q) = if n ≠ 0 then (s, n) else if bs p = bs q then (s, 1) else
    if (writeA s (bs q) t false).2 ≠ 0 then writeA s (bs q) t false else removeA (writeA s (bs q) t false).1 (bs p) false := by unfold moveA; rw [hr]
  have HR := Lib.hid hR
  clear hR hr
  by_cases h0 : n = 0
  · subst h0
    rw [if_neg (by simp)] at hmv
    by_cases hpq : (p.toList == q.toList) = true
    · rw [if_pos (by rw [Lib.toList_data, Lib.toList_data] at hpq; exact eq_of_beq hpq)] at hmv
      have HE := Lib.hid hmv
      clear hmv
      go_enter Tryz.func127, Tryz.ntmps127
      go_wp2_with (go_at_call 121; go_must (refine HR.out.mono ?_); rintro e w1 ⟨rfl, B1⟩)
      go_ret
      rw [HE.out]
      exact ⟨rfl, hS.below B1, .of_below B1⟩
    · have hpq' : (p.toList == q.toList) = false := by simpa using hpq
      rw [if_neg (by intro e; rw [Lib.toList_data, Lib.toList_data] at hpq; exact hpq (beq_iff_eq.2 e))] at hmv
      have hW := fun w1 (B1 : Below w.heap.size w w1) => Write_any w1 q (str t) false (hS.below B1) hF (by omega) (by rw [str_len]; omega)
      rw [bs_str] at hW
      have hF2 := hF.write (p := bs q) (t := t) (by rw [bs_len]; exact hq) false
      obtain ⟨⟨u, m⟩, hu⟩ : ∃ r, writeA s (bs q) t false = r := ⟨_, rfl⟩
      rw [hu] at hW hmv hF2
      simp only at hmv hF2
      have HW := Lib.hid hW
      clear hW hu hpq
      by_cases hm : m = 0
      · subst hm
        rw [if_neg (by simp)] at hmv
        have HE := Lib.hid hmv
        clear hmv
        go_enter Tryz.func127, Tryz.ntmps127
        go_wp2_with (go_at_call 121; go_must (refine HR.out.mono ?_); rintro e w1 ⟨rfl, B1⟩)
        go_wp2_with (go_at_call 125; go_must (refine (HW.out _ B1).mono ?_); rintro e w2 ⟨rfl, hS2, hK2⟩)
        have HM := Lib.hid (Remove_any w2 p false hS2 hF2 (by omega))
        go_wp2_with (go_at_call 132; go_must (refine HM.out.mono ?_); rintro e w3 ⟨rfl, hS3, hK3⟩)
        go_ret
        rw [HE.out]
        exact ⟨rfl, hS3, ((Kept.of_below B1).trans hK2).trans hK3⟩
      · rw [if_pos hm] at hmv
        have hm' : (m == 0) = false := by simpa using hm
        have HE := Lib.hid hmv
        clear hmv
        go_enter Tryz.func127, Tryz.ntmps127
        go_wp2_with (go_at_call 121; go_must (refine HR.out.mono ?_); rintro e w1 ⟨rfl, B1⟩)
        go_wp2_with (go_at_call 125; go_must (refine (HW.out _ B1).mono ?_); rintro e w2 ⟨rfl, hS2, hK2⟩)
        go_ret
        rw [HE.out]
        exact ⟨rfl, hS2, (Kept.of_below B1).trans hK2⟩
  · rw [if_pos h0] at hmv
    have h0' : (n == 0) = false := by simpa using h0
    have HE := Lib.hid hmv
    clear hmv
    go_enter Tryz.func127, Tryz.ntmps127
    go_wp2_with (go_at_call 121; go_must (refine HR.out.mono ?_); rintro e w1 ⟨rfl, B1⟩)
    go_ret
    rw [HE.out]
    exact ⟨rfl, hS.below B1, .of_below B1⟩
end Go.Proofs.YteommneijlelkaaGreatDoor.Sw
namespace Go.Proofs.YteommneijlelkaaGreatDoor.Sw
open Go.RowKit Go.Proofs.YteommneijlelkaaGreatDoor Go.Maps
set_option maxRecDepth 100000

theorem frozen_two {w : World} {b : Nat} {x y : Value} {T : TypeId} (h : w.heap[b]? = some (.cells #[x, y] T (0, 0))) : w.frozen? ⟨b, 0, none⟩ = false := by simp [World.frozen?, h]
theorem set_two {w : World} {b : Nat} {x y : Value} {T : TypeId} (h : w.heap[b]? = some (.cells #[x, y] T (0, 0))) (v : Value) : (w.setCell ⟨b, 0, none⟩ v).heap[b]? = some (.cells #[v, y] T (0, 0)) := by
  simp [World.setCell, Array.getElem?_modify, h]

/-- What is wrong with a file by itself. -/
def badA (f : F) : Int :=
  if isPath f.p = false then 1 else if f.p = [46] then 1 else if f.d = true ∧ f.t ≠ [] then 1 else
  if f.c < 0 then 5 else if 4611686018427387904 ≤ f.c then 5 else if 1048576 < f.t.length then 12 else 0
def addA (s : St) (f : F) : St × Int :=
  if badA f ≠ 0 then (s, badA f) else if (Sp.get s.L f.p).isSome then (s, 1) else (⟨Sp.ins s.L f, max s.c f.c⟩, 0)

theorem text_empty {t : List UInt8} (h : ((str t).toList.isEmpty) = true) : t = [] := by have := bs_empty h; rwa [bs_str] at this
theorem file_later {w w1 : World} {p t : List UInt8} {c : Int} {d : Bool} (hB : Below (w.alloc (.cells #[.string (str p), .string (str t), .int .i64 c, .bool d] 44)).heap.size (w.alloc (.cells #[.string (str p), .string (str t), .int .i64 c, .bool d] 44)) w1) :
    w1.cell? ⟨w.heap.size, 0, none⟩ = some (.string (str p)) ∧ w1.cell? ⟨w.heap.size, 1, none⟩ = some (.string (str t)) ∧ w1.cell? ⟨w.heap.size, 2, none⟩ = some (.int .i64 c) ∧ w1.cell? ⟨w.heap.size, 3, none⟩ = some (.bool d) := by
  obtain ⟨d0, d1, d2, d3⟩ := file_new w p t c d
  have e := fun i => hB.cell (p := ⟨w.heap.size, i, none⟩) (by simp)
  exact ⟨(e 0).trans d0, (e 1).trans d1, (e 2).trans d2, (e 3).trans d3⟩

set_option maxHeartbeats 2000000 in
theorem add_bad (w : World) (f : F) (n : Int) (hp : f.p.length ≤ 1000000) (ht : f.t.length ≤ 1000000000) (hn : Hid (badA f = n)) (h0 : n ≠ 0) (sb : Nat) :
    Calls Tryz.prog 14 #[.pointer (some ⟨sb, 0, none⟩), .agg #[.string (str f.p), .string (str f.t), .int .i64 f.c, .bool f.d]] w (IntPost w n) := by
  have hps : (str f.p).size ≤ 1000000 := by rw [← bs_len, bs_str]; exact hp
  cases hc : isPath f.p with
  | false =>
    have hC : Hid (isPath (bs (str f.p)) = false) := Lib.hid (by rw [bs_str]; exact hc)
    have en : n = 1 := by rw [← hn.out, badA, if_pos hc]
    subst en
    clear hc hn
    go_enter Tryz.func14, Tryz.ntmps14
    go_wp2_with (go_at_call 32; go_must (refine (clean_is _ _ false hps hC).mono ?_); rintro e w1 ⟨rfl, B1⟩)
    go_ret
    exact ⟨rfl, ((Below.refl _ w).alloc (Nat.le_refl _) _).trans (B1.mono (by simp))⟩
  | true =>
    have hC : Hid (isPath (bs (str f.p)) = true) := Lib.hid (by rw [bs_str]; exact hc)
    have e1 : badA f = if f.p = [46] then 1 else if f.d = true ∧ f.t ≠ [] then 1 else
      if f.c < 0 then 5 else if 4611686018427387904 ≤ f.c then 5 else if 1048576 < f.t.length then 12 else 0 := by rw [badA, if_neg (by simp [hc])]
    rw [hn.out] at e1
    clear hc hn
    obtain ⟨fp, ft, fc, fd⟩ := f
    simp only at e1 hC hps hp ht
    have hts : (str ft).size = ft.length := by rw [← bs_len, bs_str]
    by_cases h46 : ((str fp).toList == [46]) = true
    · have en : n = 1 := by rw [e1, if_pos (by have := bs_is h46; rwa [bs_str] at this)]
      subst en
      clear e1
      go_enter Tryz.func14, Tryz.ntmps14
      go_wp2_with (go_at_call 32; go_must (refine (clean_is _ _ true hps hC).mono ?_); rintro e w1 ⟨rfl, B1⟩; obtain ⟨d0, d1, d2, d3⟩ := file_later B1)
      go_ret
      exact ⟨rfl, ((Below.refl _ w).alloc (Nat.le_refl _) _).trans (B1.mono (by simp))⟩
    · have h46' : ((str fp).toList == [46]) = false := by simpa using h46
      rw [if_neg (by have := bs_not h46'; rwa [bs_str] at this)] at e1
      clear h46
      by_cases hdt : fd = true ∧ ft ≠ []
      · rw [if_pos hdt] at e1
        obtain ⟨rfl, hne⟩ := hdt
        subst e1
        have hE : (str ft).toList.isEmpty = false := by rw [Lib.toList_data]; cases ft with
          | nil => exact absurd rfl hne
          | cons a r => rfl
        have hE2 : ((str ft).toList == []) = false := by rw [Lib.toList_data, beq_eq_false_iff_ne]; exact hne
        clear hne hts
        go_enter Tryz.func14, Tryz.ntmps14
        go_wp2_with (go_at_call 32; go_must (refine (clean_is _ _ true hps hC).mono ?_); rintro e w1 ⟨rfl, B1⟩; obtain ⟨d0, d1, d2, d3⟩ := file_later B1)
        go_ret
        exact ⟨rfl, ((Below.refl _ w).alloc (Nat.le_refl _) _).trans (B1.mono (by simp))⟩
      · rw [if_neg hdt] at e1
        have hE : fd = true → (str ft).toList.isEmpty = true := fun h => by
          rw [Lib.toList_data]; cases ft with
          | nil => rfl
          | cons a r => exact absurd ⟨h, by simp⟩ hdt
        by_cases hc0 : fc < 0
        · rw [if_pos hc0] at e1
          subst e1
          cases fd with
          | true =>
            have hE := hE rfl
            clear hdt hts
            go_enter Tryz.func14, Tryz.ntmps14
            go_wp2_with (go_at_call 32; go_must (refine (clean_is _ _ true hps hC).mono ?_); rintro e w1 ⟨rfl, B1⟩; obtain ⟨d0, d1, d2, d3⟩ := file_later B1)
            go_ret
            exact ⟨rfl, ((Below.refl _ w).alloc (Nat.le_refl _) _).trans (B1.mono (by simp))⟩
          | false =>
            clear hdt hE hts
            go_enter Tryz.func14, Tryz.ntmps14
            go_wp2_with (go_at_call 32; go_must (refine (clean_is _ _ true hps hC).mono ?_); rintro e w1 ⟨rfl, B1⟩; obtain ⟨d0, d1, d2, d3⟩ := file_later B1)
            go_ret
            exact ⟨rfl, ((Below.refl _ w).alloc (Nat.le_refl _) _).trans (B1.mono (by simp))⟩
        · rw [if_neg hc0] at e1
          by_cases hc1 : 4611686018427387904 ≤ fc
          · rw [if_pos hc1] at e1
            subst e1
            cases fd with
            | true =>
              have hE := hE rfl
              clear hdt hts
              go_enter Tryz.func14, Tryz.ntmps14
              go_wp2_with (go_at_call 32; go_must (refine (clean_is _ _ true hps hC).mono ?_); rintro e w1 ⟨rfl, B1⟩; obtain ⟨d0, d1, d2, d3⟩ := file_later B1)
              go_ret
              exact ⟨rfl, ((Below.refl _ w).alloc (Nat.le_refl _) _).trans (B1.mono (by simp))⟩
            | false =>
              clear hdt hE hts
              go_enter Tryz.func14, Tryz.ntmps14
              go_wp2_with (go_at_call 32; go_must (refine (clean_is _ _ true hps hC).mono ?_); rintro e w1 ⟨rfl, B1⟩; obtain ⟨d0, d1, d2, d3⟩ := file_later B1)
              go_ret
              exact ⟨rfl, ((Below.refl _ w).alloc (Nat.le_refl _) _).trans (B1.mono (by simp))⟩
          · rw [if_neg hc1] at e1
            by_cases hl : 1048576 < ft.length
            · rw [if_pos hl] at e1
              subst e1
              have hl2 : (1048576 : Int) < (str ft).size := by omega
              cases fd with
              | true =>
                have hE := hE rfl
                exact absurd (text_empty hE) (fun e => by rw [e] at hl; simp at hl)
              | false =>
                clear hdt hE hts
                go_enter Tryz.func14, Tryz.ntmps14
                go_wp2_with (go_at_call 32; go_must (refine (clean_is _ _ true hps hC).mono ?_); rintro e w1 ⟨rfl, B1⟩; obtain ⟨d0, d1, d2, d3⟩ := file_later B1)
                go_ret
                exact ⟨rfl, ((Below.refl _ w).alloc (Nat.le_refl _) _).trans (B1.mono (by simp))⟩
            · rw [if_neg hl] at e1
              exact absurd e1 h0

theorem badA_ok {f : F} (h : badA f = 0) : isPath f.p = true ∧ f.p ≠ [46] ∧ (f.d = true → f.t = []) ∧ 0 ≤ f.c ∧ f.c < 4611686018427387904 ∧ f.t.length ≤ 1048576 := by
  unfold badA at h
  by_cases h1 : isPath f.p = false
  · rw [if_pos h1] at h; cases h
  rw [if_neg h1] at h
  by_cases h2 : f.p = [46]
  · rw [if_pos h2] at h; cases h
  rw [if_neg h2] at h
  by_cases h3 : f.d = true ∧ f.t ≠ []
  · rw [if_pos h3] at h; cases h
  rw [if_neg h3] at h
  by_cases h4 : f.c < 0
  · rw [if_pos h4] at h; cases h
  rw [if_neg h4] at h
  by_cases h5 : 4611686018427387904 ≤ f.c
  · rw [if_pos h5] at h; cases h
  rw [if_neg h5] at h
  by_cases h6 : 1048576 < f.t.length
  · rw [if_pos h6] at h; cases h
  refine ⟨by simpa using h1, h2, fun hd => ?_, by omega, by omega, by omega⟩
  by_cases ht : f.t = []
  · exact ht
  · exact absurd ⟨hd, ht⟩ h3

set_option maxHeartbeats 4000000 in
theorem add_twice (w : World) {sb bm : Nat} {s : St} (f g : F) (hS : StoreAt w sb bm s.L s.c) (hp : f.p.length ≤ 1000000) (hb : badA f = 0) (hg : Hid (Sp.get s.L f.p = some g)) :
    Calls Tryz.prog 14 #[.pointer (some ⟨sb, 0, none⟩), .agg #[.string (str f.p), .string (str f.t), .int .i64 f.c, .bool f.d]] w (IntPost w 1) := by
  have hps : (str f.p).size ≤ 1000000 := by rw [← bs_len, bs_str]; exact hp
  have hpm : (str f.p).size ≤ maxLen := by unfold maxLen; omega
  obtain ⟨b1, b2, b3, b4, b5, b6⟩ := badA_ok hb
  have hC : Hid (isPath (bs (str f.p)) = true) := Lib.hid (by rw [bs_str]; exact b1)
  have h46' : ((str f.p).toList == [46]) = false := by rw [Lib.toList_data, beq_eq_false_iff_ne]; exact b2
  have hts : ((str f.t).size : Int) ≤ 1048576 := by rw [← bs_len, bs_str]; omega
  have hc0 : ¬ f.c < 0 := by omega
  have hc1 : ¬ 4611686018427387904 ≤ f.c := by omega
  have hE : f.d = true → (str f.t).toList.isEmpty = true := fun h => by rw [b3 h, Lib.toList_data]; rfl
  clear b1 b2 b3 hb
  obtain ⟨fp, ft, fc, fd⟩ := f
  simp only at *
  have hlt := hS.lt
  cases fd
  all_goals
    try have hE := hE rfl
    try clear hE
    go_enter Tryz.func14, Tryz.ntmps14
    go_wp2_with (go_at_call 32; go_must (refine (clean_is _ _ true hps hC).mono ?_); rintro e w1 ⟨rfl, B1⟩; obtain ⟨d0, d1, d2, d3⟩ := file_later B1)
    have hB := ((Below.refl w.heap.size w).alloc (Nat.le_refl _) (.cells #[.string (str fp), .string (str ft), .int .i64 fc, .bool _] 44)).trans (B1.mono (by simp))
    have hS1 := hS.below hB
    have c1 := hS1.c1
    have hr0 := (hS1.map.block (w' := w1.drew) rfl).run_yes hpm hg.out
    have hr1 := fun o : Obj => ((hS1.map.alloc o).block (w' := (w1.alloc o).drew) rfl).run_yes hpm hg.out
    have hlt1 : sb < w1.heap.size := hS1.lt
    have hlt2 : w.heap.size < w1.heap.size := by have := B1.size; simp at this; omega
    clear hS hS1
    go_region
    go_wp2
    go_ret
    exact ⟨rfl, hB.drew.alloc hB.size _⟩

set_option maxHeartbeats 4000000 in
theorem add_fresh (w : World) {sb bm : Nat} {s : St} (f : F) (hS : StoreAt w sb bm s.L s.c) (hp : f.p.length ≤ 1000000) (hb : badA f = 0) (hg : Hid (Sp.get s.L f.p = none)) (hl : s.L.length ≤ 1000000) :
    Calls Tryz.prog 14 #[.pointer (some ⟨sb, 0, none⟩), .agg #[.string (str f.p), .string (str f.t), .int .i64 f.c, .bool f.d]] w (OpPost w sb bm (⟨Sp.ins s.L f, max s.c f.c⟩, 0)) := by
  have hps : (str f.p).size ≤ 1000000 := by rw [← bs_len, bs_str]; exact hp
  have hpm : (str f.p).size ≤ maxLen := by unfold maxLen; omega
  have hpl : f.p.length ≤ maxLen := by unfold maxLen; omega
  have hlm : s.L.length < maxLen := by unfold maxLen; omega
  obtain ⟨b1, b2, b3, b4, b5, b6⟩ := badA_ok hb
  have hC : Hid (isPath (bs (str f.p)) = true) := Lib.hid (by rw [bs_str]; exact b1)
  have h46' : ((str f.p).toList == [46]) = false := by rw [Lib.toList_data, beq_eq_false_iff_ne]; exact b2
  have hts : ((str f.t).size : Int) ≤ 1048576 := by rw [← bs_len, bs_str]; omega
  have hc0 : ¬ f.c < 0 := by omega
  have hc1 : ¬ 4611686018427387904 ≤ f.c := by omega
  have hE : f.d = true → (str f.t).toList.isEmpty = true := fun h => by rw [b3 h, Lib.toList_data]; rfl
  clear b1 b2 b3 hb
  obtain ⟨fp, ft, fc, fd⟩ := f
  simp only at *
  have hlt := hS.lt
  have hbm := hS.map.lt
  cases fd
  all_goals
    try have hE := hE rfl
    try clear hE
    go_enter Tryz.func14, Tryz.ntmps14
    go_wp2_with (go_at_call 32; go_must (refine (clean_is _ _ true hps hC).mono ?_); rintro e w1 ⟨rfl, B1⟩; obtain ⟨d0, d1, d2, d3⟩ := file_later B1)
    have hB := ((Below.refl w.heap.size w).alloc (Nat.le_refl _) (.cells #[.string (str fp), .string (str ft), .int .i64 fc, .bool _] 44)).trans (B1.mono (by simp))
    have hS1 := hS.below hB
    have c1 := hS1.c1
    have hr0 := (hS1.map.block (w' := w1.drew) rfl).run_no hpm hg.out
    have hr1 := fun o : Obj => ((hS1.map.alloc o).block (w' := (w1.alloc o).drew) rfl).run_no hpm hg.out
    have hlt1 : sb < w1.heap.size := hS1.lt
    have hlt2 : w.heap.size < w1.heap.size := by have := B1.size; simp at this; omega
    clear hS
    go_region
    go_wp2
    clear hr0 hr1
    have hB2 : Below w.heap.size w (w1.alloc (.cells #[.string ⟨#[]⟩, .string ⟨#[]⟩, .int .i64 0, .bool false] 44)).drew := (hB.alloc hB.size _).drew
    have hS2 : StoreAt (w1.alloc (.cells #[.string ⟨#[]⟩, .string ⟨#[]⟩, .int .i64 0, .bool false] 44)).drew sb bm s.L s.c := ⟨(hS1.alloc _).cells, (hS1.alloc _).map.block rfl⟩
    have hd : ∀ i, (w1.alloc (.cells #[.string ⟨#[]⟩, .string ⟨#[]⟩, .int .i64 0, .bool false] 44)).drew.cell? ⟨w.heap.size, i, none⟩ = w1.cell? ⟨w.heap.size, i, none⟩ := fun i => ((Below.refl w1.heap.size w1).alloc (Nat.le_refl _) _).drew.cell (p := ⟨w.heap.size, i, none⟩) hlt2
    have d0' := (hd 0).trans d0
    have d1' := (hd 1).trans d1
    have d2' := (hd 2).trans d2
    have d3' := (hd 3).trans d3
    clear hd d0 d1 d2 d3 hS1 c1 hlt1 hlt2
    have hne := hS2.ne
    generalize (w1.alloc (.cells #[.string ⟨#[]⟩, .string ⟨#[]⟩, .int .i64 0, .bool false] 44)).drew = W at *
    have c1 := hS2.c1
    have hwl : w.heap.size < W.heap.size := by have := World.block_lt_of_cell? _ _ d0'; simpa using this
    go_still_tail 7, (by kernel_rfl)
    change wpList _ _ _ _ _ W.drew
    have hM2 : MapAt W.drew bm s.L := hS2.map.block rfl
    have hC2 : W.drew.heap[sb]? = some (.cells #[.int .i64 s.c, .map (some bm)] 62 (0, 0)) := hS2.cells
    have hB3 : Below w.heap.size w W.drew := hB2.drew
    have e2 : W.drew.cell? ⟨w.heap.size, 2, none⟩ = some (.int .i64 fc) := d2'
    have hwl' : w.heap.size < W.drew.heap.size := hwl
    clear d0' d1' d2' d3' hB2 hS2 c1 hwl
    generalize W.drew = W2 at *
    clear hB
    go_wp2_with (at_mapUpdate; refine wpList_put (f := ⟨fp, ft, fc, _⟩) _ rfl _ _ _ rfl rfl rfl rfl hM2 hpl hlm ?_; intro w3 hM3 htn)
    go_frame
    have hC3 : w3.heap[sb]? = some (.cells #[.int .i64 s.c, .map (some bm)] 62 (0, 0)) := (htn.grown.block sb (Array.getElem?_eq_some_iff.1 hC2).1 (by simpa using fun e => hne e.symm)).trans hC2
    have e3 : w3.cell? ⟨w.heap.size, 2, none⟩ = some (.int .i64 fc) := (World.cell?_of_block (w := W2) (htn.grown.block w.heap.size hwl' (by simp; omega))).trans e2
    have hK3 : Kept [sb, bm] w w3 := (Kept.of_below hB3).grown htn.grown (by simp)
    have c0 : w3.cell? ⟨sb, 0, none⟩ = some (.int .i64 s.c) := by simp [World.cell?, hC3]
    clear hM2 hC2 hB3 e2 hwl' htn
    refine wp_region_still_tail 10 (by kernel_rfl) (by kernel_rfl) ?_
    simp only [List.take_succ_cons, List.take_zero, List.drop_succ_cons, List.drop_zero]
    repeat still_step
    have hcall : Calls Tryz.prog 34 #[.pointer (some ⟨sb, 0, none⟩)] ⟨w3.heap, w3.tape, w3.drawn + 1, w3.os, w3.output⟩ (fun e w'' => e = .returned (.int .i64 s.c) ∧ w'' = ⟨w3.heap, w3.tape, w3.drawn + 1, w3.os, w3.output⟩) :=
      (Load_any ⟨w3.heap, w3.tape, w3.drawn + 1, w3.os, w3.output⟩ sb 0 s.c c0).mono fun e w' ⟨a, b⟩ => ⟨a, b.symm⟩
    still_call hcall
    clear hcall
    repeat still_step
    refine wpStill_nil ?_
    change wpList _ _ _ _ _ w3.drew
    have c0d : w3.drew.cell? ⟨sb, 0, none⟩ = some (.int .i64 s.c) := c0
    have f0d : w3.drew.frozen? ⟨sb, 0, none⟩ = false := frozen_two (w := w3.drew) hC3
    have hC4 : ∀ y, (w3.drew.setCell ⟨sb, 0, none⟩ (.int .i64 y)).heap[sb]? = some (.cells #[.int .i64 y, .map (some bm)] 62 (0, 0)) := fun y => set_two (w := w3.drew) hC3 _
    have hM4 : ∀ y, MapAt (w3.drew.setCell ⟨sb, 0, none⟩ (.int .i64 y)) bm (Sp.ins s.L ⟨fp, ft, fc, _⟩) := fun y => (hM3.block (w' := w3.drew) rfl).setCell hne _
    have hK4 : ∀ y, Kept [sb, bm] w (w3.drew.setCell ⟨sb, 0, none⟩ (.int .i64 y)) := fun y => (hK3.drewN 1).setCell (.inl (by simp)) _
    clear c0 e3 hC3 hM3 hK3
    generalize w3.drew = W4 at *
    go_wp2_with (go_at_call 33; go_must (refine (Stor_any _ sb 0 s.c _ c0d f0d).mono ?_); rintro e w4 ⟨rfl, rfl⟩)
    go_ret
    exact ⟨rfl, ⟨hC4 _, hM4 _⟩, hK4 _⟩

theorem add_any (w : World) {sb bm : Nat} {s : St} (f : F) (hS : StoreAt w sb bm s.L s.c) (hp : f.p.length ≤ 1000000) (ht : f.t.length ≤ 1000000000) (hl : s.L.length ≤ 1000000) :
    Calls Tryz.prog 14 #[.pointer (some ⟨sb, 0, none⟩), .agg #[.string (str f.p), .string (str f.t), .int .i64 f.c, .bool f.d]] w (OpPost w sb bm (addA s f)) := by
  by_cases hb : badA f = 0
  · cases hg : Sp.get s.L f.p with
    | none =>
      have e : addA s f = (⟨Sp.ins s.L f, max s.c f.c⟩, 0) := by unfold addA; rw [if_neg (by simp [hb]), hg]; rfl
      rw [e]
      exact add_fresh w f hS hp hb (Lib.hid hg) hl
    | some g =>
      have e : addA s f = (s, 1) := by unfold addA; rw [if_neg (by simp [hb]), hg]; rfl
      rw [e]
      exact (add_twice w f g hS hp hb (Lib.hid hg)).mono fun _ _ ⟨a, b⟩ => ⟨a, hS.below b, .of_below b⟩
  · have e : addA s f = (s, badA f) := by unfold addA; rw [if_pos hb]
    rw [e]
    exact (add_bad w f _ hp ht (Lib.hid rfl) hb sb).mono fun _ _ ⟨a, b⟩ => ⟨a, hS.below b, .of_below b⟩
end Go.Proofs.YteommneijlelkaaGreatDoor.Sw
