/-
  flatironlaw17.FindFirst's closures.
  flatironlaw17.FindFirst's closure that tells what is there.
  FindFirst, in plain words: the patterns by their endings, which of them comes first.
  The law FindFirst: its loop.
-/
import Derived.BigQuiet
import Derived.Test.YtgednccpjegbmaaGreatDoorQFdOf
import Derived.Test.YtgednccpjegbmaaGreatDoorQFdPlain
import Derived.Test.YtgednccpjegbmaaGreatDoorQFdLive
namespace Go.Proofs.YtgednccpjegbmaaGreatDoor.Dq
open Go.RowKit Go.Proofs.YtgednccpjegbmaaGreatDoor Go.Maps Go.Proofs.YtgednccpjegbmaaGreatDoor.Ww Go.Proofs.YtgednccpjegbmaaGreatDoor.Tw Go.Proofs.YtgednccpjegbmaaGreatDoor.Kw Go.Proofs.YtgednccpjegbmaaGreatDoor.Jw Go.Proofs.YtgednccpjegbmaaGreatDoor.Xb Go.Proofs.YtgednccpjegbmaaGreatDoor.Xw Go.Proofs.YtgednccpjegbmaaGreatDoor.Dz
set_option maxRecDepth 100000
theorem enc97 : ∀ e : Nat, e < 10 → Utf8.encode (97 + (e : Int)) = ⟨#[UInt8.ofNat (97 + e)]⟩ := Fp.ten (by kernel_rfl) (by kernel_rfl) (by kernel_rfl) (by kernel_rfl) (by kernel_rfl) (by kernel_rfl) (by kernel_rfl) (by kernel_rfl) (by kernel_rfl) (by kernel_rfl)
theorem enc48 : ∀ e : Nat, e < 10 → Utf8.encode (48 + (e : Int)) = ⟨#[UInt8.ofNat (48 + e)]⟩ := Fp.ten (by kernel_rfl) (by kernel_rfl) (by kernel_rfl) (by kernel_rfl) (by kernel_rfl) (by kernel_rfl) (by kernel_rfl) (by kernel_rfl) (by kernel_rfl) (by kernel_rfl)
theorem rem_run (k : Nat) (w : World) : (binOp .rem 5 (.int .u8 (k : Int)) (.int .u8 10)).run Tryz.prog w = .ok (.int .u8 ((k % 10 : Nat) : Int)) w := by
  simp [go_sem]
  exact Int.tmod_eq_emod_of_nonneg (Int.natCast_nonneg k)
/-- end: the ending of a number. -/
theorem end_any (w : World) (k : Nat) : Calls Tryz.prog 6 #[.int .u8 (k : Int)] w fun e w' => e = .returned (.string (str [46, UInt8.ofNat (97 + k % 10)])) ∧ w' = w := by
  have hr := rem_run k
  have he : k % 10 < 10 := Nat.mod_lt _ (by decide)
  have hu := enc97 (k % 10) he
  rw [show ((k % 10 : Nat) : Int) = (k : Int) % 10 by omega] at hu
  have hs : (str [46, UInt8.ofNat (97 + k % 10)] : ByteArray) = ⟨#[46]⟩ ++ ⟨#[UInt8.ofNat (97 + k % 10)]⟩ := rfl
  rw [hs]
  generalize UInt8.ofNat (97 + k % 10) = c at *
  have hki : (97 : Int) + (k : Int) % 10 < 256 := by omega
  have hk0 : (0 : Int) ≤ 97 + (k : Int) % 10 := by omega
  clear hs
  go_enter Tryz.func6, Tryz.ntmps6
  go_wp2_with fail
  go_ret
  exact ⟨rfl, rfl⟩
end Go.Proofs.YtgednccpjegbmaaGreatDoor.Dq
namespace Go.Proofs.YtgednccpjegbmaaGreatDoor.Dq
open Go.RowKit Go.Proofs.YtgednccpjegbmaaGreatDoor Go.Maps Go.Proofs.YtgednccpjegbmaaGreatDoor.Ww Go.Proofs.YtgednccpjegbmaaGreatDoor.Tw Go.Proofs.YtgednccpjegbmaaGreatDoor.Kw Go.Proofs.YtgednccpjegbmaaGreatDoor.Jw Go.Proofs.YtgednccpjegbmaaGreatDoor.Xb Go.Proofs.YtgednccpjegbmaaGreatDoor.Xw Go.Proofs.YtgednccpjegbmaaGreatDoor.Dz
set_option maxRecDepth 100000
abbrev U16 : TypeId := 23
/-- A bit, as the program asks for it. -/
def bitB (t : Nat) (n : Nat) : Bool := bits BinOp.and IntKind.u16 ((t : Int) / 2 ^ min n 16) 1 == 1
def thF (t : Nat) (p : ByteArray) : Bool := if h : p.size = 3 then bitB t (IntKind.u8.wrap ((p[2]'(by omega)).toNat - 97)).toNat else false
theorem thF_at (t e : Nat) (he : e < 10) : thF t (str [120, 46, UInt8.ofNat (97 + e)]) = bitB t e := by
  unfold thF
  rw [dif_pos (show (str [120, 46, UInt8.ofNat (97 + e)]).size = 3 from rfl)]
  have h : ∀ e : Nat, e < 10 → (IntKind.u8.wrap ((((str [120, 46, UInt8.ofNat (97 + e)])[2]'(by show 2 < 3; decide)).toNat : Int) - 97)).toNat = e := Fp.ten (by kernel_rfl) (by kernel_rfl) (by kernel_rfl) (by kernel_rfl) (by kernel_rfl) (by kernel_rfl) (by kernel_rfl) (by kernel_rfl) (by kernel_rfl) (by kernel_rfl)
  rw [h e he]
def Tb (tb t : Nat) (W : World) : Prop := W.heap[tb]? = some (.cells #[.int .u16 (t : Int)] U16 (0, 0))
theorem there_any (w : World) (tb t : Nat) (p : ByteArray) (h : Tb tb t w) : Calls Tryz.prog 11 #[.string p, .pointer (some ⟨tb, 0, none⟩)] w fun e w' => e = .returned (.bool (thF t p)) ∧ Below w.heap.size w w' := by
  have c0 : w.cell? ⟨tb, 0, none⟩ = some (.int .u16 (t : Int)) := cell_at h rfl
  have l0 := (Array.getElem?_eq_some_iff.1 h).1
  clear h
  by_cases hs : p.size = 3
  · have hT : Hid (thF t p = bitB t (IntKind.u8.wrap ((p[2]'(by omega)).toNat - 97)).toNat) := Lib.hid (by unfold thF; rw [dif_pos hs])
    have hsi : ((p.size : Int) == 3) = true := by rw [beq_iff_eq]; omega
    have hs2 : 2 < p.size := by omega
    go_enter Tryz.func11, Tryz.ntmps11
    go_wp2_with fail
    go_quiet (fail)
    go_wp2_with fail
    go_ret
    exact ⟨by rw [hT.out]; rfl, ((Kept.refl [] w).drewN _).to_below (Nat.le_refl _) (by simp)⟩
  · have hT : Hid (thF t p = false) := Lib.hid (by unfold thF; rw [dif_neg hs])
    have hsi : ((p.size : Int) == 3) = false := by rw [beq_eq_false_iff_ne]; omega
    go_enter Tryz.func11, Tryz.ntmps11
    go_wp2_with fail
    go_quiet (fail)
    go_wp2_with fail
    go_ret
    exact ⟨by rw [hT.out]; rfl, ((Kept.refl [] w).drewN _).to_below (Nat.le_refl _) (by simp)⟩
theorem there_ff (tb t : Nat) : ThereC 11 #[.pointer (some ⟨tb, 0, none⟩)] (thF t) (Tb tb t) where
  call W p h := there_any W tb t p h
  enter args w := by kernel_rfl
  below W W' hB h := (hB.block _ (Array.getElem?_eq_some_iff.1 h).1).trans h
  kept W W' sb db thv k hs hk h := (hk.block _ (Array.getElem?_eq_some_iff.1 h).1 (fun e => by
    have e2 := List.mem_singleton.1 e
    subst e2
    unfold Se at hs
    unfold Tb at h
    rw [h] at hs
    injection hs with hs
    injection hs with _ hs _
    exact absurd hs (by decide))).trans h
end Go.Proofs.YtgednccpjegbmaaGreatDoor.Dq
namespace Go.Proofs.YtgednccpjegbmaaGreatDoor.Dq
open Go.RowKit Go.Proofs.YtgednccpjegbmaaGreatDoor Go.Maps Go.Proofs.YtgednccpjegbmaaGreatDoor.Ww Go.Proofs.YtgednccpjegbmaaGreatDoor.Tw Go.Proofs.YtgednccpjegbmaaGreatDoor.Kw Go.Proofs.YtgednccpjegbmaaGreatDoor.Jw Go.Proofs.YtgednccpjegbmaaGreatDoor.Xb Go.Proofs.YtgednccpjegbmaaGreatDoor.Xw Go.Proofs.YtgednccpjegbmaaGreatDoor.Dz
set_option maxRecDepth 100000
/-- What a pattern's need is called: with x in the place of its %. -/
def xOf (q : Pn) : Bs := 120 :: q.nd.drop 1
def patOf (e i : Nat) : Pn := ⟨⟨#[37, 46, 111]⟩, str (Fp.needS e), 2 * i + 1, [⟨2 * i + 1 + 1, Fp.echoS i, true⟩], Fp.targS, Fp.needS e, []⟩
def patsOf : Nat → List Nat → List Pn
  | _, [] => []
  | i, e :: r => patOf e i :: patsOf (i + 1) r
/-- The number of the first one whose need is there, as a text. -/
def wantA (t : Nat) : Nat → List Nat → Bs
  | _, [] => []
  | i, e :: r => if bitB t e = true then [UInt8.ofNat (48 + i)] else wantA t (i + 1) r
theorem pats_len : ∀ (es : List Nat) (i : Nat), (patsOf i es).length = es.length
  | [], _ => rfl
  | _ :: r, i => by rw [patsOf, List.length_cons, pats_len r, List.length_cons]
theorem pats_parts : ∀ (es : List Nat) (i : Nat), (patsOf i es).map Pn.P = Fp.partsOf i es
  | [], _ => rfl
  | e :: r, i => by rw [patsOf, List.map_cons, pats_parts r]; rfl
theorem pats_mem : ∀ (es : List Nat) (i : Nat), (∀ e ∈ es, e < 10) → i + es.length ≤ 10 → ∀ q ∈ patsOf i es, ∃ e j, e < 10 ∧ j < 10 ∧ q = patOf e j
  | [], _, _, _, _, h => by cases h
  | e :: r, i, he, hi, q, h => by
    rw [patsOf] at h
    rcases List.mem_cons.1 h with rfl | h
    · exact ⟨e, i, he e (by simp), by simp at hi; omega, rfl⟩
    · exact pats_mem r (i + 1) (fun e h => he e (by simp [h])) (by simp at hi; omega) q h
theorem need_no : ∀ e, e < 10 → (36 : UInt8) ∉ Fp.needS e := Fp.ten (by decide) (by decide) (by decide) (by decide) (by decide) (by decide) (by decide) (by decide) (by decide) (by decide)
theorem need_words : ∀ e, e < 10 → wordsS (str (Fp.needS e)) = [str (Fp.needS e)] := Fp.ten (by kernel_rfl) (by kernel_rfl) (by kernel_rfl) (by kernel_rfl) (by kernel_rfl) (by kernel_rfl) (by kernel_rfl) (by kernel_rfl) (by kernel_rfl) (by kernel_rfl)
theorem need_put : ∀ e, e < 10 → Tp.putA (Fp.needS e) [120] = [120, 46, UInt8.ofNat (97 + e)] := Fp.ten (by kernel_rfl) (by kernel_rfl) (by kernel_rfl) (by kernel_rfl) (by kernel_rfl) (by kernel_rfl) (by kernel_rfl) (by kernel_rfl) (by kernel_rfl) (by kernel_rfl)
theorem need_join : ∀ e, e < 10 → Pt.join [[46], [120, 46, UInt8.ofNat (97 + e)]] = some [120, 46, UInt8.ofNat (97 + e)] := Fp.ten (by kernel_rfl) (by kernel_rfl) (by kernel_rfl) (by kernel_rfl) (by kernel_rfl) (by kernel_rfl) (by kernel_rfl) (by kernel_rfl) (by kernel_rfl) (by kernel_rfl)
theorem echo_trim : ∀ i, i < 10 → Iw.trimT (str (Fp.echoS i)) = str (Fp.echoS i) := Fp.ten (by kernel_rfl) (by kernel_rfl) (by kernel_rfl) (by kernel_rfl) (by kernel_rfl) (by kernel_rfl) (by kernel_rfl) (by kernel_rfl) (by kernel_rfl) (by kernel_rfl)
theorem echo_left : ∀ i, i < 10 → Lib.trimLeftS (Fp.echoS i) [64, 45, 43, 32, 9, 10] = Fp.echoS i := Fp.ten (by kernel_rfl) (by kernel_rfl) (by kernel_rfl) (by kernel_rfl) (by kernel_rfl) (by kernel_rfl) (by kernel_rfl) (by kernel_rfl) (by kernel_rfl) (by kernel_rfl)
theorem echo_dollar : ∀ i, i < 10 → (36 : UInt8) ∉ Fp.echoS i := Fp.ten (by decide) (by decide) (by decide) (by decide) (by decide) (by decide) (by decide) (by decide) (by decide) (by decide)
theorem pat_ok {e i : Nat} (he : e < 10) : (patOf e i).Ok := ⟨⟨by show (36 : UInt8) ∉ Fp.targS; decide, by show 3 ≤ 1000; decide, by show wordsS (str Fp.targS) = _; kernel_rfl⟩, ⟨need_no e he, by show 3 ≤ 1000; decide, need_words e he⟩, ⟨by show (36 : UInt8) ∉ []; simp, by show 0 ≤ 1000; decide, by show wordsS (str []) = _; kernel_rfl⟩, by show (Tp.atA (by8 ⟨#[37, 46, 111]⟩)).isSome = true; kernel_rfl, by show (⟨#[37, 46, 111]⟩ : ByteArray).size ≤ _; decide⟩
theorem pat_meets {e i : Nat} (he : e < 10) : (patOf e i).Meets ⟨#[46]⟩ xoB [120] (xOf (patOf e i)) (xOf (patOf e i)) := ⟨by show Tp.matchA (by8 ⟨#[37, 46, 111]⟩) (by8 xoB) = _; kernel_rfl, need_put e he, need_join e he, ⟨_, rfl⟩, by show (⟨#[37, 46, 111]⟩ : ByteArray).size ≤ _; decide, by show 3 ≤ 1000; decide, by show 3 ≤ 2000; decide⟩
theorem pats_find (t : Nat) : ∀ (es : List Nat) (i : Nat), (∀ e ∈ es, e < 10) → i + es.length ≤ 10 →
    ((patsOf i es).find? (fun q => thF t (str (xOf q))) = none ∧ wantA t i es = []) ∨ ∃ e j, e < 10 ∧ j < 10 ∧ (patsOf i es).find? (fun q => thF t (str (xOf q))) = some (patOf e j) ∧ wantA t i es = [UInt8.ofNat (48 + j)]
  | [], _, _, _ => .inl ⟨rfl, rfl⟩
  | e :: r, i, he, hi => by
    have h1 : thF t (str (xOf (patOf e i))) = bitB t e := thF_at t e (he e (by simp))
    rw [patsOf, wantA]
    by_cases hb : bitB t e = true
    · exact .inr ⟨e, i, he e (by simp), by simp at hi; omega, List.find?_cons_of_pos (by rw [h1]; exact hb), if_pos hb⟩
    · rw [List.find?_cons_of_neg (by rw [h1]; exact hb), if_neg hb]
      exact pats_find t r (i + 1) (fun e h => he e (by simp [h])) (by simp at hi; omega)
theorem text_snoc (e : Nat) : ∀ (l : List Nat) (i : Nat), Fp.textS i (l ++ [e]) = Fp.textS i l ++ Fp.pieceS e (i + l.length)
  | [], i => by show Fp.pieceS e i ++ [] = [] ++ Fp.pieceS e (i + 0); simp
  | x :: r, i => by
    show Fp.pieceS x i ++ Fp.textS (i + 1) (r ++ [e]) = (Fp.pieceS x i ++ Fp.textS (i + 1) r) ++ _
    rw [text_snoc e r (i + 1), List.append_assoc, List.length_cons, show i + 1 + r.length = i + (r.length + 1) by omega]
theorem want_snoc (t e : Nat) : ∀ (l : List Nat) (i : Nat), wantA t i (l ++ [e]) = if wantA t i l = [] then (if bitB t e = true then [UInt8.ofNat (48 + (i + l.length))] else []) else wantA t i l
  | [], i => by simp [wantA]
  | x :: r, i => by
    show (if bitB t x = true then _ else wantA t (i + 1) (r ++ [e])) = if (if bitB t x = true then _ else wantA t (i + 1) r) = [] then _ else (if bitB t x = true then _ else wantA t (i + 1) r)
    by_cases hb : bitB t x = true
    · simp only [if_pos hb]
      rw [if_neg (by simp)]
    · simp only [if_neg hb]
      rw [want_snoc t e r (i + 1), List.length_cons, show i + 1 + r.length = i + (r.length + 1) by omega]
theorem text_len : ∀ (l : List Nat) (i : Nat), (Fp.textS i l).length = 17 * l.length
  | [], _ => rfl
  | e :: r, i => by
    show (Fp.pieceS e i ++ Fp.textS (i + 1) r).length = _
    rw [List.length_append, text_len r (i + 1), List.length_cons]
    show 17 + _ = _; omega
theorem want_len (t : Nat) : ∀ (l : List Nat) (i : Nat), (wantA t i l).length ≤ 1
  | [], _ => by show 0 ≤ 1; omega
  | e :: r, i => by
    rw [wantA]
    split
    · exact Nat.le_refl _
    · exact want_len t r (i + 1)
/-- A makefile alone in a store. -/
def ffF (t : Bs) : List Sw.F := [⟨mkS, t, 0, false⟩]
theorem mk_path : isPath mkS = true := by kernel_rfl
theorem ff_add (t : Bs) (ht : t.length ≤ 1000) : Sw.addAll ⟨[], 0⟩ (ffF t) = (⟨ffF t, 0⟩, 0) := by
  have h1 : Sw.badA ⟨mkS, t, 0, false⟩ = 0 := by
    unfold Sw.badA
    rw [if_neg (by show ¬ isPath mkS = false; rw [mk_path]; exact Bool.noConfusion), if_neg (by show ¬ mkS = [46]; decide), if_neg (by rintro ⟨h, _⟩; cases h), if_neg (by show ¬ (0 : Int) < 0; omega), if_neg (by show ¬ (4611686018427387904 : Int) ≤ 0; omega), if_neg (by show ¬ 1048576 < t.length; omega)]
  have h2 : Sw.addA ⟨[], 0⟩ ⟨mkS, t, 0, false⟩ = (⟨ffF t, 0⟩, 0) := by
    unfold Sw.addA
    rw [if_neg (by rw [h1]; exact fun h => h rfl), if_neg (by show ¬ (Sp.get [] mkS).isSome = true; exact Bool.false_ne_true)]
    rfl
  show Sw.addAll ⟨[], 0⟩ (⟨mkS, t, 0, false⟩ :: []) = _
  rw [Sw.addAll_cons, h2]
  rfl
theorem ff_new (t : Bs) (ht : t.length ≤ 1000) : Sw.newA (ffF t) = (⟨ffF t, 0⟩, 0) := by
  unfold Sw.newA
  rw [ff_add t ht]
  have h1 : Sw.blockedA (ffF t) = false := by rfl
  have h2 : Sw.surrAll (ffF t) (ffF t) = ffF t := by with_unfolding_all rfl
  dsimp only
  rw [if_neg (by exact fun h => h rfl), if_neg (by rw [h1]; exact Bool.false_ne_true), h2, if_neg (by show ¬ 4096 < 1; omega)]
theorem ff_code (t : Bs) (ht : t.length ≤ 1000) : (Sw.newA (ffF t)).2 = 0 := by rw [ff_new t ht]
theorem ff_get (t : Bs) (ht : t.length ≤ 1000) : Sw.readA (Sw.getR (Sw.newA (ffF t)).1.L mkS) = (t, 0) := by rw [ff_new t ht]; rfl
theorem new_ff (w : World) (b : Nat) (hb : b = w.heap.size) (t : Bs) (ht : t.length ≤ 1000) : Calls Tryz.prog 7 #[.slice (some ⟨b, 0, none⟩) 1 1] (w.alloc (.cells #[.string mkB, .string (str t), .int .i64 0, .bool false] FiA)) fun e w' =>
    ∃ sb bm c, e = .returned (.tuple #[.pointer (some ⟨sb, 0, none⟩), .int .i64 0]) ∧ Sw.StoreAt w' sb bm (Sw.newA (ffF t)).1.L c ∧ Below w.heap.size w w' := by
  subst hb
  have hh := heap_last w (.cells #[.string mkB, .string (str t), .int .i64 0, .bool false] FiA)
  have hG : Sw.Given (w.alloc (.cells #[.string mkB, .string (str t), .int .i64 0, .bool false] FiA)) w.heap.size 0 1 (ffF t) := ⟨by simp, fun j f hf => by
    match j, hf with
    | 0, hf => cases hf; exact ⟨cell_at hh rfl, cell_at hh rfl, cell_at hh rfl, cell_at hh rfl⟩, by
    intro f hf
    simp [ffF] at hf
    subst hf
    exact ⟨by show mkS.length ≤ _; decide, by show t.length ≤ _; omega⟩, by show 1 ≤ 10000; decide⟩
  have h := Sw.New_some _ _ 0 1 (ffF t) hG
  refine h.mono ?_
  intro e w' h
  unfold Sw.NewPost at h
  rw [if_pos (ff_code t ht)] at h
  obtain ⟨sb, bm, rfl, h1, h2, h3, hB⟩ := h
  exact ⟨sb, bm, _, rfl, h3, ((Below.refl _ w).alloc (Nat.le_refl _) _).trans (hB.mono (by simp))⟩
/-- The text of a line without $. -/
theorem text_flat (W : World) (v0 v1 gv : Value) (s : Bs) (h0 : (36 : UInt8) ∉ s) (hs : s.length ≤ 1000) :
    Calls Tryz.prog 30 #[.agg #[v0, v1, gv], .string (str s)] W fun e w' => e = .returned (.tuple #[.string (str s), .int .i64 0]) ∧ Below W.heap.size W w' := by
  refine (Text_z W v0 v1 gv s [] (fun r _ => r = str s) (beg_plain W v0 v1 gv s h0 hs) (by simp)).mono ?_
  rintro e w' ⟨r, W2, rfl, hk, rfl, _⟩
  exact ⟨rfl, hk.to_below (Nat.le_refl _) (by simp)⟩
end Go.Proofs.YtgednccpjegbmaaGreatDoor.Dq
namespace Go.Proofs.YtgednccpjegbmaaGreatDoor.Dq
open Go.RowKit Go.Proofs.YtgednccpjegbmaaGreatDoor Go.Maps Go.Proofs.YtgednccpjegbmaaGreatDoor.Ww Go.Proofs.YtgednccpjegbmaaGreatDoor.Tw Go.Proofs.YtgednccpjegbmaaGreatDoor.Kw Go.Proofs.YtgednccpjegbmaaGreatDoor.Jw Go.Proofs.YtgednccpjegbmaaGreatDoor.Xb Go.Proofs.YtgednccpjegbmaaGreatDoor.Xw Go.Proofs.YtgednccpjegbmaaGreatDoor.Dz
set_option maxRecDepth 100000
/-- A slice of bytes that is read. -/
structure E8 (W : World) (a : Option Addr) (ks : List Nat) : Prop where
  lt : ∀ k ∈ ks, k < 256
  row : ks ≠ [] → ∃ g o, a = some ⟨g, o, none⟩ ∧ g < W.heap.size ∧ ∀ i (h : i < ks.length), W.cell? ⟨g, o + i, none⟩ = some (.int .u8 ((ks[i] : Nat) : Int))
theorem E8.below {W W' : World} {a : Option Addr} {ks : List Nat} (h : E8 W a ks) (hB : Below W.heap.size W W') : E8 W' a ks :=
  ⟨h.lt, fun hn => by
    obtain ⟨g, o, e, hg, hc⟩ := h.row hn
    exact ⟨g, o, e, Nat.lt_of_lt_of_le hg hB.size, fun i hi => (hB.cell (p := ⟨g, o + i, none⟩) hg).trans (hc i hi)⟩⟩
def endsA (ks : List Nat) : List Nat := ks.map (· % 10)
def FfRel (w1 : World) (t : Nat) (ks : List Nat) (v6 v7 v27 : Value) (wr : World) : Prop :=
  ∃ i : Nat, v27 = .int .i64 i ∧ i ≤ ks.length ∧ v6 = .string (str (Fp.textS 0 ((endsA ks).take i))) ∧ v7 = .string (str (wantA t 0 ((endsA ks).take i))) ∧ wr = w1
theorem cat_is (x : Bs) (c1 c2 : UInt8) : (str x ++ (⟨#[37, 46, 111, 58, 32, 37]⟩ ++ ⟨#[46, c1]⟩ ++ ⟨#[10, 9, 101, 99, 104, 111, 32]⟩ ++ ⟨#[c2]⟩ ++ ⟨#[10]⟩) : ByteArray) = str (x ++ [37, 46, 111, 58, 32, 37, 46, c1, 10, 9, 101, 99, 104, 111, 32, c2, 10]) :=
  by8_ext (by rw [Iw.by8_add]; rfl)
theorem take_ends {ks : List Nat} {i : Nat} (h : i < ks.length) : (endsA ks).take (i + 1) = (endsA ks).take i ++ [ks[i] % 10] := by
  have hl : i < (endsA ks).length := by unfold endsA; rw [List.length_map]; exact h
  rw [List.take_succ_eq_append_getElem hl]
  simp [endsA]
set_option maxHeartbeats 8000000 in
theorem FindFirst_big (w : World) (hG : Ew.GM w) (a : Option Addr) (n c : Nat) (t : Nat) (hn : 10 < n) (hm : n < 9223372036854775808) :
    Calls Tryz.prog 3 #[.slice a n c, .int .u16 (t : Int)] w fun e w' => e = .returned (.bool true) ∧ Below w.heap.size w w' := by
  have HL := Lib.hid fun W (hW : Below w.heap.size w W) => lives17 W (hG.below hW)
  have HB0 := Lib.hid ((Below.refl w.heap.size w).alloc (Nat.le_refl _) (.cells #[.int .u16 (t : Int)] U16))
  have hni : (10 : Int) < (n : Int) := by omega
  clear hG
  go_enter Tryz.func3, Tryz.ntmps3
  go_wp2_with fail
  refine (HL.out _ HB0.out).mono ?_
  rintro e w1 ⟨rfl, B1⟩
  have HB1 := Lib.hid (HB0.out.trans (B1.mono HB0.out.size))
  clear B1
  go_wp2_with fail
  refine (HL.out _ HB1.out).mono ?_
  rintro e w2 ⟨rfl, B2⟩
  have HB2 := Lib.hid (HB1.out.trans (B2.mono HB1.out.size))
  clear B2
  go_wp2_with fail
  go_ret
  exact ⟨rfl, HB2.out⟩
set_option maxHeartbeats 8000000 in
theorem FindFirst_any (w : World) (hG : Ew.GM w) (a : Option Addr) (c : Nat) (ks : List Nat) (hE : E8 w a ks) (t : Nat) (hn : ks.length ≤ 10) :
    Calls Tryz.prog 3 #[.slice a ks.length c, .int .u16 (t : Int)] w fun e w' => e = .returned (.bool true) ∧ Below w.heap.size w w' := by
  have HL := Lib.hid fun W (hW : Below w.heap.size w W) => lives17 W (hG.below hW)
  have HB0 := Lib.hid ((Below.refl w.heap.size w).alloc (Nat.le_refl _) (.cells #[.int .u16 (t : Int)] U16))
  have HT0 := Lib.hid (show Tb w.heap.size t (w.alloc (.cells #[.int .u16 (t : Int)] U16)) from heap_last w _)
  have hni : ¬ (10 : Int) < (ks.length : Int) := by omega
  have hnl : (ks.length : Int) ≤ 10 := by omega
  have HE := Lib.hid hE
  have HG := Lib.hid hG
  have HN := Lib.hid hn
  clear hG hE hn
  go_enter Tryz.func3, Tryz.ntmps3
  go_upto_region 1 with (fail)
  generalize w.alloc (.cells #[.int .u16 (t : Int)] U16) = w0 at *
  go_wp2_with fail
  refine (HL.out _ HB0.out).mono ?_
  rintro e w1 ⟨rfl, B1⟩
  have HB1 := Lib.hid (HB0.out.trans (B1.mono HB0.out.size))
  have ht1 : Tb w.heap.size t w1 := (B1.block _ (Array.getElem?_eq_some_iff.1 HT0.out).1).trans HT0.out
  have HT1 := Lib.hid ht1
  have HE1 := Lib.hid (HE.out.below HB1.out)
  clear B1 HL HE HB0 HT0
  go_wp2_with fail
  have b0 : w1.cell? ⟨w.heap.size, 0, none⟩ = some (.int .u16 (t : Int)) := cell_at ht1 rfl
  have lb := (Array.getElem?_eq_some_iff.1 ht1).1
  clear ht1
  have hen6 : ∀ (args : Array Value) (w : World), (callFunc 6 args).run Tryz.prog w = .ok (.enter 6 args) w := fun args w => by kernel_rfl
  go_loopw [6, 7, 27] (fun v6 v7 v27 wr => FfRel w1 t ks v6 v7 v27 wr) (fun _ _ v27 _ => ks.length - (intOf v27).toNat)
  case atStart => exact ⟨0, rfl, Nat.zero_le _, rfl, rfl, rfl⟩
  case round =>
    obtain ⟨i, rfl, hi, rfl, rfl, rfl⟩ := hrel
    by_cases hlt : i < ks.length
    · obtain ⟨g, o, rfl, hg, hc⟩ := HE1.out.row (by intro e; rw [e] at hlt; cases hlt)
      obtain ⟨k, hk⟩ : ∃ k, ks[i] = k := ⟨_, rfl⟩
      have hci := hc i hlt
      rw [hk] at hci
      have hk2 : k < 256 := by rw [← hk]; exact HE1.out.lt _ (List.getElem_mem hlt)
      have htk := take_ends hlt
      rw [hk] at htk
      have hll : ((endsA ks).take i).length = i := by rw [List.length_take]; unfold endsA; rw [List.length_map]; omega
      have HX := Lib.hid (text_snoc (k % 10) ((endsA ks).take i) 0)
      have HW := Lib.hid (want_snoc t (k % 10) ((endsA ks).take i) 0)
      rw [hll, Nat.zero_add] at HX HW
      have hsz : (str (Fp.textS 0 ((endsA ks).take i))).size ≤ 200 := by rw [strL, text_len, hll]; omega
      have HTk := Lib.hid htk
      have hi10 : i < 10 := by have := HN.out; omega
      have HEnd : Hid (∀ W, Calls Tryz.prog 6 #[.int .u8 (k : Int)] W fun e w' => e = .returned (.string ⟨#[46, UInt8.ofNat (97 + k % 10)]⟩) ∧ w' = W) := Lib.hid fun W => end_any W k
      have hu := enc48 i hi10
      have hki : (i : Int) < ks.length := by omega
      have hk0 : (0 : Int) ≤ (i : Int) := Int.natCast_nonneg _
      have hb1 : (48 : Int) + (i : Int) < 128 := by omega
      have hb0 : (0 : Int) ≤ 48 + (i : Int) := by omega
      have hr := rem_run k
      have hwl := want_len t ((endsA ks).take i) 0
      generalize hTx : Fp.textS 0 ((endsA ks).take i) = Tx at *
      generalize hWx : wantA t 0 ((endsA ks).take i) = Wx at *
      have HTx := Lib.hid hTx
      have HWx := Lib.hid hWx
      clear hc htk hll hTx hWx hk hi10 hi
      obtain ⟨c1, hc1⟩ : ∃ c1, c1 = UInt8.ofNat (97 + k % 10) := ⟨_, rfl⟩
      obtain ⟨c2, hc2⟩ : ∃ c2, c2 = UInt8.ofNat (48 + i) := ⟨_, rfl⟩
      rw [← hc1] at HEnd
      rw [← hc2] at hu
      have HC := Lib.hid (And.intro hc1 hc2)
      clear hc1 hc2
      obtain ⟨S, hS⟩ : ∃ S, S = str Tx := ⟨_, rfl⟩
      have HS := Lib.hid hS
      rw [← hS] at hsz ⊢
      clear hS
      have e1 : ((k : Int) % 10).toNat = k % 10 := by omega
      match Wx, hwl with
      | [], _ =>
        have hs0 : (str [] : ByteArray) = ⟨#[]⟩ := rfl
        by_cases hb : bitB t (k % 10) = true
        · have HR2 : Hid (FfRel wr t ks (.string (S ++ (⟨#[37, 46, 111, 58, 32, 37]⟩ ++ ⟨#[46, c1]⟩ ++ ⟨#[10, 9, 101, 99, 104, 111, 32]⟩ ++ ⟨#[c2]⟩ ++ ⟨#[10]⟩))) (.string ⟨#[c2]⟩) (.int .i64 ((i + 1 : Nat) : Int)) wr) := Lib.hid ⟨i + 1, rfl, hlt, by rw [HS.out, cat_is, HTk.out, HX.out, HC.out.1, HC.out.2]; rfl, by rw [HTk.out, HW.out, if_pos rfl, if_pos hb, HC.out.2]; rfl, rfl⟩
          unfold bitB at hb
          rw [Nat.min_eq_left (by omega)] at hb
          go_wp2_with fail
          refine (HEnd.out _).mono ?_
          rintro e w2 ⟨rfl, rfl⟩
          go_wp2_with fail
          have hv : ∀ v, v = Value.int .i64 ((i + 1 : Nat) : Int) → FfRel w2 t ks _ _ v w2 := fun v h => h ▸ HR2.out
          go_roundw
          case rel => exact hv _ (by go_num)
          case measure => simp [intOf]; omega
        · have HR2 : Hid (FfRel wr t ks (.string (S ++ (⟨#[37, 46, 111, 58, 32, 37]⟩ ++ ⟨#[46, c1]⟩ ++ ⟨#[10, 9, 101, 99, 104, 111, 32]⟩ ++ ⟨#[c2]⟩ ++ ⟨#[10]⟩))) (.string ⟨#[]⟩) (.int .i64 ((i + 1 : Nat) : Int)) wr) := Lib.hid ⟨i + 1, rfl, hlt, by rw [HS.out, cat_is, HTk.out, HX.out, HC.out.1, HC.out.2]; rfl, by rw [HTk.out, HW.out, if_pos rfl, if_neg hb]; rfl, rfl⟩
          have hb := Bool.eq_false_iff.2 hb
          unfold bitB at hb
          rw [Nat.min_eq_left (by omega)] at hb
          go_wp2_with fail
          refine (HEnd.out _).mono ?_
          rintro e w2 ⟨rfl, rfl⟩
          go_wp2_with fail
          have hv : ∀ v, v = Value.int .i64 ((i + 1 : Nat) : Int) → FfRel w2 t ks _ _ v w2 := fun v h => h ▸ HR2.out
          go_roundw
          case rel => exact hv _ (by go_num)
          case measure => simp [intOf]; omega
      | [x], _ =>
        have HR2 : Hid (FfRel wr t ks (.string (S ++ (⟨#[37, 46, 111, 58, 32, 37]⟩ ++ ⟨#[46, c1]⟩ ++ ⟨#[10, 9, 101, 99, 104, 111, 32]⟩ ++ ⟨#[c2]⟩ ++ ⟨#[10]⟩))) (.string ⟨#[x]⟩) (.int .i64 ((i + 1 : Nat) : Int)) wr) := Lib.hid ⟨i + 1, rfl, hlt, by rw [HS.out, cat_is, HTk.out, HX.out, HC.out.1, HC.out.2]; rfl, by rw [HTk.out, HW.out, if_neg (by simp)]; rfl, rfl⟩
        have hs0 : (str [x] : ByteArray) = ⟨#[x]⟩ := rfl
        have hx1 : ((⟨#[x]⟩ : ByteArray).toList == []) = false := by rw [toList_by8]; rfl
        have hx2 : ¬ (⟨#[x]⟩ : ByteArray).toList = [] := by rw [toList_by8]; exact List.cons_ne_nil _ _
        go_wp2_with fail
        refine (HEnd.out _).mono ?_
        rintro e w2 ⟨rfl, rfl⟩
        go_wp2_with fail
        have hv : ∀ v, v = Value.int .i64 ((i + 1 : Nat) : Int) → FfRel w2 t ks _ _ v w2 := fun v h => h ▸ HR2.out
        go_roundw
        case rel => exact hv _ (by go_num)
        case measure => simp [intOf]; omega
      | x :: y :: r, hwl => exact absurd hwl (by simp)
    · obtain rfl : i = ks.length := by omega
      have hel : (endsA ks).length = ks.length := by unfold endsA; rw [List.length_map]
      have hes : ∀ e ∈ endsA ks, e < 10 := fun e h => by
        obtain ⟨k, _, rfl⟩ := List.mem_map.1 h
        exact Nat.mod_lt _ (by decide)
      have hln : (endsA ks).length ≤ 10 := by rw [hel]; exact HN.out
      rw [List.take_of_length_le (by omega)]
      have hTl : (Fp.textS 0 (endsA ks)).length ≤ 1000 := by rw [text_len]; omega
      have hpt : Mp.partsA (Fp.textS 0 (endsA ks)) = .ok ((patsOf 0 (endsA ks)).map Pn.P) := by rw [pats_parts]; exact Fp.parts_text hes hln
      have hok : ∀ q ∈ patsOf 0 (endsA ks), q.Ok := fun q hq => by
        obtain ⟨e, j, he, _, rfl⟩ := pats_mem _ 0 hes (by omega) q hq
        exact pat_ok he
      have hmt : ∀ q ∈ patsOf 0 (endsA ks), q.Meets ⟨#[46]⟩ xoB [120] (xOf q) (xOf q) := fun q hq => by
        obtain ⟨e, j, he, _, rfl⟩ := pats_mem _ 0 hes (by omega) q hq
        exact pat_meets he
      have hpl : (patsOf 0 (endsA ks)).length ≤ 10 := by rw [pats_len]; exact hln
      have HFd := Lib.hid (pats_find t (endsA ks) 0 hes (by omega))
      have HPt := Lib.hid (And.intro hTl (And.intro hpt (And.intro hok (And.intro hmt hpl))))
      have hqF : ∀ w : World, (binOp .eql FaT (.agg #[.int .i64 0, .string ⟨#[]⟩, .int .i64 0]) (.agg #[.int .i64 0, .string ⟨#[]⟩, .int .i64 0])).run Tryz.prog w = .ok (.bool true) w := fun w => by kernel_rfl
      have hmf : ∀ (fn : Fn) (first cap : Array Value) (w : World), (Instr.makeFunc fn first cap).run Tryz.prog w = .ok (.func fn first cap) w := fun _ _ _ _ => rfl
      have hki : ¬ (ks.length : Int) < ks.length := by omega
      generalize Fp.textS 0 (endsA ks) = T at *
      generalize patsOf 0 (endsA ks) = PL at *
      generalize wantA t 0 (endsA ks) = WT at *
      clear hel hes hln hTl hpt hok hmt hpl hi b0 lb
      go_wp2_with fail
      refine (new_ff wr _ rfl T HPt.out.1).mono ?_
      rintro e w2 ⟨sb, bm, cc, rfl, hS, B2⟩
      have HS2 := Lib.hid hS
      have HB2 := Lib.hid (HB1.out.trans (B2.mono HB1.out.size))
      have HT2 := Lib.hid ((there_ff w.heap.size t).below _ _ B2 HT1.out)
      clear hS B2
      go_wp2_with fail
      refine (PNew_new w2).mono ?_
      rintro e w3 ⟨rfl, hT, B3⟩
      have HS3 := Lib.hid (HS2.out.below B3)
      have HN3 := Lib.hid hT
      have HB3 := Lib.hid (HB2.out.trans (B3.mono HB2.out.size))
      have HT3 := Lib.hid ((there_ff w.heap.size t).below _ _ B3 HT2.out)
      clear hT B3 HS2 HB2 HT2
      go_wp2_with fail
      refine (Read_pats w3 (some ⟨sb, 0, none⟩) HN3.out ⟨#[46]⟩ mkS T (by decide) dot_clean (Lib.hid dot_join) (fun W hW => by
        have h := Sw.Read_any W mkB (Sw.getR (Sw.newA (ffF T)).1.L mkS) (HS3.out.below hW) (by decide) (Lib.hid rfl)
        rw [ff_get T HPt.out.1] at h
        exact h) (by have := HPt.out.1; omega) PL HPt.out.2.2.1 (by have := HPt.out.2.2.2.2; omega) HPt.out.2.1).mono ?_
      rintro e w4 ⟨db, rfl, B4, hdb, cb, pv, l, hl, hd, hp⟩
      have hA : Below w4.heap.size w4 (w4.alloc (.cells #[.int .i64 0, .string ⟨#[]⟩, .int .i64 0] FaT)) := (Below.refl _ w4).alloc (Nat.le_refl _) _
      have HB4 := Lib.hid ((HB3.out.trans (B4.mono HB3.out.size)).alloc (Nat.le_trans HB3.out.size B4.size) (.cells #[.int .i64 0, .string ⟨#[]⟩, .int .i64 0] FaT))
      have HNT := Lib.hid (show NoTg (w4.alloc (.cells #[.int .i64 0, .string ⟨#[]⟩, .int .i64 0] FaT)) db ⟨#[46]⟩ pv from ⟨cb, _, _, alloc_keep hd _⟩)
      have HP := Lib.hid (hp.below hA)
      have HF1 := Lib.hid (heap_last w4 (.cells #[.int .i64 0, .string ⟨#[]⟩, .int .i64 0] FaT))
      have HT4 := Lib.hid ((there_ff w.heap.size t).below _ _ hA ((there_ff w.heap.size t).below _ _ B4 HT3.out))
      have hl1 : l.length ≤ 30 := by have h1 := congrArg List.length hl; rw [List.length_map] at h1; have h2 := HPt.out.2.2.2.2; omega
      have HLl := Lib.hid (And.intro hl hl1)
      clear hA hd hp hl hl1 B4 HN3 HB3 HS3 HT3 hdb
      go_upto_region 16 with (fail)
      generalize w4.alloc (.cells #[.int .i64 0, .string ⟨#[]⟩, .int .i64 0] FaT) = w5 at *
      have hnf : ∀ w' : World, (binOp .eql 46 (.func (.func 11) #[] #[.pointer (some ⟨w.heap.size, 0, none⟩)]) .nilFunc).run Tryz.prog w' = .ok (.bool false) w' := fun w' => by kernel_rfl
      have HO := Lib.hid (Of_any (w := w5) (there_ff w.heap.size t) hnf HT4.out HNT.out HP.out HLl.out.2 xoB xoB [120] xOf xOf (by decide) (by decide) (by decide) (fun q hq => by
        have h1 : q.p ∈ l.map PnV.p := List.mem_map_of_mem hq
        rw [HLl.out.1] at h1
        exact HPt.out.2.2.2.1 _ h1))
      clear hnf
      go_wp2_with fail
      refine HO.out.mono ?_
      rintro e w6 ⟨hc, B6⟩
      unfold CompP at hc
      rw [HLl.out.1] at hc
      have HB6 := Lib.hid (HB4.out.trans (B6.mono HB4.out.size))
      have HF6 := Lib.hid ((B6.block _ (Array.getElem?_eq_some_iff.1 HF1.out).1).trans HF1.out)
      have HNT6 := Lib.hid (HNT.out.below B6)
      clear B6 HO HP HNT HF1 HB4 HT4 HLl HPt HT1 HE1 hen6 hmf
      rcases HFd.out with ⟨hf, rfl⟩ | ⟨e0, j, he, hj, hf, hwt⟩
      · rw [hf] at hc
        subst hc
        have hA6 := (Below.refl w6.heap.size w6).alloc (Nat.le_refl _) (.cells (nodeZ xoB xoB) NoT)
        have HB7 := Lib.hid (HB6.out.trans (hA6.mono HB6.out.size))
        have HF7 := Lib.hid ((hA6.block _ (Array.getElem?_eq_some_iff.1 HF6.out).1).trans HF6.out)
        have HN7 := Lib.hid (heap_last w6 (.cells (nodeZ xoB xoB) NoT))
        have HT7 := Lib.hid (HNT6.out.below hA6)
        clear hA6 HF6 HNT6
        unfold nodeZ nodeC at *
        go_upto_region 17 with (fail)
        generalize w6.alloc (.cells #[.string xoB, .string xoB, .slice none 0 0, .slice none 0 0, .slice none 0 0, .string ⟨#[]⟩, .int .i64 0, .bool false, .bool false] NoT) = w7 at *
        have HC := Lib.hid (Commands_none (HG.out.below HB7.out) (some ⟨sb, 0, none⟩) HT7.out xoB xoB ⟨#[]⟩ 0 false false (by decide) (by decide))
        unfold nodeC at HC
        go_wp2_with (refine wpList_load_row rfl NoT _ rfl w6.heap.size rfl NoT _ (0, 0) _ HN7.out undNo rfl sizeNo ?_)
        refine HC.out.mono ?_
        rintro e w8 ⟨rfl, B8⟩
        have hA8 : Below w8.heap.size w8 (w8.alloc (.cells #[.int .i64 0, .string ⟨#[]⟩, .int .i64 0] FaT)) := (Below.refl _ w8).alloc (Nat.le_refl _) _
        have hB8 := HB7.out.trans (B8.mono HB7.out.size)
        have HB8 := Lib.hid (hB8.trans (hA8.mono hB8.size))
        have hf9 := (hA8.block _ (Nat.lt_of_lt_of_le (Array.getElem?_eq_some_iff.1 HF7.out).1 B8.size)).trans ((B8.block _ (Array.getElem?_eq_some_iff.1 HF7.out).1).trans HF7.out)
        have hn9 := (hA8.block _ (Nat.lt_of_lt_of_le (Array.getElem?_eq_some_iff.1 HN7.out).1 B8.size)).trans ((B8.block _ (Array.getElem?_eq_some_iff.1 HN7.out).1).trans HN7.out)
        have hz9 := heap_last w8 (.cells #[.int .i64 0, .string ⟨#[]⟩, .int .i64 0] FaT)
        clear hA8 hB8 B8 HC HN7 HF7 HT7 HB7
        go_upto_region 18 with (fail)
        generalize w8.alloc (.cells #[.int .i64 0, .string ⟨#[]⟩, .int .i64 0] FaT) = w9 at *
        have f0 : w9.cell? ⟨w4.heap.size, 0, none⟩ = some (.int .i64 0) := cell_at hf9 rfl
        have lf := (Array.getElem?_eq_some_iff.1 hf9).1
        have n8 : w9.cell? ⟨w6.heap.size, 8, none⟩ = some (.bool false) := cell_at hn9 rfl
        have ln := (Array.getElem?_eq_some_iff.1 hn9).1
        have z0 : w9.cell? ⟨w8.heap.size, 0, none⟩ = some (.int .i64 0) := cell_at hz9 rfl
        have lz := (Array.getElem?_eq_some_iff.1 hz9).1
        have hs0 : (str [] : ByteArray) = ⟨#[]⟩ := rfl
        clear hf9 hn9 hz9
        go_wp2_with fail
        go_ret
        exact ⟨rfl, HB8.out⟩
      · rw [hf] at hc
        obtain ⟨nv, rv, r, hr, rfl, hnv, hrv⟩ := hc
        obtain rfl : r = ⟨2 * j + 1 + 1, Fp.echoS j, true⟩ := by have : [(⟨2 * j + 1 + 1, Fp.echoS j, true⟩ : Ip.L)] = [r] := hr; exact (List.cons.inj this).1.symm
        obtain ⟨gf, cf, rfl, hfa, _, _⟩ := files_one_is hnv
        obtain ⟨gr, cr, rfl, _⟩ := id hrv
        have hA6 := (Below.refl w6.heap.size w6).alloc (Nat.le_refl _) (.cells (nodeC xoB xoB (.slice (some ⟨gf, 0, none⟩) 1 cf) (.slice none 0 0) (.slice (some ⟨gr, 0, none⟩) 1 cr) (str [120]) ((patOf e0 j).ln : Int) false true) NoT)
        have HB7 := Lib.hid (HB6.out.trans (hA6.mono HB6.out.size))
        have HF7 := Lib.hid ((hA6.block _ (Array.getElem?_eq_some_iff.1 HF6.out).1).trans HF6.out)
        have HN7 := Lib.hid (heap_last w6 (.cells (nodeC xoB xoB (.slice (some ⟨gf, 0, none⟩) 1 cf) (.slice none 0 0) (.slice (some ⟨gr, 0, none⟩) 1 cr) (str [120]) ((patOf e0 j).ln : Int) false true) NoT))
        have HT7 := Lib.hid (HNT6.out.below hA6)
        have HA7 := Lib.hid (hfa.block (hA6.block _ hfa.lt))
        have HL7 := Lib.hid (hrv.below hA6)
        have HJ := Lib.hid (And.intro hj he)
        have HWT := Lib.hid hwt
        clear hA6 HF6 HNT6 hnv hrv hfa hr hf he hj HFd hwt
        unfold nodeC at *
        go_upto_region 17 with (fail)
        generalize w6.alloc (.cells #[.string xoB, .string xoB, .slice (some ⟨gf, 0, none⟩) 1 cf, .slice none 0 0, .slice (some ⟨gr, 0, none⟩) 1 cr, .string (str [120]), .int .i64 ((patOf e0 j).ln : Int), .bool false, .bool true] NoT) = w7 at *
        have HC := Lib.hid (Commands_one (HG.out.below HB7.out) (some ⟨sb, 0, none⟩) HT7.out xoB xoB (str (xOf (patOf e0 j))) (str [120]) (.slice (some ⟨gr, 0, none⟩) 1 cr) ⟨2 * j + 1 + 1, Fp.echoS j, true⟩ HL7.out ((patOf e0 j).ln : Int) (cf := cf) (str (xOf (patOf e0 j))) (by obtain ⟨cs, f1, f2, f3⟩ := HA7.out; exact cell_at f1 f2) (by obtain ⟨cs, f1, f2, f3⟩ := HA7.out; exact cell_at f1 f3) HA7.out.lt (by show 3 ≤ 100; decide) (by decide) (by decide) (Fp.echoS j) (by intro h; cases h)
          (fun W tb mb L gv hM hall => text_flat W _ _ gv (Fp.echoS j) (echo_dollar j HJ.out.1) (by show 6 ≤ 1000; decide))
          (fun W => command_is W (Fp.echoS j) (by show 6 ≤ 1000; decide) (echo_trim j HJ.out.1) (echo_left j HJ.out.1) ((2 * j + 1 + 1 : Nat) : Int)))
        unfold nodeC at HC
        go_wp2_with (refine wpList_load_row rfl NoT _ rfl w6.heap.size rfl NoT _ (0, 0) _ HN7.out undNo rfl sizeNo ?_)
        refine HC.out.mono ?_
        rintro e w8 ⟨gl, cl, rfl, hgl, hll, B8⟩
        have hA8 : Below w8.heap.size w8 (w8.alloc (.cells #[.int .i64 0, .string ⟨#[]⟩, .int .i64 0] FaT)) := (Below.refl _ w8).alloc (Nat.le_refl _) _
        have hB8 := HB7.out.trans (B8.mono HB7.out.size)
        have HB8 := Lib.hid (hB8.trans (hA8.mono hB8.size))
        have hf9 := (hA8.block _ (Nat.lt_of_lt_of_le (Array.getElem?_eq_some_iff.1 HF7.out).1 B8.size)).trans ((B8.block _ (Array.getElem?_eq_some_iff.1 HF7.out).1).trans HF7.out)
        have hn9 := (hA8.block _ (Nat.lt_of_lt_of_le (Array.getElem?_eq_some_iff.1 HN7.out).1 B8.size)).trans ((B8.block _ (Array.getElem?_eq_some_iff.1 HN7.out).1).trans HN7.out)
        have hz9 := heap_last w8 (.cells #[.int .i64 0, .string ⟨#[]⟩, .int .i64 0] FaT)
        have hr9 := (hA8.cell (p := ⟨gl, 0, none⟩) hll).trans hgl
        have hl9 := Nat.lt_of_lt_of_le hll hA8.size
        clear hA8 hB8 B8 HC HN7 HF7 HT7 HB7 HA7 HL7 hgl hll
        go_upto_region 18 with (fail)
        generalize w8.alloc (.cells #[.int .i64 0, .string ⟨#[]⟩, .int .i64 0] FaT) = w9 at *
        have f0 : w9.cell? ⟨w4.heap.size, 0, none⟩ = some (.int .i64 0) := cell_at hf9 rfl
        have lf := (Array.getElem?_eq_some_iff.1 hf9).1
        have n8 : w9.cell? ⟨w6.heap.size, 8, none⟩ = some (.bool true) := cell_at hn9 rfl
        have ln := (Array.getElem?_eq_some_iff.1 hn9).1
        have z0 : w9.cell? ⟨w8.heap.size, 0, none⟩ = some (.int .i64 0) := cell_at hz9 rfl
        have lz := (Array.getElem?_eq_some_iff.1 hz9).1
        obtain ⟨cj, hcj⟩ : ∃ cj, cj = UInt8.ofNat (48 + j) := ⟨_, rfl⟩
        have hs0 : (str WT : ByteArray) = ⟨#[cj]⟩ := by rw [HWT.out, hcj]; rfl
        have hx1 : ((⟨#[cj]⟩ : ByteArray).toList == []) = false := by rw [toList_by8]; rfl
        have hx2 : ¬ (⟨#[cj]⟩ : ByteArray).toList = [] := by rw [toList_by8]; exact List.cons_ne_nil _ _
        have hec : (str (Fp.echoS j) : ByteArray) = ⟨#[101, 99, 104, 111, 32]⟩ ++ ⟨#[cj]⟩ := by rw [hcj]; rfl
        rw [hec] at hr9
        clear hf9 hn9 hz9 hcj hec
        go_wp2_with fail
        go_ret
        exact ⟨rfl, HB8.out⟩
end Go.Proofs.YtgednccpjegbmaaGreatDoor.Dq
