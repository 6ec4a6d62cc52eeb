/-
  package text: words, findstring, subst.
  package text: sort.
  package text: firstword.
  package text: join.
-/
import Derived.Lib.CountLaws
import Derived.Lib.SplitLaws
import Derived.Lib.Replace
import Derived.Lib.ItoaMem
import Derived.Test.YtgednccpjegbmaaGreatDoorQEPBase
import Derived.Test.YtgednccpjegbmaaGreatDoorQAPlain
import Derived.Sort.OwnSorted
import Derived.Lib.OwnBridge
import Derived.Test.YtgednccpjegbmaaGreatDoorQEPKept
import Derived.Test.YtgednccpjegbmaaGreatDoorQEPNum
import Derived.Test.YtgednccpjegbmaaGreatDoorQEPFns2
import Derived.Deep.AppendLies
import Derived.Laws.OwnMore
namespace Go.Proofs.YtgednccpjegbmaaGreatDoor.Ew
open Go.RowKit Go.Proofs.YtgednccpjegbmaaGreatDoor Go.Proofs.YtgednccpjegbmaaGreatDoor.Ww Go.Proofs.YtgednccpjegbmaaGreatDoor.Tw
set_option maxRecDepth 100000

theorem dec_digits : ∀ u : Nat, Lib.decDigits u = Ep.digitsA u := by
  intro u
  induction u using Nat.strongRecOn with
  | ind u ih =>
    unfold Lib.decDigits Ep.digitsA
    by_cases h : u < 10
    · rw [dif_pos h, if_pos h]
    · rw [dif_neg h, if_neg h, ih _ (by omega)]
set_option maxHeartbeats 2000000 in
theorem Pcount_any (w : World) (p : ByteArray) (h0 : p.size ≤ 9000) (hG : GM w) : Calls Tryz.prog 247 #[.string p] w fun e w' => e = .returned (.string (str (Ep.digitsA (wordsS p).length))) ∧ Below w.heap.size w w' := by
  have HL := Lib.hid fun W => PSplit_any W p (by omega)
  have hwl := words_few p
  have HI : Hid (∀ W, Below w.heap.size w W → Calls Tryz.prog 287 #[.int .i64 ((wordsS p).length : Int)] W fun e w' => e = .returned (.string (str (Ep.digitsA (wordsS p).length))) ∧ Below W.heap.size W w') := Lib.hid fun W hW => by
    refine (Tryz.strconv_Itoa ((wordsS p).length : Int) (by omega) (by omega) W (hG.below hW).tab).mono ?_
    rintro e w' ⟨rfl, k, os, rfl⟩
    refine ⟨?_, ⟨rfl, rfl, rfl, by show W.heap.size ≤ (W.heap ++ os).size; rw [Array.size_append]; omega, fun _ hj => Sort.heap_grow_old (W.drewN k) os hj⟩⟩
    rw [Lib.itoa_nonneg, dec_digits]; rfl
  clear hG
  generalize wordsS p = L at *
  go_enter Tryz.func247, Tryz.ntmps247
  go_wp2_with fail
  refine (HL.out _).mono ?_
  rintro e w1 ⟨a1, c1, rfl, HO, B1⟩
  have HB := Lib.hid B1
  clear B1
  go_wp2_with fail
  refine (HI.out _ HB.out).mono ?_
  rintro e w2 ⟨rfl, B2⟩
  go_wp2_with fail
  go_ret
  exact ⟨rfl, HB.out.trans (B2.mono HB.out.size)⟩
set_option maxHeartbeats 2000000 in
theorem Pfindstring_any (w : World) (a b : ByteArray) (hb : b.size ≤ 9000) (hG : GM w) : Calls Tryz.prog 242 #[.string a, .string b] w fun e w' => e = .returned (.string (if Ep.insideA (by8 a) (by8 b) = true then a else ⟨#[]⟩)) ∧ Below w.heap.size w w' := by
  obtain ⟨m, hm⟩ := hG.max
  have HC := Lib.hid (Tryz.strings_Contains b a m w (by omega) hm)
  have e0 : Lib.contains b.data.toList a.data.toList = Ep.insideA (by8 a) (by8 b) := rfl
  rw [e0] at HC
  clear e0 hm hG
  generalize Ep.insideA (by8 a) (by8 b) = q at *
  go_enter Tryz.func242, Tryz.ntmps242
  cases q
  · go_wp2_with fail
    refine HC.out.mono ?_
    rintro e w' ⟨rfl, rfl⟩
    go_wp2_with fail
    go_ret
    exact ⟨rfl, Below.refl _ _⟩
  · go_wp2_with fail
    refine HC.out.mono ?_
    rintro e w' ⟨rfl, rfl⟩
    go_wp2_with fail
    go_ret
    exact ⟨rfl, Below.refl _ _⟩

/-- Nothing is found among the first bytes: they stay. -/
theorem subst_skip (a b : List UInt8) : ∀ (i : Nat) (c : List UInt8) (f : Nat), c.length ≤ f → i ≤ c.length → (∀ j, j < i → Lib.occAt c a j = false) → Ep.substGo a b f c = c.take i ++ Ep.substGo a b (f - i) (c.drop i)
  | 0, c, f, _, _, _ => by simp
  | i + 1, [], f, _, hi, _ => by simp at hi
  | i + 1, x :: c, 0, hf, _, _ => by simp at hf
  | i + 1, x :: c, f + 1, hf, hi, hn => by
    have h0 : a.isPrefixOf (x :: c) = false := hn 0 (Nat.succ_pos _)
    rw [Ep.substGo_cons, if_neg (by rw [h0]; decide), subst_skip a b i c f (by simpa using hf) (by simpa using hi) (fun j hj => by have := hn (j + 1) (by omega); exact this)]
    simp
theorem subst_replace (a b : List UInt8) (ha : a ≠ []) : ∀ (n : Nat) (c : List UInt8), c.length ≤ n → Lib.replaceK a b (Lib.count c a) c = Ep.substGo a b c.length c := by
  intro n
  induction n with
  | zero =>
    intro c hc
    obtain rfl : c = [] := List.length_eq_zero_iff.1 (by omega)
    have : Lib.count [] a = 0 := Lib.count_miss (Lib.index_none fun j hj => by
      obtain rfl : j = 0 := by simpa using hj
      cases a with
      | nil => exact absurd rfl ha
      | cons x r => rfl)
    rw [this]; rfl
  | succ n ih =>
    intro c hc
    rcases Lib.index_spec c a with ⟨h, hn⟩ | ⟨i, h, hi, ho, hn⟩
    · rw [Lib.count_miss h]
      rw [subst_skip a b c.length c c.length (Nat.le_refl _) (Nat.le_refl _) (fun j hj => hn j (by omega))]
      rw [List.take_of_length_le (Nat.le_refl _), List.drop_of_length_le (Nat.le_refl _), Ep.substGo_nil, List.append_nil]; rfl
    · have la : 0 < a.length := List.length_pos_iff.2 ha
      have hr := Lib.index_room c a (by omega)
      have hr2 : i + a.length ≤ c.length := by omega
      rw [Lib.count_hit ha h, Nat.add_comm, Lib.replaceK_hit _ _ _ _ _ h, ih _ (by rw [List.length_drop]; omega)]
      rw [subst_skip a b i c c.length (Nat.le_refl _) hi (fun j hj => hn j hj)]
      obtain ⟨f, hf⟩ : ∃ f, c.length - i = f + 1 := ⟨c.length - i - 1, by omega⟩
      have ho2 : a.isPrefixOf (c.drop i) = true := ho
      rw [hf, List.append_assoc]
      congr 1
      have hlt : i < c.length := by omega
      rw [List.drop_eq_getElem_cons hlt] at ho2 ⊢
      rw [Ep.substGo_cons, if_pos ho2, ← List.drop_eq_getElem_cons hlt, List.drop_drop]
      congr 1
      exact Ep.substGo_more a b ha _ _ _ (Nat.le_refl _) (by rw [List.length_drop]; omega)
theorem subst_same (a : List UInt8) (ha : a ≠ []) : ∀ (f : Nat) (c : List UInt8), c.length ≤ f → Ep.substGo a a f c = c
  | _, [], _ => Ep.substGo_nil _ _ _
  | 0, _ :: _, h => by simp at h
  | f + 1, x :: c, h => by
    have la : 0 < a.length := List.length_pos_iff.2 ha
    rw [Ep.substGo_cons]
    by_cases hp : a.isPrefixOf (x :: c) = true
    · rw [if_pos hp, subst_same a ha f _ (by rw [List.length_drop, List.length_cons]; simp at h; omega)]
      obtain ⟨t, ht⟩ := List.isPrefixOf_iff_prefix.1 hp
      rw [← ht, List.drop_left']
      rfl
    · rw [if_neg hp, subst_same a ha f c (by simpa using h)]
theorem subst_all (a b c : List UInt8) (ha : a ≠ []) : Lib.replaceAll c a b = Ep.substA a b c := by
  unfold Lib.replaceAll Lib.replace Ep.substA
  rw [if_neg ha]
  by_cases h : a = b
  · subst h
    rw [if_pos (beq_self_eq_true _), subst_same a ha _ _ (Nat.le_refl _)]
  · rw [if_neg (fun e => h (beq_iff_eq.1 e))]
    unfold Lib.replaceNum
    rw [if_pos (.inl (by omega))]
    exact subst_replace a b ha _ c (Nat.le_refl _)
set_option maxHeartbeats 2000000 in
theorem Psubst_any (w : World) (a b c : ByteArray) (hb : b.size ≤ 9000) (hc : c.size ≤ 9000) (hG : GM w) : Calls Tryz.prog 237 #[.string a, .string b, .string c] w fun e w' => e = .returned (.string (str (Ep.substA (by8 a) (by8 b) (by8 c)))) ∧ Below w.heap.size w w' := by
  by_cases h0 : by8 a = []
  · have hz : (a.toList == []) = true := by rw [toList_by8, h0]; rfl
    have HE : Hid (str (Ep.substA (by8 a) (by8 b) (by8 c)) = c ++ b) := Lib.hid (by
      unfold Ep.substA
      rw [if_pos h0]
      refine by8_ext ?_
      rw [by8_str]
      show _ = (c ++ b).data.toList
      simp [by8])
    rw [HE.out]
    clear h0 hG
    have hsz : c.size + b.size ≤ 18000 := by omega
    go_enter Tryz.func237, Tryz.ntmps237
    go_wp2_with fail
    go_ret
    exact ⟨rfl, Below.refl _ _⟩
  · have hz : (a.toList == []) = false := by rw [toList_by8]; exact beq_eq_false_iff_ne.2 h0
    obtain ⟨m, hm⟩ := hG.max
    have hp : 1 ≤ a.size := by rw [← by8_len]; exact List.length_pos_iff.2 h0
    have HC : Hid (Calls Tryz.prog 281 #[.string c, .string a, .string b] w fun e w' => e = .returned (.string (str (Ep.substA (by8 a) (by8 b) (by8 c)))) ∧ Below w.heap.size w w') := Lib.hid (by
      have hcl := Lib.countB_le a hp c.size c (Nat.le_refl _)
      refine (Tryz.strings_ReplaceAll c a b m w (by omega) hm hp (by
        have h2 := Nat.mul_le_mul (Nat.le_trans hcl hc) hb
        omega)).mono ?_
      rintro e w' ⟨rfl, B⟩
      exact ⟨congrArg (fun l => Ending.returned (.string (str l))) (subst_all (by8 a) (by8 b) (by8 c) h0), B⟩)
    clear h0 hG hm
    generalize str (Ep.substA (by8 a) (by8 b) (by8 c)) = r at *
    go_enter Tryz.func237, Tryz.ntmps237
    go_wp2_with fail
    refine HC.out.mono ?_
    rintro e w1 ⟨rfl, B1⟩
    go_wp2_with fail
    go_ret
    exact ⟨rfl, B1⟩
end Go.Proofs.YtgednccpjegbmaaGreatDoor.Ew
namespace Go.Proofs.YtgednccpjegbmaaGreatDoor.Ew
open Go.RowKit Go.Sort Go.Proofs.YtgednccpjegbmaaGreatDoor Go.Proofs.YtgednccpjegbmaaGreatDoor.Ww Go.Proofs.YtgednccpjegbmaaGreatDoor.Tw
set_option maxRecDepth 100000

def leB8 : List UInt8 → List UInt8 → Bool := fun x y => decide (x ≤ y)
theorem lt_of_bl : ∀ {x y : List UInt8}, Wp.bl x y = true → x < y
  | _, [], h => by simp [Wp.bl, Op.bytesLess] at h
  | [], _ :: _, _ => List.nil_lt_cons _ _
  | a :: x, b :: y, h => by
    have e1 : (decide (a < b) || (a == b && Wp.bl x y)) = true := h
    simp only [Bool.or_eq_true, decide_eq_true_eq, Bool.and_eq_true, beq_iff_eq] at e1
    rw [List.cons_lt_cons_iff]
    rcases e1 with e1 | ⟨rfl, e1⟩
    · exact .inl e1
    · exact .inr ⟨rfl, lt_of_bl e1⟩
theorem bl_of_le {x y : List UInt8} (h : x ≤ y) (hn : x ≠ y) : Wp.bl x y = true := by
  have hf : Wp.bl y x = false := by
    cases hb : Wp.bl y x with
    | false => rfl
    | true => exact absurd (lt_of_bl hb) (List.not_lt.2 h)
  exact Wp.bl_total hf (fun e => hn e.symm)
/-- A list of different texts, sorted. -/
theorem sorted_is (l L : List ByteArray) (hnd : l.Nodup) (hm : ∀ z, z ∈ l ↔ z ∈ L) : ((l.map by8).mergeSort leB8).map str = Wp.sortS L := by
  have tr : ∀ a b c : List UInt8, leB8 a b = true → leB8 b c = true → leB8 a c = true := fun a b c h1 h2 => by simp only [leB8, decide_eq_true_eq] at *; exact List.le_trans h1 h2
  have to : ∀ a b : List UInt8, (leB8 a b || leB8 b a) = true := fun a b => by simp only [leB8, Bool.or_eq_true, decide_eq_true_eq]; exact List.le_total a b
  have hp := List.mergeSort_perm (l.map by8) leB8
  have hnd8 : (l.map by8).Nodup := List.pairwise_map.2 (hnd.imp fun hne e => hne (by8_ext e))
  refine Wp.sort_ext ?_ ?_
  · unfold Wp.Strict
    rw [List.pairwise_map]
    have h1 := List.pairwise_mergeSort tr to (l.map by8)
    have h2 : ((l.map by8).mergeSort leB8).Nodup := hp.nodup_iff.2 hnd8
    refine (h1.and h2).imp ?_
    rintro x y ⟨hxy, hne⟩
    simp only [leB8, decide_eq_true_eq] at hxy
    exact bl_of_le hxy hne
  · intro z
    rw [List.mem_map]
    constructor
    · rintro ⟨y, hy, rfl⟩
      obtain ⟨x, hx, rfl⟩ := List.mem_map.1 (hp.mem_iff.1 hy)
      rw [str_by8]
      exact (hm x).1 hx
    · intro hz
      exact ⟨by8 z, hp.mem_iff.2 (List.mem_map.2 ⟨z, (hm z).2 hz, rfl⟩), str_by8 z⟩
theorem encs_strs (l : List ByteArray) : (l.map by8).map encStr = strsC l := by
  unfold strsC
  rw [List.map_map]
  apply List.map_congr_left
  intro x _
  show Value.string (str (by8 x)) = Value.string x
  rw [str_by8]
/-- slices.Sort of strings of the call's own. -/
theorem PSort_own (w : World) {base : Nat} {v : Value} {l : List ByteArray} (h : w.ownsRow base ST 1 v l.length (strsC l)) (hl : l.length ≤ 1000000) (hb0 : base ≤ w.heap.size) :
    Calls Tryz.prog 68 #[v] w fun e w' => e = .returned (.tuple #[]) ∧ w'.ownsRow base ST 1 v l.length (strsC (((l.map by8).mergeSort leB8).map str)) ∧ Below base w w' := by
  rcases h.2 with ⟨rfl, h0⟩ | ⟨g, cap, cur, rfl, hb, hgb, h1, h2, h3, h4⟩
  · obtain rfl : l = [] := List.eq_nil_of_length_eq_zero h0
    refine (Tryz.slices_Sort_string_none none 0 w).mono ?_
    rintro e w' ⟨rfl, rfl⟩
    exact ⟨rfl, by simpa [strsC] using World.ownsRow_nil _ base ST 1, Below.refl _ _⟩
  · have e8 : (l.map by8).length = l.length := List.length_map ..
    have hH : Holds encStr w g 0 (l.map by8).toArray := holds_of_block hgb (by rw [e8, encs_strs]; simpa using h4)
    have HC := Tryz.slices_Sort_string g 0 cap (l.map by8) w hH (Array.getElem?_eq_some_iff.1 hgb).1 (by omega)
    rw [e8] at HC
    refine HC.mono ?_
    rintro e w' ⟨rfl, n, os, rfl⟩
    have hlen : ((l.map by8).mergeSort leB8).length = (l.map by8).length := List.length_mergeSort _
    refine ⟨rfl, ?_, (Below.refl base w).grown (grownBy_sorted _) hb0 fun j e => by cases e; exact hb⟩
    have := ownsRow_sorted (ts := (l.map by8).mergeSort leB8) (os := os) (n := n) hlen hb hgb (by rw [e8]; exact h1) h2 h3
    rw [e8] at this
    have e9 : strsC (((l.map by8).mergeSort leB8).map str) = ((l.map by8).mergeSort leB8).map encStr := by
      unfold strsC
      rw [List.map_map]
      rfl
    rw [e9]
    exact this
set_option maxHeartbeats 2000000 in
theorem Psort_any (w : World) (p : ByteArray) (h0 : p.size ≤ 9000) : Calls Tryz.prog 244 #[.string p] w fun e w' => e = .returned (.string (joinS (Wp.sortS (wordsS p)))) ∧ Below w.heap.size w w' := by
  have HL := Lib.hid fun W => PSplit_any W p (by omega)
  have hwl := words_few p
  have HS : Hid (∀ q ∈ wordsS p, q.size ≤ 9000) := Lib.hid fun q hq => word_lim h0 hq
  generalize wordsS p = L at *
  have HX := Lib.hid (sorted_is (Wp.uniq L) L (Wp.uniq_nodup L) (fun z => Wp.mem_uniq))
  have hul := Wp.uniq_len L
  have HZ : Hid (∀ q ∈ Wp.sortS L, q.size ≤ 9000) := Lib.hid fun q hq => HS.out q (Wp.sort_mem.1 hq)
  have hsl := Wp.sort_len L
  have HQ : Hid ((Wp.sortS L).length = (Wp.uniq L).length) := Lib.hid (by rw [← HX.out, List.length_map, List.length_mergeSort, List.length_map])
  go_enter Tryz.func244, Tryz.ntmps244
  go_wp2_with fail
  refine (HL.out _).mono ?_
  rintro e w1 ⟨a1, c1, rfl, HO, B1⟩
  have HB1 := Lib.hid B1
  have HU := Lib.hid (Wu.Unique_any w1 (.slice a1 L.length c1) L (Rd.of_own HO.out) (by omega) (fun x hx => by have := HS.out x hx; omega))
  clear B1
  go_wp2_with fail
  refine HU.out.mono ?_
  rintro e w2 ⟨a2, c2, rfl, ho2, B2⟩
  have HB2 := Lib.hid (HB1.out.trans (B2.mono HB1.out.size))
  have HT := Lib.hid (PSort_own w2 (owns_weaken ho2 (Nat.le_add_right w1.heap.size 1)) (by omega) B2.size)
  clear B2 ho2
  go_wp2_with fail
  refine HT.out.mono ?_
  rintro e w3 ⟨rfl, ho3, B3⟩
  rw [HX.out, ← HQ.out] at ho3
  have HB3 := Lib.hid (HB2.out.trans (B3.mono HB1.out.size))
  have HJ := Lib.hid (PJoin_any w3 _ (Wp.sortS L) (Rd.of_own ho3) (by omega) (fun q hq => by have := HZ.out q hq; omega))
  rw [HQ.out] at HJ
  clear B3 ho3
  go_wp2_with fail
  refine HJ.out.mono ?_
  rintro e w4 ⟨rfl, B4⟩
  go_wp2_with fail
  go_ret
  exact ⟨rfl, HB3.out.trans (B4.mono HB3.out.size)⟩
end Go.Proofs.YtgednccpjegbmaaGreatDoor.Ew
namespace Go.Proofs.YtgednccpjegbmaaGreatDoor.Ew
open Go.RowKit Go.Shelf Go.Proofs.YtgednccpjegbmaaGreatDoor Go.Proofs.YtgednccpjegbmaaGreatDoor.Ww Go.Proofs.YtgednccpjegbmaaGreatDoor.Tw
attribute [local go_sem] Oper.semAt_some
set_option maxRecDepth 100000

def FiI (w : World) (s : ByteArray) (pre : List (Nat × Nat)) (W : World) : Prop :=
  pre = [] ∧ Boxed W w.heap.size ST (.string ⟨#[]⟩) ∧ Boxed W (w.heap.size + 1) ST (.string s) ∧ Below w.heap.size w W
def FiX (w : World) (s : ByteArray) (c : Code) (pre : List (Nat × Nat)) (W : World) : Prop :=
  (c = .ret ∧ pre.length = 1) ∧ Boxed W w.heap.size ST (.string (Ww.part s (pre.getD 0 (0, 0)))) ∧ Below w.heap.size w W
theorem FiI.own (w : World) (s : ByteArray) (B : Nat) (hB : w.heap.size ≤ B) : OwnFrom B (FiI w s) :=
  OwnFrom.and (Own.from (fun _ _ _ _ h _ _ => h) _) (OwnFrom.and (Own.from (boxed_own w.heap.size ST (fun _ : List (Nat × Nat) => .string ⟨#[]⟩)) _) (OwnFrom.and (Own.from (boxed_own (w.heap.size + 1) ST (fun _ : List (Nat × Nat) => .string s)) _) (ownFrom_below (Nat.le_refl _) hB)))
theorem FiX.own (w : World) (s : ByteArray) (c : Code) (B : Nat) (hB : w.heap.size ≤ B) : OwnFrom B (FiX w s c) :=
  OwnFrom.and (Own.from (fun _ _ _ _ h _ _ => h) _) (OwnFrom.and (Own.from (boxed_own w.heap.size ST (fun pre : List (Nat × Nat) => .string (Ww.part s (pre.getD 0 (0, 0))))) _) (ownFrom_below (Nat.le_refl _) hB))
def firstS (s : ByteArray) : ByteArray := (wordsS s).headD ⟨#[]⟩
theorem first_is (s : ByteArray) : joinS (someS (wordsS s) 1 1) = firstS s := by
  unfold firstS someS
  cases h : wordsS s with
  | nil => rfl
  | cons x r => show joinS [x] = x; exact join_one x
set_option maxHeartbeats 4000000 in
theorem Pfirst_any (w : World) (s : ByteArray) (hs : s.size ≤ 9000) : Calls Tryz.prog 250 #[.string s] w fun e w' => e = .returned (.string (joinS (someS (wordsS s) 1 1))) ∧ Below w.heap.size w w' := by
  rw [first_is]
  refine (callsIn_wide (n := 9)).1 ?_
  refine callsIn_of_wp_marks Tryz.func250 rfl trivial ?_ rfl
  simp only [Tryz.ntmps250, List.size_toArray, List.length_cons, List.length_nil, Nat.reduceAdd, Nat.reduceSub, Array.replicate_succ, Array.replicate_zero, List.push_toArray, List.append_toArray, List.nil_append, List.cons_append]
  gi_wp2_with (refine ⟨trivial, ?_⟩; gi_at_call 152; refine (callsIn_wide.2 (Ww.Each_any _ s)).mono ?_; rintro e w' ⟨rfl, rfl⟩)
  have k0 := Boxed.new w ST (.string ⟨#[]⟩)
  have k1 := Boxed.new (w.alloc (.cells #[.string ⟨#[]⟩] ST)) ST (.string s)
  simp only [World.size_alloc] at k1
  have hB0 : Below w.heap.size w ((w.alloc (.cells #[.string ⟨#[]⟩] ST)).alloc (.cells #[.string s] ST)) := ((Below.refl _ w).alloc (Nat.le_refl _) _).alloc (by simp) _
  refine range_law (by omega) (gf := 202) (lb := #[.pointer (some ⟨w.heap.size + 1, 0, none⟩)]) rfl (enters_of Tryz.func202 (by kernel_rfl) rfl)
    (each_iters _ (by omega) (w.heap.size + 1) s (by omega) _ k1) mineE_keeps (keepB_trans _) (keepB_put (by simp)) (fun _ => rfl)
    (FiI w s) (FiX w s) (FiI.own w s _ (by simp; omega)) (fun c => FiX.own w s c _ (by simp; omega)) (fun _ X Y h e => by cases e; exact h)
    ⟨rfl, k0.alloc _, k1, hB0⟩
    ?a1 ?assign ?body ?done ?stop
  case assign =>
    intro l x W K hK
    gi_wp2
    exact hK
  case body =>
    rintro l pre x W ⟨rfl, hv, hs1, hB⟩ hsp
    have cv := hv.cell
    have fv := hv.frozen
    clear k0 k1 hB0
    gi_wp2
    exact ⟨KeepsOthers.setCell _ _ _, ⟨rfl, rfl⟩, hv.set _, hB.setCell (p := ⟨w.heap.size, 0, none⟩) (Nat.le_refl _) _⟩
  case done =>
    rintro D xs W hD hxs ⟨rfl, hv, hs1, hB⟩ hK
    have cv := hv.cell
    have fv := hv.frozen
    have HE : Hid (firstS s = ⟨#[]⟩) := Lib.hid (by unfold firstS wordsS; rw [← hxs]; rfl)
    have hD' : w.heap.size + 2 ≤ D := by simp at hD; omega
    have hKO : KeepsOthers W (W.setCell ⟨w.heap.size, 0, none⟩ (.string ⟨#[]⟩)) := KeepsOthers.setCell _ _ _
    have HK2 := Lib.hid (hKO.same D _ hK rfl)
    have HV2 := Lib.hid (hv.set (.string ⟨#[]⟩))
    have HB2 := Lib.hid (hB.setCell (p := ⟨w.heap.size, 0, none⟩) (Nat.le_refl _) (.string ⟨#[]⟩))
    clear k0 k1 hB0 hxs hKO hv hs1 hB hK
    gi_wp2
    refine ⟨by simp, .inl ⟨_, _, rfl, run_takeDeferred HK2.out, ?_⟩⟩
    have hcell := cell_kept HV2.out.cell (grownBy_putObj' (W.setCell ⟨w.heap.size, 0, none⟩ (.string ⟨#[]⟩)) D (.deferred none)) (fun r e => by cases e; exact ⟨_, HK2.out, rfl⟩)
    exact ⟨.string ⟨#[]⟩, by simp [results, go_sem, hcell], by rw [HE.out], HB2.out.trans (belowK_b (w := w) (Nat.le_refl _) _ D _ _ (by omega) HK2.out rfl rfl)⟩
  case stop =>
    rintro D c pre W hD hpre ⟨⟨rfl, hl⟩, hv, hB⟩ hK
    have cv := hv.cell
    have HE : Hid (firstS s = Ww.part s (pre.getD 0 (0, 0))) := Lib.hid (by
      obtain ⟨r, hr⟩ := hpre
      match pre, hl with
      | [x], _ =>
        unfold firstS wordsS
        rw [← hr]; rfl)
    have hD' : w.heap.size + 2 ≤ D := by simp at hD; omega
    have HK2 := Lib.hid hK
    have HB2 := Lib.hid hB
    have HV2 := Lib.hid hv
    clear k0 k1 hB0 hpre hl hv hB hK
    gi_wp2
    refine ⟨by simp, .inl ⟨_, _, rfl, run_takeDeferred HK2.out, ?_⟩⟩
    have hcell := cell_kept HV2.out.cell (grownBy_putObj' W D (.deferred none)) (fun r e => by cases e; exact ⟨_, HK2.out, rfl⟩)
    exact ⟨.string (Ww.part s (pre.getD 0 (0, 0))), by simp only [List.getD] at hcell; simp [results, go_sem, hcell], by rw [HE.out], HB2.out.trans (belowK_b (w := w) (Nat.le_refl _) _ D _ _ (by omega) HK2.out rfl rfl)⟩
end Go.Proofs.YtgednccpjegbmaaGreatDoor.Ew
namespace Go.Proofs.YtgednccpjegbmaaGreatDoor.Ew
open Go.RowKit Go.Proofs.YtgednccpjegbmaaGreatDoor Go.Proofs.YtgednccpjegbmaaGreatDoor.Ww Go.Proofs.YtgednccpjegbmaaGreatDoor.Tw
set_option maxRecDepth 100000

theorem pairs_more {x y : List ByteArray} {k : Nat} (h : k < y.length) (hx : x.length ≤ k) : pairsS x (y.take (k + 1)) = pairsS x (y.take k) ++ [y[k]] := by
  apply List.ext_getElem?
  intro j
  have hl : (pairsS x (y.take k)).length = k := by rw [pairs_len, List.length_take]; omega
  rw [pairs_get, List.getElem?_take, List.getElem?_append, hl]
  by_cases hj : j < k
  · rw [if_pos (by omega), if_pos hj, pairs_get, List.getElem?_take, if_pos hj]
  · rw [if_neg hj, List.getElem?_eq_none (l := x) (by omega)]
    by_cases e : j = k
    · subst e
      rw [if_pos (by omega), List.getElem?_eq_getElem h, Nat.sub_self]; rfl
    · rw [if_neg (by omega), List.getElem?_eq_none (by simp; omega)]
theorem pairs_set {x y : List ByteArray} {k : Nat} (h : k < y.length) (hx : k < x.length) : pairsS x (y.take (k + 1)) = (pairsS x (y.take k)).set k (x[k] ++ y[k]) := by
  apply List.ext_getElem?
  intro j
  have hl : (pairsS x (y.take k)).length = x.length := by rw [pairs_len, List.length_take]; omega
  rw [pairs_get, List.getElem?_take, List.getElem?_set, hl]
  by_cases e : k = j
  · subst e
    rw [if_pos (by omega), if_pos rfl, if_pos hx, List.getElem?_eq_getElem hx, List.getElem?_eq_getElem h]
  · rw [if_neg e, pairs_get, List.getElem?_take]
    by_cases hj : j < k
    · rw [if_pos (by omega), if_pos hj]
    · rw [if_neg (by omega), if_neg hj]
theorem pairs_at {x y : List ByteArray} {k : Nat} (hx : k < x.length) : (pairsS x (y.take k))[k]? = some x[k] := by
  rw [pairs_get, List.getElem?_take, if_neg (Nat.lt_irrefl _), List.getElem?_eq_getElem hx]
theorem strsC_set (l : List ByteArray) (k : Nat) (z : ByteArray) : strsC (l.set k z) = (strsC l).set k (.string z) := by unfold strsC; rw [List.map_set]
/-- What a round of join knows. -/
def JpRel (w : World) (x y : List ByteArray) (vy vl vi : Value) (wr : World) : Prop :=
  ∃ (k n c : Nat) (ad : Option Addr), vl = .slice ad n c ∧ vi = .int .i64 (k : Int) ∧ k ≤ y.length ∧ n = (pairsS x (y.take k)).length ∧ wr.ownsRow w.heap.size ST 1 (.slice ad n c) n (strsC (pairsS x (y.take k))) ∧
    wr.ownsRow w.heap.size ST 1 vy y.length (strsC y) ∧ (vl.ownBlock = none ∨ vl.ownBlock ≠ vy.ownBlock) ∧ Below w.heap.size w wr
set_option maxHeartbeats 4000000 in
theorem Pjoin_any (w : World) (a b : ByteArray) (ha : a.size ≤ 9000) (hb : b.size ≤ 9000) : Calls Tryz.prog 259 #[.string a, .string b] w fun e w' => e = .returned (.string (joinS (pairsS (wordsS a) (wordsS b)))) ∧ Below w.heap.size w w' := by
  obtain ⟨i0, hi, hz0, hz1, hz2⟩ := info_parts infoS
  have HLa := Lib.hid fun W => PSplit_any W a (by omega)
  have HLb := Lib.hid fun W => PSplit_any W b (by omega)
  have hwa := words_few a
  have hwb := words_few b
  have HSa : Hid (∀ q ∈ wordsS a, q.size ≤ 9000) := Lib.hid fun q hq => word_lim ha hq
  have HSb : Hid (∀ q ∈ wordsS b, q.size ≤ 9000) := Lib.hid fun q hq => word_lim hb hq
  generalize wordsS a = x at *
  generalize wordsS b = y at *
  go_enter Tryz.func259, Tryz.ntmps259
  go_wp2_with fail
  refine (HLa.out _).mono ?_
  rintro e w1 ⟨a1, c1, rfl, HOa, B1⟩
  have HB1 := Lib.hid B1
  clear B1
  go_wp2_with fail
  refine (HLb.out _).mono ?_
  rintro e w2 ⟨a2, c2, rfl, HOb, B2⟩
  have HB2 := Lib.hid (HB1.out.trans (B2.mono HB1.out.size))
  have HOa2 := Lib.hid (owns_below HOa.out B2)
  have HOb2 := Lib.hid (owns_weaken HOb.out HB1.out.size)
  have HAp : Hid ((Value.slice a1 x.length c1).ownBlock = none ∨ (Value.slice a1 x.length c1).ownBlock ≠ (Value.slice a2 y.length c2).ownBlock) := Lib.hid (by
    by_cases h : (Value.slice a1 x.length c1).ownBlock = none
    · exact .inl h
    · obtain ⟨g, hg⟩ := Option.ne_none_iff_exists'.1 h
      refine .inr fun e => ?_
      have h1 := (HOa.out.lt _ hg).2
      have h2 := (HOb.out.lt _ (e ▸ hg)).1
      omega)
  clear B2
  go_wp2_with fail
  go_loopw [5, 13] (fun vl vi wr => JpRel w x y (.slice a2 y.length c2) vl vi wr) (fun _ vi _ => y.length - (intOf vi).toNat)
  case atStart => exact ⟨0, x.length, c1, a1, rfl, rfl, Nat.zero_le _, by rw [List.take_zero, pairs_nil], by rw [List.take_zero, pairs_nil]; exact HOa2.out, HOb2.out, HAp.out, HB2.out⟩
  case round =>
    obtain ⟨k, n, c, ad, rfl, rfl, hk, hn, hol, hoy, hap, hB⟩ := hrel
    have HY := Lib.hid hoy
    have HL := Lib.hid hol
    have HA := Lib.hid hap
    have HB := Lib.hid hB
    have HN := Lib.hid hn
    have hpl := pairs_len x (y.take k)
    rw [List.length_take] at hpl
    by_cases hlt : k < y.length
    · obtain ⟨g2, o2, c3, hv, hc3, hg2, hx2⟩ := (Rd.of_own hoy).open_ (by rw [strsC_len]; omega)
      rw [strsC_len] at hv hc3
      obtain ⟨rfl, _, rfl⟩ := (Value.slice.injEq ..).mp hv
      have hcx := hx2 k _ (strsC_get y hlt)
      have hki : (k : Int) < y.length := by omega
      have hk0 : (0 : Int) ≤ (k : Int) := Int.natCast_nonneg _
      have hyz := HSb.out _ (List.getElem_mem hlt)
      clear hx2 hv hoy hap hB
      by_cases hin : k < x.length
      · have hkn : k < n := by omega
        obtain ⟨g, cp, hv2, hgb, hgl⟩ := hol.form (by omega)
        obtain ⟨rfl, _, rfl⟩ := (Value.slice.injEq ..).mp hv2
        have hnc : n ≤ c := by
          rcases HL.out.2 with ⟨h, _⟩ | ⟨_, _, _, h, _, _, h1, _⟩
          · cases h
          · cases h; exact h1
        have hcl : w1.heap.size = w1.heap.size := rfl
        have hc5 := hol.cellAt k (by omega)
        rw [show (strsC (pairsS x (y.take k)))[k]? = some (.string x[k]) by unfold strsC; rw [List.getElem?_map, pairs_at hin]; rfl] at hc5
        have hf5 := hol.frozenAt k
        have hxz := HSa.out _ (List.getElem_mem hin)
        have HS5 := Lib.hid (hol.stored k (.string (x[k] ++ y[k])))
        have HNx : Hid (pairsS x (y.take (k + 1)) = (pairsS x (y.take k)).set k (x[k] ++ y[k])) := Lib.hid (pairs_set hlt hin)
        have hki2 : (k : Int) < (n : Int) := by omega
        clear hol hv2 hn hpl hcl
        generalize x[k] = p at *
        generalize y[k] = q at *
        have hsz : p.size + q.size ≤ 18000 := by omega
        go_wp2_with fail
        go_roundw
        case rel =>
          refine ⟨k + 1, n, c, _, rfl, by go_num, hlt, by rw [HNx.out, List.length_set]; exact HN.out, by rw [HNx.out, strsC_set]; exact HS5.out.1, HY.out.kept HS5.out.2 (.inr ?_), HA.out, HB.out.setCell (p := ⟨g, k, none⟩) hgb _⟩
          rcases HA.out with h | h
          · cases h
          · exact fun e => h e.symm
        case measure => simp [intOf]; omega
      · obtain rfl : n = k := by omega
        have HNx : Hid (pairsS x (y.take (n + 1)) = pairsS x (y.take n) ++ [y[n]]) := Lib.hid (pairs_more hlt (by omega))
        have hki2 : ¬ (n : Int) < (n : Int) := by omega
        clear hol hn hpl
        generalize y[n] = q at *
        go_wp2_with (at_builtin; refine wpList_append_own_at _ rfl _ _ 76 rfl w.heap.size ST i0 (.string ByteArray.empty) 1 16 Tryz.underlying76 hi hz0 hz1 hz2 rfl (by decide) _ _ _ rfl (HL.out.alloc _) ⟨wr.heap.size, 0, none⟩ 1 1 [.string q] rfl rfl (cell_one_new _ _ _) (by simp [Value.oneCell']) (by unfold maxLen; omega) (by omega) (by have := HB.out.size; simp; omega) ?_; intro v' w5 hown' hgrow _ hat; obtain ⟨a5, c5, rfl⟩ := owns_slice hown')
        go_roundw
        case rel =>
          refine ⟨n + 1, n + 1, c5, a5, rfl, by go_num, hlt, by rw [HNx.out, List.length_append, ← HN.out]; rfl, by rw [HNx.out, show strsC (pairsS x (y.take n) ++ [q]) = strsC (pairsS x (y.take n)) ++ [.string q] by simp [strsC]]; exact hown', (HY.out.alloc _).kept hgrow ?_, ?_, (HB.out.alloc HB.out.size _).grown hgrow (by have := HB.out.size; simp; omega) fun j ej => (HL.out.lt j ej).1⟩
          · rcases HA.out with h | h
            · exact .inr fun e => by cases e.trans h
            · exact .inr fun e => h e.symm
          · rcases hat with h | h
            · rw [h]; exact HA.out
            · rw [h]
              right
              intro e
              have := (HY.out.lt _ e.symm).2
              simp at this
              omega
        case measure => simp [intOf]; omega
    · obtain rfl : k = y.length := by omega
      have hki : ¬ (y.length : Int) < y.length := by omega
      rw [List.take_of_length_le (Nat.le_refl _)] at hn hol hpl
      have HJ := Lib.hid (PJoin_any wr (.slice ad n c) (pairsS x y) (Rd.of_own hol) (by omega) (fun q hq => by have := pairs_size HSa.out HSb.out q hq; omega))
      clear hol hn hpl hoy hap hB
      go_wp2_with fail
      refine HJ.out.mono ?_
      rintro e w3 ⟨rfl, B3⟩
      go_wp2_with fail
      go_ret
      exact ⟨rfl, HB.out.trans (B3.mono HB.out.size)⟩
end Go.Proofs.YtgednccpjegbmaaGreatDoor.Ew
