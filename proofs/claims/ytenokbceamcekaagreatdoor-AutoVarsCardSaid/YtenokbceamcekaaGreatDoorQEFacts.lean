/-
  Words, put together; what TextWords asks, in plain words.
-/
import Derived.Test.YtenokbceamcekaaGreatDoorQECall2
namespace Go.Proofs.YtenokbceamcekaaGreatDoor.Ew
open Go.RowKit Go.Proofs.YtenokbceamcekaaGreatDoor Go.Proofs.YtenokbceamcekaaGreatDoor.Ww Go.Proofs.YtenokbceamcekaaGreatDoor.Tw
set_option maxRecDepth 100000

abbrev bs (l : List ByteArray) : List (List UInt8) := l.map (·.data.toList)
theorem bs_inj : ∀ {a b : List ByteArray}, bs a = bs b → a = b
  | [], [], _ => rfl
  | x :: a, y :: b, h => by
    have h := List.cons.inj h
    rw [Wp.bytes_ext h.1, bs_inj h.2]
theorem words_bs (u : ByteArray) : bs (wordsS u) = Wp.wl [] (by8 u) := by
  rw [← Wp.items_wl]
  unfold wordsS
  rw [bs, List.map_map]
  refine List.map_congr_left fun x hx => ?_
  show (u.extract x.1 x.2).data.toList = _
  rw [ByteArray.data_extract, Array.toList_extract, List.extract_eq_take_drop]
  rfl
def GoodS (p : ByteArray) : Prop := Wp.Good (by8 p)
theorem words_good {u p : ByteArray} (h : p ∈ wordsS u) : GoodS p := by
  have h1 : by8 p ∈ bs (wordsS u) := List.mem_map.2 ⟨p, h, rfl⟩
  rw [words_bs] at h1
  exact Wp.wl_good _ _ (fun _ h => (List.not_mem_nil h).elim) _ h1
theorem words_join {l : List ByteArray} (h : ∀ p ∈ l, GoodS p) : wordsS (joinS l) = l := by
  refine bs_inj ?_
  rw [words_bs]
  show Wp.wl [] (Lib.join (bs l) [32]) = _
  exact Wp.wl_join _ fun x hx => by
    obtain ⟨p, hp, rfl⟩ := List.mem_map.1 hx
    exact h p hp
theorem wl_cut : ∀ (u acc v : List UInt8), Wp.wl acc (u ++ 32 :: v) = Wp.wl acc u ++ Wp.wl [] v
  | [], acc, v => by
    have e1 : Wp.wl acc (32 :: v) = if acc = [] then Wp.wl [] v else acc :: Wp.wl [] v := rfl
    have e2 : Wp.wl acc [] = if acc = [] then [] else [acc] := by unfold Wp.wl; rfl
    rw [List.nil_append, e1, e2]
    split <;> rfl
  | c :: u, acc, v => by
    have e1 : ∀ t, Wp.wl acc (c :: t) = if Wp.blankB c = true then (if acc = [] then Wp.wl [] t else acc :: Wp.wl [] t) else Wp.wl (acc ++ [c]) t := fun t => rfl
    rw [List.cons_append, e1, e1]
    split
    · split
      · exact wl_cut u [] v
      · rw [wl_cut u [] v]; rfl
    · exact wl_cut u _ v
theorem words_both (u v : ByteArray) : wordsS (u ++ ⟨#[32]⟩ ++ v) = wordsS u ++ wordsS v := by
  refine bs_inj ?_
  have e : bs (wordsS u ++ wordsS v) = bs (wordsS u) ++ bs (wordsS v) := List.map_append
  rw [e, words_bs, words_bs, words_bs, by8_add, by8_add, List.append_assoc]
  exact wl_cut _ _ _
theorem words_one {p : ByteArray} (h : GoodS p) : wordsS p = [p] := by
  have h1 := words_join (l := [p]) fun q hq => by rw [List.mem_singleton.1 hq]; exact h
  have h2 : joinS [p] = p := by8_ext (by
    show Lib.join [p.data.toList] [32] = _
    rw [Lib.join_one]; rfl)
  rwa [h2] at h1
theorem join_one (p : ByteArray) : joinS [p] = p := by8_ext (by
  show Lib.join [p.data.toList] [32] = _
  rw [Lib.join_one]; rfl)
theorem each_one (g : ByteArray → ByteArray) (p : ByteArray) : joinS (eachS g [p]) = g p := by
  by_cases h : by8 (g p) = []
  · have e : eachS g [p] = [] := by unfold eachS; simp [h]
    rw [e]
    exact by8_ext h.symm
  · have e : eachS g [p] = [g p] := by unfold eachS; simp [h]
    rw [e, join_one]
theorem join_len {l : List ByteArray} {n : Nat} (h : ∀ p ∈ l, p.size ≤ n) : (joinS l).size ≤ (l.map (·.size)).sum + l.length := by
  have key : ∀ l : List ByteArray, (Lib.joinTail [32] (bs l)).length = (l.map (·.size)).sum + l.length := by
    intro l
    induction l with
    | nil => rfl
    | cons x r ih =>
      have e : Lib.joinTail [32] (bs (x :: r)) = 32 :: (x.data.toList ++ Lib.joinTail [32] (bs r)) := by simp [Lib.joinTail, bs]
      rw [e, List.length_cons, List.length_append, ih, List.map_cons, List.sum_cons, List.length_cons, ← Lib.size_eq]; omega
  cases l with
  | nil => exact Nat.zero_le _
  | cons x r =>
    have e : (joinS (x :: r)).size = (x.data.toList ++ Lib.joinTail [32] (bs r)).length := by
      rw [← by8_len]
      show (Lib.join (bs (x :: r)) [32]).length = _
      rw [show bs (x :: r) = x.data.toList :: bs r from rfl, Lib.join_cons]
    rw [e, List.length_append, key r, List.map_cons, List.sum_cons, List.length_cons, ← Lib.size_eq]; omega

theorem sort_again (L : List ByteArray) : Wp.sortS (Wp.sortS L) = Wp.sortS L := (Wp.sort_ext (Wp.sort_strict L) fun _ => Iff.rfl).symm
theorem kept_both (P L : List ByteArray) (z : ByteArray) : z ∈ keptS P true L ++ keptS P false L ↔ z ∈ L := by
  unfold keptS
  rw [List.mem_append, List.mem_filter, List.mem_filter]
  constructor
  · rintro (h | h) <;> exact h.1
  · intro h
    cases e : ofS P z with
    | true => exact .inl ⟨h, by rfl⟩
    | false => exact .inr ⟨h, by rfl⟩
theorem kept_both_len (P L : List ByteArray) : (keptS P true L ++ keptS P false L).length = L.length := by
  unfold keptS
  rw [List.length_append]
  induction L with
  | nil => rfl
  | cons x L ih =>
    cases e : ofS P x <;> simp [e] at ih ⊢ <;> omega
theorem kept_sum (P : List ByteArray) (q : Bool) (L : List ByteArray) : ((keptS P q L).map (·.size)).sum ≤ (L.map (·.size)).sum := by
  unfold keptS
  induction L with
  | nil => exact Nat.le_refl _
  | cons x L ih =>
    rw [List.filter_cons]
    split
    · rw [List.map_cons, List.map_cons, List.sum_cons, List.sum_cons]; omega
    · rw [List.map_cons, List.sum_cons]; omega
/-- A text's words are no longer than it. -/
theorem wl_sum : ∀ (u acc : List UInt8), ((Wp.wl acc u).map List.length).sum + (Wp.wl acc u).length ≤ acc.length + u.length + 1
  | [], acc => by
    unfold Wp.wl
    split
    · simp
    · simp
  | c :: u, acc => by
    unfold Wp.wl
    split
    · have ih := wl_sum u []
      split
      · rw [List.length_cons]; rw [List.length_nil] at ih; omega
      · rw [List.map_cons, List.sum_cons, List.length_cons, List.length_cons]; rw [List.length_nil] at ih; omega
    · have ih := wl_sum u (acc ++ [c])
      rw [List.length_append, List.length_singleton] at ih
      rw [List.length_cons]; omega
theorem words_sum (u : ByteArray) : ((wordsS u).map (·.size)).sum + (wordsS u).length ≤ u.size + 1 := by
  have h := wl_sum (by8 u) []
  rw [← words_bs, by8_len, List.length_nil] at h
  have e : ((bs (wordsS u)).map List.length).sum = ((wordsS u).map (·.size)).sum := by
    rw [bs, List.map_map]
    congr 1
  rw [e, show (bs (wordsS u)).length = (wordsS u).length from List.length_map ..] at h
  omega
theorem kept_join (P : List ByteArray) (q : Bool) (u : ByteArray) : (joinS (keptS P q (wordsS u))).size ≤ u.size + 1 := by
  have h1 := join_len (l := keptS P q (wordsS u)) (n := u.size) fun p hp => words_size (List.mem_filter.1 hp).1
  have h2 := kept_sum P q (wordsS u)
  have h3 := kept_len P q (wordsS u)
  have h4 := words_sum u
  omega
/- Figures. -/
theorem digit_fig (k : Nat) (h : k < 10) : (UInt8.ofNat (48 + k)).toNat = 48 + k := by
  match k, h with
  | 0, _ => rfl
  | 1, _ => rfl
  | 2, _ => rfl
  | 3, _ => rfl
  | 4, _ => rfl
  | 5, _ => rfl
  | 6, _ => rfl
  | 7, _ => rfl
  | 8, _ => rfl
  | 9, _ => rfl
theorem numGo_snoc : ∀ (s : List UInt8) (n : Nat) (c : UInt8), Ep.numGo n (s ++ [c]) = match Ep.numGo n s with | none => none | some m => if c.toNat < 48 ∨ 57 < c.toNat then none else if 1073741824 < 10 * m + (c.toNat - 48) then none else some (10 * m + (c.toNat - 48))
  | [], n, c => by rw [List.nil_append, Ep.numGo]; rfl
  | d :: s, n, c => by
    rw [List.cons_append, Ep.numGo, Ep.numGo]
    split
    · rfl
    · split
      · rfl
      · exact numGo_snoc s _ c
theorem num_digits (n : Nat) : n ≤ 1073741824 → Ep.numGo 0 (Ep.digitsA n) = some n := by
  induction n using Nat.strongRecOn with
  | _ n ih =>
    intro hn
    rw [Ep.digitsA]
    split
    · rename_i h
      rw [Ep.numGo, digit_fig n h, if_neg (by omega), if_neg (by omega), Ep.numGo]
      congr 1; omega
    · rename_i h
      have hm : n % 10 < 10 := Nat.mod_lt _ (by decide)
      rw [numGo_snoc, ih (n / 10) (by omega) (by omega)]
      show (if _ then none else _) = _
      rw [digit_fig _ hm, if_neg (by omega), if_neg (by omega)]
      congr 1; omega
theorem digits_good (n : Nat) : ∀ c ∈ Ep.digitsA n, 48 ≤ c.toNat := by
  induction n using Nat.strongRecOn with
  | _ n ih =>
    intro c hc
    rw [Ep.digitsA] at hc
    split at hc
    · rename_i h
      rw [List.mem_singleton.1 hc, digit_fig n h]; omega
    · rename_i h
      rcases List.mem_append.1 hc with hc | hc
      · exact ih (n / 10) (by omega) c hc
      · rw [List.mem_singleton.1 hc, digit_fig _ (Nat.mod_lt _ (by decide))]; omega
theorem digits_ne (n : Nat) : Ep.digitsA n ≠ [] := by
  rw [Ep.digitsA]
  split
  · simp
  · simp
theorem trim_same {s : List UInt8} (h : ∀ c ∈ s, Wp.blankB c = false) : trimT (str s) = str s := by
  refine by8_ext ?_
  show Lib.trimS s [32, 9, 10] = s
  have key : ∀ l : List UInt8, (∀ c ∈ l, Wp.blankB c = false) → l.dropWhile (fun x => [32, 9, 10].contains x) = l := by
    intro l hl
    cases l with
    | nil => rfl
    | cons c r => rw [List.dropWhile_cons, contains_blank, hl c (by simp)]; rfl
  unfold Lib.trimS Lib.trimLeftS Lib.trimRightS
  rw [key s.reverse (fun c hc => h c (List.mem_reverse.1 hc)), List.reverse_reverse, key s h]
theorem num_of (n : Nat) (hn : n ≤ 1073741824) : numS (str (Ep.digitsA n)) = some n := by
  unfold numS
  rw [trim_same fun c hc => by
    have := digits_good n c hc
    unfold Wp.blankB
    simp only [Bool.or_eq_false_iff, beq_eq_false_iff_ne]
    refine ⟨⟨?_, ?_⟩, ?_⟩ <;> (rintro rfl; revert this; decide)]
  unfold Ep.numA
  rw [by8_str, if_neg (digits_ne n)]
  exact num_digits n hn
theorem some_one {L : List ByteArray} {i : Nat} (h : i < L.length) : someS L (i + 1) (i + 1) = [L[i]] := by
  unfold someS
  rw [List.take_succ_eq_append_getElem h, show i + 1 - 1 = i from rfl, List.drop_append_of_le_length (by rw [List.length_take]; omega), List.drop_of_length_le (by rw [List.length_take]; omega)]
  rfl
/- What the calls of TextWords come to. -/
theorem res_sort (s : ByteArray) : resS 6 [s] = (joinS (Wp.sortS (wordsS s)), 0) := rfl
theorem res_again (s : ByteArray) : resS 6 [joinS (Wp.sortS (wordsS s))] = (joinS (Wp.sortS (wordsS s)), 0) := by
  rw [res_sort, words_join fun p hp => words_good (Wp.sort_mem.1 hp), sort_again]
theorem res_both (p s : ByteArray) : wordsS (joinS (keptS (wordsS p) true (wordsS s)) ++ ⟨#[32]⟩ ++ joinS (keptS (wordsS p) false (wordsS s))) = keptS (wordsS p) true (wordsS s) ++ keptS (wordsS p) false (wordsS s) := by
  rw [words_both, words_join (l := keptS (wordsS p) true (wordsS s)) fun q hq => words_good (List.mem_filter.1 hq).1, words_join (l := keptS (wordsS p) false (wordsS s)) fun q hq => words_good (List.mem_filter.1 hq).1]
theorem res_sort_both (p s : ByteArray) : resS 6 [joinS (keptS (wordsS p) true (wordsS s)) ++ ⟨#[32]⟩ ++ joinS (keptS (wordsS p) false (wordsS s))] = (joinS (Wp.sortS (wordsS s)), 0) := by
  rw [res_sort, res_both]
  congr 2
  exact Wp.strict_ext (Wp.sort_strict _) (Wp.sort_strict _) fun z => by rw [Wp.sort_mem, Wp.sort_mem, kept_both]
theorem res_word {s : ByteArray} {i : Nat} (h : i < (wordsS s).length) (hs : s.size ≤ 1000000) : resS 7 [str (Ep.digitsA (i + 1)), s] = ((wordsS s)[i], 0) := by
  have hw := words_few s
  show pickS (numS (str (Ep.digitsA (i + 1)))) (numS (str (Ep.digitsA (i + 1)))) (wordsS s) = _
  rw [num_of _ (by omega), pick_good (by omega), some_one h, join_one]
theorem res_each {k : Nat} (hk : k = 12 ∨ k = 13 ∨ k = 14 ∨ k = 15) {x : ByteArray} (h : GoodS x) : resS k [x] = (oneS k [x] x, 0) := by
  have e : resS k [x] = (joinS (eachS (oneS k [x]) (wordsS x)), 0) := by
    rcases hk with rfl | rfl | rfl | rfl <;> rfl
  rw [e, words_one h, each_one]
theorem cut_size (x : ByteArray) (n : Nat) : x.extract 0 n ++ x.extract n x.size = x := by8_ext (by
  rw [by8_add, by8_take, by8_drop, List.take_append_drop])
theorem dir_name (x : ByteArray) : (oneS 12 [x] x ++ oneS 13 [x] x = x) ∨ (oneS 12 [x] x ++ oneS 13 [x] x = ⟨#[46, 47]⟩ ++ x) := by
  have h1 : oneS 12 [x] x = if Ep.nameA (by8 x) = 0 then ⟨#[46, 47]⟩ else x.extract 0 (Ep.nameA (by8 x)) := rfl
  have h2 : oneS 13 [x] x = x.extract (Ep.nameA (by8 x)) x.size := rfl
  rw [h1, h2]
  by_cases h : Ep.nameA (by8 x) = 0
  · rw [if_pos h, h]
    exact .inr (by rw [show x.extract 0 x.size = x from by8_ext (by rw [by8_take, List.take_of_length_le (by rw [by8_len]; exact Nat.le_refl _)])])
  · rw [if_neg h]
    exact .inl (cut_size x _)
theorem base_end (x : ByteArray) : oneS 15 [x] x ++ oneS 14 [x] x = x := cut_size x _

abbrev szs (l : List ByteArray) : Nat := (l.map (·.size)).sum
theorem szs_cons (x : ByteArray) (l : List ByteArray) : szs (x :: l) = x.size + szs l := by simp [szs]
theorem mrgU_sum : ∀ (p q : List ByteArray), szs (Wp.mrgU p q) ≤ szs p + szs q
  | [], q => by rw [Wp.mrgU_left]; omega
  | x :: p, [] => by rw [Wp.mrgU_right]; omega
  | x :: p, y :: q => by
    rcases Wp.three x y with rfl | h | h
    · have := mrgU_sum p q
      rw [Wp.mrgU_same, szs_cons, szs_cons, szs_cons]; omega
    · have := mrgU_sum p (y :: q)
      rw [Wp.mrgU_lt h, szs_cons, szs_cons x p]; omega
    · have := mrgU_sum (x :: p) q
      rw [Wp.mrgU_gt h, szs_cons, szs_cons y q]; omega
termination_by p q => p.length + q.length
theorem srt_sum : ∀ (n : Nat) (l : List ByteArray), szs (Wp.srt n l) ≤ szs l
  | 0, l => Nat.le_refl _
  | n + 1, l => by
    rw [Wp.srt]
    split
    · exact Nat.le_refl _
    · have h1 := srt_sum n (l.take (l.length / 2))
      have h2 := srt_sum n (l.drop (l.length / 2))
      have h3 := mrgU_sum (Wp.srt n (l.take (l.length / 2))) (Wp.srt n (l.drop (l.length / 2)))
      have h4 : szs (l.take (l.length / 2)) + szs (l.drop (l.length / 2)) = szs l := by
        unfold szs
        rw [← List.sum_append, ← List.map_append, List.take_append_drop]
      omega
theorem sort_join (u : ByteArray) : (joinS (Wp.sortS (wordsS u))).size ≤ u.size + 1 := by
  have h1 := join_len (l := Wp.sortS (wordsS u)) (n := u.size) fun p hp => words_size (Wp.sort_mem.1 hp)
  have h2 := srt_sum (wordsS u).length (wordsS u)
  have h3 := Wp.sort_len (wordsS u)
  have h4 := words_sum u
  have h5 : szs (Wp.sortS (wordsS u)) ≤ szs (wordsS u) := h2
  unfold szs at h5
  omega
end Go.Proofs.YtenokbceamcekaaGreatDoor.Ew
