/-
  Each element of a list once; the reference's way, over sorted places. No program here.
-/
import Derived.Test.YtenokbceamcekaaGreatDoorQWReads
namespace Go.Proofs.YtenokbceamcekaaGreatDoor.Wp

theorem bytes_ext {a b : ByteArray} (h : a.data.toList = b.data.toList) : a = b := by
  have : a.data = b.data := Array.toList_inj.1 h
  cases a; cases b; simp at this; subst this; rfl
/-- Is a word on a list? -/
def has (acc : List ByteArray) (x : ByteArray) : Bool := acc.any fun y => y.data.toList == x.data.toList
theorem has_iff {acc : List ByteArray} {x : ByteArray} : has acc x = true ↔ x ∈ acc := by
  unfold has
  rw [List.any_eq_true]
  constructor
  · rintro ⟨y, hy, e⟩
    rw [← bytes_ext (beq_iff_eq.1 e)]; exact hy
  · intro h; exact ⟨x, h, beq_self_eq_true _⟩
/-- A list's elements once, in the order of their first occurrences. -/
def addU (acc : List ByteArray) (x : ByteArray) : List ByteArray := if has acc x = true then acc else acc ++ [x]
theorem addU_old {acc : List ByteArray} {x : ByteArray} (h : has acc x = true) : addU acc x = acc := if_pos h
theorem addU_new {acc : List ByteArray} {x : ByteArray} (h : has acc x = false) : addU acc x = acc ++ [x] := if_neg (by rw [h]; decide)
def uniq (l : List ByteArray) : List ByteArray := l.foldl addU []

theorem uniq_snoc (l : List ByteArray) (x : ByteArray) : uniq (l ++ [x]) = addU (uniq l) x := by simp [uniq, List.foldl_append]
theorem uniq_take {l : List ByteArray} {k : Nat} (h : k < l.length) : uniq (l.take (k + 1)) = addU (uniq (l.take k)) l[k] := by
  rw [List.take_succ_eq_append_getElem h, uniq_snoc]
theorem mem_addU {acc : List ByteArray} {x y : ByteArray} : y ∈ addU acc x ↔ y ∈ acc ∨ y = x := by
  unfold addU
  split
  · rename_i h
    exact ⟨.inl, fun e => e.elim id fun e => e ▸ has_iff.1 h⟩
  · simp
theorem mem_fold : ∀ (l acc : List ByteArray) (y : ByteArray), y ∈ l.foldl addU acc ↔ y ∈ acc ∨ y ∈ l
  | [], acc, y => by simp
  | x :: l, acc, y => by rw [List.foldl_cons, mem_fold l, mem_addU, List.mem_cons, or_assoc]
theorem mem_uniq {l : List ByteArray} {y : ByteArray} : y ∈ uniq l ↔ y ∈ l := by unfold uniq; rw [mem_fold]; simp
theorem fold_len : ∀ (l acc : List ByteArray), (l.foldl addU acc).length ≤ acc.length + l.length
  | [], acc => by simp
  | x :: l, acc => by
    have h1 := fold_len l (addU acc x)
    have h2 : (addU acc x).length ≤ acc.length + 1 := by unfold addU; split <;> simp
    rw [List.foldl_cons, List.length_cons]; omega
theorem uniq_len (l : List ByteArray) : (uniq l).length ≤ l.length := by have := fold_len l []; simpa [uniq] using this
theorem fold_nodup : ∀ (l acc : List ByteArray), acc.Nodup → (l.foldl addU acc).Nodup
  | [], _, h => h
  | x :: l, acc, h => by
    rw [List.foldl_cons]
    refine fold_nodup l _ ?_
    unfold addU
    split
    · exact h
    · rename_i hx
      rw [List.nodup_append]
      refine ⟨h, by simp, ?_⟩
      intro a ha b hb e
      simp at hb
      subst hb; subst e
      exact hx (has_iff.2 ha)
theorem uniq_nodup (l : List ByteArray) : (uniq l).Nodup := fold_nodup l [] (by simp)
theorem fold_same : ∀ (l acc : List ByteArray), (acc ++ l).Nodup → l.foldl addU acc = acc ++ l
  | [], acc, _ => by simp
  | x :: l, acc, h => by
    have hx : ¬ x ∈ acc := fun hm => by
      rw [List.nodup_append] at h
      exact h.2.2 x hm x (by simp) rfl
    rw [List.foldl_cons, show addU acc x = acc ++ [x] from if_neg (fun h => hx (has_iff.1 h)), fold_same l _ (by simpa using h)]
    simp
theorem uniq_same {l : List ByteArray} (h : l.Nodup) : uniq l = l := by have := fold_same l [] (by simpa using h); simpa [uniq] using this
theorem uniq_uniq (l : List ByteArray) : uniq (uniq l) = uniq l := uniq_same (uniq_nodup l)

/-- Bytes in their order. -/
abbrev bl := Op.bytesLess
theorem bl_irrefl : ∀ (x : Bs), bl x x = false
  | [] => rfl
  | a :: x => by
    show (decide (a < a) || (a == a && bl x x)) = false
    rw [bl_irrefl x]; simp
theorem bl_trans : ∀ {x y z : Bs}, bl x y = true → bl y z = true → bl x z = true
  | _, _, [], _, h => by simp [bl, Op.bytesLess] at h
  | [], _, _ :: _, _, _ => rfl
  | _ :: _, [], _ :: _, h, _ => by simp [bl, Op.bytesLess] at h
  | a :: x, b :: y, c :: z, h1, h2 => by
    have e1 : decide (a < b) || (a == b && bl x y) := h1
    have e2 : decide (b < c) || (b == c && bl y z) := h2
    show (decide (a < c) || (a == c && bl x z)) = true
    simp only [Bool.or_eq_true, decide_eq_true_eq, Bool.and_eq_true, beq_iff_eq] at e1 e2 ⊢
    rcases e1 with e1 | ⟨rfl, e1⟩
    · rcases e2 with e2 | ⟨rfl, e2⟩
      · exact .inl (UInt8.lt_trans e1 e2)
      · exact .inl e1
    · rcases e2 with e2 | ⟨rfl, e2⟩
      · exact .inl e2
      · exact .inr ⟨rfl, bl_trans e1 e2⟩
theorem bl_total : ∀ {x y : Bs}, bl x y = false → x ≠ y → bl y x = true
  | [], [], _, h => absurd rfl h
  | [], _ :: _, h, _ => by simp [bl, Op.bytesLess] at h
  | _ :: _, [], _, _ => rfl
  | a :: x, b :: y, h, hn => by
    have e1 : (decide (a < b) || (a == b && bl x y)) = false := h
    show (decide (b < a) || (b == a && bl y x)) = true
    simp only [Bool.or_eq_false_iff, decide_eq_false_iff_not, Bool.and_eq_false_iff, beq_eq_false_iff_ne] at e1
    simp only [Bool.or_eq_true, decide_eq_true_eq, Bool.and_eq_true, beq_iff_eq]
    by_cases hab : a = b
    · subst hab
      rcases e1.2 with e | e
      · exact absurd rfl e
      · exact .inr ⟨rfl, bl_total e (fun h => hn (by rw [h]))⟩
    · left
      have := e1.1
      rw [UInt8.lt_iff_toNat_lt] at this ⊢
      have hne : a.toNat ≠ b.toNat := fun e => hab (UInt8.toNat_inj.1 e)
      omega
def le (x y : Bs) : Bool := bl x y || x == y

/-- Places, by the words there, then by themselves. -/
def lt2 (v : Nat → Bs) (i j : Nat) : Prop := bl (v i) (v j) = true ∨ (v i = v j ∧ i < j)
theorem lt2_trans {v : Nat → Bs} {i j k : Nat} (h1 : lt2 v i j) (h2 : lt2 v j k) : lt2 v i k := by
  rcases h1 with h1 | ⟨e1, h1⟩
  · rcases h2 with h2 | ⟨e2, h2⟩
    · exact .inl (bl_trans h1 h2)
    · exact .inl (e2 ▸ h1)
  · rcases h2 with h2 | ⟨e2, h2⟩
    · exact .inl (e1 ▸ h2)
    · exact .inr ⟨e1.trans e2, by omega⟩
theorem lt2_irrefl {v : Nat → Bs} {i : Nat} (h : lt2 v i i) : False := by
  rcases h with h | ⟨_, h⟩
  · rw [bl_irrefl] at h; cases h
  · omega

/-- Both halves, put together. -/
def mrg (v : Nat → Bs) : List Nat → List Nat → List Nat
  | [], b => b
  | x :: a, [] => x :: a
  | x :: a, y :: b => if le (v x) (v y) = true then x :: mrg v a (y :: b) else y :: mrg v (x :: a) b
theorem mrg_left (v : Nat → Bs) (b : List Nat) : mrg v [] b = b := by simp [mrg]
theorem mrg_nil (v : Nat → Bs) (a : List Nat) : mrg v a [] = a := by cases a <;> simp [mrg]
theorem mrg_yes {v : Nat → Bs} {x y : Nat} {a b : List Nat} (h : le (v x) (v y) = true) : mrg v (x :: a) (y :: b) = x :: mrg v a (y :: b) := by rw [mrg, if_pos h]
theorem mrg_no {v : Nat → Bs} {x y : Nat} {a b : List Nat} (h : le (v x) (v y) = false) : mrg v (x :: a) (y :: b) = y :: mrg v (x :: a) b := by rw [mrg, if_neg (by rw [h]; decide)]
theorem mrg_mem (v : Nat → Bs) : ∀ (a b : List Nat) (z : Nat), z ∈ mrg v a b ↔ z ∈ a ∨ z ∈ b
  | [], b, z => by simp [mrg]
  | x :: a, [], z => by simp [mrg]
  | x :: a, y :: b, z => by
    by_cases h : le (v x) (v y) = true
    · rw [mrg_yes h, List.mem_cons, mrg_mem v a (y :: b), List.mem_cons (b := x), or_assoc]
    · rw [mrg_no (by simpa using h), List.mem_cons, mrg_mem v (x :: a) b, List.mem_cons (b := y)]
      constructor
      · rintro (h | h | h)
        · exact .inr (.inl h)
        · exact .inl h
        · exact .inr (.inr h)
      · rintro (h | h | h)
        · exact .inr (.inl h)
        · exact .inl h
        · exact .inr (.inr h)
theorem mrg_len (v : Nat → Bs) : ∀ (a b : List Nat), (mrg v a b).length = a.length + b.length
  | [], b => by simp [mrg]
  | x :: a, [] => by simp [mrg]
  | x :: a, y :: b => by
    by_cases h : le (v x) (v y) = true
    · rw [mrg_yes h, List.length_cons, mrg_len v a (y :: b)]; simp; omega
    · rw [mrg_no (by simpa using h), List.length_cons, mrg_len v (x :: a) b]; simp; omega
theorem mrg_sorted (v : Nat → Bs) : ∀ (a b : List Nat), a.Pairwise (lt2 v) → b.Pairwise (lt2 v) → (∀ x ∈ a, ∀ y ∈ b, x < y) → (mrg v a b).Pairwise (lt2 v)
  | [], b, _, hb, _ => by simpa [mrg] using hb
  | x :: a, [], ha, _, _ => by simpa [mrg] using ha
  | x :: a, y :: b, ha, hb, hab => by
    have ha' := List.pairwise_cons.1 ha
    have hb' := List.pairwise_cons.1 hb
    by_cases h : le (v x) (v y) = true
    · rw [mrg_yes h, List.pairwise_cons]
      have hxy : lt2 v x y := by
        unfold le at h
        rw [Bool.or_eq_true, beq_iff_eq] at h
        exact h.imp id fun e => ⟨e, hab x (by simp) y (by simp)⟩
      refine ⟨fun z hz => ?_, mrg_sorted v a (y :: b) ha'.2 hb fun p hp q hq => hab p (by simp [hp]) q hq⟩
      rcases (mrg_mem v _ _ _).1 hz with hz | hz
      · exact ha'.1 z hz
      · rcases List.mem_cons.1 hz with rfl | hz
        · exact hxy
        · exact lt2_trans hxy (hb'.1 z hz)
    · have h' : le (v x) (v y) = false := by simpa using h
      rw [mrg_no h', List.pairwise_cons]
      have hyx : lt2 v y x := by
        unfold le at h'
        rw [Bool.or_eq_false_iff, beq_eq_false_iff_ne] at h'
        exact .inl (bl_total h'.1 h'.2)
      refine ⟨fun z hz => ?_, mrg_sorted v (x :: a) b ha hb'.2 fun p hp q hq => hab p hp q (by simp [hq])⟩
      rcases (mrg_mem v _ _ _).1 hz with hz | hz
      · rcases List.mem_cons.1 hz with rfl | hz
        · exact hyx
        · exact lt2_trans hyx (ha'.1 z hz)
      · exact hb'.1 z hz

def ord (v : Nat → Bs) : Nat → Nat → Nat → List Nat
  | 0, f, t => if f = t then [] else [f]
  | n + 1, f, t => if t - f < 2 then (if f = t then [] else [f]) else mrg v (ord v n f ((f + t) / 2)) (ord v n ((f + t) / 2) t)
theorem ord_all (v : Nat → Bs) : ∀ (n f t : Nat), f ≤ t → t - f ≤ n + 1 → (ord v n f t).Pairwise (lt2 v) ∧ (∀ x, x ∈ ord v n f t ↔ f ≤ x ∧ x < t) ∧ (ord v n f t).length = t - f
  | 0, f, t, h, hn => by
    unfold ord
    split
    · rename_i e; subst e; exact ⟨by simp, fun x => ⟨fun h => (List.not_mem_nil h).elim, fun h => by omega⟩, by simp⟩
    · refine ⟨by simp, fun x => ?_, by simp; omega⟩; simp only [List.mem_singleton]; omega
  | n + 1, f, t, h, hn => by
    unfold ord
    split
    · split
      · rename_i e; subst e; exact ⟨by simp, fun x => ⟨fun h => (List.not_mem_nil h).elim, fun h => by omega⟩, by simp⟩
      · refine ⟨by simp, fun x => ?_, by simp; omega⟩; simp only [List.mem_singleton]; omega
    · obtain ⟨s1, m1, l1⟩ := ord_all v n f ((f + t) / 2) (by omega) (by omega)
      obtain ⟨s2, m2, l2⟩ := ord_all v n ((f + t) / 2) t (by omega) (by omega)
      refine ⟨mrg_sorted v _ _ s1 s2 fun x hx y hy => ?_, fun x => ?_, ?_⟩
      · have := (m1 x).1 hx; have := (m2 y).1 hy; omega
      · rw [mrg_mem, m1, m2]; omega
      · rw [mrg_len, l1, l2]; omega

/-- Which places hold a word that stands before them, too: behind the places of o before k. -/
def agn (v : Nat → Bs) (n : Nat) (o : List Nat) : Nat → List Bool
  | 0 => List.replicate n false
  | 1 => List.replicate n false
  | k + 2 => (agn v n o (k + 1)).set (o.getD (k + 1) 0) (v (o.getD (k + 1) 0) == v (o.getD k 0))
theorem agn_len (v : Nat → Bs) (n : Nat) (o : List Nat) : ∀ k, (agn v n o k).length = n
  | 0 => by simp [agn]
  | 1 => by simp [agn]
  | k + 2 => by rw [agn, List.length_set, agn_len v n o (k + 1)]

/-- No place of a sorted list stands twice. -/
theorem sorted_inj {v : Nat → Bs} {o : List Nat} (h : o.Pairwise (lt2 v)) {i j : Nat} (hi : i < o.length) (hj : j < o.length) (e : o[i] = o[j]) : i = j := by
  rw [List.pairwise_iff_getElem] at h
  rcases Nat.lt_trichotomy i j with hij | hij | hij
  · have := h i j hi hj hij; rw [e] at this; exact (lt2_irrefl this).elim
  · exact hij
  · have := h j i hj hi hij; rw [e] at this; exact (lt2_irrefl this).elim

theorem agn_at {v : Nat → Bs} {n : Nat} {o : List Nat} (h : o.Pairwise (lt2 v)) (hm : ∀ x ∈ o, x < n) : ∀ (k : Nat), k ≤ o.length → ∀ (t : Nat) (ht : t < o.length),
    (agn v n o k)[o[t]]? = some (if 1 ≤ t ∧ t < k then v (o.getD t 0) == v (o.getD (t - 1) 0) else false)
  | 0, _, t, ht => by
    have := hm _ (List.getElem_mem ht)
    rw [if_neg (by omega)]
    simp [agn, this]
  | 1, _, t, ht => by
    have := hm _ (List.getElem_mem ht)
    rw [if_neg (by omega)]
    simp [agn, this]
  | k + 2, hk, t, ht => by
    have hlt := hm _ (List.getElem_mem ht)
    have hk1 : k + 1 < o.length := by omega
    have e1 : o.getD (k + 1) 0 = o[k + 1] := by simp [List.getD, hk1]
    rw [agn, List.getElem?_set]
    by_cases e : t = k + 1
    · subst e
      rw [if_pos (by rw [e1]), if_pos (by rw [agn_len, e1]; exact hlt), if_pos ⟨by omega, by omega⟩]
      simp
    · rw [if_neg (by rw [e1]; exact fun h' => e (sorted_inj h hk1 ht h').symm), agn_at h hm (k + 1) (by omega) t ht]
      by_cases e2 : 1 ≤ t ∧ t < k + 1
      · rw [if_pos e2, if_pos ⟨e2.1, by omega⟩]
      · rw [if_neg e2, if_neg (by omega)]

/-- A place is marked just if its word stands before it. -/
theorem agn_is {v : Nat → Bs} {n : Nat} {o : List Nat} (h : o.Pairwise (lt2 v)) (hm : ∀ x, x ∈ o ↔ x < n) {x : Nat} (hx : x < n) :
    ∃ b, (agn v n o o.length)[x]? = some b ∧ (b = true ↔ ∃ j, j < x ∧ v j = v x) := by
  obtain ⟨t, ht, rfl⟩ := List.getElem_of_mem ((hm x).2 hx)
  refine ⟨_, agn_at h (fun x hx => (hm x).1 hx) o.length (Nat.le_refl _) t ht, ?_⟩
  have hp := List.pairwise_iff_getElem.1 h
  have gt : o.getD t 0 = o[t] := by simp [List.getD, ht]
  by_cases h1 : 1 ≤ t
  · have ht1 : t - 1 < o.length := by omega
    have gt1 : o.getD (t - 1) 0 = o[t - 1] := by simp [List.getD, ht1]
    rw [if_pos ⟨h1, ht⟩, gt, gt1, beq_iff_eq]
    have hlast := hp (t - 1) t ht1 ht (by omega)
    constructor
    · intro e
      rcases hlast with hb | ⟨_, hb⟩
      · rw [← e, bl_irrefl] at hb; cases hb
      · exact ⟨o[t - 1], hb, e.symm⟩
    · rintro ⟨j, hj, e⟩
      obtain ⟨s, hs, rfl⟩ := List.getElem_of_mem ((hm j).2 (by have := (hm o[t]).1 (List.getElem_mem ht); omega))
      have hjt : lt2 v o[s] o[t] := .inr ⟨e, hj⟩
      have hst : s < t := by
        rcases Nat.lt_trichotomy s t with h' | h' | h'
        · exact h'
        · subst h'; exact (lt2_irrefl hjt).elim
        · exact (lt2_irrefl (lt2_trans hjt (hp t s ht hs h'))).elim
      have h2 : s = t - 1 ∨ lt2 v o[s] o[t - 1] := by
        rcases Nat.lt_or_ge s (t - 1) with h' | h'
        · exact .inr (hp s (t - 1) hs ht1 h')
        · left; omega
      rcases h2 with rfl | h2
      · exact e.symm
      · rcases h2 with hb | ⟨e2, _⟩
        · rcases hlast with hc | ⟨e3, _⟩
          · have := bl_trans hb hc
            rw [e, bl_irrefl] at this; cases this
          · exact e3.symm
        · rw [← e2, e]
  · rw [if_neg (by omega)]
    obtain rfl : t = 0 := by omega
    constructor
    · intro e; cases e
    · rintro ⟨j, hj, e⟩
      obtain ⟨s, hs, rfl⟩ := List.getElem_of_mem ((hm j).2 (by have := (hm o[0]).1 (List.getElem_mem ht); omega))
      have hjt : lt2 v o[s] o[0] := .inr ⟨e, hj⟩
      rcases Nat.eq_zero_or_pos s with rfl | hs0
      · exact (lt2_irrefl hjt).elim
      · exact (lt2_irrefl (lt2_trans hjt (hp 0 s ht hs hs0))).elim

/-- A list's words, by their places. -/
def at8 (l : List ByteArray) (i : Nat) : Bs := (l.getD i ByteArray.empty).data.toList
theorem at8_eq {l : List ByteArray} {i : Nat} (h : i < l.length) : at8 l i = l[i].data.toList := by simp [at8, List.getD, h]

/-- The reference's marks of a list. -/
def marks (l : List ByteArray) : List Bool := agn (at8 l) l.length (ord (at8 l) l.length 0 l.length) (ord (at8 l) l.length 0 l.length).length
theorem ord_len (l : List ByteArray) : (ord (at8 l) l.length 0 l.length).length = l.length := by
  have := (ord_all (at8 l) l.length 0 l.length (Nat.zero_le _) (by omega)).2.2; omega
theorem ord_mem (l : List ByteArray) (x : Nat) : x ∈ ord (at8 l) l.length 0 l.length ↔ x < l.length := by
  rw [(ord_all (at8 l) l.length 0 l.length (Nat.zero_le _) (by omega)).2.1]; omega
theorem marks_len (l : List ByteArray) : (marks l).length = l.length := agn_len _ _ _ _
/-- One word more: it stands in the answer just if it isn't marked. -/
theorem marks_next {l : List ByteArray} {k : Nat} (h : k < l.length) : ∃ b, (marks l)[k]? = some b ∧ uniq (l.take (k + 1)) = if b = true then uniq (l.take k) else uniq (l.take k) ++ [l[k]] := by
  obtain ⟨hs, _, _⟩ := ord_all (at8 l) l.length 0 l.length (Nat.zero_le _) (by omega)
  obtain ⟨b, hb, hiff⟩ := agn_is hs (ord_mem l) h
  refine ⟨b, hb, ?_⟩
  have key : b = true ↔ l[k] ∈ uniq (l.take k) := by
    rw [hiff, mem_uniq, List.mem_take_iff_getElem]
    constructor
    · rintro ⟨j, hj, e⟩
      rw [at8_eq (by omega), at8_eq h] at e
      exact ⟨j, by omega, bytes_ext e⟩
    · rintro ⟨j, hj, e⟩
      have hj' : j < k := by omega
      refine ⟨j, hj', ?_⟩
      rw [at8_eq (by omega), at8_eq h, e]
  rw [uniq_take h]
  unfold addU
  by_cases e : b = true
  · rw [if_pos e, if_pos (has_iff.2 (key.1 e))]
  · rw [if_neg e, if_neg (fun h' => e (key.2 (has_iff.1 h')))]
end Go.Proofs.YtenokbceamcekaaGreatDoor.Wp
