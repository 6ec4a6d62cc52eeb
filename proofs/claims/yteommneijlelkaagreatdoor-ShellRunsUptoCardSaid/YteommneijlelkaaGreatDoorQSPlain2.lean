/-
  Stores that are closed: each file stands in a directory that is there. What the document's own operations are on them: touch, mkdir. No walk here.
  What the document's Remove and Move are on closed stores. No walk here.
  Names in a directory: the plain side.
  Two files, and two lists of files, compared. No walk here.
  What the document's List and Same are on stores. No walk here.
-/
import Derived.Test.YteommneijlelkaaGreatDoorQSAdd
import Derived.Sort.OwnSorted
import Derived.Test.YteommneijlelkaaGreatDoorQSCells
namespace Go.Proofs.YteommneijlelkaaGreatDoor.Sw
open Go.RowKit Go.Proofs.YteommneijlelkaaGreatDoor

def AllGood (P : List (List UInt8)) : Prop := ∀ x ∈ P, Pt.Good x
theorem AllGood.nil : AllGood [] := fun _ h => (List.not_mem_nil h).elim
theorem AllGood.cut {P Q : List (List UInt8)} (h : AllGood (P ++ Q)) : AllGood P := fun x hx => h x (List.mem_append_left _ hx)
theorem AllGood.last {P : List (List UInt8)} {x : List UInt8} (h : AllGood (P ++ [x])) : Pt.Good x := h x (by simp)
theorem AllGood.take {P : List (List UInt8)} (h : AllGood P) (k : Nat) : AllGood (P.take k) := fun x hx => h x (List.mem_of_mem_take hx)

theorem path_iff {p : List UInt8} : isPath p = true ↔ ∃ P, AllGood P ∧ p = Pt.text P := by
  unfold isPath
  rw [decide_eq_true_eq]
  constructor
  · intro h
    obtain ⟨o, _, ho, hp⟩ := Pt.join_some h
    exact ⟨o, ho, hp⟩
  · rintro ⟨P, hP, rfl⟩
    exact Pt.join_text hP
theorem text_inj {P Q : List (List UInt8)} (hP : AllGood P) (hQ : AllGood Q) (h : Pt.text P = Pt.text Q) : P = Q := by
  rw [← Pt.parts_text hP, ← Pt.parts_text hQ, h]
theorem text_nil : Pt.text [] = [46] := rfl
theorem text_root {P : List (List UInt8)} (hP : AllGood P) : Pt.text P = [46] ↔ P = [] := by
  constructor
  · intro h; exact text_inj hP AllGood.nil h
  · rintro rfl; rfl
theorem dirL_snoc {P : List (List UInt8)} {x : List UInt8} (h : AllGood (P ++ [x])) : dirL (Pt.text (P ++ [x])) = Pt.text P := by
  rw [dirL_text h, List.dropLast_concat]
/-- Is a path's directory there, as a directory? -/
def Within (L : List F) (P : List (List UInt8)) : Prop := P = [] ∨ ∃ g ∈ L, g.p = Pt.text P ∧ g.d = true
/-- Each file stands in a directory that is there. -/
def Closed (L : List F) : Prop := ∀ f ∈ L, ∃ P x, AllGood (P ++ [x]) ∧ f.p = Pt.text (P ++ [x]) ∧ Within L P

theorem Closed.nil : Closed [] := fun _ h => (List.not_mem_nil h).elim

theorem snoc_of {P : List (List UInt8)} (h : P ≠ []) : ∃ Q x, P = Q ++ [x] := by
  rcases List.eq_nil_or_concat P with rfl | ⟨Q, x, rfl⟩
  · exact absurd rfl h
  · exact ⟨Q, x, by simp⟩

/-- All that a file stands in is there. -/
theorem Closed.chain {L : List F} (h : Closed L) : ∀ (n : Nat) {P Q : List (List UInt8)}, Q.length = n → AllGood (P ++ Q) → Q ≠ [] → (∃ f ∈ L, f.p = Pt.text (P ++ Q)) → Within L P
  | 0, P, Q, hn, _, hne, _ => absurd (List.length_eq_zero_iff.1 hn) hne
  | n + 1, P, Q, hn, hg, hne, ⟨f, hf, hp⟩ => by
    obtain ⟨Q', x, rfl⟩ := snoc_of hne
    rw [← List.append_assoc] at hg hp
    obtain ⟨P', y, hg', hp', hw⟩ := h f hf
    have e := text_inj hg hg' (hp.symm.trans hp')
    obtain ⟨e1, e2⟩ := List.append_inj' e rfl
    subst e1
    rcases Classical.em (Q' = []) with rfl | hq
    · simpa using hw
    · rcases hw with hw | ⟨g, hgL, hgp, _⟩
      · exact absurd (List.append_eq_nil_iff.1 hw).2 hq
      · exact h.chain n (by simp at hn; omega) hg.cut hq ⟨g, hgL, hgp⟩

/-- What 'getR' says of a path by its parts. -/
theorem within_iff {L : List F} (hs : Sp.Sorted L) {P : List (List UInt8)} (hP : AllGood P) : Within L P ↔ ∃ d, getR L (Pt.text P) = some d ∧ d.d = true := by
  unfold Within
  rcases Classical.em (P = []) with rfl | hne
  · exact ⟨fun _ => ⟨rootF, rfl, rfl⟩, fun _ => .inl rfl⟩
  · rw [getR_ne (fun e => hne ((text_root hP).1 e))]
    constructor
    · rintro (e | ⟨g, h1, h2, h3⟩)
      · exact absurd e hne
      · exact ⟨g, (Sp.get_some hs).2 ⟨h1, h2⟩, h3⟩
    · rintro ⟨d, h1, h2⟩
      obtain ⟨h3, h4⟩ := (Sp.get_some hs).1 h1
      exact .inr ⟨d, h3, h4, h2⟩

/-- One file more, in a directory that is there. -/
theorem Closed.ins {L : List F} (h : Closed L) (hs : Sp.Sorted L) {f : F} {P : List (List UInt8)} {x : List UInt8} (hg : AllGood (P ++ [x])) (hp : f.p = Pt.text (P ++ [x])) (hw : Within L P)
    (hd : ∀ g, Sp.get L f.p = some g → g.d = true → f.d = true) : Closed (Sp.ins L f) := by
  have keep : ∀ {R : List (List UInt8)}, Within L R → Within (Sp.ins L f) R := by
    rintro R (rfl | ⟨g, h1, h2, h3⟩)
    · exact .inl rfl
    · by_cases e : g.p = f.p
      · exact .inr ⟨f, (Sp.mem_ins hs f).2 (.inl rfl), by rw [← e, h2], hd g ((Sp.get_some hs).2 ⟨h1, e⟩) h3⟩
      · exact .inr ⟨g, (Sp.mem_ins hs g).2 (.inr ⟨h1, e⟩), h2, h3⟩
  intro k hk
  rcases (Sp.mem_ins hs k).1 hk with rfl | ⟨hk, _⟩
  · exact ⟨P, x, hg, hp, keep hw⟩
  · obtain ⟨Q, y, h1, h2, h3⟩ := h k hk
    exact ⟨Q, y, h1, h2, keep h3⟩

theorem put_closed {s : St} (h : Closed s.L) (hs : Sp.Sorted s.L) {f : F} {P : List (List UInt8)} {x : List UInt8} (hg : AllGood (P ++ [x])) (hp : f.p = Pt.text (P ++ [x])) (hw : Within s.L P)
    (hd : ∀ g, Sp.get s.L f.p = some g → g.d = true → f.d = true) : Closed (putA s f).1.L := by
  unfold putA
  split
  · exact h
  · exact h.ins (f := ⟨f.p, f.t, s.c + 1, f.d⟩) hs hg hp hw hd
theorem put_same {s : St} {f : F} (h : (putA s f).2 ≠ 0) : (putA s f).1 = s := by
  unfold putA at h ⊢
  split
  · rfl
  · rename_i e; rw [if_neg e] at h; exact absurd rfl h

/-- What a place that is right says. -/
theorem place_ok {L : List F} (hs : Sp.Sorted L) {p : List UInt8} (h : placeA L p = 0) : ∃ P x, AllGood (P ++ [x]) ∧ p = Pt.text (P ++ [x]) ∧ Within L P ∧ ((Sp.get L p).isSome ∨ L.length < 4096) := by
  unfold placeA at h
  by_cases h1 : isPath p = false
  · rw [if_pos h1] at h; cases h
  · rw [if_neg h1] at h
    by_cases h2 : p = [46]
    · rw [if_pos h2] at h; cases h
    · rw [if_neg h2] at h
      obtain ⟨Q, hQ, rfl⟩ := path_iff.1 (by simpa using h1)
      obtain ⟨P, x, rfl⟩ := snoc_of (fun e => h2 ((text_root hQ).2 e))
      rw [dirL_snoc hQ] at h
      cases hd : getR L (Pt.text P) with
      | none => rw [hd] at h; cases h
      | some d =>
        rw [hd] at h
        dsimp only at h
        by_cases h3 : d.d = false
        · rw [if_pos h3] at h; cases h
        · rw [if_neg h3] at h
          refine ⟨P, x, hQ, rfl, (within_iff hs hQ.cut).2 ⟨d, hd, by simpa using h3⟩, ?_⟩
          by_cases h4 : Sp.get L (Pt.text (P ++ [x])) = none ∧ 4096 ≤ L.length
          · rw [if_pos h4] at h; cases h
          · rcases Option.eq_none_or_eq_some (Sp.get L (Pt.text (P ++ [x]))) with e | ⟨g, e⟩
            · right
              rcases Nat.lt_or_ge L.length 4096 with h5 | h5
              · exact h5
              · exact absurd ⟨e, h5⟩ h4
            · left; rw [e]; rfl
theorem ok_ne_root {L : List F} {p : List UInt8} (h : placeA L p = 0) : p ≠ [46] := by
  rintro rfl
  unfold placeA at h
  split at h
  · cases h
  · rw [if_pos rfl] at h; cases h

theorem write_closed {s : St} (h : Closed s.L) (hs : Sp.Sorted s.L) (p t : List UInt8) (more : Bool) : Closed (writeA s p t more).1.L := by
  unfold writeA
  by_cases h1 : placeA s.L p ≠ 0
  · rw [if_pos h1]; exact h
  · rw [if_neg h1]
    have h1 : placeA s.L p = 0 := by simpa using h1
    obtain ⟨P, x, hg, hp, hw, _⟩ := place_ok hs h1
    dsimp only
    by_cases h2 : ((Sp.get s.L p).getD noF).d = true
    · rw [if_pos h2]; exact h
    · rw [if_neg h2]
      generalize (if more = true then ((Sp.get s.L p).getD noF).t else []) = old
      split
      · exact h
      · exact put_closed h hs (f := ⟨p, _, 0, false⟩) hg hp hw (fun g hgg hgd => by
          rw [hgg] at h2
          exact absurd hgd h2)
theorem write_same {s : St} {p t : List UInt8} {more : Bool} (h : (writeA s p t more).2 ≠ 0) : (writeA s p t more).1 = s := by
  unfold writeA at h ⊢
  split
  · rfl
  · rename_i h1
    rw [if_neg h1] at h
    dsimp only at h ⊢
    split
    · rfl
    · rename_i h2
      rw [if_neg h2] at h
      generalize (if more = true then ((Sp.get s.L p).getD noF).t else []) = old at h ⊢
      split
      · rfl
      · rename_i h3
        rw [if_neg h3] at h
        exact put_same h

/-- The document's Touch. -/
def rTouch (s : St) (p : List UInt8) : St × Int :=
  match getR s.L p with
  | none => writeA s p [] true
  | some f => if f.d = true ∧ p ≠ [46] then putA s f else writeA s p [] true
theorem write_none {s : St} {p : List UInt8} (h : Sp.get s.L p = none) (more : Bool) : writeA s p [] more = writeA s p [] false := by
  unfold writeA
  rw [h]
  cases more <;> rfl
theorem touch_eq (s : St) (p : List UInt8) : rTouch s p = touchA s p := by
  unfold rTouch touchA
  by_cases h0 : p = [46]
  · subst h0
    have hp : placeA s.L [46] ≠ 0 := fun h => ok_ne_root h rfl
    have hw : ∀ t more, writeA s [46] t more = (s, placeA s.L [46]) := fun t more => by unfold writeA; rw [if_pos hp]
    rw [getR_root]
    dsimp only
    rw [hw, hw]
  · rw [getR_ne h0]
    cases hg : Sp.get s.L p with
    | none => exact write_none hg true
    | some f =>
      dsimp only
      by_cases hd : f.d = true ∧ p ≠ [46]
      · rw [if_pos hd, if_pos hd]
      · rw [if_neg hd, if_neg hd]
        unfold writeA
        rw [hg]
        simp
theorem touch_closed {s : St} (h : Closed s.L) (hs : Sp.Sorted s.L) (p : List UInt8) : Closed (touchA s p).1.L := by
  unfold touchA
  cases hg : getR s.L p with
  | none => exact write_closed h hs p [] false
  | some f =>
    dsimp only
    split
    · rename_i hd
      rw [getR_ne hd.2] at hg
      obtain ⟨h1, h2⟩ := (Sp.get_some hs).1 hg
      obtain ⟨P, x, k1, k2, k3⟩ := h f h1
      exact put_closed h hs k1 k2 k3 (fun _ _ _ => hd.1)
    · exact write_closed h hs p f.t false

/-! ### Mkdir -/
theorem heads_none : ∀ (x pre : List UInt8), 47 ∉ x → heads pre x = []
  | [], _, _ => rfl
  | c :: r, pre, h => by
    rw [heads, if_neg (fun e => h (by rw [e]; simp)), heads_none r _ (fun hm => h (List.mem_cons_of_mem _ hm))]
theorem heads_app : ∀ (u v pre : List UInt8), heads pre (u ++ v) = heads pre u ++ heads (pre ++ u) v
  | [], v, pre => by simp [heads]
  | c :: r, v, pre => by
    rw [List.cons_append, heads, heads, heads_app r v (pre ++ [c])]
    have e : pre ++ [c] ++ r = pre ++ c :: r := by simp
    rw [e]
    split <;> simp
theorem text_inter {P : List (List UInt8)} (hP : AllGood P) (hne : P ≠ []) : Pt.text P = Pt.inter P := by
  unfold Pt.text
  rw [if_neg (fun e => hne ((Pt.inter_nil hP).1 e))]
theorem heads_one {x : List UInt8} (h : Pt.Good x) : heads [] (Pt.text [x]) = [] := by
  have hg : AllGood [x] := fun y hy => by rw [List.mem_singleton.1 hy]; exact h
  rw [text_inter hg (by simp)]
  exact heads_none x [] h.2.2.2
theorem heads_snoc {P : List (List UInt8)} {x : List UInt8} (hg : AllGood (P ++ [x])) (hne : P ≠ []) : heads [] (Pt.text (P ++ [x])) = heads [] (Pt.text P) ++ [Pt.text P] := by
  rw [text_inter hg (by simp), text_inter hg.cut hne, Pt.inter_snoc P x hne, heads_app, List.nil_append, heads, if_pos rfl, heads_none x _ hg.last.2.2.2]

theorem mkAll_app (s : St) : ∀ (l : List (List UInt8)) (r : List (List UInt8)), mkAll s (l ++ r) = if (mkAll s l).2 ≠ 0 then mkAll s l else mkAll (mkAll s l).1 r := by
  intro l
  induction l generalizing s with
  | nil => intro r; simp [mkAll]
  | cons q l ih =>
    intro r
    rw [List.cons_append, mkAll_cons, mkAll_cons]
    by_cases h : (mk1 s q true).2 ≠ 0
    · rw [if_pos h, if_pos h, if_pos h]
    · rw [if_neg h, if_neg h, ih]
theorem mkAll_one (s : St) (q : List UInt8) : mkAll s [q] = mk1 s q true := by
  rw [mkAll_cons]
  split
  · rfl
  · rename_i h
    have h : (mk1 s q true).2 = 0 := by simpa using h
    show ((mk1 s q true).1, (0 : Int)) = _
    rw [← h]

theorem mk1_closed {s : St} (h : Closed s.L) (hs : Sp.Sorted s.L) (p : List UInt8) (old : Bool) : Closed (mk1 s p old).1.L := by
  unfold mk1
  cases hg : getR s.L p with
  | some f => dsimp only; split <;> exact h
  | none =>
    dsimp only
    split
    · exact h
    · rename_i h1
      have h1 : placeA s.L p = 0 := by simpa using h1
      obtain ⟨P, x, k1, k2, k3, _⟩ := place_ok hs h1
      exact put_closed h hs (f := ⟨p, [], 0, true⟩) k1 k2 k3 (fun _ _ _ => rfl)
theorem mk1_sorted {s : St} (hs : Sp.Sorted s.L) (p : List UInt8) (old : Bool) : Sp.Sorted (mk1 s p old).1.L := by
  unfold mk1
  cases getR s.L p with
  | some f => dsimp only; split <;> exact hs
  | none =>
    dsimp only
    split
    · exact hs
    · unfold putA
      split
      · exact hs
      · exact Sp.sorted_ins hs
/-- A path that wasn't there, and isn't this one, still isn't. -/
theorem mk1_other {s : St} (hs : Sp.Sorted s.L) {p q : List UInt8} (old : Bool) (hne : q ≠ p) (hq : Sp.get s.L q = none) : Sp.get (mk1 s p old).1.L q = none := by
  unfold mk1
  cases getR s.L p with
  | some f => dsimp only; split <;> exact hq
  | none =>
    dsimp only
    split
    · exact hq
    · unfold putA
      split
      · exact hq
      · show Sp.get (Sp.ins s.L ⟨p, [], s.c + 1, true⟩) q = none
        rw [Sp.get_ins_other hs hne]; exact hq
theorem mkAll_keep : ∀ (l : List (List UInt8)) {s : St}, Closed s.L → Sp.Sorted s.L → Closed (mkAll s l).1.L ∧ Sp.Sorted (mkAll s l).1.L ∧ ∀ q, q ∉ l → Sp.get s.L q = none → Sp.get (mkAll s l).1.L q = none
  | [], s, h, hs => ⟨h, hs, fun _ _ hq => hq⟩
  | p :: l, s, h, hs => by
    rw [mkAll_cons]
    have a1 := mk1_closed h hs p true
    have a2 := mk1_sorted hs p true
    split
    · exact ⟨a1, a2, fun q hq hn => mk1_other hs true (fun e => hq (by rw [e]; simp)) hn⟩
    · obtain ⟨b1, b2, b3⟩ := mkAll_keep l a1 a2
      exact ⟨b1, b2, fun q hq hn => b3 q (fun h => hq (List.mem_cons_of_mem _ h)) (mk1_other hs true (fun e => hq (by rw [e]; simp)) hn)⟩

/-- The document's Mkdir of all. -/
def rMk : Nat → St → List UInt8 → St × Int
  | 0, s, _ => (s, 1)
  | n + 1, s, p => if isPath p = false then (s, 1) else match getR s.L p with
    | some f => if f.d = true then (s, 0) else (s, 4)
    | none => if (rMk n s (dirL p)).2 ≠ 0 then rMk n s (dirL p) else
      if placeA (rMk n s (dirL p)).1.L p ≠ 0 then ((rMk n s (dirL p)).1, placeA (rMk n s (dirL p)).1.L p) else putA (rMk n s (dirL p)).1 ⟨p, [], 0, true⟩

/-- All of a path, from the top down. -/
def mkPath (s : St) (P : List (List UInt8)) : St × Int :=
  if (mkAll s (heads [] (Pt.text P))).2 ≠ 0 then mkAll s (heads [] (Pt.text P)) else mk1 (mkAll s (heads [] (Pt.text P))).1 (Pt.text P) true
theorem mkPath_root (s : St) : mkPath s [] = (s, 0) := by
  unfold mkPath
  rw [show heads [] (Pt.text []) = [] from by decide]
  rfl
theorem mkPath_all {s : St} {P : List (List UInt8)} : mkPath s P = mkAll s (heads [] (Pt.text P) ++ [Pt.text P]) := by
  unfold mkPath
  rw [mkAll_app]
  split
  · rfl
  · rw [mkAll_one]
theorem mkPath_snoc {s : St} {P : List (List UInt8)} {x : List UInt8} (hg : AllGood (P ++ [x])) : mkPath s (P ++ [x]) = if (mkPath s P).2 ≠ 0 then mkPath s P else mk1 (mkPath s P).1 (Pt.text (P ++ [x])) true := by
  rcases Classical.em (P = []) with rfl | hne
  · rw [mkPath_root, if_neg (by simp)]
    unfold mkPath
    rw [show heads [] (Pt.text ([] ++ [x])) = [] from heads_one hg.last]
    rfl
  · rw [mkPath_all (P := P ++ [x]), heads_snoc hg hne, mkAll_app, ← mkPath_all, mkAll_one]
theorem heads_mem : ∀ (n : Nat) {P : List (List UInt8)}, P.length = n → AllGood P → ∀ q ∈ heads [] (Pt.text P), ∃ R, R <+: P ∧ R ≠ P ∧ AllGood R ∧ q = Pt.text R
  | 0, P, hn, _, q, hq => by
    obtain rfl := List.length_eq_zero_iff.1 hn
    rw [show heads [] (Pt.text []) = [] from by decide] at hq
    cases hq
  | n + 1, P, hn, hg, q, hq => by
    obtain ⟨Q, x, rfl⟩ := snoc_of (P := P) (by intro e; subst e; cases hn)
    rcases Classical.em (Q = []) with rfl | hne
    · rw [show heads [] (Pt.text ([] ++ [x])) = [] from heads_one hg.last] at hq; cases hq
    · rw [heads_snoc hg hne] at hq
      rcases List.mem_append.1 hq with hq | hq
      · obtain ⟨R, h1, h2, h3, h4⟩ := heads_mem n (by simp at hn; omega) hg.cut q hq
        refine ⟨R, h1.trans (List.prefix_append _ _), fun e => ?_, h3, h4⟩
        have := h1.length_le
        rw [e] at this; simp at this; omega
      · rw [List.mem_singleton.1 hq]
        exact ⟨Q, List.prefix_append _ _, fun e => by have := congrArg List.length e; simp at this, hg.cut, rfl⟩

/-- What is there already is left. -/
theorem mkPath_there {s : St} (hc : Closed s.L) (hs : Sp.Sorted s.L) : ∀ (n : Nat) {P : List (List UInt8)}, P.length = n → AllGood P → ∀ f, getR s.L (Pt.text P) = some f → mkPath s P = (s, if f.d = true then 0 else 4)
  | 0, P, hn, _, f, hf => by
    obtain rfl := List.length_eq_zero_iff.1 hn
    rw [mkPath_root]
    obtain rfl : rootF = f := Option.some.inj hf
    rfl
  | n + 1, P, hn, hg, f, hf => by
    obtain ⟨Q, x, rfl⟩ := snoc_of (P := P) (by intro e; subst e; cases hn)
    have hne : Pt.text (Q ++ [x]) ≠ [46] := fun e => by have := (text_root hg).1 e; simp at this
    have hf2 := hf
    rw [getR_ne hne] at hf2
    obtain ⟨h1, h2⟩ := (Sp.get_some hs).1 hf2
    obtain ⟨d, hd, hdd⟩ := (within_iff hs hg.cut).1 (hc.chain 1 (Q := [x]) rfl hg (by simp) ⟨f, h1, h2⟩)
    rw [mkPath_snoc hg, mkPath_there hc hs n (by simp at hn; omega) hg.cut d hd, hdd, if_pos rfl]
    rw [if_neg (by simp)]
    unfold mk1
    rw [hf]
    dsimp only
    by_cases e : f.d = true
    · rw [if_pos ⟨e, rfl⟩, if_pos e]
    · rw [if_neg (fun h => e h.1), if_neg e]

theorem rMk_eq {s : St} (hc : Closed s.L) (hs : Sp.Sorted s.L) : ∀ (n : Nat) {P : List (List UInt8)}, P.length < n → AllGood P → rMk n s (Pt.text P) = mkPath s P
  | 0, _, h, _ => absurd h (Nat.not_lt_zero _)
  | n + 1, P, h, hg => by
    rw [rMk, if_neg (by rw [path_iff.2 ⟨P, hg, rfl⟩]; decide)]
    cases hf : getR s.L (Pt.text P) with
    | some f =>
      rw [mkPath_there hc hs _ rfl hg f hf]
      dsimp only
      split <;> rfl
    | none =>
      dsimp only
      obtain ⟨Q, x, rfl⟩ := snoc_of (P := P) (by rintro rfl; cases hf)
      rw [dirL_snoc hg, rMk_eq hc hs n (by simp at h; omega) hg.cut, mkPath_snoc hg]
      by_cases h0 : (mkPath s Q).2 ≠ 0
      · rw [if_pos h0, if_pos h0]
      · rw [if_neg h0, if_neg h0]
        have hne : Pt.text (Q ++ [x]) ≠ [46] := fun e => by have := (text_root hg).1 e; simp at this
        have hgn : getR (mkPath s Q).1.L (Pt.text (Q ++ [x])) = none := by
          rw [getR_ne hne]
          rw [getR_ne hne] at hf
          rw [mkPath_all]
          refine (mkAll_keep _ hc hs).2.2 _ ?_ hf
          intro hm
          rcases List.mem_append.1 hm with hm | hm
          · obtain ⟨R, h1, _, h3, h4⟩ := heads_mem _ rfl hg.cut _ hm
            have e := text_inj hg h3 h4
            have := h1.length_le
            rw [← e] at this; simp at this; omega
          · have e := text_inj hg hg.cut (List.mem_singleton.1 hm)
            have := congrArg List.length e; simp at this
        unfold mk1
        rw [hgn]

/-- The document's Mkdir. -/
def rMkdir (n : Nat) (s : St) (p : List UInt8) (all : Bool) : St × Int :=
  if all = true then rMk n s p else if isPath p = false then (s, 1) else mk1 s p false
theorem parts_lt {P : List (List UInt8)} (hg : AllGood P) : P.length ≤ (Pt.text P).length := by
  rcases Classical.em (P = []) with rfl | hne
  · simp
  · rw [text_inter hg hne]
    clear hne
    have key : ∀ (P : List (List UInt8)), AllGood P → P.length ≤ (Pt.inter P).length := by
      intro P
      induction P with
      | nil => intro _; simp
      | cons a r ih =>
        intro hg
        have ha : 0 < a.length := List.length_pos_iff.2 (hg a (by simp)).1
        cases r with
        | nil => exact ha
        | cons b r =>
          have := ih (fun y hy => hg y (List.mem_cons_of_mem _ hy))
          simp [Pt.inter] at this ⊢; omega
    exact key P hg
theorem mkdir_eq {s : St} (hc : Closed s.L) (hs : Sp.Sorted s.L) (n : Nat) (p : List UInt8) (all : Bool) (hn : p.length < n) : rMkdir n s p all = mkdirA s p all := by
  unfold rMkdir mkdirA
  cases all with
  | false => simp
  | true =>
    rw [if_pos rfl]
    by_cases h : isPath p = false
    · rw [if_pos h]
      obtain ⟨m, rfl⟩ : ∃ m, n = m + 1 := ⟨n - 1, by omega⟩
      rw [rMk, if_pos h]
    · rw [if_neg h]
      obtain ⟨P, hg, rfl⟩ := path_iff.1 (by simpa using h)
      rw [rMk_eq hc hs n (by have := parts_lt hg; omega) hg, if_neg (by decide)]
      rfl
theorem mkdir_closed {s : St} (hc : Closed s.L) (hs : Sp.Sorted s.L) (p : List UInt8) (all : Bool) : Closed (mkdirA s p all).1.L := by
  unfold mkdirA
  split
  · exact hc
  · split
    · exact mk1_closed hc hs p false
    · obtain ⟨a, b, _⟩ := mkAll_keep (heads [] p) hc hs
      split
      · exact a
      · exact mk1_closed a b p true
end Go.Proofs.YteommneijlelkaaGreatDoor.Sw
namespace Go.Proofs.YteommneijlelkaaGreatDoor.Sw
open Go.RowKit Go.Proofs.YteommneijlelkaaGreatDoor

def inR (p d : List UInt8) : Bool := (Pt.parts d).isPrefixOf (Pt.parts p)
theorem inR_text {P Q : List (List UInt8)} (hP : AllGood P) (hQ : AllGood Q) : inR (Pt.text P) (Pt.text Q) = inL (Pt.text P) (Pt.text Q) := by
  unfold inR
  rw [Pt.parts_text hP, Pt.parts_text hQ, inL_text hP hQ]
theorem inL_iff {P Q : List (List UInt8)} (hP : AllGood P) (hQ : AllGood Q) : inL (Pt.text P) (Pt.text Q) = true ↔ Q <+: P := by
  rw [inL_text hP hQ, List.isPrefixOf_iff_prefix]

/-- The document's Remove. -/
def rRemove (s : St) (p : List UInt8) (all : Bool) : St × Int :=
  if p = [46] then (s, 1) else match getR s.L p with
    | none => (s, 3)
    | some f => if f.d = true ∧ all = false ∧ 1 < (s.L.filter fun g => inR g.p p).length then (s, 4) else (⟨s.L.filter fun g => !inR g.p p, s.c⟩, 0)

theorem sorted_nodup {L : List F} (h : Sp.Sorted L) : L.Nodup := h.imp fun hab e => Sp.lt_ne hab (congrArg Sp.F.p e)
theorem two_le {α : Type} {l : List α} {a b : α} (ha : a ∈ l) (hb : b ∈ l) (h : a ≠ b) : 1 < l.length := by
  match l, ha, hb with
  | [x], ha, hb => exact absurd ((List.mem_singleton.1 ha).trans (List.mem_singleton.1 hb).symm) h
  | _ :: _ :: _, _, _ => simp
theorem other_mem {α : Type} {l : List α} (h : l.Nodup) (hl : 1 < l.length) (a : α) : ∃ b ∈ l, b ≠ a := by
  match l, h, hl with
  | x :: y :: r, h, _ =>
    have hxy : x ≠ y := fun e => (List.nodup_cons.1 h).1 (by rw [e]; simp)
    by_cases e : x = a
    · exact ⟨y, by simp, fun e2 => hxy (e.trans e2.symm)⟩
    · exact ⟨x, by simp, e⟩

theorem occ_iff {L : List F} (hc : Closed L) (hs : Sp.Sorted L) {p : List UInt8} {f : F} (hp : p ≠ [46]) (hf : Sp.get L p = some f) : (f.d = true ∧ 1 < (L.filter fun g => inR g.p p).length) ↔ occA L p = true := by
  obtain ⟨f1, f2⟩ := (Sp.get_some hs).1 hf
  obtain ⟨Q0, q, hQ, hfp, _⟩ := hc f f1
  obtain ⟨Q, hQe⟩ : ∃ Q, Q0 ++ [q] = Q := ⟨_, rfl⟩
  rw [hQe] at hQ hfp
  obtain rfl : p = Pt.text Q := f2.symm.trans hfp
  have hQn : Q ≠ [] := fun e => hp ((text_root hQ).2 e)
  have inn : ∀ g ∈ L, ∀ {P : List (List UInt8)}, AllGood P → g.p = Pt.text P → (inR g.p (Pt.text Q) = true ↔ Q <+: P) := fun g _ P hP e => by
    rw [e, inR_text hP hQ, inL_iff hP hQ]
  unfold occA
  rw [List.any_eq_true]
  constructor
  · rintro ⟨_, h2⟩
    obtain ⟨g, hg, hne⟩ := other_mem ((sorted_nodup hs).filter _) h2 f
    obtain ⟨g1, g2⟩ := List.mem_filter.1 hg
    obtain ⟨P0, x, hP, hgp, _⟩ := hc g g1
    obtain ⟨R, hR⟩ := (inn g g1 hP hgp).1 g2
    cases R with
    | nil =>
      rw [List.append_nil] at hR
      exact absurd (Sp.sorted_uni hs g1 f1 (by rw [hgp, ← hR, hfp])) hne
    | cons y R =>
      have hPe : P0 ++ [x] = (Q ++ [y]) ++ R := by rw [← hR]; simp
      rw [hPe] at hP hgp
      have key : ∃ h ∈ L, h.p = Pt.text (Q ++ [y]) := by
        rcases Classical.em (R = []) with rfl | hRn
        · exact ⟨g, g1, by rw [hgp, List.append_nil]⟩
        · rcases hc.chain R.length rfl hP hRn ⟨g, g1, hgp⟩ with e | ⟨h, h1, h2, _⟩
          · simp at e
          · exact ⟨h, h1, h2⟩
      obtain ⟨h, h1, h2⟩ := key
      exact ⟨h, h1, by rw [h2, dirL_snoc hP.cut]; simp⟩
  · rintro ⟨g, g1, g2⟩
    obtain ⟨P, x, hP, hgp, hw⟩ := hc g g1
    have e : Pt.text P = Pt.text Q := by rw [← dirL_snoc hP, ← hgp]; exact eq_of_beq g2
    have e := text_inj hP.cut hQ e
    subst e
    rcases hw with hw | ⟨h, h1, h2, h3⟩
    · exact absurd hw hQn
    · have ef : h = f := Sp.sorted_uni hs h1 f1 (by rw [h2, hfp])
      subst ef
      refine ⟨h3, two_le (a := h) (b := g) (List.mem_filter.2 ⟨h1, ?_⟩) (List.mem_filter.2 ⟨g1, ?_⟩) ?_⟩
      · exact (inn h h1 hQ hfp).2 (List.prefix_refl _)
      · exact (inn g g1 hP hgp).2 (List.prefix_append _ _)
      · intro e
        rw [e] at h2
        have := text_inj hP hQ (hgp.symm.trans h2)
        have := congrArg List.length this; simp at this

theorem remove_eq {s : St} (hc : Closed s.L) (hs : Sp.Sorted s.L) (p : List UInt8) (all : Bool) : rRemove s p all = removeA s p all := by
  unfold rRemove removeA
  by_cases h0 : p = [46]
  · rw [if_pos h0, if_pos h0]
  · rw [if_neg h0, if_neg h0, getR_ne h0]
    cases hf : Sp.get s.L p with
    | none => rfl
    | some f =>
      dsimp only
      have hi := occ_iff hc hs h0 hf
      obtain ⟨f1, f2⟩ := (Sp.get_some hs).1 hf
      obtain ⟨Q0, q, hQ, hfp, _⟩ := hc f f1
      have hfl : (s.L.filter fun g => !inR g.p p) = remA s.L p := by
        unfold remA
        refine List.filter_congr fun g hg => ?_
        obtain ⟨P0, x, hP, hgp, _⟩ := hc g hg
        rw [hgp, ← f2, hfp, inR_text hP hQ]
      by_cases h1 : all = false ∧ occA s.L p = true
      · rw [if_pos h1, if_pos ⟨(hi.2 h1.2).1, h1.1, (hi.2 h1.2).2⟩]
      · rw [if_neg h1, if_neg (fun h => h1 ⟨h.2.1, hi.1 ⟨h.1, h.2.2⟩⟩), hfl]
theorem remove_closed {s : St} (hc : Closed s.L) (hs : Sp.Sorted s.L) (p : List UInt8) (all : Bool) : Closed (removeA s p all).1.L := by
  unfold removeA
  split
  · exact hc
  · rename_i h0
    cases hf : Sp.get s.L p with
    | none => exact hc
    | some f =>
      dsimp only
      split
      · exact hc
      · obtain ⟨f1, f2⟩ := (Sp.get_some hs).1 hf
        obtain ⟨Q0, q, hQ, hfp, _⟩ := hc f f1
        rw [f2] at hfp
        intro g hg
        obtain ⟨g1, g2⟩ := List.mem_filter.1 hg
        obtain ⟨P, x, hP, hgp, hw⟩ := hc g g1
        refine ⟨P, x, hP, hgp, ?_⟩
        rcases hw with hw | ⟨h, h1, h2, h3⟩
        · exact .inl hw
        · refine .inr ⟨h, List.mem_filter.2 ⟨h1, ?_⟩, h2, h3⟩
          cases e : inL h.p p with
          | false => rfl
          | true =>
            rw [h2, hfp] at e
            have e2 : inL g.p p = true := by rw [hgp, hfp]; exact (inL_iff hP hQ).2 (((inL_iff hP.cut hQ).1 e).trans (List.prefix_append _ _))
            rw [e2] at g2; cases g2

/-- The document's Move. -/
def rMove (s : St) (a b : List UInt8) : St × Int :=
  if (readA (getR s.L a)).2 ≠ 0 then (s, (readA (getR s.L a)).2) else if a = b then (s, 1) else
  if (writeA s b (readA (getR s.L a)).1 false).2 ≠ 0 then (s, (writeA s b (readA (getR s.L a)).1 false).2) else rRemove (writeA s b (readA (getR s.L a)).1 false).1 a false
theorem write_sorted {s : St} (hs : Sp.Sorted s.L) (p t : List UInt8) (more : Bool) : Sp.Sorted (writeA s p t more).1.L := by
  unfold writeA
  split
  · exact hs
  · dsimp only
    split
    · exact hs
    · generalize (if more = true then ((Sp.get s.L p).getD noF).t else []) = old
      split
      · exact hs
      · unfold putA
        split
        · exact hs
        · exact Sp.sorted_ins hs
theorem move_eq {s : St} (hc : Closed s.L) (hs : Sp.Sorted s.L) (a b : List UInt8) : rMove s a b = moveA s a b := by
  unfold rMove moveA
  split
  · rfl
  · split
    · rfl
    · by_cases h : (writeA s b (readA (getR s.L a)).1 false).2 ≠ 0
      · rw [if_pos h, if_pos h]
        exact Prod.ext (write_same h).symm rfl
      · rw [if_neg h, if_neg h]
        exact remove_eq (write_closed hc hs b _ false) (write_sorted hs b _ false) a false
theorem move_closed {s : St} (hc : Closed s.L) (hs : Sp.Sorted s.L) (a b : List UInt8) : Closed (moveA s a b).1.L := by
  unfold moveA
  split
  · exact hc
  · split
    · exact hc
    · split
      · exact write_closed hc hs b _ false
      · exact remove_closed (write_closed hc hs b _ false) (write_sorted hs b _ false) a false
end Go.Proofs.YteommneijlelkaaGreatDoor.Sw
namespace Go.Proofs.YteommneijlelkaaGreatDoor.Sw
open Go.RowKit Go.Proofs.YteommneijlelkaaGreatDoor Go.Maps Go.Sort
set_option maxRecDepth 100000

def leS : List UInt8 → List UInt8 → Bool := fun x y => decide (x ≤ y)
/-- The names in p, as they come. -/
def namesIn (p : List UInt8) (xs : List F) : List (List UInt8) := (xs.filter fun f => dirL f.p == p).map fun f => baseL f.p
def strs (l : List (List UInt8)) : List ByteArray := l.map str
def listA (L : List F) (p : List UInt8) : List (List UInt8) × Int :=
  match getR L p with
  | none => ([], 3)
  | some f => if f.d then ((namesIn p L).mergeSort leS, 0) else ([], 4)
end Go.Proofs.YteommneijlelkaaGreatDoor.Sw
namespace Go.Proofs.YteommneijlelkaaGreatDoor.Sw
open Go.RowKit Go.Proofs.YteommneijlelkaaGreatDoor
set_option maxRecDepth 100000


def eqA (f g : F) : Bool := (f.d == g.d) && (f.t == g.t)
def sameM (L M : List F) : Bool := decide (L.length = M.length) && L.all fun f => match Sp.get M f.p with
  | some g => eqA f g
  | none => false
def butA (L : List F) (p : List UInt8) : List F := L.filter fun g => !(g.p == p)
def sameA (L M : List F) (p : List UInt8) : Bool := sameM (butA L p) (butA M p)

end Go.Proofs.YteommneijlelkaaGreatDoor.Sw
namespace Go.Proofs.YteommneijlelkaaGreatDoor.Sw
open Go.RowKit Go.Proofs.YteommneijlelkaaGreatDoor

/-! ### List -/
def rDir (q : List UInt8) : List UInt8 := Pt.text (Pt.parts q).dropLast
def rBase (q : List UInt8) : List UInt8 := lastOf (Pt.parts q)
def rNames (p : List UInt8) (L : List F) : List (List UInt8) := (L.filter fun f => rDir f.p == p).map fun f => rBase f.p
/-- The document's List. -/
def rList (L : List F) (p : List UInt8) : List (List UInt8) × Int :=
  match getR L p with
  | none => ([], 3)
  | some f => if f.d = false then ([], 4) else (rNames p L, 0)

theorem rDir_text {P : List (List UInt8)} (h : AllGood P) : rDir (Pt.text P) = dirL (Pt.text P) := by
  unfold rDir
  rw [Pt.parts_text h, dirL_text h]
theorem rBase_text {P : List (List UInt8)} {x : List UInt8} (h : AllGood (P ++ [x])) : rBase (Pt.text (P ++ [x])) = x ∧ baseL (Pt.text (P ++ [x])) = x := by
  unfold rBase lastOf
  rw [Pt.parts_text h, baseL_text h]
  simp
/-! ### Same -/
def zeroT (f : F) : F := ⟨f.p, f.t, 0, f.d⟩
/-- A store's files without times, but for one path. -/
def plainA (L : List F) (p : List UInt8) : List F := (butA L p).map zeroT
theorem nodup_len : ∀ (l m : List (List UInt8)), l.Nodup → (∀ x ∈ l, x ∈ m) → l.length ≤ m.length
  | [], _, _, _ => Nat.zero_le _
  | x :: l, m, h, hs => by
    obtain ⟨h1, h2⟩ := List.nodup_cons.1 h
    have hx := hs x (by simp)
    have := nodup_len l (m.erase x) h2 fun y hy => (List.mem_erase_of_ne (fun e => h1 (by rw [← e]; exact hy))).2 (hs y (List.mem_cons_of_mem _ hy))
    rw [List.length_erase_of_mem hx] at this
    have hm : 0 < m.length := List.length_pos_of_mem hx
    simp; omega
end Go.Proofs.YteommneijlelkaaGreatDoor.Sw
