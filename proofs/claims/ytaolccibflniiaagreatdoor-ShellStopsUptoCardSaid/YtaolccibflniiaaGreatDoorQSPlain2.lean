/-
  What the document's List and Same are on stores. No walk here.
-/
import Derived.Test.YtaolccibflniiaaGreatDoorQSClosed2
import Derived.Test.YtaolccibflniiaaGreatDoorQSList0
namespace Go.Proofs.YtaolccibflniiaaGreatDoor.Sw
open Go.RowKit Go.Proofs.YtaolccibflniiaaGreatDoor

/-! ### List -/
def rDir (q : List UInt8) : List UInt8 := Pt.text (Pt.parts q).dropLast
def rBase (q : List UInt8) : List UInt8 := lastOf (Pt.parts q)
def rNames (p : List UInt8) (L : List F) : List (List UInt8) := (L.filter fun f => rDir f.p == p).map fun f => rBase f.p
/-- The document's List. -/
def rList (L : List F) (p : List UInt8) : List (List UInt8) × Int :=
  match getR L p with
  | none => ([], 3)
  | some f => if f.d = false then ([], 4) else (rNames p L, 0)

theorem rDir_text {P : List (List UInt8)} (h : AllGood P) : rDir (Pt.text P) = dirL (Pt.text P) := by
  unfold rDir
  rw [Pt.parts_text h, dirL_text h]
theorem rBase_text {P : List (List UInt8)} {x : List UInt8} (h : AllGood (P ++ [x])) : rBase (Pt.text (P ++ [x])) = x ∧ baseL (Pt.text (P ++ [x])) = x := by
  unfold rBase lastOf
  rw [Pt.parts_text h, baseL_text h]
  simp
theorem names_eq {L : List F} (hc : Closed L) (p : List UInt8) : rNames p L = namesIn p L := by
  unfold rNames namesIn
  have e : (L.filter fun f => rDir f.p == p) = L.filter fun f => dirL f.p == p := List.filter_congr fun f hf => by
    obtain ⟨P, x, h1, h2, _⟩ := hc f hf
    rw [h2, rDir_text h1]
  rw [e]
  refine List.map_congr_left fun f hf => ?_
  obtain ⟨P, x, h1, h2, _⟩ := hc f (List.mem_filter.1 hf).1
  rw [h2, (rBase_text h1).1, (rBase_text h1).2]
theorem app_lt : ∀ (a b c : List UInt8), a ++ b < a ++ c → b < c
  | [], _, _, h => h
  | x :: a, b, c, h => by
    rw [List.cons_append, List.cons_append, List.cons_lt_cons_iff] at h
    rcases h with h | ⟨_, h⟩
    · exact absurd h (UInt8.lt_irrefl x)
    · exact app_lt a b c h
theorem base_lt {P : List (List UInt8)} {x y : List UInt8} (h1 : AllGood (P ++ [x])) (h2 : AllGood (P ++ [y])) (h : Pt.text (P ++ [x]) < Pt.text (P ++ [y])) : x < y := by
  rw [text_inter h1 (by simp), text_inter h2 (by simp)] at h
  rcases Classical.em (P = []) with rfl | hne
  · exact h
  · rw [Pt.inter_snoc P x hne, Pt.inter_snoc P y hne] at h
    have := app_lt _ _ _ h
    rw [List.cons_lt_cons_iff] at this
    rcases this with h | ⟨_, h⟩
    · exact absurd h (UInt8.lt_irrefl 47)
    · exact h
theorem names_sorted {L : List F} (hc : Closed L) (hs : Sp.Sorted L) (p : List UInt8) : (namesIn p L).Pairwise fun a b => leS a b = true := by
  unfold namesIn
  rw [List.pairwise_map]
  refine List.Pairwise.imp_of_mem ?_ (hs.filter _)
  intro f g hf hg hfg
  obtain ⟨f1, f2⟩ := List.mem_filter.1 hf
  obtain ⟨g1, g2⟩ := List.mem_filter.1 hg
  obtain ⟨P, x, h1, h2, _⟩ := hc f f1
  obtain ⟨Q, y, k1, k2, _⟩ := hc g g1
  have e1 : Pt.text P = p := by rw [← dirL_snoc h1, ← h2]; exact eq_of_beq f2
  have e2 : Pt.text Q = p := by rw [← dirL_snoc k1, ← k2]; exact eq_of_beq g2
  have e := text_inj h1.cut k1.cut (e1.trans e2.symm)
  subst e
  rw [h2, k2] at hfg
  rw [h2, k2, (rBase_text h1).2, (rBase_text k1).2]
  unfold leS
  rw [decide_eq_true_eq]
  exact List.le_of_lt (base_lt h1 k1 hfg)
theorem list_eq {L : List F} (hc : Closed L) (hs : Sp.Sorted L) (p : List UInt8) : rList L p = listA L p := by
  unfold rList listA
  cases getR L p with
  | none => rfl
  | some f =>
    dsimp only
    cases f.d with
    | false => rfl
    | true =>
      rw [if_neg (by decide), if_pos rfl, names_eq hc, List.mergeSort_of_pairwise (names_sorted hc hs p)]

/-! ### Same -/
def zeroT (f : F) : F := ⟨f.p, f.t, 0, f.d⟩
theorem zeroT_inj {f g : F} (h : zeroT f = zeroT g) : f.p = g.p ∧ f.t = g.t ∧ f.d = g.d := by
  cases f; cases g
  simp [zeroT] at h
  exact h
/-- A store's files without times, but for one path. -/
def plainA (L : List F) (p : List UInt8) : List F := (butA L p).map zeroT
theorem nodup_len : ∀ (l m : List (List UInt8)), l.Nodup → (∀ x ∈ l, x ∈ m) → l.length ≤ m.length
  | [], _, _, _ => Nat.zero_le _
  | x :: l, m, h, hs => by
    obtain ⟨h1, h2⟩ := List.nodup_cons.1 h
    have hx := hs x (by simp)
    have := nodup_len l (m.erase x) h2 fun y hy => (List.mem_erase_of_ne (fun e => h1 (by rw [← e]; exact hy))).2 (hs y (List.mem_cons_of_mem _ hy))
    rw [List.length_erase_of_mem hx] at this
    have hm : 0 < m.length := List.length_pos_of_mem hx
    simp; omega
theorem sameM_iff {L M : List F} (hL : Sp.Sorted L) (hM : Sp.Sorted M) : sameM L M = true ↔ L.map zeroT = M.map zeroT := by
  have hz : ∀ {K : List F}, Sp.Sorted K → Sp.Sorted (K.map zeroT) := fun h => by
    unfold Sp.Sorted
    rw [List.pairwise_map]
    exact h
  have paths : ∀ {K : List F}, Sp.Sorted K → (K.map (·.p)).Nodup := fun h => by
    unfold List.Nodup
    rw [List.pairwise_map]
    exact h.imp fun h => Sp.lt_ne h
  unfold sameM
  rw [Bool.and_eq_true, decide_eq_true_eq, List.all_eq_true]
  constructor
  · rintro ⟨hl, h⟩
    have sub : ∀ f ∈ L, ∃ g ∈ M, zeroT g = zeroT f := fun f hf => by
      have := h f hf
      cases hg : Sp.get M f.p with
      | none => rw [hg] at this; cases this
      | some g =>
        rw [hg] at this
        obtain ⟨g1, g2⟩ := (Sp.get_some hM).1 hg
        unfold eqA at this
        rw [Bool.and_eq_true, beq_iff_eq, beq_iff_eq] at this
        exact ⟨g, g1, by unfold zeroT; rw [g2, this.1, this.2]⟩
    refine Sp.sorted_ext (hz hL) (hz hM) fun k => ?_
    rw [List.mem_map, List.mem_map]
    constructor
    · rintro ⟨f, hf, rfl⟩
      exact sub f hf
    · rintro ⟨g, hg, rfl⟩
      rcases Classical.em (∃ f ∈ L, f.p = g.p) with ⟨f, hf, hp⟩ | hno
      · obtain ⟨g', h1, h2⟩ := sub f hf
        have : g' = g := Sp.sorted_uni hM h1 hg (by rw [← hp]; exact (zeroT_inj h2).1)
        subst this
        exact ⟨f, hf, h2.symm⟩
      · have h1 := nodup_len (L.map (·.p)) ((M.map (·.p)).erase g.p) (paths hL) fun x hx => by
          obtain ⟨f, hf, rfl⟩ := List.mem_map.1 hx
          obtain ⟨g', k1, k2⟩ := sub f hf
          have e : f.p ≠ g.p := fun e => hno ⟨f, hf, e⟩
          exact (List.mem_erase_of_ne e).2 (List.mem_map.2 ⟨g', k1, (zeroT_inj k2).1⟩)
        rw [List.length_erase_of_mem (List.mem_map.2 ⟨g, hg, rfl⟩), List.length_map, List.length_map] at h1
        have : 0 < M.length := List.length_pos_of_mem hg
        omega
  · intro h
    refine ⟨by have := congrArg List.length h; simpa using this, fun f hf => ?_⟩
    have : zeroT f ∈ M.map zeroT := by rw [← h]; exact List.mem_map.2 ⟨f, hf, rfl⟩
    obtain ⟨g, hg, e⟩ := List.mem_map.1 this
    obtain ⟨hp, ht, hd⟩ := zeroT_inj e
    rw [(Sp.get_some hM).2 ⟨hg, hp⟩]
    show eqA f g = true
    unfold eqA
    rw [hd, ht]; simp
theorem but_sorted {L : List F} (h : Sp.Sorted L) (p : List UInt8) : Sp.Sorted (butA L p) := h.filter _
theorem same_iff {L M : List F} (hL : Sp.Sorted L) (hM : Sp.Sorted M) (p : List UInt8) : sameA L M p = true ↔ plainA L p = plainA M p := by
  unfold sameA plainA
  exact sameM_iff (but_sorted hL p) (but_sorted hM p)
end Go.Proofs.YtaolccibflniiaaGreatDoor.Sw
