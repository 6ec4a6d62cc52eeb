/-
  What the law of acts knows: both stores, the clone, the list that the reference began with; the lists that are passed.
-/
import Derived.Test.YtmmilnmlmgcobaaGreatDoorSLooks
import Derived.Test.YtmmilnmlmgcobaaGreatDoorSRNew
namespace Go.Proofs.YtmmilnmlmgcobaaGreatDoor.Sw
open Go.RowKit Go.Proofs.YtmmilnmlmgcobaaGreatDoor Go.Maps
set_option maxRecDepth 100000

structure Held (W : World) (sb bm mb sb2 bm2 fb : Nat) (v u : Value) (s r : St) : Prop where
  both : Both W sb bm mb v s
  clone : StoreAt W sb2 bm2 r.L r.c
  first : W.heap[fb]? = some (.cells #[u, .int .i64 r.c] TS (0, 0))
  ref : RFiles W u r.L
  rfine : Fine r
  n1 : sb2 ∉ [sb, bm, mb]
  n2 : bm2 ∉ [sb, bm, mb]
  n3 : fb ∉ [sb, bm, mb]
  own : ∀ b, u.ownBlock = some b → b ∉ [sb, bm, mb]
theorem Held.below {W W' : World} {sb bm mb sb2 bm2 fb : Nat} {v u : Value} {s r : St} (h : Held W sb bm mb sb2 bm2 fb v u s r) (hB : Below W.heap.size W W') : Held W' sb bm mb sb2 bm2 fb v u s r :=
  ⟨h.both.below hB, h.clone.below hB, (hB.block fb (Array.getElem?_eq_some_iff.1 h.first).1).trans h.first, h.ref.below hB, h.rfine, h.n1, h.n2, h.n3, h.own⟩
theorem Held.turned {W W' : World} {sb bm mb sb2 bm2 fb : Nat} {v v' u : Value} {s s' r : St} (h : Held W sb bm mb sb2 bm2 fb v u s r) (hb : Both W' sb bm mb v' s') (hK : Kept [sb, bm, mb] W W') : Held W' sb bm mb sb2 bm2 fb v' u s' r :=
  ⟨hb, h.clone.kept hK h.n1 h.n2, (hK.block fb (Array.getElem?_eq_some_iff.1 h.first).1 h.n3).trans h.first, h.ref.kept hK h.own, h.rfine, h.n1, h.n2, h.n3, h.own⟩

/-- An act. -/
structure Ac where
  k : Nat
  P : ByteArray
  Q : ByteArray
  all : Bool
/-- The acts that are passed, and how they lie. -/
def Acts (w : World) (v : Value) (l : List Ac) : Prop :=
  (l = [] ∧ ∃ a c, v = .slice a 0 c) ∨ ∃ b o c, v = .slice (some ⟨b, o, none⟩) l.length c ∧ b < w.heap.size ∧ ∀ j, (h : j < l.length) →
    w.cell? ⟨b, o + j * 4, none⟩ = some (.int .u8 l[j].k) ∧ w.cell? ⟨b, o + j * 4 + 1, none⟩ = some (.string l[j].P) ∧ w.cell? ⟨b, o + j * 4 + 2, none⟩ = some (.string l[j].Q) ∧ w.cell? ⟨b, o + j * 4 + 3, none⟩ = some (.bool l[j].all)
theorem Acts.below {w w' : World} {v : Value} {l : List Ac} (h : Acts w v l) (hB : Below w.heap.size w w') : Acts w' v l := by
  rcases h with h | ⟨b, o, c, e, hb, hC⟩
  · exact .inl h
  · refine .inr ⟨b, o, c, e, Nat.lt_of_lt_of_le hb hB.size, fun j hj => ?_⟩
    obtain ⟨a0, a1, a2, a3⟩ := hC j hj
    have t := fun i => hB.cell (p := ⟨b, i, none⟩) hb
    exact ⟨(t _).trans a0, (t _).trans a1, (t _).trans a2, (t _).trans a3⟩
def totF (l : List F) : Nat := (l.map fun f => f.p.length + f.t.length).sum
def totA (l : List Ac) : Nat := (l.map fun a => a.P.size + a.Q.size).sum
theorem totF_take {l : List F} {k : Nat} (h : k < l.length) : totF (l.take (k + 1)) = totF (l.take k) + (l[k].p.length + l[k].t.length) := by
  unfold totF
  rw [List.take_succ_eq_append_getElem h, List.map_append, List.sum_append]; rfl
theorem totA_take {l : List Ac} {k : Nat} (h : k < l.length) : totA (l.take (k + 1)) = totA (l.take k) + (l[k].P.size + l[k].Q.size) := by
  unfold totA
  rw [List.take_succ_eq_append_getElem h, List.map_append, List.sum_append]; rfl
theorem totF_mem {l : List F} {f : F} (h : f ∈ l) : f.p.length + f.t.length ≤ totF l := by
  induction l with
  | nil => cases h
  | cons g r ih =>
    show _ ≤ (g.p.length + g.t.length) + totF r
    rcases List.mem_cons.1 h with rfl | h
    · omega
    · have := ih h; omega
theorem totA_mem {l : List Ac} {f : Ac} (h : f ∈ l) : f.P.size + f.Q.size ≤ totA l := by
  induction l with
  | nil => cases h
  | cons g r ih =>
    show _ ≤ (g.P.size + g.Q.size) + totA r
    rcases List.mem_cons.1 h with rfl | h
    · omega
    · have := ih h; omega
theorem sumP_tot (l : List F) : sumP l ≤ totF l := by
  induction l with
  | nil => exact Nat.le_refl _
  | cons g r ih => show g.p.length + sumP r ≤ (g.p.length + g.t.length) + totF r; omega

theorem text_le : ∀ (n : Nat) {P Q : List (List UInt8)}, Q.length = n → AllGood (P ++ Q) → (Pt.text P).length ≤ (Pt.text (P ++ Q)).length
  | 0, P, Q, hn, _ => by
    obtain rfl := List.length_eq_zero_iff.1 hn
    rw [List.append_nil]; exact Nat.le_refl _
  | n + 1, P, Q, hn, hg => by
    obtain ⟨R, x, rfl⟩ := snoc_of (P := Q) (by rintro rfl; simp at hn)
    rw [← List.append_assoc] at hg ⊢
    have h1 := text_le n (P := P) (Q := R) (by simpa using hn) hg.cut
    have hp : isPath (Pt.text (P ++ R ++ [x])) = true := path_iff.2 ⟨_, hg, rfl⟩
    have h2 := dirL_len (Pt.text (P ++ R ++ [x])) (List.length_pos_iff.2 (isPath_ne hp))
    rw [dirL_snoc hg] at h2
    omega
theorem addAll_c : ∀ (l : List F) (s : St), 0 ≤ s.c → s.c < 4611686018427387904 → (addAll s l).2 = 0 → 0 ≤ (addAll s l).1.c ∧ (addAll s l).1.c < 4611686018427387904
  | [], s, h0, h1, _ => ⟨h0, h1⟩
  | f :: r, s, h0, h1, h => by
    rw [addAll_cons] at h ⊢
    by_cases h2 : (addA s f).2 ≠ 0
    · rw [if_pos h2] at h; exact absurd h h2
    · rw [if_neg h2] at h ⊢
      have h2 : (addA s f).2 = 0 := by simpa using h2
      have hc : 0 ≤ (addA s f).1.c ∧ (addA s f).1.c < 4611686018427387904 := by
        unfold addA at h2 ⊢
        by_cases b : badA f ≠ 0
        · rw [if_pos b] at h2; exact absurd h2 b
        · rw [if_neg b] at h2 ⊢
          obtain ⟨_, _, _, c0, c1, _⟩ := badA_ok (f := f) (by simpa using b)
          by_cases b2 : (Sp.get s.L f.p).isSome = true
          · rw [if_pos b2] at h2; cases h2
          · rw [if_neg b2]
            show 0 ≤ max s.c f.c ∧ max s.c f.c < _
            omega
      exact addAll_c r _ hc.1 hc.2 h
theorem new_fine (l : List F) (hs : ∀ f ∈ l, f.p.length ≤ 50000 ∧ f.t.length ≤ 50000) (h : (newA l).2 = 0) : Fine (newA l).1 := by
  unfold newA at h ⊢
  by_cases h1 : (addAll ⟨[], 0⟩ l).2 ≠ 0
  · rw [if_pos h1] at h; exact absurd h h1
  · rw [if_neg h1] at h ⊢
    have h1 : (addAll ⟨[], 0⟩ l).2 = 0 := by simpa using h1
    by_cases hb : blockedA (addAll ⟨[], 0⟩ l).1.L = true
    · rw [if_pos hb] at h; cases h
    · rw [if_neg hb] at h ⊢
      by_cases hlim : 4096 < (surrAll (addAll ⟨[], 0⟩ l).1.L l).length
      · rw [if_pos hlim] at h; cases h
      · rw [if_neg hlim]
        obtain ⟨s1, s2, s3⟩ := addAll_ok l ⟨[], 0⟩ List.Pairwise.nil h1
        obtain ⟨c0, c1⟩ := addAll_c l ⟨[], 0⟩ (by decide) (by decide) h1
        obtain ⟨L0, hL0⟩ : ∃ L0, (addAll ⟨[], 0⟩ l).1.L = L0 := ⟨_, rfl⟩
        rw [hL0] at s1 s2 hlim ⊢
        have hm : ∀ g, g ∈ L0 ↔ g ∈ l := fun g => by rw [s2]; simp
        have hi : Inv l L0 L0 := ⟨s1, fun g hg => hg, fun g hg => .inl hg⟩
        obtain ⟨n1, _, _, _⟩ := surrAll_spec l (fun f hf => hf) s3 hi
        have hall : ∀ g ∈ surrAll L0 l, g.t.length ≤ 1048576 ∧ g.p.length ≤ 100000 := fun g hg => by
          rcases n1.new_ g hg with h | ⟨h, f, f1, P, Q, f2, f3, f4, f5, f6⟩
          · have := hs g ((hm g).1 h); omega
          · have h7 := text_le Q.length rfl f2
            have h8 := (hs f f1).1
            rw [f5] at h8
            refine ⟨by rw [h]; show ([] : List UInt8).length ≤ _; simp, ?_⟩
            rw [f6]; omega
        exact ⟨n1.sorted, c0, c1, by show (surrAll L0 l).length ≤ 4096; omega, fun g hg => (hall g hg).1, fun g hg => (hall g hg).2⟩

theorem New_files (w : World) (v : Value) (l : List F) (h : Files w v l) (hs : ∀ f ∈ l, f.p.length ≤ 50000 ∧ f.t.length ≤ 50000) (hl : l.length ≤ 200) : Calls Tryz.prog 5 #[v] w (NewPost w (newA l)) := by
  rcases h with ⟨rfl, a, c, rfl⟩ | ⟨b, o, c, rfl, hb, hC⟩
  · exact New_none w a c
  · exact New_some w b o c l ⟨hb, fun j f hf => by
      obtain ⟨hj, rfl⟩ := List.getElem?_eq_some_iff.1 hf
      exact hC j hj, fun f hf => ⟨by have := (hs f hf).1; omega, by have := (hs f hf).2; omega⟩, by omega⟩
end Go.Proofs.YtmmilnmlmgcobaaGreatDoor.Sw
