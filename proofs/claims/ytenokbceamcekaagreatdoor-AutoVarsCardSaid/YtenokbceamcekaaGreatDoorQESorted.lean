/-
  Strings, each once, in their order: two lists put together. No program here.
  flatironref13.sorted: words, each once, rising.
-/
import Derived.Test.YtenokbceamcekaaGreatDoorQWUniq
import Derived.OwnWalk
import Derived.Test.YtenokbceamcekaaGreatDoorQEList
namespace Go.Proofs.YtenokbceamcekaaGreatDoor.Wp

/-- Two lists put together; what both have once. -/
def mrgU : List ByteArray → List ByteArray → List ByteArray
  | [], q => q
  | x :: p, [] => x :: p
  | x :: p, y :: q => if x = y then x :: mrgU p q else if bl x.data.toList y.data.toList = true then x :: mrgU p (y :: q) else y :: mrgU (x :: p) q
termination_by p q => p.length + q.length
decreasing_by all_goals (simp only [List.length_cons]; omega)
theorem mrgU_left (q : List ByteArray) : mrgU [] q = q := by rw [mrgU]
theorem mrgU_right (p : List ByteArray) : mrgU p [] = p := by cases p <;> rw [mrgU]
theorem mrgU_same {x : ByteArray} {p q : List ByteArray} : mrgU (x :: p) (x :: q) = x :: mrgU p q := by rw [mrgU, if_pos rfl]
theorem mrgU_lt {x y : ByteArray} {p q : List ByteArray} (h : bl x.data.toList y.data.toList = true) : mrgU (x :: p) (y :: q) = x :: mrgU p (y :: q) := by
  rw [mrgU, if_neg (by rintro rfl; rw [bl_irrefl] at h; cases h), if_pos h]
theorem mrgU_gt {x y : ByteArray} {p q : List ByteArray} (h : bl y.data.toList x.data.toList = true) : mrgU (x :: p) (y :: q) = y :: mrgU (x :: p) q := by
  rw [mrgU, if_neg (by rintro rfl; rw [bl_irrefl] at h; cases h), if_neg (by
    intro h2
    have := bl_trans h h2
    rw [bl_irrefl] at this; cases this)]
/-- One of three. -/
theorem three (x y : ByteArray) : x = y ∨ bl x.data.toList y.data.toList = true ∨ bl y.data.toList x.data.toList = true := by
  by_cases h : x = y
  · exact .inl h
  · cases h1 : bl x.data.toList y.data.toList with
    | true => exact .inr (.inl rfl)
    | false => exact .inr (.inr (bl_total h1 fun e => h (bytes_ext e)))
theorem mrgU_mem : ∀ (p q : List ByteArray) (z : ByteArray), z ∈ mrgU p q ↔ z ∈ p ∨ z ∈ q
  | [], q, z => by rw [mrgU_left]; simp
  | x :: p, [], z => by rw [mrgU_right]; simp
  | x :: p, y :: q, z => by
    rcases three x y with rfl | h | h
    · rw [mrgU_same, List.mem_cons, mrgU_mem p q z, List.mem_cons, List.mem_cons]
      constructor
      · rintro (h | h | h)
        · exact .inl (.inl h)
        · exact .inl (.inr h)
        · exact .inr (.inr h)
      · rintro ((h | h) | (h | h))
        · exact .inl h
        · exact .inr (.inl h)
        · exact .inl h
        · exact .inr (.inr h)
    · rw [mrgU_lt h, List.mem_cons, mrgU_mem p (y :: q) z, List.mem_cons (a := z) (b := x), or_assoc]
    · rw [mrgU_gt h, List.mem_cons, mrgU_mem (x :: p) q z, List.mem_cons (a := z) (b := y)]
      constructor
      · rintro (h | h | h)
        · exact .inr (.inl h)
        · exact .inl h
        · exact .inr (.inr h)
      · rintro (h | h | h)
        · exact .inr (.inl h)
        · exact .inl h
        · exact .inr (.inr h)
termination_by p q => p.length + q.length
theorem mrgU_len : ∀ (p q : List ByteArray), (mrgU p q).length ≤ p.length + q.length
  | [], q => by rw [mrgU_left]; simp
  | x :: p, [] => by rw [mrgU_right]; simp
  | x :: p, y :: q => by
    rcases three x y with rfl | h | h
    · have := mrgU_len p q
      rw [mrgU_same, List.length_cons, List.length_cons, List.length_cons]; omega
    · have := mrgU_len p (y :: q)
      rw [mrgU_lt h, List.length_cons, List.length_cons]; omega
    · have := mrgU_len (x :: p) q
      rw [mrgU_gt h, List.length_cons, List.length_cons (a := y)]; omega
termination_by p q => p.length + q.length
/-- Rising, no one twice. -/
def Strict (l : List ByteArray) : Prop := l.Pairwise fun x y => bl x.data.toList y.data.toList = true
theorem mrgU_strict : ∀ (p q : List ByteArray), Strict p → Strict q → Strict (mrgU p q)
  | [], q, _, hq => by rw [mrgU_left]; exact hq
  | x :: p, [], hp, _ => by rw [mrgU_right]; exact hp
  | x :: p, y :: q, hp, hq => by
    have hp' := List.pairwise_cons.1 hp
    have hq' := List.pairwise_cons.1 hq
    rcases three x y with rfl | h | h
    · rw [mrgU_same]
      refine List.pairwise_cons.2 ⟨fun z hz => ?_, mrgU_strict p q hp'.2 hq'.2⟩
      rcases (mrgU_mem p q z).1 hz with h | h
      · exact hp'.1 z h
      · exact hq'.1 z h
    · rw [mrgU_lt h]
      refine List.pairwise_cons.2 ⟨fun z hz => ?_, mrgU_strict p (y :: q) hp'.2 hq⟩
      rcases (mrgU_mem p (y :: q) z).1 hz with h1 | h1
      · exact hp'.1 z h1
      · rcases List.mem_cons.1 h1 with rfl | h1
        · exact h
        · exact bl_trans h (hq'.1 z h1)
    · rw [mrgU_gt h]
      refine List.pairwise_cons.2 ⟨fun z hz => ?_, mrgU_strict (x :: p) q hp hq'.2⟩
      rcases (mrgU_mem (x :: p) q z).1 hz with h1 | h1
      · rcases List.mem_cons.1 h1 with rfl | h1
        · exact h
        · exact bl_trans h (hp'.1 z h1)
      · exact hq'.1 z h1
termination_by p q => p.length + q.length
/-- Two rising lists of the same strings are one. -/
theorem strict_ext : ∀ {p q : List ByteArray}, Strict p → Strict q → (∀ z, z ∈ p ↔ z ∈ q) → p = q
  | [], [], _, _, _ => rfl
  | [], y :: q, _, _, h => absurd ((h y).2 (by simp)) (by simp)
  | x :: p, [], _, _, h => absurd ((h x).1 (by simp)) (by simp)
  | x :: p, y :: q, hp, hq, h => by
    have hp' := List.pairwise_cons.1 hp
    have hq' := List.pairwise_cons.1 hq
    have irr : ∀ z : ByteArray, ¬ bl z.data.toList z.data.toList = true := fun z e => by rw [bl_irrefl] at e; cases e
    have e : x = y := by
      rcases List.mem_cons.1 ((h x).1 (by simp)) with h1 | h1
      · exact h1
      · rcases List.mem_cons.1 ((h y).2 (by simp)) with h2 | h2
        · exact h2.symm
        · exact absurd (bl_trans (hq'.1 x h1) (hp'.1 y h2)) (irr y)
    subst e
    congr 1
    refine strict_ext hp'.2 hq'.2 fun z => ?_
    constructor
    · intro hz
      rcases List.mem_cons.1 ((h z).1 (by simp [hz])) with rfl | h1
      · exact absurd (hp'.1 z hz) (irr z)
      · exact h1
    · intro hz
      rcases List.mem_cons.1 ((h z).2 (by simp [hz])) with rfl | h1
      · exact absurd (hq'.1 z hz) (irr z)
      · exact h1
/-- Each once, in their order: both halves, put together. -/
def srt : Nat → List ByteArray → List ByteArray
  | 0, l => l
  | n + 1, l => if l.length < 2 then l else mrgU (srt n (l.take (l.length / 2))) (srt n (l.drop (l.length / 2)))
theorem srt_len : ∀ (n : Nat) (l : List ByteArray), (srt n l).length ≤ l.length
  | 0, l => Nat.le_refl _
  | n + 1, l => by
    rw [srt]
    split
    · exact Nat.le_refl _
    · have h1 := srt_len n (l.take (l.length / 2))
      have h2 := srt_len n (l.drop (l.length / 2))
      have h3 := mrgU_len (srt n (l.take (l.length / 2))) (srt n (l.drop (l.length / 2)))
      rw [List.length_take] at h1
      rw [List.length_drop] at h2
      omega
theorem srt_mem : ∀ (n : Nat) (l : List ByteArray) (z : ByteArray), z ∈ srt n l ↔ z ∈ l
  | 0, l, z => Iff.rfl
  | n + 1, l, z => by
    rw [srt]
    split
    · exact Iff.rfl
    · rw [mrgU_mem, srt_mem n, srt_mem n, ← List.mem_append, List.take_append_drop]
theorem srt_strict : ∀ (n : Nat) (l : List ByteArray), l.length ≤ n + 1 → Strict (srt n l)
  | 0, l, h => by
    rw [srt]
    match l, h with
    | [], _ => exact List.Pairwise.nil
    | [x], _ => exact List.pairwise_singleton _ _
  | n + 1, l, h => by
    rw [srt]
    split
    · rename_i h2
      match l, h2 with
      | [], _ => exact List.Pairwise.nil
      | [x], _ => exact List.pairwise_singleton _ _
    · exact mrgU_strict _ _ (srt_strict n _ (by rw [List.length_take]; omega)) (srt_strict n _ (by rw [List.length_drop]; omega))
theorem srt_pos {n : Nat} {l : List ByteArray} (h : 0 < l.length) : 0 < (srt n l).length := by
  obtain ⟨x, hx⟩ := List.exists_mem_of_length_pos h
  exact List.length_pos_of_mem ((srt_mem n l x).2 hx)
/-- A list's strings, each once, in their order. -/
def sortS (l : List ByteArray) : List ByteArray := srt l.length l
theorem sort_mem {l : List ByteArray} {z : ByteArray} : z ∈ sortS l ↔ z ∈ l := srt_mem _ _ _
theorem sort_strict (l : List ByteArray) : Strict (sortS l) := srt_strict _ _ (by omega)
theorem sort_len (l : List ByteArray) : (sortS l).length ≤ l.length := srt_len _ _
theorem sort_ext {p l : List ByteArray} (hp : Strict p) (h : ∀ z, z ∈ p ↔ z ∈ l) : p = sortS l := strict_ext hp (sort_strict l) fun z => (h z).trans sort_mem.symm
end Go.Proofs.YtenokbceamcekaaGreatDoor.Wp
namespace Go.Proofs.YtenokbceamcekaaGreatDoor.Ew
open Go.RowKit Go.Proofs.YtenokbceamcekaaGreatDoor Go.Proofs.YtenokbceamcekaaGreatDoor.Ww Go.Proofs.YtenokbceamcekaaGreatDoor.Tw
set_option maxRecDepth 100000

/-- Some slice that reads as strings. -/
def SrtPost (w : World) (o : List ByteArray) (e : Ending) (w' : World) : Prop := ∃ v, e = .returned v ∧ Rd w' w'.heap.size v (strsC o) ∧ Below w.heap.size w w'
def sliceLen : Value → Nat
  | .slice _ n _ => n
  | _ => 0
theorem rd_take {w : World} {B : Nat} {a : Option Addr} {n c h : Nat} {l : List ByteArray} (hr : Rd w B (.slice a n c) (strsC l)) (hh : h ≤ l.length) : Rd w B (.slice a h c) (strsC (l.take h)) := by
  obtain ⟨a', c', hv, hc, hx⟩ := hr
  obtain ⟨rfl, rfl, rfl⟩ := (Value.slice.injEq ..).mp hv
  rw [strsC_len] at hc
  refine ⟨a, c, by rw [strsC_len, List.length_take, Nat.min_eq_left hh], by rw [strsC_len, List.length_take]; omega, fun hne => ?_⟩
  have hne' : strsC l ≠ [] := by
    intro e
    have : l = [] := by simpa [strsC] using e
    subst this
    exact hne (by simp [strsC])
  obtain ⟨b, o, ha, hb, hx⟩ := hx hne'
  refine ⟨b, o, ha, hb, fun j u hj => hx j u ?_⟩
  unfold strsC at hj ⊢
  rw [List.map_take] at hj
  have hl := (List.getElem?_eq_some_iff.1 hj).1
  rw [List.length_take] at hl
  rwa [List.getElem?_take_of_lt (by omega)] at hj
theorem rd_drop {w : World} {B : Nat} {b o n c h m : Nat} {l : List ByteArray} (hr : Rd w B (.slice (some ⟨b, o, none⟩) n c) (strsC l)) (hh : h < l.length) (hm : m = l.length - h) : Rd w B (.slice (some ⟨b, o + h, none⟩) m (c - h)) (strsC (l.drop h)) := by
  subst hm
  obtain ⟨b', o', c', hv, hc, hb, hx⟩ := hr.open_ (by rw [strsC_len]; omega)
  rw [strsC_len] at hv hc
  cases hv
  refine ⟨_, _, by rw [strsC_len, List.length_drop], by rw [strsC_len, List.length_drop]; omega, fun _ => ⟨b, o + h, rfl, hb, fun j u hj => ?_⟩⟩
  rw [Nat.add_assoc]
  refine hx (h + j) u ?_
  unfold strsC at hj ⊢
  rw [List.map_drop, List.getElem?_drop] at hj
  exact hj
/-- A slice that is not nil. -/
def At (v : Value) (n : Nat) : Prop := ∃ b o c, v = .slice (some ⟨b, o, none⟩) n c
theorem At.ite {b o c n : Nat} : At (.slice (if c = 1 then some ⟨b, o, none⟩ else some ⟨b, o + 1, none⟩) n (c - 1)) n := by
  by_cases h : c = 1
  · rw [if_pos h]; exact ⟨_, _, _, rfl⟩
  · rw [if_neg h]; exact ⟨_, _, _, rfl⟩
theorem at_rd {w : World} {B : Nat} {v : Value} {l : List ByteArray} (h : Rd w B v (strsC l)) (hl : 0 < l.length) : At v l.length := by
  obtain ⟨b, o, c, hv, _⟩ := h.open_ (by rw [strsC_len]; exact hl)
  exact ⟨b, o, c, by rw [hv, strsC_len]⟩
theorem strs_open {w : World} {B : Nat} {v : Value} {x : ByteArray} {p : List ByteArray} (h : Rd w B v (strsC (x :: p))) : ∃ b o c, v = .slice (some ⟨b, o, none⟩) (p.length + 1) c ∧ p.length + 1 ≤ c ∧ b < B ∧ w.cell? ⟨b, o, none⟩ = some (.string x) := by
  obtain ⟨b, o, c, hv, hc, hb, hx⟩ := h.open_ (by simp [strsC])
  rw [strsC_len] at hv hc
  exact ⟨b, o, c, hv, hc, hb, hx 0 _ rfl⟩
theorem strs_tail {w : World} {B : Nat} {b o c n : Nat} {x : ByteArray} {p : List ByteArray} (h : Rd w B (.slice (some ⟨b, o, none⟩) n c) (strsC (x :: p))) :
    Rd w B (.slice (if c = 1 then some ⟨b, o, none⟩ else some ⟨b, o + 1, none⟩) p.length (c - 1)) (strsC p) := by
  have := h.tail_ (x := .string x) (xs := strsC p)
  rw [strsC_len] at this
  by_cases hc : c = 1
  · rw [if_pos hc]
    rcases this.2 with h' | h'
    · omega
    · have hp : p = [] := by simpa [strsC] using h'
      subst hp
      exact Rd.nil _ _ _ _
  · rw [if_neg hc]; exact this.1
theorem cells_atS {w : World} {B : Nat} {v : Value} {xs : List Value} {b o n c : Nat} (h : Rd w B v xs) (hv : v = .slice (some ⟨b, o, none⟩) n c) : ∀ j u, xs[j]? = some u → w.cell? ((⟨b, o, none⟩ : Addr).add j) = some u := by
  subst hv
  obtain ⟨a, c', hv, _, h⟩ := h
  intro j u hj
  have hne : xs ≠ [] := fun e => by rw [e] at hj; cases hj
  obtain ⟨b', o', ha, _, hx⟩ := h hne
  cases hv
  cases ha
  rw [Addr.add_lit]
  exact hx j u hj
theorem strs_one (l : List ByteArray) : ∀ u ∈ strsC l, u.oneCell' = true := by
  intro u hu
  obtain ⟨_, _, rfl⟩ := List.mem_map.1 hu
  rfl
theorem strsC_app (a b : List ByteArray) : strsC (a ++ b) = strsC a ++ strsC b := by simp [strsC]
theorem strs_end {w : World} {B : Nat} {v : Value} {M p q r : List ByteArray} (h : Rd w B v (strsC r ++ strsC p ++ strsC q)) (hM : r ++ Wp.mrgU p q = M) (hpq : p = [] ∨ q = []) : Rd w B v (strsC M) := by
  have e : r ++ p ++ q = M := by
    rcases hpq with rfl | rfl
    · rw [← hM, List.append_nil, Wp.mrgU_left]
    · rw [← hM, Wp.mrgU_right, List.append_nil]
  rw [← e]
  simpa [strsC] using h

/-- What the loop's head knows. -/
def MgRel (w2 : World) (N : Nat) (M : List ByteArray) (va vb vo : Value) (wr : World) : Prop :=
  ∃ (p q r : List ByteArray) (a : Option Addr) (c : Nat), Rd wr w2.heap.size va (strsC p) ∧ Rd wr w2.heap.size vb (strsC q) ∧ vo = .slice a r.length c ∧ wr.ownsRow w2.heap.size ST 1 (.slice a r.length c) r.length (strsC r) ∧
    r ++ Wp.mrgU p q = M ∧ r.length + p.length + q.length ≤ N ∧ Below w2.heap.size w2 wr ∧ At va p.length ∧ At vb q.length
theorem MgRel.next {w2 wr w3 : World} {N : Nat} {M : List ByteArray} {z : ByteArray} {p q r p' q' : List ByteArray} {va vb : Value} {a2 : Option Addr} {c2 : Nat}
    (hp : Rd wr w2.heap.size va (strsC p')) (hq : Rd wr w2.heap.size vb (strsC q')) (hM : r ++ Wp.mrgU p q = M) (hz : Wp.mrgU p q = z :: Wp.mrgU p' q')
    (hlen : r.length + 1 + p'.length + q'.length ≤ N) (hB : Below w2.heap.size w2 wr)
    (ho : w3.ownsRow w2.heap.size ST 1 (.slice a2 (r.length + 1) c2) (r.length + 1) (strsC r ++ [.string z])) (h3 : Below w2.heap.size wr w3) (ha : At va p'.length) (hb : At vb q'.length) :
    MgRel w2 N M va vb (.slice a2 (r.length + 1) c2) w3 := by
  refine ⟨p', q', r ++ [z], a2, c2, hp.below h3, hq.below h3, by rw [List.length_append]; rfl, row_snoc ho, ?_, by rw [List.length_append]; exact hlen, hB.trans h3, ha, hb⟩
  rw [← hM, hz, List.append_assoc]; rfl

set_option maxHeartbeats 8000000 in
theorem Rsorted_any : ∀ (n : Nat) (l : List ByteArray) (w : World) (v : Value), l.length ≤ n + 1 → l.length ≤ 100000 → Rd w w.heap.size v (strsC l) →
    Calls Tryz.prog 28 #[v] w (SrtPost w (Wp.srt n l)) := by
  intro n
  have small : ∀ (m : Nat) (l : List ByteArray) (w : World) (v : Value), l.length < 2 → Rd w w.heap.size v (strsC l) → Calls Tryz.prog 28 #[v] w (SrtPost w l) := by
    intro m l w v h2 hr
    have HR := Lib.hid hr
    obtain ⟨a0, c0, rfl, hc0⟩ := hr.shape
    simp only [strsC_len] at *
    have hk : (l.length : Int) < 2 := by omega
    clear hr
    go_enter Tryz.func28, Tryz.ntmps28
    go_wp2_with fail
    go_ret
    exact ⟨_, rfl, HR.out, Below.refl _ _⟩
  induction n with
  | zero =>
    intro l w v hn hl hr
    exact small 0 l w v (by omega) hr
  | succ n ih =>
    intro l w v hn hl hr
    by_cases h2 : l.length < 2
    · rw [Wp.srt, if_pos h2]
      exact small 0 l w v h2 hr
    · obtain ⟨h, hh⟩ : ∃ h : Nat, h = l.length / 2 := ⟨_, rfl⟩
      have HO : Hid (Wp.srt (n + 1) l = Wp.mrgU (Wp.srt n (l.take h)) (Wp.srt n (l.drop h))) := Lib.hid (by rw [Wp.srt, if_neg h2, hh])
      obtain ⟨b, o, c0, rfl, hc0, hb, _⟩ := hr.open_ (by rw [strsC_len]; omega)
      simp only [strsC_len] at *
      have hq : (l.length : Int).tdiv 2 = (h : Int) := by rw [Int.tdiv_eq_ediv_of_nonneg (by omega)]; omega
      have hq2 : (l.length : Int) / 2 = (h : Int) := by omega
      have hk : ¬ (l.length : Int) < 2 := by omega
      have h0 : (0 : Int) ≤ (h : Int) := by omega
      have h1 : 0 < h := by omega
      have h3 : h < l.length := by omega
      have h4 : (h : Int) ≤ (l.length : Int) := by omega
      have h5 : (h : Int) ≤ (c0 : Int) := by omega
      have HR := Lib.hid hr
      have l1 := Wp.srt_len n (l.take h)
      have l2 := Wp.srt_len n (l.drop h)
      have p1 := Wp.srt_pos (n := n) (l := l.take h) (by rw [List.length_take]; omega)
      have p2 := Wp.srt_pos (n := n) (l := l.drop h) (by rw [List.length_drop]; omega)
      rw [List.length_take] at l1
      rw [List.length_drop] at l2
      have IA := Lib.hid (ih (l.take h) w (.slice (some ⟨b, o, none⟩) h c0) (by rw [List.length_take]; omega) (by rw [List.length_take]; omega) (rd_take hr (by omega)))
      have IB := Lib.hid fun w1 hr => ih (l.drop h) w1 (.slice (some ⟨b, o + h, none⟩) (l.length - h) (c0 - h)) (by rw [List.length_drop]; omega) (by rw [List.length_drop]; omega) hr
      have HD := Lib.hid (rd_drop (m := l.length - h) hr h3 rfl)
      rw [HO.out]
      generalize Wp.srt n (l.take h) = A at *
      generalize Wp.srt n (l.drop h) = B at *
      have HL : Hid (A.length + B.length ≤ l.length) := Lib.hid (by omega)
      have P1 := Lib.hid p1
      have P2 := Lib.hid p2
      clear ih hr l1 l2 hh small p1 p2
      obtain ⟨i0, hi, hz0, hz1, hz2⟩ := info_parts infoS
      go_enter Tryz.func28, Tryz.ntmps28
      go_wp2_with fail
      refine IA.out.mono ?_
      rintro e w1 ⟨va, rfl, ra, B1⟩
      have RA := Lib.hid ra
      clear ra
      go_wp2_with fail
      refine (IB.out w1 ((HD.out.below B1).more B1.size)).mono ?_
      rintro e w2 ⟨vb, rfl, rb, B2⟩
      have RB := Lib.hid rb
      clear rb
      go_wp2_with fail
      go_loopw [3, 4, 5] (fun va vb vo wr => MgRel w2 l.length (Wp.mrgU A B) va vb vo wr) (fun va vb _ _ => sliceLen va + sliceLen vb)
      case atStart => exact ⟨A, B, [], none, 0, (RA.out.below B2).more B2.size, RB.out, rfl, World.ownsRow_nil _ _ _ _, rfl, by have := HL.out; simp; omega, Below.refl _ _, at_rd RA.out P1.out, at_rd RB.out P2.out⟩
      case round =>
        obtain ⟨p, q, r, a, c, hp, hq', rfl, hrow, hM, hlen, hB, hap, haq⟩ := hrel
        cases p with
        | nil =>
          obtain ⟨bp, op_, cp, rfl⟩ := hap
          obtain ⟨bq, oq, cq, rfl⟩ := haq
          have HM := Lib.hid hM
          have HP := Lib.hid hp
          have HQ := Lib.hid hq'
          clear hM hp hq'
          simp only [List.length_nil] at hlen
          go_wp2_with (first
            | (at_builtin; refine wpList_append_own _ rfl _ _ 22 rfl w2.heap.size ST i0 (.string ByteArray.empty) 1 16 Tryz.underlying22 hi hz0 hz1 hz2 rfl (by decide) _ _ _ rfl hown1 ⟨bq, oq, none⟩ _ _ (strsC q) rfl (by rw [strsC_len]; simp) (cells_atS (HQ.out.below hb1) rfl) (strs_one _) (by unfold maxLen; simp; omega) (by simp; omega) (by have := hB.size; have := hb1.size; omega) ?_; intro v'' w4 hown2 hgrow2 _)
            | (at_builtin; refine wpList_append_own _ rfl _ _ 22 rfl w2.heap.size ST i0 (.string ByteArray.empty) 1 16 Tryz.underlying22 hi hz0 hz1 hz2 rfl (by decide) _ _ _ rfl hrow ⟨bp, op_, none⟩ _ _ (strsC []) rfl (by rw [strsC_len]; simp) (cells_atS HP.out rfl) (strs_one _) (by unfold maxLen; simp; omega) (by simp; omega) hB.size ?_; intro v' w3 hown1 hgrow1 _; have hb1 := (Below.refl w2.heap.size wr).grown hgrow1 hB.size fun j ej => (hrow.lt j ej).1))
          go_ret
          exact ⟨_, rfl, strs_end (Rd.of_own hown2) HM.out (by simp), (B1.trans (B2.mono B1.size)).trans ((hB.trans (hb1.grown hgrow2 (by have := hB.size; have := hb1.size; omega) fun j ej => (hown1.lt j ej).1)).mono (by have := B1.size; have := B2.size; omega))⟩
        | cons x p =>
          cases q with
          | nil =>
            obtain ⟨bp, op_, cp, rfl⟩ := hap
            obtain ⟨bq, oq, cq, rfl⟩ := haq
            have HM := Lib.hid hM
            have HP := Lib.hid hp
            have HQ := Lib.hid hq'
            clear hM hp hq'
            simp only [List.length_cons, List.length_nil] at hlen
            go_wp2_with (first
              | (at_builtin; refine wpList_append_own _ rfl _ _ 22 rfl w2.heap.size ST i0 (.string ByteArray.empty) 1 16 Tryz.underlying22 hi hz0 hz1 hz2 rfl (by decide) _ _ _ rfl hown1 ⟨bq, oq, none⟩ _ _ (strsC []) rfl (by rw [strsC_len]; simp) (cells_atS (HQ.out.below hb1) rfl) (strs_one _) (by unfold maxLen; simp; omega) (by simp; omega) (by have := hB.size; have := hb1.size; omega) ?_; intro v'' w4 hown2 hgrow2 _)
              | (at_builtin; refine wpList_append_own _ rfl _ _ 22 rfl w2.heap.size ST i0 (.string ByteArray.empty) 1 16 Tryz.underlying22 hi hz0 hz1 hz2 rfl (by decide) _ _ _ rfl hrow ⟨bp, op_, none⟩ _ _ (strsC (x :: p)) rfl (by rw [strsC_len]; simp) (cells_atS HP.out rfl) (strs_one _) (by unfold maxLen; simp; omega) (by simp; omega) hB.size ?_; intro v' w3 hown1 hgrow1 _; have hb1 := (Below.refl w2.heap.size wr).grown hgrow1 hB.size fun j ej => (hrow.lt j ej).1))
            go_ret
            exact ⟨_, rfl, strs_end (Rd.of_own hown2) HM.out (by simp), (B1.trans (B2.mono B1.size)).trans ((hB.trans (hb1.grown hgrow2 (by have := hB.size; have := hb1.size; omega) fun j ej => (hown1.lt j ej).1)).mono (by have := B1.size; have := B2.size; omega))⟩
          | cons y q =>
            obtain ⟨bp, op_, cp, rfl, hcp, hbp, hxc⟩ := strs_open hp
            obtain ⟨bq, oq, cq, rfl, hcq, hbq, hyc⟩ := strs_open hq'
            have HP := Lib.hid hp
            have HQ := Lib.hid hq'
            have HM := Lib.hid hM
            simp only [List.length_cons] at hlen
            clear hp hq' hM
            rcases Wp.three x y with hxy | hxy | hxy
            · subst hxy
              have hcmp : (Op.bytesLess x.toList x.toList || x.toList == x.toList) = true := by rw [beq_self_eq_true]; simp
              have HN := Lib.hid fun w3 a2 c2 => @MgRel.next w2 wr w3 l.length (Wp.mrgU A B) x (x :: p) (x :: q) r p q _ _ a2 c2 (strs_tail HP.out) (strs_tail HQ.out) HM.out Wp.mrgU_same (by omega) hB
              have HN := Lib.hid fun w3 a2 c2 h1 h2 => HN.out w3 a2 c2 h1 h2 At.ite At.ite
              go_wp2_with (at_builtin; refine wpList_append_own _ rfl _ _ 22 rfl w2.heap.size ST i0 (.string ByteArray.empty) 1 16 Tryz.underlying22 hi hz0 hz1 hz2 rfl (by decide) _ _ _ rfl (hrow.alloc _) ⟨wr.heap.size, 0, none⟩ 1 1 [.string x] rfl rfl (cell_one_new _ _ _) (by simp [Value.oneCell']) (by unfold maxLen; omega) (by omega) (by have := hB.size; simp; omega) ?_; intro v' w3 hown' hgrow _; obtain ⟨a2, c2, rfl⟩ := owns_slice hown')
              go_roundw
              case rel => exact HN.out _ _ _ hown' (((Below.refl w2.heap.size wr).alloc hB.size _).grown hgrow (by have := hB.size; simp; omega) fun j ej => (hrow.lt j ej).1)
              case measure => simp [sliceLen] <;> omega
            · have hl := hxy
              have hg := Wp.bl_irrefl x.data.toList
              have hcmp : (Op.bytesLess x.toList y.toList || x.toList == y.toList) = true := by
                rw [Lib.toList_data, Lib.toList_data]; show (Wp.bl _ _ || _) = true; rw [hxy]; rfl
              have hcmp2 : (Op.bytesLess y.toList x.toList || y.toList == x.toList) = false := by
                rw [Lib.toList_data, Lib.toList_data]
                show (Wp.bl _ _ || _) = false
                rw [Bool.or_eq_false_iff]
                refine ⟨?_, beq_eq_false_iff_ne.2 fun e => ?_⟩
                · cases h : Wp.bl y.data.toList x.data.toList with
                  | false => rfl
                  | true => have := Wp.bl_trans hxy h; rw [hg] at this; cases this
                · rw [e, hg] at hxy; cases hxy
              have HN := Lib.hid fun w3 a2 c2 => @MgRel.next w2 wr w3 l.length (Wp.mrgU A B) x (x :: p) (y :: q) r p (y :: q) _ _ a2 c2 (strs_tail HP.out) HQ.out HM.out (Wp.mrgU_lt hl) (by simp only [List.length_cons]; omega) hB
              have HN := Lib.hid fun w3 a2 c2 h1 h2 => HN.out w3 a2 c2 h1 h2 At.ite ⟨_, _, _, rfl⟩
              clear hxy hl hg
              go_wp2_with (at_builtin; refine wpList_append_own _ rfl _ _ 22 rfl w2.heap.size ST i0 (.string ByteArray.empty) 1 16 Tryz.underlying22 hi hz0 hz1 hz2 rfl (by decide) _ _ _ rfl (hrow.alloc _) ⟨wr.heap.size, 0, none⟩ 1 1 [.string x] rfl rfl (cell_one_new _ _ _) (by simp [Value.oneCell']) (by unfold maxLen; omega) (by omega) (by have := hB.size; simp; omega) ?_; intro v' w3 hown' hgrow _; obtain ⟨a2, c2, rfl⟩ := owns_slice hown')
              go_roundw
              case rel => exact HN.out _ _ _ hown' (((Below.refl w2.heap.size wr).alloc hB.size _).grown hgrow (by have := hB.size; simp; omega) fun j ej => (hrow.lt j ej).1)
              case measure => simp [sliceLen] <;> omega
            · have hl := hxy
              have hg := Wp.bl_irrefl y.data.toList
              have hcmp : (Op.bytesLess y.toList x.toList || y.toList == x.toList) = true := by
                rw [Lib.toList_data, Lib.toList_data]; show (Wp.bl _ _ || _) = true; rw [hxy]; rfl
              have hcmp2 : (Op.bytesLess x.toList y.toList || x.toList == y.toList) = false := by
                rw [Lib.toList_data, Lib.toList_data]
                show (Wp.bl _ _ || _) = false
                rw [Bool.or_eq_false_iff]
                refine ⟨?_, beq_eq_false_iff_ne.2 fun e => ?_⟩
                · cases h : Wp.bl x.data.toList y.data.toList with
                  | false => rfl
                  | true => have := Wp.bl_trans hxy h; rw [hg] at this; cases this
                · rw [e, hg] at hxy; cases hxy
              have HN := Lib.hid fun w3 a2 c2 => @MgRel.next w2 wr w3 l.length (Wp.mrgU A B) y (x :: p) (y :: q) r (x :: p) q _ _ a2 c2 HP.out (strs_tail HQ.out) HM.out (Wp.mrgU_gt hl) (by simp only [List.length_cons]; omega) hB
              have HN := Lib.hid fun w3 a2 c2 h1 h2 => HN.out w3 a2 c2 h1 h2 ⟨_, _, _, rfl⟩ At.ite
              clear hxy hl hg
              go_wp2_with (at_builtin; refine wpList_append_own _ rfl _ _ 22 rfl w2.heap.size ST i0 (.string ByteArray.empty) 1 16 Tryz.underlying22 hi hz0 hz1 hz2 rfl (by decide) _ _ _ rfl (hrow.alloc _) ⟨wr.heap.size, 0, none⟩ 1 1 [.string y] rfl rfl (cell_one_new _ _ _) (by simp [Value.oneCell']) (by unfold maxLen; omega) (by omega) (by have := hB.size; simp; omega) ?_; intro v' w3 hown' hgrow _; obtain ⟨a2, c2, rfl⟩ := owns_slice hown')
              go_roundw
              case rel => exact HN.out _ _ _ hown' (((Below.refl w2.heap.size wr).alloc hB.size _).grown hgrow (by have := hB.size; simp; omega) fun j ej => (hrow.lt j ej).1)
              case measure => simp [sliceLen] <;> omega
end Go.Proofs.YtenokbceamcekaaGreatDoor.Ew
