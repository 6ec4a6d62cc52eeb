/-
  flatironlaw14.ExpandLoops$1: the name of the i-th variable of a ring of k.
  Variables that need one another in a ring: what they are, what they come to.
-/
import Derived.Test.YtebagfadcjgllaaGreatDoorTBase
import Derived.Test.YtebagfadcjgllaaGreatDoorXOf
import Derived.Test.YtebagfadcjgllaaGreatDoorXRef
import Derived.Test.YtebagfadcjgllaaGreatDoorXVal
import Derived.Test.YtebagfadcjgllaaGreatDoorXIns
namespace Go.Proofs.YtebagfadcjgllaaGreatDoor.Xw
open Go.RowKit Go.Proofs.YtebagfadcjgllaaGreatDoor Go.Proofs.YtebagfadcjgllaaGreatDoor.Ww Go.Proofs.YtebagfadcjgllaaGreatDoor.Tw
set_option maxRecDepth 100000

/-- V, and a letter. -/
def nameA (k i : Nat) : Bs := [86, UInt8.ofNat (97 + i % k)]
theorem tmod_nat (i k : Nat) : (i : Int).tmod (k : Int) = ((i % k : Nat) : Int) := by
  rw [Int.tmod_eq_emod_of_nonneg (by omega)]; rfl
theorem name_any (w : World) (kb i k : Nat) (hk : w.cell? ⟨kb, 0, none⟩ = some (.int .i64 k)) (h1 : 1 ≤ k) (h2 : k ≤ 20) (_ : i ≤ 1000) :
    Calls Tryz.prog 5 #[.int .i64 i, .pointer (some ⟨kb, 0, none⟩)] w fun e w' => e = .returned (.string (str (nameA k i))) ∧ w = w' := by
  have hm := tmod_nat i k
  have hk0 : ¬ (k : Int) = 0 := by omega
  have hlt : i % k < k := Nat.mod_lt _ (by omega)
  unfold nameA
  obtain ⟨r, hr⟩ : ∃ r, i % k = r := ⟨_, rfl⟩
  rw [hr] at hm hlt ⊢
  have hc : r = 0 ∨ r = 1 ∨ r = 2 ∨ r = 3 ∨ r = 4 ∨ r = 5 ∨ r = 6 ∨ r = 7 ∨ r = 8 ∨ r = 9 ∨ r = 10 ∨ r = 11 ∨ r = 12 ∨ r = 13 ∨ r = 14 ∨ r = 15 ∨ r = 16 ∨ r = 17 ∨ r = 18 ∨ r = 19 := by omega
  clear hr hlt h1 h2
  rcases hc with rfl | rfl | rfl | rfl | rfl | rfl | rfl | rfl | rfl | rfl | rfl | rfl | rfl | rfl | rfl | rfl | rfl | rfl | rfl | rfl
  all_goals
    go_enter Tryz.func5, Tryz.ntmps5
    go_wp2_with fail
    go_ret
    exact ⟨by kernel_rfl, rfl⟩
end Go.Proofs.YtebagfadcjgllaaGreatDoor.Xw

namespace Go.Proofs.YtebagfadcjgllaaGreatDoor.Xw
open Go.RowKit Go.Proofs.YtebagfadcjgllaaGreatDoor Go.Proofs.YtebagfadcjgllaaGreatDoor.Ww Go.Proofs.YtebagfadcjgllaaGreatDoor.Tw Go.Proofs.YtebagfadcjgllaaGreatDoor.Kw Go.Proofs.YtebagfadcjgllaaGreatDoor.Jw Go.Proofs.YtebagfadcjgllaaGreatDoor.Xb
set_option maxRecDepth 100000

/-! ### what is at a name once a variable is set -/
theorem getA_app : ∀ (a b : List Jp.V) (n : Bs), (∀ v ∈ a, v.n ≠ n) → Jp.getA (a ++ b) n = Jp.getA b n
  | [], _, _, _ => rfl
  | v :: r, b, n, h => by
    show (if v.n = n then some v else Jp.getA (r ++ b) n) = _
    rw [if_neg (h v (by simp)), getA_app r b n fun x hx => h x (by simp [hx])]
theorem getA_ins_other (v : Jp.V) (n : Bs) (hn : v.n ≠ n) : ∀ (d : Bool) (l : List Jp.V), Jp.getA (Jp.insA v d l) n = Jp.getA l n
  | d, [] => by
    unfold Jp.insA
    split
    · rfl
    · show (if v.n = n then some v else none) = none
      rw [if_neg hn]
  | d, x :: r => by
    unfold Jp.insA
    rw [List.append_assoc, getA_app]
    · by_cases hx : x.n = v.n
      · rw [if_pos hx, List.nil_append, getA_ins_other v n hn]
        show _ = (if x.n = n then some x else Jp.getA r n)
        rw [if_neg (by rw [hx]; exact hn)]
      · rw [if_neg hx]
        show (if x.n = n then some x else Jp.getA (Jp.insA v _ r) n) = (if x.n = n then some x else Jp.getA r n)
        rw [getA_ins_other v n hn]
    · intro y hy
      split at hy
      · rw [List.mem_singleton.1 hy]; exact hn
      · cases hy
theorem less_irr (a : Bs) : Op.bytesLess a a = false := by rw [less_lt]; simp [List.lt_irrefl]
theorem getA_ins_same (v : Jp.V) : ∀ (l : List Jp.V), Jp.getA (Jp.insA v false l) v.n = some v
  | [] => by
    show (if v.n = v.n then some v else none) = some v
    rw [if_pos rfl]
  | x :: r => by
    unfold Jp.insA
    cases h : Op.bytesLess x.n v.n with
    | false =>
      rw [if_pos ⟨rfl, rfl⟩, List.append_assoc]
      show (if v.n = v.n then some v else _) = some v
      rw [if_pos rfl]
    | true =>
      have hne : x.n ≠ v.n := fun e => by rw [e, less_irr] at h; cases h
      rw [if_neg (by simp), if_neg hne]
      show (if x.n = v.n then some x else Jp.getA (Jp.insA v false r) v.n) = some v
      rw [if_neg hne, getA_ins_same v r]
theorem mem_insA (v : Jp.V) : ∀ (d : Bool) (l : List Jp.V) (x : Jp.V), x ∈ Jp.insA v d l → x = v ∨ x ∈ l
  | d, [], x, h => by
    unfold Jp.insA at h
    split at h
    · cases h
    · exact .inl (List.mem_singleton.1 h)
  | d, y :: r, x, h => by
    unfold Jp.insA at h
    rcases List.mem_append.1 h with h | h
    · rcases List.mem_append.1 h with h | h
      · split at h
        · exact .inl (List.mem_singleton.1 h)
        · cases h
      · split at h
        · cases h
        · exact .inr (by rw [List.mem_singleton.1 h]; simp)
    · rcases mem_insA v _ r x h with h | h
      · exact .inl h
      · exact .inr (by simp [h])
/-- All from a file. -/
def Files (T : Jp.T) : Prop := ∀ v ∈ T.l, v.f = 2
theorem setA_put {T : Jp.T} (h : Files T) (v : Jp.V) (hv : v.f = 2) : Jp.setA T v = Jp.putA T v := by
  unfold Jp.setA
  split
  · rename_i o ho
    have := h o (Jp.getA_mem ho).1
    rw [if_neg (by omega)]
  · rfl
theorem Files.set {T : Jp.T} (h : Files T) (v : Jp.V) (hv : v.f = 2) : Files (Jp.setA T v) := by
  rw [setA_put h v hv]
  intro x hx
  rcases mem_insA v false T.l x hx with rfl | hx
  · exact hv
  · exact h x hx
theorem get_set {T : Jp.T} (h : Files T) (v : Jp.V) (hv : v.f = 2) (n : Bs) : Jp.getA (Jp.setA T v).l n = if v.n = n then some v else Jp.getA T.l n := by
  rw [setA_put h v hv]
  by_cases hn : v.n = n
  · rw [if_pos hn, ← hn]; exact getA_ins_same v T.l
  · rw [if_neg hn]; exact getA_ins_other v n hn false T.l

/-! ### the ring -/
theorem nameA_mod (k i : Nat) : nameA k (i % k) = nameA k i := by unfold nameA; rw [Nat.mod_mod]
theorem nameA_inj {k i j : Nat} (h1 : 1 ≤ k) (h2 : k ≤ 20) (h : nameA k i = nameA k j) : i % k = j % k := by
  unfold nameA at h
  have hi : i % k < k := Nat.mod_lt _ (by omega)
  have hj : j % k < k := Nat.mod_lt _ (by omega)
  have h3 : UInt8.ofNat (97 + i % k) = UInt8.ofNat (97 + j % k) := by simpa using h
  have h4 := congrArg UInt8.toNat h3
  have e : ∀ a, a < 159 → (UInt8.ofNat a).toNat = a := fun a ha => by rw [UInt8.toNat_ofNat']; exact Nat.mod_eq_of_lt (by omega)
  rw [e _ (by omega), e _ (by omega)] at h4
  omega
theorem nameA_len (k i : Nat) : (nameA k i).length = 2 := rfl
theorem nameA_nam (k i : Nat) (h1 : 1 ≤ k) (h2 : k ≤ 20) : Nam (nameA k i) := by
  unfold nameA
  have hlt : i % k < k := Nat.mod_lt _ (by omega)
  obtain ⟨r, hr⟩ : ∃ r, i % k = r := ⟨_, rfl⟩
  rw [hr] at hlt ⊢
  have hc : r = 0 ∨ r = 1 ∨ r = 2 ∨ r = 3 ∨ r = 4 ∨ r = 5 ∨ r = 6 ∨ r = 7 ∨ r = 8 ∨ r = 9 ∨ r = 10 ∨ r = 11 ∨ r = 12 ∨ r = 13 ∨ r = 14 ∨ r = 15 ∨ r = 16 ∨ r = 17 ∨ r = 18 ∨ r = 19 := by omega
  clear hr hlt h1 h2
  rcases hc with rfl | rfl | rfl | rfl | rfl | rfl | rfl | rfl | rfl | rfl | rfl | rfl | rfl | rfl | rfl | rfl | rfl | rfl | rfl | rfl
  all_goals exact ⟨by decide, by decide, by unfold Flat; decide, by decide, by decide⟩
/-- A ring's variable. -/
def ringX (k i : Nat) : Bs := [120] ++ 36 :: (40 :: (nameA k (i + 1) ++ [41]))
def ringV (k i : Nat) : Jp.V := ⟨nameA k i, ringX k i, false, 2⟩
def ringL (k : Nat) : List Jp.V := (List.range k).map (ringV k)
def ringT (k : Nat) : Jp.T := setsA (ringL k)
theorem ringL_len (k : Nat) : (ringL k).length = k := by simp [ringL]
theorem ringL_get (k i : Nat) (h : i < (ringL k).length) : (ringL k)[i] = ringV k i := by simp [ringL]
theorem ringL_right (k : Nat) (_ : 1 ≤ k) (_ : k ≤ 20) : ∀ v ∈ ringL k, Jp.rightA v = true := by
  intro v hv
  obtain ⟨i, _, rfl⟩ := List.mem_map.1 hv
  rfl
theorem ringL_names (k : Nat) : ∀ v ∈ ringL k, v.n.length ≤ 1000 := by
  intro v hv
  obtain ⟨i, _, rfl⟩ := List.mem_map.1 hv
  show (nameA k i).length ≤ 1000
  rw [nameA_len]; omega
theorem ring_take (k : Nat) (h1 : 1 ≤ k) (h2 : k ≤ 20) : ∀ m, m ≤ k → Files (setsA ((ringL k).take m)) ∧ ∀ i, i < m → Jp.getA (setsA ((ringL k).take m)).l (nameA k i) = some (ringV k i)
  | 0, _ => ⟨fun v hv => (by cases hv), fun i hi => (by omega)⟩
  | m + 1, hm => by
    obtain ⟨hF, hG⟩ := ring_take k h1 h2 m (by omega)
    have hlt : m < (ringL k).length := by rw [ringL_len]; omega
    rw [setsA_take hlt, ringL_get]
    refine ⟨hF.set _ rfl, fun i hi => ?_⟩
    rw [get_set hF _ rfl]
    by_cases e : i = m
    · subst e; exact if_pos rfl
    · rw [if_neg (fun h => by
        have := nameA_inj h1 h2 h
        rw [Nat.mod_eq_of_lt (by omega), Nat.mod_eq_of_lt (by omega)] at this
        omega)]
      exact hG i (by omega)
theorem ring_files (k : Nat) (h1 : 1 ≤ k) (h2 : k ≤ 20) : Files (ringT k) := by
  have := (ring_take k h1 h2 k (Nat.le_refl _)).1
  rwa [List.take_of_length_le (by rw [ringL_len]; exact Nat.le_refl _)] at this
theorem ringX_mod (k i : Nat) : ringX k (i % k) = ringX k i := by
  unfold ringX nameA
  rw [Nat.mod_add_mod]
theorem ring_get (k i : Nat) (h1 : 1 ≤ k) (h2 : k ≤ 20) : Jp.getA (ringT k).l (nameA k i) = some ⟨nameA k i, ringX k i, false, 2⟩ := by
  have := (ring_take k h1 h2 k (Nat.le_refl _)).2 (i % k) (Nat.mod_lt _ (by omega))
  rw [List.take_of_length_le (by rw [ringL_len]; exact Nat.le_refl _), nameA_mod] at this
  rw [show ringT k = setsA (ringL k) from rfl, this]
  unfold ringV
  rw [nameA_mod, ringX_mod]
/-- The ring, cut. -/
def endV (k f : Nat) : Jp.V := ⟨nameA k (f + k - 1), [101, 110, 100], false, 2⟩
def endT (k f : Nat) : Jp.T := Jp.setA (ringT k) (endV k f)
theorem end_last (k f : Nat) (h1 : 1 ≤ k) (h2 : k ≤ 20) : Jp.getA (endT k f).l (nameA k (f + k - 1)) = some ⟨nameA k (f + k - 1), [101, 110, 100], false, 2⟩ := by
  unfold endT
  rw [get_set (ring_files k h1 h2) _ rfl]; exact if_pos rfl
theorem mod_apart {k f i j : Nat} (hi : i < j) (hj : j < i + k) : (f + i) % k ≠ (f + j) % k := by
  intro h
  have h0 : 0 < k := by omega
  have e1 := Nat.div_add_mod (f + i) k
  have e2 := Nat.div_add_mod (f + j) k
  rw [h] at e1
  have h3 : k * ((f + j) / k) = k * ((f + i) / k) + (j - i) := by omega
  have h4 : (f + i) / k < (f + j) / k := Nat.lt_of_mul_lt_mul_left (a := k) (by omega)
  have h5 := Nat.mul_le_mul_left k (Nat.succ_le_of_lt h4)
  rw [Nat.mul_succ] at h5
  omega
theorem end_other (k f j : Nat) (h1 : 1 ≤ k) (h2 : k ≤ 20) (hj : j + 1 < k) : Jp.getA (endT k f).l (nameA k (f + j)) = some ⟨nameA k (f + j), ringX k (f + j), false, 2⟩ := by
  unfold endT
  rw [get_set (ring_files k h1 h2) _ rfl, if_neg ?_, ring_get k _ h1 h2]
  intro h
  have := nameA_inj h1 h2 h
  rw [show f + k - 1 = f + (k - 1) by omega] at this
  exact mod_apart (f := f) (k := k) (i := j) (j := k - 1) (by omega) (by omega) this.symm

/-- The names that are busy behind so many steps. -/
def busyA (k f : Nat) : Nat → List (Bs × Unit)
  | 0 => []
  | j + 1 => Kp.ins (busyA k f j) (nameA k (f + j), ())
theorem busy_sorted (k f : Nat) : ∀ j, Kp.Sorted (busyA k f j)
  | 0 => List.Pairwise.nil
  | j + 1 => Kp.sorted_ins (busy_sorted k f j)
theorem busy_mem (k f : Nat) : ∀ j g, g ∈ busyA k f j ↔ ∃ i, i < j ∧ g.1 = nameA k (f + i)
  | 0, g => by simp [busyA]
  | j + 1, g => by
    unfold busyA
    rw [Kp.mem_ins (busy_sorted k f j), busy_mem k f j]
    constructor
    · rintro (rfl | ⟨⟨i, hi, e⟩, _⟩)
      · exact ⟨j, by omega, rfl⟩
      · exact ⟨i, by omega, e⟩
    · rintro ⟨i, hi, e⟩
      by_cases h : g.1 = nameA k (f + j)
      · exact .inl (Prod.ext h rfl)
      · refine .inr ⟨⟨i, ?_, e⟩, h⟩
        have : i ≠ j := fun e2 => by subst e2; exact h e
        omega
theorem busy_len (k f : Nat) : ∀ j, (busyA k f j).length ≤ j
  | 0 => Nat.le_refl _
  | j + 1 => by
    have h1 := busy_len k f j
    have h2 := Kp.len_ins_le (busyA k f j) (nameA k (f + j), ())
    unfold busyA
    omega
theorem busy_not {k f j : Nat} (h1 : 1 ≤ k) (h2 : k ≤ 20) (hj : j < k) : ∀ g ∈ busyA k f j, g.1 ≠ nameA k (f + j) := by
  intro g hg e
  obtain ⟨i, hi, e2⟩ := (busy_mem k f j g).1 hg
  rw [e2] at e
  exact mod_apart (f := f) (i := i) (j := j) hi (by omega) (nameA_inj h1 h2 e)
theorem busy_is (k f : Nat) (h1 : 1 ≤ k) : ∃ g ∈ busyA k f k, g.1 = nameA k (f + k) :=
  ⟨(nameA k (f + 0), ()), (busy_mem k f k _).2 ⟨0, by omega, rfl⟩, by unfold nameA; rw [Nat.add_mod_right]; rfl⟩
def xs (n : Nat) : Bs := List.replicate n 120
theorem xs_succ (n : Nat) : xs (n + 1) = [120] ++ xs n := rfl

section
variable {xb tb ab lb yb : Nat} {gv kv : Value} {X : List Nat}
/-- A name between $( and ), behind a text. -/
theorem dollar_name {L : List Jp.V} (P N : Bs) (d : Int) (B : List (Bs × Unit)) (o : Option Bs) (hP : (36 : UInt8) ∉ P) (hp : P.length ≤ 1000) (hN : Nam N) (hv : ∀ v, o = some v → v.length ≤ 1000) (h1 : 0 ≤ d) (hd : d + 1 < 60) (HV : ValueC xb tb ab lb yb gv kv X L N (d + 1) B o) :
    ExpandC xb tb ab lb yb gv kv X L (P ++ 36 :: (40 :: (N ++ [41]))) d B (o.map (P ++ ·)) :=
  expand_ref P _ d B o hP hp (by have := hN.len; simp; omega) hv h1 (by omega) (reference_is N (d + 1) B o hN.close (by have := hN.len; omega) (inside_name N (d + 1) B o hN (by omega) hd HV))
/-- In a ring each variable comes to a loop. -/
theorem ring_loops (k f : Nat) (h1 : 1 ≤ k) (h2 : k ≤ 20) : ∀ m j, j + m = k → ValueC xb tb ab lb yb gv kv X (ringT k).l (nameA k (f + j)) ((j : Int) + 1) (busyA k f j) none
  | 0, j, h => by
    obtain rfl : j = k := by omega
    exact value_busy _ _ 2 _ _ (ring_get j (f + j) h1 h2) (by rw [nameA_len]; omega) (busy_is j f h1)
  | m + 1, j, h => by
    have ih := ring_loops k f h1 h2 m (j + 1) (by omega)
    refine value_var _ _ 2 _ _ none (ring_get k (f + j) h1 h2) (by rw [nameA_len]; omega) (busy_not h1 h2 (by omega)) (by have := busy_len k f j; omega) ?_
    exact dollar_name [120] (nameA k (f + j + 1)) ((j : Int) + 1) (busyA k f (j + 1)) none (by decide) (by decide) (nameA_nam k _ h1 h2) (fun v hv => by cases hv) (by omega) (by omega) ih
/-- Without the last step they come to its end. -/
theorem ring_ends (k f : Nat) (h1 : 1 ≤ k) (h2 : k ≤ 20) : ∀ m j, j + m + 1 = k → ValueC xb tb ab lb yb gv kv X (endT k f).l (nameA k (f + j)) ((j : Int) + 1) (busyA k f j) (some (xs m ++ [101, 110, 100]))
  | 0, j, h => by
    have hg := end_last k f h1 h2
    rw [show f + k - 1 = f + j by omega] at hg
    exact value_var _ _ 2 _ _ _ hg (by rw [nameA_len]; omega) (busy_not h1 h2 (by omega)) (by have := busy_len k f j; omega) (expand_plain _ _ _ (by decide) (by decide) (by omega) (by omega))
  | m + 1, j, h => by
    have ih := ring_ends k f h1 h2 m (j + 1) (by omega)
    refine value_var _ _ 2 _ _ _ (end_other k f j h1 h2 (by omega)) (by rw [nameA_len]; omega) (busy_not h1 h2 (by omega)) (by have := busy_len k f j; omega) ?_
    have := dollar_name [120] (nameA k (f + j + 1)) ((j : Int) + 1) (busyA k f (j + 1)) (some (xs m ++ [101, 110, 100])) (by decide) (by decide) (nameA_nam k _ h1 h2) (fun v hv => by cases hv; simp [xs]; omega) (by omega) (by omega) ih
    rw [xs_succ, List.append_assoc]
    exact this
/-- What is asked, and what it comes to. -/
def askX (k f : Nat) : Bs := [] ++ 36 :: (40 :: (nameA k f ++ [41]))
theorem ask_loops (k f : Nat) (h1 : 1 ≤ k) (h2 : k ≤ 20) : ExpandC xb tb ab lb yb gv kv X (ringT k).l (askX k f) 0 [] none :=
  dollar_name [] (nameA k f) 0 [] none (by decide) (by decide) (nameA_nam k _ h1 h2) (fun v hv => by cases hv) (by omega) (by omega) (ring_loops k f h1 h2 k 0 (by omega))
theorem ask_ends (k f : Nat) (h1 : 1 ≤ k) (h2 : k ≤ 20) : ExpandC xb tb ab lb yb gv kv X (endT k f).l (askX k f) 0 [] (some (xs (k - 1) ++ [101, 110, 100])) :=
  dollar_name [] (nameA k f) 0 [] (some (xs (k - 1) ++ [101, 110, 100])) (by decide) (by decide) (nameA_nam k _ h1 h2) (fun v hv => by cases hv; simp [xs]; omega) (by omega) (by omega) (ring_ends k f h1 h2 (k - 1) 0 (by omega))
end
end Go.Proofs.YtebagfadcjgllaaGreatDoor.Xw
