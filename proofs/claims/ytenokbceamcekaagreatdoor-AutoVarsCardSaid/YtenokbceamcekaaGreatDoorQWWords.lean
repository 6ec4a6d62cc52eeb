/-
  A text's words, as plain lists: where they begin and end; words, put together, are the same again. No program here.
-/
import Derived.Lib.Join
import Derived.Test.YtenokbceamcekaaGreatDoorQWReads
namespace Go.Proofs.YtenokbceamcekaaGreatDoor.Wp

def blankB (c : UInt8) : Bool := c == 32 || c == 9 || c == 10

/-- The words of a text, by where they begin and end: f is where the present one began, k is where we are. -/
def itA : Nat → Nat → Bs → List (Nat × Nat)
  | f, k, [] => if f < k then [(f, k)] else []
  | f, k, c :: r => if blankB c = true then (if f < k then (f, k) :: itA (k + 1) (k + 1) r else itA (k + 1) (k + 1) r) else itA f (k + 1) r
def items (u : Bs) : List (Nat × Nat) := itA 0 0 u
def restI (u : Bs) (f k : Nat) : List (Nat × Nat) := if k ≤ u.length then itA f k (u.drop k) else []

theorem restI_start (u : Bs) : restI u 0 0 = items u := by simp [restI, items]
theorem restI_over {u : Bs} {f k : Nat} (h : u.length < k) : restI u f k = [] := if_neg (by omega)
theorem restI_in {u : Bs} {f k : Nat} {c : UInt8} (h : k < u.length) (hc : u[k] = c) (hb : blankB c = false) : restI u f k = restI u f (k + 1) := by
  unfold restI
  rw [if_pos (by omega), if_pos (by omega), List.drop_eq_getElem_cons h, hc, itA, if_neg (by rw [hb]; decide)]
theorem restI_yes {u : Bs} {f k : Nat} (h : k ≤ u.length) (hb : ∀ c, u[k]? = some c → blankB c = true) (hf : f < k) : restI u f k = (f, k) :: restI u (k + 1) (k + 1) := by
  unfold restI
  rw [if_pos h]
  rcases Nat.lt_or_ge k u.length with hk | hk
  · rw [if_pos (by omega), List.drop_eq_getElem_cons hk, itA, if_pos (hb _ (List.getElem?_eq_getElem hk)), if_pos hf]
  · rw [if_neg (by omega), List.drop_of_length_le hk, itA, if_pos hf]
theorem restI_no {u : Bs} {f k : Nat} (h : k ≤ u.length) (hb : ∀ c, u[k]? = some c → blankB c = true) (hf : ¬ f < k) : restI u f k = restI u (k + 1) (k + 1) := by
  unfold restI
  rw [if_pos h]
  rcases Nat.lt_or_ge k u.length with hk | hk
  · rw [if_pos (by omega), List.drop_eq_getElem_cons hk, itA, if_pos (hb _ (List.getElem?_eq_getElem hk)), if_neg hf]
  · rw [if_neg (by omega), List.drop_of_length_le hk, itA, if_neg hf]

theorem itA_in : ∀ (t : Bs) (f k : Nat), f ≤ k → ∀ x ∈ itA f k t, x.1 < x.2 ∧ x.2 ≤ k + t.length
  | [], f, k, h, x, hx => by
    unfold itA at hx
    split at hx
    · simp at hx; subst hx; simp; omega
    · cases hx
  | c :: r, f, k, h, x, hx => by
    unfold itA at hx
    split at hx
    · split at hx
      · rcases List.mem_cons.1 hx with rfl | hx
        · simp; omega
        · have := itA_in r (k + 1) (k + 1) (Nat.le_refl _) x hx
          simp; omega
      · have := itA_in r (k + 1) (k + 1) (Nat.le_refl _) x hx
        simp; omega
    · have := itA_in r f (k + 1) (by omega) x hx
      simp; omega
theorem items_in {u : Bs} {x : Nat × Nat} (h : x ∈ items u) : x.1 < x.2 ∧ x.2 ≤ u.length := by
  have := itA_in u 0 0 (Nat.le_refl _) x h
  omega
theorem itA_len : ∀ (t : Bs) (f k : Nat), f ≤ k → (itA f k t).length ≤ t.length + (if f < k then 1 else 0)
  | [], f, k, _ => by unfold itA; split <;> simp
  | c :: r, f, k, _ => by
    have h1 := itA_len r (k + 1) (k + 1) (Nat.le_refl _)
    have h2 := itA_len r f (k + 1) (by omega)
    rw [if_neg (by omega)] at h1
    rw [if_pos (by omega)] at h2
    unfold itA
    split
    · split
      · simp; omega
      · simp; omega
    · simp; split <;> omega
theorem items_len (u : Bs) : (items u).length ≤ u.length := by
  have := itA_len u 0 0 (Nat.le_refl _)
  simpa [items] using this

/-- A word of a text. -/
def word (u : Bs) (x : Nat × Nat) : Bs := (u.drop x.1).take (x.2 - x.1)
/-- A text's words, one byte after another one: acc is what stands of the present one. -/
def wl : Bs → Bs → List Bs
  | acc, [] => if acc = [] then [] else [acc]
  | acc, c :: r => if blankB c = true then (if acc = [] then wl [] r else acc :: wl [] r) else wl (acc ++ [c]) r

theorem word_nil {u : Bs} {f k : Nat} (hf : f ≤ k) (hk : k ≤ u.length) : word u (f, k) = [] ↔ ¬ f < k := by
  unfold word
  rw [← List.length_eq_zero_iff, List.length_take, List.length_drop]
  show min (k - f) (u.length - f) = 0 ↔ _
  omega
theorem word_self (u : Bs) (k : Nat) : word u (k, k) = [] := by simp [word]
theorem word_snoc {u : Bs} {f k : Nat} (hf : f ≤ k) (hk : k < u.length) : word u (f, k + 1) = word u (f, k) ++ [u[k]] := by
  unfold word
  show (u.drop f).take (k + 1 - f) = (u.drop f).take (k - f) ++ [u[k]]
  rw [show k + 1 - f = (k - f) + 1 by omega, List.take_succ_eq_append_getElem (by rw [List.length_drop]; omega), List.getElem_drop]
  congr 2
  congr 1
  omega
theorem itA_wl (u : Bs) : ∀ (n f k : Nat), u.length - k = n → f ≤ k → k ≤ u.length → (itA f k (u.drop k)).map (word u) = wl (word u (f, k)) (u.drop k)
  | 0, f, k, hn, hf, hk => by
    rw [List.drop_of_length_le (by omega), itA, wl]
    by_cases h : f < k
    · rw [if_pos h, if_neg (fun e => (word_nil hf hk).1 e h)]; rfl
    · rw [if_neg h, if_pos ((word_nil hf hk).2 h)]; rfl
  | n + 1, f, k, hn, hf, hk => by
    have hlt : k < u.length := by omega
    rw [List.drop_eq_getElem_cons hlt, itA, wl]
    by_cases hb : blankB u[k] = true
    · have ih := itA_wl u n (k + 1) (k + 1) (by omega) (Nat.le_refl _) (by omega)
      rw [word_self] at ih
      rw [if_pos hb, if_pos hb]
      by_cases h : f < k
      · rw [if_pos h, if_neg (fun e => (word_nil hf hk).1 e h), List.map_cons, ih]
      · rw [if_neg h, if_pos ((word_nil hf hk).2 h), ih]
    · have ih := itA_wl u n f (k + 1) (by omega) (by omega) (by omega)
      rw [if_neg hb, if_neg hb, ih, word_snoc hf hlt]
theorem items_wl (u : Bs) : (items u).map (word u) = wl [] u := by
  have := itA_wl u u.length 0 0 rfl (Nat.le_refl _) (Nat.zero_le _)
  rwa [word_self, List.drop_zero] at this

def Good (w : Bs) : Prop := w ≠ [] ∧ ∀ c ∈ w, blankB c = false
theorem wl_good : ∀ (t acc : Bs), (∀ c ∈ acc, blankB c = false) → ∀ w ∈ wl acc t, Good w
  | [], acc, ha, w, hw => by
    unfold wl at hw
    split at hw
    · cases hw
    · rename_i h
      obtain rfl := List.mem_singleton.1 hw
      exact ⟨h, ha⟩
  | c :: r, acc, ha, w, hw => by
    unfold wl at hw
    split at hw
    · split at hw
      · exact wl_good r [] (fun _ h => (List.not_mem_nil h).elim) w hw
      · rename_i h
        rcases List.mem_cons.1 hw with rfl | hw
        · exact ⟨h, ha⟩
        · exact wl_good r [] (fun _ h => (List.not_mem_nil h).elim) w hw
    · rename_i hc
      refine wl_good r (acc ++ [c]) (fun d hd => ?_) w hw
      rcases List.mem_append.1 hd with hd | hd
      · exact ha d hd
      · rw [List.mem_singleton.1 hd]; simpa using hc
theorem wl_word : ∀ (w acc t : Bs), (∀ c ∈ w, blankB c = false) → wl acc (w ++ t) = wl (acc ++ w) t
  | [], acc, t, _ => by simp
  | c :: w, acc, t, h => by
    have hc := h c (by simp)
    rw [List.cons_append, wl, if_neg (by rw [hc]; decide), wl_word w (acc ++ [c]) t (fun d hd => h d (by simp [hd])), List.append_assoc]
    rfl
theorem wl_tail : ∀ (ws : List Bs) (w : Bs), Good w → (∀ x ∈ ws, Good x) → wl w (Lib.joinTail [32] ws) = w :: ws
  | [], w, h, _ => by
    show wl w [] = [w]
    unfold wl
    rw [if_neg h.1]
  | x :: ws, w, h, hs => by
    have hx := hs x (by simp)
    have e : Lib.joinTail [32] (x :: ws) = 32 :: (x ++ Lib.joinTail [32] ws) := by simp [Lib.joinTail]
    rw [e, wl, if_pos (by decide), if_neg h.1, wl_word x [] _ hx.2, List.nil_append, wl_tail ws x hx (fun y hy => hs y (by simp [hy]))]
theorem wl_join : ∀ (ws : List Bs), (∀ x ∈ ws, Good x) → wl [] (Lib.join ws [32]) = ws
  | [], _ => by rw [Lib.join_nil]; rfl
  | w :: ws, h => by
    have hw := h w (by simp)
    rw [Lib.join_cons, wl_word w [] _ hw.2, List.nil_append, wl_tail ws w hw (fun y hy => h y (by simp [hy]))]
/-- Words, put together, are the same again. -/
theorem wl_again (u : Bs) : wl [] (Lib.join (wl [] u) [32]) = wl [] u := wl_join _ (wl_good u [] (fun _ h => (List.not_mem_nil h).elim))
end Go.Proofs.YtenokbceamcekaaGreatDoor.Wp
