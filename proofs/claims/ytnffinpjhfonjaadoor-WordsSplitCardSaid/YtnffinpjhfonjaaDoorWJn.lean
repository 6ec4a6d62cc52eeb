/-
  slices.Equal of one list at two places; words.Join of any list.
-/
import Derived.Lib.Join
import Derived.Test.YtnffinpjhfonjaaDoorWReads
import Derived.Test.YtnffinpjhfonjaaDoorWLives
namespace Go.Proofs.YtnffinpjhfonjaaDoor.Ww
open Go.RowKit Go.Proofs.YtnffinpjhfonjaaDoor
set_option maxRecDepth 100000

theorem Rd.strs {w : World} {B : Nat} {l : List ByteArray} {v : Value} (h : Rd w B v (strsC l)) (hn : 0 < l.length) : ∃ b o c, v = .slice (some ⟨b, o, none⟩) l.length c ∧ l.length ≤ c ∧ b < B ∧ ∀ j (hj : j < l.length), w.cell? ⟨b, o + j, none⟩ = some (.string l[j]) := by
  obtain ⟨b, o, c, hv, hc, hb, hx⟩ := h.open_ (by rw [strsC_len]; exact hn)
  rw [strsC_len] at hv hc
  exact ⟨b, o, c, hv, hc, hb, fun j hj => hx j _ (strsC_get l hj)⟩
theorem getD_get {l : List ByteArray} {j : Nat} (h : j < l.length) : l.getD j ByteArray.empty = l[j] := by simp [List.getD, h]

def jn (l : List ByteArray) : List UInt8 := Lib.join (l.map (·.data.toList)) [32]
theorem joinS_is (l : List ByteArray) : joinS l = ⟨(jn l).toArray⟩ := rfl
theorem jn_nil : jn [] = [] := rfl
theorem jn_first {l : List ByteArray} (h : 0 < l.length) : jn (l.take (0 + 1)) = l[0].data.toList := by
  rw [List.take_succ_eq_append_getElem h]
  simp [jn, Lib.join_one]
theorem jn_next {l : List ByteArray} {k : Nat} (h : k < l.length) (h0 : 0 < k) : jn (l.take (k + 1)) = jn (l.take k) ++ [32] ++ l[k].data.toList := by
  rw [List.take_succ_eq_append_getElem h]
  cases hr : l.take k with
  | nil =>
    have := congrArg List.length hr
    rw [List.length_take, List.length_nil] at this; omega
  | cons x r =>
    simp [jn, Lib.join_cons, Lib.joinTail]
theorem Equal_rd (w : World) (B : Nat) (v v2 : Value) (l : List ByteArray) (h : Rd w B v (strsC l)) (h2 : Rd w B v2 (strsC l)) (hl : l.length ≤ 100000) :
    Calls Tryd.prog 7 #[v, v2] w fun e w' => e = .returned (.bool true) ∧ Below w.heap.size w w' := by
  rcases Nat.eq_zero_or_pos l.length with h0 | h0
  · have e : l = [] := List.length_eq_zero_iff.1 h0
    subst e
    obtain ⟨a, c, rfl, _⟩ := h.shape
    obtain ⟨a2, c2, rfl, _⟩ := h2.shape
    exact (Tryd.slices_Equal_string_empty a a2 c 0 c2 w (by omega)).mono fun e w' ⟨he, hw⟩ => ⟨he, hw ▸ Below.refl _ _⟩
  · obtain ⟨b, o, c, rfl, hc, hb, hx⟩ := h.strs h0
    obtain ⟨b2, o2, c2, rfl, hc2, hb2, hx2⟩ := h2.strs h0
    refine (Tryd.slices_Equal_string b o l.length c b2 o2 l.length c2 l l w (Nat.le_refl _) (Nat.le_refl _) (by omega) (by omega) (fun j hj => by rw [getD_get hj]; exact hx j hj) (fun j hj => by rw [getD_get hj]; exact hx2 j hj)).mono fun e w' ⟨he, q, hw⟩ => ⟨?_, hw ▸ below_drewN (Below.refl _ _) q⟩
    rw [he, decide_eq_true rfl]

theorem jn_len : ∀ (l : List ByteArray), (∀ x ∈ l, x.size ≤ 2000) → ∀ k, k ≤ l.length → (jn (l.take k)).length ≤ k * 2001
  | l, _, 0, _ => by simp [jn, Lib.join, List.intercalate]
  | l, h, k + 1, hk => by
    have hlt : k < l.length := by omega
    have hs := h _ (List.getElem_mem hlt)
    have hd : l[k].data.toList.length = l[k].size := (Lib.size_eq _).symm
    rcases Nat.eq_zero_or_pos k with rfl | h0
    · rw [jn_first hlt]; omega
    · have ih := jn_len l h k (by omega)
      rw [jn_next hlt h0, List.length_append, List.length_append]
      simp only [List.length_singleton]; omega

theorem Join_rd (w : World) (v : Value) (l : List ByteArray) (h : Rd w w.heap.size v (strsC l)) (hl : l.length ≤ 100000) (hs : ∀ x ∈ l, x.size ≤ 2000) :
    Calls Tryd.prog 11 #[v] w fun e w' => e = .returned (.string (joinS l)) ∧ Below w.heap.size w w' := by
  rcases Nat.eq_zero_or_pos l.length with h0 | h0
  · have e : l = [] := List.length_eq_zero_iff.1 h0
    subst e
    obtain ⟨a, c, rfl, _⟩ := h.shape
    exact (Join_none a c w).mono fun e w' ⟨he, hw⟩ => ⟨he, hw ▸ Below.refl _ _⟩
  · obtain ⟨b, o, c, rfl, hc, hb, hx⟩ := h.strs h0
    have hj := jn_len l hs l.length (Nat.le_refl _)
    rw [List.take_of_length_le (Nat.le_refl _)] at hj
    exact Join_any b o c l w (fun j x hj => by
      obtain ⟨h1, rfl⟩ := List.getElem?_eq_some_iff.1 hj
      exact hx j h1) hb (by omega) hc (by show (jn l).length ≤ _; omega)

end Go.Proofs.YtnffinpjhfonjaaDoor.Ww
