/-
  The law WordsLists, walked: for every list of strings that can be read it returns true.
-/
import Derived.Test.YtnffinpjhfonjaaWRUnique
import Derived.Test.YtnffinpjhfonjaaWRJoin
import Derived.Test.YtnffinpjhfonjaaWLives
namespace Go.Proofs.Ytnffinpjhfonjaa.Ww
open Go.RowKit Go.Proofs.Ytnffinpjhfonjaa
set_option maxRecDepth 100000

theorem Rd.strs {w : World} {B : Nat} {l : List ByteArray} {v : Value} (h : Rd w B v (strsC l)) (hn : 0 < l.length) : ∃ b o c, v = .slice (some ⟨b, o, none⟩) l.length c ∧ l.length ≤ c ∧ b < B ∧ ∀ j (hj : j < l.length), w.cell? ⟨b, o + j, none⟩ = some (.string l[j]) := by
  obtain ⟨b, o, c, hv, hc, hb, hx⟩ := h.open_ (by rw [strsC_len]; exact hn)
  rw [strsC_len] at hv hc
  exact ⟨b, o, c, hv, hc, hb, fun j hj => hx j _ (strsC_get l hj)⟩
theorem getD_get {l : List ByteArray} {j : Nat} (h : j < l.length) : l.getD j ByteArray.empty = l[j] := by simp [List.getD, h]

theorem Clone_rd (w : World) (v : Value) (l : List ByteArray) (h : Rd w w.heap.size v (strsC l)) (hl : l.length ≤ 100000) :
    Calls Try.prog 6 #[v] w fun e w' => ∃ v', e = .returned v' ∧ Rd w' w'.heap.size v' (strsC l) ∧ Below w.heap.size w w' := by
  rcases Nat.eq_zero_or_pos l.length with h0 | h0
  · have e : l = [] := List.length_eq_zero_iff.1 h0
    subst e
    obtain ⟨a, c, rfl, _⟩ := h.shape
    cases a with
    | none => exact (Try.slices_Clone_string_nil _ c w).mono fun e w' ⟨he, hw⟩ => ⟨_, he, Rd.nil _ _ _ _, hw ▸ Below.refl _ _⟩
    | some a => exact (Try.slices_Clone_string_zero a c w).mono fun e w' ⟨v', he, ho, _, hB⟩ => ⟨v', he, Rd.of_own ho, hB⟩
  · obtain ⟨b, o, c, rfl, hc, hb, hx⟩ := h.strs h0
    refine (Try.slices_Clone_string b o l.length c l w (Nat.le_refl _) (by omega) (fun j hj => by rw [getD_get hj]; exact hx j hj)).mono fun e w' ⟨v', he, ho, _, hB⟩ => ⟨v', he, ?_, hB⟩
    rw [List.take_of_length_le (Nat.le_refl _)] at ho
    exact Rd.of_own ho

theorem Equal_rd (w : World) (B : Nat) (v v2 : Value) (l : List ByteArray) (h : Rd w B v (strsC l)) (h2 : Rd w B v2 (strsC l)) (hl : l.length ≤ 100000) :
    Calls Try.prog 8 #[v, v2] w fun e w' => e = .returned (.bool true) ∧ Below w.heap.size w w' := by
  rcases Nat.eq_zero_or_pos l.length with h0 | h0
  · have e : l = [] := List.length_eq_zero_iff.1 h0
    subst e
    obtain ⟨a, c, rfl, _⟩ := h.shape
    obtain ⟨a2, c2, rfl, _⟩ := h2.shape
    exact (Try.slices_Equal_string_empty a a2 c 0 c2 w (by omega)).mono fun e w' ⟨he, hw⟩ => ⟨he, hw ▸ Below.refl _ _⟩
  · obtain ⟨b, o, c, rfl, hc, hb, hx⟩ := h.strs h0
    obtain ⟨b2, o2, c2, rfl, hc2, hb2, hx2⟩ := h2.strs h0
    refine (Try.slices_Equal_string b o l.length c b2 o2 l.length c2 l l w (Nat.le_refl _) (Nat.le_refl _) (by omega) (by omega) (fun j hj => by rw [getD_get hj]; exact hx j hj) (fun j hj => by rw [getD_get hj]; exact hx2 j hj)).mono fun e w' ⟨he, q, hw⟩ => ⟨?_, hw ▸ below_drewN (Below.refl _ _) q⟩
    rw [he, decide_eq_true rfl]

theorem jn_len : ∀ (l : List ByteArray), (∀ x ∈ l, x.size ≤ 1000) → ∀ k, k ≤ l.length → (jn (l.take k)).length ≤ k * 1001
  | l, _, 0, _ => by simp [jn, Lib.join, List.intercalate]
  | l, h, k + 1, hk => by
    have hlt : k < l.length := by omega
    have hs := h _ (List.getElem_mem hlt)
    have hd : l[k].data.toList.length = l[k].size := (Lib.size_eq _).symm
    rcases Nat.eq_zero_or_pos k with rfl | h0
    · rw [jn_first hlt]; omega
    · have ih := jn_len l h k (by omega)
      rw [jn_next hlt h0, List.length_append, List.length_append]
      simp only [List.length_singleton]; omega

theorem Join_rd (w : World) (v : Value) (l : List ByteArray) (h : Rd w w.heap.size v (strsC l)) (hl : l.length ≤ 100000) (hs : ∀ x ∈ l, x.size ≤ 1000) :
    Calls Try.prog 9 #[v] w fun e w' => e = .returned (.string (joinS l)) ∧ Below w.heap.size w w' := by
  rcases Nat.eq_zero_or_pos l.length with h0 | h0
  · have e : l = [] := List.length_eq_zero_iff.1 h0
    subst e
    obtain ⟨a, c, rfl, _⟩ := h.shape
    exact (Join_none a c w).mono fun e w' ⟨he, hw⟩ => ⟨he, hw ▸ Below.refl _ _⟩
  · obtain ⟨b, o, c, rfl, hc, hb, hx⟩ := h.strs h0
    have hj := jn_len l hs l.length (Nat.le_refl _)
    rw [List.take_of_length_le (Nat.le_refl _)] at hj
    exact Join_any b o c l w (fun j x hj => by
      obtain ⟨h1, rfl⟩ := List.getElem?_eq_some_iff.1 hj
      exact hx j h1) hb (by omega) hc (by show (jn l).length ≤ _; omega)

set_option maxHeartbeats 4000000 in
theorem WordsLists_any (w : World) (v : Value) (l : List ByteArray) (hr : Rd w w.heap.size v (strsC l)) (hl : l.length ≤ 60) (hz : ∀ x ∈ l, x.size ≤ 140737488355328) :
    Calls Try.prog 3 #[v] w fun e w' => e = .returned (.bool true) ∧ Below w.heap.size w w' := by
  have HR := Lib.hid hr
  have HZ := Lib.hid hz
  obtain ⟨a0, c0, rfl, hc0⟩ := hr.shape
  clear hr hz
  rw [strsC_len] at *
  go_enter Try.func3, Try.ntmps3
  go_wp2_with fail
  refine (lives_any w).mono ?_
  rintro e w1 ⟨rfl, B1⟩
  go_wp2_with fail
  go_loop [17] (fun i => ∃ k : Nat, k ≤ l.length ∧ i = .int .i64 k ∧ ∀ j (hj : j < l.length), j < k → l[j].size ≤ 100) (fun i => l.length - (intOf i).toNat)
  case atStart => exact ⟨0, Nat.zero_le _, rfl, fun j _ h => absurd h (Nat.not_lt_zero _)⟩
  case round =>
    obtain ⟨k, hk, rfl, hall⟩ := hrel
    have HA := Lib.hid hall
    clear hall
    by_cases hlt : k < l.length
    · obtain ⟨b, o, c, hv, hc, hb, hx⟩ := HR.out.strs (by omega)
      obtain ⟨rfl, _, rfl⟩ := (Value.slice.injEq ..).mp hv
      have d := (B1.cell (p := ⟨b, o + k, none⟩) hb).trans (hx k hlt)
      have hzk := HZ.out _ (List.getElem_mem hlt)
      clear hx hv
      by_cases hbig : l[k].size ≤ 100
      · go_wp2_with fail
        go_round
        case rel => exact ⟨k + 1, hlt, by go_num, fun j hj h => by
          rcases Nat.lt_or_ge j k with h' | h'
          · exact HA.out j hj h'
          · obtain rfl : j = k := by omega
            exact hbig⟩
        case measure => simp [intOf]; omega
      · go_wp2_with fail
        go_ret
        exact ⟨rfl, B1⟩
    · obtain rfl : k = l.length := by omega
      have HS : Hid (∀ x ∈ l, x.size ≤ 1000) := Lib.hid fun x hx => by
        obtain ⟨j, hj, rfl⟩ := List.getElem_of_mem hx
        have := HA.out j hj hj; omega
      have HU := Wp.uniq_len l
      clear HA HZ
      go_wp2_with fail
      have C1 := Lib.hid B1
      refine (Clone_rd w1 _ l ((HR.out.below B1).more B1.size) (by omega)).mono ?_
      rintro e w2 ⟨v2, rfl, r2, B2⟩
      have R2 := Lib.hid r2
      have C2 := Lib.hid (C1.out.trans (B2.mono C1.out.size))
      clear r2 B1
      go_wp2_with fail
      refine (Unique_any w2 _ l R2.out (by omega) (fun x hx => by have := HS.out x hx; omega)).mono ?_
      rintro e w3 ⟨a3, c3, rfl, o3, B3⟩
      have R3 := Lib.hid (Rd.of_own o3)
      have C3 := Lib.hid (C2.out.trans (B3.mono C2.out.size))
      have R2' := Lib.hid ((R2.out.below B3).more B3.size)
      clear o3 B2 R2
      go_wp2_with fail
      refine (Equal_rd w3 w3.heap.size _ _ l R2'.out ((HR.out.below C3.out).more C3.out.size) (by omega)).mono ?_
      rintro e w4 ⟨rfl, B4⟩
      have R4 := Lib.hid ((R3.out.below B4).more B4.size)
      have C4 := Lib.hid (C3.out.trans (B4.mono C3.out.size))
      clear B3 B4 R3 R2'
      go_wp2_with fail
      refine (Join_rd w4 _ l ((HR.out.below C4.out).more C4.out.size) (by omega) HS.out).mono ?_
      rintro e w5 ⟨rfl, B5⟩
      have R5 := Lib.hid ((R4.out.below B5).more B5.size)
      have C5 := Lib.hid (C4.out.trans (B5.mono C4.out.size))
      clear B5 R4
      go_wp2_with fail
      refine (RJoin_any w5 _ l ((HR.out.below C5.out).more C5.out.size) (by omega) HS.out).mono ?_
      rintro e w6 ⟨rfl, B6⟩
      have R6 := Lib.hid ((R5.out.below B6).more B6.size)
      have C6 := Lib.hid (C5.out.trans (B6.mono C5.out.size))
      clear B6 R5
      go_wp2_with fail
      refine (RUnique_any w6 _ l ((HR.out.below C6.out).more C6.out.size) (by omega)).mono ?_
      rintro e w7 ⟨a7, c7, rfl, r7, B7⟩
      have R7 := Lib.hid r7
      have R6' := Lib.hid ((R6.out.below B7).more B7.size)
      have C7 := Lib.hid (C6.out.trans (B7.mono C6.out.size))
      clear B7 R6 r7
      go_wp2_with fail
      refine (Equal_rd w7 w7.heap.size _ _ (Wp.uniq l) R6'.out R7.out (by omega)).mono ?_
      rintro e w8 ⟨rfl, B8⟩
      have R8 := Lib.hid ((R6'.out.below B8).more B8.size)
      have C8 := Lib.hid (C7.out.trans (B8.mono C7.out.size))
      clear B8 R7 R6'
      go_wp2_with fail
      have HU2 : Hid (∀ x ∈ Wp.uniq l, x.size ≤ 1000000) := Lib.hid fun x hx => by have := HS.out x (Wp.mem_uniq.1 hx); omega
      refine (Unique_any w8 _ (Wp.uniq l) R8.out (by omega) HU2.out).mono ?_
      rintro e w9 ⟨a9, c9, rfl, o9, B9⟩
      rw [Wp.uniq_uniq] at o9 ⊢
      have R9 := Lib.hid (Rd.of_own o9)
      have R8' := Lib.hid ((R8.out.below B9).more B9.size)
      have C9 := Lib.hid (C8.out.trans (B9.mono C8.out.size))
      clear B9 R8 o9
      go_wp2_with fail
      refine (Equal_rd w9 w9.heap.size _ _ (Wp.uniq l) R9.out R8'.out (by omega)).mono ?_
      rintro e w10 ⟨rfl, B10⟩
      go_wp2_with fail
      go_ret
      exact ⟨rfl, C9.out.trans (B10.mono C9.out.size)⟩

theorem WordsListsL_any (w : World) (a : Option Addr) (n c : Nat) (hl : 60 < n) (hn : n ≤ maxLen) :
    Calls Try.prog 3 #[.slice a n c] w fun e w' => e = .returned (.bool true) ∧ Below w.heap.size w w' := by
  unfold maxLen at hn
  go_enter Try.func3, Try.ntmps3
  go_wp2_with fail
  refine (lives_any w).mono ?_
  rintro e w1 ⟨rfl, B1⟩
  go_wp2_with fail
  refine (lives_any w1).mono ?_
  rintro e w2 ⟨rfl, B2⟩
  go_wp2_with fail
  go_ret
  exact ⟨rfl, B1.trans (B2.mono B1.size)⟩
end Go.Proofs.Ytnffinpjhfonjaa.Ww
