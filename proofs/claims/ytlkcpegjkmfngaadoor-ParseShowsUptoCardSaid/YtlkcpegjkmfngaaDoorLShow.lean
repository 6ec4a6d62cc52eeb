/-
  lex.plain, Quote, (Token).show, Show.
-/
import Derived.Lib.Replace
import Derived.Test.YtlkcpegjkmfngaaDoorLTokens
namespace Go.Proofs.YtlkcpegjkmfngaaDoor.Lx
open Go.RowKit Go.Proofs.YtlkcpegjkmfngaaDoor
set_option maxRecDepth 100000

theorem str_app' (a b : Bs) : str a ++ str b = str (a ++ b) := by
  refine by8_ext ?_
  rw [by8_str]
  show (str a ++ str b).data.toList = _
  rw [ByteArray.data_append, Array.toList_append]; rfl
theorem plain_any (w : World) (s : ByteArray) (b : Bool) (hs : s.size ≤ 1000000) (hb : Hid (Lp.plainB (by8 s) = b)) : Calls Tryd.prog 55 #[.string s] w fun e w' => e = .returned (.bool b) ∧ w = w' := by
  go_enter Tryd.func55, Tryd.ntmps55
  go_wp2_with fail
  go_loop [6] (fun v => ∃ k : Nat, v = .int .i64 k ∧ k ≤ s.size ∧ Hid (Lp.plainB ((by8 s).drop k) = b)) (fun v => s.size - (intOf v).toNat)
  case atStart => exact ⟨0, rfl, Nat.zero_le _, hb⟩
  case round =>
    obtain ⟨k, rfl, hk, hh0⟩ := hrel
    have hh := hh0.out
    clear hh0
    by_cases hlt : k < s.size
    · rw [by8_at hlt] at hh
      have hA := among_any w specS s[k]
      rw [spec_is] at hA
      cases hc : Lp.specB s[k] with
      | true =>
        have HT : Hid (b = false) := Lib.hid (by rw [← hh]; simp [Lp.plainB, hc])
        rw [hc] at hA
        clear hh hc
        go_wp2_with fail
        refine hA.mono ?_
        rintro e w' ⟨rfl, rfl⟩
        go_wp2_with fail
        go_ret
        exact ⟨by rw [HT.out]; rfl, rfl⟩
      | false =>
        have HT : Hid (Lp.plainB ((by8 s).drop (k + 1)) = b) := Lib.hid (by rw [← hh]; simp [Lp.plainB, hc])
        rw [hc] at hA
        clear hh hc
        go_wp2_with fail
        refine hA.mono ?_
        rintro e w' ⟨rfl, rfl⟩
        go_wp2_with fail
        go_round
        case rel => exact ⟨k + 1, by go_num, hlt, HT⟩
        case measure => simp [intOf]; omega
    · obtain rfl : k = s.size := by omega
      have HT : Hid (b = true) := Lib.hid (by rw [← hh, List.drop_eq_nil_of_le (by rw [by8_len]; omega)]; rfl)
      clear hh
      go_wp2_with fail
      go_ret
      exact ⟨by rw [HT.out]; rfl, rfl⟩

theorem repl_id {u : Bs} (h : ∀ x ∈ u, x ≠ 39) : Lp.replA u = u := by
  induction u with
  | nil => rfl
  | cons c r ih =>
    show (if c = 39 then _ else [c]) ++ Lp.replA r = _
    rw [if_neg (h c (by simp)), ih (fun x hx => h x (List.mem_cons_of_mem _ hx))]; rfl
theorem repl_app (u v : Bs) : Lp.replA (u ++ v) = Lp.replA u ++ Lp.replA v := by simp [Lp.replA]
theorem replK_is : ∀ (k : Nat) (s : Bs), s.count 39 ≤ k → Lib.replaceK [39] [39, 92, 39, 39] k s = Lp.replA s
  | 0, s, h => by
    show s = _
    rw [repl_id]
    intro x hx e
    subst e
    have := List.count_pos_iff.2 hx
    omega
  | k + 1, s, h => by
    by_cases hm : (39 : UInt8) ∈ s
    · have hc : 0 < Lib.count s [39] := by rw [Lib.count_one]; exact List.count_pos_iff.2 hm
      obtain ⟨i, hi⟩ := Lib.index_of_count hc
      have hib := hi
      rw [Lib.index_one] at hib
      obtain ⟨h1, h2⟩ := Lib.indexByte_some hib
      have hlt : i < s.length := (List.getElem?_eq_some_iff.1 h1).1
      have hsi : s[i] = 39 := (List.getElem?_eq_some_iff.1 h1).2
      have hs : s = s.take i ++ 39 :: s.drop (i + 1) := by
        conv => lhs; rw [← List.take_append_drop i s, List.drop_eq_getElem_cons hlt, hsi]
      have htk : Lp.replA (s.take i) = s.take i := repl_id fun x hx e => by
        obtain ⟨j, hj, rfl⟩ := List.getElem_of_mem hx
        have hj' : j < i := Nat.lt_of_lt_of_le hj (List.length_take_le _ _)
        refine h2 j hj' ?_
        rw [List.getElem_take] at e
        rw [List.getElem?_eq_getElem (Nat.lt_trans hj' hlt), e]
      rw [Lib.replaceK_hit _ _ _ _ _ hi]
      have hcnt : (s.drop (i + 1)).count 39 ≤ k := by
        have h3 : s.count 39 = (s.take i ++ 39 :: s.drop (i + 1)).count 39 := by rw [← hs]
        rw [List.count_append, List.count_cons_self] at h3
        omega
      rw [show i + [(39 : UInt8)].length = i + 1 from rfl, replK_is k _ hcnt]
      conv => rhs; rw [hs, repl_app, htk]
      show _ = _ ++ ([39, 92, 39, 39] ++ Lp.replA _)
      rw [List.append_assoc]
    · have hn : Lib.index s [39] = -1 := by
        by_cases hq : Lib.index s [39] = -1
        · exact hq
        · have hge := Lib.index_ge s [39]
          obtain ⟨i, hi⟩ : ∃ i : Nat, Lib.index s [39] = i := ⟨(Lib.index s [39]).toNat, by omega⟩
          rw [Lib.index_one] at hi
          exact absurd (List.mem_of_getElem? (Lib.indexByte_some hi).1) hm
      rw [Lib.replaceK, if_pos (by rw [hn]; rfl), repl_id]
      intro x hx e
      subst e
      exact hm hx
theorem replAll_is (s : Bs) : Lib.replaceAll s [39] [39, 92, 39, 39] = Lp.replA s := by
  unfold Lib.replaceAll Lib.replace
  rw [if_neg (by decide)]
  refine replK_is _ s ?_
  unfold Lib.replaceNum
  rw [if_pos (.inl (by decide)), Lib.count_one]
  exact Nat.le_refl _

set_option maxHeartbeats 1000000 in
theorem Quote_any (w : World) (s : ByteArray) (hs : s.size ≤ 1000000) (hG : Glob w) : Calls Tryd.prog 42 #[.string s] w fun e w' => e = .returned (.string (str (Lp.quoteA (by8 s)))) ∧ Below w.heap.size w w' := by
  have hP := plain_any w s (Lp.plainB (by8 s)) hs (Lib.hid rfl)
  obtain ⟨m, hm⟩ := hG.max
  have hcnt : Lib.countB s ⟨#[39]⟩ ≤ s.size := by
    show Lib.count (by8 s) [39] ≤ _
    rw [Lib.count_one, ← by8_len]
    exact List.count_le_length
  have hR := Tryd.strings_ReplaceAll s ⟨#[39]⟩ ⟨#[39, 92, 39, 39]⟩ m w (by omega) hm (by decide) (by show s.size + Lib.countB s ⟨#[39]⟩ * 4 ≤ _; omega)
  have e1 : (⟨(Lib.replaceAll s.data.toList (⟨#[39]⟩ : ByteArray).data.toList (⟨#[39, 92, 39, 39]⟩ : ByteArray).data.toList).toArray⟩ : ByteArray) = str (Lp.replA (by8 s)) := by rw [← replAll_is]; rfl
  rw [e1] at hR
  have hrl := Lp.repl_len (by8 s)
  have hsz := str_size (Lp.replA (by8 s))
  rw [by8_len] at hrl
  have hemp : s.toList.isEmpty = (by8 s).isEmpty := by rw [Lib.toList_data]; rfl
  by_cases h0 : by8 s = []
  · have HQ : Hid (str (Lp.quoteA (by8 s)) = ⟨#[39]⟩ ++ str (Lp.replA (by8 s)) ++ ⟨#[39]⟩) := Lib.hid (by
      unfold Lp.quoteA
      rw [if_neg (fun h => h.1 h0)]
      show _ = str [39] ++ str _ ++ str [39]
      rw [str_app', str_app']; rfl)
    have hE : s.toList.isEmpty = true := by rw [hemp, h0]; rfl
    rw [HQ.out]
    clear HQ hemp h0 hP e1 hcnt
    generalize str (Lp.replA (by8 s)) = q at *
    go_enter Tryd.func42, Tryd.ntmps42
    go_wp2_with fail
    refine hR.mono ?_
    rintro e w' ⟨rfl, hB⟩
    go_wp2_with fail
    go_ret
    exact ⟨rfl, hB⟩
  · have hE : s.toList.isEmpty = false := by rw [hemp]; simpa using h0
    cases hp : Lp.plainB (by8 s) with
    | true =>
      have HQ : Hid (str (Lp.quoteA (by8 s)) = s) := Lib.hid (by unfold Lp.quoteA; rw [if_pos ⟨h0, hp⟩, str_by8])
      rw [HQ.out]
      rw [hp] at hP
      clear HQ hemp h0 e1 hcnt hp hR
      go_enter Tryd.func42, Tryd.ntmps42
      go_wp2_with fail
      refine hP.mono ?_
      rintro e w' ⟨rfl, rfl⟩
      go_wp2_with fail
      go_ret
      exact ⟨rfl, Below.refl _ _⟩
    | false =>
      have HQ : Hid (str (Lp.quoteA (by8 s)) = ⟨#[39]⟩ ++ str (Lp.replA (by8 s)) ++ ⟨#[39]⟩) := Lib.hid (by
        unfold Lp.quoteA
        rw [if_neg (fun h => by rw [hp] at h; cases h.2)]
        show _ = str [39] ++ str _ ++ str [39]
        rw [str_app', str_app']; rfl)
      rw [HQ.out]
      rw [hp] at hP
      clear HQ hemp h0 e1 hcnt hp
      generalize str (Lp.replA (by8 s)) = q at *
      go_enter Tryd.func42, Tryd.ntmps42
      go_wp2_with fail
      refine hP.mono ?_
      rintro e w' ⟨rfl, rfl⟩
      go_wp2_with fail
      refine hR.mono ?_
      rintro e w' ⟨rfl, hB⟩
      go_wp2_with fail
      go_ret
      exact ⟨rfl, hB⟩

theorem show_any (w : World) (x : Lp.T) (hs : x.t.length ≤ 1000000) (hk : x.k ≤ 100) (hG : Glob w) : Calls Tryd.prog 34 #[.agg #[.int .i64 x.k, .string (str x.t)]] w fun e w' => e = .returned (.string (str (Lp.showT x))) ∧ Below w.heap.size w w' := by
  have hB0 := fun o => (Below.refl w.heap.size w).alloc (Nat.le_refl _) o
  by_cases hm : 1 ≤ x.k ∧ x.k ≤ 6
  · have HS : Hid (Lp.showT x = Lp.markT x.k) := Lib.hid (if_pos hm)
    obtain ⟨h1, h6⟩ := hm
    have hc := fun o => (hG.below (hB0 o)).marks x.k (by omega)
    have i1 : (1 : Int) ≤ (x.k : Int) := by omega
    have i2 : (x.k : Int) ≤ 6 := by omega
    have i3 : (x.k : Int) < 7 := by omega
    rw [HS.out]
    clear HS
    generalize str (Lp.markT x.k) = mk at *
    generalize str x.t = st at *
    generalize x.k = k at *
    have hc1 := hc (.cells #[.int .i64 k, .string st] 63)
    go_enter Tryd.func34, Tryd.ntmps34
    go_wp2_with fail
    go_ret
    exact ⟨rfl, hB0 _⟩
  · have HS : Hid (Lp.showT x = Lp.quoteA x.t) := Lib.hid (if_neg hm)
    have hQ := fun o => Quote_any (w.alloc o) (str x.t) (by rw [str_size]; exact hs) (hG.below (hB0 o))
    rw [by8_str] at hQ
    have hsz := str_size x.t
    rw [HS.out]
    by_cases h1 : 1 ≤ x.k
    · have i1 : (1 : Int) ≤ (x.k : Int) := by omega
      have i2 : ¬ (x.k : Int) ≤ 6 := by omega
      have i3 : decide ((x.k : Int) ≤ 6) = false := decide_eq_false i2
      clear HS hm
      generalize str x.t = st at *
      generalize x.k = k at *
      go_enter Tryd.func34, Tryd.ntmps34
      go_wp2_with fail
      refine (hQ _).mono ?_
      rintro e w' ⟨rfl, hB⟩
      go_wp2_with fail
      go_ret
      exact ⟨rfl, (hB0 _).trans (hB.mono (hB0 _).size)⟩
    · have i1 : ¬ (1 : Int) ≤ (x.k : Int) := by omega
      have i3 : decide ((1 : Int) ≤ (x.k : Int)) = false := decide_eq_false i1
      clear HS hm
      generalize str x.t = st at *
      generalize x.k = k at *
      go_enter Tryd.func34, Tryd.ntmps34
      go_wp2_with fail
      refine (hQ _).mono ?_
      rintro e w' ⟨rfl, hB⟩
      go_wp2_with fail
      go_ret
      exact ⟨rfl, (hB0 _).trans (hB.mono (hB0 _).size)⟩
end Go.Proofs.YtlkcpegjkmfngaaDoor.Lx
