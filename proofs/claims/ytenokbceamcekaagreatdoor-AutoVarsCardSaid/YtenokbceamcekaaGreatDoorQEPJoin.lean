/-
  package text: join.
-/
import Derived.Deep.AppendLies
import Derived.Laws.OwnMore
import Derived.Test.YtenokbceamcekaaGreatDoorQEPBase
import Derived.Test.YtenokbceamcekaaGreatDoorQECall2
namespace Go.Proofs.YtenokbceamcekaaGreatDoor.Ew
open Go.RowKit Go.Proofs.YtenokbceamcekaaGreatDoor Go.Proofs.YtenokbceamcekaaGreatDoor.Ww Go.Proofs.YtenokbceamcekaaGreatDoor.Tw
set_option maxRecDepth 100000

theorem pairs_more {x y : List ByteArray} {k : Nat} (h : k < y.length) (hx : x.length ≤ k) : pairsS x (y.take (k + 1)) = pairsS x (y.take k) ++ [y[k]] := by
  apply List.ext_getElem?
  intro j
  have hl : (pairsS x (y.take k)).length = k := by rw [pairs_len, List.length_take]; omega
  rw [pairs_get, List.getElem?_take, List.getElem?_append, hl]
  by_cases hj : j < k
  · rw [if_pos (by omega), if_pos hj, pairs_get, List.getElem?_take, if_pos hj]
  · rw [if_neg hj, List.getElem?_eq_none (l := x) (by omega)]
    by_cases e : j = k
    · subst e
      rw [if_pos (by omega), List.getElem?_eq_getElem h, Nat.sub_self]; rfl
    · rw [if_neg (by omega), List.getElem?_eq_none (by simp; omega)]
theorem pairs_set {x y : List ByteArray} {k : Nat} (h : k < y.length) (hx : k < x.length) : pairsS x (y.take (k + 1)) = (pairsS x (y.take k)).set k (x[k] ++ y[k]) := by
  apply List.ext_getElem?
  intro j
  have hl : (pairsS x (y.take k)).length = x.length := by rw [pairs_len, List.length_take]; omega
  rw [pairs_get, List.getElem?_take, List.getElem?_set, hl]
  by_cases e : k = j
  · subst e
    rw [if_pos (by omega), if_pos rfl, if_pos hx, List.getElem?_eq_getElem hx, List.getElem?_eq_getElem h]
  · rw [if_neg e, pairs_get, List.getElem?_take]
    by_cases hj : j < k
    · rw [if_pos (by omega), if_pos hj]
    · rw [if_neg (by omega), if_neg hj]
theorem pairs_at {x y : List ByteArray} {k : Nat} (hx : k < x.length) : (pairsS x (y.take k))[k]? = some x[k] := by
  rw [pairs_get, List.getElem?_take, if_neg (Nat.lt_irrefl _), List.getElem?_eq_getElem hx]
theorem strsC_set (l : List ByteArray) (k : Nat) (z : ByteArray) : strsC (l.set k z) = (strsC l).set k (.string z) := by unfold strsC; rw [List.map_set]
/-- What a round of join knows. -/
def JpRel (w : World) (x y : List ByteArray) (vy vl vi : Value) (wr : World) : Prop :=
  ∃ (k n c : Nat) (ad : Option Addr), vl = .slice ad n c ∧ vi = .int .i64 (k : Int) ∧ k ≤ y.length ∧ n = (pairsS x (y.take k)).length ∧ wr.ownsRow w.heap.size ST 1 (.slice ad n c) n (strsC (pairsS x (y.take k))) ∧
    wr.ownsRow w.heap.size ST 1 vy y.length (strsC y) ∧ (vl.ownBlock = none ∨ vl.ownBlock ≠ vy.ownBlock) ∧ Below w.heap.size w wr
theorem own_old {w : World} {base : Nat} {e : TypeId} {size : Nat} {v : Value} {n : Nat} {xs : List Value} (h : w.ownsRow base e size v n xs) : some w.heap.size ≠ v.ownBlock := fun e => by
  have := (h.lt _ e.symm).2; omega
set_option maxHeartbeats 4000000 in
theorem Pjoin_any (w : World) (a b : ByteArray) (ha : a.size ≤ 9000) (hb : b.size ≤ 9000) : Calls Tryz.prog 74 #[.string a, .string b] w fun e w' => e = .returned (.string (joinS (pairsS (wordsS a) (wordsS b)))) ∧ Below w.heap.size w w' := by
  obtain ⟨i0, hi, hz0, hz1, hz2⟩ := info_parts infoS
  have HLa := Lib.hid fun W => PSplit_any W a (by omega)
  have HLb := Lib.hid fun W => PSplit_any W b (by omega)
  have hwa := words_few a
  have hwb := words_few b
  have HSa : Hid (∀ q ∈ wordsS a, q.size ≤ 9000) := Lib.hid fun q hq => word_lim ha hq
  have HSb : Hid (∀ q ∈ wordsS b, q.size ≤ 9000) := Lib.hid fun q hq => word_lim hb hq
  generalize wordsS a = x at *
  generalize wordsS b = y at *
  go_enter Tryz.func74, Tryz.ntmps74
  go_wp2_with fail
  refine (HLa.out _).mono ?_
  rintro e w1 ⟨a1, c1, rfl, HOa, B1⟩
  have HB1 := Lib.hid B1
  clear B1
  go_wp2_with fail
  refine (HLb.out _).mono ?_
  rintro e w2 ⟨a2, c2, rfl, HOb, B2⟩
  have HB2 := Lib.hid (HB1.out.trans (B2.mono HB1.out.size))
  have HOa2 := Lib.hid (owns_below HOa.out B2)
  have HOb2 := Lib.hid (owns_weaken HOb.out HB1.out.size)
  have HAp : Hid ((Value.slice a1 x.length c1).ownBlock = none ∨ (Value.slice a1 x.length c1).ownBlock ≠ (Value.slice a2 y.length c2).ownBlock) := Lib.hid (by
    by_cases h : (Value.slice a1 x.length c1).ownBlock = none
    · exact .inl h
    · obtain ⟨g, hg⟩ := Option.ne_none_iff_exists'.1 h
      refine .inr fun e => ?_
      have h1 := (HOa.out.lt _ hg).2
      have h2 := (HOb.out.lt _ (e ▸ hg)).1
      omega)
  clear B2
  go_wp2_with fail
  go_loopw [5, 13] (fun vl vi wr => JpRel w x y (.slice a2 y.length c2) vl vi wr) (fun _ vi _ => y.length - (intOf vi).toNat)
  case atStart => exact ⟨0, x.length, c1, a1, rfl, rfl, Nat.zero_le _, by rw [List.take_zero, pairs_nil], by rw [List.take_zero, pairs_nil]; exact HOa2.out, HOb2.out, HAp.out, HB2.out⟩
  case round =>
    obtain ⟨k, n, c, ad, rfl, rfl, hk, hn, hol, hoy, hap, hB⟩ := hrel
    have HY := Lib.hid hoy
    have HL := Lib.hid hol
    have HA := Lib.hid hap
    have HB := Lib.hid hB
    have HN := Lib.hid hn
    have hpl := pairs_len x (y.take k)
    rw [List.length_take] at hpl
    by_cases hlt : k < y.length
    · obtain ⟨g2, o2, c3, hv, hc3, hg2, hx2⟩ := (Rd.of_own hoy).open_ (by rw [strsC_len]; omega)
      rw [strsC_len] at hv hc3
      obtain ⟨rfl, _, rfl⟩ := (Value.slice.injEq ..).mp hv
      have hcx := hx2 k _ (strsC_get y hlt)
      have hki : (k : Int) < y.length := by omega
      have hk0 : (0 : Int) ≤ (k : Int) := Int.natCast_nonneg _
      have hyz := HSb.out _ (List.getElem_mem hlt)
      clear hx2 hv hoy hap hB
      by_cases hin : k < x.length
      · have hkn : k < n := by omega
        obtain ⟨g, cp, hv2, hgb, hgl⟩ := hol.form (by omega)
        obtain ⟨rfl, _, rfl⟩ := (Value.slice.injEq ..).mp hv2
        have hnc : n ≤ c := by
          rcases HL.out.2 with ⟨h, _⟩ | ⟨_, _, _, h, _, _, h1, _⟩
          · cases h
          · cases h; exact h1
        have hcl : w1.heap.size = w1.heap.size := rfl
        have hc5 := hol.cellAt k (by omega)
        rw [show (strsC (pairsS x (y.take k)))[k]? = some (.string x[k]) by unfold strsC; rw [List.getElem?_map, pairs_at hin]; rfl] at hc5
        have hf5 := hol.frozenAt k
        have hxz := HSa.out _ (List.getElem_mem hin)
        have HS5 := Lib.hid (hol.stored k (.string (x[k] ++ y[k])))
        have HNx : Hid (pairsS x (y.take (k + 1)) = (pairsS x (y.take k)).set k (x[k] ++ y[k])) := Lib.hid (pairs_set hlt hin)
        have hki2 : (k : Int) < (n : Int) := by omega
        clear hol hv2 hn hpl hcl
        generalize x[k] = p at *
        generalize y[k] = q at *
        have hsz : p.size + q.size ≤ 18000 := by omega
        go_wp2_with fail
        go_roundw
        case rel =>
          refine ⟨k + 1, n, c, _, rfl, by go_num, hlt, by rw [HNx.out, List.length_set]; exact HN.out, by rw [HNx.out, strsC_set]; exact HS5.out.1, HY.out.kept HS5.out.2 (.inr ?_), HA.out, HB.out.setCell (p := ⟨g, k, none⟩) hgb _⟩
          rcases HA.out with h | h
          · cases h
          · exact fun e => h e.symm
        case measure => simp [intOf]; omega
      · obtain rfl : n = k := by omega
        have HNx : Hid (pairsS x (y.take (n + 1)) = pairsS x (y.take n) ++ [y[n]]) := Lib.hid (pairs_more hlt (by omega))
        have hki2 : ¬ (n : Int) < (n : Int) := by omega
        clear hol hn hpl
        generalize y[n] = q at *
        go_wp2_with (at_builtin; refine wpList_append_own_at _ rfl _ _ 22 rfl w.heap.size ST i0 (.string ByteArray.empty) 1 16 Tryz.underlying22 hi hz0 hz1 hz2 rfl (by decide) _ _ _ rfl (HL.out.alloc _) ⟨wr.heap.size, 0, none⟩ 1 1 [.string q] rfl rfl (cell_one_new _ _ _) (by simp [Value.oneCell']) (by unfold maxLen; omega) (by omega) (by have := HB.out.size; simp; omega) ?_; intro v' w5 hown' hgrow _ hat; obtain ⟨a5, c5, rfl⟩ := owns_slice hown')
        go_roundw
        case rel =>
          refine ⟨n + 1, n + 1, c5, a5, rfl, by go_num, hlt, by rw [HNx.out, List.length_append, ← HN.out]; rfl, by rw [HNx.out, show strsC (pairsS x (y.take n) ++ [q]) = strsC (pairsS x (y.take n)) ++ [.string q] by simp [strsC]]; exact hown', (HY.out.alloc _).kept hgrow ?_, ?_, (HB.out.alloc HB.out.size _).grown hgrow (by have := HB.out.size; simp; omega) fun j ej => (HL.out.lt j ej).1⟩
          · rcases HA.out with h | h
            · exact .inr fun e => by cases e.trans h
            · exact .inr fun e => h e.symm
          · rcases hat with h | h
            · rw [h]; exact HA.out
            · rw [h]
              right
              intro e
              have := (HY.out.lt _ e.symm).2
              simp at this
              omega
        case measure => simp [intOf]; omega
    · obtain rfl : k = y.length := by omega
      have hki : ¬ (y.length : Int) < y.length := by omega
      rw [List.take_of_length_le (Nat.le_refl _)] at hn hol hpl
      have HJ := Lib.hid (PJoin_any wr (.slice ad n c) (pairsS x y) (Rd.of_own hol) (by omega) (fun q hq => by have := pairs_size HSa.out HSb.out q hq; omega))
      clear hol hn hpl hoy hap hB
      go_wp2_with fail
      refine HJ.out.mono ?_
      rintro e w3 ⟨rfl, B3⟩
      go_wp2_with fail
      go_ret
      exact ⟨rfl, HB.out.trans (B3.mono HB.out.size)⟩
end Go.Proofs.YtenokbceamcekaaGreatDoor.Ew
