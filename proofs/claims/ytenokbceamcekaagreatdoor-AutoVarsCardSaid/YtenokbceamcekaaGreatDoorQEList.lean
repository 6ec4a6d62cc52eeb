/-
  flatironref13: list, of, some.
-/
import Derived.Test.YtenokbceamcekaaGreatDoorQEPlain
import Derived.Test.YtenokbceamcekaaGreatDoorQESplit
import Derived.Test.YtenokbceamcekaaGreatDoorQTRef
namespace Go.Proofs.YtenokbceamcekaaGreatDoor.Ew
open Go.RowKit Go.Proofs.YtenokbceamcekaaGreatDoor Go.Proofs.YtenokbceamcekaaGreatDoor.Ww Go.Proofs.YtenokbceamcekaaGreatDoor.Tw
set_option maxRecDepth 100000

set_option maxHeartbeats 1000000 in
theorem Rlist_any (w : World) (s : ByteArray) (hs : s.size ≤ 1000000) : Calls Tryz.prog 24 #[.string s] w fun e w' => ∃ v, e = .returned v ∧ Rd w' w'.heap.size v (strsC (wordsS s)) ∧ Below w.heap.size w w' := by
  have HC := Lib.hid (RSplit_any w s (by omega))
  go_enter Tryz.func24, Tryz.ntmps24
  go_wp2_with fail
  refine HC.out.mono ?_
  rintro e w1 ⟨v1, v2, rfl, hr1, hr2, B1⟩
  obtain ⟨a1, c1, rfl, hc1⟩ := hr1.shape
  have HR := Lib.hid hr1
  rw [strsC_len] at *
  clear hr1 hr2
  go_wp2_with fail
  go_ret
  exact ⟨_, rfl, HR.out, B1⟩

/-- Is a word of one of some patterns? -/
def ofS (l : List ByteArray) (x : ByteArray) : Bool := l.any fun p => (Tp.matchA (by8 p) (by8 x)).isSome
theorem ofS_take {l : List ByteArray} {x : ByteArray} {k : Nat} (h : k < l.length) : ofS (l.take (k + 1)) x = (ofS (l.take k) x || (Tp.matchA (by8 l[k]) (by8 x)).isSome) := by
  unfold ofS
  rw [List.take_succ_eq_append_getElem h, List.any_append]; simp
theorem ofS_hit {l : List ByteArray} {x : ByteArray} {k : Nat} (h : k < l.length) (hm : (Tp.matchA (by8 l[k]) (by8 x)).isSome = true) : ofS l x = true := by
  unfold ofS
  rw [List.any_eq_true]
  exact ⟨l[k], List.getElem_mem h, hm⟩
set_option maxHeartbeats 2000000 in
theorem Rof_any (w : World) (v : Value) (l : List ByteArray) (x : ByteArray) (hr : Rd w w.heap.size v (strsC l)) (hl : l.length ≤ 1000000) (hs : ∀ p ∈ l, p.size ≤ 1000000) (hx : x.size ≤ 1000000) :
    Calls Tryz.prog 42 #[v, .string x] w fun e w' => e = .returned (.bool (ofS l x)) ∧ Below w.heap.size w w' := by
  have HR := Lib.hid hr
  have HS := Lib.hid hs
  obtain ⟨a0, c0, rfl, hc0⟩ := hr.shape
  rw [strsC_len] at *
  clear hr hs
  go_enter Tryz.func42, Tryz.ntmps42
  go_wp2_with fail
  go_loopw [5] (fun vi wr => ∃ k : Nat, vi = .int .i64 k ∧ k ≤ l.length ∧ ofS (l.take k) x = false ∧ Below w.heap.size w wr) (fun vi _ => l.length - (intOf vi).toNat)
  case atStart => exact ⟨0, rfl, Nat.zero_le _, rfl, Below.refl _ _⟩
  case round =>
    obtain ⟨k, rfl, hk, hn, hB⟩ := hrel
    by_cases hlt : k < l.length
    · obtain ⟨g, o, c', hv, hc', hg, hx2⟩ := HR.out.open_ (by rw [strsC_len]; omega)
      rw [strsC_len] at hv hc'
      obtain ⟨rfl, _, rfl⟩ := (Value.slice.injEq ..).mp hv
      have hcx : wr.cell? ⟨g, o + k, none⟩ = some (.string l[k]) := (hB.cell (p := ⟨g, o + k, none⟩) hg).trans (hx2 k _ (strsC_get l hlt))
      have hki : (k : Int) < l.length := by omega
      have hk0 : (0 : Int) ≤ (k : Int) := Int.natCast_nonneg _
      have hgv : l.length ≤ c0 := by omega
      have HC := Lib.hid (RMatch_any wr l[k] x (HS.out _ (List.getElem_mem hlt)) hx)
      have HBB := Lib.hid hB
      cases hm : Tp.matchA (by8 l[k]) (by8 x) with
      | none =>
        have HN : Hid (ofS (l.take (k + 1)) x = false) := Lib.hid (by rw [ofS_take hlt, hn, hm]; rfl)
        rw [hm] at HC
        simp only [mV] at HC
        clear hx2 hm hn hB
        generalize l[k] = p at *
        go_wp2_with fail
        refine HC.out.mono ?_
        rintro e w1 ⟨rfl, B1⟩
        have HB1 := Lib.hid (HBB.out.trans (B1.mono HBB.out.size))
        clear B1
        go_wp2_with fail
        go_roundw
        case rel => exact ⟨k + 1, by go_num, hlt, HN.out, HB1.out⟩
        case measure => simp [intOf]; omega
      | some z =>
        have HN : Hid (ofS l x = true) := Lib.hid (ofS_hit hlt (by rw [hm]; rfl))
        rw [hm] at HC
        simp only [mV] at HC
        clear hx2 hm hn hB
        generalize l[k] = p at *
        go_wp2_with fail
        refine HC.out.mono ?_
        rintro e w1 ⟨rfl, B1⟩
        have HB1 := Lib.hid (HBB.out.trans (B1.mono HBB.out.size))
        clear B1
        go_wp2_with fail
        go_ret
        rw [HN.out]
        exact ⟨rfl, HB1.out⟩
    · obtain rfl : k = l.length := by omega
      have hki : ¬ (l.length : Int) < l.length := by omega
      have HN : Hid (ofS l x = false) := Lib.hid (by rw [List.take_of_length_le (Nat.le_refl _)] at hn; exact hn)
      have HBB := Lib.hid hB
      clear hn hB
      go_wp2_with fail
      go_ret
      rw [HN.out]
      exact ⟨rfl, HBB.out⟩

theorem owns_below {wr w3 : World} {base : Nat} {e : TypeId} {z : Nat} {v : Value} {n : Nat} {xs : List Value} (h : wr.ownsRow base e z v n xs) (B : Below wr.heap.size wr w3) : w3.ownsRow base e z v n xs := by
  refine ⟨h.1, ?_⟩
  rcases h.2 with h | ⟨g, cap, cur, h1, h2, h3, h4⟩
  · exact .inl h
  · exact .inr ⟨g, cap, cur, h1, h2, (B.block g (Array.getElem?_eq_some_iff.1 h3).1).trans h3, h4⟩
/-- A fresh row of strings reads. -/
theorem rd_lit (w : World) (l : List ByteArray) (cs : Array Value) (h : cs.toList = strsC l) (c : Nat) (hc : l.length ≤ c) : Rd (w.alloc (.cells cs ST)) (w.alloc (.cells cs ST)).heap.size (.slice (some ⟨w.heap.size, 0, none⟩) l.length c) (strsC l) := by
  refine ⟨_, c, by rw [strsC_len], by rw [strsC_len]; exact hc, fun _ => ⟨w.heap.size, 0, rfl, by simp, fun j u hj => ?_⟩⟩
  rw [World.cell?_alloc_at _ _ _ _ (by simp)]
  rw [← h, Array.getElem?_toList] at hj
  simpa using hj

/-- A row of strings that grows. -/
theorem row_snoc {w1 : World} {B : Nat} {l : List ByteArray} {x : ByteArray} {a : Option Addr} {c : Nat} (h : w1.ownsRow B ST 1 (.slice a (l.length + 1) c) (l.length + 1) (strsC l ++ [.string x])) : w1.ownsRow B ST 1 (.slice a (l ++ [x]).length c) (l ++ [x]).length (strsC (l ++ [x])) := by
  rw [List.length_append, List.length_singleton]
  unfold strsC at h ⊢
  rw [List.map_append]
  exact h
/-- Words from one to another one. -/
def someS (l : List ByteArray) (a b : Nat) : List ByteArray := (l.take b).drop (a - 1)
theorem someS_next {l : List ByteArray} {a k : Nat} (ha : a - 1 ≤ k) (h : k < l.length) : someS l a (k + 1) = someS l a k ++ [l[k]] := by
  unfold someS
  rw [List.take_succ_eq_append_getElem h, List.drop_append_of_le_length (by rw [List.length_take]; omega)]
theorem someS_none {l : List ByteArray} {a b : Nat} (h : b ≤ a - 1) : someS l a b = [] := by
  unfold someS
  exact List.drop_of_length_le (by rw [List.length_take]; omega)
theorem someS_over {l : List ByteArray} {a b : Nat} (h : l.length ≤ b) : someS l a b = someS l a l.length := by
  unfold someS
  rw [List.take_of_length_le h, List.take_of_length_le (Nat.le_refl _)]
theorem someS_len (l : List ByteArray) (a b : Nat) : (someS l a b).length ≤ l.length := by unfold someS; rw [List.length_drop, List.length_take]; omega
set_option maxHeartbeats 2000000 in
theorem Rsome_any (w : World) (v : Value) (l : List ByteArray) (a b : Nat) (hr : Rd w w.heap.size v (strsC l)) (hl : l.length ≤ 1000000) (ha1 : 1 ≤ a) (ha : a ≤ 2000000000) (hb : b ≤ 2000000000) :
    Calls Tryz.prog 30 #[v, .int .i64 (a : Int), .int .i64 (b : Int)] w fun e w' => ∃ v', e = .returned v' ∧ Rd w' w'.heap.size v' (strsC (someS l a b)) ∧ Below w.heap.size w w' := by
  obtain ⟨i0, hi, hz0, hz1, hz2⟩ := info_parts infoS
  have HR := Lib.hid hr
  obtain ⟨a0, c0, rfl, hc0⟩ := hr.shape
  rw [strsC_len] at *
  clear hr
  go_enter Tryz.func30, Tryz.ntmps30
  go_wp2_with fail
  go_loopw [7, 8] (fun vo vi wr => ∃ (k : Nat) (out : List ByteArray) (ad : Option Addr) (c : Nat), vo = .slice ad out.length c ∧ vi = .int .i64 ((k : Int) + 1) ∧ a ≤ k + 1 ∧ (k + 1 ≤ a ∨ k ≤ b ∧ k ≤ l.length) ∧ out = someS l a k ∧ wr.ownsRow w.heap.size ST 1 (.slice ad out.length c) out.length (strsC out) ∧ Below w.heap.size w wr) (fun _ vi _ => l.length + 1 - (intOf vi).toNat)
  case atStart => exact ⟨a - 1, [], none, 0, rfl, by congr 1; omega, by omega, .inl (by omega), (someS_none (Nat.le_refl _)).symm, World.ownsRow_nil _ _ _ _, Below.refl _ _⟩
  case round =>
    obtain ⟨k, out, ad, c, rfl, rfl, hak, hkb, ho, hrow, hB⟩ := hrel
    have hk2 : k ≤ 2000000000 := by omega
    have hol : out.length ≤ l.length := by rw [ho]; exact someS_len _ _ _
    have HRow := Lib.hid hrow
    have HB := Lib.hid hB
    by_cases h1 : k + 1 ≤ b
    · have hb1 : (k : Int) + 1 ≤ (b : Int) := by omega
      by_cases hlt : k < l.length
      · have hl1 : (k : Int) + 1 ≤ (l.length : Int) := by omega
        obtain ⟨g, o, c', hv, hc', hg, hx2⟩ := HR.out.open_ (by rw [strsC_len]; omega)
        rw [strsC_len] at hv hc'
        obtain ⟨rfl, _, rfl⟩ := (Value.slice.injEq ..).mp hv
        have hcx : wr.cell? ⟨g, o + k, none⟩ = some (.string l[k]) := (hB.cell (p := ⟨g, o + k, none⟩) hg).trans (hx2 k _ (strsC_get l hlt))
        have hki : (k : Int) < l.length := by omega
        have hk0 : (0 : Int) ≤ (k : Int) := Int.natCast_nonneg _
        have hgv : l.length ≤ c0 := by omega
        have hw1 : IntKind.i64.wrap ((k : Int) + 1 - 1) = (k : Int) := by rw [IntWalk.i64_in _ (by omega)]; omega
        have hw2 : IntKind.i64.wrap (k : Int) = (k : Int) := by rw [IntWalk.i64_in _ (by omega)]
        have hw3 : (k : Int) + 1 - 1 = (k : Int) := by omega
        have HN : Hid (out ++ [l[k]] = someS l a (k + 1)) := Lib.hid (by rw [ho, someS_next (by omega) hlt])
        clear hx2 ho hrow hB
        generalize l[k] = x at *
        go_wp2_with (at_builtin; refine wpList_append_own _ rfl _ _ 22 rfl w.heap.size ST i0 (.string ByteArray.empty) 1 16 Tryz.underlying22 hi hz0 hz1 hz2 rfl (by decide) _ _ _ rfl (HRow.out.alloc _) ⟨wr.heap.size, 0, none⟩ 1 1 [.string x] rfl rfl (cell_one_new _ _ _) (by simp [Value.oneCell']) (by unfold maxLen; omega) (by omega) (by have := HB.out.size; simp; omega) ?_; intro v' w1 hown' hgrow _; obtain ⟨a2, c2, rfl⟩ := owns_slice hown')
        go_roundw
        case rel => exact ⟨k + 1, out ++ [x], a2, c2, by rw [List.length_append]; rfl, by go_num, by omega, .inr ⟨h1, hlt⟩, HN.out, row_snoc hown', (HB.out.alloc HB.out.size _).grown hgrow (by have := HB.out.size; simp; omega) fun j ej => (HRow.out.lt j ej).1⟩
        case measure => simp [intOf]; omega
      · have hl1 : ¬ (k : Int) + 1 ≤ (l.length : Int) := by omega
        have HE : Hid (out = someS l a b) := Lib.hid (by
          rw [ho, someS_over (b := k) (by omega), someS_over (b := b) (by omega)])
        clear hrow ho hB
        go_wp2_with fail
        go_ret
        rw [← HE.out]
        exact ⟨_, rfl, Rd.of_own HRow.out, HB.out⟩
    · have hb1 : ¬ (k : Int) + 1 ≤ (b : Int) := by omega
      have HE : Hid (out = someS l a b) := Lib.hid (by
        rw [ho]
        rcases hkb with h | h
        · rw [someS_none (by omega), someS_none (by omega)]
        · obtain rfl : k = b := by omega
          rfl)
      clear hrow ho hB
      go_wp2_with fail
      go_ret
      rw [← HE.out]
      exact ⟨_, rfl, Rd.of_own HRow.out, HB.out⟩
end Go.Proofs.YtenokbceamcekaaGreatDoor.Ew
