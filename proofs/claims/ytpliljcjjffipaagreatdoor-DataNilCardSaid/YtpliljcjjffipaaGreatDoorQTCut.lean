/-
  Texts cut at a byte.
-/
import Derived.Lib.UnsafeStr
import Derived.Laws.Externs
import Derived.Lib.Strings
import Derived.Test.YtpliljcjjffipaaGreatDoorQTBase
import Derived.Test.YtpliljcjjffipaaGreatDoorShelf
namespace Go.Proofs.YtpliljcjjffipaaGreatDoor.Tw
open Go.RowKit Go.Proofs.YtpliljcjjffipaaGreatDoor Go.Proofs.YtpliljcjjffipaaGreatDoor.Ww
set_option maxRecDepth 100000

/- Texts cut at a byte. -/
theorem index_ways (c : UInt8) : ∀ l : Bs, (c ∉ l ∧ Lib.indexByte l c = -1) ∨ ∃ a b, l = a ++ c :: b ∧ c ∉ a ∧ Lib.indexByte l c = a.length
  | [] => .inl ⟨by simp, rfl⟩
  | x :: l => by
    unfold Lib.indexByte
    by_cases hx : x = c
    · subst hx
      exact .inr ⟨[], l, rfl, by simp, by simp⟩
    · have hx' : (x == c) = false := beq_eq_false_iff_ne.2 hx
      rw [hx']
      rcases index_ways c l with ⟨h1, h2⟩ | ⟨a, b, h1, h2, h3⟩
      · exact .inl ⟨by simp [h1, Ne.symm hx], by rw [h2]; rfl⟩
      · refine .inr ⟨x :: a, b, by rw [h1]; rfl, by simp [h2, Ne.symm hx], ?_⟩
        rw [h3]
        have : ((a.length : Int) == -1) = false := by rw [beq_eq_false_iff_ne]; omega
        simp [this]
theorem index_no {c : UInt8} {l : Bs} (h : c ∉ l) : Lib.indexByte l c = -1 := by
  rcases index_ways c l with ⟨_, h2⟩ | ⟨a, b, rfl, _, _⟩
  · exact h2
  · exact absurd (by simp) h
theorem app_inj {c : UInt8} : ∀ {a a' b b' : Bs}, a ++ c :: b = a' ++ c :: b' → c ∉ a → c ∉ a' → a = a' ∧ b = b'
  | [], [], _, _, h, _, _ => ⟨rfl, (List.cons.inj h).2⟩
  | [], x :: _, _, _, h, _, h2 => absurd (by rw [(List.cons.inj h).1]; simp) h2
  | x :: _, [], _, _, h, h1, _ => absurd (by rw [← (List.cons.inj h).1]; simp) h1
  | x :: a, y :: a', _, _, h, h1, h2 => by
    have hh := List.cons.inj h
    have h3 := app_inj (a := a) (a' := a') hh.2 (fun e => h1 (List.mem_cons_of_mem _ e)) (fun e => h2 (List.mem_cons_of_mem _ e))
    exact ⟨by rw [hh.1, h3.1], h3.2⟩
theorem index_yes {c : UInt8} {a b : Bs} (h : c ∉ a) : Lib.indexByte (a ++ c :: b) c = a.length := by
  rcases index_ways c (a ++ c :: b) with ⟨h2, _⟩ | ⟨a', b', h1, h2, h3⟩
  · exact absurd (by simp) h2
  · rw [h3, (app_inj h1 h h2).1]
theorem Index_no (w : World) (s : ByteArray) (c : UInt8) (h : c ∉ by8 s) : Calls Tryz.prog 207 #[.string s, .string ⟨#[c]⟩] w fun e w' => e = .returned (.int .i64 (-1)) ∧ w = w' :=
  (Tryz.stringslite_Index_one s c w).mono fun _ _ ⟨he, hw⟩ => ⟨by rw [he, show Lib.indexByte s.data.toList c = -1 from index_no h], hw.symm⟩
theorem Index_yes (w : World) (s : ByteArray) (c : UInt8) (k : Nat) (b : Bs) (hk : k ≤ s.size) (he : by8 s = (by8 s).take k ++ c :: b) (h : c ∉ (by8 s).take k) : Calls Tryz.prog 207 #[.string s, .string ⟨#[c]⟩] w fun e w' => e = .returned (.int .i64 k) ∧ w = w' :=
  (Tryz.stringslite_Index_one s c w).mono fun _ _ ⟨hr, hw⟩ => ⟨by
    have : Lib.indexByte (by8 s) c = k := by
      rw [he, index_yes h, List.length_take, by8_len, Nat.min_eq_left hk]
    rw [hr]; exact congrArg (fun i => Ending.returned (.int .i64 i)) this, hw.symm⟩

theorem CutIn_no (w : World) (s : ByteArray) (c : UInt8) (h : c ∉ by8 s) :
    Calls Tryz.prog 154 #[.string s, .string ⟨#[c]⟩] w fun e w' => e = .returned (.tuple #[.string s, .string ByteArray.empty, .bool false]) ∧ Below w.heap.size w w' := by
  have HC := Lib.hid (Index_no w s c h)
  clear h
  go_enter Tryz.func154, Tryz.ntmps154
  go_wp2_with fail
  refine HC.out.mono ?_
  rintro e w1 ⟨rfl, rfl⟩
  go_wp2_with fail
  go_ret3
  exact ⟨rfl, Below.refl _ _⟩
theorem CutIn_yes (w : World) (s : ByteArray) (hs : s.size ≤ 1000000) (c : UInt8) (k : Nat) (b : Bs) (hk : k + 1 ≤ s.size) (he : by8 s = (by8 s).take k ++ c :: b) (h : c ∉ (by8 s).take k) :
    Calls Tryz.prog 154 #[.string s, .string ⟨#[c]⟩] w fun e w' => e = .returned (.tuple #[.string (s.extract 0 k), .string (s.extract (k + 1) s.size), .bool true]) ∧ Below w.heap.size w w' := by
  have HC := Lib.hid (Index_yes w s c k b (by omega) he h)
  have hwr : IntKind.i64.wrap ((k : Int) + 1) = (k : Int) + 1 := by rw [IntWalk.i64_in _ (by omega)]
  have ho0 : (0 : Int) ≤ (k : Int) := Int.natCast_nonneg _
  have hoi : (k : Int) < (s.size : Int) := by omega
  have ho1 : (0 : Int) ≤ (k : Int) + 1 := by omega
  have ho2 : (k : Int) + 1 ≤ (s.size : Int) := by omega
  have ho3 : ((k : Int) + 1).toNat = k + 1 := by omega
  clear h he hk
  go_enter Tryz.func154, Tryz.ntmps154
  go_wp2_with fail
  refine HC.out.mono ?_
  rintro e w1 ⟨rfl, rfl⟩
  go_wp2_with fail
  go_quiet (fail)
  go_wp2
  go_ret3
  exact ⟨rfl, below_drewN (Below.refl _ _) _⟩
theorem Cut_no (w : World) (s : ByteArray) (c : UInt8) (h : c ∉ by8 s) :
    Calls Tryz.prog 94 #[.string s, .string ⟨#[c]⟩] w fun e w' => e = .returned (.tuple #[.string s, .string ByteArray.empty, .bool false]) ∧ Below w.heap.size w w' := by
  have HC := Lib.hid (CutIn_no w s c h)
  clear h
  go_enter Tryz.func94, Tryz.ntmps94
  go_wp2_with fail
  refine HC.out.mono ?_
  rintro e w1 ⟨rfl, hB⟩
  go_wp2_with fail
  go_ret3
  exact ⟨rfl, hB⟩
theorem Cut_yes (w : World) (s : ByteArray) (hs : s.size ≤ 1000000) (c : UInt8) (a b : Bs) (he : by8 s = a ++ c :: b) (h : c ∉ a) :
    Calls Tryz.prog 94 #[.string s, .string ⟨#[c]⟩] w fun e w' => e = .returned (.tuple #[.string (str a), .string (str b), .bool true]) ∧ Below w.heap.size w w' := by
  have hl : a.length + b.length + 1 = s.size := by rw [← by8_len, he]; simp; omega
  have hta : (by8 s).take a.length = a := by rw [he]; simp
  have htb : (by8 s).drop (a.length + 1) = b := by rw [he]; simp
  have e1 : s.extract 0 a.length = str a := by8_ext (by rw [by8_take, hta]; rfl)
  have e2 : s.extract (a.length + 1) s.size = str b := by8_ext (by rw [by8_drop, htb]; rfl)
  have HC0 := CutIn_yes w s hs c a.length b (by omega) (by rw [hta, ← he]) (by rw [hta]; exact h)
  rw [e1, e2] at HC0
  have HC := Lib.hid HC0
  clear h he hl hta htb e1 e2 HC0 hs
  go_enter Tryz.func94, Tryz.ntmps94
  go_wp2_with fail
  refine HC.out.mono ?_
  rintro e w1 ⟨rfl, hB⟩
  go_wp2_with fail
  go_ret3
  exact ⟨rfl, hB⟩

end Go.Proofs.YtpliljcjjffipaaGreatDoor.Tw
