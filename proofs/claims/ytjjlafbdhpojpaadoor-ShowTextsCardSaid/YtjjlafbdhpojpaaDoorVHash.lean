/-
  show.Hash and show.Dollar.
-/
import Derived.Lib.Replace
import Derived.Test.YtjjlafbdhpojpaaDoorVRow2
namespace Go.Proofs.YtjjlafbdhpojpaaDoor.Vw
open Go.RowKit Go.Proofs.YtjjlafbdhpojpaaDoor Go.Proofs.YtjjlafbdhpojpaaDoor.Ww Go.Proofs.YtjjlafbdhpojpaaDoor.Iw Go.Proofs.YtjjlafbdhpojpaaDoor.Mw
set_option maxRecDepth 100000

/-- Each byte c as some text. -/
def subA (c : UInt8) (r s : Bs) : Bs := s.flatMap fun x => if x = c then r else [x]
theorem sub_id {c : UInt8} {r u : Bs} (h : c ∉ u) : subA c r u = u := by
  unfold subA
  induction u with
  | nil => rfl
  | cons x u ih =>
    rw [List.flatMap_cons, if_neg (fun e => h (by simp [e])), ih (fun e => h (by simp [e]))]; rfl
theorem sub_app (c : UInt8) (r u v : Bs) : subA c r (u ++ v) = subA c r u ++ subA c r v := by simp [subA]
theorem subK_is {c : UInt8} {r : Bs} : ∀ (k : Nat) (s : Bs), s.count c ≤ k → Lib.replaceK [c] r k s = subA c r s
  | 0, s, h => by
    rw [Lib.replaceK]
    rw [sub_id]
    intro hx
    have := List.count_pos_iff.2 hx
    omega
  | k + 1, s, h => by
    by_cases hm : c ∈ s
    · have hc : 0 < Lib.count s [c] := by rw [Lib.count_one]; exact List.count_pos_iff.2 hm
      obtain ⟨i, hi⟩ := Lib.index_of_count hc
      have hib := hi
      rw [Lib.index_one] at hib
      obtain ⟨h1, h2⟩ := Lib.indexByte_some hib
      have hlt : i < s.length := (List.getElem?_eq_some_iff.1 h1).1
      have hsi : s[i] = c := (List.getElem?_eq_some_iff.1 h1).2
      have hs : s = s.take i ++ c :: s.drop (i + 1) := by
        conv => lhs; rw [← List.take_append_drop i s, List.drop_eq_getElem_cons hlt, hsi]
      have htk : subA c r (s.take i) = s.take i := sub_id fun hx => by
        obtain ⟨j, hj, e⟩ := List.getElem_of_mem hx
        have hj' : j < i := Nat.lt_of_lt_of_le hj (List.length_take_le _ _)
        refine h2 j hj' ?_
        rw [List.getElem_take] at e
        rw [List.getElem?_eq_getElem (Nat.lt_trans hj' hlt), e]
      rw [Lib.replaceK_hit _ _ _ _ _ hi]
      have hcnt : (s.drop (i + 1)).count c ≤ k := by
        have h3 : s.count c = (s.take i ++ c :: s.drop (i + 1)).count c := by rw [← hs]
        rw [List.count_append, List.count_cons_self] at h3
        omega
      rw [show i + [c].length = i + 1 from rfl, subK_is k _ hcnt]
      conv => rhs; rw [hs, sub_app, htk]
      have e : subA c r (c :: s.drop (i + 1)) = r ++ subA c r (s.drop (i + 1)) := by
        show (if c = c then r else [c]) ++ _ = _
        rw [if_pos rfl]; rfl
      rw [e, List.append_assoc]
    · have hn : Lib.index s [c] = -1 := by
        by_cases hq : Lib.index s [c] = -1
        · exact hq
        · have hge := Lib.index_ge s [c]
          obtain ⟨i, hi⟩ : ∃ i : Nat, Lib.index s [c] = i := ⟨(Lib.index s [c]).toNat, by omega⟩
          rw [Lib.index_one] at hi
          exact absurd (List.mem_of_getElem? (Lib.indexByte_some hi).1) hm
      rw [Lib.replaceK, if_pos (by rw [hn]; rfl), sub_id hm]
theorem subAll_is {c : UInt8} {r : Bs} (hne : [c] ≠ r) (s : Bs) : Lib.replaceAll s [c] r = subA c r s := by
  unfold Lib.replaceAll Lib.replace
  rw [if_neg (by simpa using hne)]
  refine subK_is _ s ?_
  unfold Lib.replaceNum
  rw [if_pos (.inl (by decide)), Lib.count_one]
  exact Nat.le_refl _

/-- What is known of the package's variable that a Builder's growth asks. -/
structure GM (w : World) : Prop where
  lt : 0 < w.heap.size
  max : ∃ m, w.cell? ⟨0, 0, none⟩ = some (.int .i64 m)
theorem GM.below {w w' : World} {B : Nat} (h : GM w) (hB : Below B w w') (h0 : 0 < B) : GM w' :=
  ⟨Nat.lt_of_lt_of_le h.lt hB.size, by obtain ⟨m, hm⟩ := h.max; exact ⟨m, (hB.cell (p := ⟨0, 0, none⟩) h0).trans hm⟩⟩

theorem Repl_any (w : World) (hG : GM w) (s : ByteArray) (hs : s.size ≤ 10000000) (c a b : UInt8) (hne : [c] ≠ [a, b]) :
    Calls Tryd.prog 28 #[.string s, .string ⟨#[c]⟩, .string ⟨#[a, b]⟩] w fun e w' => e = .returned (.string (str (subA c [a, b] (by8 s)))) ∧ Below w.heap.size w w' := by
  obtain ⟨m, hm⟩ := hG.max
  have hcnt : Lib.countB s ⟨#[c]⟩ ≤ s.size := by
    show Lib.count (by8 s) [c] ≤ _
    rw [Lib.count_one, ← by8_len]
    exact List.count_le_length
  have hR := Tryd.strings_ReplaceAll s ⟨#[c]⟩ ⟨#[a, b]⟩ m w (by omega) hm (Nat.le_refl _) (by show s.size + Lib.countB s ⟨#[c]⟩ * 2 ≤ _; omega)
  have e1 : (⟨(Lib.replaceAll s.data.toList (⟨#[c]⟩ : ByteArray).data.toList (⟨#[a, b]⟩ : ByteArray).data.toList).toArray⟩ : ByteArray) = str (subA c [a, b] (by8 s)) := by rw [← subAll_is hne]; rfl
  rw [e1] at hR
  exact hR
theorem Hash_any (w : World) (hG : GM w) (s : ByteArray) (hs : s.size ≤ 10000000) :
    Calls Tryd.prog 17 #[.string s] w fun e w' => e = .returned (.string (str (Vp.hashA (by8 s)))) ∧ Below w.heap.size w w' := by
  have HR := Lib.hid (Repl_any w hG s hs 35 92 35 (by decide))
  have e : subA 35 [92, 35] (by8 s) = Vp.hashA (by8 s) := rfl
  rw [e] at HR
  go_enter Tryd.func17, Tryd.ntmps17
  go_wp2_with fail
  refine HR.out.mono ?_
  rintro e w' ⟨rfl, hB⟩
  go_wp2_with fail
  go_ret
  exact ⟨rfl, hB⟩
theorem Dollar_x (w : World) (hG : GM w) : Calls Tryd.prog 11 #[.string ⟨#[36, 120]⟩] w fun e w' => e = .returned (.string ⟨#[36, 36, 120]⟩) ∧ Below w.heap.size w w' := by
  have HR := Lib.hid (Repl_any w hG ⟨#[36, 120]⟩ (by decide) 36 36 36 (by decide))
  have e : str (subA 36 [36, 36] (by8 ⟨#[36, 120]⟩)) = ⟨#[36, 36, 120]⟩ := rfl
  rw [e] at HR
  go_enter Tryd.func11, Tryd.ntmps11
  go_wp2_with fail
  refine HR.out.mono ?_
  rintro e w' ⟨rfl, hB⟩
  go_wp2_with fail
  go_ret
  exact ⟨rfl, hB⟩
end Go.Proofs.YtjjlafbdhpojpaaDoor.Vw
