/-
  Which mark comes first: lex.mark; flatironref05.Marks, mark, has, step.
-/
import Derived.Test.YtlkcpegjkmfngaaDoorShelf
import Derived.Test.YtlkcpegjkmfngaaDoorLBase
namespace Go.Proofs.YtlkcpegjkmfngaaDoor.Lx
open Go.RowKit Go.Proofs.YtlkcpegjkmfngaaDoor
set_option maxRecDepth 100000

/-- flatironref05.has: is a byte among some? -/
theorem has_any (w : World) (a : ByteArray) (c : UInt8) (b : Bool) (ha : a.size ≤ 1000) (hb : Hid ((by8 a).contains c = b)) : Calls Tryd.prog 30 #[.string a, .int .u8 (c.toNat : Int)] w fun e w' => e = .returned (.bool b) ∧ w = w' := by
  go_enter Tryd.func30, Tryd.ntmps30
  go_wp2_with fail
  go_loop [5] (fun v => ∃ k : Nat, v = .int .i64 k ∧ k ≤ a.size ∧ Hid (((by8 a).drop k).contains c = b)) (fun v => a.size - (intOf v).toNat)
  case atStart => exact ⟨0, rfl, Nat.zero_le _, hb⟩
  case round =>
    obtain ⟨k, rfl, hk, hh0⟩ := hrel
    have hh := hh0.out
    clear hh0
    by_cases hlt : k < a.size
    · rw [by8_at hlt, List.contains_cons] at hh
      by_cases hc : a[k] = c
      · have hb := eq_true hc
        have HT : Hid (b = true) := Lib.hid (by rw [← hh, hc]; simp)
        clear hh hc
        go_wp2_with fail
        go_ret
        exact ⟨by rw [HT.out]; rfl, rfl⟩
      · have hb := eq_false hc
        have HT : Hid (((by8 a).drop (k + 1)).contains c = b) := Lib.hid (by rw [← hh, show (c == a[k]) = false from beq_eq_false_iff_ne.2 (fun e => hc e.symm), Bool.false_or])
        clear hh hc
        go_wp2_with fail
        go_round
        case rel => exact ⟨k + 1, by go_num, hlt, HT⟩
        case measure => simp [intOf]; omega
    · obtain rfl : k = a.size := by omega
      have HT : Hid (b = false) := Lib.hid (by rw [← hh, List.drop_eq_nil_of_le (by rw [by8_len]; omega)]; rfl)
      clear hh
      go_wp2_with fail
      go_ret
      exact ⟨by rw [HT.out]; rfl, rfl⟩

def MarksPost (w : World) (e : Ending) (w' : World) : Prop :=
  ∃ b, e = .returned (.slice (some ⟨b, 0, none⟩) 6 6) ∧ w.heap.size ≤ b ∧ b < w'.heap.size ∧ (∀ k, k < 6 → w'.cell? ⟨b, k, none⟩ = some (.string (str (Lp.markT (k + 1))))) ∧ Below w.heap.size w w'
theorem Marks_any (w : World) : Calls Tryd.prog 32 #[] w (MarksPost w) := by
  go_enter Tryd.func32, Tryd.ntmps32
  go_wp2
  go_ret
  refine ⟨_, rfl, Nat.le_refl _, by simp, fun k hk => ?_, (Below.refl _ _).alloc (Nat.le_refl _) _⟩
  rw [World.cell?_alloc_at _ _ _ _ (by simp)]
  match k, hk with
  | 0, _ => rfl
  | 1, _ => rfl
  | 2, _ => rfl
  | 3, _ => rfl
  | 4, _ => rfl
  | 5, _ => rfl

theorem mark_len (k : Nat) : (Lp.markT k).length ≤ 2 := by
  unfold Lp.markT; split <;> decide
theorem mark_len1 {k : Nat} (h : 1 ≤ k) (h6 : k ≤ 6) : 1 ≤ (Lp.markT k).length := by
  have : k = 1 ∨ k = 2 ∨ k = 3 ∨ k = 4 ∨ k = 5 ∨ k = 6 := by omega
  rcases this with rfl | rfl | rfl | rfl | rfl | rfl <;> decide
theorem prefix_is {m : Bs} {s : ByteArray} : m.isPrefixOf (by8 s) = (decide (m.length ≤ s.size) && decide (s.extract 0 m.length = str m)) := by
  rw [Bool.eq_iff_iff, List.isPrefixOf_iff_prefix, Bool.and_eq_true, decide_eq_true_eq, decide_eq_true_eq]
  constructor
  · intro h
    have h1 := h.length_le
    rw [by8_len] at h1
    refine ⟨h1, by8_ext ?_⟩
    rw [by8_take, by8_str]
    exact (List.prefix_iff_eq_take.1 h).symm
  · rintro ⟨_, h2⟩
    have := congrArg by8 h2
    rw [by8_take, by8_str] at this
    rw [List.prefix_iff_eq_take]
    exact this.symm

/-- What a look at one mark more comes to. -/
theorem best_le (k : Nat) (s : Bs) : Lp.bestA k s ≤ k := Lp.best_le k s
theorem best_yes {k : Nat} {s : Bs} (h : (Lp.markT (k + 1)).isPrefixOf s = true) (h2 : (Lp.markT (Lp.bestA k s)).length < (Lp.markT (k + 1)).length) : Lp.bestA (k + 1) s = k + 1 := if_pos ⟨h, h2⟩
theorem best_no {k : Nat} {s : Bs} (h : ¬ ((Lp.markT (k + 1)).isPrefixOf s = true ∧ (Lp.markT (Lp.bestA k s)).length < (Lp.markT (k + 1)).length)) : Lp.bestA (k + 1) s = Lp.bestA k s := if_neg h

theorem bestS_len (k : Nat) (s : Bs) : (Lp.markT (Lp.bestA k s)).length ≤ 2 := mark_len _
theorem str_eq_true {a b : ByteArray} (h : a = b) : (a.toList == b.toList) = true := by rw [h]; exact beq_self_eq_true _
theorem str_eq_false {a b : ByteArray} (h : ¬ a = b) : (a.toList == b.toList) = false := by
  rw [beq_eq_false_iff_ne]
  intro e
  rw [Lib.toList_data, Lib.toList_data] at e
  exact h (by8_ext e)

set_option maxHeartbeats 4000000 in
theorem Rmark_any (w : World) (s : ByteArray) (_hs : s.size ≤ 1000000) : Calls Tryd.prog 31 #[.string s] w fun e w' => e = .returned (.int .i64 (Lp.markA (by8 s))) ∧ Below w.heap.size w w' := by
  rw [← Lp.best_mark]
  go_enter Tryd.func31, Tryd.ntmps31
  go_wp2_with fail
  refine (Marks_any w).mono ?_
  rintro e w1 ⟨b, rfl, hb1, hb2, hcs, hB⟩
  go_wp2_with fail
  have HC := Lib.hid hcs
  clear hcs
  go_loopw [4, 5] (fun v3 v4 wr => ∃ k : Nat, k ≤ 6 ∧ v4 = .int .i64 k ∧ v3 = .int .i64 (Lp.bestA k (by8 s)) ∧ Below w1.heap.size w1 wr) (fun _ v _ => 6 - (intOf v).toNat)
  case atStart => exact ⟨0, by omega, rfl, rfl, Below.refl _ _⟩
  case round =>
    obtain ⟨k, hk, rfl, rfl, hBr⟩ := hrel
    by_cases hlt : k < 6
    · have hc : wr.cell? ⟨b, k, none⟩ = some (.string (str (Lp.markT (k + 1)))) := (hBr.cell (p := ⟨b, k, none⟩) hb2).trans (HC.out k hlt)
      have hsz : (str (Lp.markT (k + 1))).size = (Lp.markT (k + 1)).length := str_size _
      have hle := best_le k (by8 s)
      have hp := prefix_is (m := Lp.markT (k + 1)) (s := s)
      have hm2 := mark_len (k + 1)
      by_cases hsize : (Lp.markT (k + 1)).length ≤ s.size
      · have hi : (str (Lp.markT (k + 1))).size ≤ s.size := by omega
        by_cases heq : s.extract 0 (Lp.markT (k + 1)).length = str (Lp.markT (k + 1))
        · have hpt : (Lp.markT (k + 1)).isPrefixOf (by8 s) = true := by rw [hp]; simp [hsize, heq]
          rw [← hsz] at heq
          have hst := str_eq_true heq
          by_cases hb0 : Lp.bestA k (by8 s) = 0
          · have HS : Hid (Lp.bestA (k + 1) (by8 s) = k + 1) := Lib.hid (best_yes hpt (by rw [hb0]; exact mark_len1 (by omega) (by omega)))
            rw [hb0]
            clear hp hpt heq hb0 hle
            generalize str (Lp.markT (k + 1)) = mk at *
            generalize (Lp.markT (k + 1)).length = n at *
            subst hsz
            go_wp2_with fail
            go_quiet (fail)
            go_wp2_with fail
            go_roundw
            case rel => exact ⟨k + 1, hlt, by go_num, by rw [HS.out]; go_num, below_drewN hBr _⟩
            case measure => simp [intOf]; omega
          · obtain ⟨j, hj⟩ : ∃ j, Lp.bestA k (by8 s) = j + 1 := ⟨Lp.bestA k (by8 s) - 1, by omega⟩
            have hcj : wr.cell? ⟨b, j, none⟩ = some (.string (str (Lp.markT (j + 1)))) := (hBr.cell (p := ⟨b, j, none⟩) hb2).trans (HC.out j (by omega))
            have hszj : (str (Lp.markT (j + 1))).size = (Lp.markT (j + 1)).length := str_size _
            have hj6 : j < 6 := by omega
            have hw : IntKind.i64.wrap (j : Int) = j := by rw [IntWalk.i64_in _ (by omega)]
            have hz : (((j : Int) + 1) == 0) = false := by rw [beq_eq_false_iff_ne]; omega
            have hz2 : ¬ ((j : Int) + 1) = 0 := by omega
            by_cases hlen : (Lp.markT (j + 1)).length < (Lp.markT (k + 1)).length
            · have HS : Hid (Lp.bestA (k + 1) (by8 s) = k + 1) := Lib.hid (best_yes hpt (by rw [hj]; exact hlen))
              rw [hj]
              clear hp hpt heq hb0 hle hj
              generalize str (Lp.markT (k + 1)) = mk at *
              generalize (Lp.markT (k + 1)).length = n at *
              generalize str (Lp.markT (j + 1)) = mj at *
              generalize (Lp.markT (j + 1)).length = nj at *
              subst hsz
              subst hszj
              have hd : decide (mj.size < mk.size) = true := decide_eq_true hlen
              go_wp2_with fail
              go_quiet (fail)
              go_wp2_with fail
              go_roundw
              case rel => exact ⟨k + 1, hlt, by go_num, by rw [HS.out]; go_num, below_drewN hBr _⟩
              case measure => simp [intOf]; omega
            · have HS : Hid (Lp.bestA (k + 1) (by8 s) = j + 1) := Lib.hid (by rw [best_no fun h => hlen (by rw [hj] at h; exact h.2), hj])
              rw [hj]
              clear hp hpt heq hb0 hle hj
              generalize str (Lp.markT (k + 1)) = mk at *
              generalize (Lp.markT (k + 1)).length = n at *
              generalize str (Lp.markT (j + 1)) = mj at *
              generalize (Lp.markT (j + 1)).length = nj at *
              subst hsz
              subst hszj
              have hd : decide (mj.size < mk.size) = false := decide_eq_false hlen
              go_wp2_with fail
              go_quiet (fail)
              go_wp2_with fail
              go_roundw
              case rel => exact ⟨k + 1, hlt, by go_num, by rw [HS.out], below_drewN hBr _⟩
              case measure => simp [intOf]; omega
        · have HS : Hid (Lp.bestA (k + 1) (by8 s) = Lp.bestA k (by8 s)) := Lib.hid (best_no fun h => by rw [hp] at h; simp at h; exact heq h.1.2)
          rw [← hsz] at heq
          have hst := str_eq_false heq
          clear hp heq
          generalize str (Lp.markT (k + 1)) = mk at *
          generalize (Lp.markT (k + 1)).length = n at *
          subst hsz
          generalize Lp.bestA k (by8 s) = best at *
          go_wp2_with fail
          go_quiet (fail)
          go_wp2_with fail
          go_roundw
          case rel => exact ⟨k + 1, hlt, by go_num, by rw [HS.out], below_drewN hBr _⟩
          case measure => simp [intOf]; omega
      · have HS : Hid (Lp.bestA (k + 1) (by8 s) = Lp.bestA k (by8 s)) := Lib.hid (best_no fun h => by rw [hp] at h; simp at h; exact hsize h.1.1)
        clear hp
        generalize str (Lp.markT (k + 1)) = mk at *
        generalize (Lp.markT (k + 1)).length = n at *
        subst hsz
        generalize Lp.bestA k (by8 s) = best at *
        go_wp2_with fail
        go_quiet (fail)
        go_wp2_with fail
        go_roundw
        case rel => exact ⟨k + 1, hlt, by go_num, by rw [HS.out], below_drewN hBr _⟩
        case measure => simp [intOf]; omega
    · obtain rfl : k = 6 := by omega
      go_wp2_with fail
      go_ret
      exact ⟨rfl, hB.trans (hBr.mono hB.size)⟩
end Go.Proofs.YtlkcpegjkmfngaaDoor.Lx
