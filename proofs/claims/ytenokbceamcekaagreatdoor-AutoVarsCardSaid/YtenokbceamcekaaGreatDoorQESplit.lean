/-
  flatironref04.Blank and Split: a text's words.
-/
import Derived.Maps.AppendAt
import Derived.OwnWalk
import Derived.Laws.OwnMore
import Derived.Test.YtenokbceamcekaaGreatDoorQWBlank
import Derived.Test.YtenokbceamcekaaGreatDoorQWReads
import Derived.Test.YtenokbceamcekaaGreatDoorQWWords
namespace Go.Proofs.YtenokbceamcekaaGreatDoor.Ew
open Go.RowKit Go.Proofs.YtenokbceamcekaaGreatDoor Go.Proofs.YtenokbceamcekaaGreatDoor.Ww
set_option maxRecDepth 100000

abbrev ST : TypeId := 9
/-- A word of a text, as the program has it. -/
def part (s : ByteArray) (x : Nat × Nat) : ByteArray := s.extract x.1 x.2
theorem by8_some {s : ByteArray} {k : Nat} {c : UInt8} (h : k < s.size) (hc : (by8 s)[k]? = some c) : c = s[k] := by
  rw [by8_get h] at hc; exact (Option.some.inj hc).symm
theorem stop_at {s : ByteArray} {k : Nat} (h : k < s.size) (hb : Wp.blankB s[k] = true) : ∀ c, (by8 s)[k]? = some c → Wp.blankB c = true := fun c hc => by rw [by8_some h hc]; exact hb
theorem stop_end (s : ByteArray) : ∀ c, (by8 s)[s.size]? = some c → Wp.blankB c = true := fun c hc => by
  rw [List.getElem?_eq_none (by rw [by8_len]; exact Nat.le_refl _)] at hc; cases hc
theorem go_on {s : ByteArray} {f k : Nat} (h : k < s.size) (hb : Wp.blankB s[k] = false) : Wp.restI (by8 s) f k = Wp.restI (by8 s) f (k + 1) :=
  Wp.restI_in (c := s[k]) (by rw [by8_len]; exact h) (by have := by8_get h; rw [List.getElem?_eq_getElem (by rw [by8_len]; exact h)] at this; exact Option.some.inj this) hb
theorem infoS : (Tryz.prog.info? ST).map (fun i => (i.zero, i.size, i.bytes)) = some (some (.string ByteArray.empty), 1, 16) := by kernel_rfl
def wordsS (s : ByteArray) : List ByteArray := (Wp.items (by8 s)).map (part s)
theorem wordsS_len (s : ByteArray) : (wordsS s).length = (Wp.items (by8 s)).length := by simp [wordsS]
theorem items_size (s : ByteArray) : (Wp.items (by8 s)).length ≤ s.size := by have := Wp.items_len (by8 s); rwa [by8_len] at this

theorem Blank_any (w : World) (c : UInt8) (b : Bool) (hb : Hid (Wp.blankB c = b)) : Calls Tryz.prog 45 #[.int .u8 (c.toNat : Int)] w fun e w' => e = .returned (.bool b) ∧ w = w' := by
  by_cases h1 : c = 32
  · subst h1
    obtain rfl : true = b := hb.out
    go_enter Tryz.func45, Tryz.ntmps45
    go_wp2_with fail
    go_ret
    exact ⟨rfl, rfl⟩
  · by_cases h2 : c = 9
    · subst h2
      obtain rfl : true = b := hb.out
      go_enter Tryz.func45, Tryz.ntmps45
      go_wp2_with fail
      go_ret
      exact ⟨rfl, rfl⟩
    · by_cases h3 : c = 10
      · subst h3
        obtain rfl : true = b := hb.out
        go_enter Tryz.func45, Tryz.ntmps45
        go_wp2_with fail
        go_ret
        exact ⟨rfl, rfl⟩
      · have hb1 : ((c.toNat : Int) == 32) = false := eq_false (b := 32) h1
        have hb2 : ((c.toNat : Int) == 9) = false := eq_false (b := 9) h2
        have hb3 : ((c.toNat : Int) == 10) = false := eq_false (b := 10) h3
        obtain rfl : false = b := by rw [← hb.out]; simp [Wp.blankB, h1, h2, h3]
        clear h1 h2 h3 hb
        go_enter Tryz.func45, Tryz.ntmps45
        go_wp2_with fail
        go_ret
        exact ⟨rfl, rfl⟩
abbrev IT : TypeId := 3
theorem infoI : (Tryz.prog.info? IT).map (fun i => (i.zero, i.size, i.bytes)) = some (some (.int .i64 0), 1, 8) := by kernel_rfl
def startsS (s : ByteArray) : List Nat := (Wp.items (by8 s)).map (·.1)
theorem startsS_len (s : ByteArray) : (startsS s).length = (Wp.items (by8 s)).length := by simp [startsS]

theorem rows_ne {w : World} {b1 b2 : Nat} {e1 e2 : TypeId} {s1 s2 : Nat} {v1 v2 : Value} {n1 n2 : Nat} {x1 x2 : List Value} (h1 : w.ownsRow b1 e1 s1 v1 n1 x1) (h2 : w.ownsRow b2 e2 s2 v2 n2 x2) (hne : e1 ≠ e2) : v1.ownBlock = none ∨ v1.ownBlock ≠ v2.ownBlock := by
  rcases h1.2 with ⟨rfl, _⟩ | ⟨g, cap, cur, rfl, _, hg, _⟩
  · exact .inl rfl
  · refine .inr fun e => ?_
    rcases h2.2 with ⟨rfl, _⟩ | ⟨g', cap', cur', rfl, _, hg', _⟩
    · cases e
    · have : g = g' := by simpa [Value.ownBlock] using e
      subst this
      rw [hg] at hg'
      cases hg'
      exact hne rfl

theorem rows_kept {w w1 : World} {b1 b2 : Nat} {v1 v2 : Value} {n1 n2 : Nat} {x1 x2 : List Value} {o : Obj} (h2 : w.ownsRow b2 IT 1 v2 n2 x2) (h1 : w.ownsRow b1 ST 1 v1 n1 x1) (hg : (w.alloc o).grownBy w1 v1.ownBlock) : w1.ownsRow b2 IT 1 v2 n2 x2 :=
  (h2.alloc o).kept hg (rows_ne (h2.alloc o) (h1.alloc o) (by decide))

/-- What the loop's head knows. -/
def RsRel (w : World) (s : ByteArray) (vo va vf vi : Value) (wr : World) : Prop :=
  ∃ (pre : List (Nat × Nat)) (f k : Nat) (a1 : Option Addr) (c1 : Nat) (a2 : Option Addr) (c2 : Nat), vo = .slice a1 pre.length c1 ∧ va = .slice a2 pre.length c2 ∧ vf = .int .i64 f ∧ vi = .int .i64 k ∧ f ≤ k ∧ k ≤ s.size + 1 ∧
    Wp.items (by8 s) = pre ++ Wp.restI (by8 s) f k ∧ wr.ownsRow w.heap.size ST 1 (.slice a1 pre.length c1) pre.length (strsC (pre.map (part s))) ∧ wr.ownsRow w.heap.size IT 1 (.slice a2 pre.length c2) pre.length (intsC (pre.map (·.1))) ∧ Below w.heap.size w wr

theorem RsRel.add {w wr w1 w2 : World} {s : ByteArray} {pre : List (Nat × Nat)} {f k : Nat} {a1 a2 b1 b2 : Option Addr} {c1 c2 d1 d2 : Nat} {o1 o2 : Obj} (hk : k ≤ s.size)
    (hp : Wp.items (by8 s) = pre ++ (f, k) :: Wp.restI (by8 s) (k + 1) (k + 1))
    (hB : Below w.heap.size w wr)
    (h1 : wr.ownsRow w.heap.size ST 1 (.slice a1 pre.length c1) pre.length (strsC (pre.map (part s)))) (h2 : wr.ownsRow w.heap.size IT 1 (.slice a2 pre.length c2) pre.length (intsC (pre.map (·.1))))
    (hr1 : w1.ownsRow w.heap.size ST 1 (.slice b1 (pre.length + 1) d1) (pre.length + 1) (strsC (pre.map (part s)) ++ [.string (s.extract f k)])) (hg1 : (wr.alloc o1).grownBy w1 (Value.slice a1 pre.length c1).ownBlock)
    (hr2 : w2.ownsRow w.heap.size IT 1 (.slice b2 (pre.length + 1) d2) (pre.length + 1) (intsC (pre.map (·.1)) ++ [.int .i64 (f : Int)])) (hg2 : (w1.alloc o2).grownBy w2 (Value.slice a2 pre.length c2).ownBlock) :
    RsRel w s (.slice b1 (pre.length + 1) d1) (.slice b2 (pre.length + 1) d2) (.int .i64 ((k : Int) + 1)) (.int .i64 ((k : Int) + 1)) w2 := by
  have e : (pre ++ [(f, k)]).length = pre.length + 1 := by simp
  have hB1 := (hB.alloc hB.size o1).grown hg1 (by have := hB.size; simp; omega) fun j ej => (h1.lt j ej).1
  have h2' : w1.ownsRow w.heap.size IT 1 (.slice a2 pre.length c2) pre.length (intsC (pre.map (·.1))) := (h2.alloc o1).kept hg1 (rows_ne (h2.alloc o1) (h1.alloc o1) (by decide))
  refine ⟨pre ++ [(f, k)], k + 1, k + 1, b1, d1, b2, d2, by rw [e], by rw [e], by go_num, by go_num, Nat.le_refl _, by omega, by rw [hp]; simp, ?_, ?_, (hB1.alloc hB1.size o2).grown hg2 (by have := hB1.size; simp; omega) fun j ej => (h2'.lt j ej).1⟩
  · rw [e, List.map_append]
    have : strsC (pre.map (part s) ++ List.map (part s) [(f, k)]) = strsC (pre.map (part s)) ++ [.string (s.extract f k)] := by simp [strsC, part]
    rw [this]
    exact (hr1.alloc o2).kept hg2 (rows_ne (hr1.alloc o2) (h2'.alloc o2) (by decide))
  · rw [e, List.map_append]
    have : intsC (pre.map (·.1) ++ List.map (·.1) [(f, k)]) = intsC (pre.map (·.1)) ++ [.int .i64 (f : Int)] := by simp [intsC]
    rw [this]
    exact hr2

set_option maxHeartbeats 4000000 in
theorem RSplitO_any (w : World) (s : ByteArray) (hs : s.size ≤ 100000000) :
    Calls Tryz.prog 34 #[.string s] w fun e w' => ∃ v1 v2, e = .returned (.tuple #[v1, v2]) ∧ w'.ownsRow w.heap.size ST 1 v1 (wordsS s).length (strsC (wordsS s)) ∧ Rd w' w'.heap.size v2 (intsC (startsS s)) ∧ Below w.heap.size w w' := by
  obtain ⟨i0, hi, hz0, hz1, hz2⟩ := info_parts infoS
  obtain ⟨j0, hj, hy0, hy1, hy2⟩ := info_parts infoI
  have hil := items_size s
  go_enter Tryz.func34, Tryz.ntmps34
  go_wp2_with fail
  go_loopw [4, 5, 6, 7] (fun vo va vf vi wr => RsRel w s vo va vf vi wr) (fun _ _ _ vi _ => s.size + 1 - (intOf vi).toNat)
  case atStart => exact ⟨[], 0, 0, none, 0, none, 0, rfl, rfl, rfl, rfl, Nat.le_refl _, Nat.zero_le _, (Wp.restI_start _).symm, World.ownsRow_nil _ _ _ _, World.ownsRow_nil _ _ _ _, Below.refl _ _⟩
  case round =>
    obtain ⟨pre, f, k, a1, c1, a2, c2, rfl, rfl, rfl, rfl, hfk, hk, hp, h1, h2, hB⟩ := hrel
    have hpl : pre.length ≤ (Wp.items (by8 s)).length := by rw [hp]; simp
    by_cases hlt : k < s.size
    · have hne : ((k : Int) == (s.size : Int)) = false := beq_eq_false_iff_ne.2 (by omega)
      cases hb : Wp.blankB s[k] with
      | false =>
        have HB := Lib.hid hb
        have HP : Hid (Wp.items (by8 s) = pre ++ Wp.restI (by8 s) f (k + 1)) := Lib.hid (by rw [hp, go_on hlt hb])
        clear hb hp
        go_wp2_with fail
        refine (Blank_any _ s[k] _ HB).mono ?_
        rintro e w' ⟨rfl, rfl⟩
        go_wp2_with fail
        go_roundw
        case rel => exact ⟨pre, f, k + 1, a1, c1, a2, c2, rfl, rfl, rfl, by go_num, by omega, by omega, HP.out, h1, h2, hB⟩
        case measure => simp [intOf]; omega
      | true =>
        have HB := Lib.hid hb
        by_cases hf : f < k
        · have hr := Wp.restI_yes (u := by8 s) (f := f) (k := k) (by rw [by8_len]; omega) (stop_at hlt hb) hf
          rw [hr] at hp
          have HN := Lib.hid fun w1 w2 b1 b2 d1 d2 o1 o2 => @RsRel.add w wr w1 w2 s pre f k a1 a2 b1 b2 c1 c2 d1 d2 o1 o2 (by omega) hp hB h1 h2
          clear hb hp hr
          go_wp2_with fail
          refine (Blank_any _ s[k] _ HB).mono ?_
          rintro e w' ⟨rfl, rfl⟩
          go_wp2_with (first
            | (at_builtin; refine wpList_append_own _ rfl _ _ 49 rfl w.heap.size IT j0 (.int .i64 0) 1 8 Tryz.underlying49 hj hy0 hy1 hy2 rfl (by decide) _ _ _ rfl (h2'.alloc _) ⟨w1.heap.size, 0, none⟩ 1 1 [.int .i64 (f : Int)] rfl rfl (cell_one_new _ _ _) (by simp [Value.oneCell']) (by unfold maxLen; omega) (by omega) (by have := hB.size; have := hgrow1.size; simp at this ⊢; omega) ?_; intro v'' w2 hown2 hgrow2 _; obtain ⟨b2, d2, rfl⟩ := owns_slice hown2)
            | (at_builtin; refine wpList_append_own _ rfl _ _ 22 rfl w.heap.size ST i0 (.string ByteArray.empty) 1 16 Tryz.underlying22 hi hz0 hz1 hz2 rfl (by decide) _ _ _ rfl (h1.alloc _) ⟨wr.heap.size, 0, none⟩ 1 1 [.string (s.extract f k)] rfl rfl (cell_one_new _ _ _) (by simp [Value.oneCell']) (by unfold maxLen; omega) (by omega) (by have := hB.size; simp; omega) ?_; intro v' w1 hown1 hgrow1 _; obtain ⟨b1, d1, rfl⟩ := owns_slice hown1; go_must (have h2' := rows_kept h2 h1 hgrow1)))
          go_roundw
          case rel => exact HN.out _ _ _ _ _ _ _ _ hown1 hgrow1 hown2 hgrow2
          case measure => simp [intOf]; omega
        · have hr := Wp.restI_no (u := by8 s) (f := f) (k := k) (by rw [by8_len]; omega) (stop_at hlt hb) hf
          rw [hr] at hp
          have HP := Lib.hid hp
          clear hb hp hr
          go_wp2_with fail
          refine (Blank_any _ s[k] _ HB).mono ?_
          rintro e w' ⟨rfl, rfl⟩
          go_wp2_with fail
          go_roundw
          case rel => exact ⟨pre, k + 1, k + 1, a1, c1, a2, c2, rfl, rfl, by go_num, by go_num, Nat.le_refl _, by omega, HP.out, h1, h2, hB⟩
          case measure => simp [intOf]; omega
    · by_cases hle : k = s.size
      · subst hle
        have hne : ((s.size : Int) == (s.size : Int)) = true := beq_self_eq_true _
        by_cases hf : f < s.size
        · have hr := Wp.restI_yes (u := by8 s) (f := f) (k := s.size) (by rw [by8_len]; omega) (stop_end s) hf
          rw [hr] at hp
          have HN := Lib.hid fun w1 w2 b1 b2 d1 d2 o1 o2 => @RsRel.add w wr w1 w2 s pre f s.size a1 a2 b1 b2 c1 c2 d1 d2 o1 o2 (by omega) hp hB h1 h2
          clear hp hr
          go_wp2_with (first
            | (at_builtin; refine wpList_append_own _ rfl _ _ 49 rfl w.heap.size IT j0 (.int .i64 0) 1 8 Tryz.underlying49 hj hy0 hy1 hy2 rfl (by decide) _ _ _ rfl (h2'.alloc _) ⟨w1.heap.size, 0, none⟩ 1 1 [.int .i64 (f : Int)] rfl rfl (cell_one_new _ _ _) (by simp [Value.oneCell']) (by unfold maxLen; omega) (by omega) (by have := hB.size; have := hgrow1.size; simp at this ⊢; omega) ?_; intro v'' w2 hown2 hgrow2 _; obtain ⟨b2, d2, rfl⟩ := owns_slice hown2)
            | (at_builtin; refine wpList_append_own _ rfl _ _ 22 rfl w.heap.size ST i0 (.string ByteArray.empty) 1 16 Tryz.underlying22 hi hz0 hz1 hz2 rfl (by decide) _ _ _ rfl (h1.alloc _) ⟨wr.heap.size, 0, none⟩ 1 1 [.string (s.extract f s.size)] rfl rfl (cell_one_new _ _ _) (by simp [Value.oneCell']) (by unfold maxLen; omega) (by omega) (by have := hB.size; simp; omega) ?_; intro v' w1 hown1 hgrow1 _; obtain ⟨b1, d1, rfl⟩ := owns_slice hown1; go_must (have h2' := rows_kept h2 h1 hgrow1)))
          go_roundw
          case rel => exact HN.out _ _ _ _ _ _ _ _ hown1 hgrow1 hown2 hgrow2
          case measure => simp [intOf]
        · have hr := Wp.restI_no (u := by8 s) (f := f) (k := s.size) (by rw [by8_len]; omega) (stop_end s) hf
          rw [hr] at hp
          have HP := Lib.hid hp
          clear hp hr
          go_wp2_with fail
          go_roundw
          case rel => exact ⟨pre, s.size + 1, s.size + 1, a1, c1, a2, c2, rfl, rfl, by go_num, by go_num, Nat.le_refl _, by omega, HP.out, h1, h2, hB⟩
          case measure => simp [intOf]
      · obtain rfl : k = s.size + 1 := by omega
        rw [Wp.restI_over (by rw [by8_len]; omega), List.append_nil] at hp
        have HW : Hid (strsC (wordsS s) = strsC (pre.map (part s)) ∧ intsC (startsS s) = intsC (pre.map (·.1)) ∧ (wordsS s).length = pre.length) := Lib.hid ⟨by unfold wordsS; rw [hp], by unfold startsS; rw [hp], by unfold wordsS; rw [hp, List.length_map]⟩
        have R1 := Lib.hid h1
        have R2 := Lib.hid (Rd.of_own h2)
        clear hp h1 h2
        go_wp2_with fail
        go_ret2
        exact ⟨_, _, rfl, by rw [HW.out.1, HW.out.2.2]; exact R1.out, by rw [HW.out.2.1]; exact R2.out, hB⟩
theorem RSplit_any (w : World) (s : ByteArray) (hs : s.size ≤ 100000000) :
    Calls Tryz.prog 34 #[.string s] w fun e w' => ∃ v1 v2, e = .returned (.tuple #[v1, v2]) ∧ Rd w' w'.heap.size v1 (strsC (wordsS s)) ∧ Rd w' w'.heap.size v2 (intsC (startsS s)) ∧ Below w.heap.size w w' :=
  (RSplitO_any w s hs).mono fun _ _ ⟨v1, v2, he, h1, h2, hB⟩ => ⟨v1, v2, he, Rd.of_own h1, h2, hB⟩
end Go.Proofs.YtenokbceamcekaaGreatDoor.Ew
