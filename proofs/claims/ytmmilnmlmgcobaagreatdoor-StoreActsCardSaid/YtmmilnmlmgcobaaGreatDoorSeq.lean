/-
  strings.SplitSeq at a slash: what the iterator hands over, piece by piece.
-/
import Derived.RangeFuncNested
import Derived.RangeFuncBound
import Derived.RangeFuncCalls
import Derived.RangeFuncLeaves
import Derived.RangeFuncBox
import Derived.Shelf.Abstract
import Derived.Shelf.RegionOpen
import Derived.OwnWalkIn
import Derived.TacticsInMore
import Derived.LoopNIn
import Derived.LoopIn
import Derived.Lib.Split
import Derived.Test.YtmmilnmlmgcobaaGreatDoorRange
import Derived.Test.YtmmilnmlmgcobaaGreatDoorLast
namespace Go.Proofs.YtmmilnmlmgcobaaGreatDoor
open Go.RowKit Go.Shelf
attribute [local go_sem] Oper.semAt_some
set_option maxRecDepth 100000

/-- A string's bytes. -/
def bs (s : ByteArray) : List UInt8 := s.data.toList
theorem bs_len (s : ByteArray) : (bs s).length = s.size := (Lib.size_eq s).symm

theorem pieces_index_none {s : ByteArray} (h : Lib.indexByte (bs s) 47 = -1) : Pt.pieces (bs s) = [bs s] := by
  refine Pt.pieces_none _ fun hm => ?_
  obtain ⟨k, hk⟩ := List.getElem?_of_mem hm
  exact Lib.indexByte_none h k hk

theorem pieces_index_some {s : ByteArray} {i : Nat} (h : Lib.indexByte (bs s) 47 = i) : i < s.size ∧ Pt.pieces (bs s) = bs (s.extract 0 i) :: Pt.pieces (bs (s.extract (i + 1) s.size)) := by
  obtain ⟨h1, h2⟩ := Lib.indexByte_some h
  have hi : i < (bs s).length := by
    rcases Nat.lt_or_ge i (bs s).length with h | h
    · exact h
    · rw [List.getElem?_eq_none h] at h1; cases h1
  have e : bs s = (bs s).take i ++ 47 :: (bs s).drop (i + 1) := by
    conv => lhs; rw [← List.take_append_drop i (bs s)]
    rw [List.drop_eq_getElem_cons hi]
    rw [List.getElem?_eq_getElem hi] at h1
    injection h1 with h1
    rw [h1]
  have hn : 47 ∉ (bs s).take i := by
    intro hm
    obtain ⟨k, hk⟩ := List.getElem?_of_mem hm
    have hki : k < i := by
      rcases Nat.lt_or_ge k i with h | h
      · exact h
      · rw [List.getElem?_eq_none (by simp; omega)] at hk; cases hk
    rw [List.getElem?_take_of_lt hki] at hk
    exact h2 k hki hk
  refine ⟨by rw [← bs_len]; exact hi, ?_⟩
  rw [show bs (s.extract 0 i) = (bs s).take i from Lib.extract_from_zero s i, show bs (s.extract (i + 1) s.size) = (bs s).drop (i + 1) from Lib.extract_to_end s (i + 1)]
  conv => lhs; rw [e]
  exact Pt.pieces_hit _ _ hn

open Classical in
/-- How much is still to be cut, read off the world. -/
noncomputable def left (B : Nat) (W : World) : Nat := if h : ∃ s : ByteArray, Boxed W B 9 (.string s) then (Classical.choose h).size else 0
theorem left_eq {B : Nat} {W : World} {s : ByteArray} (h : Boxed W B 9 (.string s)) : left B W = s.size := by
  have hex : ∃ s : ByteArray, Boxed W B 9 (.string s) := ⟨s, h⟩
  unfold left
  rw [dif_pos hex]
  have h2 := Classical.choose_spec hex
  have := Option.some.inj ((show W.heap[B]? = _ from h).symm.trans h2)
  have e : s = Classical.choose hex := by simpa using this
  rw [← e]

theorem index_none (w : World) (s : ByteArray) (h : Lib.indexByte (bs s) 47 = -1) :
    Calls Tryz.prog 131 #[.string s, .string ⟨#[47]⟩] w fun e w' => e = .returned (.int .i64 (-1)) ∧ w = w' := by
  have := index_any w s
  rwa [show Lib.indexByte s.data.toList 47 = -1 from h] at this
theorem index_some (w : World) (s : ByteArray) (i : Nat) (h : Lib.indexByte (bs s) 47 = i) :
    Calls Tryz.prog 131 #[.string s, .string ⟨#[47]⟩] w fun e w' => e = .returned (.int .i64 i) ∧ w = w' := by
  have := index_any w s
  rwa [show Lib.indexByte s.data.toList 47 = i from h] at this

/-- What the iterator writes: its own variable. -/
def Mine (B : Nat) (X Y : World) : Prop := ∃ t : ByteArray, Y = X.setCell ⟨B, 0, none⟩ (.string t)
/-- What a round must keep: the iterator's three variables. -/
def Keeps3 (B : Nat) (X Y : World) : Prop := ∀ k, B ≤ k → k < B + 3 → Y.heap[k]? = X.heap[k]?

set_option maxHeartbeats 2000000 in
theorem seq1_in (n : Nat) (hn1 : 1 ≤ n) (l B : Nat) (s0 : ByteArray) (hs0 : s0.size ≤ 9223372036854775806) (J Jx : List ByteArray → World → Prop)
    (hJ : ∀ s X Y, J s X → Mine B X Y → J s Y)
    (hY : ∀ pre x X, J pre X → (pre ++ [x]).map bs <+: Pt.pieces (bs s0) → YieldAt Fence.wide (n - 1) Tryz.prog l #[.string x] X fun e Y =>
      (e = .returned (.bool true) ∧ J (pre ++ [x]) Y ∧ Keeps3 B X Y) ∨ (e = .returned (.bool false) ∧ Jx (pre ++ [x]) Y))
    (W : World) (h1 : Boxed W B 9 (.string s0)) (h2 : Boxed W (B + 1) 9 (.string ⟨#[47]⟩)) (h3 : Boxed W (B + 1 + 1) 3 (.int .i64 0)) (h0 : J [] W) :
    CallsIn Fence.wide n Tryz.prog 129 #[.func (.yield l) #[] #[], .pointer (some ⟨B + 1, 0, none⟩), .pointer (some ⟨B, 0, none⟩), .pointer (some ⟨B + 1 + 1, 0, none⟩)] W fun e Y => (∃ v, e = .returned v) ∧
      ((∃ ys, ys.map bs = Pt.pieces (bs s0) ∧ J ys Y) ∨ (∃ pre, pre.map bs <+: Pt.pieces (bs s0) ∧ Jx pre Y)) := by
  refine callsIn_of_wp Tryz.func129 rfl trivial ?_ rfl
  simp only [Tryz.ntmps129, List.size_toArray, List.length_cons, List.length_nil, Nat.reduceAdd, Nat.reduceSub, Array.replicate_succ, Array.replicate_zero, List.push_toArray, List.append_toArray, List.nil_append, List.cons_append]
  have c2 := h2.cell
  gi_wp2
  clear c2
  gi_loopw [7] (fun _ wr => ∃ (pre : List ByteArray) (s : ByteArray), s.size ≤ 9223372036854775806 ∧ Pt.pieces (bs s0) = pre.map bs ++ Pt.pieces (bs s) ∧ Boxed wr B 9 (.string s) ∧ Boxed wr (B + 1) 9 (.string ⟨#[47]⟩) ∧ Boxed wr (B + 1 + 1) 3 (.int .i64 0) ∧ J pre wr)
    (fun _ wr => left B wr)
  case atStart => exact ⟨[], s0, hs0, rfl, h1, h2, h3, h0⟩
  case round =>
    obtain ⟨pre, s, hs, hp, b1, b2, b3, hj⟩ := hrel
    have HP := Lib.hid hp
    clear hp
    have c1 := b1.cell
    have c2 := b2.cell
    have c3 := b3.cell
    have hge := Lib.indexByte_ge (bs s) 47
    by_cases hn : Lib.indexByte (bs s) 47 = -1
    · have HX := Lib.hid (pieces_index_none hn)
      have HN := Lib.hid hn
      clear hn hge
      obtain ⟨fn, tmps, assign, body, hy, hR⟩ := hY pre s wr hj (by rw [HP.out, HX.out]; simp)
      gi_wp2_with (refine ⟨trivial, ?_⟩; gi_at_call 131; refine (callsIn_wide.2 (index_none _ s HN.out)).mono ?_; rintro e w' ⟨rfl, rfl⟩)
      refine hR.mono ?_
      rintro e Y (⟨rfl, hj2, hk⟩ | ⟨rfl, hx⟩)
      · gi_wp2
        go_end0
        exact ⟨⟨_, rfl⟩, .inl ⟨pre ++ [s], by rw [HP.out, HX.out]; simp, hj2⟩⟩
      · gi_wp2
        go_end0
        exact ⟨⟨_, rfl⟩, .inr ⟨pre ++ [s], by rw [HP.out, HX.out]; simp, hx⟩⟩
    · obtain ⟨i, hi⟩ : ∃ i : Nat, Lib.indexByte (bs s) 47 = i := ⟨(Lib.indexByte (bs s) 47).toNat, by omega⟩
      have hp2 := pieces_index_some hi
      have hlt := hp2.1
      have HX := Lib.hid hp2.2
      have HN := Lib.hid hi
      clear hn hge hi hp2
      obtain ⟨fn, tmps, assign, body, hy, hR⟩ := hY pre (s.extract 0 i) wr hj (by rw [HP.out, HX.out]; simp)
      gi_wp2_with (refine ⟨trivial, ?_⟩; gi_at_call 131; refine (callsIn_wide.2 (index_some _ s i HN.out)).mono ?_; rintro e w' ⟨rfl, rfl⟩)
      refine hR.mono ?_
      rintro e Y (⟨rfl, hj2, hk⟩ | ⟨rfl, hx⟩)
      · have d1 : Boxed Y B 9 (.string s) := (hk B (by omega) (by omega)).trans b1
        have d2 : Boxed Y (B + 1) 9 (.string ⟨#[47]⟩) := (hk (B + 1) (by omega) (by omega)).trans b2
        have d3 : Boxed Y (B + 1 + 1) 3 (.int .i64 0) := (hk (B + 1 + 1) (by omega) (by omega)).trans b3
        have e1 := d1.cell
        have e2 := d2.cell
        have e3 := d1.frozen
        clear c1 c2 c3 hy
        gi_wp2
        go_roundw
        case rel => exact ⟨pre ++ [s.extract 0 i], s.extract (i + 1) s.size, by simp [ByteArray.size_extract]; omega, by rw [HP.out, HX.out]; simp, d1.set _, d2.kept (grownBy_setCell' _ _ _) (by simp), d3.kept (grownBy_setCell' _ _ _) (by simp; omega), hJ _ _ _ hj2 ⟨_, rfl⟩⟩
        case measure => rw [left_eq (d1.set _), left_eq b1]; simp [ByteArray.size_extract]; omega
      · gi_wp2
        refine bodyPost_ret (results_none rfl _ _ _) rfl ?_
        exact ⟨⟨_, rfl⟩, .inr ⟨pre ++ [s.extract 0 i], by rw [HP.out, HX.out]; simp, hx⟩⟩

set_option maxHeartbeats 1000000 in
/-- The call of SplitSeq: three variables, and the closure over them. -/
theorem splitSeq_any (w : World) (s : ByteArray) :
    Calls Tryz.prog 123 #[.string s, .string ⟨#[47]⟩, .int .i64 0] w fun e w' =>
      e = .returned (.func (.func 129) #[] #[.pointer (some ⟨w.heap.size + 1, 0, none⟩), .pointer (some ⟨w.heap.size, 0, none⟩), .pointer (some ⟨w.heap.size + 1 + 1, 0, none⟩)]) ∧
      ((w.alloc (.cells #[.string s] 9)).alloc (.cells #[.string ⟨#[47]⟩] 9)).alloc (.cells #[.int .i64 0] 3) = w' := by
  go_enter Tryz.func123, Tryz.ntmps123
  go_wp2
  go_ret
  exact ⟨rfl, rfl⟩

set_option maxHeartbeats 1000000 in
theorem SplitSeq_any (w : World) (s : ByteArray) :
    Calls Tryz.prog 108 #[.string s, .string ⟨#[47]⟩] w fun e w' =>
      e = .returned (.func (.func 129) #[] #[.pointer (some ⟨w.heap.size + 1, 0, none⟩), .pointer (some ⟨w.heap.size, 0, none⟩), .pointer (some ⟨w.heap.size + 1 + 1, 0, none⟩)]) ∧
      ((w.alloc (.cells #[.string s] 9)).alloc (.cells #[.string ⟨#[47]⟩] 9)).alloc (.cells #[.int .i64 0] 3) = w' := by
  go_enter Tryz.func108, Tryz.ntmps108
  go_wp2_with (go_at_call 123; refine (splitSeq_any _ s).mono ?_; rintro e w' ⟨rfl, rfl⟩)
  go_ret
  exact ⟨rfl, rfl⟩

/-- What the closure says of itself. -/
theorem seq_iters (n : Nat) (hn1 : 1 ≤ n) (B : Nat) (s0 : ByteArray) (hs0 : s0.size ≤ 9223372036854775806) (w : World)
    (h1 : Boxed w B 9 (.string s0)) (h2 : Boxed w (B + 1) 9 (.string ⟨#[47]⟩)) (h3 : Boxed w (B + 1 + 1) 3 (.int .i64 0)) :
    Iters n Tryz.prog 129 #[.pointer (some ⟨B + 1, 0, none⟩), .pointer (some ⟨B, 0, none⟩), .pointer (some ⟨B + 1 + 1, 0, none⟩)] (fun x : ByteArray => #[.string x]) (Mine B) (Keeps3 B)
      (fun ys => ys.map bs = Pt.pieces (bs s0)) (fun pre => pre.map bs <+: Pt.pieces (bs s0)) w := fun l J Jx W hW hJ hY h0 =>
  seq1_in n hn1 l B s0 hs0 J Jx hJ hY W ((hW.block _ h1.lt).trans h1) ((hW.block _ h2.lt).trans h2) ((hW.block _ h3.lt).trans h3) h0

theorem mine_keeps (B : Nat) (X Y : World) (k : Nat) (o : Obj) (h : Mine B X Y) (hk : X.heap[k]? = some o) (ho : o.isCells = false) : Y.heap[k]? = some o := by
  obtain ⟨v, rfl⟩ := h
  exact (KeepsOthers.setCell X ⟨B, 0, none⟩ (.string v)).same k o hk ho
theorem keeps3_trans (B : Nat) (X Y Z : World) (h : Keeps3 B X Y) (k : Keeps3 B Y Z) : Keeps3 B X Z := fun i a b => (k i a b).trans (h i a b)
theorem keeps3_put {B : Nat} {w : World} (hB : B + 3 ≤ w.heap.size) (W : World) (l : Nat) (o o' : Obj) (hl : w.heap.size ≤ l) (_ : W.heap[l]? = some o) (_ : o.isCells = false) : Keeps3 B W (W.putObj l o') :=
  fun i _ _ => World.putObj_heap_other (by omega)
end Go.Proofs.YtmmilnmlmgcobaaGreatDoor
