/-
  words.Each: what the iterator hands over, word by word.
  words.Split: the words, in a slice of its own.
-/
import Derived.RangeFuncNested
import Derived.RangeFuncBound
import Derived.RangeFuncCalls
import Derived.RangeFuncLeaves
import Derived.RangeFuncBox
import Derived.Shelf.Abstract
import Derived.Shelf.RegionOpen
import Derived.OwnWalkIn
import Derived.TacticsInMore
import Derived.LoopNIn
import Derived.LoopIn
import Derived.Test.YtgednccpjegbmaaGreatDoorQWBlank
import Derived.Maps.AppendAt
import Derived.Test.YtgednccpjegbmaaGreatDoorQTBase
namespace Go.Proofs.YtgednccpjegbmaaGreatDoor.Ww
open Go.RowKit Go.Shelf Go.Proofs.YtgednccpjegbmaaGreatDoor
attribute [local go_sem] Oper.semAt_some
set_option maxRecDepth 100000

abbrev ST : TypeId := 9
/-- A word of a text, as the program has it. -/
def part (s : ByteArray) (x : Nat × Nat) : ByteArray := s.extract x.1 x.2
/-- What a round must keep: the text's variable. -/
def KeepB (B : Nat) (X Y : World) : Prop := Y.heap[B]? = X.heap[B]?

theorem by8_some {s : ByteArray} {k : Nat} {c : UInt8} (h : k < s.size) (hc : (by8 s)[k]? = some c) : c = s[k] := by
  rw [by8_get h] at hc; exact (Option.some.inj hc).symm
theorem stop_at {s : ByteArray} {k : Nat} (h : k < s.size) (hb : Wp.blankB s[k] = true) : ∀ c, (by8 s)[k]? = some c → Wp.blankB c = true := fun c hc => by rw [by8_some h hc]; exact hb
theorem stop_end (s : ByteArray) : ∀ c, (by8 s)[s.size]? = some c → Wp.blankB c = true := fun c hc => by
  rw [List.getElem?_eq_none (by rw [by8_len]; exact Nat.le_refl _)] at hc; cases hc
theorem go_on {s : ByteArray} {f k : Nat} (h : k < s.size) (hb : Wp.blankB s[k] = false) : Wp.restI (by8 s) f k = Wp.restI (by8 s) f (k + 1) :=
  Wp.restI_in (c := s[k]) (by rw [by8_len]; exact h) (by have := by8_get h; rw [List.getElem?_eq_getElem (by rw [by8_len]; exact h)] at this; exact Option.some.inj this) hb
theorem last_pre {pre R L : List (Nat × Nat)} {x : Nat × Nat} (h : L = pre ++ x :: R) : (pre ++ [x]) <+: L := ⟨R, by rw [h]; simp⟩

set_option maxHeartbeats 4000000 in
theorem each1_in (n : Nat) (hn1 : 1 ≤ n) (l B : Nat) (s : ByteArray) (hs : s.size ≤ 1000000000) (J Jx : List (Nat × Nat) → World → Prop)
    (hY : ∀ pre x X, J pre X → (pre ++ [x]) <+: Wp.items (by8 s) → YieldAt Fence.wide (n - 1) Tryz.prog l #[.int .i64 (x.1 : Int), .string (part s x)] X fun e Y =>
      (e = .returned (.bool true) ∧ J (pre ++ [x]) Y ∧ KeepB B X Y) ∨ (e = .returned (.bool false) ∧ Jx (pre ++ [x]) Y))
    (W : World) (h1 : Boxed W B ST (.string s)) (h0 : J [] W) :
    CallsIn Fence.wide n Tryz.prog 202 #[.func (.yield l) #[] #[], .pointer (some ⟨B, 0, none⟩)] W fun e Y => (∃ v, e = .returned v) ∧
      ((∃ ys, ys = Wp.items (by8 s) ∧ J ys Y) ∨ (∃ pre, pre <+: Wp.items (by8 s) ∧ Jx pre Y)) := by
  refine callsIn_of_wp Tryz.func202 rfl trivial ?_ rfl
  simp only [Tryz.ntmps202, List.size_toArray, List.length_cons, List.length_nil, Nat.reduceAdd, Nat.reduceSub, Array.replicate_succ, Array.replicate_zero, List.push_toArray, List.append_toArray, List.nil_append, List.cons_append]
  gi_wp2
  gi_loopw [3, 4] (fun vf vi wr => ∃ (pre : List (Nat × Nat)) (f k : Nat), vf = .int .i64 f ∧ vi = .int .i64 k ∧ f ≤ k ∧ k ≤ s.size + 1 ∧ Wp.items (by8 s) = pre ++ Wp.restI (by8 s) f k ∧ Boxed wr B ST (.string s) ∧ J pre wr)
    (fun _ vi _ => s.size + 1 - (intOf vi).toNat)
  case atStart => exact ⟨[], 0, 0, rfl, rfl, Nat.le_refl _, Nat.zero_le _, (Wp.restI_start _).symm, h1, h0⟩
  case round =>
    obtain ⟨pre, f, k, rfl, rfl, hfk, hk, hp, b1, hj⟩ := hrel
    have c1 := b1.cell
    by_cases hlt : k < s.size
    · cases hb : Wp.blankB s[k] with
      | false =>
        have HB := Lib.hid hb
        have HP : Hid (Wp.items (by8 s) = pre ++ Wp.restI (by8 s) f (k + 1)) := Lib.hid (by rw [hp, go_on hlt hb])
        clear hb hp
        gi_wp2_with (refine ⟨trivial, ?_⟩; gi_at_call 203; refine (callsIn_wide.2 (blank_any _ s[k] _ HB)).mono ?_; rintro e w' ⟨rfl, rfl⟩)
        go_roundw
        case rel => exact ⟨pre, f, k + 1, rfl, by go_num, by omega, by omega, HP.out, b1, hj⟩
        case measure => simp [intOf]; omega
      | true =>
        have HB := Lib.hid hb
        by_cases hf : f < k
        · have hr := Wp.restI_yes (u := by8 s) (f := f) (k := k) (by rw [by8_len]; omega) (stop_at hlt hb) hf
          rw [hr] at hp
          have HP := Lib.hid hp
          obtain ⟨fn, tmps, assign, body, hy, hR⟩ := hY pre (f, k) wr hj (last_pre hp)
          dsimp only [part] at hy
          clear hb hp hr
          gi_wp2_with (refine ⟨trivial, ?_⟩; gi_at_call 203; refine (callsIn_wide.2 (blank_any _ s[k] _ HB)).mono ?_; rintro e w' ⟨rfl, rfl⟩)
          refine hR.mono ?_
          rintro e Y (⟨rfl, hj2, hkp⟩ | ⟨rfl, hx⟩)
          · have d1 : Boxed Y B ST (.string s) := hkp.trans b1
            have e1 := d1.cell
            clear c1 hy
            gi_wp2
            go_roundw
            case rel => exact ⟨pre ++ [(f, k)], k + 1, k + 1, by go_num, by go_num, Nat.le_refl _, by omega, by rw [HP.out]; simp, d1, hj2⟩
            case measure => simp [intOf]; omega
          · gi_wp2
            refine bodyPost_ret (results_none rfl _ _ _) rfl ?_
            exact ⟨⟨_, rfl⟩, .inr ⟨pre ++ [(f, k)], last_pre HP.out, hx⟩⟩
        · have hr := Wp.restI_no (u := by8 s) (f := f) (k := k) (by rw [by8_len]; omega) (stop_at hlt hb) hf
          rw [hr] at hp
          have HP := Lib.hid hp
          clear hb hp hr
          gi_wp2_with (refine ⟨trivial, ?_⟩; gi_at_call 203; refine (callsIn_wide.2 (blank_any _ s[k] _ HB)).mono ?_; rintro e w' ⟨rfl, rfl⟩)
          refine ⟨(fun _ h => by cases h), ?_⟩
          gi_wp2
          go_roundw
          case rel => exact ⟨pre, k + 1, k + 1, by go_num, by go_num, Nat.le_refl _, by omega, HP.out, b1, hj⟩
          case measure => simp [intOf]; omega
    · by_cases hle : k = s.size
      · subst hle
        by_cases hf : f < s.size
        · have hr := Wp.restI_yes (u := by8 s) (f := f) (k := s.size) (by rw [by8_len]; omega) (stop_end s) hf
          rw [hr] at hp
          have HP := Lib.hid hp
          obtain ⟨fn, tmps, assign, body, hy, hR⟩ := hY pre (f, s.size) wr hj (last_pre hp)
          dsimp only [part] at hy
          clear hp hr
          have tok : True := trivial
          gi_wp2_with (have _t := tok; refine ⟨trivial, ?_⟩; clear tok _t)
          refine hR.mono ?_
          rintro e Y (⟨rfl, hj2, hkp⟩ | ⟨rfl, hx⟩)
          · have d1 : Boxed Y B ST (.string s) := hkp.trans b1
            have e1 := d1.cell
            clear c1 hy
            gi_wp2
            go_roundw
            case rel => exact ⟨pre ++ [(f, s.size)], s.size + 1, s.size + 1, by go_num, by go_num, Nat.le_refl _, by omega, by rw [HP.out]; simp, d1, hj2⟩
            case measure => simp [intOf]
          · gi_wp2
            refine bodyPost_ret (results_none rfl _ _ _) rfl ?_
            exact ⟨⟨_, rfl⟩, .inr ⟨pre ++ [(f, s.size)], last_pre HP.out, hx⟩⟩
        · have hr := Wp.restI_no (u := by8 s) (f := f) (k := s.size) (by rw [by8_len]; omega) (stop_end s) hf
          rw [hr] at hp
          have HP := Lib.hid hp
          clear hp hr
          have tok : True := trivial
          gi_wp2_with (have _t := tok; refine ⟨trivial, ?_⟩; clear tok _t)
          refine ⟨(fun _ h => by cases h), ?_⟩
          gi_wp2
          go_roundw
          case rel => exact ⟨pre, s.size + 1, s.size + 1, by go_num, by go_num, Nat.le_refl _, by omega, HP.out, b1, hj⟩
          case measure => simp [intOf]
      · obtain rfl : k = s.size + 1 := by omega
        rw [Wp.restI_over (by rw [by8_len]; omega), List.append_nil] at hp
        have HP := Lib.hid hp.symm
        clear hp
        gi_wp2
        go_end0
        exact ⟨⟨_, rfl⟩, .inl ⟨pre, HP.out, hj⟩⟩

set_option maxHeartbeats 1000000 in
/-- The call of Each: the text in a variable, and the closure over it. -/
theorem Each_any (w : World) (s : ByteArray) :
    Calls Tryz.prog 152 #[.string s] w fun e w' =>
      e = .returned (.func (.func 202) #[] #[.pointer (some ⟨w.heap.size, 0, none⟩)]) ∧ w.alloc (.cells #[.string s] ST) = w' := by
  go_enter Tryz.func152, Tryz.ntmps152
  go_wp2
  go_ret
  exact ⟨rfl, rfl⟩

def MineE (X Y : World) : Prop := X = Y
/-- What the closure says of itself. -/
theorem each_iters (n : Nat) (hn1 : 1 ≤ n) (B : Nat) (s : ByteArray) (hs : s.size ≤ 1000000000) (w : World) (h1 : Boxed w B ST (.string s)) :
    Iters n Tryz.prog 202 #[.pointer (some ⟨B, 0, none⟩)] (fun x : Nat × Nat => #[.int .i64 (x.1 : Int), .string (part s x)]) MineE (KeepB B)
      (fun ys => ys = Wp.items (by8 s)) (fun pre => pre <+: Wp.items (by8 s)) w := fun l J Jx W hW _ hY h0 =>
  each1_in n hn1 l B s hs J Jx hY W ((hW.block _ h1.lt).trans h1) h0
theorem mineE_keeps (X Y : World) (k : Nat) (o : Obj) (h : MineE X Y) (hk : X.heap[k]? = some o) (_ : o.isCells = false) : Y.heap[k]? = some o := by
  cases h; exact hk
theorem keepB_trans (B : Nat) (X Y Z : World) (h : KeepB B X Y) (k : KeepB B Y Z) : KeepB B X Z := Eq.trans k h
theorem keepB_put {B : Nat} {w : World} (hB : B < w.heap.size) (W : World) (l : Nat) (o o' : Obj) (hl : w.heap.size ≤ l) (_ : W.heap[l]? = some o) (_ : o.isCells = false) : KeepB B W (W.putObj l o') :=
  World.putObj_heap_other (by omega)
end Go.Proofs.YtgednccpjegbmaaGreatDoor.Ww
namespace Go.Proofs.YtgednccpjegbmaaGreatDoor.Ww
open Go.RowKit Go.Shelf Go.Proofs.YtgednccpjegbmaaGreatDoor
attribute [local go_sem] Oper.semAt_some
set_option maxRecDepth 100000

theorem infoS : (Tryz.prog.info? ST).map (fun i => (i.zero, i.size, i.bytes)) = some (some (.string ByteArray.empty), 1, 16) := by kernel_rfl
theorem owns_weaken {w : World} {base b' : Nat} {e : TypeId} {size : Nat} {v : Value} {n : Nat} {xs : List Value} (h : w.ownsRow base e size v n xs) (hb : b' ≤ base) : w.ownsRow b' e size v n xs := by
  refine ⟨h.1, ?_⟩
  rcases h.2 with h | ⟨g, cap, cur, h1, h2, h3⟩
  · exact .inl h
  · exact .inr ⟨g, cap, cur, h1, Nat.le_trans hb h2, h3⟩
def wordsS (s : ByteArray) : List ByteArray := (Wp.items (by8 s)).map (part s)
theorem wordsS_len (s : ByteArray) : (wordsS s).length = (Wp.items (by8 s)).length := by simp [wordsS]
theorem items_size (s : ByteArray) : (Wp.items (by8 s)).length ≤ s.size := by have := Wp.items_len (by8 s); rwa [by8_len] at this

/-- What the loop's head knows: the words so far, in a box; the text, in its box. -/
def SpI (w : World) (s : ByteArray) (pre : List (Nat × Nat)) (W : World) : Prop :=
  (∃ v, Boxed W w.heap.size 76 v ∧ W.ownsRow (w.heap.size + 2) ST 1 v pre.length (strsC (pre.map (part s))) ∧ True) ∧ Boxed W (w.heap.size + 1) ST (.string s) ∧ Below w.heap.size w W
theorem SpI.own (w : World) (s : ByteArray) (B : Nat) (hB : w.heap.size ≤ B) : OwnFrom B (SpI w s) :=
  OwnFrom.and (Own.from (holdsRow_own (w.heap.size + 2) w.heap.size 76 ST 1 (fun pre : List (Nat × Nat) => pre.length) (fun pre => strsC (pre.map (part s))) (fun _ _ => True)) _)
    (OwnFrom.and (Own.from (boxed_own (w.heap.size + 1) ST (fun _ : List (Nat × Nat) => .string s)) _) (ownFrom_below (Nat.le_refl _) hB))

set_option maxHeartbeats 4000000 in
theorem Split_any (w : World) (s : ByteArray) (hs : s.size ≤ 100000000) :
    Calls Tryz.prog 149 #[.string s] w fun e w' => ∃ v, e = .returned v ∧ w'.ownsRow (w.heap.size + 2) ST 1 v (wordsS s).length (strsC (wordsS s)) ∧ Below w.heap.size w w' := by
  obtain ⟨i0, hi, hz0, hz1, hz2⟩ := info_parts infoS
  have hil := items_size s
  refine (callsIn_wide (n := 9)).1 ?_
  refine callsIn_of_wp_marks Tryz.func149 rfl trivial ?_ rfl
  simp only [Tryz.ntmps149, List.size_toArray, List.length_cons, List.length_nil, Nat.reduceAdd, Nat.reduceSub, Array.replicate_succ, Array.replicate_zero, List.push_toArray, List.append_toArray, List.nil_append, List.cons_append]
  gi_wp2_with (refine ⟨trivial, ?_⟩; gi_at_call 152; refine (callsIn_wide.2 (Each_any _ s)).mono ?_; rintro e w' ⟨rfl, rfl⟩)
  have k0 := Boxed.new w 76 (.slice none 0 0)
  have k1 := Boxed.new (w.alloc (.cells #[.slice none 0 0] 76)) ST (.string s)
  simp only [World.size_alloc] at k1
  have hB0 : Below w.heap.size w ((w.alloc (.cells #[.slice none 0 0] 76)).alloc (.cells #[.string s] ST)) := ((Below.refl _ w).alloc (Nat.le_refl _) _).alloc (by simp) _
  refine range_law (by omega) (gf := 202) (lb := #[.pointer (some ⟨w.heap.size + 1, 0, none⟩)]) rfl (enters_of Tryz.func202 (by kernel_rfl) rfl)
    (each_iters _ (by omega) (w.heap.size + 1) s (by omega) _ k1) mineE_keeps (keepB_trans _) (keepB_put (by simp)) (fun _ => rfl)
    (SpI w s) (fun _ _ _ => False) (SpI.own w s _ (by simp; omega)) (fun _ _ _ _ _ h _ _ => h) (fun _ X Y h e => by cases e; exact h)
    ⟨⟨_, k0.alloc _, World.ownsRow_nil _ _ _ _, trivial⟩, k1, hB0⟩
    (fun x => { tmps := #[.string s, undef, .slice none 0 0, .pointer (some ⟨w.heap.size, 0, none⟩), undef, .string (part s x), .string s, .func (.func 202) #[] #[.pointer (some ⟨w.heap.size + 1, 0, none⟩)], .int .i64 (x.1 : Int), .string (part s x), undef, undef, undef, undef, undef], defers := [] }) ?assign ?body ?done ?stop
  case assign =>
    intro l x W K hK
    gi_wp2
    exact hK
  case body =>
    rintro l pre x W ⟨⟨v, hv, hrow, _⟩, hs1, hB⟩ hsp
    have hpl : (pre ++ [x]).length ≤ (Wp.items (by8 s)).length := hsp.length_le
    simp only [List.length_append, List.length_singleton] at hpl
    have cv0 := hv.cell
    have fv0 := hv.frozen
    clear k0 k1 hB0
    gi_wp2_with (gi_at_builtin; refine wpListIn_append_own _ rfl _ _ 76 rfl (w.heap.size + 2) ST i0 (.string ByteArray.empty) 1 16 Tryz.underlying76 hi hz0 hz1 hz2 rfl (by decide) _ _ _ rfl (hrow.alloc _) ⟨W.heap.size, 0, none⟩ 1 1 [.string (part s x)] rfl rfl (cell_one_new _ _ _) (by simp [Value.oneCell']) (by unfold maxLen; omega) (by omega) (by have := hs1.lt; simp; omega) ?_; intro v' w1 hown' hgrow _; obtain ⟨g', cap', rfl⟩ := ownsRow_succ hown'; obtain ⟨hv1, hv2, _, hk2, hb2⟩ := hv.appended (by decide) (owns_weaken hrow (Nat.le_add_right _ 2)) hB.size (Nat.le_refl _) (owns_weaken hown' (Nat.le_add_right _ 2)) hgrow; have hr2 := hown'.kept (grownBy_setCell' w1 w.heap.size (.slice (some ⟨g', 0, none⟩) (pre.length + 1) cap')) (.inr (hv1.not_row (by decide) hown').symm); have hc1 := hv1.cell; have hf1 := hv1.frozen)
    have hs2 := ((hs1.alloc (.cells #[.string (part s x)] ST)).kept hgrow (fun e => by have := (hrow.lt _ e.symm).1; omega)).other (B' := w.heap.size) (by omega) (.slice (some ⟨g', 0, none⟩) (pre.length + 1) cap')
    refine ⟨hk2, hs2.trans hs1.symm, ⟨_, hv2, ?_, trivial⟩, hs2, hB.trans hb2⟩
    rw [List.map_append, List.length_append]
    simpa [strsC] using hr2
  case done =>
    rintro D xs W hD rfl ⟨⟨v, hv, hrow, _⟩, hs1, hB⟩ hK
    have hvc := hv.cell
    clear k0 k1 hB0
    gi_wp2
    refine ⟨by simp, .inl ⟨_, _, rfl, run_takeDeferred hK, ?_⟩⟩
    exact ⟨_, results_tmp rfl _ _ _, v, rfl, by rw [wordsS_len]; exact ownsRow_putObj hrow _ hK rfl, hB.trans (belowK_b (w := w) (Nat.le_refl _) W D _ _ (by simp at hD; omega) hK rfl rfl)⟩
  case stop =>
    rintro D c pre W _ _ h _
    exact h.elim
end Go.Proofs.YtgednccpjegbmaaGreatDoor.Ww
