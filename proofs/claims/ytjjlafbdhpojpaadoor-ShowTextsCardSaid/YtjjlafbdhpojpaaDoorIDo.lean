/-
  lines.Of's closure: one line more, if its text isn't empty.
-/
import Derived.Maps.AppendAt
import Derived.Test.YtjjlafbdhpojpaaDoorICells
import Derived.Test.YtjjlafbdhpojpaaDoorIBare
namespace Go.Proofs.YtjjlafbdhpojpaaDoor.Iw
open Go.RowKit Go.Proofs.YtjjlafbdhpojpaaDoor Go.Proofs.YtjjlafbdhpojpaaDoor.Ww
set_option maxRecDepth 100000

abbrev LT : TypeId := 39
abbrev LS : TypeId := 40
theorem infoLT : (Tryd.prog.info? LT).map (fun i => (i.zero, i.size, i.bytes)) = some (some (.agg #[.int .i64 0, .string ByteArray.empty, .bool false]), 3, 32) := by kernel_rfl
/-- The list that grows, in its variable. -/
def Held (lb : Nat) (P : List Ip.L) (W : World) : Prop := ∃ v, Boxed W lb LS v ∧ W.ownsRow (lb + 1) LT 3 v P.length (linesC P)
theorem Held.below {lb : Nat} {P : List Ip.L} {W W' : World} (h : Held lb P W) (hB : Below W.heap.size W W') : Held lb P W' := by
  obtain ⟨v, h1, h2⟩ := h
  exact ⟨v, (hB.block lb h1.lt).trans h1, owns_below h2 hB⟩

set_option maxHeartbeats 4000000 in
theorem do_any (w : World) (lb : Nat) (P : List Ip.L) (n : Nat) (t : Bs) (q : Bool) (hH : Held lb P w) (hP : P.length ≤ 100001) (ht : t.length ≤ 1000000) :
    Calls Tryd.prog 31 #[.agg #[.int .i64 (n : Int), .string (str t), .bool q], .pointer (some ⟨lb, 0, none⟩)] w fun e w' => e = .returned (.tuple #[]) ∧ Held lb (P ++ Ip.emit n q t) w' ∧ Below lb w w' := by
  obtain ⟨i0, hi1, hz0, hz1, hz2⟩ := info_parts infoLT
  obtain ⟨v, hb, hr⟩ := hH
  obtain ⟨va, vc, rfl⟩ := owns_slice hr
  have hlb := hb.lt
  have HU : Hid (∀ W, Calls Tryd.prog 33 #[.string (str t)] W fun e w' => e = .returned (.string (str (Ip.bareA [] t))) ∧ Below W.heap.size W w') := Lib.hid fun W => uncomment_any W (str t) (by rw [str_size]; exact ht)
  have HT : Hid (∀ W, Calls Tryd.prog 32 #[.string (str (Ip.bareA [] t))] W fun e w' => e = .returned (.string (str (Ip.trim (Ip.bareA [] t)))) ∧ Below W.heap.size W w') := Lib.hid fun W => Trim_any W (str (Ip.bareA [] t)) (by have := Ip.bareA_len t []; rw [List.length_nil] at this; rw [str_size]; omega)
  have HB := Lib.hid hb
  have HR := Lib.hid hr
  clear hb hr
  go_enter Tryd.func31, Tryd.ntmps31
  cases q with
  | true =>
    have X1 : Hid ((w.alloc (.cells #[.int .i64 (n : Int), .string (str t), .bool true] LT)).heap[w.heap.size]? = some (.cells #[.int .i64 (n : Int), .string (str (t)), .bool true] LT (0, 0))) := Lib.hid (World.alloc_heap_new _ _)
    have HBX : Hid (Below w.heap.size w (w.alloc (.cells #[.int .i64 (n : Int), .string (str t), .bool true] LT))) := Lib.hid ((Below.refl _ _).alloc (Nat.le_refl _) _)
    have HSZ : Hid ((w.alloc (.cells #[.int .i64 (n : Int), .string (str t), .bool true] LT)).heap.size = w.heap.size + 1) := Lib.hid (by rw [World.size_alloc])
    have HV : Hid (Boxed (w.alloc (.cells #[.int .i64 (n : Int), .string (str t), .bool true] LT)) lb LS (.slice va P.length vc)) := Lib.hid ((HBX.out.block lb hlb).trans HB.out)
    have HR2 := Lib.hid (owns_below HR.out HBX.out)
    have c0 : (w.alloc (.cells #[.int .i64 (n : Int), .string (str t), .bool true] LT)).cell? ⟨lb, 0, none⟩ = some (.slice va P.length vc) := HV.out.cell
    have g0 : (w.alloc (.cells #[.int .i64 (n : Int), .string (str t), .bool true] LT)).cell? ⟨w.heap.size, 0, none⟩ = some (.int .i64 (n : Int)) := cell_at X1.out rfl
    have g1 : (w.alloc (.cells #[.int .i64 (n : Int), .string (str t), .bool true] LT)).cell? ⟨w.heap.size, 1, none⟩ = some (.string (str (t))) := cell_at X1.out rfl
    have g2 : (w.alloc (.cells #[.int .i64 (n : Int), .string (str t), .bool true] LT)).cell? ⟨w.heap.size, 2, none⟩ = some (.bool true) := cell_at X1.out rfl
    have HE0 : Hid (Ip.textA true t = t) := Lib.hid rfl
    by_cases hU : t = []
    · have hUe : (str (t)).toList = [] := by rw [Lib.toList_data]; exact hU
      have HEm : Hid (Ip.emit n true t = []) := Lib.hid (by unfold Ip.emit; rw [HE0.out, if_pos hU])
      clear hU
      go_wp2_with fail
      go_end0
      exact ⟨rfl, ⟨_, HV.out, by rw [HEm.out, List.append_nil]; exact HR2.out⟩, HBX.out.mono (Nat.le_of_lt hlb)⟩
    · have hUe : ¬ (str (t)).toList = [] := by rw [Lib.toList_data]; exact hU
      have hUf : (str (t)).toList.isEmpty = false := by cases h : (str (t)).toList with | nil => exact absurd h hUe | cons => rfl
      have HEm : Hid (Ip.emit n true t = [⟨n, t, true⟩]) := Lib.hid (by unfold Ip.emit; rw [HE0.out, if_neg hU])
      clear hU
      go_wp2_with (at_builtin; refine wpList_append_own _ rfl _ _ LS rfl (lb + 1) LT i0 (.agg #[.int .i64 0, .string ByteArray.empty, .bool false]) 3 32 Tryd.underlying40 hi1 hz0 hz1 hz2 rfl (by decide) _ _ _ rfl (HR2.out.alloc _) ⟨(w.heap.size + 1), 0, none⟩ 1 1 [.int .i64 (n : Int), .string (str (t)), .bool true] rfl rfl (three_at HSZ.out _ _ _ _) (by simp [Value.oneCell']) (by unfold maxLen; omega) (by omega) (by rw [World.size_alloc, HSZ.out]; omega) ?_; intro v' w3 hown' hgrow _; have hv3 : Boxed w3 lb LS (.slice va P.length vc) := (HV.out.alloc _).kept hgrow (Boxed.not_row HV.out (by decide) HR2.out); have hf3 := hv3.frozen; have hc3 := hv3.cell; obtain ⟨a2, c2, rfl⟩ := owns_slice hown')
      go_end0
      exact ⟨rfl, ⟨_, hv3.set _, by rw [HEm.out, List.length_append, linesC_app]; exact ownsRow_setCell_below hown' (a := ⟨lb, 0, none⟩) (Nat.lt_succ_self lb) _⟩, (((HBX.out.mono (Nat.le_of_lt hlb)).alloc (Nat.le_trans (Nat.le_of_lt hlb) HBX.out.size) _).grown hgrow (by rw [World.size_alloc]; have := HBX.out.size; omega) (fun k hk => by have := (HR2.out.lt k hk).1; omega)).setCell (Nat.le_refl _) _⟩
  | false =>
    have hb0 : (w.alloc (.cells #[.int .i64 (n : Int), .string (str t), .bool false] LT)).heap[w.heap.size]? = some (.cells #[.int .i64 (n : Int), .string (str t), .bool false] LT (0, 0)) := World.alloc_heap_new _ _
    have HB0 := Lib.hid hb0
    clear hb0
    go_wp2_with fail
    refine (HU.out _).mono ?_
    rintro e w1 ⟨rfl, B1⟩
    have hs1 := B1.size
    rw [World.size_alloc] at hs1
    go_wp2_with fail
    refine (HT.out _).mono ?_
    rintro e w2 ⟨rfl, B2⟩
    have hs2 := B2.size
    have HB2 : Hid (w2.heap[w.heap.size]? = some (.cells #[.int .i64 (n : Int), .string (str t), .bool false] LT (0, 0))) := Lib.hid ((B2.block _ (by omega)).trans ((B1.block _ (by simp)).trans HB0.out))
    have HBW : Hid (Below w.heap.size w w2) := Lib.hid ((((Below.refl w.heap.size w).alloc (Nat.le_refl _) _).trans (B1.mono (by simp))).trans (B2.mono (by omega)))
    have f0 : w2.frozen? ⟨w.heap.size, 1, none⟩ = false := frozen_at HB2.out _
    have e1 : w2.cell? ⟨w.heap.size, 1, none⟩ = some (.string (str t)) := cell_at HB2.out rfl
    clear B1 B2
    have X1 : Hid ((w2.setCell ⟨w.heap.size, 1, none⟩ (.string (str (Ip.trim (Ip.bareA [] t))))).heap[w.heap.size]? = some (.cells #[.int .i64 (n : Int), .string (str (Ip.trim (Ip.bareA [] t))), .bool false] LT (0, 0))) := Lib.hid (heap_set3 HB2.out _)
    have HBX : Hid (Below w.heap.size w (w2.setCell ⟨w.heap.size, 1, none⟩ (.string (str (Ip.trim (Ip.bareA [] t)))))) := Lib.hid (HBW.out.setCell (Nat.le_refl _) _)
    have HSZ : Hid ((w2.setCell ⟨w.heap.size, 1, none⟩ (.string (str (Ip.trim (Ip.bareA [] t))))).heap.size = w2.heap.size) := Lib.hid (by simp)
    have HV : Hid (Boxed (w2.setCell ⟨w.heap.size, 1, none⟩ (.string (str (Ip.trim (Ip.bareA [] t))))) lb LS (.slice va P.length vc)) := Lib.hid ((HBX.out.block lb hlb).trans HB.out)
    have HR2 := Lib.hid (owns_below HR.out HBX.out)
    have c0 : (w2.setCell ⟨w.heap.size, 1, none⟩ (.string (str (Ip.trim (Ip.bareA [] t))))).cell? ⟨lb, 0, none⟩ = some (.slice va P.length vc) := HV.out.cell
    have g0 : (w2.setCell ⟨w.heap.size, 1, none⟩ (.string (str (Ip.trim (Ip.bareA [] t))))).cell? ⟨w.heap.size, 0, none⟩ = some (.int .i64 (n : Int)) := cell_at X1.out rfl
    have g1 : (w2.setCell ⟨w.heap.size, 1, none⟩ (.string (str (Ip.trim (Ip.bareA [] t))))).cell? ⟨w.heap.size, 1, none⟩ = some (.string (str (Ip.trim (Ip.bareA [] t)))) := cell_at X1.out rfl
    have g2 : (w2.setCell ⟨w.heap.size, 1, none⟩ (.string (str (Ip.trim (Ip.bareA [] t))))).cell? ⟨w.heap.size, 2, none⟩ = some (.bool false) := cell_at X1.out rfl
    have HE0 : Hid (Ip.textA false t = Ip.trim (Ip.bareA [] t)) := Lib.hid rfl
    by_cases hU : Ip.trim (Ip.bareA [] t) = []
    · have hUe : (str (Ip.trim (Ip.bareA [] t))).toList = [] := by rw [Lib.toList_data]; exact hU
      have HEm : Hid (Ip.emit n false t = []) := Lib.hid (by unfold Ip.emit; rw [HE0.out, if_pos hU])
      clear hU
      go_wp2_with fail
      go_end0
      exact ⟨rfl, ⟨_, HV.out, by rw [HEm.out, List.append_nil]; exact HR2.out⟩, HBX.out.mono (Nat.le_of_lt hlb)⟩
    · have hUe : ¬ (str (Ip.trim (Ip.bareA [] t))).toList = [] := by rw [Lib.toList_data]; exact hU
      have hUf : (str (Ip.trim (Ip.bareA [] t))).toList.isEmpty = false := by cases h : (str (Ip.trim (Ip.bareA [] t))).toList with | nil => exact absurd h hUe | cons => rfl
      have HEm : Hid (Ip.emit n false t = [⟨n, Ip.trim (Ip.bareA [] t), false⟩]) := Lib.hid (by unfold Ip.emit; rw [HE0.out, if_neg hU])
      clear hU
      go_wp2_with (at_builtin; refine wpList_append_own _ rfl _ _ LS rfl (lb + 1) LT i0 (.agg #[.int .i64 0, .string ByteArray.empty, .bool false]) 3 32 Tryd.underlying40 hi1 hz0 hz1 hz2 rfl (by decide) _ _ _ rfl (HR2.out.alloc _) ⟨w2.heap.size, 0, none⟩ 1 1 [.int .i64 (n : Int), .string (str (Ip.trim (Ip.bareA [] t))), .bool false] rfl rfl (three_at HSZ.out _ _ _ _) (by simp [Value.oneCell']) (by unfold maxLen; omega) (by omega) (by rw [World.size_alloc, HSZ.out]; omega) ?_; intro v' w3 hown' hgrow _; have hv3 : Boxed w3 lb LS (.slice va P.length vc) := (HV.out.alloc _).kept hgrow (Boxed.not_row HV.out (by decide) HR2.out); have hf3 := hv3.frozen; have hc3 := hv3.cell; obtain ⟨a2, c2, rfl⟩ := owns_slice hown')
      go_end0
      exact ⟨rfl, ⟨_, hv3.set _, by rw [HEm.out, List.length_append, linesC_app]; exact ownsRow_setCell_below hown' (a := ⟨lb, 0, none⟩) (Nat.lt_succ_self lb) _⟩, (((HBX.out.mono (Nat.le_of_lt hlb)).alloc (Nat.le_trans (Nat.le_of_lt hlb) HBX.out.size) _).grown hgrow (by rw [World.size_alloc]; have := HBX.out.size; omega) (fun k hk => by have := (HR2.out.lt k hk).1; omega)).setCell (Nat.le_refl _) _⟩
end Go.Proofs.YtjjlafbdhpojpaaDoor.Iw
