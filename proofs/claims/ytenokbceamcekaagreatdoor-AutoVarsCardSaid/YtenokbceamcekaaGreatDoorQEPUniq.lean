/-
  words.Unique: each element once, in the order of their first occurrences.
-/
import Derived.Maps.OwnSet
import Derived.Test.YtenokbceamcekaaGreatDoorQWUniq
import Derived.Test.YtenokbceamcekaaGreatDoorQWReads
namespace Go.Proofs.YtenokbceamcekaaGreatDoor.Wu
open Go.RowKit Go.Maps Go.Proofs.YtenokbceamcekaaGreatDoor Go.Proofs.YtenokbceamcekaaGreatDoor.Ww
set_option maxRecDepth 100000

abbrev ST : TypeId := 9
theorem lawS : Keyed Tryz.prog ST := string_keyed Tryz.underlying9
theorem zeroN (w : World) : (zeroValue 43).run Tryz.prog w = .ok (.agg #[]) w := by kernel_rfl
theorem infoS : (Tryz.prog.info? ST).map (fun i => (i.zero, i.size, i.bytes)) = some (some (.string ByteArray.empty), 1, 16) := by kernel_rfl

/-- The set of the words that were met. -/
def setU (acc : List ByteArray) : DataW Unit := setOf (.agg []) (acc.map fun x => Lit.string x.data.toList)
theorem any_str (x : ByteArray) : ∀ l : List ByteArray, l.any ((fun y : Lit => y.sameKey (.string x.data.toList)) ∘ fun x => Lit.string x.data.toList) = Wp.has l x
  | [] => rfl
  | a :: r => by
    unfold Wp.has
    rw [List.any_cons, List.any_cons, any_str x r]
    congr 1
theorem has_setU (acc : List ByteArray) (x : ByteArray) : Maps.has (setU acc) (.string x.data.toList) = Wp.has acc x := by
  unfold setU
  rw [has_setOf _ _ _ (fun y hy => by obtain ⟨_, _, rfl⟩ := List.mem_map.1 hy; trivial), List.any_map]
  exact any_str x _
theorem setU_snoc (acc : List ByteArray) (x : ByteArray) : setU (acc ++ [x]) = (setU acc).put (.string x.data.toList) (.agg []) := by
  unfold setU
  rw [List.map_append, List.map_singleton, setOf_snoc]
theorem row_ne {w : World} {base : Nat} {e : TypeId} {size : Nat} {v : Value} {n : Nat} {xs : List Value} (h : w.ownsRow base e size v n xs) {b : Nat} (hb : b < base) : some b ≠ v.ownBlock := fun e1 => by
  have := (h.lt b e1.symm).1
  omega
theorem strsC_snoc (l : List ByteArray) (x : ByteArray) : strsC (l ++ [x]) = strsC l ++ [Value.string x] := by simp [strsC]

/-- What the loop's head knows. -/
def UqRel (w : World) (l : List ByteArray) (v i : Value) (wr : World) : Prop :=
  ∃ (k : Nat) (a : Option Addr) (c : Nat), k ≤ l.length ∧ i = .int .i64 k ∧ v = .slice a (Wp.uniq (l.take k)).length c ∧ wr.ownsMap Tryz.prog ST unitElem w.heap.size k (setU (Wp.uniq (l.take k))) ∧
    wr.ownsRow (w.heap.size + 1) ST 1 (.slice a (Wp.uniq (l.take k)).length c) (Wp.uniq (l.take k)).length (strsC (Wp.uniq (l.take k))) ∧ Below w.heap.size w wr ∧ w.heap.size + 1 ≤ wr.heap.size

theorem UqRel.old {w wr : World} {l : List ByteArray} {k : Nat} {a : Option Addr} {c : Nat} {o : Obj} (hk : k < l.length) (hh : Wp.has (Wp.uniq (l.take k)) l[k] = true)
    (hown : wr.ownsMap Tryz.prog ST unitElem w.heap.size k (setU (Wp.uniq (l.take k)))) (hrow : wr.ownsRow (w.heap.size + 1) ST 1 (.slice a (Wp.uniq (l.take k)).length c) (Wp.uniq (l.take k)).length (strsC (Wp.uniq (l.take k))))
    (hB : Below w.heap.size w wr) (hs : w.heap.size + 1 ≤ wr.heap.size) : UqRel w l (.slice a (Wp.uniq (l.take k)).length c) (.int .i64 ((k : Int) + 1)) (wr.alloc o) := by
  have e : Wp.uniq (l.take (k + 1)) = Wp.uniq (l.take k) := by rw [Wp.uniq_take hk, Wp.addU_old hh]
  refine ⟨k + 1, a, c, hk, by go_num, by rw [e], by rw [e]; exact (hown.alloc _).mono (Nat.le_succ _), by rw [e]; exact hrow.alloc _, hB.alloc hB.size _, by simp; omega⟩
theorem UqRel.new_ {w w1 w2 wr : World} {l : List ByteArray} {k : Nat} {a a2 : Option Addr} {c c2 : Nat} {o o2 : Obj} (hk : k < l.length) (hh : Wp.has (Wp.uniq (l.take k)) l[k] = false)
    (hrow : wr.ownsRow (w.heap.size + 1) ST 1 (.slice a (Wp.uniq (l.take k)).length c) (Wp.uniq (l.take k)).length (strsC (Wp.uniq (l.take k))))
    (hB : Below w.heap.size w wr) (hs : w.heap.size + 1 ≤ wr.heap.size)
    (hown1 : w1.ownsMap Tryz.prog ST unitElem w.heap.size (k + 1) ((setU (Wp.uniq (l.take k))).put (.string l[k].data.toList) (.agg []))) (hg1 : (wr.alloc o).grownBy w1 (some w.heap.size))
    (hrow2 : w2.ownsRow (w.heap.size + 1) ST 1 (.slice a2 ((Wp.uniq (l.take k)).length + 1) c2) ((Wp.uniq (l.take k)).length + 1) (strsC (Wp.uniq (l.take k)) ++ [.string l[k]])) (hg2 : (w1.alloc o2).grownBy w2 (Value.slice a (Wp.uniq (l.take k)).length c).ownBlock) :
    UqRel w l (.slice a2 ((Wp.uniq (l.take k)).length + 1) c2) (.int .i64 ((k : Int) + 1)) w2 := by
  have e : Wp.uniq (l.take (k + 1)) = Wp.uniq (l.take k) ++ [l[k]] := by rw [Wp.uniq_take hk, Wp.addU_new hh]
  have el : (Wp.uniq (l.take (k + 1))).length = (Wp.uniq (l.take k)).length + 1 := by rw [e]; simp
  have s1 := hg1.size
  have s2 := hg2.size
  simp at s1 s2
  refine ⟨k + 1, a2, c2, hk, by go_num, by rw [el], ?_, by rw [el, e, strsC_snoc]; exact hrow2, ?_, by omega⟩
  · rw [e, setU_snoc]
    exact (hown1.alloc _).kept hg2 (row_ne hrow (Nat.lt_succ_self _))
  · exact (((hB.alloc hB.size _).grown hg1 (by simp; omega) (fun j hj => by cases hj; exact Nat.le_refl _)).alloc (by omega) _).grown hg2 (by simp; omega) (fun j hj => Nat.le_trans (Nat.le_succ _) (hrow.lt j hj).1)

theorem run_makeMapH (n : Int) (w : World) : (Instr.makeMap 42 (some (.int .i64 n))).run Tryz.prog w = .ok (.map (some w.heap.size)) (w.alloc (.map #[] 0)) := by
  simp [Instr.makeMap, run_underlying Tryz.underlying42, asInt, asIntOf, Result.andThen]

set_option maxHeartbeats 2000000 in
theorem Unique_any (w : World) (v : Value) (l : List ByteArray) (hr : Rd w w.heap.size v (strsC l)) (hl : l.length ≤ 100000) (hs : ∀ x ∈ l, x.size ≤ 1000000) :
    Calls Tryz.prog 9 #[v] w fun e w' => ∃ a c, e = .returned (.slice a (Wp.uniq l).length c) ∧ w'.ownsRow (w.heap.size + 1) ST 1 (.slice a (Wp.uniq l).length c) (Wp.uniq l).length (strsC (Wp.uniq l)) ∧ Below w.heap.size w w' := by
  have hmm := run_makeMapH
  obtain ⟨i0, hi, hz0, hz1, hz2⟩ := info_parts infoS
  have HR := Lib.hid hr
  obtain ⟨a0, c0, rfl, hc0⟩ := hr.shape
  have HS := Lib.hid hs
  clear hs hr
  rw [strsC_len] at *
  go_enter Tryz.func9, Tryz.ntmps9
  go_wp2
  go_loopw [3, 14] (fun v i wr => UqRel w l v i wr) (fun _ i _ => l.length - (intOf i).toNat)
  case atStart => exact ⟨0, none, 0, Nat.zero_le _, rfl, rfl, World.ownsMap_made _ _ _ _, World.ownsRow_nil _ _ _ _, (Below.refl _ _).alloc (Nat.le_refl _) _, by simp⟩
  case round =>
    obtain ⟨k, a, c, hk, rfl, rfl, hown, hrow, hnx, hws⟩ := hrel
    by_cases hlt : k < l.length
    · obtain ⟨b, o, c', hv, hc', hb, hx⟩ := HR.out.open_ (by rw [strsC_len]; omega)
      simp only [strsC_len] at hv hc'
      obtain ⟨rfl, _, rfl⟩ := (Value.slice.injEq ..).mp hv
      have hcx : wr.cell? ⟨b, o + k, none⟩ = some (.string l[k]) := (hnx.cell (p := ⟨b, o + k, none⟩) hb).trans (hx k _ (strsC_get l hlt))
      have hkey : keyOf Tryz.prog ST (.string l[k]) = some (.string l[k].data.toList) := WideMaps.keyOf_string_mk Tryz.underlying9 (by have := HS.out _ (List.getElem_mem hlt); unfold maxLen; omega)
      have hul : (Wp.uniq (l.take k)).length ≤ k := by have := Wp.uniq_len (l.take k); rw [List.length_take] at this; omega
      have hhas := has_setU (Wp.uniq (l.take k)) l[k]
      clear hx
      cases hh : Wp.has (Wp.uniq (l.take k)) l[k] with
      | true =>
        rw [hh] at hhas
        have HN := Lib.hid fun o => @UqRel.old w wr l k a c o hlt hh hown hrow hnx hws
        clear hh
        go_wp2_with (at_lookup; refine wpList_lookup_own_unit _ rfl _ _ 42 rfl ST 43 lawS Tryz.underlying42 (zeroN _) w.heap.size k _ rfl hown _ _ rfl hkey ?_)
        go_roundw
        case rel => exact HN.out _
        case measure => simp [intOf]; omega
      | false =>
        rw [hh] at hhas
        have HN := Lib.hid fun o o2 w1 w2 a2 c2 => @UqRel.new_ w w1 w2 wr l k a a2 c c2 o o2 hlt hh hrow hnx hws
        clear hh
        go_wp2_with (first
          | (at_lookup; refine wpList_lookup_own_unit _ rfl _ _ 42 rfl ST 43 lawS Tryz.underlying42 (zeroN _) w.heap.size k _ rfl hown _ _ rfl hkey ?_)
          | (at_mapUpdate; refine wpList_mapUpdate_own _ rfl _ _ _ 42 rfl ST 43 lawS Tryz.underlying42 (unitElem (H := Unit)) w.heap.size k _ rfl (hown.alloc _) (by unfold maxLen; omega) _ _ _ rfl rfl hkey _ [] unitElem_mk ?_; intro w1 hown1 hgrow1)
          | (at_builtin; refine wpList_append_own _ rfl _ _ 22 rfl (w.heap.size + 1) ST i0 (.string ByteArray.empty) 1 16 Tryz.underlying22 hi hz0 hz1 hz2 rfl (by decide) _ _ _ rfl (((hrow.alloc _).kept hgrow1 (Or.inr (row_ne hrow (Nat.lt_succ_self _)).symm)).alloc _) ⟨w1.heap.size, 0, none⟩ 1 1 [.string l[k]] rfl rfl (cell_one_new _ _ _) (by simp [Value.oneCell']) (by unfold maxLen; omega) (by omega) (by have := hgrow1.size; simp at this ⊢; omega) ?_; intro v' w2 hown' hgrow2 _; obtain ⟨a2, c2, rfl⟩ := owns_slice hown'))
        go_roundw
        case rel => exact HN.out _ _ _ _ _ _ hown1 hgrow1 hown' hgrow2
        case measure => simp [intOf]; omega
    · obtain rfl : k = l.length := by omega
      rw [List.take_of_length_le (Nat.le_refl _)] at hrow
      have HW := Lib.hid hrow
      rw [List.take_of_length_le (Nat.le_refl _)]
      clear hrow hown
      go_wp2
      go_ret
      exact ⟨_, _, rfl, HW.out, hnx⟩
end Go.Proofs.YtenokbceamcekaaGreatDoor.Wu
