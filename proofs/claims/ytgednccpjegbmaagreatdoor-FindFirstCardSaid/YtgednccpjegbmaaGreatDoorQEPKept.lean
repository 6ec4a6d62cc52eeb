/-
  words.Unique: each element once, in the order of their first occurrences.
  package text: match, matcher: which words are of one of some patterns.
  package text: filter and filter-out.
-/
import Derived.Maps.OwnSet
import Derived.Test.YtgednccpjegbmaaGreatDoorQESorted
import Derived.Test.YtgednccpjegbmaaGreatDoorQTBase
import Derived.Test.YtgednccpjegbmaaGreatDoorQEPNum
import Derived.Test.YtgednccpjegbmaaGreatDoorQTPut
import Derived.Test.YtgednccpjegbmaaGreatDoorQEEach
import Derived.Laws.EntriesVeiled
namespace Go.Proofs.YtgednccpjegbmaaGreatDoor.Wu
open Go.RowKit Go.Maps Go.Proofs.YtgednccpjegbmaaGreatDoor Go.Proofs.YtgednccpjegbmaaGreatDoor.Ww
set_option maxRecDepth 100000

abbrev ST : TypeId := 9
theorem lawS : Keyed Tryz.prog ST := string_keyed Tryz.underlying9
theorem zeroN (w : World) : (zeroValue 57).run Tryz.prog w = .ok (.agg #[]) w := by kernel_rfl
theorem infoS : (Tryz.prog.info? ST).map (fun i => (i.zero, i.size, i.bytes)) = some (some (.string ByteArray.empty), 1, 16) := by kernel_rfl

/-- The set of the words that were met. -/
def setU (acc : List ByteArray) : DataW Unit := setOf (.agg []) (acc.map fun x => Lit.string x.data.toList)
theorem any_str (x : ByteArray) : ∀ l : List ByteArray, l.any ((fun y : Lit => y.sameKey (.string x.data.toList)) ∘ fun x => Lit.string x.data.toList) = Wp.has l x
  | [] => rfl
  | a :: r => by
    unfold Wp.has
    rw [List.any_cons, List.any_cons, any_str x r]
    congr 1
theorem has_setU (acc : List ByteArray) (x : ByteArray) : Maps.has (setU acc) (.string x.data.toList) = Wp.has acc x := by
  unfold setU
  rw [has_setOf _ _ _ (fun y hy => by obtain ⟨_, _, rfl⟩ := List.mem_map.1 hy; trivial), List.any_map]
  exact any_str x _
theorem setU_snoc (acc : List ByteArray) (x : ByteArray) : setU (acc ++ [x]) = (setU acc).put (.string x.data.toList) (.agg []) := by
  unfold setU
  rw [List.map_append, List.map_singleton, setOf_snoc]
theorem row_ne {w : World} {base : Nat} {e : TypeId} {size : Nat} {v : Value} {n : Nat} {xs : List Value} (h : w.ownsRow base e size v n xs) {b : Nat} (hb : b < base) : some b ≠ v.ownBlock := fun e1 => by
  have := (h.lt b e1.symm).1
  omega
theorem strsC_snoc (l : List ByteArray) (x : ByteArray) : strsC (l ++ [x]) = strsC l ++ [Value.string x] := by simp [strsC]

/-- What the loop's head knows. -/
def UqRel (w : World) (l : List ByteArray) (v i : Value) (wr : World) : Prop :=
  ∃ (k : Nat) (a : Option Addr) (c : Nat), k ≤ l.length ∧ i = .int .i64 k ∧ v = .slice a (Wp.uniq (l.take k)).length c ∧ wr.ownsMap Tryz.prog ST unitElem w.heap.size k (setU (Wp.uniq (l.take k))) ∧
    wr.ownsRow (w.heap.size + 1) ST 1 (.slice a (Wp.uniq (l.take k)).length c) (Wp.uniq (l.take k)).length (strsC (Wp.uniq (l.take k))) ∧ Below w.heap.size w wr ∧ w.heap.size + 1 ≤ wr.heap.size

theorem UqRel.old {w wr : World} {l : List ByteArray} {k : Nat} {a : Option Addr} {c : Nat} {o : Obj} (hk : k < l.length) (hh : Wp.has (Wp.uniq (l.take k)) l[k] = true)
    (hown : wr.ownsMap Tryz.prog ST unitElem w.heap.size k (setU (Wp.uniq (l.take k)))) (hrow : wr.ownsRow (w.heap.size + 1) ST 1 (.slice a (Wp.uniq (l.take k)).length c) (Wp.uniq (l.take k)).length (strsC (Wp.uniq (l.take k))))
    (hB : Below w.heap.size w wr) (hs : w.heap.size + 1 ≤ wr.heap.size) : UqRel w l (.slice a (Wp.uniq (l.take k)).length c) (.int .i64 ((k : Int) + 1)) (wr.alloc o) := by
  have e : Wp.uniq (l.take (k + 1)) = Wp.uniq (l.take k) := by rw [Wp.uniq_take hk, Wp.addU_old hh]
  refine ⟨k + 1, a, c, hk, by go_num, by rw [e], by rw [e]; exact (hown.alloc _).mono (Nat.le_succ _), by rw [e]; exact hrow.alloc _, hB.alloc hB.size _, by simp; omega⟩
theorem UqRel.new_ {w w1 w2 wr : World} {l : List ByteArray} {k : Nat} {a a2 : Option Addr} {c c2 : Nat} {o o2 : Obj} (hk : k < l.length) (hh : Wp.has (Wp.uniq (l.take k)) l[k] = false)
    (hrow : wr.ownsRow (w.heap.size + 1) ST 1 (.slice a (Wp.uniq (l.take k)).length c) (Wp.uniq (l.take k)).length (strsC (Wp.uniq (l.take k))))
    (hB : Below w.heap.size w wr) (hs : w.heap.size + 1 ≤ wr.heap.size)
    (hown1 : w1.ownsMap Tryz.prog ST unitElem w.heap.size (k + 1) ((setU (Wp.uniq (l.take k))).put (.string l[k].data.toList) (.agg []))) (hg1 : (wr.alloc o).grownBy w1 (some w.heap.size))
    (hrow2 : w2.ownsRow (w.heap.size + 1) ST 1 (.slice a2 ((Wp.uniq (l.take k)).length + 1) c2) ((Wp.uniq (l.take k)).length + 1) (strsC (Wp.uniq (l.take k)) ++ [.string l[k]])) (hg2 : (w1.alloc o2).grownBy w2 (Value.slice a (Wp.uniq (l.take k)).length c).ownBlock) :
    UqRel w l (.slice a2 ((Wp.uniq (l.take k)).length + 1) c2) (.int .i64 ((k : Int) + 1)) w2 := by
  have e : Wp.uniq (l.take (k + 1)) = Wp.uniq (l.take k) ++ [l[k]] := by rw [Wp.uniq_take hk, Wp.addU_new hh]
  have el : (Wp.uniq (l.take (k + 1))).length = (Wp.uniq (l.take k)).length + 1 := by rw [e]; simp
  have s1 := hg1.size
  have s2 := hg2.size
  simp at s1 s2
  refine ⟨k + 1, a2, c2, hk, by go_num, by rw [el], ?_, by rw [el, e, strsC_snoc]; exact hrow2, ?_, by omega⟩
  · rw [e, setU_snoc]
    exact (hown1.alloc _).kept hg2 (row_ne hrow (Nat.lt_succ_self _))
  · exact (((hB.alloc hB.size _).grown hg1 (by simp; omega) (fun j hj => by cases hj; exact Nat.le_refl _)).alloc (by omega) _).grown hg2 (by simp; omega) (fun j hj => Nat.le_trans (Nat.le_succ _) (hrow.lt j hj).1)

theorem run_makeMapH (n : Int) (w : World) : (Instr.makeMap 86 (some (.int .i64 n))).run Tryz.prog w = .ok (.map (some w.heap.size)) (w.alloc (.map #[] 0)) := by
  simp [Instr.makeMap, run_underlying Tryz.underlying86, asInt, asIntOf, Result.andThen]

set_option maxHeartbeats 2000000 in
theorem Unique_any (w : World) (v : Value) (l : List ByteArray) (hr : Rd w w.heap.size v (strsC l)) (hl : l.length ≤ 100000) (hs : ∀ x ∈ l, x.size ≤ 1000000) :
    Calls Tryz.prog 94 #[v] w fun e w' => ∃ a c, e = .returned (.slice a (Wp.uniq l).length c) ∧ w'.ownsRow (w.heap.size + 1) ST 1 (.slice a (Wp.uniq l).length c) (Wp.uniq l).length (strsC (Wp.uniq l)) ∧ Below w.heap.size w w' := by
  have hmm := run_makeMapH
  obtain ⟨i0, hi, hz0, hz1, hz2⟩ := info_parts infoS
  have HR := Lib.hid hr
  obtain ⟨a0, c0, rfl, hc0⟩ := hr.shape
  have HS := Lib.hid hs
  clear hs hr
  rw [strsC_len] at *
  go_enter Tryz.func94, Tryz.ntmps94
  go_wp2
  go_loopw [3, 14] (fun v i wr => UqRel w l v i wr) (fun _ i _ => l.length - (intOf i).toNat)
  case atStart => exact ⟨0, none, 0, Nat.zero_le _, rfl, rfl, World.ownsMap_made _ _ _ _, World.ownsRow_nil _ _ _ _, (Below.refl _ _).alloc (Nat.le_refl _) _, by simp⟩
  case round =>
    obtain ⟨k, a, c, hk, rfl, rfl, hown, hrow, hnx, hws⟩ := hrel
    by_cases hlt : k < l.length
    · obtain ⟨b, o, c', hv, hc', hb, hx⟩ := HR.out.open_ (by rw [strsC_len]; omega)
      simp only [strsC_len] at hv hc'
      obtain ⟨rfl, _, rfl⟩ := (Value.slice.injEq ..).mp hv
      have hcx : wr.cell? ⟨b, o + k, none⟩ = some (.string l[k]) := (hnx.cell (p := ⟨b, o + k, none⟩) hb).trans (hx k _ (strsC_get l hlt))
      have hkey : keyOf Tryz.prog ST (.string l[k]) = some (.string l[k].data.toList) := WideMaps.keyOf_string_mk Tryz.underlying9 (by have := HS.out _ (List.getElem_mem hlt); unfold maxLen; omega)
      have hul : (Wp.uniq (l.take k)).length ≤ k := by have := Wp.uniq_len (l.take k); rw [List.length_take] at this; omega
      have hhas := has_setU (Wp.uniq (l.take k)) l[k]
      clear hx
      cases hh : Wp.has (Wp.uniq (l.take k)) l[k] with
      | true =>
        rw [hh] at hhas
        have HN := Lib.hid fun o => @UqRel.old w wr l k a c o hlt hh hown hrow hnx hws
        clear hh
        go_wp2_with (at_lookup; refine wpList_lookup_own_unit _ rfl _ _ 86 rfl ST 57 lawS Tryz.underlying86 (zeroN _) w.heap.size k _ rfl hown _ _ rfl hkey ?_)
        go_roundw
        case rel => exact HN.out _
        case measure => simp [intOf]; omega
      | false =>
        rw [hh] at hhas
        have HN := Lib.hid fun o o2 w1 w2 a2 c2 => @UqRel.new_ w w1 w2 wr l k a a2 c c2 o o2 hlt hh hrow hnx hws
        clear hh
        go_wp2_with (first
          | (at_lookup; refine wpList_lookup_own_unit _ rfl _ _ 86 rfl ST 57 lawS Tryz.underlying86 (zeroN _) w.heap.size k _ rfl hown _ _ rfl hkey ?_)
          | (at_mapUpdate; refine wpList_mapUpdate_own _ rfl _ _ _ 86 rfl ST 57 lawS Tryz.underlying86 (unitElem (H := Unit)) w.heap.size k _ rfl (hown.alloc _) (by unfold maxLen; omega) _ _ _ rfl rfl hkey _ [] unitElem_mk ?_; intro w1 hown1 hgrow1)
          | (at_builtin; refine wpList_append_own _ rfl _ _ 76 rfl (w.heap.size + 1) ST i0 (.string ByteArray.empty) 1 16 Tryz.underlying76 hi hz0 hz1 hz2 rfl (by decide) _ _ _ rfl (((hrow.alloc _).kept hgrow1 (Or.inr (row_ne hrow (Nat.lt_succ_self _)).symm)).alloc _) ⟨w1.heap.size, 0, none⟩ 1 1 [.string l[k]] rfl rfl (cell_one_new _ _ _) (by simp [Value.oneCell']) (by unfold maxLen; omega) (by omega) (by have := hgrow1.size; simp at this ⊢; omega) ?_; intro v' w2 hown' hgrow2 _; obtain ⟨a2, c2, rfl⟩ := owns_slice hown'))
        go_roundw
        case rel => exact HN.out _ _ _ _ _ _ hown1 hgrow1 hown' hgrow2
        case measure => simp [intOf]; omega
    · obtain rfl : k = l.length := by omega
      rw [List.take_of_length_le (Nat.le_refl _)] at hrow
      have HW := Lib.hid hrow
      rw [List.take_of_length_le (Nat.le_refl _)]
      clear hrow hown
      go_wp2
      go_ret
      exact ⟨_, _, rfl, HW.out, hnx⟩
end Go.Proofs.YtgednccpjegbmaaGreatDoor.Wu
namespace Go.Proofs.YtgednccpjegbmaaGreatDoor.Ew
open Go.RowKit Go.Maps Go.Proofs.YtgednccpjegbmaaGreatDoor Go.Proofs.YtgednccpjegbmaaGreatDoor.Ww Go.Proofs.YtgednccpjegbmaaGreatDoor.Tw
set_option maxRecDepth 100000

abbrev MT : TypeId := 86
def matB (p x : ByteArray) : Bool := (Tp.matchA (by8 p) (by8 x)).isSome
def hasB (p : ByteArray) : Bool := (Tp.atA (by8 p)).isSome
theorem mat_long {p x : ByteArray} (h : x.size < p.size) : matB p x = false := by
  have hp : (by8 p).length = p.size := by8_len p
  have hx : (by8 x).length = x.size := by8_len x
  unfold matB Tp.matchA
  cases ha : Tp.atA (by8 p) with
  | none =>
    show (if by8 p = by8 x then some [] else none).isSome = false
    rw [if_neg (fun e => by rw [e] at hp; omega)]; rfl
  | some i =>
    have hi : i < (by8 p).length := by
      unfold Tp.atA at ha
      exact (List.findIdx?_eq_some_iff_getElem.1 ha).1
    show (if i + ((by8 p).drop (i + 1)).length < (by8 x).length ∧ _ ∧ _ then some _ else none).isSome = false
    rw [if_neg (fun e => by have h1 := e.1; rw [List.length_drop] at h1; omega)]; rfl
theorem mat_plain {p x : ByteArray} (h : hasB p = false) : matB p x = decide (p = x) := by
  unfold hasB at h
  unfold matB Tp.matchA
  cases ha : Tp.atA (by8 p) with
  | some i => rw [ha] at h; cases h
  | none =>
    show (if by8 p = by8 x then some [] else none).isSome = _
    by_cases e : p = x
    · subst e; rw [if_pos rfl, decide_eq_true rfl]; rfl
    · rw [if_neg (fun h => e (by8_ext h)), decide_eq_false e]; rfl
def patsS (P : List ByteArray) : List ByteArray := P.filter fun p => hasB p
def plainsS (P : List ByteArray) : List ByteArray := P.filter fun p => !hasB p
theorem of_parts (P : List ByteArray) (x : ByteArray) : ofS P x = (Wp.has (plainsS P) x || (patsS P).any fun p => matB p x) := by
  unfold ofS plainsS patsS
  induction P with
  | nil => rfl
  | cons p r ih =>
    rw [List.any_cons, ih]
    show (matB p x || _) = _
    cases h : hasB p with
    | true =>
      rw [List.filter_cons_of_neg (by rw [h]; decide), List.filter_cons_of_pos h, List.any_cons]
      cases matB p x <;> cases Wp.has (r.filter fun p => !hasB p) x <;> rfl
    | false =>
      rw [List.filter_cons_of_pos (by rw [h]; rfl), List.filter_cons_of_neg (by rw [h]; decide), mat_plain h]
      have e : Wp.has (p :: r.filter fun p => !hasB p) x = (decide (p = x) || Wp.has (r.filter fun p => !hasB p) x) := by
        unfold Wp.has
        rw [List.any_cons]
        congr 1
        by_cases e : p = x
        · subst e; rw [decide_eq_true rfl]; exact beq_self_eq_true _
        · rw [decide_eq_false e]; exact beq_eq_false_iff_ne.2 fun h => e (by8_ext h)
      rw [e, Bool.or_assoc]
set_option maxHeartbeats 2000000 in
theorem Pmatch_any (w : World) (p x : ByteArray) (hp : p.size ≤ 1000000) (hx : x.size ≤ 1000000) : Calls Tryz.prog 302 #[.string p, .string x] w fun e w' => e = .returned (.bool (matB p x)) ∧ Below w.heap.size w w' := by
  by_cases hlt : x.size < p.size
  · rw [mat_long hlt]
    have h1 : (x.size : Int) < (p.size : Int) := by omega
    go_enter Tryz.func302, Tryz.ntmps302
    go_wp2_with fail
    go_ret
    exact ⟨rfl, Below.refl _ _⟩
  · have h1 : ¬ (x.size : Int) < (p.size : Int) := by omega
    have HM := Lib.hid (Match_any w p x hp hx)
    unfold matB
    clear hlt
    cases hm : Tp.matchA (by8 p) (by8 x) with
    | none =>
      rw [hm] at HM
      simp only [mV] at HM
      go_enter Tryz.func302, Tryz.ntmps302
      go_wp2_with fail
      refine HM.out.mono ?_
      rintro e w1 ⟨rfl, B1⟩
      go_wp2_with fail
      go_ret
      exact ⟨rfl, B1⟩
    | some z =>
      rw [hm] at HM
      simp only [mV] at HM
      go_enter Tryz.func302, Tryz.ntmps302
      go_wp2_with fail
      refine HM.out.mono ?_
      rintro e w1 ⟨rfl, B1⟩
      go_wp2_with fail
      go_ret
      exact ⟨rfl, B1⟩

/-- What a matcher keeps: the plain words in a map, the patterns in a slice, both in boxes. -/
structure MAt (B : Nat) (W : World) (v : Value) (Q N : List ByteArray) (k : Nat) : Prop where
  box : Boxed W (B + 1) MT (.map (some B))
  map : W.ownsMap Tryz.prog ST unitElem B k (Wu.setU N)
  sbox : Boxed W (B + 1 + 1) LT v
  row : W.ownsRow (B + 3) ST 1 v Q.length (strsC Q)
theorem own_map_below {w w' : World} {b n : Nat} {D : DataW Unit} (h : w.ownsMap Tryz.prog ST unitElem b n D) (hB : Below w.heap.size w w') : w'.ownsMap Tryz.prog ST unitElem b n D := by
  have hl := h.lt
  obtain ⟨es, clock, hh, r⟩ := h
  exact ⟨es, clock, (hB.block b hl).trans hh, r⟩
theorem MAt.below {B : Nat} {W W' : World} {v : Value} {Q N : List ByteArray} {k : Nat} (h : MAt B W v Q N k) (hB : Below W.heap.size W W') : MAt B W' v Q N k :=
  ⟨(hB.block _ h.box.lt).trans h.box, own_map_below h.map hB, (hB.block _ h.sbox.lt).trans h.sbox, owns_below h.row hB⟩
theorem MAt.pat {B : Nat} {W W1 : World} {v v' : Value} {Q N : List ByteArray} {k : Nat} {x : ByteArray} {o : Obj} (h : MAt B W v Q N k) (hown : W1.ownsRow (B + 3) ST 1 v' (Q.length + 1) (strsC Q ++ [.string x])) (hg : (W.alloc o).grownBy W1 v.ownBlock) :
    Boxed W1 (B + 1 + 1) LT v ∧ MAt B (W1.setCell ⟨B + 1 + 1, 0, none⟩ v') v' (Q ++ [x]) N (k + 1) ∧ Below B W (W1.setCell ⟨B + 1 + 1, 0, none⟩ v') := by
  have hs := h.sbox.lt
  obtain ⟨hv1, hv2, _, _, hb2⟩ := h.sbox.appended (by decide) (owns_weaken h.row (Nat.le_add_right B 3)) (by omega) (by omega) (owns_weaken hown (Nat.le_add_right B 3)) hg
  have hne : ∀ b, b < B + 3 → some b ≠ v.ownBlock := fun b hb e => by have := (h.row.lt _ e.symm).1; omega
  refine ⟨hv1, ⟨?_, ?_, hv2, ?_⟩, hb2⟩
  · exact ((h.box.alloc o).kept hg (fun e => hne _ (by omega) e)).other (by omega) v'
  · exact (((h.map.alloc o).kept hg (hne _ (by omega))).kept (grownBy_setCell' W1 (B + 1 + 1) v') (fun e => by have := Option.some.inj e; omega)).mono (Nat.le_succ _)
  · rw [List.length_append, show strsC (Q ++ [x]) = strsC Q ++ [.string x] by simp [strsC]]
    exact hown.kept (grownBy_setCell' W1 (B + 1 + 1) v') (.inr (hv1.not_row (by decide) hown).symm)
theorem MAt.plain {B : Nat} {W W1 : World} {v : Value} {Q N : List ByteArray} {k : Nat} {x : ByteArray} (h : MAt B W v Q N k) (hown : W1.ownsMap Tryz.prog ST unitElem B (k + 1) ((Wu.setU N).put (.string x.data.toList) (.agg []))) (hg : W.grownBy W1 (some B)) :
    MAt B W1 v Q (N ++ [x]) (k + 1) := by
  refine ⟨h.box.kept hg (fun e => by have := Option.some.inj e; omega), by rw [Wu.setU_snoc]; exact hown, h.sbox.kept hg (fun e => by have := Option.some.inj e; omega), h.row.kept hg (.inr fun e => ?_)⟩
  have := (h.row.lt _ e).1; omega
def MaRel (w : World) (P : List ByteArray) (vi : Value) (wr : World) : Prop :=
  ∃ (k : Nat) (v : Value), vi = .int .i64 (k : Int) ∧ k ≤ P.length ∧ MAt w.heap.size wr v (patsS (P.take k)) (plainsS (P.take k)) k ∧ Below w.heap.size w wr
theorem pats_take {P : List ByteArray} {k : Nat} (h : k < P.length) : patsS (P.take (k + 1)) = if hasB P[k] = true then patsS (P.take k) ++ [P[k]] else patsS (P.take k) := by
  unfold patsS
  rw [List.take_succ_eq_append_getElem h, List.filter_append]
  by_cases e : hasB P[k] = true
  · rw [if_pos e, List.filter_cons_of_pos e]; rfl
  · rw [if_neg e, List.filter_cons_of_neg e]; simp
theorem plains_take {P : List ByteArray} {k : Nat} (h : k < P.length) : plainsS (P.take (k + 1)) = if hasB P[k] = true then plainsS (P.take k) else plainsS (P.take k) ++ [P[k]] := by
  unfold plainsS
  rw [List.take_succ_eq_append_getElem h, List.filter_append]
  by_cases e : hasB P[k] = true
  · rw [if_pos e, List.filter_cons_of_neg (by rw [e]; decide)]; simp
  · rw [if_neg e, List.filter_cons_of_pos (by rw [Bool.not_eq_true] at e; rw [e]; rfl)]; rfl
theorem pats_len (P : List ByteArray) : (patsS P).length ≤ P.length := List.length_filter_le _ _
theorem run_mk (w : World) : (Instr.makeMap MT none).run Tryz.prog w = .ok (.map (some w.heap.size)) (w.alloc (.map #[] 0))   := run_makeMap _ _
set_option maxHeartbeats 4000000 in
theorem matcher_any (w : World) (v : Value) (P : List ByteArray) (hr : Rd w w.heap.size v (strsC P)) (hl : P.length ≤ 100000) (hs : ∀ p ∈ P, p.size ≤ 100000) :
    Calls Tryz.prog 286 #[v] w fun e w' => e = .returned (.func (.func 299) #[] #[.pointer (some ⟨w.heap.size + 1, 0, none⟩), .pointer (some ⟨w.heap.size + 1 + 1, 0, none⟩)]) ∧ (∃ v k, MAt w.heap.size w' v (patsS P) (plainsS P) k) ∧ Below w.heap.size w w' := by
  have hmm := run_mk
  obtain ⟨i0, hi, hz0, hz1, hz2⟩ := info_parts infoS
  have HR := Lib.hid hr
  have HS := Lib.hid hs
  obtain ⟨a0, c0, rfl, hc0⟩ := hr.shape
  rw [strsC_len] at *
  clear hr hs
  go_enter Tryz.func286, Tryz.ntmps286
  go_wp2_with fail
  go_loopw [6, 10] (fun _ vi wr => MaRel w P vi wr) (fun _ vi _ => P.length - (intOf vi).toNat)
  case atStart =>
    refine ⟨0, .slice none 0 0, rfl, Nat.zero_le _, ⟨?_, ?_, ?_, World.ownsRow_nil _ _ _ _⟩, (((Below.refl _ _).alloc (Nat.le_refl _) _).alloc (by simp) _).alloc (by simp; omega) _⟩
    · have := (Boxed.new (w.alloc (.map #[] 0)) MT (.map (some w.heap.size))).alloc (.cells #[.slice none 0 0] LT)
      rwa [World.size_alloc] at this
    · exact ((World.ownsMap_made w Tryz.prog ST unitElem).alloc _).alloc _
    · have := Boxed.new ((w.alloc (.map #[] 0)).alloc (.cells #[.map (some w.heap.size)] MT)) LT (.slice none 0 0)
      rwa [World.size_alloc, World.size_alloc] at this
  case round =>
    obtain ⟨k, v, rfl, hk, hM, hB⟩ := hrel
    have HMM := Lib.hid hM
    have HB := Lib.hid hB
    by_cases hlt : k < P.length
    · obtain ⟨b, o, c', hv, hc', hb, hx⟩ := HR.out.open_ (by rw [strsC_len]; omega)
      rw [strsC_len] at hv hc'
      obtain ⟨rfl, _, rfl⟩ := (Value.slice.injEq ..).mp hv
      have hcx : wr.cell? ⟨b, o + k, none⟩ = some (.string P[k]) := (hB.cell (p := ⟨b, o + k, none⟩) hb).trans (hx k _ (strsC_get P hlt))
      have hki : (k : Int) < P.length := by omega
      have hk0 : (0 : Int) ≤ (k : Int) := Int.natCast_nonneg _
      have hgv : P.length ≤ c0 := by omega
      have hps := HS.out _ (List.getElem_mem hlt)
      have HC : Hid (Calls Tryz.prog 133 #[.string P[k]] wr fun e w' => e = .returned (.bool (hasB P[k])) ∧ Below wr.heap.size wr w') := Lib.hid (Has_any wr P[k] (by omega))
      have HP := Lib.hid (pats_take hlt)
      have HN := Lib.hid (plains_take hlt)
      have hpl := pats_len (P.take k)
      rw [List.length_take] at hpl
      clear hx hv hM hB
      generalize P[k] = x at *
      cases hq : hasB x with
      | true =>
        rw [hq] at HC HP HN
        rw [if_pos rfl] at HP HN
        clear hq
        go_wp2_with fail
        refine HC.out.mono ?_
        rintro e w3 ⟨rfl, B3⟩
        have HM3 := Lib.hid (HMM.out.below B3)
        have HB3 := Lib.hid (HB.out.trans (B3.mono HB.out.size))
        have c3 := HM3.out.sbox.cell
        have hs3 := HM3.out.sbox.lt
        clear B3
        go_wp2_with (at_builtin; refine wpList_append_own _ rfl _ _ LT rfl (w.heap.size + 3) ST i0 (.string ByteArray.empty) 1 16 Tryz.underlying76 hi hz0 hz1 hz2 rfl (by decide) _ _ _ rfl (HM3.out.row.alloc _) ⟨w3.heap.size, 0, none⟩ 1 1 [.string x] rfl rfl (cell_one_new _ _ _) (by simp [Value.oneCell']) (by unfold maxLen; omega) (by omega) (by simp; omega) ?_; intro v' w5 hown' hgrow _; obtain ⟨a5, c5, rfl⟩ := owns_slice hown'; obtain ⟨hv5, hM5, hB5⟩ := HM3.out.pat hown' hgrow; have c5' := hv5.cell; have f5 := hv5.frozen; have HM5 := Lib.hid hM5; have HB5 := Lib.hid (HB3.out.trans hB5); clear hv5 hM5 hB5 hown' hgrow)
        go_roundw
        case rel => exact ⟨k + 1, _, by go_num, hlt, by rw [HP.out, HN.out]; exact HM5.out, HB5.out⟩
        case measure => simp [intOf]; omega
      | false =>
        rw [hq] at HC HP HN
        rw [if_neg (by decide)] at HP HN
        clear hq
        go_wp2_with fail
        refine HC.out.mono ?_
        rintro e w3 ⟨rfl, B3⟩
        have HM3 := Lib.hid (HMM.out.below B3)
        have HB3 := Lib.hid (HB.out.trans (B3.mono HB.out.size))
        have c3 := HM3.out.box.cell
        have hkey : keyOf Tryz.prog ST (.string x) = some (.string x.data.toList) := WideMaps.keyOf_string_mk Tryz.underlying9 (by unfold maxLen; omega)
        clear B3
        go_wp2_with (at_mapUpdate; refine wpList_mapUpdate_own _ rfl _ _ _ MT rfl ST 57 Wu.lawS Tryz.underlying86 (unitElem (H := Unit)) w.heap.size k _ rfl HM3.out.map (by unfold maxLen; omega) _ _ _ rfl rfl hkey _ [] unitElem_mk ?_; intro w5 hown5 hgrow5; have HM5 := Lib.hid (HM3.out.plain hown5 hgrow5); have HB5 := Lib.hid (HB3.out.grown hgrow5 HB3.out.size (fun j ej => by cases ej; exact Nat.le_refl _)); clear hown5 hgrow5)
        go_roundw
        case rel => exact ⟨k + 1, _, by go_num, hlt, by rw [HP.out, HN.out]; exact HM5.out, HB5.out⟩
        case measure => simp [intOf]; omega
    · obtain rfl : k = P.length := by omega
      have hki : ¬ (P.length : Int) < P.length := by omega
      clear hM hB
      go_wp2_with fail
      go_ret
      refine ⟨rfl, ⟨v, P.length, ?_⟩, HB.out⟩
      have := HMM.out
      rwa [List.take_of_length_le (Nat.le_refl _)] at this
theorem matcher11_any (w : World) (b : Nat) (p x : ByteArray) (hb : w.cell? ⟨b, 0, none⟩ = some (.string x)) (hp : p.size ≤ 1000000) (hx : x.size ≤ 1000000) :
    Calls Tryz.prog 301 #[.string p, .pointer (some ⟨b, 0, none⟩)] w fun e w' => e = .returned (.bool (matB p x)) ∧ Below w.heap.size w w' := by
  have HC := Lib.hid (Pmatch_any w p x hp hx)
  generalize matB p x = q at *
  go_enter Tryz.func301, Tryz.ntmps301
  go_wp2_with fail
  refine HC.out.mono ?_
  rintro e w1 ⟨rfl, B1⟩
  go_wp2_with fail
  go_ret
  exact ⟨rfl, B1⟩
theorem eg_match11 : ∀ args w, (callFunc 301 args).run Tryz.prog w = .ok (.enter 301 args) w := enters_of Tryz.func301 (by kernel_rfl) rfl
set_option maxHeartbeats 4000000 in
theorem matcher1_any (w : World) (B : Nat) (v : Value) (P : List ByteArray) (k : Nat) (x : ByteArray) (hM : MAt B w v (patsS P) (plainsS P) k) (hl : P.length ≤ 100000) (hs : ∀ p ∈ P, p.size ≤ 100000) (hx : x.size ≤ 100000) :
    Calls Tryz.prog 299 #[.string x, .pointer (some ⟨B + 1, 0, none⟩), .pointer (some ⟨B + 1 + 1, 0, none⟩)] w fun e w' => e = .returned (.bool (ofS P x)) ∧ Below w.heap.size w w' := by
  rw [of_parts]
  have c1 := hM.box.cell
  have c2 := hM.sbox.cell
  have l1 := hM.box.lt
  have l2 := hM.sbox.lt
  have HM := Lib.hid hM
  have hmap := hM.map
  have hkey : keyOf Tryz.prog ST (.string x) = some (.string x.data.toList) := WideMaps.keyOf_string_mk Tryz.underlying9 (by unfold maxLen; omega)
  have hhas := Wu.has_setU (plainsS P) x
  have hpl := pats_len P
  have HCF : Hid (∀ W (b : Nat), Below w.heap.size w W → W.cell? ⟨b, 0, none⟩ = some (.string x) → b < W.heap.size → Calls Tryz.prog 300 #[v, .func (.func 301) #[] #[.pointer (some ⟨b, 0, none⟩)]] W fun e w' => e = .returned (.bool ((patsS P).any fun p => matB p x)) ∧ Below W.heap.size W w') := Lib.hid fun W b hW hc hb =>
    PContainsFunc_any W v (patsS P) (fun p => matB p x) 301 #[.pointer (some ⟨b, 0, none⟩)] eg_match11 (Rd.of_own (hM.below hW).row) (by omega) (fun W' p hp hW' => matcher11_any W' b p x ((hW'.cell (p := ⟨b, 0, none⟩) hb).trans hc) (by have := hs p (List.mem_filter.1 hp).1; omega) (by omega))
  clear hM hs
  obtain ⟨va, vc, rfl⟩ := owns_slice HM.out.row
  generalize ((patsS P).any fun p => matB p x) = q at *
  cases hh : Wp.has (plainsS P) x with
  | true =>
    rw [hh] at hhas
    clear hh
    go_enter Tryz.func299, Tryz.ntmps299
    go_wp2_with (at_lookup; refine wpList_lookup_own_unit _ rfl _ _ MT rfl ST 57 Wu.lawS Tryz.underlying86 (Wu.zeroN _) B k _ rfl (hmap.alloc _) _ _ rfl hkey ?_)
    go_ret
    exact ⟨rfl, ((Below.refl _ _).alloc (Nat.le_refl _) _).alloc (by simp) _⟩
  | false =>
    rw [hh] at hhas
    clear hh
    go_enter Tryz.func299, Tryz.ntmps299
    go_wp2_with (at_lookup; refine wpList_lookup_own_unit _ rfl _ _ MT rfl ST 57 Wu.lawS Tryz.underlying86 (Wu.zeroN _) B k _ rfl (hmap.alloc _) _ _ rfl hkey ?_)
    have hA : Below w.heap.size w ((w.alloc (.cells #[.string x] ST)).alloc (.cells #[] 57)) := ((Below.refl _ _).alloc (Nat.le_refl _) _).alloc (by simp) _
    refine (HCF.out _ _ hA (by simp) (by simp; omega)).mono ?_
    rintro e w1 ⟨rfl, B1⟩
    go_wp2_with fail
    go_ret
    exact ⟨rfl, hA.trans (B1.mono hA.size)⟩
end Go.Proofs.YtgednccpjegbmaaGreatDoor.Ew
namespace Go.Proofs.YtgednccpjegbmaaGreatDoor.Ew
open Go.RowKit Go.Shelf Go.Proofs.YtgednccpjegbmaaGreatDoor Go.Proofs.YtgednccpjegbmaaGreatDoor.Ww Go.Proofs.YtgednccpjegbmaaGreatDoor.Tw
attribute [local go_sem] Oper.semAt_some
set_option maxRecDepth 100000

abbrev FB : TypeId := 46
/-- What the loop's head knows: the words so far, in a box; the text, in its box. B: where the loop's own blocks begin. -/
def KeI (w2 : World) (cl : Value) (s : ByteArray) (P : List ByteArray) (q : Bool) (pre : List (Nat × Nat)) (W : World) : Prop :=
  (∃ v, Boxed W (w2.heap.size + 1) LT v ∧ W.ownsRow (w2.heap.size + 3) ST 1 v (keptS P q (pre.map (Ww.part s))).length (strsC (keptS P q (pre.map (Ww.part s)))) ∧ True) ∧ Boxed W (w2.heap.size + 1 + 1) ST (.string s) ∧ Boxed W w2.heap.size FB cl ∧ Below w2.heap.size w2 W
theorem KeI.own (w2 : World) (cl : Value) (s : ByteArray) (P : List ByteArray) (q : Bool) (B : Nat) (hB : w2.heap.size ≤ B) : OwnFrom B (KeI w2 cl s P q) :=
  OwnFrom.and (Own.from (holdsRow_own (w2.heap.size + 3) (w2.heap.size + 1) LT ST 1 (fun pre : List (Nat × Nat) => (keptS P q (pre.map (Ww.part s))).length) (fun pre => strsC (keptS P q (pre.map (Ww.part s)))) (fun _ _ => True)) _)
    (OwnFrom.and (Own.from (boxed_own (w2.heap.size + 1 + 1) ST (fun _ : List (Nat × Nat) => .string s)) _) (OwnFrom.and (Own.from (boxed_own w2.heap.size FB (fun _ : List (Nat × Nat) => cl)) _) (ownFrom_below (Nat.le_refl _) hB)))
theorem kept_snoc (P : List ByteArray) (q : Bool) (l : List ByteArray) (x : ByteArray) : keptS P q (l ++ [x]) = keptS P q l ++ (if ofS P x = q then [x] else []) := by
  unfold keptS
  rw [List.filter_append]
  congr 1
  by_cases h : ofS P x = q
  · rw [if_pos h, List.filter_cons_of_pos (by rw [h]; exact beq_self_eq_true q)]; rfl
  · rw [if_neg h, List.filter_cons_of_neg (by rw [beq_iff_eq]; exact h)]; rfl
/-- One word more that is kept. -/
theorem KeI.next {w2 W w5 w6 : World} {s : ByteArray} {P : List ByteArray} {q : Bool} {pre : List (Nat × Nat)} {x : Nat × Nat} {v cl : Value} {a2 : Option Addr} {c2 n : Nat} {o : Obj} (hn : (keptS P q (pre.map (Ww.part s))).length = n) (hv : Boxed W (w2.heap.size + 1) LT v)
    (hrow : W.ownsRow (w2.heap.size + 3) ST 1 v n (strsC (keptS P q (pre.map (Ww.part s))))) (hs1 : Boxed W (w2.heap.size + 1 + 1) ST (.string s)) (hcl : Boxed W w2.heap.size FB cl) (hB : Below w2.heap.size w2 W) (B5 : Below W.heap.size W w5) (hq : ofS P (Ww.part s x) = q)
    (hown : w6.ownsRow (w2.heap.size + 3) ST 1 (.slice a2 (n + 1) c2) (n + 1) (strsC (keptS P q (pre.map (Ww.part s))) ++ [.string (Ww.part s x)])) (hgrow : (w5.alloc o).grownBy w6 v.ownBlock) :
    Boxed w6 (w2.heap.size + 1) LT v ∧ KeepsOthers W (w6.setCell ⟨w2.heap.size + 1, 0, none⟩ (.slice a2 (n + 1) c2)) ∧ KeepB (w2.heap.size + 1 + 1) W (w6.setCell ⟨w2.heap.size + 1, 0, none⟩ (.slice a2 (n + 1) c2)) ∧ KeI w2 cl s P q (pre ++ [x]) (w6.setCell ⟨w2.heap.size + 1, 0, none⟩ (.slice a2 (n + 1) c2)) := by
  have hv5 : Boxed w5 (w2.heap.size + 1) LT v := (B5.block _ hv.lt).trans hv
  have hs5 : Boxed w5 (w2.heap.size + 1 + 1) ST (.string s) := (B5.block _ hs1.lt).trans hs1
  have hrow5 := owns_below hrow B5
  have hB5 : Below w2.heap.size w2 w5 := hB.trans (B5.mono hB.size)
  obtain ⟨hv1, hv2, _, hk2, hb2⟩ := hv5.appended (by decide) (owns_weaken hrow5 (Nat.le_add_right _ 3)) hB5.size (Nat.le_add_right _ 1) (owns_weaken hown (Nat.le_add_right _ 3)) hgrow
  have hr2 := hown.kept (grownBy_setCell' w6 (w2.heap.size + 1) (.slice a2 (n + 1) c2)) (.inr (hv1.not_row (by decide) hown).symm)
  have hcl5 : Boxed w5 w2.heap.size FB cl := (B5.block _ hcl.lt).trans hcl
  have hcl2 := ((hcl5.alloc o).kept hgrow (fun e => by have := (hrow5.lt _ e.symm).1; omega)).other (B' := w2.heap.size + 1) (by omega) (.slice a2 (n + 1) c2)
  have hs2 := ((hs5.alloc o).kept hgrow (fun e => by have := (hrow5.lt _ e.symm).1; omega)).other (B' := w2.heap.size + 1) (by omega) (.slice a2 (n + 1) c2)
  refine ⟨hv1, (keeps_below B5).trans hk2, hs2.trans hs1.symm, ⟨_, hv2, ?_, trivial⟩, hs2, hcl2, hB5.trans hb2⟩
  rw [List.map_append, List.map_singleton, kept_snoc, if_pos hq, List.length_append, hn]
  simpa [strsC] using hr2
/-- One word more that isn't. -/
theorem KeI.skip {w2 W w5 : World} {s : ByteArray} {P : List ByteArray} {q : Bool} {pre : List (Nat × Nat)} {x : Nat × Nat} {v cl : Value} {n : Nat} (hn : (keptS P q (pre.map (Ww.part s))).length = n) (hv : Boxed W (w2.heap.size + 1) LT v)
    (hrow : W.ownsRow (w2.heap.size + 3) ST 1 v n (strsC (keptS P q (pre.map (Ww.part s))))) (hs1 : Boxed W (w2.heap.size + 1 + 1) ST (.string s)) (hcl : Boxed W w2.heap.size FB cl) (hB : Below w2.heap.size w2 W) (B5 : Below W.heap.size W w5) (hq : ¬ ofS P (Ww.part s x) = q) :
    KeepsOthers W w5 ∧ KeepB (w2.heap.size + 1 + 1) W w5 ∧ KeI w2 cl s P q (pre ++ [x]) w5 := by
  have hv5 : Boxed w5 (w2.heap.size + 1) LT v := (B5.block _ hv.lt).trans hv
  have hs5 : Boxed w5 (w2.heap.size + 1 + 1) ST (.string s) := (B5.block _ hs1.lt).trans hs1
  refine ⟨keeps_below B5, B5.block _ hs1.lt, ⟨v, hv5, ?_, trivial⟩, hs5, (B5.block _ hcl.lt).trans hcl, hB.trans (B5.mono hB.size)⟩
  rw [List.map_append, List.map_singleton, kept_snoc, if_neg hq, List.append_nil, hn]
  exact owns_below hrow B5
set_option maxHeartbeats 4000000 in
theorem filter1_any (w : World) (pt s : ByteArray) (hp : pt.size ≤ 9000) (hs : s.size ≤ 9000) (cb : Nat) (q : Bool) (hbox : Boxed w cb 4 (.bool q)) :
    Calls Tryz.prog 285 #[.string pt, .string s, .pointer (some ⟨cb, 0, none⟩)] w fun e w' => e = .returned (.string (joinS (keptS (wordsS pt) q (wordsS s)))) ∧ Below w.heap.size w w' := by
  obtain ⟨i0, hi, hz0, hz1, hz2⟩ := info_parts infoS
  have hil := items_size s
  have hwp := words_few pt
  have hmx : Tryz.prog.follows .mixedOrders = true := by kernel_rfl
  have HBX := Lib.hid hbox
  have HSp := Lib.hid (PSplit_any w pt (by omega))
  have HSz : Hid (∀ p ∈ wordsS pt, p.size ≤ 100000) := Lib.hid fun p h => by have := words_size h; omega
  have HSw : Hid (∀ p ∈ wordsS s, p.size ≤ 100000) := Lib.hid fun p h => by have := words_size h; omega
  generalize wordsS pt = P at *
  have HE : Hid ((Wp.items (by8 s)).map (Ww.part s) = wordsS s) := Lib.hid rfl
  have hwl := words_few s
  clear hbox
  refine (callsIn_wide (n := 9)).1 ?_
  refine callsIn_of_wp_marks Tryz.func285 rfl trivial ?_ rfl
  simp only [Tryz.ntmps285, List.size_toArray, List.length_cons, List.length_nil, Nat.reduceAdd, Nat.reduceSub, Array.replicate_succ, Array.replicate_zero, List.push_toArray, List.append_toArray, List.nil_append, List.cons_append]
  gi_wp2_with (first
    | (refine ⟨trivial, ?_⟩; gi_at_call 149; refine (callsIn_wide.2 HSp.out).mono ?_; rintro e w1 ⟨a1, c1, rfl, HO1, B1⟩; have HB1 := Lib.hid B1; have HMr := Lib.hid (matcher_any w1 (.slice a1 P.length c1) P (Rd.of_own HO1.out) (by omega) HSz.out); clear B1)
    | (refine ⟨trivial, ?_⟩; gi_at_call 286; refine (callsIn_wide.2 HMr.out).mono ?_; rintro e w2 ⟨rfl, hM2, B2⟩; obtain ⟨vm, km, hM2⟩ := hM2; have HM2 := Lib.hid hM2; have HB2 := Lib.hid (HB1.out.trans (B2.mono HB1.out.size)); clear hM2 B2)
    | (refine ⟨trivial, ?_⟩; gi_at_call 152; refine (callsIn_wide.2 (Ww.Each_any _ s)).mono ?_; rintro e w' ⟨rfl, rfl⟩))
  obtain ⟨cl, HCL⟩ : ∃ cl : Value, Hid (cl = .func (.func 299) #[] #[.pointer (some ⟨w1.heap.size + 1, 0, none⟩), .pointer (some ⟨w1.heap.size + 1 + 1, 0, none⟩)]) := ⟨_, Lib.hid rfl⟩
  have k0 := Boxed.new w2 FB cl
  have k1 := Boxed.new (w2.alloc (.cells #[cl] FB)) LT (.slice none 0 0)
  have k2 := Boxed.new ((w2.alloc (.cells #[cl] FB)).alloc (.cells #[.slice none 0 0] LT)) ST (.string s)
  simp only [World.size_alloc] at k1 k2
  have hB0 : Below w2.heap.size w2 (((w2.alloc (.cells #[cl] FB)).alloc (.cells #[.slice none 0 0] LT)).alloc (.cells #[.string s] ST)) := (((Below.refl _ w2).alloc (Nat.le_refl _) _).alloc (by simp) _).alloc (by simp; omega) _
  rw [← HCL.out]
  refine range_law (by omega) (gf := 202) (lb := #[.pointer (some ⟨w2.heap.size + 1 + 1, 0, none⟩)]) rfl (enters_of Tryz.func202 (by kernel_rfl) rfl)
    (each_iters _ (by omega) (w2.heap.size + 1 + 1) s (by omega) _ k2) mineE_keeps (keepB_trans _) (keepB_put (by simp)) (fun _ => rfl)
    (KeI w2 cl s P q) (fun _ _ _ => False) (KeI.own w2 cl s P q _ (by simp; omega)) (fun _ _ _ _ _ h _ _ => h) (fun _ X Y h e => by cases e; exact h)
    ⟨⟨_, k1.alloc _, World.ownsRow_nil _ _ _ _, trivial⟩, k2, (k0.alloc _).alloc _, hB0⟩
    ?a1 ?assign ?body ?done ?stop
  case assign =>
    intro l x W K hK
    gi_wp2
    exact hK
  case body =>
    rintro l pre x W ⟨⟨v, hv, hrow, _⟩, hs1, hcl, hB⟩ hsp
    have hpl : (pre ++ [x]).length ≤ (Wp.items (by8 s)).length := hsp.length_le
    simp only [List.length_append, List.length_singleton] at hpl
    have hkl := kept_len P q (pre.map (Ww.part s))
    rw [List.length_map] at hkl
    obtain ⟨n, HNn⟩ : ∃ n, Hid ((keptS P q (pre.map (Ww.part s))).length = n) := ⟨_, Lib.hid rfl⟩
    rw [HNn.out] at hrow hkl
    have HWB := Lib.hid (HB2.out.trans (hB.mono HB2.out.size))
    have hcb : Boxed W cb 4 (.bool q) := (HWB.out.block _ HBX.out.lt).trans HBX.out
    have ccb := hcb.cell
    have ccl := hcl.cell
    rw [HCL.out] at ccl
    have HM := Lib.hid (HM2.out.below hB)
    have hps := part_size s x
    have HC := Lib.hid (matcher1_any W.drew w1.heap.size vm P km (Ww.part s x) (HM.out.below (Below.refl _ W).drew) (by omega) HSz.out (by omega))
    have HV := Lib.hid hv
    have HRow := Lib.hid hrow
    have HNx := Lib.hid fun w5 w6 a2 c2 o => @KeI.next w2 W w5 w6 s P q pre x v cl a2 c2 n o HNn.out hv hrow hs1 hcl hB
    have HSk := Lib.hid fun w5 => @KeI.skip w2 W w5 s P q pre x v cl n HNn.out hv hrow hs1 hcl hB
    have hws : w2.heap.size + 3 ≤ W.heap.size := hs1.lt
    clear hrow hv hs1 hcl hB k0 k1 k2 hB0 hcb
    obtain ⟨b, HBb⟩ : ∃ b, Hid (ofS P (Ww.part s x) = b) := ⟨_, Lib.hid rfl⟩
    rw [HBb.out] at HC HNx HSk
    generalize Ww.part s x = r at *
    by_cases hbq : b = q
    · subst hbq
      gi_wp2
      gi_region_with_o (refine ⟨trivial, ?_⟩; gi_at_call 299; refine (CallsIn.inRound l (callsIn_wide.2 HC.out)).mono ?_; rintro e w5 ⟨rfl, B5⟩; have ccb5 := (B5.cell (p := ⟨cb, 0, none⟩) (by have h1 := HBX.out.lt; have h2 := HWB.out.size; show cb < W.heap.size; omega)).trans ccb; have HB5 := Lib.hid (((Below.refl W.heap.size W).drew).trans B5); have HRow5 := Lib.hid (owns_below HRow.out HB5.out); have hv5 : Boxed w5 (w2.heap.size + 1) LT v := (HB5.out.block _ HV.out.lt).trans HV.out; have cv5 := hv5.cell; have hs5 := HB5.out.size; clear hv5 B5)
      all_goals (gi_wp2_with (gi_at_builtin; refine wpListIn_append_own _ rfl _ _ LT rfl (w2.heap.size + 3) ST i0 (.string ByteArray.empty) 1 16 Tryz.underlying76 hi hz0 hz1 hz2 rfl (by decide) _ _ _ rfl (HRow5.out.alloc _) ⟨w5.heap.size, 0, none⟩ 1 1 [.string r] rfl rfl (cell_one_new _ _ _) (by simp [Value.oneCell']) (by unfold maxLen; omega) (by omega) (by simp; omega) ?_; intro v' w6 own6 grew6 _; obtain ⟨a2, c2, rfl⟩ := owns_slice own6; obtain ⟨hv6, hko, hkb, hn⟩ := HNx.out _ _ _ _ _ HB5.out (by trivial) own6 grew6; have cv6 := hv6.cell; have fv6 := hv6.frozen; have HKO := Lib.hid hko; have HKB := Lib.hid hkb; have HNN := Lib.hid hn; clear hko hkb hn hv6 own6 grew6); exact ⟨HKO.out, HKB.out, HNN.out⟩)
    · have hne : (b == q) = false := beq_eq_false_iff_ne.2 hbq
      gi_wp2
      gi_region_with_o (refine ⟨trivial, ?_⟩; gi_at_call 299; refine (CallsIn.inRound l (callsIn_wide.2 HC.out)).mono ?_; rintro e w5 ⟨rfl, B5⟩; have ccb5 := (B5.cell (p := ⟨cb, 0, none⟩) (by have h1 := HBX.out.lt; have h2 := HWB.out.size; show cb < W.heap.size; omega)).trans ccb; have HB5 := Lib.hid (((Below.refl W.heap.size W).drew).trans B5); have HRow5 := Lib.hid (owns_below HRow.out HB5.out); have hv5 : Boxed w5 (w2.heap.size + 1) LT v := (HB5.out.block _ HV.out.lt).trans HV.out; have cv5 := hv5.cell; have hs5 := HB5.out.size; clear hv5 B5)
      all_goals (gi_wp2; exact HSk.out _ HB5.out (by first | trivial | exact hbq))
  case done =>
    rintro D xs W hD rfl ⟨⟨v, hv, hrow, _⟩, hs1, hcl, hB⟩ hK
    have hvc := hv.cell
    rw [HE.out] at hrow
    have HL := Lib.hid (PJoin_any W v (keptS P q (wordsS s)) (Rd.of_own hrow) (by have := kept_len P q (wordsS s); omega) (fun y hy => HSw.out y (List.mem_filter.1 hy).1))
    have HB := Lib.hid (HB2.out.trans (hB.mono HB2.out.size))
    have HK := Lib.hid hK
    have hD' : w2.heap.size + 3 ≤ D := by simp at hD; omega
    have hDW : D < W.heap.size := (Array.getElem?_eq_some_iff.1 hK).1
    have hw2 := HB2.out.size
    obtain ⟨a0, c0, rfl⟩ := owns_slice hrow
    clear k0 k1 k2 hB0 hv hs1 hrow hcl hB hK
    gi_wp2_with (refine ⟨trivial, ?_⟩; gi_at_call 93; refine (callsIn_wide.2 HL.out).mono ?_; rintro e w3 ⟨rfl, B3⟩)
    have hK3 := (B3.block D hDW).trans HK.out
    refine ⟨by simp, .inl ⟨_, _, rfl, run_takeDeferred hK3, ?_⟩⟩
    exact ⟨_, results_tmp rfl _ _ _, rfl, (HB.out.trans (B3.mono HB.out.size)).trans (belowK_b (w := w) (Nat.le_refl _) w3 D _ _ (by omega) hK3 rfl rfl)⟩
  case stop =>
    rintro D c pre W _ _ h _
    exact h.elim
end Go.Proofs.YtgednccpjegbmaaGreatDoor.Ew
