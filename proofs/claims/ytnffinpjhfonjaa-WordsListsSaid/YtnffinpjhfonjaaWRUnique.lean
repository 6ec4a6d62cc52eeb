/-
  flatironref04.Unique: each word once.
-/
import Derived.OwnWalk
import Derived.StillTailTactics
import Derived.Test.YtnffinpjhfonjaaWOrder
import Derived.Test.YtnffinpjhfonjaaWUnique
namespace Go.Proofs.Ytnffinpjhfonjaa.Ww
open Go.RowKit Go.Proofs.Ytnffinpjhfonjaa
set_option maxRecDepth 100000

abbrev BT : TypeId := 4
theorem infoB : (Try.prog.info? BT).map (fun i => (i.zero, i.size, i.bytes)) = some (some (.bool false), 1, 1) := by kernel_rfl
def boolsC (l : List Bool) : List Value := l.map Value.bool
theorem boolsC_len (l : List Bool) : (boolsC l).length = l.length := by simp [boolsC]
theorem boolsC_set (l : List Bool) (j : Nat) (b : Bool) : boolsC (l.set j b) = (boolsC l).set j (.bool b) := by simp [boolsC, List.map_set]

abbrev ordL (l : List ByteArray) : List Nat := Wp.ord (Wp.at8 l) l.length 0 l.length
abbrev agnL (l : List ByteArray) (k : Nat) : List Bool := Wp.agn (Wp.at8 l) l.length (ordL l) k

theorem getD_of {o : List Nat} {i x : Nat} (h : i < o.length) (hx : o[i] = x) : o.getD i 0 = x := by
  subst hx; simp [List.getD, h]

/-- What the first loop's head knows. -/
def R1 (w1 : World) (l : List ByteArray) (g : Nat) (i : Value) (wr : World) : Prop :=
  ∃ k : Nat, 1 ≤ k ∧ (k ≤ 1 ∨ k ≤ l.length) ∧ i = .int .i64 k ∧ wr.ownsRow w1.heap.size BT 1 (.slice (some ⟨g, 0, none⟩) l.length l.length) l.length (boolsC (agnL l k)) ∧ Below w1.heap.size w1 wr
theorem R1.next {w1 wr : World} {l : List ByteArray} {g k x : Nat} (b : Bool) (hk : k < l.length) (hk1 : 1 ≤ k) (hx : (ordL l).getD k 0 = x) (hb : (Wp.at8 l ((ordL l).getD k 0) == Wp.at8 l ((ordL l).getD (k - 1) 0)) = b) (hg : w1.heap.size ≤ g)
    (hr : wr.ownsRow w1.heap.size BT 1 (.slice (some ⟨g, 0, none⟩) l.length l.length) l.length (boolsC (agnL l k))) (hB : Below w1.heap.size w1 wr) :
    R1 w1 l g (.int .i64 ((k : Int) + 1)) (wr.setCell ⟨g, x, none⟩ (.bool b)) := by
  obtain ⟨m, rfl⟩ : ∃ m, k = m + 1 := ⟨k - 1, by omega⟩
  refine ⟨m + 2, by omega, .inr (by omega), by go_num, ?_, hB.setCell (by simpa using hg) _⟩
  have := (hr.stored x (.bool b)).1
  rwa [← boolsC_set, show (agnL l (m + 1)).set x b = agnL l (m + 2) by rw [← hx, ← hb]; rfl] at this

theorem marks_agn {l : List ByteArray} {k : Nat} (hk1 : 1 ≤ k) (hk2 : k ≤ 1 ∨ k ≤ l.length) (h : l.length ≤ k) : agnL l k = Wp.marks l := by
  have key : ∀ m, m = l.length → agnL l k = agnL l m := by
    intro m hm
    rcases Nat.lt_or_ge 0 m with h0 | h0
    · rw [show k = m by omega]
    · obtain rfl : m = 0 := by omega
      obtain rfl : k = 1 := by omega
      rfl
  rw [key (ordL l).length (Wp.ord_len l)]
  rfl

/-- What the second loop's head knows. -/
def R2 (w1 : World) (l : List ByteArray) (g : Nat) (v i : Value) (wr : World) : Prop :=
  ∃ (k : Nat) (a : Option Addr) (c : Nat), k ≤ l.length ∧ i = .int .i64 k ∧ v = .slice a (Wp.uniq (l.take k)).length c ∧ wr.ownsRow (g + 1) ST 1 (.slice a (Wp.uniq (l.take k)).length c) (Wp.uniq (l.take k)).length (strsC (Wp.uniq (l.take k))) ∧
    g + 1 ≤ wr.heap.size ∧ (∀ j u, (boolsC (Wp.marks l))[j]? = some u → wr.cell? ⟨g, j, none⟩ = some u) ∧ w1.heap.size ≤ g ∧ Below w1.heap.size w1 wr

theorem R2.skip {w1 wr : World} {l : List ByteArray} {g k : Nat} {a : Option Addr} {c : Nat} (hk : k < l.length) (hu : Wp.uniq (l.take (k + 1)) = Wp.uniq (l.take k))
    (hr : wr.ownsRow (g + 1) ST 1 (.slice a (Wp.uniq (l.take k)).length c) (Wp.uniq (l.take k)).length (strsC (Wp.uniq (l.take k)))) (hs : g + 1 ≤ wr.heap.size)
    (hm : ∀ j u, (boolsC (Wp.marks l))[j]? = some u → wr.cell? ⟨g, j, none⟩ = some u) (hg : w1.heap.size ≤ g) (hB : Below w1.heap.size w1 wr) :
    R2 w1 l g (.slice a (Wp.uniq (l.take k)).length c) (.int .i64 ((k : Int) + 1)) wr :=
  ⟨k + 1, a, c, hk, by go_num, by rw [hu], by rw [hu]; exact hr, hs, hm, hg, hB⟩
theorem R2.app {w1 wr w3 : World} {l : List ByteArray} {g k : Nat} {a2 : Option Addr} {c2 : Nat} (hk : k < l.length) (hu : Wp.uniq (l.take (k + 1)) = Wp.uniq (l.take k) ++ [l[k]])
    (hs : g + 1 ≤ wr.heap.size) (hm : ∀ j u, (boolsC (Wp.marks l))[j]? = some u → wr.cell? ⟨g, j, none⟩ = some u) (hg : w1.heap.size ≤ g) (hB : Below w1.heap.size w1 wr)
    (hr : w3.ownsRow (g + 1) ST 1 (.slice a2 ((Wp.uniq (l.take k)).length + 1) c2) ((Wp.uniq (l.take k)).length + 1) (strsC (Wp.uniq (l.take k)) ++ [.string l[k]])) (h3 : Below (g + 1) wr w3) :
    R2 w1 l g (.slice a2 ((Wp.uniq (l.take k)).length + 1) c2) (.int .i64 ((k : Int) + 1)) w3 := by
  have el : (Wp.uniq (l.take (k + 1))).length = (Wp.uniq (l.take k)).length + 1 := by rw [hu]; simp
  exact ⟨k + 1, a2, c2, hk, by go_num, by rw [el], by rw [el, hu, strsC_snoc]; exact hr, Nat.le_trans hs h3.size, fun j u hj => (h3.cell (p := ⟨g, j, none⟩) (Nat.lt_succ_self g)).trans (hm j u hj), hg, hB.trans (h3.mono (by omega))⟩

set_option maxHeartbeats 4000000 in
theorem RUnique_any (w : World) (v : Value) (l : List ByteArray) (hr : Rd w w.heap.size v (strsC l)) (hl : l.length ≤ 100000) :
    Calls Try.prog 11 #[v] w fun e w' => ∃ a c, e = .returned (.slice a (Wp.uniq l).length c) ∧ Rd w' w'.heap.size (.slice a (Wp.uniq l).length c) (strsC (Wp.uniq l)) ∧ Below w.heap.size w w' := by
  obtain ⟨i0, hi, hz0, hz1, hz2⟩ := info_parts infoB
  obtain ⟨j0, hj, hy0, hy1, hy2⟩ := info_parts infoS
  have HR := Lib.hid hr
  obtain ⟨a0, c0, rfl, hc0⟩ := hr.shape
  clear hr
  rw [strsC_len] at *
  go_enter Try.func11, Try.ntmps11
  go_wp2_with fail
  refine (order_any l hl l.length 0 l.length w _ (Nat.zero_le _) (Nat.le_refl _) (by omega) HR.out).mono ?_
  rintro e w1 ⟨vo, rfl, ro, B1⟩
  have RO := Lib.hid ro
  obtain ⟨ao, co, rfl, hco⟩ := ro.shape
  rw [intsC_len, Wp.ord_len] at *
  clear ro
  go_wp2_with (refine wpList_make_full _ rfl _ _ _ rfl w1.heap.size BT i0 (.bool false) 1 Try.underlying40 hi hz0 hz1 .i64 .i64 _ _ l.length rfl rfl rfl rfl (by rw [hz2]; omega) (by unfold maxLen; omega) (Nat.le_refl _) ?_; intro w2 hown hgrow)
  have H0 : Hid (R1 w1 l w1.heap.size (.int .i64 1) w2) := Lib.hid ⟨1, Nat.le_refl _, .inl (Nat.le_refl _), rfl, by
    have e : (madeCells (Value.bool false).cells (l.length * 1)).toList = boolsC (agnL l 1) := by
      rw [Nat.mul_one]
      exact (toList_madeCells_one _ _).trans (by simp [agnL, Wp.agn, boolsC])
    rw [← e]; exact hown, ⟨hgrow.os, hgrow.tape, hgrow.output, hgrow.size, fun k hk => hgrow.block k hk (by simp)⟩⟩
  clear hown hgrow
  go_loopw [5] (fun i wr => R1 w1 l w1.heap.size i wr) (fun i _ => l.length - (intOf i).toNat)
  case atStart => exact H0.out
  case round =>
    obtain ⟨k, hk1, hk2, rfl, hr, hB⟩ := hrel
    clear H0
    by_cases hlt : k < l.length
    · obtain ⟨m, rfl⟩ : ∃ m, k = m + 1 := ⟨k - 1, by omega⟩
      have hol : (ordL l).length = l.length := Wp.ord_len l
      obtain ⟨x, hx⟩ : ∃ x, (ordL l)[m + 1]'(by omega) = x := ⟨_, rfl⟩
      obtain ⟨y, hy⟩ : ∃ y, (ordL l)[m]'(by omega) = y := ⟨_, rfl⟩
      have hxl : x < l.length := (Wp.ord_mem l x).1 (hx ▸ List.getElem_mem _)
      have hyl : y < l.length := (Wp.ord_mem l y).1 (hy ▸ List.getElem_mem _)
      have gx : (ordL l).getD (m + 1) 0 = x := getD_of _ hx
      have gy : (ordL l).getD m 0 = y := getD_of _ hy
      obtain ⟨bo, oo, c1, hv1, hc1, hb1, hx1⟩ := RO.out.open_ (by rw [intsC_len, Wp.ord_len]; omega)
      rw [intsC_len, Wp.ord_len] at hv1 hc1
      obtain ⟨rfl, _, rfl⟩ := (Value.slice.injEq ..).mp hv1
      obtain ⟨bl, ol, c2, hv2, hc2, hb2, hx2⟩ := HR.out.open_ (by rw [strsC_len]; omega)
      rw [strsC_len] at hv2 hc2
      obtain ⟨rfl, _, rfl⟩ := (Value.slice.injEq ..).mp hv2
      have d1 : wr.cell? ⟨bo, oo + (m + 1), none⟩ = some (.int .i64 (x : Int)) := (hB.cell (p := ⟨bo, oo + (m + 1), none⟩) hb1).trans (hx1 _ _ (by rw [intsC_get _ (by rw [Wp.ord_len]; omega), hx]))
      have d2 : wr.cell? ⟨bo, oo + m, none⟩ = some (.int .i64 (y : Int)) := (hB.cell (p := ⟨bo, oo + m, none⟩) hb1).trans (hx1 _ _ (by rw [intsC_get _ (by rw [Wp.ord_len]; omega), hy]))
      have d3 : wr.cell? ⟨bl, ol + x, none⟩ = some (.string l[x]) := (hB.cell (p := ⟨bl, ol + x, none⟩) (Nat.lt_of_lt_of_le hb2 B1.size)).trans ((B1.cell (p := ⟨bl, ol + x, none⟩) hb2).trans (hx2 _ _ (strsC_get l hxl)))
      have d4 : wr.cell? ⟨bl, ol + y, none⟩ = some (.string l[y]) := (hB.cell (p := ⟨bl, ol + y, none⟩) (Nat.lt_of_lt_of_le hb2 B1.size)).trans ((B1.cell (p := ⟨bl, ol + y, none⟩) hb2).trans (hx2 _ _ (strsC_get l hyl)))
      obtain ⟨bv, hbv⟩ : ∃ bv, (l[x].toList == l[y].toList) = bv := ⟨_, rfl⟩
      obtain ⟨u, d5⟩ : ∃ u, wr.cell? ⟨w1.heap.size, x, none⟩ = some u := by
        rw [hr.cellAt x (by omega)]
        exact ⟨_, List.getElem?_eq_getElem (by rw [boolsC_len, Wp.agn_len]; exact hxl)⟩
      have d6 := hr.frozenAt x
      have HN := Lib.hid fun wd (hd : Drewn wr wd) => @R1.next w1 wd l w1.heap.size (m + 1) x bv hlt hk1 gx (by
        rw [gx, show m + 1 - 1 = m from rfl, gy, Wp.at8_eq hxl, Wp.at8_eq hyl, ← hbv, Lib.toList_data, Lib.toList_data]) (Nat.le_refl _) (hd.own hr) (hd.below hB)
      have hix : (x : Int) < (l.length : Int) := by omega
      have hiy : (y : Int) < (l.length : Int) := by omega
      have hw : IntKind.i64.wrap (m : Int) = m := IntWalk.i64_in _ (by omega)
      have hm1 : (0 : Int) ≤ (m : Int) + 1 := by omega
      have hm2 : (m : Int) + 1 < (l.length : Int) := by omega
      have hm3 : ((m : Int) + 1).toNat = m + 1 := by omega
      have hm4 : (m : Int) < (l.length : Int) := by omega
      clear hx hy gx gy hx1 hx2 hv1 hv2 hr hol
      go_wp2_with fail
      go_still_tail 22, (by kernel_rfl)
      change wpList _ _ _ _ _ wr.drew
      clear hm1 hm2 hm3 hm4 hw
      have hd : Drewn wr wr.drew := drew_facts 1
      generalize wr.drew = wd at hd ⊢
      have e5 := hd.cell d5
      have e6 := hd.frozen d6
      have hN := Lib.hid (HN.out wd hd)
      go_wp2_with fail
      go_roundw
      case rel => exact hN.out
      case measure => simp [intOf]; omega
    · have hR := Lib.hid (hr.cells (g := w1.heap.size) rfl)
      have hM := Lib.hid (marks_agn hk1 hk2 (Nat.le_of_not_lt hlt))
      have hS : w1.heap.size + 1 ≤ wr.heap.size := (hr.lt w1.heap.size rfl).2
      have H2 : Hid (R2 w1 l w1.heap.size (.slice none 0 0) (.int .i64 0) wr) := Lib.hid ⟨0, none, 0, Nat.zero_le _, rfl, rfl, World.ownsRow_nil _ _ _ _, hS, fun j u hj => by
        have := hR.out j u (by rw [hM.out]; exact hj)
        simpa [Addr.add_lit] using this, Nat.le_refl _, hB⟩
      clear hr
      go_wp2_with fail
      go_loopw [6, 7] (fun v i wr => R2 w1 l w1.heap.size v i wr) (fun _ i _ => l.length - (intOf i).toNat)
      case atStart => exact H2.out
      case round =>
        obtain ⟨k, a, c, hk, rfl, rfl, hrow, hs, hm, hg, hB⟩ := hrel
        clear H2 hM hR
        by_cases hlt : k < l.length
        · obtain ⟨b, hb, hu⟩ := Wp.marks_next hlt
          have hcb := hm k (.bool b) (by simp [boolsC, hb])
          obtain ⟨bl, ol, c2, hv2, hc2, hb2, hx2⟩ := HR.out.open_ (by rw [strsC_len]; omega)
          rw [strsC_len] at hv2 hc2
          obtain ⟨rfl, _, rfl⟩ := (Value.slice.injEq ..).mp hv2
          have d3 : wr.cell? ⟨bl, ol + k, none⟩ = some (.string l[k]) := (hB.cell (p := ⟨bl, ol + k, none⟩) (Nat.lt_of_lt_of_le hb2 B1.size)).trans ((B1.cell (p := ⟨bl, ol + k, none⟩) hb2).trans (hx2 _ _ (strsC_get l hlt)))
          have hul : (Wp.uniq (l.take k)).length ≤ k := by have := Wp.uniq_len (l.take k); rw [List.length_take] at this; omega
          clear hb hx2 hv2
          cases b with
          | true =>
            have HN := Lib.hid (R2.skip hlt (by rw [hu, if_pos rfl]) hrow hs hm hg hB)
            clear hu hm
            go_wp2_with fail
            go_roundw
            case rel => exact HN.out
            case measure => simp [intOf]; omega
          | false =>
            have HN := Lib.hid fun w3 a2 c2 => @R2.app w1 wr w3 l w1.heap.size k a2 c2 hlt (by rw [hu, if_neg (by decide)]) hs hm hg hB
            clear hu hm
            go_wp2_with (at_builtin; refine wpList_append_own _ rfl _ _ 22 rfl (w1.heap.size + 1) ST j0 (.string ByteArray.empty) 1 16 Try.underlying22 hj hy0 hy1 hy2 rfl (by decide) _ _ _ rfl (hrow.alloc _) ⟨wr.heap.size, 0, none⟩ 1 1 [.string l[k]] rfl rfl (cell_one_new _ _ _) (by simp [Value.oneCell']) (by unfold maxLen; omega) (by omega) (by simp; omega) ?_; intro v' w3 hown' hgrow2 _; obtain ⟨a2, c2, rfl⟩ := owns_slice hown')
            go_roundw
            case rel => exact HN.out _ _ _ hown' (((Below.refl (w1.heap.size + 1) wr).alloc hs _).grown hgrow2 (by simp; omega) fun j ej => (hrow.lt j ej).1)
            case measure => simp [intOf]; omega
        · obtain rfl : k = l.length := by omega
          rw [List.take_of_length_le (Nat.le_refl _)] at hrow
          have HW := Lib.hid (Rd.of_own hrow)
          rw [List.take_of_length_le (Nat.le_refl _)]
          clear hrow hm
          go_wp2_with fail
          go_ret
          exact ⟨_, _, rfl, HW.out, B1.trans (hB.mono B1.size)⟩
end Go.Proofs.Ytnffinpjhfonjaa.Ww
