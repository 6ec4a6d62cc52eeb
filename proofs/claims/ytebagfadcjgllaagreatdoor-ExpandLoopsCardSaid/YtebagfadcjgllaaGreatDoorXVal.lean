/-
  (*expansion).value: of a variable whose text is expanded; of one that is busy.
-/
import Derived.Maps.OwnSet
import Derived.Test.YtebagfadcjgllaaGreatDoorXPlain
namespace Go.Proofs.YtebagfadcjgllaaGreatDoor.Xw
open Go.RowKit Go.Proofs.YtebagfadcjgllaaGreatDoor Go.Proofs.YtebagfadcjgllaaGreatDoor.Ww Go.Proofs.YtebagfadcjgllaaGreatDoor.Tw Go.Proofs.YtebagfadcjgllaaGreatDoor.Kw Go.Proofs.YtebagfadcjgllaaGreatDoor.Jw Go.Proofs.YtebagfadcjgllaaGreatDoor.Xb
set_option maxRecDepth 100000

section
variable {w w' : World} {bm : Nat} {L : List (Bs × Unit)}
/-- A name that goes. -/
theorem wpList_drop (w : World) {ops : Array Oper} {rest : List Oper} {o : Oper} {a : Act} {Q : Exit → Act → World → Prop} (hg : o.guard = none) (m x : Operand) (hop : o.op = Op.call { callee := Callee.builtin Builtin.delete, args := #[m, x], argTypes := #[UK.mt, 9] }) {bm : Nat} {L : List (Bs × Unit)} {p : Bs} (hm : a.eval m = .map (some bm)) (hx : a.eval x = .string (str p))
    (hM : MapAt UK w bm L) (hp : p.length ≤ maxLen) (hK : ∀ w', MapAt UK w' bm (outA L p) → w.mapTurned w' bm → wpList Tryz.prog ops Q rest (a.put o.dst (.tuple #[])) w') : wpList Tryz.prog ops Q (o :: rest) a w := by
  refine wpList_delete_own w hg m x _ _ hop UK.et key UK.und UK.elem bm _ _ hm hM.own _ _ hx (key_of (by rw [str_size]; exact hp)) ?_
  intro w' hown ht
  rw [by8_str] at hown
  have hd := del_mapOf L p
  rw [show UK.enc = usD from rfl, hd] at hown
  exact hK w' (MapAt.of_own hown (sorted_out hM.sorted p)) ht
end

section
variable {xb tb ab lb yb : Nat} {gv kv : Value} {X : List Nat} {L : List Jp.V}
/-- What a lookup of no key gives. -/
theorem has_not {B : List (Bs × Unit)} {n : Bs} (h : ∀ f ∈ B, f.1 ≠ n) : (Kp.get B n).isSome = false := by rw [Kp.get_none.2 h]; rfl
theorem has_is {B : List (Bs × Unit)} {n : Bs} (hs : Kp.Sorted B) (h : ∃ f ∈ B, f.1 = n) : (Kp.get B n).isSome = true := by
  obtain ⟨f, hf, rfl⟩ := h
  rw [Kp.get_of_mem hs hf]; rfl
/-- The two cells of a name that no foreach has put. -/
abbrev DT : TypeId := 96
set_option maxHeartbeats 4000000 in
theorem value_busy (n x : Bs) (f : Int) (d : Int) (B : List (Bs × Unit)) (hg : Jp.getA L n = some ⟨n, x, false, f⟩) (hn : n.length ≤ 1000) (hb : ∃ f ∈ B, f.1 = n) : ValueC xb tb ab lb yb gv kv X L n d B none := by
  intro w hC
  have hlt := hC.lt
  obtain ⟨c0, c1, c3, c4, c5, c6⟩ := hC.cells
  have hns : (str n).size ≤ maxLen := by rw [str_size]; exact Nat.le_trans hn (by decide)
  have HB := Lib.hid (has_is hC.busy.sorted hb)
  have HO := Lib.hid ((On.refl hC).below ((Below.refl w.heap.size w).alloc (Nat.le_refl _) (.cells #[.string ⟨#[]⟩, .bool false] DT)))
  have hl := hC.loops
  have ha := MapAt.alloc hC.auto (.cells #[.string ⟨#[]⟩, .bool false] DT)
  have HG := Lib.hid (PGet_any _ HO.out.cx.tab (str n) hns)
  rw [by8_str, hg] at HG
  clear hC hg hb
  go_enter Tryz.func41, Tryz.ntmps41
  go_wp2_with (at_lookup; first | refine wpList_look (K := LK) _ rfl _ _ rfl rfl rfl (mb := some lb) hl hns (.agg #[.string ⟨#[]⟩, .bool false]) (Lib.hid rfl) ?_ | refine wpList_look_ok (K := AK) _ rfl _ _ rfl rfl rfl (mb := some ab) ha hns (.string ⟨#[]⟩) false (Lib.hid ⟨rfl, rfl⟩) ?_)
  refine HG.out.mono ?_
  rintro e w1 ⟨rfl, B1⟩
  have HO1 := Lib.hid (HO.out.below B1)
  have HB1 := Lib.hid (HO1.out.below ((Below.refl _ _).alloc (Nat.le_refl _) (.cells (vA ⟨n, x, false, f⟩) PV)))
  have hu := HB1.out.cx.busy
  have hus : (Kp.get B (by8 (str n))).isSome = true := by rw [by8_str]; exact HB.out
  have HUS := Lib.hid hus
  clear HO hl ha B1 HG hus
  obtain ⟨g0, g1, g3, g4, g5, g6⟩ := HB1.out.cx.cells
  unfold gV
  dsimp only
  unfold vA at HB1 hu g0 g1 g3 g4 g5 g6 ⊢
  dsimp only at HB1 hu g0 g1 g3 g4 g5 g6 ⊢
  go_wp2_with (at_lookup; refine wpList_look_ok (K := UK) _ rfl _ _ rfl rfl rfl (mb := some yb) hu hns (.agg #[]) true (Lib.hid ⟨rfl, HUS.out⟩) ?_)
  refine (fail_any _ 7).mono ?_
  rintro e w2 ⟨he, rfl⟩
  unfold failE at he
  subst he
  have HK := Lib.hid (HB1.out.below ((Below.refl _ _).alloc (Nat.le_refl _) (.cells #[] 125))).k
  clear hu g0 g1 g3 g4 g5 g6 HB1 HO1
  go_wp2_with fail
  exact ⟨rfl, rfl, HK.out⟩

theorem On.put {w W W' : World} {d0 d : Int} {B0 B : List (Bs × Unit)} {n : Bs} (h : On xb tb ab lb yb gv kv X L w d0 B0 W d B) (hM : MapAt UK W' yb (Kp.ins B (n, ()))) (ht : W.mapTurned W' yb) : On xb tb ab lb yb gv kv X L w d0 B0 W' d (Kp.ins B (n, ())) := by
  have hk : Kept [xb, yb] W W' := (Kept.refl [xb, yb] W).grown ht.grown (fun r e => by cases e; exact .inl (by simp))
  exact ⟨h.h0, h.cx.turn hk ((ht.grown.block xb h.cx.lt (fun e => h.cx.nya (Option.some.inj e).symm)).trans h.cx.box) hM, h.k.trans hk⟩
theorem On.drop {w W W' : World} {d0 d : Int} {B0 B B' : List (Bs × Unit)} (h : On xb tb ab lb yb gv kv X L w d0 B0 W d B) (hM : MapAt UK W' yb B') (ht : W.mapTurned W' yb) : On xb tb ab lb yb gv kv X L w d0 B0 W' d B' := by
  have hk : Kept [xb, yb] W W' := (Kept.refl [xb, yb] W).grown ht.grown (fun r e => by cases e; exact .inl (by simp))
  exact ⟨h.h0, h.cx.turn hk ((ht.grown.block xb h.cx.lt (fun e => h.cx.nya (Option.some.inj e).symm)).trans h.cx.box) hM, h.k.trans hk⟩

set_option maxHeartbeats 4000000 in
theorem value_var (n x : Bs) (f : Int) (d : Int) (B : List (Bs × Unit)) (o : Option Bs) (hg : Jp.getA L n = some ⟨n, x, false, f⟩) (hn : n.length ≤ 1000) (hb : ∀ f ∈ B, f.1 ≠ n) (hB : B.length ≤ 1000) (HE : ExpandC xb tb ab lb yb gv kv X L x d (Kp.ins B (n, ())) o) : ValueC xb tb ab lb yb gv kv X L n d B o := by
  intro w hC
  have hlt := hC.lt
  obtain ⟨c0, c1, c3, c4, c5, c6⟩ := hC.cells
  have hns : (str n).size ≤ maxLen := by rw [str_size]; exact Nat.le_trans hn (by decide)
  have hnm : n.length ≤ maxLen := Nat.le_trans hn (by decide)
  have hBm : B.length < maxLen := Nat.lt_of_le_of_lt hB (by decide)
  have HB := Lib.hid (has_not hb)
  have HBO := Lib.hid (out_ins hb)
  have HE := Lib.hid HE
  have HO := Lib.hid ((On.refl hC).below ((Below.refl w.heap.size w).alloc (Nat.le_refl _) (.cells #[.string ⟨#[]⟩, .bool false] DT)))
  have hl := hC.loops
  have ha := MapAt.alloc hC.auto (.cells #[.string ⟨#[]⟩, .bool false] DT)
  have HG := Lib.hid (PGet_any _ HO.out.cx.tab (str n) hns)
  rw [by8_str, hg] at HG
  clear hC hg hb
  go_enter Tryz.func41, Tryz.ntmps41
  go_wp2_with (at_lookup; first | refine wpList_look (K := LK) _ rfl _ _ rfl rfl rfl (mb := some lb) hl hns (.agg #[.string ⟨#[]⟩, .bool false]) (Lib.hid rfl) ?_ | refine wpList_look_ok (K := AK) _ rfl _ _ rfl rfl rfl (mb := some ab) ha hns (.string ⟨#[]⟩) false (Lib.hid ⟨rfl, rfl⟩) ?_)
  refine HG.out.mono ?_
  rintro e w1 ⟨rfl, B1⟩
  have HO1 := Lib.hid (HO.out.below B1)
  have HB1 := Lib.hid (HO1.out.below ((Below.refl _ _).alloc (Nat.le_refl _) (.cells (vA ⟨n, x, false, f⟩) PV)))
  have HV1 := Lib.hid (heap_last w1 (.cells (vA ⟨n, x, false, f⟩) PV))
  have hu := HB1.out.cx.busy
  have hus : (Kp.get B (by8 (str n))).isSome = false := by rw [by8_str]; exact HB.out
  have HUS := Lib.hid hus
  clear HO hl ha B1 HG hus
  obtain ⟨g0, g1, g3, g4, g5, g6⟩ := HB1.out.cx.cells
  unfold gV
  dsimp only
  unfold vA at HB1 hu g0 g1 g3 g4 g5 g6 HV1 ⊢
  dsimp only at HB1 hu g0 g1 g3 g4 g5 g6 HV1 ⊢
  have HB2 := Lib.hid (HB1.out.below ((Below.refl _ _).alloc (Nat.le_refl _) (.cells #[] 125)))
  have HV2 := Lib.hid (((Below.refl _ _).alloc (Nat.le_refl _) (.cells #[] 125)).block w1.heap.size (by simp) |>.trans HV1.out)
  obtain ⟨k0, k1, k3, k4, k5, k6⟩ := HB2.out.cx.cells
  have hu2 := HB2.out.cx.busy
  go_wp2_with (first | (at_lookup; refine wpList_look_ok (K := UK) _ rfl _ _ rfl rfl rfl (mb := some yb) hu hns (.agg #[]) false (Lib.hid ⟨rfl, HUS.out⟩) ?_) | (at_mapUpdate; refine wpList_put (K := UK) _ rfl _ _ _ rfl (c := ()) rfl rfl rfl hu2 hnm hBm ?_; go_frame; intro w2 hM2 ht2; have HB3 := Lib.hid (HB2.out.put hM2 ht2); have x2 : w2.cell? ⟨w1.heap.size, 1, none⟩ = some (.string (str x)) := cell_at ((ht2.grown.block w1.heap.size (by simp; omega) (fun e => (MapAt.not_cells hu2 HV2.out) (Option.some.inj e).symm)).trans HV2.out) rfl; have l2 := ht2.grown.size; clear hu hu2 g0 g1 g3 g4 g5 g6 k0 k1 k3 k4 k5 k6 hM2 ht2))
  refine (HE.out _ HB3.out.cx).mono ?_
  cases o with
  | none =>
    rintro e w3 ⟨he, hK3⟩
    unfold failE at he
    subst he
    have HK := Lib.hid (HB3.out.k.trans hK3)
    clear hK3 HB3 HB2 HB1 HO1 HE
    go_wp2_with fail
    exact ⟨rfl, rfl, HK.out⟩
  | some v =>
    rintro e w3 ⟨rfl, hC3, hK3⟩
    have HO3 := Lib.hid (HB3.out.call hC3 hK3)
    have hM3 := hC3.busy
    have hl3 := hC3.lt
    obtain ⟨k0, k1, k3, k4, k5, k6⟩ := hC3.cells
    clear hC3 hK3 HB3 HB2 HB1 HO1 HE
    go_wp2_with (at_delete; refine wpList_drop _ rfl _ _ rfl rfl rfl hM3 hnm ?_; intro w4 hM4 ht4; rw [HBO.out] at hM4; have HO4 := Lib.hid (HO3.out.drop hM4 ht4); clear hM3 hM4 ht4 k0 k1 k3 k4 k5 k6)
    go_ret
    exact ⟨rfl, HO4.out.cx, HO4.out.k⟩
end
end Go.Proofs.YtebagfadcjgllaaGreatDoor.Xw
