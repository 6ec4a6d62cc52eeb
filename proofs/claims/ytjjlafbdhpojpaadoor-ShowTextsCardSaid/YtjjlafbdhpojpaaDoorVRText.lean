/-
  flatironref10.Text.
-/
import Derived.Test.YtjjlafbdhpojpaaDoorVRef
namespace Go.Proofs.YtjjlafbdhpojpaaDoor.Vw
open Go.RowKit Go.Proofs.YtjjlafbdhpojpaaDoor Go.Proofs.YtjjlafbdhpojpaaDoor.Ww Go.Proofs.YtjjlafbdhpojpaaDoor.Iw Go.Proofs.YtjjlafbdhpojpaaDoor.Mw
set_option maxRecDepth 100000

theorem hash_ge (l : Bs) : l.length ≤ (Vp.hashA l).length := by
  induction l with
  | nil => exact Nat.le_refl _
  | cons c l ih =>
    show _ ≤ ((if c = 35 then [92, 35] else [c]) ++ Vp.hashA l).length
    rw [List.length_append, List.length_cons]
    split <;> simp <;> omega
theorem text_snoc (l : List Mp.P) (p : Mp.P) : Vp.textA (l ++ [p]) = Vp.textA l ++ Vp.partT p := by simp [Vp.textA]
theorem rec_snoc (l : List Ip.L) (x : Ip.L) : (l ++ [x]).flatMap Vp.recT = l.flatMap Vp.recT ++ Vp.recT x := by simp
theorem text_take (l : List Mp.P) (i : Nat) : (Vp.textA (l.take i)).length ≤ (Vp.textA l).length := by
  conv => rhs; rw [← List.take_append_drop i l]
  unfold Vp.textA
  rw [List.flatMap_append, List.length_append]; omega
theorem recs_take (l : List Ip.L) (i : Nat) : ((l.take i).flatMap Vp.recT).length ≤ (l.flatMap Vp.recT).length := by
  conv => rhs; rw [← List.take_append_drop i l]
  rw [List.flatMap_append, List.length_append]; omega
def TxRel (w : World) (X : List PV) (vs vi : Value) (wr : World) : Prop :=
  ∃ (o : ByteArray) (i : Nat), vs = .string o ∧ vi = .int .i64 i ∧ i ≤ X.length ∧ by8 o = Vp.textA ((X.take i).map PV.p) ∧ Below w.heap.size w wr
def TkRel (w2 : World) (T : Bs) (p : Mp.P) (vs vk : Value) (wr : World) : Prop :=
  ∃ (o : ByteArray) (k : Nat), vs = .string o ∧ vk = .int .i64 k ∧ k ≤ p.recipe.length ∧ by8 o = T ++ (p.recipe.take k).flatMap Vp.recT ∧ wr = w2

set_option maxHeartbeats 4000000 in
theorem RText_any (w : World) (lo : Nat) (v : Value) (X : List PV) (h : Qs w lo v X) (hl : X.length ≤ 200000) (hr : ∀ x ∈ X, x.p.recipe.length ≤ 200000) (hz : ∀ x ∈ X, Sz x.p) (hT : (Vp.textA (X.map PV.p)).length ≤ 1000000) :
    Calls Tryd.prog 8 #[v] w fun e w' => e = .returned (.string (str (Vp.textA (X.map PV.p)))) ∧ Below w.heap.size w w' := by
  obtain ⟨va, vc, rfl⟩ := owns_slice h.row
  have HX := Lib.hid h
  have HR := Lib.hid hr
  have HZ := Lib.hid hz
  clear h hr hz
  go_enter Tryd.func8, Tryd.ntmps8
  go_wp2_with fail
  go_loopw [3, 4] (fun vs vi wr => TxRel w X vs vi wr) (fun _ vi _ => X.length - (intOf vi).toNat)
  case atStart => exact ⟨⟨#[]⟩, 0, rfl, rfl, Nat.zero_le _, rfl, Below.refl _ _⟩
  case round =>
    obtain ⟨o, i, rfl, rfl, hi, ho, hB⟩ := hrel
    have HB := Lib.hid hB
    by_cases hlt : i < X.length
    · obtain ⟨g, rfl, hgc, hg, x⟩ := row_part HX.out.row hlt
      have hex := HX.out.each X[i] (List.getElem_mem hlt)
      have hrx := HR.out X[i] (List.getElem_mem hlt)
      have hzx := HZ.out X[i] (List.getElem_mem hlt)
      have htk : (X.take (i + 1)).map PV.p = (X.take i).map PV.p ++ [X[i].p] := by rw [List.take_succ_eq_append_getElem hlt, List.map_append]; rfl
      have hx : ∀ W : World, Below w.heap.size w W → ∀ j u, j < 11 → (pvC X[i])[j]? = some u → W.cell? ⟨g, i * 11 + j, none⟩ = some u := fun W h j u hj hu => (h.cell (p := ⟨g, i * 11 + j, none⟩) hg).trans (x j u hj hu)
      clear x
      generalize X[i] = x at *
      rcases x with ⟨p, u⟩
      replace hex : w.ownsRow lo RT 3 u p.recipe.length (linesC p.recipe) := hex
      replace hrx : p.recipe.length ≤ 200000 := hrx
      replace htk : (X.take (i + 1)).map PV.p = (X.take i).map PV.p ++ [p] := htk
      replace hzx : Sz p := hzx
      have hsz1 : o.size + ((Vp.hashA (Vp.rowA p)).length + 1 + (p.recipe.flatMap Vp.recT).length) ≤ 1000000 := by
        have h1 := text_take (X.map PV.p) (i + 1)
        rw [← List.map_take, htk, text_snoc, List.length_append, ← ho, by8_len] at h1
        have h2 : (Vp.partT p).length = (Vp.hashA (Vp.rowA p)).length + 1 + (p.recipe.flatMap Vp.recT).length := by
          unfold Vp.partT; rw [List.length_append, List.length_cons]; omega
        omega
      have hrl : (Vp.rowA p).length ≤ (Vp.hashA (Vp.rowA p)).length := hash_ge _
      have hsz2 := str_size (Vp.hashA (Vp.rowA p))
      obtain ⟨ua, uc, rfl⟩ := owns_slice hex
      obtain ⟨a0, a1, a2, a3, a4, a5, a6, a7, a8, a9, a10⟩ : _ ∧ _ ∧ _ ∧ _ ∧ _ ∧ _ ∧ _ ∧ _ ∧ _ ∧ _ ∧ _ := ⟨hx wr hB 0 _ (by decide) rfl, hx wr hB 1 _ (by decide) rfl, hx wr hB 2 _ (by decide) rfl, hx wr hB 3 _ (by decide) rfl, hx wr hB 4 _ (by decide) rfl, hx wr hB 5 _ (by decide) rfl, hx wr hB 6 _ (by decide) rfl, hx wr hB 7 _ (by decide) rfl, hx wr hB 8 _ (by decide) rfl, hx wr hB 9 _ (by decide) rfl, hx wr hB 10 _ (by decide) rfl⟩
      rw [Nat.add_zero] at a0
      have HEX := Lib.hid hex
      have HTK := Lib.hid htk
      have HO := Lib.hid ho
      have HC := Lib.hid fun W h => hx W h 10 _ (by decide) rfl
      have HRow := Lib.hid fun W => RRow_any W p (.slice ua p.recipe.length uc) hzx
      have HHash := Lib.hid fun W => RHash_any W (str (Vp.rowA p)) (by rw [str_size]; omega)
      have hki : (i : Int) < X.length := by omega
      have hk0 : (0 : Int) ≤ (i : Int) := Int.natCast_nonneg _
      have hws := hB.size
      clear hx hex hzx htk ho hB
      go_wp2_with fail
      refine (HRow.out _).mono ?_
      rintro e w1 ⟨rfl, B1⟩
      have HB1 := Lib.hid (HB.out.trans (B1.mono hws))
      clear B1
      go_wp2_with fail
      refine (HHash.out _).mono ?_
      rintro e w2 ⟨rfl, rfl⟩
      rw [by8_str]
      have c10 := HC.out w1 HB1.out
      go_wp2_with fail
      have HT0 : Hid (by8 (o ++ str (Vp.hashA (Vp.rowA p)) ++ ⟨#[10]⟩) = Vp.textA ((X.take i).map PV.p) ++ (Vp.hashA (Vp.rowA p) ++ [10])) := Lib.hid (by
        rw [by8_add, by8_add, by8_str, HO.out, List.append_assoc]; rfl)
      go_loopw [3, 5] (fun vs vk wr2 => TkRel w1 (Vp.textA ((X.take i).map PV.p) ++ (Vp.hashA (Vp.rowA p) ++ [10])) p vs vk wr2) (fun _ vk _ => p.recipe.length - (intOf vk).toNat)
      case atStart => exact ⟨_, 0, rfl, rfl, Nat.zero_le _, by rw [HT0.out]; simp, rfl⟩
      case round =>
        obtain ⟨o2, k, rfl, rfl, hk, ho2, rfl⟩ := hrel
        have hoz : o2.size = o.size + ((Vp.hashA (Vp.rowA p)).length + 1) + ((p.recipe.take k).flatMap Vp.recT).length := by
          rw [← by8_len, ho2, List.length_append, List.length_append, ← HO.out, by8_len, List.length_append]; rfl
        by_cases hlt2 : k < p.recipe.length
        · obtain ⟨g2, rfl, hhc, hh, _, x0, x1, x2⟩ := line_cells HEX.out hlt2
          have q1 := (HB1.out.cell (p := ⟨g2, k * 3 + 1, none⟩) hh).trans x1
          have HE : Hid (by8 (o2 ++ ⟨#[9]⟩ ++ str p.recipe[k].t ++ ⟨#[10]⟩) = Vp.textA ((X.take i).map PV.p) ++ (Vp.hashA (Vp.rowA p) ++ [10]) ++ (p.recipe.take (k + 1)).flatMap Vp.recT) := Lib.hid (by
            rw [List.take_succ_eq_append_getElem hlt2, rec_snoc, by8_add, by8_add, by8_add, by8_str, ho2]
            show _ ++ [9] ++ _ ++ [10] = _
            simp [Vp.recT])
          have hoz2 : o2.size + (p.recipe[k].t.length + 2) ≤ 1000000 := by
            have h1 := recs_take p.recipe (k + 1)
            rw [List.take_succ_eq_append_getElem hlt2, rec_snoc, List.length_append] at h1
            have h2 : (Vp.recT p.recipe[k]).length = p.recipe[k].t.length + 2 := by simp [Vp.recT]
            omega
          have hoz3 := str_size p.recipe[k].t
          generalize p.recipe[k] = x at *
          have hki2 : (k : Int) < p.recipe.length := by omega
          have hk02 : (0 : Int) ≤ (k : Int) := Int.natCast_nonneg _
          clear x0 x1 x2 ho2 hoz hsz1 hrl hsz2
          go_wp2_with fail
          go_roundw
          case rel => exact ⟨_, k + 1, rfl, by go_num, hlt2, HE.out, rfl⟩
          case measure => simp [intOf]; omega
        · obtain rfl : k = p.recipe.length := by omega
          have hki2 : ¬ (p.recipe.length : Int) < p.recipe.length := by omega
          have HE : Hid (by8 o2 = Vp.textA ((X.take (i + 1)).map PV.p)) := Lib.hid (by
            rw [ho2, List.take_length, HTK.out, text_snoc]
            unfold Vp.partT
            simp)
          clear ho2
          go_wp2_with fail
          go_roundw
          case rel => exact ⟨o2, i + 1, rfl, by go_num, hlt, HE.out, HB1.out⟩
          case measure => simp [intOf]; omega
    · obtain rfl : i = X.length := by omega
      have hki : ¬ (X.length : Int) < X.length := by omega
      have HE : Hid (o = str (Vp.textA (X.map PV.p))) := Lib.hid (by
        rw [List.take_length] at ho
        exact by8_ext (by rw [ho]; rfl))
      clear ho hB
      go_wp2_with fail
      go_ret
      exact ⟨by rw [HE.out]; rfl, HB.out⟩
end Go.Proofs.YtjjlafbdhpojpaaDoor.Vw
