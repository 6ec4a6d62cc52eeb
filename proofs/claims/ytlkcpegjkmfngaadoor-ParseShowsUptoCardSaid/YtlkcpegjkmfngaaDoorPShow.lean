/-
  parse.Show: commands as a line.
-/
import Derived.Test.YtlkcpegjkmfngaaDoorLShow2
import Derived.Test.YtlkcpegjkmfngaaDoorPRight
import Derived.Test.YtlkcpegjkmfngaaDoorPToks
namespace Go.Proofs.YtlkcpegjkmfngaaDoor.Px
open Go.RowKit Go.Proofs.YtlkcpegjkmfngaaDoor Go.Proofs.YtlkcpegjkmfngaaDoor.Lx
set_option maxRecDepth 100000

theorem moreT_app (a b : List Pp.C) : Pp.moreT (a ++ b) = Pp.moreT a ++ Pp.moreT b := List.flatMap_append
theorem toksA_first (c : Pp.C) : Pp.toksA [c] = c.toks := by show c.toks ++ [] = _; simp
theorem toksA_snoc {L : List Pp.C} (h : L ≠ []) (c : Pp.C) : Pp.toksA (L ++ [c]) = Pp.toksA L ++ (⟨c.on.toNat, []⟩ :: c.toks) := by
  cases L with
  | nil => exact absurd rfl h
  | cons d r =>
    show d.toks ++ Pp.moreT (r ++ [c]) = (d.toks ++ Pp.moreT r) ++ _
    rw [moreT_app, List.append_assoc]
    show _ = _ ++ (_ ++ (⟨c.on.toNat, []⟩ :: c.toks))
    simp [Pp.moreT]
theorem toksA_take (L : List Pp.C) (i : Nat) : (Pp.toksA (L.take i)).length ≤ (Pp.toksA L).length := by
  cases L with
  | nil => simp
  | cons d r =>
    cases i with
    | zero => exact Nat.zero_le _
    | succ i =>
      show (d.toks ++ Pp.moreT (r.take i)).length ≤ (d.toks ++ Pp.moreT r).length
      have e : Pp.moreT r = Pp.moreT (r.take i) ++ Pp.moreT (r.drop i) := by rw [← moreT_app, List.take_append_drop]
      rw [e]
      simp only [List.length_append]
      omega
theorem right_each {L : List Pp.C} (h : Pp.rightA L = true) : ∀ c ∈ L, c.okB = true := by
  cases L with
  | nil => intro c hc; cases hc
  | cons d r =>
    have hh : (d.on == 1 && (d.okB && r.all Pp.C.okB)) = true := h
    rw [Bool.and_eq_true, Bool.and_eq_true, List.all_eq_true] at hh
    intro c hc
    rcases List.mem_cons.1 hc with rfl | hc
    · exact hh.2.1
    · exact hh.2.2 c hc
theorem toks_pos {c : Pp.C} (h : c.okB = true) : 0 < c.toks.length := by
  rw [toks_is, List.length_append]
  have := List.length_pos_iff.2 (Pp.ok_is h).2.2
  simp [wT]; omega

theorem tsC_one (L : List Lp.T) : ∀ u ∈ tsC L, u.oneCell' = true := by
  intro u hu
  obtain ⟨x, _, hx⟩ := List.mem_flatMap.1 hu
  rcases List.mem_cons.1 hx with rfl | hx
  · rfl
  · rw [List.mem_singleton.1 hx]; rfl
def ShowRel (w1 : World) (L : List Pp.C) (vl vi : Value) (wr : World) : Prop :=
  ∃ (i : Nat) (a : Option Addr) (cp : Nat), vl = .slice a (Pp.toksA (L.take i)).length cp ∧ vi = .int .i64 i ∧ i ≤ L.length ∧ wr.ownsRow w1.heap.size TT 2 (.slice a (Pp.toksA (L.take i)).length cp) (Pp.toksA (L.take i)).length (tsC (Pp.toksA (L.take i))) ∧ Below w1.heap.size w1 wr

set_option maxHeartbeats 1000000 in
theorem Show_no (w : World) (a : Option Addr) (cp : Nat) (X : List CV) (hb : Pp.rightA (X.map CV.c) = false) (hX : Cs w (· < w.heap.size) (.slice a X.length cp) X) (hf : Few X) :
    Calls Tryd.prog 8 #[.slice a X.length cp] w fun e w' => e = .returned (.tuple #[.string ⟨#[]⟩, .int .i64 1]) ∧ Below w.heap.size w w' := by
  have hR := Right_any w a cp X false (Lib.hid hb) hX hf
  clear hX hf hb
  go_enter Tryd.func8, Tryd.ntmps8
  go_wp2_with fail
  refine hR.mono ?_
  rintro e w1 ⟨rfl, hB1⟩
  go_wp2_with fail
  exact bodyPost_ret (v := .tuple #[.string ⟨#[]⟩, .int .i64 1]) (by simp [results, Tryd.results8, go_sem]) rfl ⟨rfl, hB1⟩

set_option maxHeartbeats 400000 in
theorem Show_yes (w : World) (a : Option Addr) (cp : Nat) (X : List CV) (hb : Pp.rightA (X.map CV.c) = true) (hX : Cs w (· < w.heap.size) (.slice a X.length cp) X) (hf : Few X) (hlen : (Pp.toksA (X.map CV.c)).length ≤ 100000) (hsum : Lp.sumT (Pp.toksA (X.map CV.c)) ≤ 100000) (hG : Glob w) :
    Calls Tryd.prog 8 #[.slice a X.length cp] w fun e w' => e = .returned (.tuple #[.string (str (Lp.showA (Pp.toksA (X.map CV.c)))), .int .i64 0]) ∧ Below w.heap.size w w' := by
  have hR := Right_any w a cp X true (Lib.hid hb) hX hf
  obtain ⟨i0, hi, hz0, hz1, hz2⟩ := info_parts infoT
  have hOK := Lib.hid (right_each hb)
  have hFit := Lib.hid (Pp.tok_fit_all hb)
  have HG := Lib.hid hG
  have hXl : X.length ≤ 100000 := hf.1
  clear hG
  obtain ⟨L, hL⟩ : ∃ L, Hid (X.map CV.c = L) := ⟨_, Lib.hid rfl⟩
  rw [hL.out] at hlen hsum hOK hFit ⊢
  have hXL : Hid (X.length = L.length) := Lib.hid (by rw [← hL.out, List.length_map])
  go_enter Tryd.func8, Tryd.ntmps8
  go_wp2_with fail
  refine hR.mono ?_
  rintro e w1 ⟨rfl, hB1⟩
  clear hR hb
  go_wp2_with fail
  go_loopw [4, 12] (fun vl vi wr => ShowRel w1 L vl vi wr) (fun _ vi _ => X.length - (intOf vi).toNat)
  case atStart => exact ⟨0, none, 0, rfl, rfl, Nat.zero_le _, World.ownsRow_nil _ _ _ _, Below.refl _ _⟩
  case round =>
    obtain ⟨i, at_, ct, rfl, rfl, hi', hr, hB⟩ := hrel
    by_cases hlt : i < X.length
    · obtain ⟨g, o, rfl, hc, hp, hcells⟩ := hX.cells (by omega)
      obtain ⟨x1, x2, x3⟩ := hcells i hlt
      have hBw := hB1.trans (hB.mono hB1.size)
      have y1 : wr.cell? ⟨g, o + i * 3, none⟩ = some (.int .i64 X[i].c.on) := (hBw.cell (p := ⟨g, o + i * 3, none⟩) hp).trans x1
      have y2 : wr.cell? ⟨g, o + i * 3 + 1, none⟩ = some X[i].vw := (hBw.cell (p := ⟨g, o + i * 3 + 1, none⟩) hp).trans x2
      have y3 : wr.cell? ⟨g, o + i * 3 + 2, none⟩ = some X[i].vt := (hBw.cell (p := ⟨g, o + i * 3 + 2, none⟩) hp).trans x3
      have hI := (cs_in hX hlt).keep fun b hb => hBw.block b hb
      have hlt2 : i < L.length := by have := hXL.out; omega
      have hLi : L[i] = X[i].c := by have := hL.out; subst this; simp
      have hok : X[i].c.okB = true := hOK.out _ (by rw [← hLi]; exact List.getElem_mem hlt2)
      have hF1 := hf.2 _ (List.getElem_mem hlt)
      have htk : L.take (i + 1) = L.take i ++ [X[i].c] := by rw [List.take_succ_eq_append_getElem hlt2, hLi]
      have hle := toksA_take L (i + 1)
      rw [htk] at hle
      clear hcells x1 x2 x3 hLi
      generalize X[i] = x at *
      obtain ⟨c, vw, vt⟩ := x
      obtain ⟨a1, c1, h1, _⟩ := hI.1.shape
      obtain ⟨a2, c2, h2, _⟩ := hI.2.shape
      simp only at h1 h2 y1 y2 y3 hF1 hok htk hle
      subst h1 h2
      have hTk := Lib.hid fun W (hW : Below w1.heap.size wr W) => tokens_any W c (.slice a1 c.ws.length c1) (.slice a2 c.to.length c2) hok ((hI.keep fun b hb => hW.block b (Nat.lt_of_lt_of_le hb hB1.size)).more fun b hb => Nat.lt_of_lt_of_le (Nat.lt_of_lt_of_le hb hBw.size) hW.size) hF1.2 hF1.1
      have hpos := toks_pos hok
      have hcon := Pp.conI_is (Pp.ok_is hok).2.1
      have hB2 := fun o => hB.alloc hB.size o
      have hBr := fun o => (Below.refl w1.heap.size wr).alloc hB.size o
      by_cases h0 : i = 0
      · have hA : Hid (Pp.toksA (L.take (i + 1)) = Pp.toksA (L.take i) ++ c.toks) := Lib.hid (by rw [htk, h0]; exact toksA_first c)
        have hle2 : (Pp.toksA (L.take i)).length + c.toks.length ≤ 100000 := by rw [← List.length_append, ← hA.out, htk]; omega
        subst h0
        simp only [Nat.zero_mul, Nat.add_zero] at y1 y2 y3
        generalize Pp.toksA (L.take 0) = M at *
        clear hI hok htk hle hcon
        go_wp2_with (first
          | (at_builtin; refine wpList_append_own _ rfl _ _ 45 rfl w1.heap.size TT i0 (.agg #[.int .i64 0, .string ByteArray.empty]) 2 24 Tryd.underlying45 hi hz0 hz1 hz2 rfl (by decide) _ _ _ rfl hr5 ⟨b4, o4, none⟩ c.toks.length c4 (tsC c.toks) rfl (tsC_len _) (fun j u hj => by rw [Addr.add_lit]; exact hc4 j u hj) (tsC_one _) (by unfold maxLen; omega) (by omega) hB5.size ?_; intro v' w4 hown' hgrow _; obtain ⟨a5, c5, rfl⟩ := owns_slice hown'; have hB6 := hB5.grown hgrow hB5.size fun j ej => (hr5.lt j ej).1)
          | (go_at_call 18; refine (hTk.out _ (hBr _)).mono ?_; rintro e w3 ⟨a4, c4, rfl, hr4, hB4⟩; obtain ⟨b4, o4, rfl, _, hb4, hc4⟩ := (Rg.of_own hr4).at_ hpos; have hr5 := owns_below (hr.alloc _) hB4; have hB5 := (hB2 _).trans (hB4.mono (hB2 _).size)))
        go_roundw
        case rel => exact ⟨0 + 1, _, _, by rw [hA.out, List.length_append], by go_num, hlt2, by rw [hA.out, List.length_append, tsC_app]; exact hown', hB6⟩
        case measure => simp [intOf]; omega
      · have hA : Hid (Pp.toksA (L.take (i + 1)) = Pp.toksA (L.take i) ++ (⟨c.on.toNat, []⟩ :: c.toks)) := Lib.hid (by rw [htk]; exact toksA_snoc (by intro e; have := congrArg List.length e; rw [List.length_take, List.length_nil] at this; omega) c)
        have hle2 : (Pp.toksA (L.take i)).length + 1 + c.toks.length ≤ 100000 := by
          have e : (Pp.toksA (L.take (i + 1))).length = (Pp.toksA (L.take i)).length + 1 + c.toks.length := by rw [hA.out, List.length_append, List.length_cons]; omega
          rw [htk] at e
          omega
        have i1 : (0 : Int) < (i : Int) := by omega
        have hcc : Hid (((c.on.toNat : Nat) : Int) = c.on) := Lib.hid (by omega)
        generalize Pp.toksA (L.take i) = M at *
        clear hI hok htk hle hcon
        go_wp2_with (first
          | (at_builtin; refine wpList_append_own _ rfl _ _ 45 rfl w1.heap.size TT i0 (.agg #[.int .i64 0, .string ByteArray.empty]) 2 24 Tryd.underlying45 hi hz0 hz1 hz2 rfl (by decide) _ _ _ rfl hr5 ⟨b4, o4, none⟩ c.toks.length c4 (tsC c.toks) rfl (tsC_len _) (fun j u hj => by rw [Addr.add_lit]; exact hc4 j u hj) (tsC_one _) (by unfold maxLen; omega) (by omega) hB5.size ?_; intro v' w4 hown' hgrow _; obtain ⟨a5, c5, rfl⟩ := owns_slice hown'; have hB6 := hB5.grown hgrow hB5.size fun j ej => (hr5.lt j ej).1)
          | (at_builtin; refine wpList_append_own _ rfl _ _ 45 rfl w1.heap.size TT i0 (.agg #[.int .i64 0, .string ByteArray.empty]) 2 24 Tryd.underlying45 hi hz0 hz1 hz2 rfl (by decide) _ _ _ rfl ((hr.alloc _).alloc _) ⟨wr.heap.size + 1, 0, none⟩ 1 1 [.int .i64 c.on, .string (str [])] rfl rfl (two_at _ (by simp) _ _ _) (by simp [Value.oneCell']) (by unfold maxLen; omega) (by omega) (by have := hB.size; simp; omega) ?_; intro v' w2 hown2 hgrow2 _; obtain ⟨a6, c6, rfl⟩ := owns_slice hown2; have hbx := (hgrow2.block wr.heap.size (by simp; omega) (fun e => Nat.lt_irrefl _ (hr.lt _ e.symm).2)).trans ((Below.heap_alloc _ _ _ (by simp)).trans (heap_new wr _ rfl)); obtain ⟨z0, z1, z2⟩ := box3 hbx; have hW2 := ((hBr _).alloc (hB2 _).size _).grown hgrow2 ((hB2 _).alloc (hB2 _).size _).size fun j ej => (hr.lt j ej).1; have hB3 := hB.trans (hW2.mono (Nat.le_refl _)))
          | (go_at_call 18; refine (hTk.out _ hW2).mono ?_; rintro e w3 ⟨a4, c4, rfl, hr4, hB4⟩; obtain ⟨b4, o4, rfl, _, hb4, hc4⟩ := (Rg.of_own hr4).at_ hpos; have hr5 := owns_below hown2 hB4; have hB5 := hB3.trans (hB4.mono hB3.size)))
        go_roundw
        case rel =>
          have e1 : (M ++ (⟨c.on.toNat, []⟩ :: c.toks)).length = M.length + 1 + c.toks.length := by rw [List.length_append, List.length_cons]; omega
          have e2 : tsC (M ++ (⟨c.on.toNat, []⟩ :: c.toks)) = tsC M ++ [.int .i64 c.on, .string (str [])] ++ tsC c.toks := by
            rw [tsC_app, List.append_assoc]
            show _ ++ (([Value.int .i64 ((c.on.toNat : Nat) : Int), .string (str [])] : List Value) ++ tsC c.toks) = _
            rw [hcc.out]
          exact ⟨i + 1, _, _, by rw [hA.out, e1], by go_num, hlt2, by rw [hA.out, e1, e2]; exact hown', hB6⟩
        case measure => simp [intOf]; omega
    · obtain rfl : i = L.length := by have := hXL.out; omega
      rw [List.take_length] at hr
      have hnl : ¬ (L.length : Int) < (X.length : Int) := by have := hXL.out; omega
      have hBw := hB1.trans (hB.mono hB1.size)
      have hS := Show_any wr w1.heap.size at_ ct (Pp.toksA L) hr hlen (fun x hx => ⟨Nat.le_trans (Lp.sum_mem hx) hsum, by have := (hFit.out x hx).1; omega⟩) (by have := Lp.show_len (Pp.toksA L); omega) (HG.out.below hBw)
      rw [List.take_length]
      go_wp2_with (go_at_call 19; refine hS.mono ?_; rintro e w3 ⟨rfl, hB3⟩)
      exact bodyPost_ret (v := .tuple #[.string (str (Lp.showA (Pp.toksA L))), .int .i64 0]) (by simp [results, Tryd.results8, go_sem]) rfl ⟨rfl, hBw.trans (hB3.mono hBw.size)⟩
end Go.Proofs.YtlkcpegjkmfngaaDoor.Px
