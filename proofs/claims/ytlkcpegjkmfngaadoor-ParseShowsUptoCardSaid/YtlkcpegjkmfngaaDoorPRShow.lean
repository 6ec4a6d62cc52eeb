/-
  flatironref06.Show.
-/
import Derived.Test.YtlkcpegjkmfngaaDoorPRQuote
import Derived.Test.YtlkcpegjkmfngaaDoorPShow
namespace Go.Proofs.YtlkcpegjkmfngaaDoor.Px
open Go.RowKit Go.Proofs.YtlkcpegjkmfngaaDoor Go.Proofs.YtlkcpegjkmfngaaDoor.Lx
set_option maxRecDepth 100000

def RShRel (w : World) (L : List Pp.C) (vl vi : Value) (wr : World) : Prop :=
  ∃ (i : Nat) (a : Option Addr) (cp : Nat), vl = .slice a (Pp.toksA (L.take i)).length cp ∧ vi = .int .i64 i ∧ i ≤ L.length ∧ wr.ownsRow w.heap.size T2 2 (.slice a (Pp.toksA (L.take i)).length cp) (Pp.toksA (L.take i)).length (tsC (Pp.toksA (L.take i))) ∧ Below w.heap.size w wr

set_option maxHeartbeats 8000000 in
theorem RShowC_any (w : World) (v : Value) (X : List CV) (hb : Pp.rightA (X.map CV.c) = true) (hX : Cs w (· < w.heap.size) v X) (hf : Few X) (hlen : (Pp.toksA (X.map CV.c)).length ≤ 100000) (hsum : Lp.sumT (Pp.toksA (X.map CV.c)) ≤ 100000) :
    Calls Tryd.prog 13 #[v] w fun e w' => e = .returned (.string (str (Lp.showA (Pp.toksA (X.map CV.c))))) ∧ Below w.heap.size w w' := by
  obtain ⟨i0, hi, hz0, hz1, hz2⟩ := info_parts infoT2
  have hOK := Lib.hid (right_each hb)
  have hXl : X.length ≤ 100000 := hf.1
  obtain ⟨L, hL⟩ : ∃ L, Hid (X.map CV.c = L) := ⟨_, Lib.hid rfl⟩
  rw [hL.out] at hlen hsum hOK ⊢
  have hXL : Hid (X.length = L.length) := Lib.hid (by rw [← hL.out, List.length_map])
  obtain ⟨a0, cp, rfl, _⟩ := hX.1.shape
  clear hb
  go_enter Tryd.func13, Tryd.ntmps13
  go_wp2_with fail
  go_loopw [3, 4] (fun vl vi wr => RShRel w L vl vi wr) (fun _ vi _ => X.length - (intOf vi).toNat)
  case atStart => exact ⟨0, none, 0, rfl, rfl, Nat.zero_le _, World.ownsRow_nil _ _ _ _, Below.refl _ _⟩
  case round =>
    obtain ⟨i, at_, ct, rfl, rfl, hi', hr, hB⟩ := hrel
    by_cases hlt : i < X.length
    · obtain ⟨g, o, rfl, hc, hp, hcells⟩ := hX.cells (by omega)
      obtain ⟨x1, x2, x3⟩ := hcells i hlt
      have hI := cs_in2 hX hlt
      have hlt2 : i < L.length := by have := hXL.out; omega
      have hki : (i : Int) < X.length := by omega
      have hLi : L[i] = X[i].c := by have := hL.out; subst this; simp
      have hok : X[i].c.okB = true := hOK.out _ (by rw [← hLi]; exact List.getElem_mem hlt2)
      have hF1 := hf.2 _ (List.getElem_mem hlt)
      have htk : L.take (i + 1) = L.take i ++ [X[i].c] := by rw [List.take_succ_eq_append_getElem hlt2, hLi]
      have hle := toksA_take L (i + 1)
      clear hcells hLi
      generalize X[i] = x at *
      obtain ⟨c, vw, vt⟩ := x
      obtain ⟨a1, c1, h1, _⟩ := hI.1.shape
      obtain ⟨a2, c2, h2, _⟩ := hI.2.shape
      simp only at h1 h2 x1 x2 x3 hF1 hok htk
      subst h1 h2
      have hW := hI.1
      have hT := hI.2
      simp only at hT hW
      have HK := Lib.hid fun g (hg : g ∈ c.to) => Pp.red_is ((Pp.ok_is hok).1 g hg)
      have hcon := Pp.conI_is (Pp.ok_is hok).2.1
      have hcc : Hid (((c.on.toNat : Nat) : Int) = c.on) := Lib.hid (by omega)
      have htl : Hid (c.toks = wT c.ws ++ gT c.to) := Lib.hid (toks_is c)
      have hwl : Hid ((wT c.ws).length = c.ws.length) := Lib.hid (by simp [wT])
      clear hI hok hcon
      by_cases h0 : i = 0
      · have hA : Pp.toksA (L.take (i + 1)) = Pp.toksA (L.take i) ++ c.toks := by rw [htk, h0]; exact toksA_first c
        rw [htl.out, ← List.append_assoc] at hA
        have HA := Lib.hid hA
        have HL : Hid ((Pp.toksA (L.take (i + 1))).length = (Pp.toksA (L.take i)).length + c.ws.length + 2 * c.to.length) := Lib.hid (by rw [hA, List.length_append, List.length_append, gT_len, hwl.out])
        have hle2 : (Pp.toksA (L.take i)).length + c.ws.length + 2 * c.to.length ≤ 100000 := by rw [← HL.out]; omega
        clear hA htk hle
        subst h0
        simp only [Nat.zero_mul, Nat.add_zero] at x1 x2 x3
        have hBa := hB
        generalize Pp.toksA (L.take 0) = M at *
        have y1 : wr.cell? ⟨g, o, none⟩ = some (.int .i64 c.on) := (hB.cell (p := ⟨g, o, none⟩) hp).trans x1
        have y2 : wr.cell? ⟨g, o + 1, none⟩ = some (.slice a1 c.ws.length c1) := (hB.cell (p := ⟨g, o + 1, none⟩) hp).trans x2
        have y3 : wr.cell? ⟨g, o + 2, none⟩ = some (.slice a2 c.to.length c2) := (hB.cell (p := ⟨g, o + 2, none⟩) hp).trans x3
        go_wp2_with fail
        go_loopw [3, 5] (fun vl vk wx => ∃ (k : Nat) (a : Option Addr) (cp : Nat), vl = .slice a (M.length + k) cp ∧ vk = .int .i64 k ∧ k ≤ c.ws.length ∧ wx.ownsRow w.heap.size T2 2 (.slice a (M.length + k) cp) (M.length + k) (tsC (M ++ wT (c.ws.take k))) ∧ Below w.heap.size w wx) (fun _ vk _ => c.ws.length - (intOf vk).toNat)
        case atStart => exact ⟨0, _, _, rfl, rfl, Nat.zero_le _, (by simpa [wT] using hr), hBa⟩
        case round =>
          clear hr hB hBa y1 y2 y3
          obtain ⟨k, a4, c4, rfl, rfl, hk, hr, hB⟩ := hrel
          have y2 : wr.cell? ⟨g, o + 1, none⟩ = some (.slice a1 c.ws.length c1) := (hB.cell (p := ⟨g, o + 1, none⟩) hp).trans x2
          have y3 : wr.cell? ⟨g, o + 2, none⟩ = some (.slice a2 c.to.length c2) := (hB.cell (p := ⟨g, o + 2, none⟩) hp).trans x3
          have hgw : g < wr.heap.size := Nat.lt_of_lt_of_le hp hB.size
          by_cases hkl : k < c.ws.length
          · obtain ⟨g', o', rfl, _, hp', hc'⟩ := strs_cells hW (by omega)
            have t1 := hc' k hkl
            have t3 : wr.cell? ⟨g', o' + k, none⟩ = some (.string (str c.ws[k])) := (hB.cell (p := ⟨g', o' + k, none⟩) hp').trans t1
            have hki : (k : Int) < c.ws.length := by omega
            have HT2 : Hid (tsC (M ++ wT (c.ws.take (k + 1))) = tsC (M ++ wT (c.ws.take k)) ++ [.int .i64 0, .string (str c.ws[k])]) := Lib.hid (by rw [tsC_app (M), wT_snoc hkl, ← List.append_assoc, ← tsC_app])
            clear hc' t1
            generalize c.ws[k] = s at *
            go_wp2_with (at_builtin; refine wpList_append_own _ rfl _ _ 52 rfl w.heap.size T2 i0 (.agg #[.int .i64 0, .string ByteArray.empty]) 2 24 Tryd.underlying52 hi hz0 hz1 hz2 rfl (by decide) _ _ _ rfl (hr.alloc _) ⟨wr.heap.size, 0, none⟩ 1 1 [.int .i64 0, .string (str s)] rfl rfl (two_at _ (by simp) _ _ _) (by simp [Value.oneCell']) (by unfold maxLen; omega) (by omega) (by have := hB.size; simp; omega) ?_; intro v' w3 hown' hgrow _; obtain ⟨a5, c5, rfl⟩ := owns_slice hown'; have hB5 := (hB.alloc hB.size (.cells #[.int .i64 0, .string (str s)] T2)).grown hgrow (hB.alloc hB.size (.cells #[.int .i64 0, .string (str s)] T2)).size fun j ej => (hr.lt j ej).1)
            go_roundw
            case rel => exact ⟨k + 1, a5, c5, rfl, by go_num, hkl, by rw [HT2.out]; exact hown', hB5⟩
            case measure => simp [intOf]; omega
          · obtain rfl : k = c.ws.length := by omega
            rw [List.take_length] at hr
            have hr2 : wr.ownsRow w.heap.size T2 2 (.slice a4 (M.length + c.ws.length + 2 * 0) c4) (M.length + c.ws.length + 2 * 0) (tsC (M ++ wT c.ws ++ gT (c.to.take 0))) := by simpa [gT] using hr
            have hB2 := hB
            clear hr hB
            go_wp2_with fail
            go_loopw [3, 6] (fun vl vk wx => ∃ (k : Nat) (a : Option Addr) (cp : Nat), vl = .slice a (M.length + c.ws.length + 2 * k) cp ∧ vk = .int .i64 k ∧ k ≤ c.to.length ∧ wx.ownsRow w.heap.size T2 2 (.slice a (M.length + c.ws.length + 2 * k) cp) (M.length + c.ws.length + 2 * k) (tsC (M ++ wT c.ws ++ gT (c.to.take k))) ∧ Below w.heap.size w wx) (fun _ vk _ => c.to.length - (intOf vk).toNat)
            case atStart => exact ⟨0, _, _, rfl, rfl, Nat.zero_le _, hr2, hB2⟩
            case round =>
              clear hr2 hB2 y2 y3 hgw
              obtain ⟨k, a4, c4, rfl, rfl, hk, hr, hB⟩ := hrel
              have y2 : wr.cell? ⟨g, o + 1, none⟩ = some (.slice a1 c.ws.length c1) := (hB.cell (p := ⟨g, o + 1, none⟩) hp).trans x2
              have y3 : wr.cell? ⟨g, o + 2, none⟩ = some (.slice a2 c.to.length c2) := (hB.cell (p := ⟨g, o + 2, none⟩) hp).trans x3
              have hgw : g < wr.heap.size := Nat.lt_of_lt_of_le hp hB.size
              by_cases hkl : k < c.to.length
              · obtain ⟨g', o', rfl, _, hp', hc'⟩ := tos_cells hT (by omega)
                obtain ⟨t1, t2⟩ := hc' k hkl
                have t3 : wr.cell? ⟨g', o' + k * 2, none⟩ = some (.int .i64 c.to[k].k) := (hB.cell (p := ⟨g', o' + k * 2, none⟩) hp').trans t1
                have t4 : wr.cell? ⟨g', o' + k * 2 + 1, none⟩ = some (.string (str c.to[k].p)) := (hB.cell (p := ⟨g', o' + k * 2 + 1, none⟩) hp').trans t2
                have hki : (k : Int) < c.to.length := by omega
                have hkk := HK.out _ (List.getElem_mem hkl)
                have HT2 := Lib.hid (gT_snoc hkl (M ++ wT c.ws) (by omega))
                have hgw' : g' < wr.heap.size := Nat.lt_of_lt_of_le hp' hB.size
                have hBy := hB
                clear hc' t1 t2 hkk
                generalize c.to[k] = s at *
                go_wp2_with (first
                  | (at_builtin; refine wpList_append_own _ rfl _ _ 52 rfl w.heap.size T2 i0 (.agg #[.int .i64 0, .string ByteArray.empty]) 2 24 Tryd.underlying52 hi hz0 hz1 hz2 rfl (by decide) _ _ _ rfl (hown1.alloc _) ⟨w3.heap.size, 0, none⟩ 1 1 [.int .i64 0, .string (str s.p)] rfl rfl (two_at _ (by simp) _ _ _) (by simp [Value.oneCell']) (by unfold maxLen; omega) (by omega) (by have := hB5.size; simp; omega) ?_; intro v' w5 hown2 hgrow2 _; obtain ⟨a6, c6, rfl⟩ := owns_slice hown2; have hB6 := (hB5.alloc hB5.size (.cells #[.int .i64 0, .string (str s.p)] T2)).grown hgrow2 (hB5.alloc hB5.size (.cells #[.int .i64 0, .string (str s.p)] T2)).size fun j ej => (hown1.lt j ej).1)
                  | (at_builtin; refine wpList_append_own _ rfl _ _ 52 rfl w.heap.size T2 i0 (.agg #[.int .i64 0, .string ByteArray.empty]) 2 24 Tryd.underlying52 hi hz0 hz1 hz2 rfl (by decide) _ _ _ rfl (hr.alloc _) ⟨wr.heap.size, 0, none⟩ 1 1 [.int .i64 s.k, .string (str [])] rfl rfl (two_at _ (by simp) _ _ _) (by simp [Value.oneCell']) (by unfold maxLen; omega) (by omega) (by have := hB.size; simp; omega) ?_; intro v' w3 hown1 hgrow1 _; obtain ⟨a5, c5, rfl⟩ := owns_slice hown1; have hB5 := (hB.alloc hB.size (.cells #[.int .i64 s.k, .string (str [])] T2)).grown hgrow1 (hB.alloc hB.size (.cells #[.int .i64 s.k, .string (str [])] T2)).size fun j ej => (hr.lt j ej).1; have u3 : w3.cell? ⟨g, o + 2, none⟩ = some (.slice (some ⟨g', o', none⟩) c.to.length c2) := (hB5.cell (p := ⟨g, o + 2, none⟩) hp).trans x3; have u4 : w3.cell? ⟨g', o' + k * 2 + 1, none⟩ = some (.string (str s.p)) := (hB5.cell (p := ⟨g', o' + k * 2 + 1, none⟩) hp').trans ((hBy.cell (p := ⟨g', o' + k * 2 + 1, none⟩) hp').symm.trans t4)))
                go_roundw
                case rel => exact ⟨k + 1, a6, c6, rfl, by go_num, hkl, by rw [HT2.out, show ∀ (l : List Value) (p q r t : Value), l ++ [p, q, r, t] = (l ++ [p, q]) ++ [r, t] from fun l p q r t => by simp]; exact hown2, hB6⟩
                case measure => simp [intOf]; omega
              · obtain rfl : k = c.to.length := by omega
                rw [List.take_length] at hr
                go_wp2_with fail
                go_roundw
                case rel => exact ⟨0 + 1, a4, c4, by rw [HL.out], by go_num, hlt2, by rw [HL.out, HA.out]; exact hr, hB⟩
                case measure => simp [intOf]; omega
      · have hA : Pp.toksA (L.take (i + 1)) = (Pp.toksA (L.take i) ++ [⟨c.on.toNat, []⟩]) ++ c.toks := by
          rw [htk, toksA_snoc (by intro e; have := congrArg List.length e; rw [List.length_take, List.length_nil] at this; omega) c]
          simp
        rw [htl.out, ← List.append_assoc] at hA
        have HA := Lib.hid hA
        have HL : Hid ((Pp.toksA (L.take (i + 1))).length = (Pp.toksA (L.take i)).length + 1 + c.ws.length + 2 * c.to.length) := Lib.hid (by rw [hA, List.length_append, List.length_append, gT_len, hwl.out, List.length_append]; rfl)
        have hle2 : (Pp.toksA (L.take i)).length + 1 + c.ws.length + 2 * c.to.length ≤ 100000 := by rw [← HL.out]; omega
        have i1 : (0 : Int) < (i : Int) := by omega
        have HM : Hid (tsC (Pp.toksA (L.take i) ++ [⟨c.on.toNat, []⟩]) = tsC (Pp.toksA (L.take i)) ++ [.int .i64 c.on, .string (str [])]) := Lib.hid (by
          rw [tsC_app]
          show _ ++ ([Value.int .i64 ((c.on.toNat : Nat) : Int), .string (str [])] : List Value) = _
          rw [hcc.out])
        clear hA htk hle
        generalize Pp.toksA (L.take i) = M at *
        have y1 : wr.cell? ⟨g, o + i * 3, none⟩ = some (.int .i64 c.on) := (hB.cell (p := ⟨g, o + i * 3, none⟩) hp).trans x1
        have y2 : wr.cell? ⟨g, o + i * 3 + 1, none⟩ = some (.slice a1 c.ws.length c1) := (hB.cell (p := ⟨g, o + i * 3 + 1, none⟩) hp).trans x2
        have y3 : wr.cell? ⟨g, o + i * 3 + 2, none⟩ = some (.slice a2 c.to.length c2) := (hB.cell (p := ⟨g, o + i * 3 + 2, none⟩) hp).trans x3
        go_wp2_with (at_builtin; refine wpList_append_own _ rfl _ _ 52 rfl w.heap.size T2 i0 (.agg #[.int .i64 0, .string ByteArray.empty]) 2 24 Tryd.underlying52 hi hz0 hz1 hz2 rfl (by decide) _ _ _ rfl (hr.alloc _) ⟨wr.heap.size, 0, none⟩ 1 1 [.int .i64 c.on, .string (str [])] rfl rfl (two_at _ (by simp) _ _ _) (by simp [Value.oneCell']) (by unfold maxLen; omega) (by omega) (by have := hB.size; simp; omega) ?_; intro v' w2 hown0 hgrow0 _; obtain ⟨a7, c7, rfl⟩ := owns_slice hown0; have hBa := (hB.alloc hB.size (.cells #[.int .i64 c.on, .string (str [])] T2)).grown hgrow0 (hB.alloc hB.size (.cells #[.int .i64 c.on, .string (str [])] T2)).size fun j ej => (hr.lt j ej).1)
        rw [← HM.out] at hown0
        go_wp2_with fail
        go_loopw [3, 5] (fun vl vk wx => ∃ (k : Nat) (a : Option Addr) (cp : Nat), vl = .slice a (M.length + 1 + k) cp ∧ vk = .int .i64 k ∧ k ≤ c.ws.length ∧ wx.ownsRow w.heap.size T2 2 (.slice a (M.length + 1 + k) cp) (M.length + 1 + k) (tsC ((M ++ [(⟨c.on.toNat, []⟩ : Lp.T)]) ++ wT (c.ws.take k))) ∧ Below w.heap.size w wx) (fun _ vk _ => c.ws.length - (intOf vk).toNat)
        case atStart => exact ⟨0, _, _, rfl, rfl, Nat.zero_le _, (by simpa [wT] using hown0), hBa⟩
        case round =>
          clear hr hown0 hB hBa y1 y2 y3
          obtain ⟨k, a4, c4, rfl, rfl, hk, hr, hB⟩ := hrel
          have y2 : wr.cell? ⟨g, o + i * 3 + 1, none⟩ = some (.slice a1 c.ws.length c1) := (hB.cell (p := ⟨g, o + i * 3 + 1, none⟩) hp).trans x2
          have y3 : wr.cell? ⟨g, o + i * 3 + 2, none⟩ = some (.slice a2 c.to.length c2) := (hB.cell (p := ⟨g, o + i * 3 + 2, none⟩) hp).trans x3
          have hgw : g < wr.heap.size := Nat.lt_of_lt_of_le hp hB.size
          by_cases hkl : k < c.ws.length
          · obtain ⟨g', o', rfl, _, hp', hc'⟩ := strs_cells hW (by omega)
            have t1 := hc' k hkl
            have t3 : wr.cell? ⟨g', o' + k, none⟩ = some (.string (str c.ws[k])) := (hB.cell (p := ⟨g', o' + k, none⟩) hp').trans t1
            have hki : (k : Int) < c.ws.length := by omega
            have HT2 : Hid (tsC ((M ++ [(⟨c.on.toNat, []⟩ : Lp.T)]) ++ wT (c.ws.take (k + 1))) = tsC ((M ++ [(⟨c.on.toNat, []⟩ : Lp.T)]) ++ wT (c.ws.take k)) ++ [.int .i64 0, .string (str c.ws[k])]) := Lib.hid (by rw [tsC_app ((M ++ [(⟨c.on.toNat, []⟩ : Lp.T)])), wT_snoc hkl, ← List.append_assoc, ← tsC_app])
            clear hc' t1
            generalize c.ws[k] = s at *
            go_wp2_with (at_builtin; refine wpList_append_own _ rfl _ _ 52 rfl w.heap.size T2 i0 (.agg #[.int .i64 0, .string ByteArray.empty]) 2 24 Tryd.underlying52 hi hz0 hz1 hz2 rfl (by decide) _ _ _ rfl (hr.alloc _) ⟨wr.heap.size, 0, none⟩ 1 1 [.int .i64 0, .string (str s)] rfl rfl (two_at _ (by simp) _ _ _) (by simp [Value.oneCell']) (by unfold maxLen; omega) (by omega) (by have := hB.size; simp; omega) ?_; intro v' w3 hown' hgrow _; obtain ⟨a5, c5, rfl⟩ := owns_slice hown'; have hB5 := (hB.alloc hB.size (.cells #[.int .i64 0, .string (str s)] T2)).grown hgrow (hB.alloc hB.size (.cells #[.int .i64 0, .string (str s)] T2)).size fun j ej => (hr.lt j ej).1)
            go_roundw
            case rel => exact ⟨k + 1, a5, c5, rfl, by go_num, hkl, by rw [HT2.out]; exact hown', hB5⟩
            case measure => simp [intOf]; omega
          · obtain rfl : k = c.ws.length := by omega
            rw [List.take_length] at hr
            have hr2 : wr.ownsRow w.heap.size T2 2 (.slice a4 (M.length + 1 + c.ws.length + 2 * 0) c4) (M.length + 1 + c.ws.length + 2 * 0) (tsC ((M ++ [(⟨c.on.toNat, []⟩ : Lp.T)]) ++ wT c.ws ++ gT (c.to.take 0))) := by simpa [gT] using hr
            have hB2 := hB
            clear hr hB
            go_wp2_with fail
            go_loopw [3, 6] (fun vl vk wx => ∃ (k : Nat) (a : Option Addr) (cp : Nat), vl = .slice a (M.length + 1 + c.ws.length + 2 * k) cp ∧ vk = .int .i64 k ∧ k ≤ c.to.length ∧ wx.ownsRow w.heap.size T2 2 (.slice a (M.length + 1 + c.ws.length + 2 * k) cp) (M.length + 1 + c.ws.length + 2 * k) (tsC ((M ++ [(⟨c.on.toNat, []⟩ : Lp.T)]) ++ wT c.ws ++ gT (c.to.take k))) ∧ Below w.heap.size w wx) (fun _ vk _ => c.to.length - (intOf vk).toNat)
            case atStart => exact ⟨0, _, _, rfl, rfl, Nat.zero_le _, hr2, hB2⟩
            case round =>
              clear hr2 hB2 y2 y3 hgw
              obtain ⟨k, a4, c4, rfl, rfl, hk, hr, hB⟩ := hrel
              have y2 : wr.cell? ⟨g, o + i * 3 + 1, none⟩ = some (.slice a1 c.ws.length c1) := (hB.cell (p := ⟨g, o + i * 3 + 1, none⟩) hp).trans x2
              have y3 : wr.cell? ⟨g, o + i * 3 + 2, none⟩ = some (.slice a2 c.to.length c2) := (hB.cell (p := ⟨g, o + i * 3 + 2, none⟩) hp).trans x3
              have hgw : g < wr.heap.size := Nat.lt_of_lt_of_le hp hB.size
              by_cases hkl : k < c.to.length
              · obtain ⟨g', o', rfl, _, hp', hc'⟩ := tos_cells hT (by omega)
                obtain ⟨t1, t2⟩ := hc' k hkl
                have t3 : wr.cell? ⟨g', o' + k * 2, none⟩ = some (.int .i64 c.to[k].k) := (hB.cell (p := ⟨g', o' + k * 2, none⟩) hp').trans t1
                have t4 : wr.cell? ⟨g', o' + k * 2 + 1, none⟩ = some (.string (str c.to[k].p)) := (hB.cell (p := ⟨g', o' + k * 2 + 1, none⟩) hp').trans t2
                have hki : (k : Int) < c.to.length := by omega
                have hkk := HK.out _ (List.getElem_mem hkl)
                have HT2 := Lib.hid (gT_snoc hkl ((M ++ [(⟨c.on.toNat, []⟩ : Lp.T)]) ++ wT c.ws) (by omega))
                have hgw' : g' < wr.heap.size := Nat.lt_of_lt_of_le hp' hB.size
                have hBy := hB
                clear hc' t1 t2 hkk
                generalize c.to[k] = s at *
                go_wp2_with (first
                  | (at_builtin; refine wpList_append_own _ rfl _ _ 52 rfl w.heap.size T2 i0 (.agg #[.int .i64 0, .string ByteArray.empty]) 2 24 Tryd.underlying52 hi hz0 hz1 hz2 rfl (by decide) _ _ _ rfl (hown1.alloc _) ⟨w3.heap.size, 0, none⟩ 1 1 [.int .i64 0, .string (str s.p)] rfl rfl (two_at _ (by simp) _ _ _) (by simp [Value.oneCell']) (by unfold maxLen; omega) (by omega) (by have := hB5.size; simp; omega) ?_; intro v' w5 hown2 hgrow2 _; obtain ⟨a6, c6, rfl⟩ := owns_slice hown2; have hB6 := (hB5.alloc hB5.size (.cells #[.int .i64 0, .string (str s.p)] T2)).grown hgrow2 (hB5.alloc hB5.size (.cells #[.int .i64 0, .string (str s.p)] T2)).size fun j ej => (hown1.lt j ej).1)
                  | (at_builtin; refine wpList_append_own _ rfl _ _ 52 rfl w.heap.size T2 i0 (.agg #[.int .i64 0, .string ByteArray.empty]) 2 24 Tryd.underlying52 hi hz0 hz1 hz2 rfl (by decide) _ _ _ rfl (hr.alloc _) ⟨wr.heap.size, 0, none⟩ 1 1 [.int .i64 s.k, .string (str [])] rfl rfl (two_at _ (by simp) _ _ _) (by simp [Value.oneCell']) (by unfold maxLen; omega) (by omega) (by have := hB.size; simp; omega) ?_; intro v' w3 hown1 hgrow1 _; obtain ⟨a5, c5, rfl⟩ := owns_slice hown1; have hB5 := (hB.alloc hB.size (.cells #[.int .i64 s.k, .string (str [])] T2)).grown hgrow1 (hB.alloc hB.size (.cells #[.int .i64 s.k, .string (str [])] T2)).size fun j ej => (hr.lt j ej).1; have u3 : w3.cell? ⟨g, o + i * 3 + 2, none⟩ = some (.slice (some ⟨g', o', none⟩) c.to.length c2) := (hB5.cell (p := ⟨g, o + i * 3 + 2, none⟩) hp).trans x3; have u4 : w3.cell? ⟨g', o' + k * 2 + 1, none⟩ = some (.string (str s.p)) := (hB5.cell (p := ⟨g', o' + k * 2 + 1, none⟩) hp').trans ((hBy.cell (p := ⟨g', o' + k * 2 + 1, none⟩) hp').symm.trans t4)))
                go_roundw
                case rel => exact ⟨k + 1, a6, c6, rfl, by go_num, hkl, by rw [HT2.out, show ∀ (l : List Value) (p q r t : Value), l ++ [p, q, r, t] = (l ++ [p, q]) ++ [r, t] from fun l p q r t => by simp]; exact hown2, hB6⟩
                case measure => simp [intOf]; omega
              · obtain rfl : k = c.to.length := by omega
                rw [List.take_length] at hr
                go_wp2_with fail
                go_roundw
                case rel => exact ⟨i + 1, a4, c4, by rw [HL.out], by go_num, hlt2, by rw [HL.out, HA.out]; exact hr, hB⟩
                case measure => simp [intOf]; omega
    · obtain rfl : i = L.length := by have := hXL.out; omega
      rw [List.take_length] at hr
      have hnl : ¬ (L.length : Int) < (X.length : Int) := by have := hXL.out; omega
      have hS := RShow_any wr w.heap.size at_ ct (Pp.toksA L) hr hlen hsum
      rw [List.take_length]
      go_wp2_with (go_at_call 25; refine hS.mono ?_; rintro e w3 ⟨rfl, hB3⟩)
      go_ret
      exact ⟨rfl, hB.trans (hB3.mono hB.size)⟩
end Go.Proofs.YtlkcpegjkmfngaaDoor.Px
