/-
  (parse.Command).tokens: a command as tokens.
-/
import Derived.Test.YtlkcpegjkmfngaaDoorPCommand
namespace Go.Proofs.YtlkcpegjkmfngaaDoor.Px
open Go.RowKit Go.Proofs.YtlkcpegjkmfngaaDoor Go.Proofs.YtlkcpegjkmfngaaDoor.Lx
set_option maxRecDepth 100000

theorem four_at (W : World) {n : Nat} (hn : W.heap.size = n) (x y z u : Value) (T : TypeId) : ∀ (j : Nat) (v : Value), [x, y, z, u][j]? = some v → (W.alloc (.cells #[x, y, z, u] T)).cell? ((⟨n, 0, none⟩ : Addr).add j) = some v := by
  subst hn
  intro j v hj
  rw [Addr.add_lit, World.cell?_alloc_at _ _ _ _ (by simp)]
  match j, hj with
  | 0, hj => simpa using hj
  | 1, hj => simpa using hj
  | 2, hj => simpa using hj
  | 3, hj => simpa using hj
theorem tsC_app (a b : List Lp.T) : tsC (a ++ b) = tsC a ++ tsC b := List.flatMap_append
/-- The tokens of the first words. -/
def wT (ws : List Bs) : List Lp.T := ws.map fun s => ⟨0, s⟩
def gT (gs : List Pp.G) : List Lp.T := gs.flatMap fun g => [⟨g.k.toNat, []⟩, ⟨0, g.p⟩]
theorem toks_is (c : Pp.C) : c.toks = wT c.ws ++ gT c.to := rfl
theorem gT_len (gs : List Pp.G) : (gT gs).length = 2 * gs.length := by
  induction gs with
  | nil => rfl
  | cons g r ih => show ([_, _] ++ gT r).length = _; rw [List.length_append, ih]; simp; omega
theorem wT_snoc {ws : List Bs} {i : Nat} (h : i < ws.length) : tsC (wT (ws.take (i + 1))) = tsC (wT (ws.take i)) ++ [.int .i64 0, .string (str ws[i])] := by
  rw [List.take_succ_eq_append_getElem h]
  unfold wT
  rw [List.map_append, tsC_app]
  rfl
theorem gT_snoc {gs : List Pp.G} {i : Nat} (h : i < gs.length) (L : List Lp.T) (hk : 0 ≤ gs[i].k) : tsC (L ++ gT (gs.take (i + 1))) = tsC (L ++ gT (gs.take i)) ++ [.int .i64 gs[i].k, .string (str []), .int .i64 0, .string (str gs[i].p)] := by
  rw [List.take_succ_eq_append_getElem h]
  have e : ((gs[i].k.toNat : Nat) : Int) = gs[i].k := by omega
  unfold gT
  rw [List.flatMap_append, ← List.append_assoc, tsC_app]
  show _ ++ [Value.int .i64 ((gs[i].k.toNat : Nat) : Int), .string (str []), .int .i64 ((0 : Nat) : Int), .string (str gs[i].p)] = _
  rw [e]; rfl
/-- What tokens returns. -/
def ToksPost (w : World) (c : Pp.C) (e : Ending) (w' : World) : Prop := ∃ a cp, e = .returned (.slice a c.toks.length cp) ∧ w'.ownsRow w.heap.size TT 2 (.slice a c.toks.length cp) c.toks.length (tsC c.toks) ∧ Below w.heap.size w w'
theorem owns_base {w : World} {lo lo' : Nat} {e : TypeId} {z n : Nat} {v : Value} {xs : List Value} (h : w.ownsRow lo e z v n xs) (hl : lo' ≤ lo) : w.ownsRow lo' e z v n xs := by
  refine ⟨h.1, ?_⟩
  rcases h.2 with h | ⟨g, cap, cur, h1, h2, h3⟩
  · exact .inl h
  · exact .inr ⟨g, cap, cur, h1, by omega, h3⟩

set_option maxHeartbeats 1000000 in
theorem tokens_any (w : World) (c : Pp.C) (vw vt : Value) (hok : c.okB = true) (hI : In w (· < w.heap.size) ⟨c, vw, vt⟩) (hl : c.to.length ≤ 100000) (hw : c.ws.length ≤ 100000) :
    Calls Tryd.prog 18 #[.agg #[.int .i64 c.on, vw, vt]] w (ToksPost w c) := by
  obtain ⟨a1, c1, h1, _⟩ := hI.1.shape
  obtain ⟨a2, c2, h2, _⟩ := hI.2.shape
  simp only at h1 h2
  subst h1 h2
  have hW := hI.1
  have hT := hI.2
  simp only at hT hW
  have HK := Lib.hid fun g (hg : g ∈ c.to) => Pp.red_is ((Pp.ok_is hok).1 g hg)
  clear hI hok
  obtain ⟨i0, hi, hz0, hz1, hz2⟩ := info_parts infoT
  obtain ⟨w0, hw0⟩ : ∃ w0, w0 = w.alloc (.cells #[.int .i64 c.on, .slice a1 c.ws.length c1, .slice a2 c.to.length c2] C1) := ⟨_, rfl⟩
  have hbox : w0.heap[w.heap.size]? = some (.cells #[.int .i64 c.on, .slice a1 c.ws.length c1, .slice a2 c.to.length c2] C1 (0, 0)) := by rw [hw0]; exact heap_new _ _ rfl
  have hB0 : Below w.heap.size w w0 := by rw [hw0]; exact (Below.refl _ _).alloc (Nat.le_refl _) _
  have hs0 : w.heap.size + 1 ≤ w0.heap.size := by rw [hw0]; simp
  have hr0 : w0.ownsRow (w.heap.size + 1) TT 2 (.slice none 0 0) 0 [] := World.ownsRow_nil _ _ _ _
  obtain ⟨q0, q1, q2⟩ := box3 hbox
  go_enter Tryd.func18, Tryd.ntmps18
  go_wp2_with fail
  rw [← hw0]
  clear hw0
  go_loopw [3, 11] (fun vl vi wr => ∃ (i : Nat) (a : Option Addr) (cp : Nat), vl = .slice a i cp ∧ vi = .int .i64 i ∧ i ≤ c.ws.length ∧ wr.ownsRow (w.heap.size + 1) TT 2 (.slice a i cp) i (tsC (wT (c.ws.take i))) ∧ Below (w.heap.size + 1) w0 wr) (fun _ vi _ => c.ws.length - (intOf vi).toNat)
  case atStart => exact ⟨0, none, 0, rfl, rfl, Nat.zero_le _, hr0, Below.refl _ _⟩
  case round =>
    obtain ⟨i, a, cp, rfl, rfl, hi', hr, hB⟩ := hrel
    by_cases hlt : i < c.ws.length
    · obtain ⟨g, o, rfl, hc, hp, hcells⟩ := strs_cells hW (by omega)
      have x1 := hcells i hlt
      have y1 : wr.cell? ⟨g, o + i, none⟩ = some (.string (str c.ws[i])) := (hB.cell (p := ⟨g, o + i, none⟩) (Nat.lt_succ_of_lt hp)).trans ((hB0.cell (p := ⟨g, o + i, none⟩) hp).trans x1)
      have HT := Lib.hid (wT_snoc hlt)
      clear hcells x1
      generalize c.ws[i] = s at *
      go_wp2_with (at_builtin; refine wpList_append_own _ rfl _ _ 45 rfl (w.heap.size + 1) TT i0 (.agg #[.int .i64 0, .string ByteArray.empty]) 2 24 Tryd.underlying45 hi hz0 hz1 hz2 rfl (by decide) _ _ _ rfl (hr.alloc _) ⟨wr.heap.size, 0, none⟩ 1 1 [.int .i64 0, .string (str s)] rfl rfl (two_at _ (by simp) _ _ _) (by simp [Value.oneCell']) (by unfold maxLen; omega) (by omega) (by have := hB.size; simp; omega) ?_; intro v' w3 hown' hgrow _; obtain ⟨a3, c3, rfl⟩ := owns_slice hown'; have hB5 := (hB.alloc (by have := hB.size; omega) (.cells #[.int .i64 0, .string (str s)] TT)).grown hgrow (by have := hB.size; simp; omega) fun j ej => (hr.lt j ej).1)
      go_roundw
      case rel => exact ⟨i + 1, a3, c3, rfl, by go_num, hlt, by rw [HT.out]; exact hown', hB5⟩
      case measure => simp [intOf]; omega
    · obtain rfl : i = c.ws.length := by omega
      rw [List.take_length] at hr
      have p1 : wr.cell? ⟨w.heap.size, 2, none⟩ = some (.slice a2 c.to.length c2) := (hB.cell (p := ⟨w.heap.size, 2, none⟩) (Nat.lt_succ_self _)).trans q2
      have hr1 : wr.ownsRow (w.heap.size + 1) TT 2 (.slice a (c.ws.length + 2 * 0) cp) (c.ws.length + 2 * 0) (tsC (wT c.ws ++ gT (c.to.take 0))) := by simpa [gT] using hr
      clear hr
      have hB1 := hB
      clear hB
      go_wp2_with fail
      go_loopw [3, 24] (fun vl vi wx => ∃ (i : Nat) (a : Option Addr) (cp : Nat), vl = .slice a (c.ws.length + 2 * i) cp ∧ vi = .int .i64 i ∧ i ≤ c.to.length ∧ wx.ownsRow (w.heap.size + 1) TT 2 (.slice a (c.ws.length + 2 * i) cp) (c.ws.length + 2 * i) (tsC (wT c.ws ++ gT (c.to.take i))) ∧ Below (w.heap.size + 1) w0 wx) (fun _ vi _ => c.to.length - (intOf vi).toNat)
      case atStart => exact ⟨0, a, cp, rfl, rfl, Nat.zero_le _, hr1, hB1⟩
      case round =>
        clear hr1 hB1
        obtain ⟨i, a, cp, rfl, rfl, hi', hr, hB⟩ := hrel
        by_cases hlt : i < c.to.length
        · obtain ⟨g, o, rfl, hc, hp, hcells⟩ := tos_cells hT (by omega)
          obtain ⟨x1, x2⟩ := hcells i hlt
          have y1 : wr.cell? ⟨g, o + i * 2, none⟩ = some (.int .i64 c.to[i].k) := (hB.cell (p := ⟨g, o + i * 2, none⟩) (Nat.lt_succ_of_lt hp)).trans ((hB0.cell (p := ⟨g, o + i * 2, none⟩) hp).trans x1)
          have y2 : wr.cell? ⟨g, o + i * 2 + 1, none⟩ = some (.string (str c.to[i].p)) := (hB.cell (p := ⟨g, o + i * 2 + 1, none⟩) (Nat.lt_succ_of_lt hp)).trans ((hB0.cell (p := ⟨g, o + i * 2 + 1, none⟩) hp).trans x2)
          have hk := HK.out _ (List.getElem_mem hlt)
          have HT2 := Lib.hid (gT_snoc hlt (wT c.ws) (by omega))
          clear hcells x1 x2 hk
          generalize c.to[i] = s at *
          go_wp2_with (at_builtin; refine wpList_append_own _ rfl _ _ 45 rfl (w.heap.size + 1) TT i0 (.agg #[.int .i64 0, .string ByteArray.empty]) 2 24 Tryd.underlying45 hi hz0 hz1 hz2 rfl (by decide) _ _ _ rfl ((hr.alloc _).alloc _) ⟨wr.heap.size + 1, 0, none⟩ 2 2 [.int .i64 s.k, .string (str []), .int .i64 0, .string (str s.p)] rfl rfl (four_at _ (by simp) _ _ _ _ _) (by simp [Value.oneCell']) (by unfold maxLen; omega) (by omega) (by have := hB.size; simp; omega) ?_; intro v' w3 hown' hgrow _; obtain ⟨a3, c3, rfl⟩ := owns_slice hown'; have hBa := fun o => hB.alloc (by have := hB.size; omega) o; have hB5 := (((hBa _).alloc (by have := (hBa (.cells #[] TT)).size; simp at *; omega) _).grown hgrow (by have := hB.size; simp; omega) fun j ej => (hr.lt j ej).1))
          go_roundw
          case rel => exact ⟨i + 1, a3, c3, rfl, by go_num, hlt, by rw [HT2.out]; exact hown', hB5⟩
          case measure => simp [intOf]; omega
        · obtain rfl : i = c.to.length := by omega
          rw [List.take_length] at hr
          have HF : ToksPost w c (.returned (.slice a (c.ws.length + 2 * c.to.length) cp)) wr := by
            have e : c.toks.length = c.ws.length + 2 * c.to.length := by rw [toks_is, List.length_append, gT_len]; simp [wT]
            refine ⟨a, cp, by rw [e], ?_, hB0.trans (hB.mono (Nat.le_succ _))⟩
            rw [e, toks_is]
            exact owns_base hr (Nat.le_succ _)
          go_wp2_with fail
          go_ret
          exact HF
end Go.Proofs.YtlkcpegjkmfngaaDoor.Px
