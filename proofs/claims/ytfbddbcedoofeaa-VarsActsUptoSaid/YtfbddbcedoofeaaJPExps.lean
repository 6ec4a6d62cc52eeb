/-
  (*Table).exports, Exports.
-/
import Derived.Test.YtfbddbcedoofeaaJPAll
import Derived.Test.YtfbddbcedoofeaaJPExp
namespace Go.Proofs.Ytfbddbcedoofeaa.Jw
open Go.RowKit Go.Proofs.Ytfbddbcedoofeaa Go.Proofs.Ytfbddbcedoofeaa.Ww Go.Proofs.Ytfbddbcedoofeaa.Tw Go.Proofs.Ytfbddbcedoofeaa.Kw Go.Maps
set_option maxRecDepth 100000

/-- Is a variable exported? -/
def outP (M : List (Bs × Int)) (all : Bool) (v : Jp.V) : Bool := valA CK M v.n == 1 || (!(valA CK M v.n == 2) && (v.f == 1 || v.f == 3 || (v.f == 2 && all)))
def exportsP (L : List Jp.V) (M : List (Bs × Int)) (all : Bool) : List Jp.V := L.filter (outP M all)
set_option maxHeartbeats 4000000 in
/-- (*Table).exports. -/
theorem PExports1_any (w : World) {tb : Nat} {X : List Nat} {E : List (Bs × KE)} {M : List (Bs × Int)} {all : Bool} {mv mn : Option Nat} {O : Bs → List Nat} (h : TabAt w tb X E M all mv mn O) (v : Jp.V) (hz : v.n.length ≤ 1000000) :
    Calls Try.prog 27 #[.pointer (some ⟨tb, 0, none⟩), .agg (vA v)] w fun e w' => e = .returned (.bool (outP M all v)) ∧ Below w.heap.size w w' := by
  have hps : (str v.n).size ≤ maxLen := by rw [str_size]; unfold maxLen; omega
  have hb := heap_last w (.cells (vA v) PV)
  have hB := (Below.refl w.heap.size w).alloc (Nat.le_refl _) (.cells (vA v) PV)
  have h1 := (h.below hB).below (Below.refl _ _).drew
  have hl := (h1.named.run_look hps).2
  rw [by8_str] at hl
  obtain ⟨c, hc⟩ : ∃ c, valA CK M v.n = c := ⟨_, rfl⟩
  rw [hc] at hl
  change (Instr.lookup 54 (.map mn) (.string (str v.n)) false).run Try.prog (w.alloc (.cells (vA v) PV)).drew = .ok (.int .i64 c) (w.alloc (.cells (vA v) PV)).drew at hl
  have HO : Hid (outP M all v = (c == 1 || (!(c == 2) && (v.f == 1 || v.f == 3 || (v.f == 2 && all))))) := Lib.hid (by unfold outP; rw [hc])
  have t1 := h1.c1
  have t2 := h1.c2
  have hlt := h1.lt
  have hlt0 := h.lt
  have t1' := (h.below hB).c1
  have c0 : (w.alloc (.cells (vA v) PV)).drew.cell? ⟨w.heap.size, 0, none⟩ = _ := cell_at (i := 0) hb rfl
  have c3 : (w.alloc (.cells (vA v) PV)).drew.cell? ⟨w.heap.size, 3, none⟩ = _ := cell_at (i := 3) hb rfl
  have c0' := cell_at (i := 0) hb rfl
  have HB := Lib.hid hB
  clear h h1 hb hc hB
  obtain ⟨vn, vx, vs, vf⟩ := v
  unfold vA at *
  dsimp only at *
  simp only [List.getElem_toArray, List.getElem_cons_zero, List.getElem_cons_succ] at c0 c3 c0'
  generalize outP M all ⟨vn, vx, vs, vf⟩ = R at *
  clear hps
  by_cases h1 : c = 1
  · subst h1
    have hR := HO.out
    simp [*] at hR
    rw [hR]
    clear HO hR
    go_enter Try.func27, Try.ntmps27
    go_wp2_with fail
    go_region
    go_wp2_with fail
    go_ret
    exact ⟨rfl, HB.out.drew⟩
  · have h1b : (c == 1) = false := beq_eq_false_iff_ne.2 h1
    by_cases h2 : c = 2
    · subst h2
      have hR := HO.out
      simp [*] at hR
      rw [hR]
      clear HO hR
      go_enter Try.func27, Try.ntmps27
      go_wp2_with fail
      go_region
      go_wp2_with fail
      go_ret
      exact ⟨rfl, HB.out.drew⟩
    · have h2b : (c == 2) = false := beq_eq_false_iff_ne.2 h2
      by_cases k1 : vf = 1
      · subst k1
        have hR := HO.out
        simp [*] at hR
        rw [hR]
        clear HO hR
        go_enter Try.func27, Try.ntmps27
        go_wp2_with fail
        go_region
        go_wp2_with fail
        go_ret
        exact ⟨rfl, HB.out.drew⟩
      · have k1b : (vf == 1) = false := beq_eq_false_iff_ne.2 k1
        by_cases k3 : vf = 3
        · subst k3
          have hR := HO.out
          simp [*] at hR
          rw [hR]
          clear HO hR
          go_enter Try.func27, Try.ntmps27
          go_wp2_with fail
          go_region
          go_wp2_with fail
          go_ret
          exact ⟨rfl, HB.out.drew⟩
        · have k3b : (vf == 3) = false := beq_eq_false_iff_ne.2 k3
          by_cases k2 : vf = 2
          · subst k2
            cases all with
            | true =>
              have hR := HO.out
              simp [*] at hR
              rw [hR]
              clear HO hR
              go_enter Try.func27, Try.ntmps27
              go_wp2_with fail
              go_region
              go_wp2_with fail
              go_ret
              exact ⟨rfl, HB.out.drew⟩
            | false =>
              have hR := HO.out
              simp [*] at hR
              rw [hR]
              clear HO hR
              go_enter Try.func27, Try.ntmps27
              go_wp2_with fail
              go_region
              go_wp2_with fail
              go_ret
              exact ⟨rfl, HB.out.drew⟩
          · have k2b : (vf == 2) = false := beq_eq_false_iff_ne.2 k2
            have hR := HO.out
            simp [*] at hR
            rw [hR]
            clear HO hR
            go_enter Try.func27, Try.ntmps27
            go_wp2_with fail
            go_region
            go_wp2_with fail
            go_ret
            exact ⟨rfl, HB.out.drew⟩

theorem outP_snoc (M : List (Bs × Int)) (all : Bool) {l : List Jp.V} {i : Nat} (h : i < l.length) : (l.take (i + 1)).filter (outP M all) = (l.take i).filter (outP M all) ++ if outP M all l[i] = true then [l[i]] else [] := by
  rw [List.take_succ_eq_append_getElem h, List.filter_append]
  congr 1
  by_cases h : outP M all l[i] = true
  · rw [if_pos h]; simp [h]
  · rw [if_neg h]; simp [h]
/-- The cells of a row of variables, whatever their type. -/
theorem var_cells2 {w : World} {B : Nat} {t : TypeId} {a : Option Addr} {c : Nat} {l : List Jp.V} (h : w.ownsRow B t 4 (.slice a l.length c) l.length (vsC l)) {i : Nat} (hi : i < l.length) :
    ∃ g, a = some ⟨g, 0, none⟩ ∧ l.length ≤ c ∧ g < w.heap.size ∧ w.cell? ⟨g, i * 4, none⟩ = some (.string (str l[i].n)) ∧ w.cell? ⟨g, i * 4 + 1, none⟩ = some (.string (str l[i].x)) ∧ w.cell? ⟨g, i * 4 + 2, none⟩ = some (.bool l[i].s) ∧ w.cell? ⟨g, i * 4 + 3, none⟩ = some (.int .i64 l[i].f) := by
  obtain ⟨hl, hr⟩ := id h
  rcases hr with ⟨hn, h0⟩ | ⟨g, cap, cur, hv, hb, hg, hn, hc, hs, ht⟩
  · omega
  · cases hv
    have hk : ∀ j u, j < 4 → (vC l[i])[j]? = some u → w.cell? ⟨g, i * 4 + j, none⟩ = some u := fun j u hj hu => by
      have := h.cells (g := g) rfl (i * 4 + j) u (by rw [vsC_get hi hj]; exact hu)
      rw [Addr.add_lit, Nat.zero_add] at this
      exact this
    exact ⟨g, rfl, hn, (Array.getElem?_eq_some_iff.1 hg).1, hk 0 _ (by decide) rfl, hk 1 _ (by decide) rfl, hk 2 _ (by decide) rfl, hk 3 _ (by decide) rfl⟩
def PXRel (W : World) (M : List (Bs × Int)) (all : Bool) (L : List Jp.V) (vo vi : Value) (wr : World) : Prop :=
  ∃ (i : Nat) (q : List Jp.V) (a : Option Addr) (c : Nat), vi = .int .i64 i ∧ i ≤ L.length ∧ q = (L.take i).filter (outP M all) ∧ q.length ≤ i ∧ vo = .slice a q.length c ∧ wr.ownsRow W.heap.size PV 4 (.slice a q.length c) q.length (vsC q) ∧ Below W.heap.size W wr
set_option maxHeartbeats 4000000 in
theorem PExports_nil (w : World) : Calls Try.prog 11 #[.pointer none] w fun e w' => e = .returned (.slice none 0 0) ∧ w = w' := by
  go_enter Try.func11, Try.ntmps11
  go_wp2_with fail
  refine (PAll_nil _).mono ?_
  rintro e w1 ⟨rfl, rfl⟩
  go_wp2_with fail
  refine wp_loop_rounds 1 ?_
  rw [rounds_succ]
  go_wp2_with fail
  go_ret
  exact ⟨rfl, rfl⟩
set_option maxHeartbeats 8000000 in
/-- (*Table).Exports. -/
theorem PExports_any (w : World) {tb : Nat} {X : List Nat} {L : List Jp.V} {M : List (Bs × Int)} {all : Bool} (h : Tab w tb X L M all) (hl : L.length ≤ 100000) (hzs : ∀ v ∈ L, v.n.length ≤ 1000000) :
    Calls Try.prog 11 #[.pointer (some ⟨tb, 0, none⟩)] w (APost w (exportsP L M all)) := by
  obtain ⟨i0, hi0, hq0, hq1, hq2⟩ := info_parts infoPV
  have HAll := Lib.hid (PAll_any w h hl hzs)
  obtain ⟨E, mv, mn, O, h, hEL⟩ := h
  have H := Lib.hid h
  have HX : Hid (exportsP L M all = L.filter (outP M all)) := Lib.hid rfl
  have HS : Hid (∀ (i : Nat) (h : i < L.length), (L.take (i + 1)).filter (outP M all) = (L.take i).filter (outP M all) ++ if outP M all L[i] = true then [L[i]] else []) := Lib.hid fun i h => outP_snoc M all h
  generalize exportsP L M all = XX at *
  clear h hEL
  go_enter Try.func11, Try.ntmps11
  go_wp2_with fail
  refine HAll.out.mono ?_
  rintro e w2 ⟨vk, rfl, hrow, hB2⟩
  obtain ⟨ak, ck, rfl⟩ := owns_slice hrow
  have HRow := Lib.hid hrow
  have HT := Lib.hid (H.out.below hB2)
  clear hrow H HAll
  go_wp2_with fail
  go_loopw [3, 9] (fun vo vi wr => PXRel w2 M all L vo vi wr) (fun _ vi _ => L.length - (intOf vi).toNat)
  case atStart => exact ⟨0, [], none, 0, rfl, Nat.zero_le _, rfl, Nat.le_refl _, rfl, World.ownsRow_nil _ _ _ _, Below.refl _ _⟩
  case round =>
    obtain ⟨i, q, a, c, rfl, hi, hq, hqi, rfl, hro, hB⟩ := hrel
    have HRO := Lib.hid hro
    have HB := Lib.hid hB
    have HQ := Lib.hid hq
    have hws := hB.size
    clear hq
    by_cases hlt2 : i < L.length
    · obtain ⟨g, hga, hcap, hgl, x0, x1, x2, x3⟩ := var_cells2 HRow.out hlt2
      subst hga
      have p0 := (hB.cell (p := ⟨g, i * 4, none⟩) hgl).trans x0
      have p1 := (hB.cell (p := ⟨g, i * 4 + 1, none⟩) hgl).trans x1
      have p2 := (hB.cell (p := ⟨g, i * 4 + 2, none⟩) hgl).trans x2
      have p3 := (hB.cell (p := ⟨g, i * 4 + 3, none⟩) hgl).trans x3
      have hS := HS.out i hlt2
      rw [← HQ.out] at hS
      have hzx := hzs L[i] (List.getElem_mem hlt2)
      generalize L[i] = x at *
      have B1 := (Below.refl wr.heap.size wr).alloc (Nat.le_refl _) (.cells (vA x) PV)
      have hx := heap_last wr (.cells (vA x) PV)
      have hB1 := hB.trans (B1.mono hws)
      have HC := Lib.hid (PExports1_any _ (HT.out.below hB1) x hzx)
      unfold vA at *
      have y0 := cell_at (i := 0) hx rfl
      have y1 := cell_at (i := 1) hx rfl
      have y2 := cell_at (i := 2) hx rfl
      have y3 := cell_at (i := 3) hx rfl
      have HX1 := Lib.hid hx
      have HB1 := Lib.hid hB1
      have HROa := Lib.hid (hro.alloc (.cells #[.string (str x.n), .string (str x.x), .bool x.s, .int .i64 x.f] PV))
      have hki : (i : Int) < L.length := by omega
      have hk0 : (0 : Int) ≤ (i : Int) := Int.natCast_nonneg _
      have hgr : g < wr.heap.size := Nat.lt_of_lt_of_le hgl hws
      obtain ⟨b, hb⟩ : ∃ b, outP M all x = b := ⟨_, rfl⟩
      rw [hb] at HC hS
      clear x0 x1 x2 x3 hB hB1 B1 hx hro hb
      cases b with
      | true =>
        have HQ2 : Hid (q ++ [x] = (L.take (i + 1)).filter (outP M all)) := Lib.hid (by rw [hS, if_pos rfl])
        clear hS
        go_wp2_with fail
        refine HC.out.mono ?_
        rintro e w3 ⟨rfl, B3⟩
        have hx3 := (B3.block _ (by simp)).trans HX1.out
        have z0 := cell_at (i := 0) hx3 rfl
        have z1 := cell_at (i := 1) hx3 rfl
        have z2 := cell_at (i := 2) hx3 rfl
        have z3 := cell_at (i := 3) hx3 rfl
        have hl3 := (Array.getElem?_eq_some_iff.1 hx3).1
        have HRO3 := Lib.hid (owns_below HROa.out B3)
        have HB3 := Lib.hid (HB1.out.trans (B3.mono HB1.out.size))
        have hs3 := HB3.out.size
        clear y0 y1 y2 y3 hx3 B3
        go_wp2_with (at_builtin; refine wpList_append_own_at _ rfl _ _ 38 rfl w2.heap.size PV i0 (.agg #[.string ByteArray.empty, .string ByteArray.empty, .bool false, .int .i64 0]) 4 48 Try.underlying38 hi0 hq0 hq1 hq2 rfl (by decide) _ _ _ rfl (HRO3.out.alloc _) ⟨w3.heap.size, 0, none⟩ 1 1 (vC x) rfl rfl (cells_new _ #[.string (str x.n), .string (str x.x), .bool x.s, .int .i64 x.f] _ rfl) (by simp [vC, Value.oneCell']) (by unfold maxLen; omega) (by omega) (by simp; omega) ?_; intro v4 w4 hown4 hgrow4 _ hat4; obtain ⟨a4, c4, rfl⟩ := owns_slice hown4)
        go_roundw
        case rel => exact ⟨i + 1, q ++ [x], a4, c4, by go_num, hlt2, HQ2.out, by simp; omega, by rw [List.length_append]; rfl, by rw [List.length_append, vsC_snoc]; exact hown4, (HB3.out.alloc hs3 _).grown hgrow4 (by simp; omega) (fun j ej => (HRO3.out.lt j ej).1)⟩
        case measure => simp [intOf]; omega
      | false =>
        have HQ2 : Hid (q = (L.take (i + 1)).filter (outP M all)) := Lib.hid (by rw [hS]; simp)
        clear hS
        go_wp2_with fail
        refine HC.out.mono ?_
        rintro e w3 ⟨rfl, B3⟩
        have HRO3 := Lib.hid (owns_below HROa.out B3)
        have HB3 := Lib.hid (HB1.out.trans (B3.mono HB1.out.size))
        clear y0 y1 y2 y3 B3
        go_wp2_with fail
        go_roundw
        case rel => exact ⟨i + 1, q, a, c, by go_num, hlt2, HQ2.out, by omega, rfl, HRO3.out, HB3.out⟩
        case measure => simp [intOf]; omega
    · obtain rfl : i = L.length := by omega
      rw [List.take_length] at HQ
      have hki : ¬ (L.length : Int) < L.length := by omega
      clear hro hB
      go_wp2_with fail
      go_ret
      rw [HX.out, ← HQ.out]
      exact ⟨_, rfl, own_mono HRO.out hB2.size, hB2.trans (HB.out.mono hB2.size)⟩
end Go.Proofs.Ytfbddbcedoofeaa.Jw
