/-
  flatironref11.Set.
-/
import Derived.Test.YtebagfadcjgllaaGreatDoorJSmall0
namespace Go.Proofs.YtebagfadcjgllaaGreatDoor.Jw
open Go.RowKit Go.Proofs.YtebagfadcjgllaaGreatDoor Go.Proofs.YtebagfadcjgllaaGreatDoor.Ww Go.Proofs.YtebagfadcjgllaaGreatDoor.Tw
set_option maxRecDepth 100000

/-- The answer's box. -/
theorem results_one {P : Program} {fn : Func} {p : Tmp} {ty : TypeId} (h : fn.results = #[.cell p ty]) (tmps : Array Value) (w : World) (g : Nat) (t : TypeId) (cs : Array Value) (fr : Nat × Nat) (d : TypeDesc)
    (hp : tmps.getD p undef = .pointer (some ⟨g, 0, none⟩)) (hg : w.heap[g]? = some (.cells cs t fr))
    (hu : P.underlying ty = some d) (hd : (match d with | .struct _ | .array _ _ => true | _ => false) = true) (hi : (P.info? ty).map (·.size) = some cs.size) :
    (results fn tmps).run P w = .ok (.agg cs) w := by
  have hp' : tmps[p]?.getD undef = .pointer (some ⟨g, 0, none⟩) := by simpa using hp
  simp [results, h, hp', asAddr, run_loadVar_row w g t ty cs fr d hg hu hd hi]
def zeroT : Array Value := #[.slice none 0 0, .slice none 0 0, .slice none 0 0, .bool false]
def tA (vl vy vn : Value) (all : Bool) : Array Value := #[vl, vy, vn, .bool all]
theorem one_t (a1 a2 a3 : Option Addr) (n1 n2 n3 c1 c2 c3 : Nat) (all : Bool) : (tA (.slice a1 n1 c1) (.slice a2 n2 c2) (.slice a3 n3 c3) all).all (·.oneCell') = true := by simp [tA, Value.oneCell']
theorem less_is (a b : Bs) : Op.bytesLess (str a).toList (str b).toList = Op.bytesLess a b := by rw [toList_by8, toList_by8]; rfl
theorem insA_step (v x : Jp.V) (d : Bool) (r : List Jp.V) : Jp.insA v d (x :: r) = (if d = false ∧ Op.bytesLess x.n v.n = false then [v] else []) ++ (if x.n = v.n then [] else [x]) ++ Jp.insA v (d || !Op.bytesLess x.n v.n) r := rfl
/-- The three boxes that Set begins with. -/
structure Three (w : World) (t v : Array Value) (W : World) : Prop where
  t : W.heap[w.heap.size]? = some (.cells t TT (0, 0))
  v : W.heap[w.heap.size + 1]? = some (.cells v VT (0, 0))
  o : W.heap[w.heap.size + 2]? = some (.cells zeroT TT (0, 0))
  below : Below w.heap.size w W
theorem Three.new (w : World) (t v : Array Value) : Three w t v (((w.alloc (.cells t TT)).alloc (.cells v VT)).alloc (.cells zeroT TT)) := by
  have h1 := heap_last w (.cells t TT)
  have h2 := heap_last (w.alloc (.cells t TT)) (.cells v VT)
  have h3 := heap_last ((w.alloc (.cells t TT)).alloc (.cells v VT)) (.cells zeroT TT)
  rw [World.size_alloc] at h2
  rw [World.size_alloc, World.size_alloc] at h3
  have B1 := (Below.refl (w.alloc (.cells t TT)).heap.size (w.alloc (.cells t TT))).alloc (Nat.le_refl _) (.cells v VT)
  have B2 := (Below.refl ((w.alloc (.cells t TT)).alloc (.cells v VT)).heap.size ((w.alloc (.cells t TT)).alloc (.cells v VT))).alloc (Nat.le_refl _) (.cells zeroT TT)
  refine ⟨(B2.block _ (by simp; omega)).trans ((B1.block _ (by simp)).trans h1), (B2.block _ (by simp)).trans h2, h3, (((Below.refl _ _).alloc (Nat.le_refl _) _).alloc (by simp) _).alloc (by simp; omega) _⟩
theorem Three.on {w W W' : World} {t v : Array Value} (h : Three w t v W) (hB : Below W.heap.size W W') : Three w t v W' :=
  ⟨(hB.block _ (Array.getElem?_eq_some_iff.1 h.t).1).trans h.t, (hB.block _ (Array.getElem?_eq_some_iff.1 h.v).1).trans h.v, (hB.block _ (Array.getElem?_eq_some_iff.1 h.o).1).trans h.o, h.below.trans (hB.mono h.below.size)⟩
theorem grow_on {W wr w4 : World} {n : Nat} {o : Obj} {B : Nat} {row : Option Nat} (hB : Below B W wr) (hs : B ≤ wr.heap.size) (hg : ((wr.drewN n).alloc o).grownBy w4 row) (hr : ∀ j, row = some j → B ≤ j) : Below B W w4 :=
  ((below_drewN hB n).alloc hs o).grown hg (by rw [World.size_alloc]; exact Nat.le_succ_of_le hs) hr
def SRel (W : World) (l : List Jp.V) (v : Jp.V) (vo vd vi : Value) (wr : World) : Prop :=
  ∃ (i : Nat) (d : Bool) (q : List Jp.V), vi = .int .i64 i ∧ vd = .bool d ∧ i ≤ l.length ∧ q.length ≤ 2 * i ∧ wr.ownsRow W.heap.size VT 4 vo q.length (vsC q) ∧ Below W.heap.size W wr ∧ Jp.insA v false l = q ++ Jp.insA v d (l.drop i)
/-- What Set returns. -/
def SetPost (w : World) (lo : Nat) (vy vn : Value) (all : Bool) (l : List Jp.V) (e : Ending) (w' : World) : Prop :=
  ∃ vl, e = .returned (.agg #[vl, vy, vn, .bool all]) ∧ w'.ownsRow lo VT 4 vl l.length (vsC l) ∧ Below w.heap.size w w'
theorem own_set {w : World} {lo g : Nat} {v : Value} {n : Nat} {xs : List Value} {cs old : Array Value} (h : w.ownsRow lo VT 4 v n xs) (hg : w.heap[g]? = some (.cells old TT (0, 0))) : (w.setRow g cs).ownsRow lo VT 4 v n xs := by
  obtain ⟨hl, hr⟩ := h
  refine ⟨hl, ?_⟩
  rcases hr with hr | ⟨k, cap, cur, hv, hb, hk, hrest⟩
  · exact .inl hr
  · refine .inr ⟨k, cap, cur, hv, hb, ?_, hrest⟩
    rw [setRow_other _ _ _ _ (fun e => by subst e; rw [hg] at hk; cases hk)]
    exact hk

theorem own_setc {w : World} {lo g i : Nat} {v u : Value} {n : Nat} {xs : List Value} {old : Array Value} (h : w.ownsRow lo VT 4 v n xs) (hg : w.heap[g]? = some (.cells old TT (0, 0))) : (w.setCell ⟨g, i, none⟩ u).ownsRow lo VT 4 v n xs := by
  obtain ⟨hl, hr⟩ := h
  refine ⟨hl, ?_⟩
  rcases hr with hr | ⟨k, cap, cur, hv, hb, hk, hrest⟩
  · exact .inl hr
  · refine .inr ⟨k, cap, cur, hv, hb, ?_, hrest⟩
    rw [Below.heap_setCell _ _ _ _ (fun e => by subst e; rw [hg] at hk; cases hk)]
    exact hk
/-- Behind the last store. -/
structure Fin (w : World) (u b c d : Value) (X : World) : Prop where
  t : X.heap[w.heap.size]? = some (.cells #[u, b, c, d] TT (0, 0))
  o : X.heap[w.heap.size + 2]? = some (.cells zeroT TT (0, 0))
  below : Below w.heap.size w X
theorem Three.fin {w W : World} {a b c d : Value} {v : Array Value} (h : Three w #[a, b, c, d] v W) (u : Value) : Fin w u b c d (W.setCell ⟨w.heap.size, 0, none⟩ u) :=
  ⟨heap_set h.t u, (Below.heap_setCell _ _ _ _ (by simp)).trans h.o, h.below.setCell (p := ⟨w.heap.size, 0, none⟩) (Nat.le_refl _) u⟩
theorem Fin.own {w W : World} {a b c d : Value} {v : Array Value} (h : Three w #[a, b, c, d] v W) {B lo : Nat} {vl : Value} {n : Nat} {xs : List Value} (hl : lo ≤ B) (ho : W.ownsRow B VT 4 vl n xs) (u : Value) (cs : Array Value) :
    ((W.setCell ⟨w.heap.size, 0, none⟩ u).setRow (w.heap.size + 2) cs).ownsRow lo VT 4 vl n xs :=
  own_set (own_setc (own_mono ho hl) h.t) (h.fin u).o

set_option maxHeartbeats 8000000 in
theorem Set_put_f (w : World) (lo : Nat) (a1 a2 a3 : Option Addr) (c1 n2 c2 n3 c3 : Nat) (all : Bool) (l : List Jp.V) (v : Jp.V) (on ox : ByteArray) (os : Bool) (ov : Int)  (hlo : lo ≤ w.heap.size) (hl : w.ownsRow lo VT 4 (.slice a1 l.length c1) l.length (vsC l)) (hz : l.length ≤ 10000)
    (hG : ∀ W, W.ownsRow lo VT 4 (.slice a1 l.length c1) l.length (vsC l) → Calls Tryz.prog 18 #[.agg #[.slice a1 l.length c1, .slice a2 n2 c2, .slice a3 n3 c3, .bool all], .string (str v.n)] W fun e w' => e = .returned (.tuple #[.agg #[.string on, .string ox, .bool os, .int .i64 ov], .bool false]) ∧ Below W.heap.size W w') :
    Calls Tryz.prog 12 #[.agg (tA (.slice a1 l.length c1) (.slice a2 n2 c2) (.slice a3 n3 c3) all), .agg (vA v)] w (SetPost w lo (.slice a2 n2 c2) (.slice a3 n3 c3) all (Jp.insA v false l)) := by
  obtain ⟨i0, hi0, hz0, hz1, hz2⟩ := info_parts infoVT
  have h3 := Three.new w (tA (.slice a1 l.length c1) (.slice a2 n2 c2) (.slice a3 n3 c3) all) (vA v)
  have H3 := Lib.hid h3
  have d0 := cell_at (i := 0) h3.t rfl
  have d1 := cell_at (i := 1) h3.t rfl
  have d2 := cell_at (i := 2) h3.t rfl
  have d3 := cell_at (i := 3) h3.t rfl
  have b0 := cell_at (i := 0) h3.v rfl
  have hGet := hG _ (owns_below hl h3.below)
  have HL := Lib.hid hl
  clear h3 hl hG
  simp only [tA, vA, zeroT] at d0 d1 d2 d3 b0 hGet
  have HGet := Lib.hid hGet
  clear hGet
  unfold tA vA
  go_enter Tryz.func12, Tryz.ntmps12
  go_wp2_with fail
  refine HGet.out.mono ?_
  rintro e w1 ⟨rfl, B1⟩
  have HB1 := Lib.hid B1
  have h31 := H3.out.on B1
  have ob := heap_last w1 (.cells #[.string on, .string ox, .bool os, .int .i64 ov] VT)
  have H3W := Lib.hid (h31.on ((Below.refl w1.heap.size w1).alloc (Nat.le_refl _) (.cells #[.string on, .string ox, .bool os, .int .i64 ov] VT)))
  have hv3 := cell_at (i := 3) H3W.out.v rfl
  have o3 := cell_at (i := 3) ob rfl
  simp only [vA] at hv3
  clear ob h31 B1 d0 d1 d2 d3 b0
  go_wp2_with fail
  generalize hW : w1.alloc (.cells #[.string on, .string ox, .bool os, .int .i64 ov] VT) = W at *
  go_loopw [7, 8, 9] (fun vo vd vi wr => SRel W l v vo vd vi wr) (fun _ _ vi _ => l.length - (intOf vi).toNat)
  case atStart => exact ⟨0, false, [], rfl, rfl, Nat.zero_le _, Nat.le_refl _, World.ownsRow_nil _ _ _ _, Below.refl _ _, rfl⟩
  case round =>
    obtain ⟨i, d, q, rfl, rfl, hi, hq, hro, hB, hins⟩ := hrel
    obtain ⟨va, vc, hvv⟩ := owns_slice hro
    subst hvv
    have h3r := H3W.out.on hB
    have t0 := cell_at (i := 0) h3r.t rfl
    have v0 := cell_at (i := 0) h3r.v rfl
    have v1 := cell_at (i := 1) h3r.v rfl
    have v2 := cell_at (i := 2) h3r.v rfl
    have v3 := cell_at (i := 3) h3r.v rfl
    simp only [tA, vA] at t0 v0 v1 v2 v3
    have HB := Lib.hid hB
    have hws := hB.size
    have HRO := Lib.hid hro
    have HROd := Lib.hid (show ∀ n, (wr.drewN n).ownsRow W.heap.size VT 4 (.slice va q.length vc) q.length (vsC q) from fun n => hro)
    have HBw := Lib.hid h3r.below
    have H3R := Lib.hid h3r
    by_cases hlt : i < l.length
    · obtain ⟨g, rfl, hc, hgl, _, x0, x1, x2, x3⟩ := var_cells HL.out hlt
      have p0 := (h3r.below.cell (p := ⟨g, i * 4, none⟩) hgl).trans x0
      have p1 := (h3r.below.cell (p := ⟨g, i * 4 + 1, none⟩) hgl).trans x1
      have p2 := (h3r.below.cell (p := ⟨g, i * 4 + 2, none⟩) hgl).trans x2
      have p3 := (h3r.below.cell (p := ⟨g, i * 4 + 3, none⟩) hgl).trans x3
      rw [List.drop_eq_getElem_cons hlt] at hins
      have hki : (i : Int) < l.length := by omega
      have hk0 : (0 : Int) ≤ (i : Int) := Int.natCast_nonneg _
      clear hro hB h3r hv3 o3
      generalize l[i] = x at *
      cases d with
      | true =>
        cases hless : Op.bytesLess x.n v.n with
        | true =>
          by_cases hk : x.n = v.n
          · skip
            have hls : Op.bytesLess (str x.n).toList (str v.n).toList = true := by rw [less_is]; exact hless
            have hke := beq_yes (a := str x.n) (b := str v.n) (by rw [by8_str, by8_str]; exact hk)
            have HIN : Hid (Jp.insA v false l = (q) ++ Jp.insA v true (l.drop (i + 1))) := Lib.hid (by rw [hins, insA_step, hless, if_pos hk]; simp)
            clear hins hless hk
            go_wp2_with fail
            go_quiet (fail)
            go_wp2_with fail
            go_quiet (fail)
            go_wp2_with fail
            go_roundw
            case rel => exact ⟨i + 1, true, q, by go_num, rfl, hlt, by first | omega | (simp; omega), HROd.out _, below_drewN HB.out _, HIN.out⟩
            case measure => simp [intOf]; omega
          · skip
            have hls : Op.bytesLess (str x.n).toList (str v.n).toList = true := by rw [less_is]; exact hless
            have hke := beq_no (a := str x.n) (b := str v.n) (by rw [by8_str, by8_str]; exact hk)
            have HIN : Hid (Jp.insA v false l = (q ++ [x]) ++ Jp.insA v true (l.drop (i + 1))) := Lib.hid (by rw [hins, insA_step, hless, if_neg hk]; simp)
            clear hins hless hk
            go_wp2_with fail
            go_quiet (fail)
            go_wp2_with fail
            go_quiet (fail)
            go_wp2_with (at_builtin; refine wpList_append_own_at _ rfl _ _ 37 rfl W.heap.size VT i0 (.agg #[.string ByteArray.empty, .string ByteArray.empty, .bool false, .int .i64 0]) 4 48 Tryz.underlying37 hi0 hz0 hz1 hz2 rfl (by decide) _ _ _ rfl ((HROd.out _).alloc _) ⟨wr.heap.size, 0, none⟩ 1 1 (vC x) rfl rfl (cells_new _ #[.string (str (x).n), .string (str (x).x), .bool (x).s, .int .i64 (x).f] _ rfl) (by simp [vC, Value.oneCell']) (by unfold maxLen; omega) (by omega) (by rw [World.size_alloc]; exact Nat.le_succ_of_le hws) ?_; intro v4b w4b hown4b hgrow4b _ hat4b; obtain ⟨a4b, c4b, rfl⟩ := owns_slice hown4b; have HB4b := Lib.hid (grow_on HB.out hws hgrow4b (fun j ej => (HRO.out.lt j ej).1)))
            go_roundw
            case rel => exact ⟨i + 1, true, q ++ [x], by go_num, rfl, hlt, by first | omega | (simp; omega), by rw [List.length_append, vsC_snoc]; exact hown4b, HB4b.out, HIN.out⟩
            case measure => simp [intOf]; omega
        | false =>
          by_cases hk : x.n = v.n
          · skip
            have hls : Op.bytesLess (str x.n).toList (str v.n).toList = false := by rw [less_is]; exact hless
            have hke := beq_yes (a := str x.n) (b := str v.n) (by rw [by8_str, by8_str]; exact hk)
            have HIN : Hid (Jp.insA v false l = (q) ++ Jp.insA v true (l.drop (i + 1))) := Lib.hid (by rw [hins, insA_step, hless, if_pos hk]; simp)
            clear hins hless hk
            go_wp2_with fail
            go_quiet (fail)
            go_wp2_with fail
            go_quiet (fail)
            go_wp2_with fail
            go_roundw
            case rel => exact ⟨i + 1, true, q, by go_num, rfl, hlt, by first | omega | (simp; omega), HROd.out _, below_drewN HB.out _, HIN.out⟩
            case measure => simp [intOf]; omega
          · skip
            have hls : Op.bytesLess (str x.n).toList (str v.n).toList = false := by rw [less_is]; exact hless
            have hke := beq_no (a := str x.n) (b := str v.n) (by rw [by8_str, by8_str]; exact hk)
            have HIN : Hid (Jp.insA v false l = (q ++ [x]) ++ Jp.insA v true (l.drop (i + 1))) := Lib.hid (by rw [hins, insA_step, hless, if_neg hk]; simp)
            clear hins hless hk
            go_wp2_with fail
            go_quiet (fail)
            go_wp2_with fail
            go_quiet (fail)
            go_wp2_with (at_builtin; refine wpList_append_own_at _ rfl _ _ 37 rfl W.heap.size VT i0 (.agg #[.string ByteArray.empty, .string ByteArray.empty, .bool false, .int .i64 0]) 4 48 Tryz.underlying37 hi0 hz0 hz1 hz2 rfl (by decide) _ _ _ rfl ((HROd.out _).alloc _) ⟨wr.heap.size, 0, none⟩ 1 1 (vC x) rfl rfl (cells_new _ #[.string (str (x).n), .string (str (x).x), .bool (x).s, .int .i64 (x).f] _ rfl) (by simp [vC, Value.oneCell']) (by unfold maxLen; omega) (by omega) (by rw [World.size_alloc]; exact Nat.le_succ_of_le hws) ?_; intro v4b w4b hown4b hgrow4b _ hat4b; obtain ⟨a4b, c4b, rfl⟩ := owns_slice hown4b; have HB4b := Lib.hid (grow_on HB.out hws hgrow4b (fun j ej => (HRO.out.lt j ej).1)))
            go_roundw
            case rel => exact ⟨i + 1, true, q ++ [x], by go_num, rfl, hlt, by first | omega | (simp; omega), by rw [List.length_append, vsC_snoc]; exact hown4b, HB4b.out, HIN.out⟩
            case measure => simp [intOf]; omega
      | false =>
        cases hless : Op.bytesLess x.n v.n with
        | true =>
          by_cases hk : x.n = v.n
          · skip
            have hls : Op.bytesLess (str x.n).toList (str v.n).toList = true := by rw [less_is]; exact hless
            have hke := beq_yes (a := str x.n) (b := str v.n) (by rw [by8_str, by8_str]; exact hk)
            have HIN : Hid (Jp.insA v false l = (q) ++ Jp.insA v false (l.drop (i + 1))) := Lib.hid (by rw [hins, insA_step, hless, if_pos hk]; simp)
            clear hins hless hk
            go_wp2_with fail
            go_quiet (fail)
            go_wp2_with fail
            go_quiet (fail)
            go_wp2_with fail
            go_roundw
            case rel => exact ⟨i + 1, false, q, by go_num, rfl, hlt, by first | omega | (simp; omega), HROd.out _, below_drewN HB.out _, HIN.out⟩
            case measure => simp [intOf]; omega
          · skip
            have hls : Op.bytesLess (str x.n).toList (str v.n).toList = true := by rw [less_is]; exact hless
            have hke := beq_no (a := str x.n) (b := str v.n) (by rw [by8_str, by8_str]; exact hk)
            have HIN : Hid (Jp.insA v false l = (q ++ [x]) ++ Jp.insA v false (l.drop (i + 1))) := Lib.hid (by rw [hins, insA_step, hless, if_neg hk]; simp)
            clear hins hless hk
            go_wp2_with fail
            go_quiet (fail)
            go_wp2_with fail
            go_quiet (fail)
            go_wp2_with (at_builtin; refine wpList_append_own_at _ rfl _ _ 37 rfl W.heap.size VT i0 (.agg #[.string ByteArray.empty, .string ByteArray.empty, .bool false, .int .i64 0]) 4 48 Tryz.underlying37 hi0 hz0 hz1 hz2 rfl (by decide) _ _ _ rfl ((HROd.out _).alloc _) ⟨wr.heap.size, 0, none⟩ 1 1 (vC x) rfl rfl (cells_new _ #[.string (str (x).n), .string (str (x).x), .bool (x).s, .int .i64 (x).f] _ rfl) (by simp [vC, Value.oneCell']) (by unfold maxLen; omega) (by omega) (by rw [World.size_alloc]; exact Nat.le_succ_of_le hws) ?_; intro v4b w4b hown4b hgrow4b _ hat4b; obtain ⟨a4b, c4b, rfl⟩ := owns_slice hown4b; have HB4b := Lib.hid (grow_on HB.out hws hgrow4b (fun j ej => (HRO.out.lt j ej).1)))
            go_roundw
            case rel => exact ⟨i + 1, false, q ++ [x], by go_num, rfl, hlt, by first | omega | (simp; omega), by rw [List.length_append, vsC_snoc]; exact hown4b, HB4b.out, HIN.out⟩
            case measure => simp [intOf]; omega
        | false =>
          by_cases hk : x.n = v.n
          · skip
            have hls : Op.bytesLess (str x.n).toList (str v.n).toList = false := by rw [less_is]; exact hless
            have hke := beq_yes (a := str x.n) (b := str v.n) (by rw [by8_str, by8_str]; exact hk)
            have HIN : Hid (Jp.insA v false l = (q ++ [v]) ++ Jp.insA v true (l.drop (i + 1))) := Lib.hid (by rw [hins, insA_step, hless, if_pos hk]; simp)
            clear hins hless hk
            go_wp2_with fail
            go_quiet (fail)
            go_wp2_with (at_builtin; refine wpList_append_own_at _ rfl _ _ 37 rfl W.heap.size VT i0 (.agg #[.string ByteArray.empty, .string ByteArray.empty, .bool false, .int .i64 0]) 4 48 Tryz.underlying37 hi0 hz0 hz1 hz2 rfl (by decide) _ _ _ rfl ((HROd.out _).alloc _) ⟨wr.heap.size, 0, none⟩ 1 1 (vC v) rfl rfl (cells_new _ #[.string (str (v).n), .string (str (v).x), .bool (v).s, .int .i64 (v).f] _ rfl) (by simp [vC, Value.oneCell']) (by unfold maxLen; omega) (by omega) (by rw [World.size_alloc]; exact Nat.le_succ_of_le hws) ?_; intro v4a w4a hown4a hgrow4a _ hat4a; obtain ⟨a4a, c4a, rfl⟩ := owns_slice hown4a; have HB4a := Lib.hid (grow_on HB.out hws hgrow4a (fun j ej => (HRO.out.lt j ej).1)); have h34 := H3W.out.on HB4a.out; have HO4d := Lib.hid (show ∀ m, (w4a.drewN m).ownsRow W.heap.size VT 4 (.slice a4a (q.length + 1) c4a) (q.length + 1) (vsC q ++ vC v) from fun m => hown4a); have t0a := cell_at (i := 0) h34.t rfl; have v0a := cell_at (i := 0) h34.v rfl; simp only [tA, vA] at t0a v0a; have hw4 := h34.below; have p0a := (hw4.cell (p := ⟨g, i * 4, none⟩) hgl).trans x0; have p1a := (hw4.cell (p := ⟨g, i * 4 + 1, none⟩) hgl).trans x1; have p2a := (hw4.cell (p := ⟨g, i * 4 + 2, none⟩) hgl).trans x2; have p3a := (hw4.cell (p := ⟨g, i * 4 + 3, none⟩) hgl).trans x3; have hs4 := HB4a.out.size)
            go_quiet (fail)
            go_wp2_with fail
            go_roundw
            case rel => exact ⟨i + 1, true, q ++ [v], by go_num, rfl, hlt, by first | omega | (simp; omega), by rw [List.length_append, vsC_snoc]; exact HO4d.out _, below_drewN HB4a.out _, HIN.out⟩
            case measure => simp [intOf]; omega
          · skip
            have hls : Op.bytesLess (str x.n).toList (str v.n).toList = false := by rw [less_is]; exact hless
            have hke := beq_no (a := str x.n) (b := str v.n) (by rw [by8_str, by8_str]; exact hk)
            have HIN : Hid (Jp.insA v false l = (q ++ [v] ++ [x]) ++ Jp.insA v true (l.drop (i + 1))) := Lib.hid (by rw [hins, insA_step, hless, if_neg hk]; simp)
            clear hins hless hk
            go_wp2_with fail
            go_quiet (fail)
            go_wp2_with (at_builtin; refine wpList_append_own_at _ rfl _ _ 37 rfl W.heap.size VT i0 (.agg #[.string ByteArray.empty, .string ByteArray.empty, .bool false, .int .i64 0]) 4 48 Tryz.underlying37 hi0 hz0 hz1 hz2 rfl (by decide) _ _ _ rfl ((HROd.out _).alloc _) ⟨wr.heap.size, 0, none⟩ 1 1 (vC v) rfl rfl (cells_new _ #[.string (str (v).n), .string (str (v).x), .bool (v).s, .int .i64 (v).f] _ rfl) (by simp [vC, Value.oneCell']) (by unfold maxLen; omega) (by omega) (by rw [World.size_alloc]; exact Nat.le_succ_of_le hws) ?_; intro v4a w4a hown4a hgrow4a _ hat4a; obtain ⟨a4a, c4a, rfl⟩ := owns_slice hown4a; have HB4a := Lib.hid (grow_on HB.out hws hgrow4a (fun j ej => (HRO.out.lt j ej).1)); have h34 := H3W.out.on HB4a.out; have HO4d := Lib.hid (show ∀ m, (w4a.drewN m).ownsRow W.heap.size VT 4 (.slice a4a (q.length + 1) c4a) (q.length + 1) (vsC q ++ vC v) from fun m => hown4a); have t0a := cell_at (i := 0) h34.t rfl; have v0a := cell_at (i := 0) h34.v rfl; simp only [tA, vA] at t0a v0a; have hw4 := h34.below; have p0a := (hw4.cell (p := ⟨g, i * 4, none⟩) hgl).trans x0; have p1a := (hw4.cell (p := ⟨g, i * 4 + 1, none⟩) hgl).trans x1; have p2a := (hw4.cell (p := ⟨g, i * 4 + 2, none⟩) hgl).trans x2; have p3a := (hw4.cell (p := ⟨g, i * 4 + 3, none⟩) hgl).trans x3; have hs4 := HB4a.out.size)
            go_quiet (fail)
            go_wp2_with (at_builtin; refine wpList_append_own_at _ rfl _ _ 37 rfl W.heap.size VT i0 (.agg #[.string ByteArray.empty, .string ByteArray.empty, .bool false, .int .i64 0]) 4 48 Tryz.underlying37 hi0 hz0 hz1 hz2 rfl (by decide) _ _ _ rfl ((HO4d.out _).alloc _) ⟨w4a.heap.size, 0, none⟩ 1 1 (vC x) rfl rfl (cells_new _ #[.string (str (x).n), .string (str (x).x), .bool (x).s, .int .i64 (x).f] _ rfl) (by simp [vC, Value.oneCell']) (by unfold maxLen; omega) (by omega) (by rw [World.size_alloc]; exact Nat.le_succ_of_le hs4) ?_; intro v4b w4b hown4b hgrow4b _ hat4b; obtain ⟨a4b, c4b, rfl⟩ := owns_slice hown4b; have HB4b := Lib.hid (grow_on HB4a.out hs4 hgrow4b (fun j ej => ((HO4d.out 0).lt j ej).1)))
            go_roundw
            case rel => exact ⟨i + 1, true, q ++ [v] ++ [x], by go_num, rfl, hlt, by first | omega | (simp; omega), by rw [List.length_append, List.length_append, vsC_snoc, vsC_snoc]; exact hown4b, HB4b.out, HIN.out⟩
            case measure => simp [intOf]; omega
    · obtain rfl : i = l.length := by omega
      rw [List.drop_length] at hins
      have hki : ¬ (l.length : Int) < l.length := by omega
      have f0 := frozen_at h3r.t 0
      have hWlo : lo ≤ W.heap.size := Nat.le_trans hlo (by rw [← hW, World.size_alloc]; exact Nat.le_succ_of_le (Nat.le_trans H3.out.below.size HB1.out.size))
      have hltb := (Array.getElem?_eq_some_iff.1 h3r.t).1
      cases d with
      | true =>
        have HA : Hid (Jp.insA v false l = q) := Lib.hid (by rw [hins]; simp [Jp.insA])
        have hF := Lib.hid (h3r.fin (.slice va q.length vc))
        have e0 := cell_at (i := 0) hF.out.t rfl
        have e1 := cell_at (i := 1) hF.out.t rfl
        have e2 := cell_at (i := 2) hF.out.t rfl
        have e3 := cell_at (i := 3) hF.out.t rfl
        clear hro hB h3r hv3 o3 hins
        go_wp2_with (refine wpList_store_row rfl TT _ _ rfl (w.heap.size + 2) (tA (.slice va q.length vc) (.slice a2 n2 c2) (.slice a3 n3 c3) all) rfl rfl TT zeroT hF.out.o sizeT rfl (one_t va a2 a3 q.length n2 n3 vc c2 c3 all) ?_)
        (try simp only [Exit.inBlock, Exit.then])
        refine bodyPost_ret (results_one Tryz.results12 _ _ (w.heap.size + 2) TT (tA (.slice va q.length vc) (.slice a2 n2 c2) (.slice a3 n3 c3) all) (0, 0) _ rfl (setRow_heap _ _ _ _ _ _ hF.out.o) undT rfl sizeT) rfl ?_
        rw [HA.out]
        exact ⟨_, rfl, Fin.own H3R.out hWlo HRO.out _ _, below_setRow hF.out.below (by omega) _⟩
      | false =>
        have HA : Hid (Jp.insA v false l = q ++ [v]) := Lib.hid (by rw [hins]; simp [Jp.insA])
        clear hro hB h3r hv3 o3 hins
        go_wp2_with (first
          | (at_builtin; refine wpList_append_own_at _ rfl _ _ 37 rfl W.heap.size VT i0 (.agg #[.string ByteArray.empty, .string ByteArray.empty, .bool false, .int .i64 0]) 4 48 Tryz.underlying37 hi0 hz0 hz1 hz2 rfl (by decide) _ _ _ rfl (HRO.out.alloc _) ⟨wr.heap.size, 0, none⟩ 1 1 (vC v) rfl rfl (cells_new _ #[.string (str v.n), .string (str v.x), .bool v.s, .int .i64 v.f] _ rfl) (by simp [vC, Value.oneCell']) (by unfold maxLen; omega) (by omega) (by rw [World.size_alloc]; exact Nat.le_succ_of_le hws) ?_; intro v4 w4 hown4 hgrow4 _ hat4; obtain ⟨a4, c4, rfl⟩ := owns_slice hown4; have HB4 := Lib.hid (((HB.out).alloc hws _).grown hgrow4 (by rw [World.size_alloc]; exact Nat.le_succ_of_le hws) (fun j ej => (HRO.out.lt j ej).1)); have h34 := H3W.out.on HB4.out; have H34 := Lib.hid h34; have f4 := frozen_at h34.t 0; have t4 := cell_at (i := 0) h34.t rfl; have hlt4 := (Array.getElem?_eq_some_iff.1 h34.t).1; have hF := Lib.hid (h34.fin (.slice a4 (q.length + 1) c4)); have e0 := cell_at (i := 0) hF.out.t rfl; have e1 := cell_at (i := 1) hF.out.t rfl; have e2 := cell_at (i := 2) hF.out.t rfl; have e3 := cell_at (i := 3) hF.out.t rfl; clear h34; simp only [tA] at t4)
          | (refine wpList_store_row rfl TT _ _ rfl (w.heap.size + 2) (tA (.slice a4 (q.length + 1) c4) (.slice a2 n2 c2) (.slice a3 n3 c3) all) rfl rfl TT zeroT hF.out.o sizeT rfl (one_t a4 a2 a3 (q.length + 1) n2 n3 c4 c2 c3 all) ?_))
        (try simp only [Exit.inBlock, Exit.then])
        refine bodyPost_ret (results_one Tryz.results12 _ _ (w.heap.size + 2) TT (tA (.slice a4 (q.length + 1) c4) (.slice a2 n2 c2) (.slice a3 n3 c3) all) (0, 0) _ rfl (setRow_heap _ _ _ _ _ _ hF.out.o) undT rfl sizeT) rfl ?_
        rw [HA.out]
        exact ⟨_, rfl, by have := Fin.own H34.out hWlo hown4 (.slice a4 (q.length + 1) c4) (tA (.slice a4 (q.length + 1) c4) (.slice a2 n2 c2) (.slice a3 n3 c3) all); rw [List.length_append, vsC_snoc]; exact this, below_setRow hF.out.below (by omega) _⟩
end Go.Proofs.YtebagfadcjgllaaGreatDoor.Jw
