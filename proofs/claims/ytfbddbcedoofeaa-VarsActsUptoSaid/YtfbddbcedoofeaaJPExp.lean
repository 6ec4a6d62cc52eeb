/-
  (*Table).Export.
-/
import Derived.Test.YtfbddbcedoofeaaJPMay
import Derived.Test.YtfbddbcedoofeaaJExp2
namespace Go.Proofs.Ytfbddbcedoofeaa.Jw
open Go.RowKit Go.Proofs.Ytfbddbcedoofeaa Go.Proofs.Ytfbddbcedoofeaa.Ww Go.Proofs.Ytfbddbcedoofeaa.Tw Go.Proofs.Ytfbddbcedoofeaa.Kw
set_option maxRecDepth 100000

/-- What was chosen, in words. -/
def chosen (yes : Bool) : Int := if yes = true then 1 else 2
def nameM (yes : Bool) (M : List (Bs × Int)) (k : Bs) : List (Bs × Int) := Kp.ins M (k, chosen yes)
section
variable {w w2 : World} {tb : Nat} {X : List Nat} {E : List (Bs × KE)} {M : List (Bs × Int)} {all : Bool} {mv mn : Option Nat} {O : Bs → List Nat}
theorem TabAt.turn (h : TabAt w tb X E M all mv mn O) {X2 : List Nat} {M2 : List (Bs × Int)} {all2 : Bool} {mn2 : Option Nat} (hc : w2.heap[tb]? = some (.cells #[.map mv, .map mn2, .bool all2] PT (0, 0))) (hn : MOpt CK w2 mn2 M2) (hne : ∀ b, mv = some b → mn2 ≠ some b)
    (hmn : ∀ b, mn2 = some b → b < w.heap.size → ∃ es ck, w.heap[b]? = some (.map es ck)) (hkeep : ∀ i, i < w.heap.size → i ≠ tb → mn2 ≠ some i → w2.heap[i]? = w.heap[i]?) (hX : ∀ i ∈ X, i ∈ X2) (hnX : ∀ b, mn2 = some b → b ∈ X2) : TabAt w2 tb X2 E M2 all2 mv mn2 O :=
  ⟨hc, h.vars.block fun b e => hkeep b (h.vars.lt b e) (fun e2 => h.vars.not_cells h.cells (e2 ▸ e)) (hne b e), hn, hne, h.keys,
    h.grown.block (fun e he hg i hi => (by
      obtain ⟨cs, T, fz, h1, h2⟩ := h.grown.kind e he hg i hi
      have hl := h.grown.ltO e he hg i hi
      refine hkeep i hl (fun e2 => ?_) (fun e2 => ?_)
      · rw [e2, h.cells] at h1; cases h1; exact h2 rfl
      · obtain ⟨es, ck, h3⟩ := hmn i e2 hl
        rw [h3] at h1; cases h1)),
    hX _ h.tX, fun b e => hX b (h.vX b e), hnX, fun e he hg i hi => hX i (h.oX e he hg i hi)⟩
theorem MapAt.obj {α : Type} {K : Kind α} {bm : Nat} {L : List (Bs × α)} (h : MapAt K w bm L) : ∃ es ck, w.heap[bm]? = some (.map es ck) := by
  obtain ⟨⟨es, clock, hh, _⟩, _⟩ := h
  exact ⟨es, clock, hh⟩
theorem TabAt.name {bn : Nat} (h : TabAt w tb X E M all mv (some bn) O) {M2 : List (Bs × Int)} (hM : MapAt CK w2 bn M2) (ht : w.mapTurned w2 bn) : TabAt w2 tb X E M2 all mv (some bn) O := by
  have hg := ht.grown
  refine h.turn ((hg.block tb h.lt fun e => MapAt.not_cells h.named h.cells (Option.some.inj e).symm).trans h.cells) hM h.ne (fun b e _ => ?_) (fun i hi _ hn => hg.block i hi fun e => hn e.symm) (fun _ hi => hi) h.nX
  cases e
  exact MapAt.obj h.named
theorem TabAt.setAll (h : TabAt w tb X E M all mv mn O) (yes : Bool) : TabAt (w.setCell ⟨tb, 2, none⟩ (.bool yes)) tb X E M yes mv mn O := by
  refine h.turn (heap_set h.cells _) (h.named.block fun b e => Below.heap_setCell _ _ _ _ fun e2 => h.named.not_cells h.cells (by rw [e, e2])) h.ne (fun b e _ => ?_) (fun i hi hne _ => Below.heap_setCell _ _ _ _ hne) (fun _ hi => hi) h.nX
  subst e
  exact MapAt.obj h.named
theorem TabAt.madeN (h : TabAt w tb X E [] all mv none O) : TabAt ((w.setCell ⟨tb, 1, none⟩ (.map (some w.heap.size))).alloc (.map #[] 0)) tb (w.heap.size :: X) E [] all mv (some w.heap.size) O := by
  have hcm : (w.alloc (.map #[] 0)).setCell ⟨tb, 1, none⟩ (.map (some w.heap.size)) = (w.setCell ⟨tb, 1, none⟩ (.map (some w.heap.size))).alloc (.map #[] 0) := World.setCell_alloc_past _ _ _ _ h.lt
  rw [← hcm]
  have hB := (Below.refl w.heap.size w).alloc (Nat.le_refl _) (.map #[] 0)
  have hlt := h.lt
  refine h.turn (heap_set ((hB.block _ hlt).trans h.cells) _) ((MapAt.new w).setCell (p := ⟨tb, 1, none⟩) (by show w.heap.size ≠ tb; omega) _) (fun b e e2 => ?_) (fun b e hb => ?_) (fun i hi hne _ => (Below.heap_setCell _ _ _ _ hne).trans (hB.block i hi)) (fun _ hi => by simp [hi]) (fun b e => by simp [Option.some.inj e])
  · have := h.vars.lt b e
    have := Option.some.inj e2
    omega
  · have := Option.some.inj e
    omega
theorem names_apart (h : TabAt w tb X E M all mv mn O) {b i : Nat} {s : ByteArray} (hx : w.cell? ⟨b, i, none⟩ = some (.string s)) : b ≠ tb ∧ mn ≠ some b := by
  constructor
  · intro e
    subst e
    match i with
    | 0 => rw [h.c0] at hx; cases hx
    | 1 => rw [h.c1] at hx; cases hx
    | 2 => rw [h.c2] at hx; cases hx
    | i + 3 => simp [World.cell?, h.cells] at hx
  · intro e
    subst e
    obtain ⟨es, ck, h1⟩ := MapAt.obj h.named
    simp [World.cell?, h1] at hx
end

/-- What Export leaves. -/
def XPost (w : World) (tb : Nat) (X : List Nat) (L : List Jp.V) (M : List (Bs × Int)) (all : Bool) (e : Ending) (w' : World) : Prop :=
  e = .returned (.tuple #[]) ∧ ∃ X', Tab w' tb X' L M all ∧ Kept X w w' ∧ ∀ i ∈ X', i ∈ X ∨ w.heap.size ≤ i
theorem PExport_nil (w : World) (yes : Value) (v : Value) : Calls Try.prog 16 #[.pointer none, yes, v] w fun e w' => e = .returned (.tuple #[]) ∧ w = w' := by
  go_enter Try.func16, Try.ntmps16
  go_wp2
  refine bodyPost_ret (results_none rfl _ _ _) rfl ?_
  exact ⟨rfl, rfl⟩
theorem PExport_all (w : World) {tb : Nat} {X : List Nat} {L : List Jp.V} {M : List (Bs × Int)} {all : Bool} (h : Tab w tb X L M all) (yes : Bool) (a : Option Addr) (c : Nat) :
    Calls Try.prog 16 #[.pointer (some ⟨tb, 0, none⟩), .bool yes, .slice a 0 c] w (XPost w tb X L M yes) := by
  obtain ⟨E, mv, mn, O, h, rfl⟩ := h
  have c2 := h.c2
  have f2 := frozen_at h.cells 2
  have hlt := h.lt
  have HA := Lib.hid (h.setAll yes)
  have HK := Lib.hid ((Kept.refl X w).setCell (p := ⟨tb, 2, none⟩) (.inl h.tX) (.bool yes))
  clear h
  go_enter Try.func16, Try.ntmps16
  go_wp2
  refine bodyPost_ret (results_none rfl _ _ _) rfl ?_
  exact ⟨rfl, X, ⟨E, mv, mn, O, HA.out, rfl⟩, HK.out, fun i hi => .inl hi⟩

def NRel (w : World) (tb : Nat) (X1 : List Nat) (E : List (Bs × KE)) (M : List (Bs × Int)) (all yes : Bool) (mv : Option Nat) (bn : Nat) (O : Bs → List Nat) (L : List Bs) (N : Nat) (vi : Value) (wr : World) : Prop :=
  ∃ (i : Nat) (M1 : List (Bs × Int)), vi = .int .i64 i ∧ i ≤ L.length ∧ L.foldl (nameM yes) M = (L.drop i).foldl (nameM yes) M1 ∧ TabAt wr tb X1 E M1 all mv (some bn) O ∧ Kept [tb, bn] w wr ∧ M1.length ≤ N + i
set_option maxHeartbeats 4000000 in
theorem PExport_ts (w : World) {tb : Nat} {X : List Nat} {E : List (Bs × KE)} {M : List (Bs × Int)} {all : Bool} {mv : Option Nat} {bn : Nat} {O : Bs → List Nat} (h : TabAt w tb X E M all mv (some bn) O) (v : Value) (L : List Bs) (hL0 : L ≠ []) (hv : Rd w w.heap.size v (nC L)) (N : Nat) (hM : M.length ≤ N) (hz : N + L.length ≤ 1000000) (hzs : ∀ x ∈ L, x.length ≤ 1000000) :
    Calls Try.prog 16 #[.pointer (some ⟨tb, 0, none⟩), .bool true, v] w (XPost w tb X (E.map fun e => e.2.v) (L.foldl (nameM true) M) all) := by
  obtain ⟨a, c, rfl, hc⟩ := names_rd hv
  have HV := Lib.hid hv
  have H := Lib.hid h
  have hL1 : 0 < L.length := List.length_pos_iff.2 hL0
  have hL2 : ¬ (L.length : Int) = 0 := by omega
  have hL3 : ((L.length : Int) == 0) = false := by simpa using hL2
  have hq := fun (w : World) => run_eql_map_nil (P := Try.prog) w 54 9 58 (some bn) Try.underlying54
  have c1 := h.c1
  have hlt := h.lt
  have HS := Lib.hid h
  have HK0 := Lib.hid (Kept.refl [tb, bn] w)
  have HX : Hid (∀ i ∈ X, i ∈ X ∨ w.heap.size ≤ i) := Lib.hid fun i hi => .inl hi
  have HKX : Hid (∀ i ∈ [tb, bn], i ∈ X ∨ w.heap.size ≤ i) := Lib.hid fun i hi => by
    simp at hi
    rcases hi with rfl | rfl
    · exact .inl h.tX
    · exact .inl (h.nX _ rfl)
  clear h hv hL0
  go_enter Try.func16, Try.ntmps16
  go_wp2_with fail
  clear hq c1
  go_loopw [30] (fun vi wr => NRel w tb X E M all true mv bn O L N vi wr) (fun vi _ => L.length - (intOf vi).toNat)
  case atStart => exact ⟨0, M, rfl, Nat.zero_le _, rfl, HS.out, HK0.out, hM⟩
  case round =>
    obtain ⟨i, M1, rfl, hi, hf, hT, hK, hM1⟩ := hrel
    clear HS HK0
    have d1 := hT.c1
    have hlr := hT.lt
    have HT := Lib.hid hT
    have HK := Lib.hid hK
    by_cases hlt2 : i < L.length
    · obtain ⟨b, o, rfl, hb, hx⟩ := rd_name HV.out hlt2
      have hap := names_apart H.out hx
      have hx2 := (hK.cell (p := ⟨b, o + i, none⟩) hb (by
        intro hm
        simp at hm
        rcases hm with e | e
        · exact hap.1 e
        · exact hap.2 (by rw [e]))).trans hx
      have hxl := hzs _ (List.getElem_mem hlt2)
      obtain ⟨x, hxx⟩ : ∃ x, L[i] = x := ⟨_, rfl⟩
      have HF : Hid (L.foldl (nameM true) M = (L.drop (i + 1)).foldl (nameM true) (Kp.ins M1 (x, chosen true))) := Lib.hid (by rw [hf, List.drop_eq_getElem_cons hlt2, hxx]; rfl)
      rw [hxx] at hx2 hxl
      have hki : (i : Int) < L.length := by omega
      have hk0 : (0 : Int) ≤ (i : Int) := Int.natCast_nonneg _
      have hbr : b < wr.heap.size := Nat.lt_of_lt_of_le hb hK.size
      have hMn : MapAt CK wr bn M1 := hT.named
      clear hf hT hK hx hxx hap
      go_wp2_with (at_mapUpdate; refine wpList_put (K := CK) (p := x) (c := chosen true) _ rfl _ _ _ rfl rfl rfl rfl hMn (by unfold maxLen; omega) (by unfold maxLen; omega) ?_; intro w2 hM2 ht)
      go_roundw
      case rel => exact ⟨i + 1, _, by go_num, hlt2, HF.out, HT.out.name hM2 ht, HK.out.grown ht.grown (fun r e => .inl (by cases e; simp)), by have := Kp.len_ins_le M1 (x, chosen true); omega⟩
      case measure => simp [intOf]; omega
    · obtain rfl : i = L.length := by omega
      rw [List.drop_length] at hf
      have HF : Hid (L.foldl (nameM true) M = M1) := Lib.hid hf
      have hki : ¬ (L.length : Int) < L.length := by omega
      clear hf hT hK
      go_wp2_with fail
      go_end0
      rw [HF.out]
      exact ⟨rfl, X, ⟨E, mv, some bn, O, HT.out, rfl⟩, (Kept.refl X w).trans_new HK.out HKX.out, HX.out⟩

set_option maxHeartbeats 4000000 in
theorem PExport_fs (w : World) {tb : Nat} {X : List Nat} {E : List (Bs × KE)} {M : List (Bs × Int)} {all : Bool} {mv : Option Nat} {bn : Nat} {O : Bs → List Nat} (h : TabAt w tb X E M all mv (some bn) O) (v : Value) (L : List Bs) (hL0 : L ≠ []) (hv : Rd w w.heap.size v (nC L)) (N : Nat) (hM : M.length ≤ N) (hz : N + L.length ≤ 1000000) (hzs : ∀ x ∈ L, x.length ≤ 1000000) :
    Calls Try.prog 16 #[.pointer (some ⟨tb, 0, none⟩), .bool false, v] w (XPost w tb X (E.map fun e => e.2.v) (L.foldl (nameM false) M) all) := by
  obtain ⟨a, c, rfl, hc⟩ := names_rd hv
  have HV := Lib.hid hv
  have H := Lib.hid h
  have hL1 : 0 < L.length := List.length_pos_iff.2 hL0
  have hL2 : ¬ (L.length : Int) = 0 := by omega
  have hL3 : ((L.length : Int) == 0) = false := by simpa using hL2
  have hq := fun (w : World) => run_eql_map_nil (P := Try.prog) w 54 9 58 (some bn) Try.underlying54
  have c1 := h.c1
  have hlt := h.lt
  have HS := Lib.hid h
  have HK0 := Lib.hid (Kept.refl [tb, bn] w)
  have HX : Hid (∀ i ∈ X, i ∈ X ∨ w.heap.size ≤ i) := Lib.hid fun i hi => .inl hi
  have HKX : Hid (∀ i ∈ [tb, bn], i ∈ X ∨ w.heap.size ≤ i) := Lib.hid fun i hi => by
    simp at hi
    rcases hi with rfl | rfl
    · exact .inl h.tX
    · exact .inl (h.nX _ rfl)
  clear h hv hL0
  go_enter Try.func16, Try.ntmps16
  go_wp2_with fail
  clear hq c1
  go_loopw [30] (fun vi wr => NRel w tb X E M all false mv bn O L N vi wr) (fun vi _ => L.length - (intOf vi).toNat)
  case atStart => exact ⟨0, M, rfl, Nat.zero_le _, rfl, HS.out, HK0.out, hM⟩
  case round =>
    obtain ⟨i, M1, rfl, hi, hf, hT, hK, hM1⟩ := hrel
    clear HS HK0
    have d1 := hT.c1
    have hlr := hT.lt
    have HT := Lib.hid hT
    have HK := Lib.hid hK
    by_cases hlt2 : i < L.length
    · obtain ⟨b, o, rfl, hb, hx⟩ := rd_name HV.out hlt2
      have hap := names_apart H.out hx
      have hx2 := (hK.cell (p := ⟨b, o + i, none⟩) hb (by
        intro hm
        simp at hm
        rcases hm with e | e
        · exact hap.1 e
        · exact hap.2 (by rw [e]))).trans hx
      have hxl := hzs _ (List.getElem_mem hlt2)
      obtain ⟨x, hxx⟩ : ∃ x, L[i] = x := ⟨_, rfl⟩
      have HF : Hid (L.foldl (nameM false) M = (L.drop (i + 1)).foldl (nameM false) (Kp.ins M1 (x, chosen false))) := Lib.hid (by rw [hf, List.drop_eq_getElem_cons hlt2, hxx]; rfl)
      rw [hxx] at hx2 hxl
      have hki : (i : Int) < L.length := by omega
      have hk0 : (0 : Int) ≤ (i : Int) := Int.natCast_nonneg _
      have hbr : b < wr.heap.size := Nat.lt_of_lt_of_le hb hK.size
      have hMn : MapAt CK wr bn M1 := hT.named
      clear hf hT hK hx hxx hap
      go_wp2_with (at_mapUpdate; refine wpList_put (K := CK) (p := x) (c := chosen false) _ rfl _ _ _ rfl rfl rfl rfl hMn (by unfold maxLen; omega) (by unfold maxLen; omega) ?_; intro w2 hM2 ht)
      go_roundw
      case rel => exact ⟨i + 1, _, by go_num, hlt2, HF.out, HT.out.name hM2 ht, HK.out.grown ht.grown (fun r e => .inl (by cases e; simp)), by have := Kp.len_ins_le M1 (x, chosen false); omega⟩
      case measure => simp [intOf]; omega
    · obtain rfl : i = L.length := by omega
      rw [List.drop_length] at hf
      have HF : Hid (L.foldl (nameM false) M = M1) := Lib.hid hf
      have hki : ¬ (L.length : Int) < L.length := by omega
      clear hf hT hK
      go_wp2_with fail
      go_end0
      rw [HF.out]
      exact ⟨rfl, X, ⟨E, mv, some bn, O, HT.out, rfl⟩, (Kept.refl X w).trans_new HK.out HKX.out, HX.out⟩

set_option maxHeartbeats 4000000 in
theorem PExport_tn (w : World) {tb : Nat} {X : List Nat} {E : List (Bs × KE)} {M : List (Bs × Int)} {all : Bool} {mv : Option Nat} {O : Bs → List Nat} (h : TabAt w tb X E M all mv none O) (v : Value) (L : List Bs) (hL0 : L ≠ []) (hv : Rd w w.heap.size v (nC L)) (N : Nat) (hM : M.length ≤ N) (hz : N + L.length ≤ 1000000) (hzs : ∀ x ∈ L, x.length ≤ 1000000) :
    Calls Try.prog 16 #[.pointer (some ⟨tb, 0, none⟩), .bool true, v] w (XPost w tb X (E.map fun e => e.2.v) (L.foldl (nameM true) M) all) := by
  obtain ⟨a, c, rfl, hc⟩ := names_rd hv
  have HV := Lib.hid hv
  have H := Lib.hid h
  have hL1 : 0 < L.length := List.length_pos_iff.2 hL0
  have hL2 : ¬ (L.length : Int) = 0 := by omega
  have hL3 : ((L.length : Int) == 0) = false := by simpa using hL2
  have hq := fun (w : World) => run_eql_map_nil (P := Try.prog) w 54 9 58 none Try.underlying54
  have c1 := h.c1
  have hlt := h.lt
  have hmm := @run_makeMap Try.prog
  obtain rfl : M = [] := h.named
  have hS := h.madeN
  have hBa := (Below.refl w.heap.size w).alloc (Nat.le_refl _) (.map #[] 0)
  have hTa := h.below hBa
  have d1 := hTa.c1
  have f1 := frozen_at hTa.cells 1
  have HX : Hid (∀ i ∈ w.heap.size :: X, i ∈ X ∨ w.heap.size ≤ i) := Lib.hid fun i hi => by
    rcases List.mem_cons.1 hi with rfl | hi
    · exact .inr (Nat.le_refl _)
    · exact .inl hi
  have HKX : Hid (∀ i ∈ [tb, w.heap.size], i ∈ X ∨ w.heap.size ≤ i) := Lib.hid fun i hi => by
    simp at hi
    rcases hi with rfl | rfl
    · exact .inl h.tX
    · exact .inr (Nat.le_refl _)
  have hcm : (w.alloc (.map #[] 0)).setCell ⟨tb, 1, none⟩ (.map (some w.heap.size)) = (w.setCell ⟨tb, 1, none⟩ (.map (some w.heap.size))).alloc (.map #[] 0) := World.setCell_alloc_past _ _ _ _ hlt
  have hK0 := ((Kept.refl [tb, w.heap.size] w).alloc (.map #[] 0)).setCell (p := ⟨tb, 1, none⟩) (.inl (by simp)) (.map (some w.heap.size))
  rw [hcm] at hK0
  have HS := Lib.hid hS
  have HK0 := Lib.hid hK0
  clear h hv hL0 hS hTa hBa hcm hK0
  go_enter Try.func16, Try.ntmps16
  go_wp2_with fail
  clear hq c1 hmm d1 f1
  generalize (w.setCell ⟨tb, 1, none⟩ (.map (some w.heap.size))).alloc (.map #[] 0) = W at *
  obtain ⟨bn, hbn⟩ : ∃ bn, bn = w.heap.size := ⟨_, rfl⟩
  rw [show Hid (TabAt W tb (w.heap.size :: X) E [] all mv (some w.heap.size) O) = Hid (TabAt W tb (w.heap.size :: X) E [] all mv (some bn) O) by rw [hbn]] at HS
  rw [show Hid (Kept [tb, w.heap.size] w W) = Hid (Kept [tb, bn] w W) by rw [hbn]] at HK0
  have HKX : Hid (∀ i ∈ [tb, bn], i ∈ X ∨ w.heap.size ≤ i) := Lib.hid (by rw [hbn]; exact HKX.out)
  have hbw : w.heap.size ≤ bn := by omega
  clear hbn
  go_loopw [30] (fun vi wr => NRel w tb (w.heap.size :: X) E [] all true mv bn O L N vi wr) (fun vi _ => L.length - (intOf vi).toNat)
  case atStart => exact ⟨0, [], rfl, Nat.zero_le _, rfl, HS.out, HK0.out, hM⟩
  case round =>
    obtain ⟨i, M1, rfl, hi, hf, hT, hK, hM1⟩ := hrel
    clear HS HK0
    have d1 := hT.c1
    have hlr := hT.lt
    have HT := Lib.hid hT
    have HK := Lib.hid hK
    by_cases hlt2 : i < L.length
    · obtain ⟨b, o, rfl, hb, hx⟩ := rd_name HV.out hlt2
      have hap := names_apart H.out hx
      have hx2 := (hK.cell (p := ⟨b, o + i, none⟩) hb (by
        intro hm
        simp at hm
        rcases hm with e | e
        · exact hap.1 e
        · omega)).trans hx
      have hxl := hzs _ (List.getElem_mem hlt2)
      obtain ⟨x, hxx⟩ : ∃ x, L[i] = x := ⟨_, rfl⟩
      have HF : Hid (L.foldl (nameM true) [] = (L.drop (i + 1)).foldl (nameM true) (Kp.ins M1 (x, chosen true))) := Lib.hid (by rw [hf, List.drop_eq_getElem_cons hlt2, hxx]; rfl)
      rw [hxx] at hx2 hxl
      have hki : (i : Int) < L.length := by omega
      have hk0 : (0 : Int) ≤ (i : Int) := Int.natCast_nonneg _
      have hbr : b < wr.heap.size := Nat.lt_of_lt_of_le hb hK.size
      have hMn : MapAt CK wr bn M1 := hT.named
      clear hf hT hK hx hxx hap
      go_wp2_with (at_mapUpdate; refine wpList_put (K := CK) (p := x) (c := chosen true) _ rfl _ _ _ rfl rfl rfl rfl hMn (by unfold maxLen; omega) (by unfold maxLen; omega) ?_; intro w2 hM2 ht)
      go_roundw
      case rel => exact ⟨i + 1, _, by go_num, hlt2, HF.out, HT.out.name hM2 ht, HK.out.grown ht.grown (fun r e => .inl (by cases e; simp)), by have := Kp.len_ins_le M1 (x, chosen true); omega⟩
      case measure => simp [intOf]; omega
    · obtain rfl : i = L.length := by omega
      rw [List.drop_length] at hf
      have HF : Hid (L.foldl (nameM true) [] = M1) := Lib.hid hf
      have hki : ¬ (L.length : Int) < L.length := by omega
      clear hf hT hK
      go_wp2_with fail
      go_end0
      rw [HF.out]
      exact ⟨rfl, (w.heap.size :: X), ⟨E, mv, some bn, O, HT.out, rfl⟩, (Kept.refl X w).trans_new HK.out HKX.out, HX.out⟩

set_option maxHeartbeats 4000000 in
theorem PExport_fn (w : World) {tb : Nat} {X : List Nat} {E : List (Bs × KE)} {M : List (Bs × Int)} {all : Bool} {mv : Option Nat} {O : Bs → List Nat} (h : TabAt w tb X E M all mv none O) (v : Value) (L : List Bs) (hL0 : L ≠ []) (hv : Rd w w.heap.size v (nC L)) (N : Nat) (hM : M.length ≤ N) (hz : N + L.length ≤ 1000000) (hzs : ∀ x ∈ L, x.length ≤ 1000000) :
    Calls Try.prog 16 #[.pointer (some ⟨tb, 0, none⟩), .bool false, v] w (XPost w tb X (E.map fun e => e.2.v) (L.foldl (nameM false) M) all) := by
  obtain ⟨a, c, rfl, hc⟩ := names_rd hv
  have HV := Lib.hid hv
  have H := Lib.hid h
  have hL1 : 0 < L.length := List.length_pos_iff.2 hL0
  have hL2 : ¬ (L.length : Int) = 0 := by omega
  have hL3 : ((L.length : Int) == 0) = false := by simpa using hL2
  have hq := fun (w : World) => run_eql_map_nil (P := Try.prog) w 54 9 58 none Try.underlying54
  have c1 := h.c1
  have hlt := h.lt
  have hmm := @run_makeMap Try.prog
  obtain rfl : M = [] := h.named
  have hS := h.madeN
  have hBa := (Below.refl w.heap.size w).alloc (Nat.le_refl _) (.map #[] 0)
  have hTa := h.below hBa
  have d1 := hTa.c1
  have f1 := frozen_at hTa.cells 1
  have HX : Hid (∀ i ∈ w.heap.size :: X, i ∈ X ∨ w.heap.size ≤ i) := Lib.hid fun i hi => by
    rcases List.mem_cons.1 hi with rfl | hi
    · exact .inr (Nat.le_refl _)
    · exact .inl hi
  have HKX : Hid (∀ i ∈ [tb, w.heap.size], i ∈ X ∨ w.heap.size ≤ i) := Lib.hid fun i hi => by
    simp at hi
    rcases hi with rfl | rfl
    · exact .inl h.tX
    · exact .inr (Nat.le_refl _)
  have hcm : (w.alloc (.map #[] 0)).setCell ⟨tb, 1, none⟩ (.map (some w.heap.size)) = (w.setCell ⟨tb, 1, none⟩ (.map (some w.heap.size))).alloc (.map #[] 0) := World.setCell_alloc_past _ _ _ _ hlt
  have hK0 := ((Kept.refl [tb, w.heap.size] w).alloc (.map #[] 0)).setCell (p := ⟨tb, 1, none⟩) (.inl (by simp)) (.map (some w.heap.size))
  rw [hcm] at hK0
  have HS := Lib.hid hS
  have HK0 := Lib.hid hK0
  clear h hv hL0 hS hTa hBa hcm hK0
  go_enter Try.func16, Try.ntmps16
  go_wp2_with fail
  clear hq c1 hmm d1 f1
  generalize (w.setCell ⟨tb, 1, none⟩ (.map (some w.heap.size))).alloc (.map #[] 0) = W at *
  obtain ⟨bn, hbn⟩ : ∃ bn, bn = w.heap.size := ⟨_, rfl⟩
  rw [show Hid (TabAt W tb (w.heap.size :: X) E [] all mv (some w.heap.size) O) = Hid (TabAt W tb (w.heap.size :: X) E [] all mv (some bn) O) by rw [hbn]] at HS
  rw [show Hid (Kept [tb, w.heap.size] w W) = Hid (Kept [tb, bn] w W) by rw [hbn]] at HK0
  have HKX : Hid (∀ i ∈ [tb, bn], i ∈ X ∨ w.heap.size ≤ i) := Lib.hid (by rw [hbn]; exact HKX.out)
  have hbw : w.heap.size ≤ bn := by omega
  clear hbn
  go_loopw [30] (fun vi wr => NRel w tb (w.heap.size :: X) E [] all false mv bn O L N vi wr) (fun vi _ => L.length - (intOf vi).toNat)
  case atStart => exact ⟨0, [], rfl, Nat.zero_le _, rfl, HS.out, HK0.out, hM⟩
  case round =>
    obtain ⟨i, M1, rfl, hi, hf, hT, hK, hM1⟩ := hrel
    clear HS HK0
    have d1 := hT.c1
    have hlr := hT.lt
    have HT := Lib.hid hT
    have HK := Lib.hid hK
    by_cases hlt2 : i < L.length
    · obtain ⟨b, o, rfl, hb, hx⟩ := rd_name HV.out hlt2
      have hap := names_apart H.out hx
      have hx2 := (hK.cell (p := ⟨b, o + i, none⟩) hb (by
        intro hm
        simp at hm
        rcases hm with e | e
        · exact hap.1 e
        · omega)).trans hx
      have hxl := hzs _ (List.getElem_mem hlt2)
      obtain ⟨x, hxx⟩ : ∃ x, L[i] = x := ⟨_, rfl⟩
      have HF : Hid (L.foldl (nameM false) [] = (L.drop (i + 1)).foldl (nameM false) (Kp.ins M1 (x, chosen false))) := Lib.hid (by rw [hf, List.drop_eq_getElem_cons hlt2, hxx]; rfl)
      rw [hxx] at hx2 hxl
      have hki : (i : Int) < L.length := by omega
      have hk0 : (0 : Int) ≤ (i : Int) := Int.natCast_nonneg _
      have hbr : b < wr.heap.size := Nat.lt_of_lt_of_le hb hK.size
      have hMn : MapAt CK wr bn M1 := hT.named
      clear hf hT hK hx hxx hap
      go_wp2_with (at_mapUpdate; refine wpList_put (K := CK) (p := x) (c := chosen false) _ rfl _ _ _ rfl rfl rfl rfl hMn (by unfold maxLen; omega) (by unfold maxLen; omega) ?_; intro w2 hM2 ht)
      go_roundw
      case rel => exact ⟨i + 1, _, by go_num, hlt2, HF.out, HT.out.name hM2 ht, HK.out.grown ht.grown (fun r e => .inl (by cases e; simp)), by have := Kp.len_ins_le M1 (x, chosen false); omega⟩
      case measure => simp [intOf]; omega
    · obtain rfl : i = L.length := by omega
      rw [List.drop_length] at hf
      have HF : Hid (L.foldl (nameM false) [] = M1) := Lib.hid hf
      have hki : ¬ (L.length : Int) < L.length := by omega
      clear hf hT hK
      go_wp2_with fail
      go_end0
      rw [HF.out]
      exact ⟨rfl, (w.heap.size :: X), ⟨E, mv, some bn, O, HT.out, rfl⟩, (Kept.refl X w).trans_new HK.out HKX.out, HX.out⟩

/-- What Export makes of what was chosen. -/
def exportM (M : List (Bs × Int)) (yes : Bool) (L : List Bs) : List (Bs × Int) := L.foldl (nameM yes) M
/-- (*Table).Export. -/
theorem PExport_any (w : World) {tb : Nat} {X : List Nat} {LV : List Jp.V} {M : List (Bs × Int)} {all : Bool} (h : Tab w tb X LV M all) (yes : Bool) (v : Value) (L : List Bs) (hv : Rd w w.heap.size v (nC L)) (N : Nat) (hM : M.length ≤ N) (hz : N + L.length ≤ 1000000) (hzs : ∀ x ∈ L, x.length ≤ 1000000) :
    Calls Try.prog 16 #[.pointer (some ⟨tb, 0, none⟩), .bool yes, v] w (XPost w tb X LV (exportM M yes L) (if L = [] then yes else all)) := by
  by_cases hL : L = []
  · subst hL
    obtain ⟨a, c, rfl, _⟩ := hv.shape
    rw [if_pos rfl]
    exact PExport_all w h yes a c
  · rw [if_neg hL]
    obtain ⟨E, mv, mn, O, h, rfl⟩ := h
    cases yes <;> cases mn
    · exact PExport_fn w h v L hL hv N hM hz hzs
    · exact PExport_fs w h v L hL hv N hM hz hzs
    · exact PExport_tn w h v L hL hv N hM hz hzs
    · exact PExport_ts w h v L hL hv N hM hz hzs
end Go.Proofs.Ytfbddbcedoofeaa.Jw
