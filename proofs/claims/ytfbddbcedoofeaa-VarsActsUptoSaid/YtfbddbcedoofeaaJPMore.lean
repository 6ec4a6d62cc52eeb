/-
  (*Table).More.
-/
import Derived.Deep.RegionHeld3
import Derived.Test.YtfbddbcedoofeaaJPGrow
namespace Go.Proofs.Ytfbddbcedoofeaa.Jw
open Go.RowKit Go.Proofs.Ytfbddbcedoofeaa Go.Proofs.Ytfbddbcedoofeaa.Ww Go.Proofs.Ytfbddbcedoofeaa.Tw Go.Proofs.Ytfbddbcedoofeaa.Kw
set_option maxRecDepth 100000

theorem run_put {α : Type} {K : Kind α} {w : World} {bm : Nat} {L : List (Bs × α)} (hM : MapAt K w bm L) (p : Bs) (c : α) (hp : p.length ≤ maxLen) (hn : L.length < maxLen) :
    ∃ w', (Instr.mapUpdate K.mt (.map (some bm)) (.string (str p)) (K.val c)).run Try.prog w = .ok () w' ∧ MapAt K w' bm (Kp.ins L (p, c)) ∧ w.mapTurned w' bm := by
  obtain ⟨w', hrun, r1, r2⟩ := hM.own.store key K.und hn (key_of (by rw [str_size]; exact hp)) (K.elem_mk c)
  rw [by8_str, Kp.put_mapOf K.enc (f := (p, c)) hM.sorted] at r1
  exact ⟨w', hrun, MapAt.of_own r1 (Kp.sorted_ins hM.sorted), r2⟩
theorem SPost.from_ {w W w' : World} {tb : Nat} {X : List Nat} {L : List Jp.V} {M : List (Bs × Int)} {all : Bool} {n : Int} {e : Ending} (hB : Below w.heap.size w W) (h : SPost W tb X L M all n e w') : SPost w tb X L M all n e w' := by
  obtain ⟨he, X', h1, h2, h3⟩ := h
  exact ⟨he, X', h1, (Kept.of_below hB).trans h2, fun i hi => (h3 i hi).imp id fun h => Nat.le_trans hB.size h⟩

theorem PMore_nil (w : World) (v : Jp.V) : Calls Try.prog 18 #[.pointer none, .agg (vA v)] w fun e w' => e = .returned (.int .i64 1) ∧ Below w.heap.size w w' := by
  unfold vA
  go_enter Try.func18, Try.ntmps18
  go_wp2_with fail
  go_ret
  exact ⟨rfl, (Below.refl _ w).alloc (Nat.le_refl _) _⟩
theorem PMore_wrong (w : World) (tb : Nat) (v : Jp.V) (hr : Jp.rightA v = false) : Calls Try.prog 18 #[.pointer (some ⟨tb, 0, none⟩), .agg (vA v)] w fun e w' => e = .returned (.int .i64 1) ∧ Below w.heap.size w w' := by
  have hb := heap_last w (.cells (vA v) PV)
  have c0 := cell_at (i := 0) hb rfl
  have c1 := cell_at (i := 1) hb rfl
  have c2 := cell_at (i := 2) hb rfl
  have c3 := cell_at (i := 3) hb rfl
  have hW := fun W => PWrong_any W v
  rw [hr] at hW
  have hB := (Below.refl w.heap.size w).alloc (Nat.le_refl _) (.cells (vA v) PV)
  clear hb hr
  unfold vA at *
  have HW := Lib.hid hW
  clear hW
  go_enter Try.func18, Try.ntmps18
  go_wp2_with fail
  refine (HW.out _).mono ?_
  rintro e w1 ⟨rfl, B1⟩
  go_wp2_with fail
  go_ret
  exact ⟨rfl, hB.trans (B1.mono hB.size)⟩

set_option maxHeartbeats 4000000 in
theorem PMore_less (w : World) {tb : Nat} {X : List Nat} {E : List (Bs × KE)} {M : List (Bs × Int)} {all : Bool} {mv mn : Option Nat} {O : Bs → List Nat} (h : TabAt w tb X E M all mv mn O) (v : Jp.V) (hr : Jp.rightA v = true) (hz : v.n.length ≤ 1000000) (o : Jp.V) (q : Option Addr) (hlt : v.f < o.f)
    (hV : keV (valA KK E v.n) = .agg #[.string (str o.n), .string (str o.x), .bool o.s, .int .i64 o.f, .pointer q]) (hb : (Kp.get E v.n).isSome = true) :
    Calls Try.prog 18 #[.pointer (some ⟨tb, 0, none⟩), .agg (vA v)] w fun e w' => e = .returned (.int .i64 0) ∧ Below w.heap.size w w' := by
  have hps : (str v.n).size ≤ maxLen := by rw [str_size]; unfold maxLen; omega
  have hlk := fun (W : World) (hM : MOpt KK W mv E) => (hM.run_look hps).1
  rw [by8_str, hb] at hlk
  change ∀ W, MOpt KK W mv E → (Instr.lookup 53 (.map mv) (.string (str v.n)) true).run Try.prog W = .ok (.tuple #[keV (valA KK E v.n), .bool true]) W at hlk
  rw [hV] at hlk
  have HLK := Lib.hid hlk
  have hbx := heap_last w (.cells (vA v) PV)
  have hB := (Below.refl w.heap.size w).alloc (Nat.le_refl _) (.cells (vA v) PV)
  have c0 := cell_at (i := 0) hbx rfl
  have c1 := cell_at (i := 1) hbx rfl
  have c2 := cell_at (i := 2) hbx rfl
  have c3 := cell_at (i := 3) hbx rfl
  have hW := fun W => PWrong_any W v
  rw [hr] at hW
  have H := Lib.hid h
  have HBX := Lib.hid hbx
  have htb := h.lt
  clear h hV hb hr hlk hbx
  unfold vA at *
  have HW := Lib.hid hW
  clear hW
  go_enter Try.func18, Try.ntmps18
  go_wp2_with fail
  refine (HW.out _).mono ?_
  rintro e w1 ⟨rfl, B1⟩
  have hB1 := hB.trans (B1.mono hB.size)
  have h1 := H.out.below hB1
  have d0 : w1.drew.cell? ⟨tb, 0, none⟩ = some (.map mv) := h1.c0
  have hv1 := (B1.block _ (by simp)).trans HBX.out
  have e0 : w1.drew.cell? ⟨w.heap.size, 0, none⟩ = some (.string (str v.n)) := cell_at (i := 0) hv1 rfl
  have Ba := fun o => (Below.refl w1.heap.size w1).alloc (Nat.le_refl _) o
  have l1 := HLK.out w1.drew (h1.below (Below.refl _ w1).drew).vars
  have l2 := fun o => HLK.out (w1.alloc o).drew (h1.below ((Ba o).drew)).vars
  have d0a := fun o => (h1.below ((Ba o).drew)).c0
  have hv2 := fun o => ((Ba o).drew.block _ (Array.getElem?_eq_some_iff.1 hv1).1).trans hv1
  have e0a := fun o => cell_at (i := 0) (hv2 o) rfl
  have e3a := fun o => cell_at (i := 3) (hv2 o) rfl
  have htb1 := h1.lt
  have hwl := (Array.getElem?_eq_some_iff.1 hv1).1
  clear c0 c1 c2 c3 h1 hv1 hv2
  go_wp2_with fail
  go_region
  go_wp2_with fail
  go_ret
  exact ⟨rfl, hB1.trans ((Ba _).drew.mono hB1.size)⟩
set_option maxHeartbeats 4000000 in
theorem PMore_new (w : World) {tb : Nat} {X : List Nat} {E : List (Bs × KE)} {M : List (Bs × Int)} {all : Bool} {mv mn : Option Nat} {O : Bs → List Nat} (h : TabAt w tb X E M all mv mn O) (v : Jp.V) (hr : Jp.rightA v = true) (hz : v.n.length ≤ 1000000) (o : Jp.V) (q : Option Addr) 
    (L : List Jp.V) (n : Int) (hSet : ∀ W, TabAt W tb X E M all mv mn O → Calls Try.prog 17 #[.pointer (some ⟨tb, 0, none⟩), .agg (vA v)] W (SPost W tb X L M all n)) (hV : keV (valA KK E v.n) = .agg #[.string (str o.n), .string (str o.x), .bool o.s, .int .i64 o.f, .pointer q]) (hb : (Kp.get E v.n).isSome = false) :
    Calls Try.prog 18 #[.pointer (some ⟨tb, 0, none⟩), .agg (vA v)] w (SPost w tb X L M all n) := by
  have hps : (str v.n).size ≤ maxLen := by rw [str_size]; unfold maxLen; omega
  have hlk := fun (W : World) (hM : MOpt KK W mv E) => (hM.run_look hps).1
  rw [by8_str, hb] at hlk
  change ∀ W, MOpt KK W mv E → (Instr.lookup 53 (.map mv) (.string (str v.n)) true).run Try.prog W = .ok (.tuple #[keV (valA KK E v.n), .bool false]) W at hlk
  rw [hV] at hlk
  have HLK := Lib.hid hlk
  have hbx := heap_last w (.cells (vA v) PV)
  have hB := (Below.refl w.heap.size w).alloc (Nat.le_refl _) (.cells (vA v) PV)
  have c0 := cell_at (i := 0) hbx rfl
  have c1 := cell_at (i := 1) hbx rfl
  have c2 := cell_at (i := 2) hbx rfl
  have c3 := cell_at (i := 3) hbx rfl
  have hW := fun W => PWrong_any W v
  rw [hr] at hW
  have H := Lib.hid h
  unfold vA at hSet
  have HSet := Lib.hid hSet
  have HBX := Lib.hid hbx
  have htb := h.lt
  clear h hV hb hr hlk hbx hSet
  unfold vA at *
  have HW := Lib.hid hW
  clear hW
  go_enter Try.func18, Try.ntmps18
  go_wp2_with fail
  refine (HW.out _).mono ?_
  rintro e w1 ⟨rfl, B1⟩
  have hB1 := hB.trans (B1.mono hB.size)
  have h1 := H.out.below hB1
  have d0 : w1.drew.cell? ⟨tb, 0, none⟩ = some (.map mv) := h1.c0
  have hv1 := (B1.block _ (by simp)).trans HBX.out
  have e0 : w1.drew.cell? ⟨w.heap.size, 0, none⟩ = some (.string (str v.n)) := cell_at (i := 0) hv1 rfl
  have Ba := fun o => (Below.refl w1.heap.size w1).alloc (Nat.le_refl _) o
  have l1 := HLK.out w1.drew (h1.below (Below.refl _ w1).drew).vars
  have l2 := fun o => HLK.out (w1.alloc o).drew (h1.below ((Ba o).drew)).vars
  have d0a := fun o => (h1.below ((Ba o).drew)).c0
  have hv2 := fun o => ((Ba o).drew.block _ (Array.getElem?_eq_some_iff.1 hv1).1).trans hv1
  have e0a := fun o => cell_at (i := 0) (hv2 o) rfl
  have e3a := fun o => cell_at (i := 3) (hv2 o) rfl
  have htb1 := h1.lt
  have hwl := (Array.getElem?_eq_some_iff.1 hv1).1
  have h2 := fun o => h1.below ((Ba o).drew)
  have hvall := hv2
  clear c0 c1 c2 c3 h1 hv1
  go_wp2_with fail
  go_region
  have hT3 := h2 (.cells #[.string (str o.n), .string (str o.x), .bool o.s, .int .i64 o.f, .pointer q] PK)
  have hv3 := hv2 (.cells #[.string (str o.n), .string (str o.x), .bool o.s, .int .i64 o.f, .pointer q] PK)
  have HB3 := Lib.hid (hB1.trans ((Ba (.cells #[.string (str o.n), .string (str o.x), .bool o.s, .int .i64 o.f, .pointer q] PK)).drew.mono hB1.size))
  clear d0a e0a e3a l2 hv2 h2 Ba l1 d0 e0 hvall
  generalize (w1.alloc (.cells #[.string (str o.n), .string (str o.x), .bool o.s, .int .i64 o.f, .pointer q] PK)).drew = W3 at *
  have e0 := cell_at (i := 0) hv3 rfl
  have e1 := cell_at (i := 1) hv3 rfl
  have e2 := cell_at (i := 2) hv3 rfl
  have e3 := cell_at (i := 3) hv3 rfl
  have hwl3 := (Array.getElem?_eq_some_iff.1 hv3).1
  have HC := Lib.hid (HSet.out W3 hT3)
  clear hT3 hv3 HSet
  go_wp2_with fail
  refine HC.out.mono ?_
  rintro e w5 hp5
  obtain ⟨X5, h5, h6, h7⟩ := hp5.2
  obtain rfl := hp5.1
  go_wp2_with fail
  go_ret
  exact SPost.from_ HB3.out ⟨rfl, X5, h5, h6, h7⟩

set_option maxHeartbeats 4000000 in
theorem PMore_grow (w : World) {tb : Nat} {X : List Nat} {E : List (Bs × KE)} {M : List (Bs × Int)} {all : Bool} {bm : Nat} {mn : Option Nat} {O : Bs → List Nat} (h : TabAt w tb X E M all (some bm) mn O) (v : Jp.V) (hr : Jp.rightA v = true) (hz : v.n.length ≤ 1000000) (o : Jp.V) (q : Option Addr) (hlt : ¬ v.f < o.f) (Y : List Nat) (y : Jp.V) (hy : y = { v with s := o.s }) (hYY : ∀ i ∈ Y, ∃ e ∈ E, e.1 = v.n ∧ e.2.g ≠ none ∧ i ∈ O v.n) (hG : ∀ W, TabAt W tb X E M all (some bm) mn O → Calls Try.prog 30 #[.agg #[.string (str o.n), .string (str o.x), .bool o.s, .int .i64 o.f, .pointer q], .agg (vA y)] W fun e w' => ∃ b, GrPost W Y b y o.x e w')
    (hlen : E.length ≤ 1000000) (hV : keV (valA KK E v.n) = .agg #[.string (str o.n), .string (str o.x), .bool o.s, .int .i64 o.f, .pointer q]) (hb : (Kp.get E v.n).isSome = true) :
    Calls Try.prog 18 #[.pointer (some ⟨tb, 0, none⟩), .agg (vA v)] w (SPost w tb X (Jp.insA { v with x := o.x ++ 32 :: v.x, s := o.s } false (E.map fun e => e.2.v)) M all 0) := by
  have hps : (str v.n).size ≤ maxLen := by rw [str_size]; unfold maxLen; omega
  have hlk := fun (W : World) (hM : MOpt KK W (some bm) E) => (hM.run_look hps).1
  rw [by8_str, hb] at hlk
  change ∀ W, MOpt KK W (some bm) E → (Instr.lookup 53 (.map (some bm)) (.string (str v.n)) true).run Try.prog W = .ok (.tuple #[keV (valA KK E v.n), .bool true]) W at hlk
  rw [hV] at hlk
  have HLK := Lib.hid hlk
  have hbx := heap_last w (.cells (vA v) PV)
  have hB := (Below.refl w.heap.size w).alloc (Nat.le_refl _) (.cells (vA v) PV)
  have c0 := cell_at (i := 0) hbx rfl
  have c1 := cell_at (i := 1) hbx rfl
  have c2 := cell_at (i := 2) hbx rfl
  have c3 := cell_at (i := 3) hbx rfl
  have hW := fun W => PWrong_any W v
  rw [hr] at hW
  have H := Lib.hid h
  have HBX := Lib.hid hbx
  have htb := h.lt
  have hs := h.vars.sorted
  have hkeys := h.keys
  have hYlt : ∀ i ∈ Y, i < w.heap.size := fun i hi => by
    obtain ⟨e, he, h1, h2, h3⟩ := hYY i hi
    exact h.grown.ltO e he h2 i (h1 ▸ h3)
  have htY : tb ∉ Y := fun hi => by
    obtain ⟨e, he, h1, h2, h3⟩ := hYY tb hi
    obtain ⟨cs, T, fz, h4, h5⟩ := h.grown.kind e he h2 tb (h1 ▸ h3)
    rw [h.cells] at h4; cases h4; exact h5 rfl
  have hmY : bm ∉ Y := fun hi => by
    obtain ⟨e, he, h1, h2, h3⟩ := hYY bm hi
    obtain ⟨cs, T, fz, h4, h5⟩ := h.grown.kind e he h2 bm (h1 ▸ h3)
    exact MapAt.not_cells h.vars h4 rfl
  have HYY := Lib.hid hYY
  have HYlt := Lib.hid hYlt
  have HG := Lib.hid hG
  clear h hV hb hr hlk hbx hYY hYlt hG
  unfold vA at *
  have HW := Lib.hid hW
  clear hW
  go_enter Try.func18, Try.ntmps18
  go_wp2_with fail
  refine (HW.out _).mono ?_
  rintro e w1 ⟨rfl, B1⟩
  have hB1 := hB.trans (B1.mono hB.size)
  have h1 := H.out.below hB1
  have d0 : w1.drew.cell? ⟨tb, 0, none⟩ = some (.map (some bm)) := h1.c0
  have hv1 := (B1.block _ (by simp)).trans HBX.out
  have e0 : w1.drew.cell? ⟨w.heap.size, 0, none⟩ = some (.string (str v.n)) := cell_at (i := 0) hv1 rfl
  have Ba := fun o => (Below.refl w1.heap.size w1).alloc (Nat.le_refl _) o
  have l1 := HLK.out w1.drew (h1.below (Below.refl _ w1).drew).vars
  have l2 := fun o => HLK.out (w1.alloc o).drew (h1.below ((Ba o).drew)).vars
  have d0a := fun o => (h1.below ((Ba o).drew)).c0
  have hv2 := fun o => ((Ba o).drew.block _ (Array.getElem?_eq_some_iff.1 hv1).1).trans hv1
  have e0a := fun o => cell_at (i := 0) (hv2 o) rfl
  have e3a := fun o => cell_at (i := 3) (hv2 o) rfl
  have htb1 := h1.lt
  have hwl := (Array.getElem?_eq_some_iff.1 hv1).1
  have h2 := fun o => h1.below ((Ba o).drew)
  clear c0 c1 c2 c3 h1 hv1
  go_wp2_with fail
  go_region
  have hT3 := h2 (.cells #[.string (str o.n), .string (str o.x), .bool o.s, .int .i64 o.f, .pointer q] PK)
  have hv3 := hv2 (.cells #[.string (str o.n), .string (str o.x), .bool o.s, .int .i64 o.f, .pointer q] PK)
  have hB3 := hB1.trans ((Ba (.cells #[.string (str o.n), .string (str o.x), .bool o.s, .int .i64 o.f, .pointer q] PK)).drew.mono hB1.size)
  have ho3 := heap_last w1 (.cells #[.string (str o.n), .string (str o.x), .bool o.s, .int .i64 o.f, .pointer q] PK)
  have ho3 : (w1.alloc (.cells #[.string (str o.n), .string (str o.x), .bool o.s, .int .i64 o.f, .pointer q] PK)).drew.heap[w1.heap.size]? = _ := ho3
  clear d0a e0a e3a l2 hv2 h2 Ba l1 d0 e0
  generalize (w1.alloc (.cells #[.string (str o.n), .string (str o.x), .bool o.s, .int .i64 o.f, .pointer q] PK)).drew = W3 at *
  have hne5 : w1.heap.size ≠ w.heap.size := by omega
  have o3 := cell_at (i := 3) ho3 rfl
  have o2 := cell_at (i := 2) ho3 rfl
  have e2 := cell_at (i := 2) hv3 rfl
  have e3 := cell_at (i := 3) hv3 rfl
  have f2 := frozen_at hv3 2
  have hwl3 := (Array.getElem?_eq_some_iff.1 hv3).1
  have hol3 := (Array.getElem?_eq_some_iff.1 ho3).1
  have hv4 := heap_set (i := 2) hv3 (.bool o.s)
  simp only [List.setIfInBounds_toArray, List.set_cons_zero, List.set_cons_succ] at hv4
  have ho4 := heap_ne (i := 2) ho3 hne5 (.bool o.s)
  have hB4 := hB3.setCell (p := ⟨w.heap.size, 2, none⟩) (Nat.le_refl _) (.bool o.s)
  have HO3 := Lib.hid ho3
  have HV4 := Lib.hid hv4
  have HO4 := Lib.hid ho4
  have HB4 := Lib.hid hB4
  clear hv3 ho3 hv4 ho4 hT3 hB3 hB4
  go_wp2_with fail
  clear o3 o2 e2 e3 f2
  have hwl4 : w.heap.size < (W3.setCell ⟨w.heap.size, 2, none⟩ (.bool o.s)).heap.size := (Array.getElem?_eq_some_iff.1 HV4.out).1
  have hol4 : w1.heap.size < (W3.setCell ⟨w.heap.size, 2, none⟩ (.bool o.s)).heap.size := (Array.getElem?_eq_some_iff.1 HO4.out).1
  clear HO3 hwl3 hol3
  generalize W3.setCell ⟨w.heap.size, 2, none⟩ (.bool o.s) = W4 at *
  have hT4 := H.out.below HB4.out
  have hTd := hT4.below (Below.refl _ W4).drew
  have HTd := Lib.hid hTd
  have z0 := hTd.c0
  have hz : tb < W4.drew.heap.size := hTd.lt
  have x0 : W4.drew.cell? ⟨w.heap.size, 0, none⟩ = _ := cell_at (i := 0) HV4.out rfl
  have x1 : W4.drew.cell? ⟨w.heap.size, 1, none⟩ = _ := cell_at (i := 1) HV4.out rfl
  have x2 : W4.drew.cell? ⟨w.heap.size, 2, none⟩ = _ := cell_at (i := 2) HV4.out rfl
  have x3 : W4.drew.cell? ⟨w.heap.size, 3, none⟩ = _ := cell_at (i := 3) HV4.out rfl
  have o0 : W4.drew.cell? ⟨w1.heap.size, 0, none⟩ = _ := cell_at (i := 0) HO4.out rfl
  have o1 : W4.drew.cell? ⟨w1.heap.size, 1, none⟩ = _ := cell_at (i := 1) HO4.out rfl
  have o2 : W4.drew.cell? ⟨w1.heap.size, 2, none⟩ = _ := cell_at (i := 2) HO4.out rfl
  have o3 : W4.drew.cell? ⟨w1.heap.size, 3, none⟩ = _ := cell_at (i := 3) HO4.out rfl
  have o4 : W4.drew.cell? ⟨w1.heap.size, 4, none⟩ = _ := cell_at (i := 4) HO4.out rfl
  simp only [List.getElem_toArray, List.getElem_cons_zero, List.getElem_cons_succ] at x0 x1 x2 x3 o0 o1 o2 o3 o4
  have HC := Lib.hid (HG.out _ hTd)
  rw [hy] at HC
  dsimp only at HC
  have hS : Hid (∀ w' : World, (∀ i, i < W4.drew.heap.size → i ∉ bm :: Y → w'.heap[i]? = W4.drew.heap[i]?) → (w'.cell? ⟨tb, 0, none⟩ = some (.map (some bm)) ∧ w'.cell? ⟨w.heap.size, 0, none⟩ = some (.string (str v.n)) ∧ w'.cell? ⟨w.heap.size, 1, none⟩ = some (.string (str v.x)) ∧ w'.cell? ⟨w.heap.size, 2, none⟩ = some (.bool o.s) ∧ w'.cell? ⟨w.heap.size, 3, none⟩ = some (.int .i64 v.f) ∧ w'.cell? ⟨w1.heap.size, 0, none⟩ = some (.string (str o.n)) ∧ w'.cell? ⟨w1.heap.size, 1, none⟩ = some (.string (str o.x)) ∧ w'.cell? ⟨w1.heap.size, 2, none⟩ = some (.bool o.s) ∧ w'.cell? ⟨w1.heap.size, 3, none⟩ = some (.int .i64 o.f) ∧ w'.cell? ⟨w1.heap.size, 4, none⟩ = some (.pointer q))) := Lib.hid (fun w' hw => by
    have hb := hTd.vars.lt bm rfl
    have k1 : w'.heap[tb]? = W4.drew.heap[tb]? := hw tb hz (by
      intro hi
      rcases List.mem_cons.1 hi with e | e
      · exact MapAt.not_cells hTd.vars hTd.cells e.symm
      · exact htY e)
    have k2 : w'.heap[w.heap.size]? = W4.drew.heap[w.heap.size]? := hw _ hwl4 (by
      intro hi
      rcases List.mem_cons.1 hi with e | e
      · exact MapAt.not_cells hTd.vars HV4.out e.symm
      · exact absurd (HYlt.out _ e) (Nat.lt_irrefl _))
    have k3 : w'.heap[w1.heap.size]? = W4.drew.heap[w1.heap.size]? := hw _ hol4 (by
      intro hi
      rcases List.mem_cons.1 hi with e | e
      · exact MapAt.not_cells hTd.vars HO4.out e.symm
      · exact absurd (HYlt.out _ e) (by omega))
    have c1 := fun i => World.cell?_of_block (a := ⟨tb, i, none⟩) k1
    have c2 := fun i => World.cell?_of_block (a := ⟨w.heap.size, i, none⟩) k2
    have c3 := fun i => World.cell?_of_block (a := ⟨w1.heap.size, i, none⟩) k3
    exact ⟨(c1 0).trans z0, (c2 0).trans x0, (c2 1).trans x1, (c2 2).trans x2, (c2 3).trans x3, (c3 0).trans o0, (c3 1).trans o1, (c3 2).trans o2, (c3 3).trans o3, (c3 4).trans o4⟩)
  clear hT4 hTd HV4 HO4
  go_region_held3 (fun w' : World => w'.cell? ⟨tb, 0, none⟩ = some (.map (some bm)) ∧ w'.cell? ⟨w.heap.size, 0, none⟩ = some (.string (str v.n)) ∧ w'.cell? ⟨w.heap.size, 1, none⟩ = some (.string (str v.x)) ∧ w'.cell? ⟨w.heap.size, 2, none⟩ = some (.bool o.s) ∧ w'.cell? ⟨w.heap.size, 3, none⟩ = some (.int .i64 v.f) ∧ w'.cell? ⟨w1.heap.size, 0, none⟩ = some (.string (str o.n)) ∧ w'.cell? ⟨w1.heap.size, 1, none⟩ = some (.string (str o.x)) ∧ w'.cell? ⟨w1.heap.size, 2, none⟩ = some (.bool o.s) ∧ w'.cell? ⟨w1.heap.size, 3, none⟩ = some (.int .i64 o.f) ∧ w'.cell? ⟨w1.heap.size, 4, none⟩ = some (.pointer q))
    (first | exact ⟨z0, x0, x1, x2, x3, o0, o1, o2, o3, o4⟩ | exact S6 | exact S5)
    (first
      | (go_at_call 30; refine HC.out.mono ?_; rintro e w5 ⟨b5, rfl, hK5, O5, pv5, bv5, hB5, hO5⟩; have S5 := hS.out w5 (fun i hi hx => hK5.block i hi (fun h => hx (List.mem_cons_of_mem _ h))); have hM5 := MapAt.kept HTd.out.vars hK5 hmY; obtain ⟨w6, hrun, hM6, ht⟩ := run_put hM5 v.n ⟨{ v with x := o.x ++ 32 :: v.x, s := o.s }, some b5⟩ (by unfold maxLen; omega) (by unfold maxLen; omega); have S6 := hS.out w6 (fun i hi hx => (ht.grown.block i (Nat.lt_of_lt_of_le hi hK5.size) (fun e => hx (by rw [Option.some.inj e]; simp))).trans (hK5.block i hi (fun h => hx (List.mem_cons_of_mem _ h)))); change (Instr.mapUpdate 53 (.map (some bm)) (.string (str v.n)) (.agg #[.string (str v.n), .string (str (o.x ++ 32 :: v.x)), .bool o.s, .int .i64 v.f, .pointer (some ⟨b5, 0, none⟩)])).run Try.prog w5 = _ at hrun))
  all_goals
    go_wp2_with fail
    go_ret
    obtain ⟨X', h7, hK7, hX7⟩ := HTd.out.put { v with x := o.x ++ 32 :: v.x, s := o.s } (some b5) O5 Y hK5 HYY.out (fun b e => by cases e; exact ⟨pv5, bv5, hB5⟩) (fun _ => hO5) hM6 ht
    have hBd := HB4.out.drew
    exact tab_put ((Kept.of_below hBd).trans hK7) h7 (ins_l (v := { v with x := o.x ++ 32 :: v.x, s := o.s }) hs hkeys) (fun i hi => by
      rcases hX7 i hi with h | h
      · exact .inl h
      · exact .inr (Nat.le_trans hBd.size h))
end Go.Proofs.Ytfbddbcedoofeaa.Jw
