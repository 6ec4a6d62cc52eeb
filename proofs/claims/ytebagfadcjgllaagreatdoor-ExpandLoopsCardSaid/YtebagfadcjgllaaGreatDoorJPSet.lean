/-
  (*Table).Set.
-/
import Derived.StillTailTactics
import Derived.Test.YtebagfadcjgllaaGreatDoorJPut
namespace Go.Proofs.YtebagfadcjgllaaGreatDoor.Jw
open Go.RowKit Go.Proofs.YtebagfadcjgllaaGreatDoor Go.Proofs.YtebagfadcjgllaaGreatDoor.Ww Go.Proofs.YtebagfadcjgllaaGreatDoor.Tw Go.Proofs.YtebagfadcjgllaaGreatDoor.Kw
set_option maxRecDepth 100000

theorem PSet_nil (w : World) (v : Jp.V) : Calls Tryz.prog 8 #[.pointer none, .agg (vA v)] w fun e w' => e = .returned (.int .i64 1) ∧ Below w.heap.size w w' := by
  unfold vA
  go_enter Tryz.func8, Tryz.ntmps8
  go_wp2_with fail
  go_ret
  exact ⟨rfl, (Below.refl _ w).alloc (Nat.le_refl _) _⟩
theorem PSet_wrong (w : World) (tb : Nat) (v : Jp.V) (hr : Jp.rightA v = false) : Calls Tryz.prog 8 #[.pointer (some ⟨tb, 0, none⟩), .agg (vA v)] w fun e w' => e = .returned (.int .i64 1) ∧ Below w.heap.size w w' := by
  have hb := heap_last w (.cells (vA v) PV)
  have c0 := cell_at (i := 0) hb rfl
  have c1 := cell_at (i := 1) hb rfl
  have c2 := cell_at (i := 2) hb rfl
  have c3 := cell_at (i := 3) hb rfl
  have hW := fun W => PWrong_any W v
  rw [hr] at hW
  have hB := (Below.refl w.heap.size w).alloc (Nat.le_refl _) (.cells (vA v) PV)
  clear hb hr
  unfold vA at *
  have HW := Lib.hid hW
  clear hW
  go_enter Tryz.func8, Tryz.ntmps8
  go_wp2_with fail
  refine (HW.out _).mono ?_
  rintro e w1 ⟨rfl, B1⟩
  go_wp2_with fail
  go_ret
  exact ⟨rfl, hB.trans (B1.mono hB.size)⟩

theorem KE_val (e : KE) : ∃ q, gP e.g = .pointer q := ⟨_, rfl⟩
/-- The boxes of Set and More: the variable, what there was. -/
structure Two (w : World) (tb : Nat) (mv mn : Option Nat) (all : Bool) (vv oo : Array Value) (n : Nat) (W : World) : Prop where
  v : W.heap[w.heap.size]? = some (.cells vv PV (0, 0))
  o : W.heap[n]? = some (.cells oo PK (0, 0))
  t : W.heap[tb]? = some (.cells #[.map mv, .map mn, .bool all] PT (0, 0))
  below : Below w.heap.size w W

/-- What a call that changes a table leaves. -/
def SPost (w : World) (tb : Nat) (X : List Nat) (L : List Jp.V) (M : List (Bs × Int)) (all : Bool) (n : Int) (e : Ending) (w' : World) : Prop :=
  e = .returned (.int .i64 n) ∧ ∃ X', Tab w' tb X' L M all ∧ Kept X w w' ∧ ∀ i ∈ X', i ∈ X ∨ w.heap.size ≤ i
theorem SPost.same {w w' : World} {tb : Nat} {X : List Nat} {L : List Jp.V} {M : List (Bs × Int)} {all : Bool} {n : Int} {e : Ending} (h : Tab w tb X L M all) (he : e = .returned (.int .i64 n)) (hB : Below w.heap.size w w') : SPost w tb X L M all n e w' :=
  ⟨he, X, h.below hB, .of_below hB, fun _ hi => .inl hi⟩
theorem ins_l {v : Jp.V} {g : Option Nat} {E : List (Bs × KE)} (hs : Kp.Sorted E) (hk : ∀ e ∈ E, e.1 = e.2.v.n) : (Kp.ins E (v.n, ⟨v, g⟩)).map (fun e => e.2.v) = Jp.insA v false (E.map fun e => e.2.v) := ins_map hs hk
theorem tab_put {w w3 : World} {tb : Nat} {X : List Nat} {M : List (Bs × Int)} {all : Bool} {E : List (Bs × KE)} {mv mn : Option Nat} {O : Bs → List Nat} {L : List Jp.V} {X' : List Nat} (hk : Kept X w w3) (h : TabAt w3 tb X' E M all mv mn O) (hl : E.map (fun e => e.2.v) = L) (hX : ∀ i ∈ X', i ∈ X ∨ w.heap.size ≤ i) : SPost w tb X L M all 0 (.returned (.int .i64 0)) w3 :=
  ⟨rfl, X', ⟨E, mv, mn, O, h, hl⟩, hk, hX⟩

theorem heap_ne {w : World} {b g i : Nat} {o : Obj} (h : w.heap[b]? = some o) (hn : b ≠ g) (v : Value) : (w.setCell ⟨g, i, none⟩ v).heap[b]? = some o := (Below.heap_setCell _ _ _ _ hn).trans h
theorem TabAt.made {w : World} {tb : Nat} {X : List Nat} {M : List (Bs × Int)} {all : Bool} {mn : Option Nat} {O : Bs → List Nat} (h : TabAt w tb X [] M all none mn O) :
    TabAt ((w.alloc (.map #[] 0)).setCell ⟨tb, 0, none⟩ (.map (some w.heap.size))) tb (w.heap.size :: X) [] M all (some w.heap.size) mn O := by
  have hB := (Below.refl w.heap.size w).alloc (Nat.le_refl _) (.map #[] 0)
  have hlt := h.lt
  have hc := (hB.block _ hlt).trans h.cells
  have hn := h.named.below hB
  have hnc := fun b (e : mn = some b) => fun (e2 : b = tb) => hn.not_cells hc (e2 ▸ e)
  refine ⟨heap_set hc _, (MapAt.new w).setCell (p := ⟨tb, 0, none⟩) (by show w.heap.size ≠ tb; omega) _, hn.block fun b e => Below.heap_setCell _ _ _ _ (hnc b e), fun b e e2 => ?_, fun e he => (by cases he), Grown.nil _ _, by simp [h.tX], fun b e => by simp [Option.some.inj e], fun b e => by simp [h.nX b e], fun e he => (by cases he)⟩
  cases e
  exact Nat.lt_irrefl _ (h.named.lt _ e2)
theorem _root_.Go.Proofs.YtebagfadcjgllaaGreatDoor.Kw.Kept.trans_new {X Y : List Nat} {a b c : World} (h : Kept X a b) (k : Kept Y b c) (hY : ∀ i ∈ Y, i ∈ X ∨ a.heap.size ≤ i) : Kept X a c :=
  ⟨k.os.trans h.os, k.tape.trans h.tape, k.output.trans h.output, Nat.le_trans h.size k.size, fun i hi hx => (k.block i (Nat.lt_of_lt_of_le hi h.size) fun hy => by
    rcases hY i hy with hh | hh
    · exact hx hh
    · omega).trans (h.block i hi hx)⟩

set_option maxHeartbeats 4000000 in
theorem PSet_less (w : World) {tb : Nat} {X : List Nat} {E : List (Bs × KE)} {M : List (Bs × Int)} {all : Bool} {mv mn : Option Nat} {O : Bs → List Nat} (h : TabAt w tb X E M all mv mn O) (v : Jp.V) (hr : Jp.rightA v = true) (hz : v.n.length ≤ 1000000) (o : Jp.V) (q : Option Addr) (hlt : v.f < o.f)
    (hV : keV (valA KK E v.n) = .agg #[.string (str o.n), .string (str o.x), .bool o.s, .int .i64 o.f, .pointer q]) (hb : (Kp.get E v.n).isSome = true) :
    Calls Tryz.prog 8 #[.pointer (some ⟨tb, 0, none⟩), .agg (vA v)] w fun e w' => e = .returned (.int .i64 0) ∧ Below w.heap.size w w' := by
  have hps : (str v.n).size ≤ maxLen := by rw [str_size]; unfold maxLen; omega
  have hlk := fun (W : World) (hM : MOpt KK W mv E) => (hM.run_look hps).1
  rw [by8_str, hb] at hlk
  change ∀ W, MOpt KK W mv E → (Instr.lookup 72 (.map mv) (.string (str v.n)) true).run Tryz.prog W = .ok (.tuple #[keV (valA KK E v.n), .bool true]) W at hlk
  rw [hV] at hlk
  have HLK := Lib.hid hlk
  have hbx := heap_last w (.cells (vA v) PV)
  have hB := (Below.refl w.heap.size w).alloc (Nat.le_refl _) (.cells (vA v) PV)
  have c0 := cell_at (i := 0) hbx rfl
  have c1 := cell_at (i := 1) hbx rfl
  have c2 := cell_at (i := 2) hbx rfl
  have c3 := cell_at (i := 3) hbx rfl
  have hW := fun W => PWrong_any W v
  rw [hr] at hW
  have H := Lib.hid h
  have HBX := Lib.hid hbx
  have htb := h.lt
  clear h hV hb hr hlk hbx
  unfold vA at *
  have HW := Lib.hid hW
  clear hW
  go_enter Tryz.func8, Tryz.ntmps8
  go_wp2_with fail
  refine (HW.out _).mono ?_
  rintro e w1 ⟨rfl, B1⟩
  have hB1 := hB.trans (B1.mono hB.size)
  have h1 := H.out.below hB1
  have d0 : w1.drew.cell? ⟨tb, 0, none⟩ = some (.map mv) := h1.c0
  have hv1 := (B1.block _ (by simp)).trans HBX.out
  have e0 : w1.drew.cell? ⟨w.heap.size, 0, none⟩ = some (.string (str v.n)) := cell_at (i := 0) hv1 rfl
  have Ba := fun o => (Below.refl w1.heap.size w1).alloc (Nat.le_refl _) o
  have l1 := HLK.out w1.drew (h1.below (Below.refl _ w1).drew).vars
  have l2 := fun o => HLK.out (w1.alloc o).drew (h1.below ((Ba o).drew)).vars
  have d0a := fun o => (h1.below ((Ba o).drew)).c0
  have hv2 := fun o => ((Ba o).drew.block _ (Array.getElem?_eq_some_iff.1 hv1).1).trans hv1
  have e0a := fun o => cell_at (i := 0) (hv2 o) rfl
  have e3a := fun o => cell_at (i := 3) (hv2 o) rfl
  have htb1 := h1.lt
  have hwl := (Array.getElem?_eq_some_iff.1 hv1).1
  clear c0 c1 c2 c3 h1 hv1 hv2
  go_wp2_with fail
  go_region
  go_wp2_with fail
  go_ret
  exact ⟨rfl, hB1.trans ((Ba _).drew.mono hB1.size)⟩
set_option maxHeartbeats 4000000 in
theorem PSet_yes (w : World) {tb : Nat} {X : List Nat} {E : List (Bs × KE)} {M : List (Bs × Int)} {all : Bool} {bm : Nat} {mn : Option Nat} {O : Bs → List Nat} (h : TabAt w tb X E M all (some bm) mn O) (v : Jp.V) (hr : Jp.rightA v = true) (hz : v.n.length ≤ 1000000) (o : Jp.V) (q : Option Addr) (hlt : ¬ v.f < o.f)
    (hlen : E.length ≤ 1000000) (hV : keV (valA KK E v.n) = .agg #[.string (str o.n), .string (str o.x), .bool o.s, .int .i64 o.f, .pointer q]) (hb : (Kp.get E v.n).isSome = true) :
    Calls Tryz.prog 8 #[.pointer (some ⟨tb, 0, none⟩), .agg (vA v)] w (SPost w tb X (Jp.insA v false (E.map fun e => e.2.v)) M all 0) := by
  have hps : (str v.n).size ≤ maxLen := by rw [str_size]; unfold maxLen; omega
  have hlk := fun (W : World) (hM : MOpt KK W (some bm) E) => (hM.run_look hps).1
  rw [by8_str, hb] at hlk
  change ∀ W, MOpt KK W (some bm) E → (Instr.lookup 72 (.map (some bm)) (.string (str v.n)) true).run Tryz.prog W = .ok (.tuple #[keV (valA KK E v.n), .bool true]) W at hlk
  rw [hV] at hlk
  have HLK := Lib.hid hlk
  have hbx := heap_last w (.cells (vA v) PV)
  have hB := (Below.refl w.heap.size w).alloc (Nat.le_refl _) (.cells (vA v) PV)
  have c0 := cell_at (i := 0) hbx rfl
  have c1 := cell_at (i := 1) hbx rfl
  have c2 := cell_at (i := 2) hbx rfl
  have c3 := cell_at (i := 3) hbx rfl
  have hq := fun (w : World) => run_eql_map_nil (P := Tryz.prog) w 72 9 70 (some bm) Tryz.underlying72
  have hW := fun W => PWrong_any W v
  rw [hr] at hW
  have H := Lib.hid h
  have HBX := Lib.hid hbx
  have htb := h.lt
  have hs := h.vars.sorted
  have hkeys := h.keys
  clear h hV hb hr hlk hbx
  unfold vA at *
  have HW := Lib.hid hW
  clear hW
  go_enter Tryz.func8, Tryz.ntmps8
  go_wp2_with fail
  refine (HW.out _).mono ?_
  rintro e w1 ⟨rfl, B1⟩
  have hB1 := hB.trans (B1.mono hB.size)
  have h1 := H.out.below hB1
  have d0 : w1.drew.cell? ⟨tb, 0, none⟩ = some (.map (some bm)) := h1.c0
  have hv1 := (B1.block _ (by simp)).trans HBX.out
  have e0 : w1.drew.cell? ⟨w.heap.size, 0, none⟩ = some (.string (str v.n)) := cell_at (i := 0) hv1 rfl
  have Ba := fun o => (Below.refl w1.heap.size w1).alloc (Nat.le_refl _) o
  have l1 := HLK.out w1.drew (h1.below (Below.refl _ w1).drew).vars
  have l2 := fun o => HLK.out (w1.alloc o).drew (h1.below ((Ba o).drew)).vars
  have d0a := fun o => (h1.below ((Ba o).drew)).c0
  have hv2 := fun o => ((Ba o).drew.block _ (Array.getElem?_eq_some_iff.1 hv1).1).trans hv1
  have e0a := fun o => cell_at (i := 0) (hv2 o) rfl
  have e3a := fun o => cell_at (i := 3) (hv2 o) rfl
  have htb1 := h1.lt
  have hwl := (Array.getElem?_eq_some_iff.1 hv1).1
  have h2 := fun o => h1.below ((Ba o).drew)
  clear c0 c1 c2 c3 hv1
  go_wp2_with fail
  go_region
  have hT3 := h2 (.cells #[.string (str o.n), .string (str o.x), .bool o.s, .int .i64 o.f, .pointer q] PK)
  have hv3 := hv2 (.cells #[.string (str o.n), .string (str o.x), .bool o.s, .int .i64 o.f, .pointer q] PK)
  have HB3 := Lib.hid (hB1.trans ((Ba (.cells #[.string (str o.n), .string (str o.x), .bool o.s, .int .i64 o.f, .pointer q] PK)).drew.mono hB1.size))
  have ho3 := heap_last w1 (.cells #[.string (str o.n), .string (str o.x), .bool o.s, .int .i64 o.f, .pointer q] PK)
  have ho3 : (w1.alloc (.cells #[.string (str o.n), .string (str o.x), .bool o.s, .int .i64 o.f, .pointer q] PK)).drew.heap[w1.heap.size]? = _ := ho3
  have hso : w1.heap.size < (w1.alloc (.cells #[.string (str o.n), .string (str o.x), .bool o.s, .int .i64 o.f, .pointer q] PK)).drew.heap.size := by show w1.heap.size < (w1.alloc _).heap.size; simp
  clear d0a e0a e3a l2 hv2 h2 Ba l1 d0 e0
  generalize (w1.alloc (.cells #[.string (str o.n), .string (str o.x), .bool o.s, .int .i64 o.f, .pointer q] PK)).drew = W3 at *
  have o3 := cell_at (i := 3) ho3 rfl
  have e0 := cell_at (i := 0) hv3 rfl
  have e1 := cell_at (i := 1) hv3 rfl
  have e2 := cell_at (i := 2) hv3 rfl
  have e3 := cell_at (i := 3) hv3 rfl
  have d0 := hT3.c0
  have htb3 := hT3.lt
  have hwl3 := (Array.getElem?_eq_some_iff.1 hv3).1
  have HT3 := Lib.hid hT3
  clear hT3 hv3 ho3 h1
  go_wp2_with fail
  go_still_tail 8, (by kernel_rfl)
  change wpList _ _ _ _ _ W3.drew
  have hT4 := HT3.out.below (Below.refl _ W3).drew
  have HB4 := Lib.hid (HB3.out.trans ((Below.refl _ W3).drew.mono HB3.out.size))
  have HT4 := Lib.hid hT4
  have hM4 : MapAt KK W3.drew bm E := hT4.vars
  clear hT4 d0 e0 e1 e2 e3 o3 htb3 hwl3 hso
  generalize W3.drew = W4 at *
  go_wp2_with (at_mapUpdate; refine wpList_put (K := KK) (p := v.n) (c := ⟨v, none⟩) _ rfl _ _ _ rfl rfl rfl rfl hM4 (by unfold maxLen; omega) (by unfold maxLen; omega) ?_; intro w5 hM5 ht)
  go_ret
  obtain ⟨X', h5, hK5, hX5⟩ := HT4.out.put v none [] [] (Kept.refl _ _) (fun i h => (by cases h)) (fun b h => (by cases h)) (fun h => absurd rfl h) hM5 ht
  exact tab_put ((Kept.of_below HB4.out).trans hK5) h5 (ins_l hs hkeys) (fun i hi => by
    rcases hX5 i hi with h | h
    · exact .inl h
    · exact .inr (Nat.le_trans HB4.out.size h))

set_option maxHeartbeats 4000000 in
theorem PSet_new (w : World) {tb : Nat} {X : List Nat} {E : List (Bs × KE)} {M : List (Bs × Int)} {all : Bool} {bm : Nat} {mn : Option Nat} {O : Bs → List Nat} (h : TabAt w tb X E M all (some bm) mn O) (v : Jp.V) (hr : Jp.rightA v = true) (hz : v.n.length ≤ 1000000) (o : Jp.V) (q : Option Addr) 
    (hlen : E.length ≤ 1000000) (hV : keV (valA KK E v.n) = .agg #[.string (str o.n), .string (str o.x), .bool o.s, .int .i64 o.f, .pointer q]) (hb : (Kp.get E v.n).isSome = false) :
    Calls Tryz.prog 8 #[.pointer (some ⟨tb, 0, none⟩), .agg (vA v)] w (SPost w tb X (Jp.insA v false (E.map fun e => e.2.v)) M all 0) := by
  have hps : (str v.n).size ≤ maxLen := by rw [str_size]; unfold maxLen; omega
  have hlk := fun (W : World) (hM : MOpt KK W (some bm) E) => (hM.run_look hps).1
  rw [by8_str, hb] at hlk
  change ∀ W, MOpt KK W (some bm) E → (Instr.lookup 72 (.map (some bm)) (.string (str v.n)) true).run Tryz.prog W = .ok (.tuple #[keV (valA KK E v.n), .bool false]) W at hlk
  rw [hV] at hlk
  have HLK := Lib.hid hlk
  have hbx := heap_last w (.cells (vA v) PV)
  have hB := (Below.refl w.heap.size w).alloc (Nat.le_refl _) (.cells (vA v) PV)
  have c0 := cell_at (i := 0) hbx rfl
  have c1 := cell_at (i := 1) hbx rfl
  have c2 := cell_at (i := 2) hbx rfl
  have c3 := cell_at (i := 3) hbx rfl
  have hq := fun (w : World) => run_eql_map_nil (P := Tryz.prog) w 72 9 70 (some bm) Tryz.underlying72
  have hW := fun W => PWrong_any W v
  rw [hr] at hW
  have H := Lib.hid h
  have HBX := Lib.hid hbx
  have htb := h.lt
  have hs := h.vars.sorted
  have hkeys := h.keys
  clear h hV hb hr hlk hbx
  unfold vA at *
  have HW := Lib.hid hW
  clear hW
  go_enter Tryz.func8, Tryz.ntmps8
  go_wp2_with fail
  refine (HW.out _).mono ?_
  rintro e w1 ⟨rfl, B1⟩
  have hB1 := hB.trans (B1.mono hB.size)
  have h1 := H.out.below hB1
  have d0 : w1.drew.cell? ⟨tb, 0, none⟩ = some (.map (some bm)) := h1.c0
  have hv1 := (B1.block _ (by simp)).trans HBX.out
  have e0 : w1.drew.cell? ⟨w.heap.size, 0, none⟩ = some (.string (str v.n)) := cell_at (i := 0) hv1 rfl
  have Ba := fun o => (Below.refl w1.heap.size w1).alloc (Nat.le_refl _) o
  have l1 := HLK.out w1.drew (h1.below (Below.refl _ w1).drew).vars
  have l2 := fun o => HLK.out (w1.alloc o).drew (h1.below ((Ba o).drew)).vars
  have d0a := fun o => (h1.below ((Ba o).drew)).c0
  have hv2 := fun o => ((Ba o).drew.block _ (Array.getElem?_eq_some_iff.1 hv1).1).trans hv1
  have e0a := fun o => cell_at (i := 0) (hv2 o) rfl
  have e3a := fun o => cell_at (i := 3) (hv2 o) rfl
  have htb1 := h1.lt
  have hwl := (Array.getElem?_eq_some_iff.1 hv1).1
  have h2 := fun o => h1.below ((Ba o).drew)
  clear c0 c1 c2 c3 hv1
  go_wp2_with fail
  go_region
  have hT3 := h2 (.cells #[.string (str o.n), .string (str o.x), .bool o.s, .int .i64 o.f, .pointer q] PK)
  have hv3 := hv2 (.cells #[.string (str o.n), .string (str o.x), .bool o.s, .int .i64 o.f, .pointer q] PK)
  have HB3 := Lib.hid (hB1.trans ((Ba (.cells #[.string (str o.n), .string (str o.x), .bool o.s, .int .i64 o.f, .pointer q] PK)).drew.mono hB1.size))
  have ho3 := heap_last w1 (.cells #[.string (str o.n), .string (str o.x), .bool o.s, .int .i64 o.f, .pointer q] PK)
  have ho3 : (w1.alloc (.cells #[.string (str o.n), .string (str o.x), .bool o.s, .int .i64 o.f, .pointer q] PK)).drew.heap[w1.heap.size]? = _ := ho3
  have hso : w1.heap.size < (w1.alloc (.cells #[.string (str o.n), .string (str o.x), .bool o.s, .int .i64 o.f, .pointer q] PK)).drew.heap.size := by show w1.heap.size < (w1.alloc _).heap.size; simp
  clear d0a e0a e3a l2 hv2 h2 Ba l1 d0 e0
  generalize (w1.alloc (.cells #[.string (str o.n), .string (str o.x), .bool o.s, .int .i64 o.f, .pointer q] PK)).drew = W3 at *
  have o3 := cell_at (i := 3) ho3 rfl
  have e0 := cell_at (i := 0) hv3 rfl
  have e1 := cell_at (i := 1) hv3 rfl
  have e2 := cell_at (i := 2) hv3 rfl
  have e3 := cell_at (i := 3) hv3 rfl
  have d0 := hT3.c0
  have htb3 := hT3.lt
  have hwl3 := (Array.getElem?_eq_some_iff.1 hv3).1
  have HT3 := Lib.hid hT3
  clear hT3 hv3 ho3 h1
  go_wp2_with fail
  go_still_tail 8, (by kernel_rfl)
  change wpList _ _ _ _ _ W3.drew
  have hT4 := HT3.out.below (Below.refl _ W3).drew
  have HB4 := Lib.hid (HB3.out.trans ((Below.refl _ W3).drew.mono HB3.out.size))
  have HT4 := Lib.hid hT4
  have hM4 : MapAt KK W3.drew bm E := hT4.vars
  clear hT4 d0 e0 e1 e2 e3 o3 htb3 hwl3 hso
  generalize W3.drew = W4 at *
  go_wp2_with (at_mapUpdate; refine wpList_put (K := KK) (p := v.n) (c := ⟨v, none⟩) _ rfl _ _ _ rfl rfl rfl rfl hM4 (by unfold maxLen; omega) (by unfold maxLen; omega) ?_; intro w5 hM5 ht)
  go_ret
  obtain ⟨X', h5, hK5, hX5⟩ := HT4.out.put v none [] [] (Kept.refl _ _) (fun i h => (by cases h)) (fun b h => (by cases h)) (fun h => absurd rfl h) hM5 ht
  exact tab_put ((Kept.of_below HB4.out).trans hK5) h5 (ins_l hs hkeys) (fun i hi => by
    rcases hX5 i hi with h | h
    · exact .inl h
    · exact .inr (Nat.le_trans HB4.out.size h))

set_option maxHeartbeats 4000000 in
theorem PSet_first (w : World) {tb : Nat} {X : List Nat} {E : List (Bs × KE)} {M : List (Bs × Int)} {all : Bool} {mn : Option Nat} {O : Bs → List Nat} (h : TabAt w tb X E M all none mn O) (v : Jp.V) (hr : Jp.rightA v = true) (hz : v.n.length ≤ 1000000) (o : Jp.V) (q : Option Addr) 
    (hlen : E.length ≤ 1000000) (hV : keV (valA KK E v.n) = .agg #[.string (str o.n), .string (str o.x), .bool o.s, .int .i64 o.f, .pointer q]) (hb : (Kp.get E v.n).isSome = false) :
    Calls Tryz.prog 8 #[.pointer (some ⟨tb, 0, none⟩), .agg (vA v)] w (SPost w tb X (Jp.insA v false (E.map fun e => e.2.v)) M all 0) := by
  have hps : (str v.n).size ≤ maxLen := by rw [str_size]; unfold maxLen; omega
  have hlk := fun (W : World) (hM : MOpt KK W none E) => (hM.run_look hps).1
  rw [by8_str, hb] at hlk
  change ∀ W, MOpt KK W none E → (Instr.lookup 72 (.map none) (.string (str v.n)) true).run Tryz.prog W = .ok (.tuple #[keV (valA KK E v.n), .bool false]) W at hlk
  rw [hV] at hlk
  have HLK := Lib.hid hlk
  have hbx := heap_last w (.cells (vA v) PV)
  have hB := (Below.refl w.heap.size w).alloc (Nat.le_refl _) (.cells (vA v) PV)
  have c0 := cell_at (i := 0) hbx rfl
  have c1 := cell_at (i := 1) hbx rfl
  have c2 := cell_at (i := 2) hbx rfl
  have c3 := cell_at (i := 3) hbx rfl
  have hq := fun (w : World) => run_eql_map_nil (P := Tryz.prog) w 72 9 70 none Tryz.underlying72
  have hW := fun W => PWrong_any W v
  rw [hr] at hW
  have H := Lib.hid h
  have HBX := Lib.hid hbx
  have htb := h.lt
  have hs := h.vars.sorted
  have hkeys := h.keys
  clear h hV hb hr hlk hbx
  unfold vA at *
  have HW := Lib.hid hW
  clear hW
  go_enter Tryz.func8, Tryz.ntmps8
  go_wp2_with fail
  refine (HW.out _).mono ?_
  rintro e w1 ⟨rfl, B1⟩
  have hB1 := hB.trans (B1.mono hB.size)
  have h1 := H.out.below hB1
  have d0 : w1.drew.cell? ⟨tb, 0, none⟩ = some (.map none) := h1.c0
  have hv1 := (B1.block _ (by simp)).trans HBX.out
  have e0 : w1.drew.cell? ⟨w.heap.size, 0, none⟩ = some (.string (str v.n)) := cell_at (i := 0) hv1 rfl
  have Ba := fun o => (Below.refl w1.heap.size w1).alloc (Nat.le_refl _) o
  have l1 := HLK.out w1.drew (h1.below (Below.refl _ w1).drew).vars
  have l2 := fun o => HLK.out (w1.alloc o).drew (h1.below ((Ba o).drew)).vars
  have d0a := fun o => (h1.below ((Ba o).drew)).c0
  have hv2 := fun o => ((Ba o).drew.block _ (Array.getElem?_eq_some_iff.1 hv1).1).trans hv1
  have e0a := fun o => cell_at (i := 0) (hv2 o) rfl
  have e3a := fun o => cell_at (i := 3) (hv2 o) rfl
  have htb1 := h1.lt
  have hwl := (Array.getElem?_eq_some_iff.1 hv1).1
  have h2 := fun o => h1.below ((Ba o).drew)
  clear c0 c1 c2 c3 hv1
  go_wp2_with fail
  go_region
  have hT3 := h2 (.cells #[.string (str o.n), .string (str o.x), .bool o.s, .int .i64 o.f, .pointer q] PK)
  have hv3 := hv2 (.cells #[.string (str o.n), .string (str o.x), .bool o.s, .int .i64 o.f, .pointer q] PK)
  have HB3 := Lib.hid (hB1.trans ((Ba (.cells #[.string (str o.n), .string (str o.x), .bool o.s, .int .i64 o.f, .pointer q] PK)).drew.mono hB1.size))
  have ho3 := heap_last w1 (.cells #[.string (str o.n), .string (str o.x), .bool o.s, .int .i64 o.f, .pointer q] PK)
  have ho3 : (w1.alloc (.cells #[.string (str o.n), .string (str o.x), .bool o.s, .int .i64 o.f, .pointer q] PK)).drew.heap[w1.heap.size]? = _ := ho3
  have hso : w1.heap.size < (w1.alloc (.cells #[.string (str o.n), .string (str o.x), .bool o.s, .int .i64 o.f, .pointer q] PK)).drew.heap.size := by show w1.heap.size < (w1.alloc _).heap.size; simp
  clear d0a e0a e3a l2 hv2 h2 Ba l1 d0 e0
  generalize (w1.alloc (.cells #[.string (str o.n), .string (str o.x), .bool o.s, .int .i64 o.f, .pointer q] PK)).drew = W3 at *
  have o3 := cell_at (i := 3) ho3 rfl
  have e0 := cell_at (i := 0) hv3 rfl
  have e1 := cell_at (i := 1) hv3 rfl
  have e2 := cell_at (i := 2) hv3 rfl
  have e3 := cell_at (i := 3) hv3 rfl
  have d0 := hT3.c0
  have htb3 := hT3.lt
  have hwl3 := (Array.getElem?_eq_some_iff.1 hv3).1
  have hmm := @run_makeMap Tryz.prog
  obtain rfl : E = [] := hT3.vars
  have hBa := (Below.refl W3.heap.size W3).alloc (Nat.le_refl _) (.map #[] 0)
  have hTa := hT3.below hBa
  have d0a := hTa.c0
  have f0a := frozen_at hTa.cells 0
  have hT5 := hT3.made
  have hcm : (W3.alloc (.map #[] 0)).setCell ⟨tb, 0, none⟩ (.map (some W3.heap.size)) = (W3.setCell ⟨tb, 0, none⟩ (.map (some W3.heap.size))).alloc (.map #[] 0) := World.setCell_alloc_past _ _ _ _ htb3
  rw [hcm] at hT5
  have hK5 := ((Kept.of_below HB3.out).trans (((Kept.refl X W3).alloc (.map #[] 0)).setCell (p := ⟨tb, 0, none⟩) (.inl hT3.tX) (.map (some W3.heap.size))))
  rw [hcm] at hK5
  have hv5 := heap_ne (i := 0) ((hBa.block _ hwl3).trans hv3) (show w.heap.size ≠ tb by omega) (.map (some W3.heap.size))
  rw [hcm] at hv5
  clear hcm
  have HT5 := Lib.hid hT5
  have HK5 := Lib.hid hK5
  have x0 := hT5.c0
  have x1 := hT5.lt
  have y0 := cell_at (i := 0) hv5 rfl
  have y1 := cell_at (i := 1) hv5 rfl
  have y2 := cell_at (i := 2) hv5 rfl
  have y3 := cell_at (i := 3) hv5 rfl
  have y4 := (Array.getElem?_eq_some_iff.1 hv5).1
  clear hT3 hv3 ho3 h1 hTa hT5 hK5 hv5 hBa
  go_wp2_with fail
  clear hmm d0 d0a f0a e0 e1 e2 e3 o3
  generalize hW5 : (W3.setCell ⟨tb, 0, none⟩ (.map (some W3.heap.size))).alloc (.map #[] 0) = W5 at *
  go_still_tail 8, (by kernel_rfl)
  change wpList _ _ _ _ _ W5.drew
  have HT6 := Lib.hid (HT5.out.below (Below.refl _ W5).drew)
  have HK6 := Lib.hid (HK5.out.drewN 1)
  have hM6 : MapAt KK W5.drew W3.heap.size [] := HT6.out.vars
  clear x0 x1 y0 y1 y2 y3 y4 htb3 hwl3 hso hW5 HT5 HK5
  change Hid (Kept X w W5.drew) at HK6
  have hz3 := HB3.out.size
  generalize W5.drew = W6 at *
  go_wp2_with (at_mapUpdate; refine wpList_put (K := KK) (p := v.n) (c := ⟨v, none⟩) _ rfl _ _ _ rfl rfl rfl rfl hM6 (by unfold maxLen; omega) (by unfold maxLen; simp) ?_; intro w7 hM7 ht)
  go_ret
  obtain ⟨X', h7, hK7, hX7⟩ := HT6.out.put v none [] [] (Kept.refl _ _) (fun i h => (by cases h)) (fun b h => (by cases h)) (fun h => absurd rfl h) hM7 ht
  refine tab_put (HK6.out.trans_new hK7 (fun i hi => ?_)) h7 (ins_l (List.Pairwise.nil) (fun e h => (by cases h))) (fun i hi => ?_)
  · rcases List.mem_cons.1 hi with rfl | hi
    · exact .inr hz3
    · exact .inl hi
  · rcases hX7 i hi with h | h
    · rcases List.mem_cons.1 h with rfl | h
      · exact .inr hz3
      · exact .inl h
    · exact .inr (Nat.le_trans HK6.out.size h)

/-- (*Table).Set. -/
theorem PSet_any (w : World) {tb : Nat} {X : List Nat} {L : List Jp.V} {M : List (Bs × Int)} {all : Bool} (h : Tab w tb X L M all) (v : Jp.V) (T : Jp.T) (hT : T.l = L) (hz : v.n.length ≤ 1000000) (hlen : L.length ≤ 1000000) :
    Calls Tryz.prog 8 #[.pointer (some ⟨tb, 0, none⟩), .agg (vA v)] w (SPost w tb X (if Jp.rightA v = true then (Jp.setA T v).l else L) M all (if Jp.rightA v = true then 0 else 1)) := by
  cases hr : Jp.rightA v with
  | false =>
    refine (PSet_wrong w tb v hr).mono ?_
    rintro e w' ⟨he, hB⟩
    exact SPost.same h (by simpa using he) hB
  | true =>
    rw [if_pos rfl, if_pos rfl]
    obtain ⟨E, mv, mn, O, h, rfl⟩ := h
    have hlen' : E.length ≤ 1000000 := by simpa using hlen
    have hTab : Tab w tb X (E.map fun e => e.2.v) M all := ⟨E, mv, mn, O, h, rfl⟩
    unfold Jp.setA
    rw [hT]
    rcases h.got v.n with ⟨h1, h2, h3⟩ | ⟨e, he, h0, hk, h1, h2, h3⟩
    · rw [h1]
      dsimp only
      show Calls _ _ _ _ (SPost w tb X (Jp.insA v false T.l) M all 0)
      rw [hT]
      cases mv with
      | none => exact PSet_first w h v hr hz Jp.zero none hlen' (by rw [h2]; rfl) h3
      | some bm => exact PSet_new w h v hr hz Jp.zero none hlen' (by rw [h2]; rfl) h3
    · rw [h1]
      obtain ⟨e1, o, g⟩ := e
      dsimp only at *
      by_cases hlt : v.f < o.f
      · rw [if_pos hlt, hT]
        refine (PSet_less w h v hr hz o _ hlt (by rw [h2]; rfl) h3).mono ?_
        rintro e w' ⟨he, hB⟩
        exact SPost.same hTab he hB
      · rw [if_neg hlt]
        show Calls _ _ _ _ (SPost w tb X (Jp.insA v false T.l) M all 0)
        rw [hT]
        cases mv with
        | none => rw [show E = [] from h.vars] at he; cases he
        | some bm => exact PSet_yes w h v hr hz o _ hlt hlen' (by rw [h2]; rfl) h3
end Go.Proofs.YtebagfadcjgllaaGreatDoor.Jw
