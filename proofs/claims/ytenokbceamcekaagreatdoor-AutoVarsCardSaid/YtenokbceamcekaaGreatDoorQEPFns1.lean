/-
  package text: patsubst, addprefix, addsuffix; functions as values: one, two, three, each, filter.
-/
import Derived.Laws.EntriesVeiled
import Derived.Deep.RegionHeld3
import Derived.Test.YtenokbceamcekaaGreatDoorQEPEach
import Derived.Test.YtenokbceamcekaaGreatDoorQEPNum
import Derived.Test.YtenokbceamcekaaGreatDoorQTAll0
import Derived.Test.YtenokbceamcekaaGreatDoorQECall2
import Derived.Test.YtenokbceamcekaaGreatDoorQEPSmall
namespace Go.Proofs.YtenokbceamcekaaGreatDoor.Ew
open Go.RowKit Go.Proofs.YtenokbceamcekaaGreatDoor Go.Proofs.YtenokbceamcekaaGreatDoor.Ww Go.Proofs.YtenokbceamcekaaGreatDoor.Tw
set_option maxRecDepth 100000

/-- All cells are as they were. -/
structure CK (W W' : World) : Prop where
  size : W.heap.size ≤ W'.heap.size
  same : ∀ (k : Nat) (cs : Array Value) (t : TypeId) (fr : Nat × Nat), W.heap[k]? = some (.cells cs t fr) → W'.heap[k]? = some (.cells cs t fr)
theorem CK.refl (W : World) : CK W W := ⟨Nat.le_refl _, fun _ _ _ _ h => h⟩
theorem CK.trans {A B C : World} (h : CK A B) (k : CK B C) : CK A C := ⟨Nat.le_trans h.size k.size, fun i cs t fr e => k.same i cs t fr (h.same i cs t fr e)⟩
theorem CK.of {W W' : World} (h : Below W.heap.size W W') : CK W W' := ⟨h.size, fun k _ _ _ e => (h.block k (Array.getElem?_eq_some_iff.1 e).1).trans e⟩
theorem CK.box {W W' : World} (h : CK W W') {b : Nat} {t : TypeId} {v : Value} (hb : Boxed W b t v) : Boxed W' b t v := h.same _ _ _ _ hb
abbrev FA (g : Nat) (lb : Array Value) : Value := .func (.func g) #[] lb
def Enters (g : Nat) : Prop := ∀ args w, (callFunc g args).run Tryz.prog w = .ok (.enter g args) w
/-- A function of one text, as a value; of two; of three; of a list. -/
def Fn1 (W : World) (g : Nat) (lb : Array Value) (f : ByteArray → ByteArray) : Prop := Enters g ∧ ∀ w' p, CK W w' → GM w' → p.size ≤ 9000 → Calls Tryz.prog g (#[.string p] ++ lb) w' fun e w'' => e = .returned (.string (f p)) ∧ Below w'.heap.size w' w''
def Fn2 (W : World) (g : Nat) (lb : Array Value) (f : ByteArray → ByteArray → ByteArray) : Prop := Enters g ∧ ∀ w' p q, CK W w' → GM w' → p.size ≤ 9000 → q.size ≤ 9000 → Calls Tryz.prog g (#[.string p, .string q] ++ lb) w' fun e w'' => e = .returned (.string (f p q)) ∧ Below w'.heap.size w' w''
def Fn3 (W : World) (g : Nat) (lb : Array Value) (f : ByteArray → ByteArray → ByteArray → ByteArray) : Prop := Enters g ∧ ∀ w' p q r, CK W w' → GM w' → p.size ≤ 9000 → q.size ≤ 9000 → r.size ≤ 9000 → Calls Tryz.prog g (#[.string p, .string q, .string r] ++ lb) w' fun e w'' => e = .returned (.string (f p q r)) ∧ Below w'.heap.size w' w''
def FnL (W : World) (g : Nat) (lb : Array Value) (n : Nat) (f : List ByteArray → ByteArray × Int) : Prop := Enters g ∧ ∀ w' v A, CK W w' → GM w' → Rd w' w'.heap.size v (strsC A) → A.length = n → (∀ p ∈ A, p.size ≤ 9000) → Calls Tryz.prog g (#[v] ++ lb) w' fun e w'' => e = ansE (f A) ∧ Below w'.heap.size w' w''
theorem Fn1.later {W W' : World} {g : Nat} {lb : Array Value} {f} (h : Fn1 W g lb f) (k : CK W W') : Fn1 W' g lb f := ⟨h.1, fun w' p c => h.2 w' p (k.trans c)⟩
theorem Fn2.later {W W' : World} {g : Nat} {lb : Array Value} {f} (h : Fn2 W g lb f) (k : CK W W') : Fn2 W' g lb f := ⟨h.1, fun w' p q c => h.2 w' p q (k.trans c)⟩
theorem Fn3.later {W W' : World} {g : Nat} {lb : Array Value} {f} (h : Fn3 W g lb f) (k : CK W W') : Fn3 W' g lb f := ⟨h.1, fun w' p q r c => h.2 w' p q r (k.trans c)⟩
theorem FnL.later {W W' : World} {g : Nat} {lb : Array Value} {n : Nat} {f} (h : FnL W g lb n f) (k : CK W W') : FnL W' g lb n f := ⟨h.1, fun w' v A c => h.2 w' v A (k.trans c)⟩

abbrev FU : TypeId := 76
def zeroF : Array Value := #[.int .i64 0, .nilFunc]
theorem sizeF : (Tryz.prog.info? FU).map (·.size) = some 2 := by kernel_rfl
theorem undF : Tryz.prog.underlying FU = some (.struct (Tryz.prog.fieldsOf FU)) := by kernel_rfl
set_option maxHeartbeats 2000000 in
theorem one_any (w : World) (g : Nat) (lb : Array Value) : Calls Tryz.prog 54 #[FA g lb] w fun e w' => e = .returned (.agg #[.int .i64 1, FA 87 #[.pointer (some ⟨w.heap.size, 0, none⟩)]]) ∧ Boxed w' w.heap.size 36 (FA g lb) ∧ Below w.heap.size w w' := by
  have H1 := Lib.hid (heap_alloc_last (w.alloc (.cells #[FA g lb] 36)) (.cells zeroF FU))
  rw [World.size_alloc] at H1
  have HB := Lib.hid (((Below.refl w.heap.size w).alloc (Nat.le_refl _) (.cells #[FA g lb] 36)).alloc (by simp) (.cells zeroF FU))
  have HX := Lib.hid ((Boxed.new w 36 (FA g lb)).alloc (.cells zeroF FU))
  go_enter Tryz.func54, Tryz.ntmps54
  go_wp2_with (refine wpList_store_row rfl FU _ _ rfl (w.heap.size + 1) #[.int .i64 1, FA 87 #[.pointer (some ⟨w.heap.size, 0, none⟩)]] rfl rfl FU zeroF H1.out sizeF rfl (by simp [Value.oneCell']) ?_)
  (try simp only [Exit.inBlock, Exit.then])
  refine bodyPost_ret (results_box Tryz.results54 _ _ (w.heap.size + 1) FU #[.int .i64 1, FA 87 #[.pointer (some ⟨w.heap.size, 0, none⟩)]] (0, 0) _ rfl (setRow_heap _ _ _ _ _ _ H1.out) undF rfl sizeF) rfl ?_
  exact ⟨rfl, (setRow_other _ _ _ _ (by omega)).trans HX.out, below_setRow HB.out (by omega) _⟩
set_option maxHeartbeats 2000000 in
theorem two_any (w : World) (g : Nat) (lb : Array Value) : Calls Tryz.prog 56 #[FA g lb] w fun e w' => e = .returned (.agg #[.int .i64 2, FA 88 #[.pointer (some ⟨w.heap.size, 0, none⟩)]]) ∧ Boxed w' w.heap.size 37 (FA g lb) ∧ Below w.heap.size w w' := by
  have H1 := Lib.hid (heap_alloc_last (w.alloc (.cells #[FA g lb] 37)) (.cells zeroF FU))
  rw [World.size_alloc] at H1
  have HB := Lib.hid (((Below.refl w.heap.size w).alloc (Nat.le_refl _) (.cells #[FA g lb] 37)).alloc (by simp) (.cells zeroF FU))
  have HX := Lib.hid ((Boxed.new w 37 (FA g lb)).alloc (.cells zeroF FU))
  go_enter Tryz.func56, Tryz.ntmps56
  go_wp2_with (refine wpList_store_row rfl FU _ _ rfl (w.heap.size + 1) #[.int .i64 2, FA 88 #[.pointer (some ⟨w.heap.size, 0, none⟩)]] rfl rfl FU zeroF H1.out sizeF rfl (by simp [Value.oneCell']) ?_)
  (try simp only [Exit.inBlock, Exit.then])
  refine bodyPost_ret (results_box Tryz.results56 _ _ (w.heap.size + 1) FU #[.int .i64 2, FA 88 #[.pointer (some ⟨w.heap.size, 0, none⟩)]] (0, 0) _ rfl (setRow_heap _ _ _ _ _ _ H1.out) undF rfl sizeF) rfl ?_
  exact ⟨rfl, (setRow_other _ _ _ _ (by omega)).trans HX.out, below_setRow HB.out (by omega) _⟩
set_option maxHeartbeats 2000000 in
theorem three_any (w : World) (g : Nat) (lb : Array Value) : Calls Tryz.prog 51 #[FA g lb] w fun e w' => e = .returned (.agg #[.int .i64 3, FA 82 #[.pointer (some ⟨w.heap.size, 0, none⟩)]]) ∧ Boxed w' w.heap.size 53 (FA g lb) ∧ Below w.heap.size w w' := by
  have H1 := Lib.hid (heap_alloc_last (w.alloc (.cells #[FA g lb] 53)) (.cells zeroF FU))
  rw [World.size_alloc] at H1
  have HB := Lib.hid (((Below.refl w.heap.size w).alloc (Nat.le_refl _) (.cells #[FA g lb] 53)).alloc (by simp) (.cells zeroF FU))
  have HX := Lib.hid ((Boxed.new w 53 (FA g lb)).alloc (.cells zeroF FU))
  go_enter Tryz.func51, Tryz.ntmps51
  go_wp2_with (refine wpList_store_row rfl FU _ _ rfl (w.heap.size + 1) #[.int .i64 3, FA 82 #[.pointer (some ⟨w.heap.size, 0, none⟩)]] rfl rfl FU zeroF H1.out sizeF rfl (by simp [Value.oneCell']) ?_)
  (try simp only [Exit.inBlock, Exit.then])
  refine bodyPost_ret (results_box Tryz.results51 _ _ (w.heap.size + 1) FU #[.int .i64 3, FA 82 #[.pointer (some ⟨w.heap.size, 0, none⟩)]] (0, 0) _ rfl (setRow_heap _ _ _ _ _ _ H1.out) undF rfl sizeF) rfl ?_
  exact ⟨rfl, (setRow_other _ _ _ _ (by omega)).trans HX.out, below_setRow HB.out (by omega) _⟩

set_option maxHeartbeats 2000000 in
theorem one1_any (w : World) (v : Value) (A : List ByteArray) (r : ByteArray) (b g : Nat) (lb : Array Value) (eg : Enters g) (hb : Boxed w b 36 (FA g lb)) (hr : Rd w w.heap.size v (strsC A)) (hl : A.length = 1)
    (HF : ∀ W, Below w.heap.size w W → Calls Tryz.prog g (#[.string (A.getD 0 ⟨#[]⟩)] ++ lb) W fun e w' => e = .returned (.string r) ∧ Below W.heap.size W w') : Calls Tryz.prog 87 #[v, .pointer (some ⟨b, 0, none⟩)] w fun e w' => e = ansE (r, 0) ∧ Below w.heap.size w w' := by
  obtain ⟨a0, c0, rfl, _⟩ := hr.shape
  simp only [strsC_len] at hr ⊢
  obtain ⟨g0, o, rfl, hn, hc, hg, hcell⟩ := rd_cell hr 0 (by omega)
  rw [hl] at hr hc ⊢
  have c1 := hb.cell
  have l1 := hb.lt
  have hcm := hcell 0 (by omega)
  rw [Nat.add_zero] at hcm
  have HC := Lib.hid HF
  have eg : ∀ args w, (callFunc g args).run Tryz.prog w = .ok (.enter g args) w := eg
  clear hcell hn hr hb HF
  generalize A.getD 0 ⟨#[]⟩ = p at *
  go_enter Tryz.func87, Tryz.ntmps87
  have S5 : w.drew.cell? ⟨b, 0, none⟩ = some (FA g lb) ∧ w.drew.cell? ⟨g0, o, none⟩ = some (.string p) ∧ Below w.heap.size w w.drew := ⟨c1, hcm, (Below.refl _ _).drew⟩
  clear c1 hcm
  go_wp2_with fail
  go_region_held3 (fun W => W.cell? ⟨b, 0, none⟩ = some (FA g lb) ∧ W.cell? ⟨g0, o, none⟩ = some (.string p) ∧ Below w.heap.size w W)
    (first | exact S7 | exact S5)
    (first
      | (go_at_fn g; refine (HC.out _ S5.2.2).mono ?_; rintro e w7 ⟨rfl, B7⟩; have S7 : w7.cell? ⟨b, 0, none⟩ = some (FA g lb) ∧ w7.cell? ⟨g0, o, none⟩ = some (.string p) ∧ Below w.heap.size w w7 := ⟨(B7.cell (p := ⟨b, 0, none⟩) l1).trans S5.1, (B7.cell (p := ⟨g0, o, none⟩) hg).trans S5.2.1, S5.2.2.trans (B7.mono S5.2.2.size)⟩))
  all_goals go_wp2_with fail
  all_goals go_ret2
  all_goals exact ⟨rfl, S7.2.2⟩
set_option maxHeartbeats 2000000 in
theorem two1_any (w : World) (v : Value) (A : List ByteArray) (r : ByteArray) (b g : Nat) (lb : Array Value) (eg : Enters g) (hb : Boxed w b 37 (FA g lb)) (hr : Rd w w.heap.size v (strsC A)) (hl : A.length = 2)
    (HF : ∀ W, Below w.heap.size w W → Calls Tryz.prog g (#[.string (A.getD 0 ⟨#[]⟩), .string (A.getD 1 ⟨#[]⟩)] ++ lb) W fun e w' => e = .returned (.string r) ∧ Below W.heap.size W w') : Calls Tryz.prog 88 #[v, .pointer (some ⟨b, 0, none⟩)] w fun e w' => e = ansE (r, 0) ∧ Below w.heap.size w w' := by
  obtain ⟨a0, c0, rfl, _⟩ := hr.shape
  simp only [strsC_len] at hr ⊢
  obtain ⟨g0, o, rfl, hn, hc, hg, hcell⟩ := rd_cell hr 0 (by omega)
  rw [hl] at hr hc ⊢
  have c1 := hb.cell
  have l1 := hb.lt
  have hcm := hcell 0 (by omega)
  have hcm1 := hcell 1 (by omega)
  rw [Nat.add_zero] at hcm
  have HC := Lib.hid HF
  have eg : ∀ args w, (callFunc g args).run Tryz.prog w = .ok (.enter g args) w := eg
  clear hcell hn hr hb HF
  generalize A.getD 0 ⟨#[]⟩ = p at *
  generalize A.getD 1 ⟨#[]⟩ = p1 at *
  go_enter Tryz.func88, Tryz.ntmps88
  have S5 : w.drew.cell? ⟨b, 0, none⟩ = some (FA g lb) ∧ w.drew.cell? ⟨g0, o, none⟩ = some (.string p) ∧ w.drew.cell? ⟨g0, o + 1, none⟩ = some (.string p1) ∧ Below w.heap.size w w.drew := ⟨c1, hcm, hcm1, (Below.refl _ _).drew⟩
  clear c1 hcm hcm1
  go_wp2_with fail
  go_region_held3 (fun W => W.cell? ⟨b, 0, none⟩ = some (FA g lb) ∧ W.cell? ⟨g0, o, none⟩ = some (.string p) ∧ W.cell? ⟨g0, o + 1, none⟩ = some (.string p1) ∧ Below w.heap.size w W)
    (first | exact S7 | exact S5)
    (first
      | (go_at_fn g; refine (HC.out _ S5.2.2.2).mono ?_; rintro e w7 ⟨rfl, B7⟩; have S7 : w7.cell? ⟨b, 0, none⟩ = some (FA g lb) ∧ w7.cell? ⟨g0, o, none⟩ = some (.string p) ∧ w7.cell? ⟨g0, o + 1, none⟩ = some (.string p1) ∧ Below w.heap.size w w7 := ⟨(B7.cell (p := ⟨b, 0, none⟩) l1).trans S5.1, (B7.cell (p := ⟨g0, o, none⟩) hg).trans S5.2.1, (B7.cell (p := ⟨g0, o + 1, none⟩) hg).trans S5.2.2.1, S5.2.2.2.trans (B7.mono S5.2.2.2.size)⟩))
  all_goals go_wp2_with fail
  all_goals go_ret2
  all_goals exact ⟨rfl, S7.2.2.2⟩
set_option maxHeartbeats 2000000 in
theorem three1_any (w : World) (v : Value) (A : List ByteArray) (r : ByteArray) (b g : Nat) (lb : Array Value) (eg : Enters g) (hb : Boxed w b 53 (FA g lb)) (hr : Rd w w.heap.size v (strsC A)) (hl : A.length = 3)
    (HF : ∀ W, Below w.heap.size w W → Calls Tryz.prog g (#[.string (A.getD 0 ⟨#[]⟩), .string (A.getD 1 ⟨#[]⟩), .string (A.getD 2 ⟨#[]⟩)] ++ lb) W fun e w' => e = .returned (.string r) ∧ Below W.heap.size W w') : Calls Tryz.prog 82 #[v, .pointer (some ⟨b, 0, none⟩)] w fun e w' => e = ansE (r, 0) ∧ Below w.heap.size w w' := by
  obtain ⟨a0, c0, rfl, _⟩ := hr.shape
  simp only [strsC_len] at hr ⊢
  obtain ⟨g0, o, rfl, hn, hc, hg, hcell⟩ := rd_cell hr 0 (by omega)
  rw [hl] at hr hc ⊢
  have c1 := hb.cell
  have l1 := hb.lt
  have hcm := hcell 0 (by omega)
  have hcm1 := hcell 1 (by omega)
  have hcm2 := hcell 2 (by omega)
  rw [Nat.add_zero] at hcm
  have HC := Lib.hid HF
  have eg : ∀ args w, (callFunc g args).run Tryz.prog w = .ok (.enter g args) w := eg
  clear hcell hn hr hb HF
  generalize A.getD 0 ⟨#[]⟩ = p at *
  generalize A.getD 1 ⟨#[]⟩ = p1 at *
  generalize A.getD 2 ⟨#[]⟩ = p2 at *
  go_enter Tryz.func82, Tryz.ntmps82
  have S5 : w.drew.cell? ⟨b, 0, none⟩ = some (FA g lb) ∧ w.drew.cell? ⟨g0, o, none⟩ = some (.string p) ∧ w.drew.cell? ⟨g0, o + 1, none⟩ = some (.string p1) ∧ w.drew.cell? ⟨g0, o + 2, none⟩ = some (.string p2) ∧ Below w.heap.size w w.drew := ⟨c1, hcm, hcm1, hcm2, (Below.refl _ _).drew⟩
  clear c1 hcm hcm1 hcm2
  go_wp2_with fail
  go_region_held3 (fun W => W.cell? ⟨b, 0, none⟩ = some (FA g lb) ∧ W.cell? ⟨g0, o, none⟩ = some (.string p) ∧ W.cell? ⟨g0, o + 1, none⟩ = some (.string p1) ∧ W.cell? ⟨g0, o + 2, none⟩ = some (.string p2) ∧ Below w.heap.size w W)
    (first | exact S7 | exact S5)
    (first
      | (go_at_fn g; refine (HC.out _ S5.2.2.2.2).mono ?_; rintro e w7 ⟨rfl, B7⟩; have S7 : w7.cell? ⟨b, 0, none⟩ = some (FA g lb) ∧ w7.cell? ⟨g0, o, none⟩ = some (.string p) ∧ w7.cell? ⟨g0, o + 1, none⟩ = some (.string p1) ∧ w7.cell? ⟨g0, o + 2, none⟩ = some (.string p2) ∧ Below w.heap.size w w7 := ⟨(B7.cell (p := ⟨b, 0, none⟩) l1).trans S5.1, (B7.cell (p := ⟨g0, o, none⟩) hg).trans S5.2.1, (B7.cell (p := ⟨g0, o + 1, none⟩) hg).trans S5.2.2.1, (B7.cell (p := ⟨g0, o + 2, none⟩) hg).trans S5.2.2.2.1, S5.2.2.2.2.trans (B7.mono S5.2.2.2.2.size)⟩))
  all_goals go_wp2_with fail
  all_goals go_ret2
  all_goals exact ⟨rfl, S7.2.2.2.2⟩
end Go.Proofs.YtenokbceamcekaaGreatDoor.Ew
