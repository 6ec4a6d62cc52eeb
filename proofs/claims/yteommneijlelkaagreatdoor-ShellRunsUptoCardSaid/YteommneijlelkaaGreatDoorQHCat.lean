/-
  cat.
-/
import Derived.Deep.RegionHeld3
import Derived.Test.YteommneijlelkaaGreatDoorQHMany
import Derived.Test.YteommneijlelkaaGreatDoorQHDeliver
namespace Go.Proofs.YteommneijlelkaaGreatDoor.Hx
open Go.RowKit Go.Proofs.YteommneijlelkaaGreatDoor Go.Maps Go.Proofs.YteommneijlelkaaGreatDoor.Sw
set_option maxRecDepth 100000

/-! ### the plain side -/
def catS (k : Hp.K) (acc p : Bs) : Bs × Int := if 1048576 < acc.length + (Hp.readP k p).1.length then (acc, 12) else (acc ++ (Hp.readP k p).1, (Hp.readP k p).2)
theorem catA_end : ∀ (l : List Bs) (k : Hp.K) (n : Nat), k.code ≠ 0 → Hp.catA k l n = (k, n)
  | [], _, _, _ => rfl
  | _ :: _, k, n, h => by unfold Hp.catA; rw [if_pos h]
theorem cat_is (s : St) (d inp o0 : Bs) : ∀ (l : List Bs) (acc : Bs) (n : Nat), acc.length ≤ 1048576 →
    (Hp.catA ⟨s, d, 0, inp, acc⟩ l n).1.code = (eachG d (catS ⟨s, d, 0, inp, o0⟩) acc l n).2.1 ∧ (Hp.catA ⟨s, d, 0, inp, acc⟩ l n).1.s = s ∧ (Hp.catA ⟨s, d, 0, inp, acc⟩ l n).1.d = d ∧
    ((eachG d (catS ⟨s, d, 0, inp, o0⟩) acc l n).2.1 = 0 → Hp.catA ⟨s, d, 0, inp, acc⟩ l n = (⟨s, d, 0, inp, (eachG d (catS ⟨s, d, 0, inp, o0⟩) acc l n).1⟩, (eachG d (catS ⟨s, d, 0, inp, o0⟩) acc l n).2.2))
  | [], acc, n, _ => ⟨rfl, rfl, rfl, fun _ => rfl⟩
  | x :: r, acc, n, ha => by
    unfold Hp.catA
    rw [if_neg (by simp)]
    cases hj : Hp.joinP d x with
    | none =>
      rw [eachG_no hj]
      exact cat_is s d inp o0 r acc 1 ha
    | some p =>
      rw [eachG_yes hj]
      simp only
      have er : ∀ a b : Bs, Hp.readP ⟨s, d, 0, a, b⟩ p = readA (getR s.L p) := fun _ _ => rfl
      have hrc := read_code ⟨s, d, 0, inp, o0⟩ p
      unfold catS
      simp only [er] at hrc ⊢
      by_cases hb : 1048576 < acc.length + (readA (getR s.L p)).1.length
      · have hc0 : (readA (getR s.L p)).2 = 0 := by
          rcases hrc with h | ⟨h, _⟩
          · exact h
          · rw [h] at hb; simp at hb; omega
        have hb' : 1048576 < (acc ++ (readA (getR s.L p)).1).length := by rw [List.length_append]; exact hb
        rw [if_pos hb, if_pos hc0, if_pos hb', if_pos (show (acc, (12 : Int)).2 = 5 ∨ (acc, (12 : Int)).2 = 12 from .inr rfl), catA_end _ _ _ (by simp)]
        exact ⟨rfl, rfl, rfl, fun h => by cases h⟩
      · rw [if_neg hb]
        rcases hrc with hc0 | ⟨hc1, hc2, hc5, hc12⟩
        · have hb' : ¬ 1048576 < (acc ++ (readA (getR s.L p)).1).length := by rw [List.length_append]; exact hb
          rw [hc0, if_pos rfl, if_neg hb', if_neg (show ¬ ((acc ++ (readA (getR s.L p)).1, (0 : Int)).2 = 5 ∨ (acc ++ (readA (getR s.L p)).1, (0 : Int)).2 = 12) by simp), if_pos rfl]
          exact cat_is s d inp o0 r (acc ++ (readA (getR s.L p)).1) n (by rw [List.length_append]; omega)
        · rw [if_neg hc2, if_neg (by simp [hc5, hc12]), hc1, if_neg hc2, List.append_nil]
          exact cat_is s d inp o0 r acc 1 ha

section
variable {rb sb bm : Nat} {st ran : Int} {pv bv : Value}
/-- What is known while cat goes on. -/
def CI (rb sb bm : Nat) (st ran : Int) (pv bv : Value) (k : Hp.K) (rx ab : Nat) (acc : Bs) (W : World) : Prop :=
  RunAt W rb sb bm k st ran pv bv ∧ W.cell? ⟨rx, 0, none⟩ = some (.pointer (some ⟨rb, 0, none⟩)) ∧ rb < ab ∧ sb < ab ∧ bm < ab ∧ rx < ab ∧ acc.length ≤ 1048576 ∧ ab + 1 ≤ W.heap.size ∧ ∃ p b, BAt W BT ab 0 (ab + 1) acc p b #[p, b]
theorem own_below {W W' : World} {B : Nat} {e : TypeId} {z n : Nat} {v : Value} {xs : List Value} (h : W.ownsRow B e z v n xs) (hB : Below W.heap.size W W') : W'.ownsRow B e z v n xs := by
  refine ⟨h.1, ?_⟩
  rcases h.2 with h | ⟨g, cap, cur, h1, h2, h3, h4⟩
  · exact .inl h
  · exact .inr ⟨g, cap, cur, h1, h2, (hB.block g (Array.getElem?_eq_some_iff.1 h3).1).trans h3, h4⟩
theorem BAt.below {W W' : World} {T : TypeId} {b k B : Nat} {l : Bs} {p v : Value} {cs : Array Value} (h : BAt W T b k B l p v cs) (hB : Below W.heap.size W W') : BAt W' T b k B l p v cs :=
  ⟨(hB.block b h.lt).trans h.cells, h.ptr, h.buf, h.used, own_below h.own hB, h.lies, h.ne⟩
theorem CI.below {W W' : World} {k : Hp.K} {rx ab : Nat} {acc : Bs} (h : CI rb sb bm st ran pv bv k rx ab acc W) (hB : Below W.heap.size W W') : CI rb sb bm st ran pv bv k rx ab acc W' := by
  obtain ⟨h1, h2, h3, h4, h5, h6, h7, h8, p, b, h9⟩ := h
  exact ⟨h1.below hB, (hB.cell (p := ⟨rx, 0, none⟩) (by show rx < _; omega)).trans h2, h3, h4, h5, h6, h7, Nat.le_trans h8 hB.size, p, b, h9.below hB⟩
def FrB (ab : Nat) (W W' : World) : Prop := ab ≤ W.heap.size → KeptB ab [] W W'
set_option maxHeartbeats 1000000 in
theorem cat1_any (w : World) {k : Hp.K} {rx ab : Nat} {acc : Bs} (p : Bs) (h : CI rb sb bm st ran pv bv k rx ab acc w) (hp : p.length ≤ 100000) (hr : (Hp.readP k p).1.length ≤ 1048576) :
    Calls Tryz.prog 120 #[.string (str p), .pointer (some ⟨rx, 0, none⟩), .pointer (some ⟨ab, 0, none⟩)] w fun e w' => e = .returned (.int .i64 (catS k acc p).2) ∧ CI rb sb bm st ran pv bv k rx ab (catS k acc p).1 w' ∧ FrB ab w w' := by
  have H := Lib.hid h
  obtain ⟨hR, hx, h3, h4, h5, h6, h7, h8, pb, bb, hb⟩ := h
  obtain ⟨c0, c1, c3, c4, c8, c9⟩ := hR.cells
  have hlt := hR.lt
  have hpm : (str p).size ≤ maxLen := by rw [← bs_len, bs_str]; unfold maxLen; omega
  have hRd := Read_any w (str p) _ hR.store hpm (Lib.hid rfl)
  have hrd : readA (getR k.s.L (bs (str p))) = Hp.readP k p := rfl
  rw [hrd] at hRd
  obtain ⟨⟨t, cd⟩, hq⟩ : ∃ q, Hp.readP k p = q := ⟨_, rfl⟩
  have hE : catS k acc p = if 1048576 < acc.length + t.length then (acc, 12) else (acc ++ t, cd) := by unfold catS; rw [hq]
  rw [hq] at hRd hr
  have HRd := Lib.hid hRd
  have ht : (str t).size = t.length := by rw [← bs_len, bs_str]
  dsimp only at hr
  clear hRd hq
  by_cases hbig : 1048576 < acc.length + t.length
  · rw [if_pos hbig] at hE
    have HE := Lib.hid hE
    have hb1 : (1048576 : Int) < acc.length + (str t).size := by rw [ht]; omega
    clear hE
    go_enter Tryz.func120, Tryz.ntmps120
    go_wp2_with (first
      | (go_at_call 121; refine HRd.out.mono ?_; rintro e w1 ⟨rfl, B1⟩; have hC1 := H.out.below B1; have hb2 := hb.below B1)
      | (go_at_call 122; refine (Len_any _ hb2).mono ?_; rintro e w2 ⟨rfl, rfl⟩))
    go_ret
    rw [HE.out]
    exact ⟨rfl, hC1, fun _ => .of_kept (.of_below (X := []) B1) (by omega) (by simp)⟩
  · rw [if_neg hbig] at hE
    have HE := Lib.hid hE
    have hb1 : ¬ (1048576 : Int) < acc.length + (str t).size := by rw [ht]; omega
    clear hE
    go_enter Tryz.func120, Tryz.ntmps120
    go_wp2_with (first
      | (go_at_call 121; refine HRd.out.mono ?_; rintro e w1 ⟨rfl, B1⟩; have hC1 := H.out.below B1; have hb2 := hb.below B1)
      | (go_at_call 122; refine (Len_any _ hb2).mono ?_; rintro e w2 ⟨rfl, rfl⟩)
      | (go_at_call 123; refine (WriteString_any _ hb2 (str t) (by rw [ht]; omega) (Nat.le_trans h8 B1.size)).mono ?_; rintro e w3 ⟨rfl, bv', hb3, hK3⟩))
    go_ret
    rw [HE.out]
    have hX : ∀ i ∈ ab :: bb.ownBlock.toList, ab ≤ i := fun i hi => by
      rcases List.mem_cons.1 hi with e | e
      · omega
      · have : bb.ownBlock = some i := by simpa using e
        have := (hb.own.lt i this).1
        omega
    have hs : ∀ i, i < ab → i ∉ ab :: bb.ownBlock.toList := fun i hi h => by have := hX i h; omega
    refine ⟨rfl, ⟨hC1.1.kept hK3 (hs _ h3) (hs _ h4) (hs _ h5), ?_, h3, h4, h5, h6, ?_, Nat.le_trans (Nat.le_trans h8 B1.size) hK3.size, _, bv', hb3⟩, fun _ => .of_kept ((Kept.of_below B1).trans hK3) (by omega) (fun i hi => .inr (hX i hi))⟩
    · exact (hK3.cell (p := ⟨rx, 0, none⟩) (by show rx < _; have := B1.size; omega) (hs _ h6)).trans hC1.2.1
    · rw [List.length_append]; show acc.length + t.length ≤ _; omega
theorem KeptB.to_kept {w w2 w3 : World} {B : Nat} {X : List Nat} (h : KeptB B [] w2 w3) (h0 : Kept X w w2) (hB : w.heap.size ≤ B) : Kept X w w3 :=
  ⟨h.os.trans h0.os, h.tape.trans h0.tape, h.output.trans h0.output, Nat.le_trans h0.size h.size, fun i hi hx => (h.block i (by omega) (by simp)).trans (h0.block i hi hx)⟩
theorem Kept.later {w a b : World} {X Y : List Nat} (h : Kept X w a) (g : Kept Y a b) (hY : ∀ i ∈ Y, w.heap.size ≤ i) : Kept X w b :=
  ⟨g.os.trans h.os, g.tape.trans h.tape, g.output.trans h.output, Nat.le_trans h.size g.size, fun i hi hx => (g.block i (Nat.lt_of_lt_of_le hi h.size) (fun hy => by have := hY i hy; omega)).trans (h.block i hi hx)⟩
theorem cat_nil {k : Hp.K} : Hp.cat k [] = (⟨k.s, k.d, k.code, k.inp, k.inp⟩, 0) := rfl
set_option maxHeartbeats 2000000 in
theorem cat_any (w : World) (k : Hp.K) (v : Value) (l : List Bs) (h0 : k.code = 0) (h9 : k.outp = []) (hrd : ∀ p, (Hp.readP k p).1.length ≤ 1048576) (hR : RunAt w rb sb bm k st ran pv bv) (hv : Ws w rb sb bm v l) (hl : ∀ x ∈ l, k.d.length + x.length + 2 ≤ 100000) (hll : l.length ≤ 1000000) :
    Calls Tryz.prog 79 #[.pointer (some ⟨rb, 0, none⟩), v] w (DoPost w rb sb bm st ran pv bv (Hp.cat k l)) := by
  obtain ⟨a, c, rfl, hc⟩ := Px.Rg.shape hv
  have hlt := hR.lt
  have hsb := hR.store.lt
  have hbm := hR.store.map.lt
  have hB0 := (Below.refl w.heap.size w).alloc (Nat.le_refl _) (.cells #[.pointer (some ⟨rb, 0, none⟩)] 82)
  have hz := heap_new w (.cells #[.pointer (some ⟨rb, 0, none⟩)] 82) rfl
  have hn1 : w.heap.size < (w.alloc (.cells #[.pointer (some ⟨rb, 0, none⟩)] 82)).heap.size := by simp
  have hR1 := hR.below hB0
  by_cases hn : l = []
  · subst hn
    obtain ⟨c0, c1, c3, c4, c8, c9⟩ := hR1.cells
    have f9 := hR1.frozen 9
    have hlt1 := hR1.lt
    have z0 : (w.alloc (.cells #[.pointer (some ⟨rb, 0, none⟩)] 82)).cell? ⟨w.heap.size, 0, none⟩ = some (.pointer (some ⟨rb, 0, none⟩)) := cell_at hz rfl
    have HR1 := Lib.hid hR1
    clear hv hR1 hz
    go_enter Tryz.func79, Tryz.ntmps79
    go_wp2_with fail
    generalize (w.alloc (.cells #[.pointer (some ⟨rb, 0, none⟩)] 82)) = w1 at *
    have D0 : Below w1.heap.size w1 w1.drew := (Below.refl _ _).drew
    go_still_tail 7, (by kernel_rfl)
    change wpList _ _ _ _ _ w1.drew
    have HR2 := Lib.hid (HR1.out.below D0)
    have f9d : w1.drew.frozen? ⟨rb, 9, none⟩ = false := f9
    have c9d : w1.drew.cell? ⟨rb, 9, none⟩ = some (.string (str k.outp)) := c9
    have hltd := HR2.out.lt
    have C1 := (Kept.of_below (X := [rb, sb, bm]) hB0).below D0
    generalize w1.drew = wd at *
    go_wp2_with fail
    go_ret
    rw [cat_nil]
    exact DoPost.ok (r := (⟨k.s, k.d, k.code, k.inp, k.inp⟩, 0)) h0 (HR2.out.set9 k.inp) (kept_set C1 (by simp) _)
  · obtain ⟨s, d, code, inp, outp⟩ := k
    obtain rfl : code = 0 := h0
    obtain rfl : outp = [] := h9
    have hB2 := (Below.refl (w.alloc (.cells #[.pointer (some ⟨rb, 0, none⟩)] 82)).heap.size (w.alloc (.cells #[.pointer (some ⟨rb, 0, none⟩)] 82))).alloc (Nat.le_refl _) (.cells #[.pointer none, .slice none 0 0] BT)
    have hBB := hB0.trans (hB2.mono hB0.size)
    have hz2 := heap_new (w.alloc (.cells #[.pointer (some ⟨rb, 0, none⟩)] 82)) (.cells #[.pointer none, .slice none 0 0] BT) rfl
    have hsz : (w.alloc (.cells #[.pointer (some ⟨rb, 0, none⟩)] 82)).heap.size = w.heap.size + 1 := by simp
    rw [hsz] at hz2
    have hI : CI rb sb bm st ran pv bv ⟨s, d, 0, inp, []⟩ w.heap.size (w.heap.size + 1) [] ((w.alloc (.cells #[.pointer (some ⟨rb, 0, none⟩)] 82)).alloc (.cells #[.pointer none, .slice none 0 0] BT)) :=
      ⟨hR1.below hB2, (hB2.cell (p := ⟨w.heap.size, 0, none⟩) hn1).trans (cell_at hz rfl), by omega, by omega, by omega, by omega, by simp, by simp, _, _, ⟨hz2, rfl, rfl, .inl rfl, World.ownsRow_nil _ _ _ _, liesB, by decide⟩⟩
    have hEa := each_gen (CI rb sb bm st ran pv bv ⟨s, d, 0, inp, []⟩ w.heap.size (w.heap.size + 1)) (FrB (w.heap.size + 1)) d (catS ⟨s, d, 0, inp, []⟩) (st := st) (ran := ran) (pv := pv) (bv := bv) 120 #[] #[.pointer (some ⟨w.heap.size, 0, none⟩), .pointer (some ⟨w.heap.size + 1, 0, none⟩)] (enters_of Tryz.func120 (by kernel_rfl) rfl)
      (fun _ _ h => ⟨_, h.1, rfl⟩) (fun _ _ _ h hB => h.below hB) (fun W _ => .refl) (fun h g hW => (h hW).trans (g (Nat.le_trans hW (h hW).size))) (fun hB hW => .of_kept (Kept.of_below (X := []) hB) hW (by simp))
      ((w.alloc (.cells #[.pointer (some ⟨rb, 0, none⟩)] 82)).alloc (.cells #[.pointer none, .slice none 0 0] BT)) (fun h b hb => (h (by simp)).block b (by have := hb.1; omega) (by simp))
      (fun acc W p h hp => cat1_any W p h hp (hrd p)) [] (.slice a l.length c) l hI (hv.below hBB hlt) hl hll
    obtain ⟨g1, _, _, g4⟩ := cat_is s d inp [] l [] 0 (by simp)
    have hcat : Hp.cat ⟨s, d, 0, inp, []⟩ l = Hp.catA ⟨s, d, 0, inp, []⟩ l 0 := by unfold Hp.cat; rw [if_neg hn]
    have hpos : 0 < l.length := List.length_pos_iff.2 hn
    have q : ((l.length : Int) == 0) = false := by rw [beq_eq_false_iff_ne]; omega
    have g23 := cat_is s d inp [] l [] 0 (by simp)
    generalize hr : eachG d (catS ⟨s, d, 0, inp, []⟩) [] l 0 = r at *
    obtain ⟨acc, cd, n⟩ := r
    rw [← hcat] at g1 g4 g23
    have HEa := Lib.hid hEa
    have G := Lib.hid g23
    clear hEa hI g1 g4 g23 hcat hn hr hv hz hz2
    have CK : Hid (Kept [rb, sb, bm] w ((w.alloc (.cells #[.pointer (some ⟨rb, 0, none⟩)] 82)).alloc (.cells #[.pointer none, .slice none 0 0] BT))) := Lib.hid (.of_below hBB)
    by_cases hcd : cd = 0
    · subst hcd
      have HE : Hid (Hp.cat ⟨s, d, 0, inp, []⟩ l = (⟨s, d, 0, inp, acc⟩, n)) := Lib.hid (G.out.2.2.2 rfl)
      go_enter Tryz.func79, Tryz.ntmps79
      go_wp2_with fail
      refine HEa.out.mono ?_
      rintro e w3 ⟨h1, h2, h3⟩
      rw [if_pos rfl] at h1
      subst h1
      have hK3 := (h3 (by simp)).to_kept CK.out (by omega)
      obtain ⟨hR3, z3, i3, i4, i5, i6, i7, i8, pb, bb, hb⟩ := h2
      obtain ⟨c0, c1, c3, c4, c8, c9⟩ := hR3.cells
      have f9 := hR3.frozen 9
      have hlt3 := hR3.lt
      have D0 : Below w3.heap.size w3 w3.drew := (Below.refl _ _).drew
      have hbd := hb.below D0
      have hlx : w.heap.size < w3.heap.size := by omega
      have hno : ∀ i, i < w.heap.size + 1 → i ∉ bb.ownBlock.toList := fun i hi h => by
        have : bb.ownBlock = some i := by simpa using h
        have := (hb.own.lt i this).1
        omega
      have hYY : ∀ i ∈ bb.ownBlock.toList, w.heap.size ≤ i := fun i hi => by
        have : bb.ownBlock = some i := by simpa using hi
        have := (hb.own.lt i this).1
        omega
      dsimp only
      go_wp2_with fail
      have c9d : w3.drew.cell? ⟨rb, 9, none⟩ = some (.string (str [])) := c9
      have f9d : w3.drew.frozen? ⟨rb, 9, none⟩ = false := f9
      go_region_held3 (fun w' => w'.cell? ⟨w.heap.size, 0, none⟩ = some (.pointer (some ⟨rb, 0, none⟩)))
        (first | exact z3 | exact S1 | exact S2 _)
        (first
          | (go_at_call 27; refine (String_any _ hbd).mono ?_; rintro e w4 ⟨rfl, hK4⟩; have hR4 := (hR3.below D0).kept hK4 (hno _ (by omega)) (hno _ (by omega)) (hno _ (by omega)); have S1 : w4.cell? ⟨w.heap.size, 0, none⟩ = some (.pointer (some ⟨rb, 0, none⟩)) := (hK4.cell (p := ⟨w.heap.size, 0, none⟩) hlx (hno _ (by simp))).trans z3; have S2 : ∀ u, (w4.setCell ⟨rb, 9, none⟩ u).cell? ⟨w.heap.size, 0, none⟩ = some (.pointer (some ⟨rb, 0, none⟩)) := fun u => (World.cell?_of_block (a := ⟨w.heap.size, 0, none⟩) (Below.heap_setCell _ _ _ _ (by simp; omega))).trans S1; have c9' := hR4.cells.2.2.2.2.2; have f9' := hR4.frozen 9; have hlt4 := hR4.lt; have hK5 := Kept.later (hK3.below D0) hK4 hYY))
      all_goals go_wp2_with fail
      all_goals go_ret
      all_goals rw [HE.out]
      all_goals exact DoPost.ok (r := (⟨s, d, 0, inp, acc⟩, n)) rfl (hR4.set9 acc) (kept_set hK5 (by simp) _)
    · go_enter Tryz.func79, Tryz.ntmps79
      go_wp2_with fail
      refine HEa.out.mono ?_
      rintro e w3 ⟨h1, h2, h3⟩
      rw [if_neg hcd] at h1
      subst h1
      have hK3 := (h3 (by simp)).to_kept CK.out (by omega)
      obtain ⟨e1, e2, e3, _⟩ := G.out
      have hR3 := h2.1
      have hP : DoPost w rb sb bm st ran pv bv (Hp.cat ⟨s, d, 0, inp, []⟩ l) (endE cd) w3 := by
        generalize Hp.cat ⟨s, d, 0, inp, []⟩ l = y at *
        obtain ⟨⟨s', d', c', i', o'⟩, m⟩ := y
        dsimp only at e1 e2 e3
        subst e1 e2 e3
        exact ⟨by rw [if_neg hcd]; exact ⟨rfl, inp, [], hR3.box, hR3.store, hR3.n1, hR3.n2⟩, hK3⟩
      unfold endE at hP ⊢
      exact ⟨rfl, hP⟩
end
end Go.Proofs.YteommneijlelkaaGreatDoor.Hx
