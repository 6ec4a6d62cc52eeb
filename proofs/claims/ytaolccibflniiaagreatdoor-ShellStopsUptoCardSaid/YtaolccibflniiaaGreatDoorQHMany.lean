/-
  touch, rm, mkdir.
-/
import Derived.Deep.RegionHeld3
import Derived.Test.YtaolccibflniiaaGreatDoorQHEach
import Derived.Test.YtaolccibflniiaaGreatDoorQHFlags
namespace Go.Proofs.YtaolccibflniiaaGreatDoor.Hx
open Go.RowKit Go.Proofs.YtaolccibflniiaaGreatDoor Go.Maps Go.Proofs.YtaolccibflniiaaGreatDoor.Sw
set_option maxRecDepth 100000

/-! ### the plain side -/
theorem eachA_end (a : Hp.Act) : ∀ (l : List Bs) (k : Hp.K) (n : Nat), k.code ≠ 0 → Hp.eachA a k l n = (k, n)
  | [], _, _, _ => rfl
  | _ :: _, k, n, h => by unfold Hp.eachA; rw [if_pos h]
/-- each over the store is each over the run. -/
theorem each_is (a : Hp.Act) (step : St → Bs → St × Int) (d : Bs) (inp outp : Bs) (hstep : ∀ s p, Hp.oneA a ⟨s, d, 0, inp, outp⟩ p = (⟨s, d, 0, inp, outp⟩ : Hp.K).took (step s p)) : ∀ (l : List Bs) (s : St) (n : Nat),
    (Hp.eachA a ⟨s, d, 0, inp, outp⟩ l n).1 = ⟨(eachG d step s l n).1, d, (eachG d step s l n).2.1, inp, outp⟩ ∧ ((eachG d step s l n).2.1 = 0 → (Hp.eachA a ⟨s, d, 0, inp, outp⟩ l n).2 = (eachG d step s l n).2.2)
  | [], s, n => ⟨rfl, fun _ => rfl⟩
  | x :: r, s, n => by
    unfold Hp.eachA
    rw [if_neg (by simp)]
    cases hj : Hp.joinP d x with
    | none =>
      rw [eachG_no hj]
      simp only
      exact each_is a step d inp outp hstep r s 1
    | some p =>
      rw [eachG_yes hj]
      simp only [hstep]
      obtain ⟨⟨s2, cd⟩, hq⟩ : ∃ q, step s p = q := ⟨_, rfl⟩
      rw [hq]
      by_cases h5 : cd = 5 ∨ cd = 12
      · rw [if_pos h5]
        have hne : ((⟨s, d, 0, inp, outp⟩ : Hp.K).took (s2, cd)).1.code ≠ 0 := by
          rw [took_code rfl, if_pos h5]; rcases h5 with rfl | rfl <;> decide
        rw [eachA_end _ _ _ _ hne]
        refine ⟨?_, fun h => ?_⟩
        · unfold Hp.K.took; simp [h5]
        · rcases h5 with rfl | rfl <;> cases h
      · rw [if_neg h5]
        have e : (⟨s, d, 0, inp, outp⟩ : Hp.K).took (s2, cd) = (⟨s2, d, 0, inp, outp⟩, if cd = 0 then 0 else 1) := by unfold Hp.K.took; simp [h5]
        rw [e]
        have hif : (if (if cd = 0 then 0 else 1 : Nat) = 0 then n else 1) = if cd = 0 then n else 1 := by by_cases h : cd = 0 <;> simp [h]
        simp only [hif]
        exact each_is a step d inp outp hstep r s2 _
def rmS (all force : Bool) (s : St) (p : Bs) : St × Int := if (Sw.removeA s p all).2 = 3 ∧ force = true then (s, 0) else Sw.removeA s p all
theorem rm_step (all force : Bool) (d inp outp : Bs) (s : St) (p : Bs) : Hp.oneA (.rm all force) ⟨s, d, 0, inp, outp⟩ p = (⟨s, d, 0, inp, outp⟩ : Hp.K).took (rmS all force s p) := by
  unfold Hp.oneA rmS
  simp only
  split
  · rfl
  · rfl
theorem remove_three {s : St} {p : Bs} {all : Bool} (h : (Sw.removeA s p all).2 = 3) : (Sw.removeA s p all).1 = s := by
  unfold Sw.removeA at h ⊢
  by_cases h1 : p = [46]
  · rw [if_pos h1]
  · rw [if_neg h1] at h ⊢
    cases hg : Sp.get s.L p with
    | none => rfl
    | some f =>
      simp only [hg] at h
      split at h <;> cases h

section
variable {rb sb bm : Nat} {st ran : Int} {pv bv : Value}
/-- What is known of a run while each goes on: it, and boxes that hold these values. -/
def EI (rb sb bm : Nat) (st ran : Int) (pv bv : Value) (d inp outp : Bs) (bx : List (Nat × Value)) (s : St) (W : World) : Prop :=
  RunAt W rb sb bm ⟨s, d, 0, inp, outp⟩ st ran pv bv ∧ Fine s ∧ ∀ x ∈ bx, x.1 < W.heap.size ∧ x.1 ≠ sb ∧ x.1 ≠ bm ∧ W.cell? ⟨x.1, 0, none⟩ = some x.2
theorem EI.below {W W' : World} {d inp outp : Bs} {bx : List (Nat × Value)} {s : St} (h : EI rb sb bm st ran pv bv d inp outp bx s W) (hB : Below W.heap.size W W') : EI rb sb bm st ran pv bv d inp outp bx s W' :=
  ⟨h.1.below hB, h.2.1, fun x hx => let ⟨a, b, c, e⟩ := h.2.2 x hx; ⟨Nat.lt_of_lt_of_le a hB.size, b, c, (hB.cell (p := ⟨x.1, 0, none⟩) a).trans e⟩⟩
theorem EI.op {W W' : World} {d inp outp : Bs} {bx : List (Nat × Value)} {s s2 : St} (h : EI rb sb bm st ran pv bv d inp outp bx s W) (hS : StoreAt W' sb bm s2.L s2.c) (hK : Kept [sb, bm] W W') (hF : Fine s2) : EI rb sb bm st ran pv bv d inp outp bx s2 W' :=
  ⟨h.1.stored hS hK, hF, fun x hx => let ⟨a, b, c, e⟩ := h.2.2 x hx; ⟨Nat.lt_of_lt_of_le a hK.size, b, c, (hK.cell (p := ⟨x.1, 0, none⟩) a (by simp [b, c])).trans e⟩⟩
theorem getR_path {L : List F} (hs : Sp.Sorted L) (p : Bs) : ∀ f, getR L p = some f → f.p = p := by
  intro f hf
  by_cases h : p = [46]
  · subst h; cases hf; rfl
  · rw [getR_ne h] at hf
    exact ((Sp.get_some hs).1 hf).2

theorem rm1_any (w : World) {d inp outp : Bs} {s : St} (p : Bs) (all force : Bool) (b1 b2 b3 : Nat) (h : EI rb sb bm st ran pv bv d inp outp [(b1, .pointer (some ⟨rb, 0, none⟩)), (b2, .bool all), (b3, .bool force)] s w) (hp : p.length ≤ 100000) :
    Calls Tryz.prog 128 #[.string (str p), .pointer (some ⟨b1, 0, none⟩), .pointer (some ⟨b2, 0, none⟩), .pointer (some ⟨b3, 0, none⟩)] w fun e w' =>
      e = .returned (.int .i64 (rmS all force s p).2) ∧ EI rb sb bm st ran pv bv d inp outp [(b1, .pointer (some ⟨rb, 0, none⟩)), (b2, .bool all), (b3, .bool force)] (rmS all force s p).1 w' ∧ Kept [sb, bm] w w' := by
  obtain ⟨l1, _, _, z1⟩ := h.2.2 (b1, .pointer (some ⟨rb, 0, none⟩)) (by simp)
  obtain ⟨l2, _, _, z2⟩ := h.2.2 (b2, .bool all) (by simp)
  obtain ⟨l3, n3a, n3b, z3⟩ := h.2.2 (b3, .bool force) (by simp)
  dsimp only at l1 l2 l3 n3a n3b z1 z2 z3
  obtain ⟨c0, c1, c3, c4, c8, c9⟩ := h.1.cells
  have hlt := h.1.lt
  have D0 : Below w.heap.size w w.drew := (Below.refl _ _).drew
  have hM := Remove_any w.drew (s := s) (str p) all (h.1.below D0).store h.2.1 (by rw [← bs_len, bs_str]; omega)
  have hF := h.2.1.remove p all
  obtain ⟨⟨s2, cd⟩, hq⟩ : ∃ q, Sw.removeA s p all = q := ⟨_, rfl⟩
  have hr : rmS all force s p = if cd = 3 ∧ force = true then (s, 0) else (s2, cd) := by unfold rmS; rw [hq]
  have h3 : cd = 3 → s2 = s := fun e => by have := remove_three (s := s) (p := p) (all := all) (by rw [hq]; exact e); rwa [hq] at this
  rw [show bs (str p) = p from rfl, hq] at hM
  rw [hq] at hF
  have HM := Lib.hid hM
  have HE := Lib.hid hr
  have H := Lib.hid h
  clear hM hq hr h
  obtain ⟨g, hg⟩ : ∃ g, (cd == 3) = g := ⟨_, rfl⟩
  have HG : Hid (cd = 3 ↔ g = true) := Lib.hid (by rw [← hg]; simp)
  have H3 := Lib.hid h3
  clear h3
  cases g <;> cases force
  all_goals go_enter Tryz.func128, Tryz.ntmps128
  all_goals go_wp2_with fail
  all_goals go_still_tail 6, (by kernel_rfl)
  all_goals change wpList _ _ _ _ _ w.drew
  all_goals have S3 : ∀ W, Kept [sb, bm] w.drew W → W.cell? ⟨b3, 0, none⟩ = w.cell? ⟨b3, 0, none⟩ := fun W hK => hK.cell (p := ⟨b3, 0, none⟩) l3 (by simp [n3a, n3b])
  all_goals rw [z3] at S3
  all_goals generalize w.drew = wd at *
  all_goals go_wp2_with (go_at_call 129; refine HM.out.mono ?_; rintro e w2 ⟨rfl, hS2, hK2⟩; have z3' := S3 _ hK2; have hE2 := (H.out.below D0).op hS2 hK2 hF; have l3' := Nat.lt_of_lt_of_le l3 (Nat.le_trans D0.size hK2.size); have hK3 := (Kept.of_below D0).trans hK2)
  all_goals go_ret
  all_goals rw [HE.out]
  · rw [if_neg (by simp)]; exact ⟨rfl, hE2, hK3⟩
  · rw [if_neg (fun h => by have := HG.out.1 h.1; cases this)]; exact ⟨rfl, hE2, hK3⟩
  · rw [if_neg (by simp)]; exact ⟨rfl, hE2, hK3⟩
  · rw [if_pos ⟨HG.out.2 (by trivial), (by trivial)⟩]
    have e := H3.out (HG.out.2 (by trivial))
    rw [e] at hE2
    exact ⟨rfl, hE2, hK3⟩
theorem mkdir1_any (w : World) {d inp outp : Bs} {s : St} (p : Bs) (all : Bool) (b1 b2 : Nat) (h : EI rb sb bm st ran pv bv d inp outp [(b1, .pointer (some ⟨rb, 0, none⟩)), (b2, .bool all)] s w) (hp : p.length ≤ 100000) :
    Calls Tryz.prog 130 #[.string (str p), .pointer (some ⟨b1, 0, none⟩), .pointer (some ⟨b2, 0, none⟩)] w fun e w' =>
      e = .returned (.int .i64 (Sw.mkdirA s p all).2) ∧ EI rb sb bm st ran pv bv d inp outp [(b1, .pointer (some ⟨rb, 0, none⟩)), (b2, .bool all)] (Sw.mkdirA s p all).1 w' ∧ Kept [sb, bm] w w' := by
  obtain ⟨l1, _, _, z1⟩ := h.2.2 (b1, .pointer (some ⟨rb, 0, none⟩)) (by simp)
  obtain ⟨l2, _, _, z2⟩ := h.2.2 (b2, .bool all) (by simp)
  dsimp only at l1 l2 z1 z2
  obtain ⟨c0, c1, c3, c4, c8, c9⟩ := h.1.cells
  have hlt := h.1.lt
  have D0 : Below w.heap.size w w.drew := (Below.refl _ _).drew
  have hM := Mkdir_any w.drew (s := s) (str p) all (h.1.below D0).store h.2.1 (by rw [← bs_len, bs_str]; omega)
  have hF := h.2.1.mkdir hp all
  rw [show bs (str p) = p from rfl] at hM
  obtain ⟨⟨s2, cd⟩, hq⟩ : ∃ q, Sw.mkdirA s p all = q := ⟨_, rfl⟩
  rw [hq] at hM hF ⊢
  have HM := Lib.hid hM
  have H := Lib.hid h
  clear hM hq h
  go_enter Tryz.func130, Tryz.ntmps130
  go_wp2_with fail
  go_still_tail 6, (by kernel_rfl)
  change wpList _ _ _ _ _ w.drew
  generalize w.drew = wd at *
  go_wp2_with (go_at_call 131; refine HM.out.mono ?_; rintro e w2 ⟨rfl, hS2, hK2⟩)
  go_ret
  exact ⟨rfl, (H.out.below D0).op hS2 hK2 hF, (Kept.of_below D0).trans hK2⟩

theorem DoPost.ends {w w' : World} {r : Hp.K × Nat} {e : Ending} (h : DoPost w rb sb bm st ran pv bv r e w') : (∃ n : Int, e = .returned (.int .i64 n)) ∨ ∃ c, e = endE c := by
  obtain ⟨h, _⟩ := h
  split at h
  · exact .inl ⟨_, h.1⟩
  · exact .inr ⟨_, h.1⟩
/-- What each leaves, as a command's. -/
theorem done_each {w w' : World} {d inp outp : Bs} {bx : List (Nat × Value)} {step : St → Bs → St × Int} {a : Hp.Act} {s : St} {l : List Bs} {e : Ending} {W : World} (hstep : ∀ s p, Hp.oneA a ⟨s, d, 0, inp, outp⟩ p = (⟨s, d, 0, inp, outp⟩ : Hp.K).took (step s p))
    (h : EachPost (EI rb sb bm st ran pv bv d inp outp bx) [sb, bm] W (eachG d step s l 0) e w') (hK : Kept [rb, sb, bm] w W) : DoPost w rb sb bm st ran pv bv (Hp.eachA a ⟨s, d, 0, inp, outp⟩ l 0) e w' := by
  obtain ⟨h1, h2, h3⟩ := h
  obtain ⟨g1, g2⟩ := each_is a step d inp outp hstep l s 0
  generalize eachG d step s l 0 = r at *
  obtain ⟨s2, c, n⟩ := r
  generalize hx : Hp.eachA a ⟨s, d, 0, inp, outp⟩ l 0 = x at *
  obtain ⟨k, m⟩ := x
  dsimp only at g1 g2 h1 h2
  subst g1
  have hR := h2.1
  refine ⟨?_, hK.trans (h3.mono (by simp))⟩
  dsimp only
  by_cases hc : c = 0
  · subst hc
    rw [if_pos rfl] at h1 ⊢
    rw [h1, g2 rfl]
    exact ⟨rfl, hR.box, hR.store, hR.n1, hR.n2⟩
  · rw [if_neg hc] at h1 ⊢
    exact ⟨h1, inp, outp, hR.box, hR.store, hR.n1, hR.n2⟩

theorem touch_not {k : Hp.K} : Hp.touchC k [] = (k, 1) := rfl
set_option maxHeartbeats 1000000 in
theorem touch_any (w : World) (k : Hp.K) (v : Value) (l : List Bs) (h0 : k.code = 0) (hF : Fine k.s) (hR : RunAt w rb sb bm k st ran pv bv) (hv : Ws w rb sb bm v l) (hl : ∀ x ∈ l, k.d.length + x.length + 2 ≤ 100000) (hll : l.length ≤ 1000000) :
    Calls Tryz.prog 83 #[.pointer (some ⟨rb, 0, none⟩), v] w (DoPost w rb sb bm st ran pv bv (Hp.touchC k l)) := by
  obtain ⟨a, c, rfl, hc⟩ := Px.Rg.shape hv
  obtain ⟨c0, c1, c3, c4, c8, c9⟩ := hR.cells
  have hlt := hR.lt
  obtain ⟨s, d, code, inp, outp⟩ := k
  obtain rfl : code = 0 := h0
  by_cases hn : l = []
  · subst hn
    go_enter Tryz.func83, Tryz.ntmps83
    go_wp2_with fail
    go_ret
    rw [touch_not]
    exact DoPost.ok (r := (_, 1)) rfl hR (.refl _ _)
  · have hE := each_any (EI rb sb bm st ran pv bv d inp outp []) [sb, bm] d Sw.touchA (st := st) (ran := ran) (pv := pv) (bv := bv) 132 #[.pointer (some ⟨sb, 0, none⟩)] #[] (enters_of Tryz.func132 (by kernel_rfl) rfl)
      (fun s W h => ⟨_, h.1, rfl⟩) (fun s W W' h hB => h.below hB) (by simp) (fun s W p h hp => by
        have := Touch_any W (s := s) (str p) h.1.store h.2.1 (by rw [← bs_len, bs_str]; omega) (getR_path h.2.1.sorted _)
        refine this.mono ?_
        rintro e w' ⟨rfl, hS, hK⟩
        exact ⟨rfl, h.op hS hK (h.2.1.touch hp), hK⟩) w s (.slice a l.length c) l ⟨hR, hF, by simp⟩ hv hl hll
    have HE := Lib.hid hE
    have HD : Hid (∀ e w', EachPost (EI rb sb bm st ran pv bv d inp outp []) [sb, bm] w (eachG d Sw.touchA s l 0) e w' → DoPost w rb sb bm st ran pv bv (Hp.touchC ⟨s, d, 0, inp, outp⟩ l) e w') := Lib.hid fun e w' h => by
      unfold Hp.touchC
      rw [if_neg hn]
      exact done_each (a := .touch) (fun s p => rfl) h (.refl _ _)
    have hpos : 0 < l.length := List.length_pos_iff.2 hn
    have q : ((l.length : Int) == 0) = false := by rw [beq_eq_false_iff_ne]; omega
    clear hE hv hn
    go_enter Tryz.func83, Tryz.ntmps83
    go_wp2_with fail
    refine HE.out.mono ?_
    intro e w' h
    have h2 := HD.out e w' h
    clear h
    rcases h2.ends with ⟨n, rfl⟩ | ⟨c, rfl⟩
    · go_wp2_with fail
      go_ret
      exact h2
    · unfold endE at h2 ⊢
      exact ⟨rfl, h2⟩

theorem rm_pre {k : Hp.K} {l : List Bs} {b1 b2 b3 : Bool} (h1 : ((l.takeWhile Hp.flagB).all fun x => (x.drop 1).all (([114, 102] : Bs).contains ·)) = b1) (h2 : (l.takeWhile Hp.flagB).any (·.contains 114) = b2) (h3 : (l.takeWhile Hp.flagB).any (·.contains 102) = b3) :
    Hp.rmA k l = if b1 = false then (k, 1) else if l.dropWhile Hp.flagB = [] ∧ b3 = false then (k, 1) else Hp.eachA (.rm b2 b3) k (l.dropWhile Hp.flagB) 0 := by
  have key : ∀ c : UInt8, c ≠ 45 → (Hp.flagsOf l).contains c = (l.takeWhile Hp.flagB).any (·.contains c) := fun c hc => by
    unfold Hp.flagsOf
    have : ∀ m : List Bs, (∀ x ∈ m, Hp.flagB x = true) → (m.flatMap fun x => x.drop 1).contains c = m.any (·.contains c) := fun m hm => by
      rw [Bool.eq_iff_iff]
      simp only [List.contains_iff_mem, List.mem_flatMap, List.any_eq_true]
      constructor
      · rintro ⟨x, hx, hc⟩; exact ⟨x, hx, List.mem_of_mem_drop hc⟩
      · rintro ⟨x, hx, hc2⟩
        obtain ⟨e, r, rfl⟩ := (flagB_is x).1 (hm x hx)
        refine ⟨_, hx, ?_⟩
        rcases List.mem_cons.1 hc2 with h | h
        · exact absurd h hc
        · exact h
    exact this _ fun x hx => by have := List.all_eq_true.1 (List.all_takeWhile (p := Hp.flagB) (l := l)) x hx; exact this
  have e1 : (Hp.flagsOf l).all (fun c => c == 114 || c == 102) = b1 := by
    rw [← h1, Hp.flagsOf, List.all_flatMap]
    congr 1; funext x; congr 1; funext c
    by_cases a : c = 114 <;> by_cases b : c = 102 <;> simp [a, b]
  unfold Hp.rmA Hp.restOf
  rw [e1, key 114 (by decide), key 102 (by decide), h2, h3]

theorem sub_take {l : List Bs} : ∀ x ∈ l.takeWhile Hp.flagB, x ∈ l := fun _ h => (List.takeWhile_sublist _).subset h
theorem sub_drop {l : List Bs} : ∀ x ∈ l.dropWhile Hp.flagB, x ∈ l := fun _ h => (List.dropWhile_sublist _).subset h
set_option maxHeartbeats 4000000 in
theorem rm_any (w : World) (k : Hp.K) (v : Value) (l : List Bs) (h0 : k.code = 0) (hF : Fine k.s) (hR : RunAt w rb sb bm k st ran pv bv) (hv : Ws w rb sb bm v l) (hl : ∀ x ∈ l, k.d.length + x.length + 2 ≤ 100000) (hll : l.length ≤ 1000000) :
    Calls Tryz.prog 81 #[.pointer (some ⟨rb, 0, none⟩), v] w (DoPost w rb sb bm st ran pv bv (Hp.rmA k l)) := by
  obtain ⟨a, c, rfl, hc⟩ := Px.Rg.shape hv
  have hlt := hR.lt
  have hsb := hR.store.lt
  have hbm := hR.store.map.lt
  obtain ⟨s, d, code, inp, outp⟩ := k
  obtain rfl : code = 0 := h0
  have hB0 := (Below.refl w.heap.size w).alloc (Nat.le_refl _) (.cells #[.pointer (some ⟨rb, 0, none⟩)] 87)
  have hz := heap_new w (.cells #[.pointer (some ⟨rb, 0, none⟩)] 87) rfl
  have hlt1 : rb < (w.alloc (.cells #[.pointer (some ⟨rb, 0, none⟩)] 87)).heap.size := by simp; omega
  have hn1 : w.heap.size < (w.alloc (.cells #[.pointer (some ⟨rb, 0, none⟩)] 87)).heap.size := by simp
  have hR1 := hR.below hB0
  have hv1 := hv.below hB0 hlt
  have hFl := flags_any (w.alloc (.cells #[.pointer (some ⟨rb, 0, none⟩)] 87)) (.slice a l.length c) [114, 102] hv1 hlt1 hll (fun x hx => by have := hl x hx; omega) (by decide) (by decide)
  obtain ⟨g1, h1⟩ : ∃ g, ((l.takeWhile Hp.flagB).all fun x => (x.drop 1).all (([114, 102] : Bs).contains ·)) = g := ⟨_, rfl⟩
  obtain ⟨g2, h2⟩ : ∃ g, (l.takeWhile Hp.flagB).any (·.contains 114) = g := ⟨_, rfl⟩
  obtain ⟨g3, h3⟩ : ∃ g, (l.takeWhile Hp.flagB).any (·.contains 102) = g := ⟨_, rfl⟩
  have hE := rm_pre (k := ⟨s, d, 0, inp, outp⟩) h1 h2 h3
  unfold FlagsPost at hFl
  rw [h1] at hFl
  have hlT : (l.takeWhile Hp.flagB).length ≤ 1000000 := Nat.le_trans (List.takeWhile_sublist _).length_le hll
  have hlD : (l.dropWhile Hp.flagB).length ≤ 1000000 := Nat.le_trans (List.dropWhile_sublist _).length_le hll
  have hlD2 : ∀ x ∈ l.dropWhile Hp.flagB, d.length + x.length + 2 ≤ 100000 := fun x hx => hl x (sub_drop x hx)
  have HF := Lib.hid hFl
  have HH := Lib.hid fun (W : World) (u : Value) (ch : UInt8) (g : Bool) (hg : (l.takeWhile Hp.flagB).any (·.contains ch) = g) (hu : Ws W rb sb bm u (l.takeWhile Hp.flagB)) (hr : rb < W.heap.size) => hg ▸ has_any W u ch hu hr hlT
  have H2 := Lib.hid h2
  have H3 := Lib.hid h3
  clear hFl h1 h2 h3 hv hv1
  generalize hT : l.takeWhile Hp.flagB = T at *
  generalize hD : l.dropWhile Hp.flagB = D at *
  clear hT hD
  cases g1 with
  | false =>
    have HE := Lib.hid hE
    clear hE
    go_enter Tryz.func81, Tryz.ntmps81
    go_wp2_with (go_at_call 125; refine HF.out.mono ?_; rintro e w2 ⟨v1, v2, rfl, hw1, hw2, B2⟩)
    go_ret
    rw [HE.out, if_pos (by trivial)]
    exact DoPost.ok (r := (⟨s, d, 0, inp, outp⟩, 1)) rfl (hR1.below B2) (.of_below (hB0.trans (B2.mono hB0.size)))
  | true =>
    rw [if_neg (by decide)] at hE
    have HE := Lib.hid hE
    clear hE
    go_enter Tryz.func81, Tryz.ntmps81
    go_wp2_with fail
    refine HF.out.mono ?_
    rintro e w2 ⟨v1, v2, rfl, hw1, hw2, B2⟩
    obtain ⟨a1, cp1, rfl, _⟩ := Px.Rg.shape hw1
    obtain ⟨a2, cp2, rfl, hc2⟩ := Px.Rg.shape hw2
    have hR2 := hR1.below B2
    have hlt2 := hR2.lt
    have hz2 := (B2.block w.heap.size hn1).trans hz
    go_wp2_with fail
    refine (HH.out w2 _ 114 g2 H2.out hw1 hlt2).mono ?_
    rintro e w3 ⟨rfl, B3⟩
    have hlt3 := (hR2.below B3).lt
    go_wp2_with fail
    refine (HH.out w3 _ 102 g3 H3.out (hw1.below B3 hlt2) hlt3).mono ?_
    rintro e w4 ⟨rfl, B4⟩
    have hR4 := (hR2.below B3).below B4
    have hn2 : w.heap.size < w2.heap.size := (Array.getElem?_eq_some_iff.1 hz2).1
    have B24 : Below w2.heap.size w2 w4 := B3.trans (B4.mono B3.size)
    have hn4 : w.heap.size < w4.heap.size := Nat.lt_of_lt_of_le hn2 B24.size
    have hz4 := (B24.block w.heap.size hn2).trans hz2
    have C4 : Below w.heap.size w w4 := (hB0.trans (B2.mono hB0.size)).trans (B24.mono (Nat.le_of_lt hn2))
    have hw4 := hw2.below B24 hlt2
    by_cases hD : D = []
    · subst hD
      have HE2 : Hid (Hp.rmA ⟨s, d, 0, inp, outp⟩ l = (⟨s, d, 0, inp, outp⟩, Hp.truth g3)) := Lib.hid (by rw [HE.out]; cases g3 <;> simp [Hp.truth, Hp.eachA])
      have C6 := (C4.alloc C4.size (.cells #[.bool g2] 4)).alloc (Nat.le_trans C4.size (by simp)) (.cells #[.bool g3] 4)
      go_wp2_with (go_at_call 127; refine (truth_any _ _).mono ?_; rintro e w5 ⟨rfl, rfl⟩)
      go_ret
      rw [HE2.out]
      exact DoPost.ok (r := (_, Hp.truth g3)) rfl ((hR4.alloc _).alloc _) (.of_below C6)
    · have HE2 : Hid (Hp.rmA ⟨s, d, 0, inp, outp⟩ l = Hp.eachA (.rm g2 g3) ⟨s, d, 0, inp, outp⟩ D 0) := Lib.hid (by rw [HE.out, if_neg (fun h => hD h.1)])
      have hpos : 0 < D.length := List.length_pos_iff.2 hD
      have q : ((D.length : Int) == 0) = false := by rw [beq_eq_false_iff_ne]; omega
      have z4 : w4.cell? ⟨w.heap.size, 0, none⟩ = some (.pointer (some ⟨rb, 0, none⟩)) := cell_at hz4 rfl
      have hsb4 := hR4.store.lt
      have hbm4 := hR4.store.map.lt
      have hBB := ((Below.refl w4.heap.size w4).alloc (Nat.le_refl _) (.cells #[.bool g2] 4)).alloc (by simp) (.cells #[.bool g3] 4)
      have C6 := C4.trans (hBB.mono C4.size)
      have hI : EI rb sb bm st ran pv bv d inp outp [(w.heap.size, .pointer (some ⟨rb, 0, none⟩)), (w4.heap.size, .bool g2), (w4.heap.size + 1, .bool g3)] s ((w4.alloc (.cells #[.bool g2] 4)).alloc (.cells #[.bool g3] 4)) := by
        refine ⟨(hR4.alloc _).alloc _, hF, fun x hx => ?_⟩
        simp only [List.mem_cons, List.not_mem_nil, or_false] at hx
        rcases hx with rfl | rfl | rfl
        · exact ⟨by simp; omega, by dsimp only; omega, by dsimp only; omega, (hBB.cell (p := ⟨w.heap.size, 0, none⟩) hn4).trans z4⟩
        · refine ⟨by simp; omega, by dsimp only; omega, by dsimp only; omega, ?_⟩
          have h1 := heap_new w4 (.cells #[.bool g2] 4) rfl
          exact cell_at ((((Below.refl _ (w4.alloc (.cells #[.bool g2] 4))).alloc (Nat.le_refl _) (.cells #[.bool g3] 4)).block w4.heap.size (by simp)).trans h1) rfl
        · refine ⟨by simp, by dsimp only; omega, by dsimp only; omega, ?_⟩
          exact cell_at (heap_new (w4.alloc (.cells #[.bool g2] 4)) (.cells #[.bool g3] 4) (by simp)) rfl
      have hEa := each_any (EI rb sb bm st ran pv bv d inp outp [(w.heap.size, .pointer (some ⟨rb, 0, none⟩)), (w4.heap.size, .bool g2), (w4.heap.size + 1, .bool g3)]) [sb, bm] d (rmS g2 g3) (st := st) (ran := ran) (pv := pv) (bv := bv) 128 #[] #[.pointer (some ⟨w.heap.size, 0, none⟩), .pointer (some ⟨w4.heap.size, 0, none⟩), .pointer (some ⟨w4.heap.size + 1, 0, none⟩)] (enters_of Tryz.func128 (by kernel_rfl) rfl)
        (fun s W h => ⟨_, h.1, rfl⟩) (fun s W W' h hB => h.below hB) (by simp) (fun s W p h hp => rm1_any W p g2 g3 _ _ _ h hp) ((w4.alloc (.cells #[.bool g2] 4)).alloc (.cells #[.bool g3] 4)) s (.slice a2 D.length cp2) D hI (hw4.below hBB hR4.lt) hlD2 hlD
      have HEa := Lib.hid hEa
      clear hEa hI hD
      go_wp2_with fail
      refine HEa.out.mono ?_
      intro e w' h
      have h2 := done_each (a := .rm g2 g3) (rm_step g2 g3 d inp outp) h (.of_below C6)
      rw [← HE2.out] at h2
      clear h
      rcases h2.ends with ⟨n, rfl⟩ | ⟨c, rfl⟩
      · go_wp2_with fail
        go_ret
        exact h2
      · unfold endE at h2 ⊢
        exact ⟨rfl, h2⟩
theorem mkdir_pre {k : Hp.K} {l : List Bs} {b1 b2 : Bool} (h1 : ((l.takeWhile Hp.flagB).all fun x => (x.drop 1).all (([112] : Bs).contains ·)) = b1) (h2 : (l.takeWhile Hp.flagB).any (·.contains 112) = b2) :
    Hp.mkdirC k l = if b1 = false then (k, 1) else if l.dropWhile Hp.flagB = [] then (k, 1) else Hp.eachA (.mkdir b2) k (l.dropWhile Hp.flagB) 0 := by
  have e1 : (Hp.flagsOf l).all (fun c => c == 112) = b1 := by
    rw [← h1, Hp.flagsOf, List.all_flatMap]
    congr 1; funext x; congr 1; funext c
    by_cases a : c = 112 <;> simp [a]
  unfold Hp.mkdirC Hp.restOf
  rw [e1]
  cases b1 with
  | false => rfl
  | true =>
    have e2 : decide (Hp.flagsOf l ≠ []) = b2 := by
      rw [← h2, Hp.flagsOf, Bool.eq_iff_iff, decide_eq_true_eq, List.any_eq_true]
      have hall : ∀ x ∈ l.takeWhile Hp.flagB, Hp.flagB x = true := fun x hx => List.all_eq_true.1 (List.all_takeWhile (p := Hp.flagB) (l := l)) x hx
      have h1' := List.all_eq_true.1 h1
      constructor
      · intro h
        obtain ⟨c, hc⟩ := List.exists_mem_of_ne_nil _ h
        obtain ⟨x, hx, hcx⟩ := List.mem_flatMap.1 hc
        refine ⟨x, hx, ?_⟩
        have := List.all_eq_true.1 (h1' x hx) c hcx
        simp at this
        subst this
        rw [List.contains_iff_mem]
        exact List.mem_of_mem_drop hcx
      · rintro ⟨x, hx, _⟩ h
        obtain ⟨e, r, rfl⟩ := (flagB_is x).1 (hall x hx)
        have : e ∈ (l.takeWhile Hp.flagB).flatMap fun x => x.drop 1 := List.mem_flatMap.2 ⟨_, hx, by simp⟩
        rw [h] at this
        cases this
    rw [e2]
set_option maxHeartbeats 4000000 in
theorem mkdir_any (w : World) (k : Hp.K) (v : Value) (l : List Bs) (h0 : k.code = 0) (hF : Fine k.s) (hR : RunAt w rb sb bm k st ran pv bv) (hv : Ws w rb sb bm v l) (hl : ∀ x ∈ l, k.d.length + x.length + 2 ≤ 100000) (hll : l.length ≤ 1000000) :
    Calls Tryz.prog 82 #[.pointer (some ⟨rb, 0, none⟩), v] w (DoPost w rb sb bm st ran pv bv (Hp.mkdirC k l)) := by
  obtain ⟨a, c, rfl, hc⟩ := Px.Rg.shape hv
  have hlt := hR.lt
  have hsb := hR.store.lt
  have hbm := hR.store.map.lt
  obtain ⟨s, d, code, inp, outp⟩ := k
  obtain rfl : code = 0 := h0
  have hB0 := (Below.refl w.heap.size w).alloc (Nat.le_refl _) (.cells #[.pointer (some ⟨rb, 0, none⟩)] 87)
  have hz := heap_new w (.cells #[.pointer (some ⟨rb, 0, none⟩)] 87) rfl
  have hlt1 : rb < (w.alloc (.cells #[.pointer (some ⟨rb, 0, none⟩)] 87)).heap.size := by simp; omega
  have hn1 : w.heap.size < (w.alloc (.cells #[.pointer (some ⟨rb, 0, none⟩)] 87)).heap.size := by simp
  have hR1 := hR.below hB0
  have hv1 := hv.below hB0 hlt
  have hFl := flags_any (w.alloc (.cells #[.pointer (some ⟨rb, 0, none⟩)] 87)) (.slice a l.length c) [112] hv1 hlt1 hll (fun x hx => by have := hl x hx; omega) (by decide) (by decide)
  obtain ⟨g1, h1⟩ : ∃ g, ((l.takeWhile Hp.flagB).all fun x => (x.drop 1).all (([112] : Bs).contains ·)) = g := ⟨_, rfl⟩
  obtain ⟨g2, h2⟩ : ∃ g, (l.takeWhile Hp.flagB).any (·.contains 112) = g := ⟨_, rfl⟩
  have hE := mkdir_pre (k := ⟨s, d, 0, inp, outp⟩) h1 h2
  unfold FlagsPost at hFl
  rw [h1] at hFl
  have hlT : (l.takeWhile Hp.flagB).length ≤ 1000000 := Nat.le_trans (List.takeWhile_sublist _).length_le hll
  have hlD : (l.dropWhile Hp.flagB).length ≤ 1000000 := Nat.le_trans (List.dropWhile_sublist _).length_le hll
  have hlD2 : ∀ x ∈ l.dropWhile Hp.flagB, d.length + x.length + 2 ≤ 100000 := fun x hx => hl x (sub_drop x hx)
  have HF := Lib.hid hFl
  have HH := Lib.hid fun (W : World) (u : Value) (ch : UInt8) (g : Bool) (hg : (l.takeWhile Hp.flagB).any (·.contains ch) = g) (hu : Ws W rb sb bm u (l.takeWhile Hp.flagB)) (hr : rb < W.heap.size) => hg ▸ has_any W u ch hu hr hlT
  have H2 := Lib.hid h2
  clear hFl h1 h2 hv hv1
  generalize hT : l.takeWhile Hp.flagB = T at *
  generalize hD : l.dropWhile Hp.flagB = D at *
  clear hT hD
  cases g1 with
  | false =>
    have HE := Lib.hid hE
    clear hE
    go_enter Tryz.func82, Tryz.ntmps82
    go_wp2_with (go_at_call 125; refine HF.out.mono ?_; rintro e w2 ⟨v1, v2, rfl, hw1, hw2, B2⟩)
    go_ret
    rw [HE.out, if_pos (by trivial)]
    exact DoPost.ok (r := (⟨s, d, 0, inp, outp⟩, 1)) rfl (hR1.below B2) (.of_below (hB0.trans (B2.mono hB0.size)))
  | true =>
    rw [if_neg (by decide)] at hE
    have HE := Lib.hid hE
    clear hE
    by_cases hD : D = []
    · subst hD
      have HE2 : Hid (Hp.mkdirC ⟨s, d, 0, inp, outp⟩ l = (⟨s, d, 0, inp, outp⟩, 1)) := Lib.hid (by rw [HE.out]; rfl)
      go_enter Tryz.func82, Tryz.ntmps82
      go_wp2_with (go_at_call 125; refine HF.out.mono ?_; rintro e w2 ⟨v1, v2, rfl, hw1, hw2, B2⟩; obtain ⟨a2, cp2, rfl, hc2⟩ := Px.Rg.shape hw2)
      go_ret
      rw [HE2.out]
      exact DoPost.ok (r := (⟨s, d, 0, inp, outp⟩, 1)) rfl (hR1.below B2) (.of_below (hB0.trans (B2.mono hB0.size)))
    · have HE2 : Hid (Hp.mkdirC ⟨s, d, 0, inp, outp⟩ l = Hp.eachA (.mkdir g2) ⟨s, d, 0, inp, outp⟩ D 0) := Lib.hid (by rw [HE.out, if_neg hD])
      have hpos : 0 < D.length := List.length_pos_iff.2 hD
      have q : ((D.length : Int) == 0) = false := by rw [beq_eq_false_iff_ne]; omega
      clear hD
      go_enter Tryz.func82, Tryz.ntmps82
      go_wp2_with fail
      refine HF.out.mono ?_
      rintro e w2 ⟨v1, v2, rfl, hw1, hw2, B2⟩
      obtain ⟨a1, cp1, rfl, _⟩ := Px.Rg.shape hw1
      obtain ⟨a2, cp2, rfl, hc2⟩ := Px.Rg.shape hw2
      have hR2 := hR1.below B2
      have hlt2 := hR2.lt
      have hz2 := (B2.block w.heap.size hn1).trans hz
      go_wp2_with fail
      refine (HH.out w2 _ 112 g2 H2.out hw1 hlt2).mono ?_
      rintro e w4 ⟨rfl, B24⟩
      have hR4 := hR2.below B24
      have hn2 : w.heap.size < w2.heap.size := (Array.getElem?_eq_some_iff.1 hz2).1
      have hn4 : w.heap.size < w4.heap.size := Nat.lt_of_lt_of_le hn2 B24.size
      have hz4 := (B24.block w.heap.size hn2).trans hz2
      have C4 : Below w.heap.size w w4 := (hB0.trans (B2.mono hB0.size)).trans (B24.mono (Nat.le_of_lt hn2))
      have hw4 := hw2.below B24 hlt2
      have z4 : w4.cell? ⟨w.heap.size, 0, none⟩ = some (.pointer (some ⟨rb, 0, none⟩)) := cell_at hz4 rfl
      have hsb4 := hR4.store.lt
      have hbm4 := hR4.store.map.lt
      have hBB := (Below.refl w4.heap.size w4).alloc (Nat.le_refl _) (.cells #[.bool g2] 4)
      have C6 := C4.trans (hBB.mono C4.size)
      have hI : EI rb sb bm st ran pv bv d inp outp [(w.heap.size, .pointer (some ⟨rb, 0, none⟩)), (w4.heap.size, .bool g2)] s (w4.alloc (.cells #[.bool g2] 4)) := by
        refine ⟨hR4.alloc _, hF, fun x hx => ?_⟩
        simp only [List.mem_cons, List.not_mem_nil, or_false] at hx
        rcases hx with rfl | rfl
        · exact ⟨by simp; omega, by dsimp only; omega, by dsimp only; omega, (hBB.cell (p := ⟨w.heap.size, 0, none⟩) hn4).trans z4⟩
        · exact ⟨by simp, by dsimp only; omega, by dsimp only; omega, cell_at (heap_new w4 (.cells #[.bool g2] 4) rfl) rfl⟩
      have hEa := each_any (EI rb sb bm st ran pv bv d inp outp [(w.heap.size, .pointer (some ⟨rb, 0, none⟩)), (w4.heap.size, .bool g2)]) [sb, bm] d (fun s p => Sw.mkdirA s p g2) (st := st) (ran := ran) (pv := pv) (bv := bv) 130 #[] #[.pointer (some ⟨w.heap.size, 0, none⟩), .pointer (some ⟨w4.heap.size, 0, none⟩)] (enters_of Tryz.func130 (by kernel_rfl) rfl)
        (fun s W h => ⟨_, h.1, rfl⟩) (fun s W W' h hB => h.below hB) (by simp) (fun s W p h hp => mkdir1_any W p g2 _ _ h hp) (w4.alloc (.cells #[.bool g2] 4)) s (.slice a2 D.length cp2) D hI (hw4.below hBB hR4.lt) hlD2 hlD
      have HEa := Lib.hid hEa
      clear hEa hI
      go_wp2_with fail
      refine HEa.out.mono ?_
      intro e w' h
      have h2 := done_each (a := .mkdir g2) (fun s p => rfl) h (.of_below C6)
      rw [← HE2.out] at h2
      clear h
      rcases h2.ends with ⟨n, rfl⟩ | ⟨c, rfl⟩
      · go_wp2_with fail
        go_ret
        exact h2
      · unfold endE at h2 ⊢
        exact ⟨rfl, h2⟩
end
end Go.Proofs.YtaolccibflniiaaGreatDoor.Hx
