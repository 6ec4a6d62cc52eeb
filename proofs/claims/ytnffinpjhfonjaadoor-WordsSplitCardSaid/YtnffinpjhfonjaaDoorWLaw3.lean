/-
  The law WordsSplit, walked: for every string and every byte that can be read it returns true.
-/
import Derived.Deep.RegionHeld3
import Derived.Test.YtnffinpjhfonjaaDoorWJn
import Derived.Test.YtnffinpjhfonjaaDoorWRSplit
import Derived.Test.YtnffinpjhfonjaaDoorWTrim
namespace Go.Proofs.YtnffinpjhfonjaaDoor.Ww
open Go.RowKit Go.Shelf Go.Proofs.YtnffinpjhfonjaaDoor
attribute [local go_sem] Oper.semAt_some
set_option maxRecDepth 100000

/-- The variables of the law, behind the first calls. -/
structure Vars (s : ByteArray) (t : Nat) (b0 b3 : Nat) (v1 v2 : Value) (W : World) : Prop where
  stop : Boxed W b0 U8 (.int .u8 (t : Int))
  res : Boxed W (b0 + 1) 4 (.bool false)
  l : Boxed W b3 23 v1
  at_ : Boxed W (b3 + 1) 24 v2
  s_ : Boxed W (b3 + 1 + 1 + 1) ST (.string s)
theorem Vars.kept {s : ByteArray} {t b0 b3 B : Nat} {v1 v2 : Value} {X Y : World} {row : Option Nat} (h : Vars s t b0 b3 v1 v2 X) (hg : X.grownBy Y row) (hr : ∀ r, row = some r → B ≤ r ∧ ∃ o, X.heap[r]? = some o ∧ o.isCells = false) : Vars s t b0 b3 v1 v2 Y :=
  ⟨(boxed_own (β := Unit) b0 U8 (fun _ => _)).from B () X Y row h.stop hg hr, (boxed_own (β := Unit) (b0 + 1) 4 (fun _ => _)).from B () X Y row h.res hg hr, (boxed_own (β := Unit) b3 23 (fun _ => _)).from B () X Y row h.l hg hr,
    (boxed_own (β := Unit) (b3 + 1) 24 (fun _ => _)).from B () X Y row h.at_ hg hr, (boxed_own (β := Unit) (b3 + 1 + 1 + 1) ST (fun _ => _)).from B () X Y row h.s_ hg hr⟩
theorem Vars.set {s : ByteArray} {t b0 b3 : Nat} {v1 v2 : Value} {X : World} (h : Vars s t b0 b3 v1 v2 X) (hb : b0 + 2 ≤ b3) (u : Value) : Vars s t b0 b3 v1 v2 (X.setCell ⟨b3 + 1 + 1, 0, none⟩ u) :=
  ⟨h.stop.other (by omega) u, h.res.other (by omega) u, h.l.other (by omega) u, h.at_.other (by omega) u, h.s_.other (by omega) u⟩

/-- What the loop's head knows. -/
def LI (w2 : World) (s : ByteArray) (t b0 : Nat) (v1 v2 : Value) (pre : List (Nat × Nat)) (W : World) : Prop :=
  Vars s t b0 w2.heap.size v1 v2 W ∧ Boxed W (w2.heap.size + 1 + 1) IT (.int .i64 (pre.length : Int)) ∧ Below w2.heap.size w2 W ∧ (0 < t → pre.length < t)
/-- What is known where the loop was left. -/
def LX (w2 : World) (s : ByteArray) (t b0 : Nat) (v1 v2 : Value) (c : Code) (pre : List (Nat × Nat)) (W : World) : Prop :=
  c = .exit 0 ∧ Vars s t b0 w2.heap.size v1 v2 W ∧ Boxed W (w2.heap.size + 1 + 1) IT (.int .i64 (pre.length : Int)) ∧ Below w2.heap.size w2 W ∧ 0 < t ∧ pre.length = t
theorem LI.own (w2 : World) (s : ByteArray) (t b0 : Nat) (v1 v2 : Value) (B : Nat) (hB : w2.heap.size ≤ B) : OwnFrom B (LI w2 s t b0 v1 v2) := by
  rintro pre X Y row ⟨hV, hi, hb, hl⟩ hg hr
  exact ⟨hV.kept hg hr, (boxed_own (β := Unit) _ IT (fun _ => _)).from B () X Y row hi hg hr, ownFrom_below (β := Unit) (Nat.le_refl _) hB () X Y row hb hg hr, hl⟩
theorem LX.own (w2 : World) (s : ByteArray) (t b0 : Nat) (v1 v2 : Value) (B : Nat) (hB : w2.heap.size ≤ B) (c : Code) : OwnFrom B (LX w2 s t b0 v1 v2 c) := by
  rintro pre X Y row ⟨hc, hV, hi, hb, hl⟩ hg hr
  exact ⟨hc, hV.kept hg hr, (boxed_own (β := Unit) _ IT (fun _ => _)).from B () X Y row hi hg hr, ownFrom_below (β := Unit) (Nat.le_refl _) hB () X Y row hb hg hr, hl⟩

theorem wordsS_again (s : ByteArray) : wordsS (joinS (wordsS s)) = wordsS s := by
  have h1 : ∀ u : ByteArray, (wordsS u).map (·.data.toList) = Wp.wl [] (by8 u) := fun u => by
    rw [← Wp.items_wl]
    unfold wordsS
    rw [List.map_map]
    refine List.map_congr_left fun x hx => ?_
    show (u.extract x.1 x.2).data.toList = _
    rw [ByteArray.data_extract, Array.toList_extract, List.extract_eq_take_drop]
    rfl
  have h2 : by8 (joinS (wordsS s)) = Lib.join ((wordsS s).map (·.data.toList)) [32] := rfl
  have h3 : (wordsS (joinS (wordsS s))).map (·.data.toList) = (wordsS s).map (·.data.toList) := by
    rw [h1, h2, h1, Wp.wl_again]
  have inj : ∀ (a b : List ByteArray), a.map (·.data.toList) = b.map (·.data.toList) → a = b := by
    intro a
    induction a with
    | nil => intro b hb; cases b with | nil => rfl | cons _ _ => cases hb
    | cons x a ih =>
      intro b hb
      cases b with
      | nil => cases hb
      | cons y b =>
        simp only [List.map_cons, List.cons.injEq] at hb
        rw [by8_ext (a := x) (b := y) hb.1, ih b hb.2]
  exact inj _ _ h3
theorem words_size {s x : ByteArray} (h : x ∈ wordsS s) : x.size ≤ s.size := by
  obtain ⟨y, hy, rfl⟩ := List.mem_map.1 h
  unfold part
  rw [ByteArray.size_extract]
  omega
theorem join_size {s : ByteArray} (hs : s.size ≤ 2000) : (joinS (wordsS s)).size ≤ 100000000 := by
  have h1 := jn_len (wordsS s) (fun x hx => by have := words_size hx; omega) (wordsS s).length (Nat.le_refl _)
  rw [List.take_of_length_le (Nat.le_refl _), wordsS_len] at h1
  have h2 := items_size s
  have h3 : (joinS (wordsS s)).size = (jn (wordsS s)).length := by rw [← by8_len]; rfl
  rw [h3]
  have : (Wp.items (by8 s)).length * 2001 ≤ 2000 * 2001 := Nat.mul_le_mul_right _ (by omega)
  omega
/-- Split of the text, and of its words put together. -/
theorem Split_is (w : World) (s x : ByteArray) (hs : s.size ≤ 2000) (hx : x = s ∨ x = joinS (wordsS s)) :
    Calls Tryd.prog 8 #[.string x] w fun e w' => ∃ v, e = .returned v ∧ Rd w' w'.heap.size v (strsC (wordsS s)) ∧ Below w.heap.size w w' := by
  rcases hx with rfl | rfl
  · exact (Split_any w x (by omega)).mono fun e w' ⟨v, he, ho, hB⟩ => ⟨v, he, Rd.of_own ho, hB⟩
  · have := Split_any w (joinS (wordsS s)) (join_size hs)
    rw [wordsS_again] at this
    exact this.mono fun e w' ⟨v, he, ho, hB⟩ => ⟨v, he, Rd.of_own ho, hB⟩

theorem pre_at {α : Type} {pre L : List α} {x : α} (h : pre ++ [x] <+: L) : L[pre.length]? = some x := by
  obtain ⟨r, rfl⟩ := h
  simp

set_option maxHeartbeats 8000000 in
theorem WordsSplit_any (w : World) (s : ByteArray) (t : Nat) (ht : t < 256) (hs : s.size ≤ 2000) :
    Calls Tryd.prog 3 #[.string s, .int .u8 (t : Int)] w fun e w' => e = .returned (.bool true) ∧ Below w.heap.size w w' := by
  refine (callsIn_wide (n := 9)).1 ?_
  refine callsIn_of_wp_marks Tryd.func3 rfl trivial ?_ rfl
  simp only [Tryd.ntmps3, List.size_toArray, List.length_cons, List.length_nil, Nat.reduceAdd, Nat.reduceSub, Array.replicate_succ, Array.replicate_zero, List.push_toArray, List.append_toArray, List.nil_append, List.cons_append]
  have hd : decide ((2000 : Int) < (s.size : Int)) = false := decide_eq_false (by omega)
  refine wpIn_wide.2 ?_
  go_wp2_with fail
  have k0 := Boxed.new w U8 (.int .u8 (t : Int))
  have k1 := Boxed.new (w.alloc (.cells #[.int .u8 (t : Int)] U8)) 4 (.bool false)
  simp only [World.size_alloc] at k1
  have k0' := k0.alloc (.cells #[.bool false] 4)
  have C0 : Below w.heap.size w ((w.alloc (.cells #[.int .u8 (t : Int)] U8)).alloc (.cells #[.bool false] 4)) := ((Below.refl _ w).alloc (Nat.le_refl _) _).alloc (by simp) _
  have hsz : ((w.alloc (.cells #[.int .u8 (t : Int)] U8)).alloc (.cells #[.bool false] 4)).heap.size = w.heap.size + 2 := by simp
  clear k0
  generalize (w.alloc (.cells #[.int .u8 (t : Int)] U8)).alloc (.cells #[.bool false] 4) = W0 at *
  refine (lives_any W0).mono ?_
  rintro e w1 ⟨rfl, B1⟩
  have C1 := Lib.hid (C0.trans (B1.mono C0.size))
  have K0 := Lib.hid ((B1.block _ (by omega)).trans k0')
  have K1 := Lib.hid ((B1.block _ (by omega)).trans k1)
  have hs1 : w.heap.size + 2 ≤ w1.heap.size := by have := B1.size; omega
  clear k0' k1 C0 B1 hsz
  go_wp2_with fail
  refine (RSplit_any w1 s (by omega)).mono ?_
  rintro e w2 ⟨v1, v2, rfl, r1, r2, B2⟩
  have R1 := Lib.hid r1
  have R2 := Lib.hid r2
  have C2 := Lib.hid (C1.out.trans (B2.mono C1.out.size))
  have K0' : Hid (Boxed w2 w.heap.size U8 (.int .u8 (t : Int))) := Lib.hid ((B2.block _ (by omega)).trans K0.out)
  have K1' : Hid (Boxed w2 (w.heap.size + 1) 4 (.bool false)) := Lib.hid ((B2.block _ (by omega)).trans K1.out)
  obtain ⟨a1, c1, rfl, hc1⟩ := r1.shape
  obtain ⟨a2, c2, rfl, hc2⟩ := r2.shape
  obtain ⟨n, hn⟩ : ∃ n, (Wp.items (by8 s)).length = n := ⟨_, rfl⟩
  have hs2 : w.heap.size + 2 ≤ w2.heap.size := by have := B2.size; omega
  have hnl := items_size s
  simp only [strsC_len, wordsS_len, intsC_len, startsS_len, hn] at R1 R2 hc1 hc2 hnl ⊢
  have HN := Lib.hid hn
  clear r1 r2 B2 C1 K0 K1 hs1 hn
  go_wp2_with fail
  refine (Each_any _ s).mono ?_
  rintro e w' ⟨rfl, rfl⟩
  go_wp2_with fail
  have m0 := Boxed.new w2 23 (.slice a1 n c1)
  have m1 := Boxed.new (w2.alloc (.cells #[.slice a1 n c1] 23)) 24 (.slice a2 n c2)
  have m2 := Boxed.new ((w2.alloc (.cells #[.slice a1 n c1] 23)).alloc (.cells #[.slice a2 n c2] 24)) IT (.int .i64 0)
  have m3 := Boxed.new (((w2.alloc (.cells #[.slice a1 n c1] 23)).alloc (.cells #[.slice a2 n c2] 24)).alloc (.cells #[.int .i64 0] IT)) ST (.string s)
  simp only [World.size_alloc] at m1 m2 m3
  have hB0 : Below w2.heap.size w2 ((((w2.alloc (.cells #[.slice a1 n c1] 23)).alloc (.cells #[.slice a2 n c2] 24)).alloc (.cells #[.int .i64 0] IT)).alloc (.cells #[.string s] ST)) := ((((Below.refl _ w2).alloc (Nat.le_refl _) _).alloc (by simp) _).alloc (by simp; omega) _).alloc (by simp; omega) _
  have H0 : Hid (LI w2 s t w.heap.size (.slice a1 n c1) (.slice a2 n c2) [] ((((w2.alloc (.cells #[.slice a1 n c1] 23)).alloc (.cells #[.slice a2 n c2] 24)).alloc (.cells #[.int .i64 0] IT)).alloc (.cells #[.string s] ST))) :=
    Lib.hid ⟨⟨(((K0'.out.alloc _).alloc _).alloc _).alloc _, (((K1'.out.alloc _).alloc _).alloc _).alloc _, ((m0.alloc _).alloc _).alloc _, (m1.alloc _).alloc _, m3⟩, m2.alloc _, hB0, fun h => h⟩
  refine (wpIn_wide (n := 9)).1 (range_law (by omega) (gf := 14) (lb := #[.pointer (some ⟨w2.heap.size + 1 + 1 + 1, 0, none⟩)]) rfl (enters_of Tryd.func14 (by kernel_rfl) rfl)
    (each_iters _ (by omega) (w2.heap.size + 1 + 1 + 1) s (by omega) _ m3) mineE_keeps (keepB_trans _) (keepB_put (by simp)) (fun _ => rfl)
    (LI w2 s t w.heap.size (.slice a1 n c1) (.slice a2 n c2)) (LX w2 s t w.heap.size (.slice a1 n c1) (.slice a2 n c2)) (LI.own _ _ _ _ _ _ _ (by simp; omega)) (LX.own _ _ _ _ _ _ _ (by simp; omega)) (fun _ X Y h e => by cases e; exact h)
    H0.out
    (fun x => { tmps := #[.string s, .int .u8 (t : Int), undef, .pointer (some ⟨w.heap.size, 0, none⟩), .pointer (some ⟨w.heap.size + 1, 0, none⟩), .pointer (some ⟨w2.heap.size, 0, none⟩), .pointer (some ⟨w2.heap.size + 1, 0, none⟩), .pointer (some ⟨w2.heap.size + 1 + 1, 0, none⟩),
      .int .i64 (x.1 : Int), .string (part s x), undef, .bool true, .bool false, .bool false, .string s, .int .i64 (s.size : Int), .bool false, .bool false, undef, .tuple #[.slice a1 n c1, .slice a2 n c2], .string s, .tuple #[.slice a1 n c1, .slice a2 n c2], .slice a1 n c1, .slice a2 n c2, .string s,
      .func (.func 14) #[] #[.pointer (some ⟨w2.heap.size + 1 + 1 + 1, 0, none⟩)], .int .i64 (x.1 : Int), .string (part s x), undef, undef, undef, undef, undef, undef, undef, undef, undef, undef, undef, undef, undef, undef, undef, undef, undef, undef, undef, undef, undef, undef, undef, undef, undef, undef, undef, undef, undef, undef, undef, undef, undef, undef, undef, undef, undef, undef, undef, undef, undef, undef, undef, undef, undef, undef, undef, undef, undef, undef, undef, undef, undef, undef, undef, undef, undef], defers := [] }) ?assign ?body ?done ?stop)
  case assign =>
    intro l x W K hK
    gi_wp2
    exact hK
  case body =>
    clear m0 m1 m2 m3 hB0 H0
    rintro l pre x W ⟨hV, hi1, hB, hlt⟩ hsp
    have hj := pre_at hsp
    have hjl : pre.length < n := by rw [← HN.out]; exact (List.getElem?_eq_some_iff.1 hj).1
    obtain ⟨bl, ol, c, hv, hc, hbl, hx1⟩ := R1.out.open_ (by rw [strsC_len, wordsS_len, HN.out]; omega)
    rw [strsC_len, wordsS_len, HN.out] at hv
    obtain ⟨rfl, _, rfl⟩ := (Value.slice.injEq ..).mp hv
    obtain ⟨ba, oa, c', hv', hc', hba, hx2⟩ := R2.out.open_ (by rw [intsC_len, startsS_len, HN.out]; omega)
    rw [intsC_len, startsS_len, HN.out] at hv'
    obtain ⟨rfl, _, rfl⟩ := (Value.slice.injEq ..).mp hv'
    have d1 : W.cell? ⟨bl, ol + pre.length, none⟩ = some (.string (part s x)) := (hB.cell (p := ⟨bl, ol + pre.length, none⟩) hbl).trans (hx1 _ _ (by simp [strsC, wordsS, hj]))
    have d2 : W.cell? ⟨ba, oa + pre.length, none⟩ = some (.int .i64 (x.1 : Int)) := (hB.cell (p := ⟨ba, oa + pre.length, none⟩) hba).trans (hx2 _ _ (by simp [intsC, startsS, hj]))
    have e1 := hV.l.cell
    have e2 := hV.at_.cell
    have e3 := hV.stop.cell
    have e4 := hi1.cell
    have e5 := hi1.frozen
    generalize hpl : pre.length = j at *
    have HPL := Lib.hid hpl
    clear hj hx1 hx2 hv hv' hpl
    have hlen : (((pre ++ [x]).length : Nat) : Int) = (j : Int) + 1 := by rw [List.length_append, HPL.out]; simp
    have hlen2 : (pre ++ [x]).length = j + 1 := by rw [List.length_append, HPL.out]; simp
    have HL := Lib.hid hlen
    have HL2 := Lib.hid hlen2
    have hkb : ∀ u, KeepB (w2.heap.size + 1 + 1 + 1) W (W.setCell ⟨w2.heap.size + 1 + 1, 0, none⟩ u) := fun u => Below.heap_setCell _ _ _ _ (by simp)
    have HK := Lib.hid hkb
    clear hlen hlen2 hkb
    gi_wp2
    · have he : ((j : Int) + 1 == (t : Int)) = true := by assumption
      have he2 := eq_of_beq he
      exact ⟨KeepsOthers.setCell _ _ _, rfl, hV.set hs2 _, by rw [HL.out]; exact hi1.set _, hB.setCell (by simp; omega) _, by omega, by rw [HL2.out]; omega⟩
    · have he : ((j : Int) + 1 == (t : Int)) = false := by assumption
      have he2 := beq_eq_false_iff_ne.1 he
      exact ⟨KeepsOthers.setCell _ _ _, HK.out _, hV.set hs2 _, by rw [HL.out]; exact hi1.set _, hB.setCell (by simp; omega) _, fun h => by rw [HL2.out]; have := hlt h; omega⟩
  case done =>
    clear m0 m1 m2 m3 hB0 H0
    rintro D xs W hD rfl ⟨hV, hi1, hB, hlt⟩ hK
    rw [HN.out] at hi1 hlt
    have e1 := hV.l.cell
    have e3 := hV.stop.cell
    have e4 := hi1.cell
    have e5 := hV.res.cell
    have e6 := hV.res.frozen
    by_cases h0 : 0 < t
    · have hnt := hlt h0
      have hmin : min (n : Int) (t : Int) = (n : Int) := Int.min_eq_left (by omega)
      go_wp2_with fail
      clear hmin
      have HW : Hid (∀ w', Below W.heap.size W w' → (w'.cell? ⟨w2.heap.size + 1 + 1, 0, none⟩ = some (.int .i64 (n : Int)) ∧ w'.cell? ⟨w2.heap.size, 0, none⟩ = some (.slice a1 n c1))) := Lib.hid fun w' h => ⟨(h.cell (p := ⟨w2.heap.size + 1 + 1, 0, none⟩) hi1.lt).trans e4, (h.cell (p := ⟨w2.heap.size, 0, none⟩) hV.l.lt).trans e1⟩
      have HW2 : Hid (∀ w' u, Below W.heap.size W w' → ((w'.setCell ⟨w.heap.size + 1, 0, none⟩ u).cell? ⟨w2.heap.size + 1 + 1, 0, none⟩ = some (.int .i64 (n : Int)) ∧ (w'.setCell ⟨w.heap.size + 1, 0, none⟩ u).cell? ⟨w2.heap.size, 0, none⟩ = some (.slice a1 n c1))) := Lib.hid fun w' u h => by
        have := HW.out w' h
        exact ⟨(World.cell?_setCell_other _ _ _ _ (by intro e; have := congrArg Addr.block e; simp at this; omega)).trans this.1, (World.cell?_setCell_other _ _ _ _ (by intro e; have := congrArg Addr.block e; simp at this; omega)).trans this.2⟩
      have HRes : Hid (∀ w', Below W.heap.size W w' → (w'.cell? ⟨w.heap.size + 1, 0, none⟩ = some (.bool false) ∧ w'.frozen? ⟨w.heap.size + 1, 0, none⟩ = false)) := Lib.hid fun w' h => ⟨(h.cell (p := ⟨w.heap.size + 1, 0, none⟩) hV.res.lt).trans e5, (h.frozen (p := ⟨w.heap.size + 1, 0, none⟩) hV.res.lt).trans e6⟩
      have tok1 : True := trivial
      have tok2 : True := trivial
      have D0 : Below W.heap.size W W.drew := (Below.refl _ _).drew
      have P1 := Lib.hid ((R1.out.below hB).more hB.size)
      have HSz : Hid ((wordsS s).length ≤ 100000) := Lib.hid (by rw [wordsS_len, HN.out]; omega)
      have HWS : Hid (∀ x ∈ wordsS s, x.size ≤ 2000) := Lib.hid fun x hx => by have := words_size hx; omega
      go_region_held3 (fun w' => w'.cell? ⟨w2.heap.size + 1 + 1, 0, none⟩ = some (.int .i64 (n : Int)) ∧ w'.cell? ⟨w2.heap.size, 0, none⟩ = some (.slice a1 n c1))
        (first | go_keep | exact HW.out _ D0 | exact HW.out _ D1 | exact HW.out _ D2 | exact HW.out _ D3 | exact HW.out _ D4 | exact HW.out _ D5 | exact HW.out _ D6 | exact HW.out _ D7 | exact HW2.out _ _ D7)
        (first
          | (go_at_call 8; have _t := tok1; refine (Split_is _ s _ hs (.inl rfl)).mono ?_; rintro e wa ⟨va, rfl, ra, Ba⟩; clear tok1 _t; have D1 := D0.trans Ba)
          | (go_at_call 7; have _t := tok2; refine (Equal_rd _ wa.heap.size va _ (wordsS s) ra ((P1.out.below D1).more D1.size) HSz.out).mono ?_; rintro e wb ⟨rfl, Bb⟩; clear tok2 _t; have D2 := D1.trans (Bb.mono D1.size))
          | (go_at_call 9; refine (Trim_any _ s (by omega)).mono ?_; rintro e wc ⟨rfl, Bc⟩; have D3 := D2.trans (Bc.mono D2.size))
          | (go_at_call 10; refine (RTrim_any _ s (by omega)).mono ?_; rintro e wd ⟨rfl, rfl⟩; have D4 := D3)
          | (go_at_call 11; refine (Join_rd _ _ (wordsS s) ((P1.out.below D4).more D4.size) HSz.out HWS.out).mono ?_; rintro e we ⟨rfl, Be⟩; have D5 := D4.trans (Be.mono D4.size))
          | (go_at_call 8; refine (Split_is _ s _ hs (.inr rfl)).mono ?_; rintro e wf ⟨vf, rfl, rf, Bf⟩; have D6 := D5.trans (Bf.mono D5.size))
          | (go_at_call 7; refine (Equal_rd _ wf.heap.size vf _ (wordsS s) rf ((P1.out.below D6).more D6.size) HSz.out).mono ?_; rintro e wg ⟨rfl, Bg⟩; have D7 := D6.trans (Bg.mono D6.size); obtain ⟨q1, q2⟩ := HRes.out _ D7))
      go_wp2_with fail
      have hK2 := (KeepsOthers.setCell wg ⟨w.heap.size + 1, 0, none⟩ (.bool true)).same D _ ((D7.block D (Array.getElem?_eq_some_iff.1 hK).1).trans hK) rfl
      have hDb : w.heap.size + 1 ≠ D := by
        have : W.heap[w.heap.size + 1]? = _ := hV.res
        intro e; subst e
        rw [this] at hK; cases hK
      have hc : ((wg.setCell ⟨w.heap.size + 1, 0, none⟩ (.bool true)).putObj D (.deferred none)).cell? ⟨w.heap.size + 1, 0, none⟩ = some (.bool true) := by
        have b1 : Boxed wg (w.heap.size + 1) 4 (.bool false) := (D7.block _ hV.res.lt).trans hV.res
        exact ((b1.set (.bool true)).kept (grownBy_putObj' _ D (.deferred none)) (by intro e; cases e; exact hDb rfl)).cell
      refine ⟨by simp, .inl ⟨_, _, rfl, run_takeDeferred hK2, ?_⟩⟩
      refine ⟨.bool true, ?_, rfl, ?_⟩
      · simp [results, Tryd.f3, go_sem, hc]
      · exact (C2.out.trans ((hB.trans (D7.mono hB.size)).mono (by omega))).trans (((Below.refl _ wg).setCell (p := ⟨w.heap.size + 1, 0, none⟩) (by simp) _).trans (belowK_b (w := w) (Nat.le_refl _) _ D _ _ (by simp at hD; omega) hK2 rfl rfl))
    · go_wp2_with fail
      have HW : Hid (∀ w', Below W.heap.size W w' → (w'.cell? ⟨w2.heap.size + 1 + 1, 0, none⟩ = some (.int .i64 (n : Int)) ∧ w'.cell? ⟨w2.heap.size, 0, none⟩ = some (.slice a1 n c1))) := Lib.hid fun w' h => ⟨(h.cell (p := ⟨w2.heap.size + 1 + 1, 0, none⟩) hi1.lt).trans e4, (h.cell (p := ⟨w2.heap.size, 0, none⟩) hV.l.lt).trans e1⟩
      have HW2 : Hid (∀ w' u, Below W.heap.size W w' → ((w'.setCell ⟨w.heap.size + 1, 0, none⟩ u).cell? ⟨w2.heap.size + 1 + 1, 0, none⟩ = some (.int .i64 (n : Int)) ∧ (w'.setCell ⟨w.heap.size + 1, 0, none⟩ u).cell? ⟨w2.heap.size, 0, none⟩ = some (.slice a1 n c1))) := Lib.hid fun w' u h => by
        have := HW.out w' h
        exact ⟨(World.cell?_setCell_other _ _ _ _ (by intro e; have := congrArg Addr.block e; simp at this; omega)).trans this.1, (World.cell?_setCell_other _ _ _ _ (by intro e; have := congrArg Addr.block e; simp at this; omega)).trans this.2⟩
      have HRes : Hid (∀ w', Below W.heap.size W w' → (w'.cell? ⟨w.heap.size + 1, 0, none⟩ = some (.bool false) ∧ w'.frozen? ⟨w.heap.size + 1, 0, none⟩ = false)) := Lib.hid fun w' h => ⟨(h.cell (p := ⟨w.heap.size + 1, 0, none⟩) hV.res.lt).trans e5, (h.frozen (p := ⟨w.heap.size + 1, 0, none⟩) hV.res.lt).trans e6⟩
      have tok1 : True := trivial
      have tok2 : True := trivial
      have D0 : Below W.heap.size W W.drew := (Below.refl _ _).drew
      have P1 := Lib.hid ((R1.out.below hB).more hB.size)
      have HSz : Hid ((wordsS s).length ≤ 100000) := Lib.hid (by rw [wordsS_len, HN.out]; omega)
      have HWS : Hid (∀ x ∈ wordsS s, x.size ≤ 2000) := Lib.hid fun x hx => by have := words_size hx; omega
      go_region_held3 (fun w' => w'.cell? ⟨w2.heap.size + 1 + 1, 0, none⟩ = some (.int .i64 (n : Int)) ∧ w'.cell? ⟨w2.heap.size, 0, none⟩ = some (.slice a1 n c1))
        (first | go_keep | exact HW.out _ D0 | exact HW.out _ D1 | exact HW.out _ D2 | exact HW.out _ D3 | exact HW.out _ D4 | exact HW.out _ D5 | exact HW.out _ D6 | exact HW.out _ D7 | exact HW2.out _ _ D7)
        (first
          | (go_at_call 8; have _t := tok1; refine (Split_is _ s _ hs (.inl rfl)).mono ?_; rintro e wa ⟨va, rfl, ra, Ba⟩; clear tok1 _t; have D1 := D0.trans Ba)
          | (go_at_call 7; have _t := tok2; refine (Equal_rd _ wa.heap.size va _ (wordsS s) ra ((P1.out.below D1).more D1.size) HSz.out).mono ?_; rintro e wb ⟨rfl, Bb⟩; clear tok2 _t; have D2 := D1.trans (Bb.mono D1.size))
          | (go_at_call 9; refine (Trim_any _ s (by omega)).mono ?_; rintro e wc ⟨rfl, Bc⟩; have D3 := D2.trans (Bc.mono D2.size))
          | (go_at_call 10; refine (RTrim_any _ s (by omega)).mono ?_; rintro e wd ⟨rfl, rfl⟩; have D4 := D3)
          | (go_at_call 11; refine (Join_rd _ _ (wordsS s) ((P1.out.below D4).more D4.size) HSz.out HWS.out).mono ?_; rintro e we ⟨rfl, Be⟩; have D5 := D4.trans (Be.mono D4.size))
          | (go_at_call 8; refine (Split_is _ s _ hs (.inr rfl)).mono ?_; rintro e wf ⟨vf, rfl, rf, Bf⟩; have D6 := D5.trans (Bf.mono D5.size))
          | (go_at_call 7; refine (Equal_rd _ wf.heap.size vf _ (wordsS s) rf ((P1.out.below D6).more D6.size) HSz.out).mono ?_; rintro e wg ⟨rfl, Bg⟩; have D7 := D6.trans (Bg.mono D6.size); obtain ⟨q1, q2⟩ := HRes.out _ D7))
      go_wp2_with fail
      have hK2 := (KeepsOthers.setCell wg ⟨w.heap.size + 1, 0, none⟩ (.bool true)).same D _ ((D7.block D (Array.getElem?_eq_some_iff.1 hK).1).trans hK) rfl
      have hDb : w.heap.size + 1 ≠ D := by
        have : W.heap[w.heap.size + 1]? = _ := hV.res
        intro e; subst e
        rw [this] at hK; cases hK
      have hc : ((wg.setCell ⟨w.heap.size + 1, 0, none⟩ (.bool true)).putObj D (.deferred none)).cell? ⟨w.heap.size + 1, 0, none⟩ = some (.bool true) := by
        have b1 : Boxed wg (w.heap.size + 1) 4 (.bool false) := (D7.block _ hV.res.lt).trans hV.res
        exact ((b1.set (.bool true)).kept (grownBy_putObj' _ D (.deferred none)) (by intro e; cases e; exact hDb rfl)).cell
      refine ⟨by simp, .inl ⟨_, _, rfl, run_takeDeferred hK2, ?_⟩⟩
      refine ⟨.bool true, ?_, rfl, ?_⟩
      · simp [results, Tryd.f3, go_sem, hc]
      · exact (C2.out.trans ((hB.trans (D7.mono hB.size)).mono (by omega))).trans (((Below.refl _ wg).setCell (p := ⟨w.heap.size + 1, 0, none⟩) (by simp) _).trans (belowK_b (w := w) (Nat.le_refl _) _ D _ _ (by simp at hD; omega) hK2 rfl rfl))
  case stop =>
    clear m0 m1 m2 m3 hB0 H0
    rintro D c pre W hD hpre ⟨rfl, hV, hi1, hB, h0, hpt⟩ hK
    have htn : t ≤ n := by have := hpre.length_le; rw [HN.out] at this; omega
    rw [hpt] at hi1
    clear hpre hpt
    have e1 := hV.l.cell
    have e3 := hV.stop.cell
    have e4 := hi1.cell
    have e5 := hV.res.cell
    have e6 := hV.res.frozen
    have hmin : min (n : Int) (t : Int) = (t : Int) := Int.min_eq_right (by omega)
    refine wpIn_wide.2 ?_
    go_wp2_with fail
    clear hmin
    have HW : Hid (∀ w', Below W.heap.size W w' → (w'.cell? ⟨w2.heap.size + 1 + 1, 0, none⟩ = some (.int .i64 (t : Int)) ∧ w'.cell? ⟨w2.heap.size, 0, none⟩ = some (.slice a1 n c1))) := Lib.hid fun w' h => ⟨(h.cell (p := ⟨w2.heap.size + 1 + 1, 0, none⟩) hi1.lt).trans e4, (h.cell (p := ⟨w2.heap.size, 0, none⟩) hV.l.lt).trans e1⟩
    have HW2 : Hid (∀ w' u, Below W.heap.size W w' → ((w'.setCell ⟨w.heap.size + 1, 0, none⟩ u).cell? ⟨w2.heap.size + 1 + 1, 0, none⟩ = some (.int .i64 (t : Int)) ∧ (w'.setCell ⟨w.heap.size + 1, 0, none⟩ u).cell? ⟨w2.heap.size, 0, none⟩ = some (.slice a1 n c1))) := Lib.hid fun w' u h => by
      have := HW.out w' h
      exact ⟨(World.cell?_setCell_other _ _ _ _ (by intro e; have := congrArg Addr.block e; simp at this; omega)).trans this.1, (World.cell?_setCell_other _ _ _ _ (by intro e; have := congrArg Addr.block e; simp at this; omega)).trans this.2⟩
    have HRes : Hid (∀ w', Below W.heap.size W w' → (w'.cell? ⟨w.heap.size + 1, 0, none⟩ = some (.bool false) ∧ w'.frozen? ⟨w.heap.size + 1, 0, none⟩ = false)) := Lib.hid fun w' h => ⟨(h.cell (p := ⟨w.heap.size + 1, 0, none⟩) hV.res.lt).trans e5, (h.frozen (p := ⟨w.heap.size + 1, 0, none⟩) hV.res.lt).trans e6⟩
    have tok1 : True := trivial
    have tok2 : True := trivial
    have D0 : Below W.heap.size W W.drew := (Below.refl _ _).drew
    have P1 := Lib.hid ((R1.out.below hB).more hB.size)
    have HSz : Hid ((wordsS s).length ≤ 100000) := Lib.hid (by rw [wordsS_len, HN.out]; omega)
    have HWS : Hid (∀ x ∈ wordsS s, x.size ≤ 2000) := Lib.hid fun x hx => by have := words_size hx; omega
    go_region_held3 (fun w' => w'.cell? ⟨w2.heap.size + 1 + 1, 0, none⟩ = some (.int .i64 (t : Int)) ∧ w'.cell? ⟨w2.heap.size, 0, none⟩ = some (.slice a1 n c1))
      (first | go_keep | exact HW.out _ D0 | exact HW.out _ D1 | exact HW.out _ D2 | exact HW.out _ D3 | exact HW.out _ D4 | exact HW.out _ D5 | exact HW.out _ D6 | exact HW.out _ D7 | exact HW2.out _ _ D7)
      (first
        | (go_at_call 8; have _t := tok1; refine (Split_is _ s _ hs (.inl rfl)).mono ?_; rintro e wa ⟨va, rfl, ra, Ba⟩; clear tok1 _t; have D1 := D0.trans Ba)
        | (go_at_call 7; have _t := tok2; refine (Equal_rd _ wa.heap.size va _ (wordsS s) ra ((P1.out.below D1).more D1.size) HSz.out).mono ?_; rintro e wb ⟨rfl, Bb⟩; clear tok2 _t; have D2 := D1.trans (Bb.mono D1.size))
        | (go_at_call 9; refine (Trim_any _ s (by omega)).mono ?_; rintro e wc ⟨rfl, Bc⟩; have D3 := D2.trans (Bc.mono D2.size))
        | (go_at_call 10; refine (RTrim_any _ s (by omega)).mono ?_; rintro e wd ⟨rfl, rfl⟩; have D4 := D3)
        | (go_at_call 11; refine (Join_rd _ _ (wordsS s) ((P1.out.below D4).more D4.size) HSz.out HWS.out).mono ?_; rintro e we ⟨rfl, Be⟩; have D5 := D4.trans (Be.mono D4.size))
        | (go_at_call 8; refine (Split_is _ s _ hs (.inr rfl)).mono ?_; rintro e wf ⟨vf, rfl, rf, Bf⟩; have D6 := D5.trans (Bf.mono D5.size))
        | (go_at_call 7; refine (Equal_rd _ wf.heap.size vf _ (wordsS s) rf ((P1.out.below D6).more D6.size) HSz.out).mono ?_; rintro e wg ⟨rfl, Bg⟩; have D7 := D6.trans (Bg.mono D6.size); obtain ⟨q1, q2⟩ := HRes.out _ D7))
    go_wp2_with fail
    have hK2 := (KeepsOthers.setCell wg ⟨w.heap.size + 1, 0, none⟩ (.bool true)).same D _ ((D7.block D (Array.getElem?_eq_some_iff.1 hK).1).trans hK) rfl
    have hDb : w.heap.size + 1 ≠ D := by
      have : W.heap[w.heap.size + 1]? = _ := hV.res
      intro e; subst e
      rw [this] at hK; cases hK
    have hc : ((wg.setCell ⟨w.heap.size + 1, 0, none⟩ (.bool true)).putObj D (.deferred none)).cell? ⟨w.heap.size + 1, 0, none⟩ = some (.bool true) := by
      have b1 : Boxed wg (w.heap.size + 1) 4 (.bool false) := (D7.block _ hV.res.lt).trans hV.res
      exact ((b1.set (.bool true)).kept (grownBy_putObj' _ D (.deferred none)) (by intro e; cases e; exact hDb rfl)).cell
    refine ⟨by simp, .inl ⟨_, _, rfl, run_takeDeferred hK2, ?_⟩⟩
    refine ⟨.bool true, ?_, rfl, ?_⟩
    · simp [results, Tryd.f3, go_sem, hc]
    · exact (C2.out.trans ((hB.trans (D7.mono hB.size)).mono (by omega))).trans (((Below.refl _ wg).setCell (p := ⟨w.heap.size + 1, 0, none⟩) (by simp) _).trans (belowK_b (w := w) (Nat.le_refl _) _ D _ _ (by simp at hD; omega) hK2 rfl rfl))

theorem WordsSplitL_any (w : World) (s : ByteArray) (t : Int) (hs : 2000 < s.size) (hs0 : s.size ≤ 140737488355328) :
    Calls Tryd.prog 3 #[.string s, .int .u8 t] w fun e w' => e = .returned (.bool true) ∧ Below w.heap.size w w' := by
  go_enter Tryd.func3, Tryd.ntmps3
  go_wp2_with fail
  have k1 := Boxed.new (w.alloc (.cells #[.int .u8 t] U8)) 4 (.bool false)
  simp only [World.size_alloc] at k1
  have C0 : Below w.heap.size w ((w.alloc (.cells #[.int .u8 t] U8)).alloc (.cells #[.bool false] 4)) := ((Below.refl _ w).alloc (Nat.le_refl _) _).alloc (by simp) _
  have hsz : ((w.alloc (.cells #[.int .u8 t] U8)).alloc (.cells #[.bool false] 4)).heap.size = w.heap.size + 2 := by simp
  generalize (w.alloc (.cells #[.int .u8 t] U8)).alloc (.cells #[.bool false] 4) = W0 at *
  refine (lives_any W0).mono ?_
  rintro e w1 ⟨rfl, B1⟩
  have C1 := C0.trans (B1.mono C0.size)
  have K1 : Boxed w1 (w.heap.size + 1) 4 (.bool false) := (B1.block _ (by omega)).trans k1
  clear k1 C0 hsz B1
  go_wp2_with fail
  refine (lives_any w1).mono ?_
  rintro e w2 ⟨rfl, B2⟩
  have C2 := C1.trans (B2.mono C1.size)
  have K2 : Boxed w2 (w.heap.size + 1) 4 (.bool false) := (B2.block _ K1.lt).trans K1
  have c2 := K2.cell
  have f2 := K2.frozen
  clear K1
  go_wp2_with fail
  have hc := (K2.set (.bool true)).cell
  exact bodyPost_ret (v := .bool true) (by simp [results, Tryd.f3, go_sem, hc]) rfl ⟨rfl, C2.setCell (p := ⟨w.heap.size + 1, 0, none⟩) (by simp) _⟩
end Go.Proofs.YtnffinpjhfonjaaDoor.Ww
