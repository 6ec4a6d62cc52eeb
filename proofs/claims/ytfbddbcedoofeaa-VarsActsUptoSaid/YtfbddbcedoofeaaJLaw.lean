/-
  VarsActs, walked.
-/
import Derived.Deep.RegionHeld3
import Derived.Deep.DeepCutAuto
import Derived.Test.YtfbddbcedoofeaaJDoAll
namespace Go.Proofs.Ytfbddbcedoofeaa.Jw
open Go.RowKit Go.Proofs.Ytfbddbcedoofeaa Go.Proofs.Ytfbddbcedoofeaa.Ww Go.Proofs.Ytfbddbcedoofeaa.Tw Go.Proofs.Ytfbddbcedoofeaa.Kw
set_option maxRecDepth 100000

/-- An act that is passed: its number, its variable, its names as a value and in words. -/
structure Ac where
  k : Nat
  v : Jp.V
  nv : Value
  L : List Bs
/-- The acts in memory. -/
def Acts (w : World) (vl : Value) (A : List Ac) : Prop :=
  (A = [] ∧ ∃ a c, vl = .slice a 0 c) ∨ ∃ b o c, vl = .slice (some ⟨b, o, none⟩) A.length c ∧ b < w.heap.size ∧ ∀ j, (h : j < A.length) →
    w.cell? ⟨b, o + j * 6, none⟩ = some (.int .u8 A[j].k) ∧ w.cell? ⟨b, o + j * 6 + 1, none⟩ = some (.string (str A[j].v.n)) ∧ w.cell? ⟨b, o + j * 6 + 2, none⟩ = some (.string (str A[j].v.x)) ∧
    w.cell? ⟨b, o + j * 6 + 3, none⟩ = some (.bool A[j].v.s) ∧ w.cell? ⟨b, o + j * 6 + 4, none⟩ = some (.int .i64 A[j].v.f) ∧ w.cell? ⟨b, o + j * 6 + 5, none⟩ = some A[j].nv
theorem Acts.shape {w : World} {vl : Value} {A : List Ac} (h : Acts w vl A) : ∃ a c, vl = .slice a A.length c := by
  rcases h with ⟨rfl, a, c, rfl⟩ | ⟨b, o, c, rfl, _⟩
  · exact ⟨a, c, rfl⟩
  · exact ⟨_, c, rfl⟩
theorem Acts.at_ {w : World} {a : Option Addr} {n c : Nat} {A : List Ac} (h : Acts w (.slice a n c) A) {j : Nat} (hj : j < A.length) : ∃ b o, a = some ⟨b, o, none⟩ ∧ b < w.heap.size ∧
    w.cell? ⟨b, o + j * 6, none⟩ = some (.int .u8 A[j].k) ∧ w.cell? ⟨b, o + j * 6 + 1, none⟩ = some (.string (str A[j].v.n)) ∧ w.cell? ⟨b, o + j * 6 + 2, none⟩ = some (.string (str A[j].v.x)) ∧
    w.cell? ⟨b, o + j * 6 + 3, none⟩ = some (.bool A[j].v.s) ∧ w.cell? ⟨b, o + j * 6 + 4, none⟩ = some (.int .i64 A[j].v.f) ∧ w.cell? ⟨b, o + j * 6 + 5, none⟩ = some A[j].nv := by
  rcases h with ⟨rfl, _⟩ | ⟨b, o, c', hv, hb, hx⟩
  · cases hj
  · cases hv
    exact ⟨b, o, rfl, hb, hx j hj⟩
def sumN (l : List Bs) : Nat := (l.map List.length).sum
def wA (a : Ac) : Nat := a.v.n.length + a.v.x.length + a.L.length + sumN a.L
def sumA (l : List Ac) : Nat := (l.map wA).sum
theorem sumN_take {l : List Bs} {k : Nat} (h : k < l.length) : sumN (l.take (k + 1)) = sumN (l.take k) + l[k].length := by
  unfold sumN
  rw [List.take_succ_eq_append_getElem h, List.map_append, List.sum_append]; rfl
theorem sumA_take {l : List Ac} {k : Nat} (h : k < l.length) : sumA (l.take (k + 1)) = sumA (l.take k) + wA l[k] := by
  unfold sumA
  rw [List.take_succ_eq_append_getElem h, List.map_append, List.sum_append]; rfl
theorem sum_take_le (l : List Nat) (k : Nat) : (l.take k).sum ≤ l.sum := by
  have := List.take_append_drop k l
  calc (l.take k).sum ≤ (l.take k).sum + (l.drop k).sum := Nat.le_add_right _ _
    _ = l.sum := by rw [← List.sum_append, this]
theorem sumN_le (l : List Bs) (k : Nat) : sumN (l.take k) ≤ sumN l := by unfold sumN; rw [List.map_take]; exact sum_take_le _ _
theorem sumA_le (l : List Ac) (k : Nat) : sumA (l.take k) ≤ sumA l := by unfold sumA; rw [List.map_take]; exact sum_take_le _ _
theorem le_sum {x : Nat} : ∀ {l : List Nat}, x ∈ l → x ≤ l.sum
  | y :: r, h => by
    rw [List.sum_cons]
    rcases List.mem_cons.1 h with rfl | h
    · omega
    · have := le_sum h; omega
theorem sumA_mem {l : List Ac} {a : Ac} (h : a ∈ l) : wA a ≤ sumA l := le_sum (List.mem_map.2 ⟨a, h, rfl⟩)
theorem sumN_mem {l : List Bs} {a : Bs} (h : a ∈ l) : a.length ≤ sumN l := le_sum (List.mem_map.2 ⟨a, h, rfl⟩)
def CoRel (w : World) (A : List Ac) (vn vi : Value) (wr : World) : Prop := ∃ i : Nat, vi = .int .i64 i ∧ vn = .int .i64 (sumA (A.take i) : Nat) ∧ i ≤ A.length ∧ Below w.heap.size w wr
def LRel (w : World) (A : List Ac) (tb mb : Nat) (vi : Value) (wr : World) : Prop :=
  ∃ (i : Nat) (T : Jp.T) (M : List (Bs × Int)) (s : Sl) (X : List Nat), vi = .int .i64 i ∧ i ≤ A.length ∧ Tab wr tb X T.l M T.all ∧ wr.heap[mb]? = some (.cells (mC T s) TT (0, 0)) ∧ Rows3 wr T s ∧ Agree T M ∧ Sz T M i ∧ (∀ x ∈ X, w.heap.size ≤ x) ∧ w.heap.size ≤ mb ∧ Below w.heap.size w wr
def InRel (w1 : World) (L : List Bs) (base : Nat) (vn vj : Value) (wr : World) : Prop := ∃ j : Nat, vj = .int .i64 j ∧ vn = .int .i64 (base + sumN (L.take j) : Nat) ∧ j ≤ L.length ∧ wr = w1

set_option maxHeartbeats 1000000 in
/-- Too many acts, or too long a name. -/
theorem VarsActs_big (w : World) (a : Option Addr) (n c : Nat) (look : ByteArray) (hbig : 60 < n ∨ 100 < look.size) :
    Calls Try.prog 3 #[.slice a n c, .string look] w fun e w' => e = .returned (.bool true) ∧ Below w.heap.size w w' := by
  by_cases hn : 60 < n
  · have hk : (60 : Int) < (n : Int) := by omega
    clear hbig hn
    go_enter Try.func3, Try.ntmps3
    go_wp2_with fail
    refine (PLives_any _).mono ?_
    rintro e w1 ⟨rfl, B1⟩
    go_wp2_with fail
    refine (PLives_any _).mono ?_
    rintro e w2 ⟨rfl, B2⟩
    go_wp2_with fail
    go_ret
    exact ⟨rfl, B1.trans (B2.mono B1.size)⟩
  · have hk : ¬ (60 : Int) < (n : Int) := by omega
    have hl : (100 : Int) < (look.size : Int) := by omega
    clear hbig hn
    go_enter Try.func3, Try.ntmps3
    go_wp2_with fail
    refine (PLives_any _).mono ?_
    rintro e w1 ⟨rfl, B1⟩
    go_wp2_with fail
    refine (PLives_any _).mono ?_
    rintro e w2 ⟨rfl, B2⟩
    go_wp2_with fail
    go_ret
    exact ⟨rfl, B1.trans (B2.mono B1.size)⟩

/-- What a round has behind its act: both tables, the copy, the first table. -/
structure After (w : World) (tb mb cb fb : Nat) (T T' : Jp.T) (M M' : List (Bs × Int)) (s : Sl) (W : World) : Prop where
  tab : ∃ X', Tab W tb X' T'.l M' T'.all ∧ ∀ x ∈ X', w.heap.size ≤ x
  m : ∃ s', W.heap[mb]? = some (.cells (mC T' s') TT (0, 0)) ∧ Rows3 W T' s'
  c : ∃ Xc, Tab W cb Xc T.l M T.all
  f : W.heap[fb]? = some (.cells (mC T s) TT (0, 0))
  fr : Rows3 W T s
  below : Below w.heap.size w W
theorem After.on {w : World} {tb mb cb fb : Nat} {T T' : Jp.T} {M M' : List (Bs × Int)} {s : Sl} {W W' : World} (h : After w tb mb cb fb T T' M M' s W) (hB : Below W.heap.size W W') : After w tb mb cb fb T T' M M' s W' := by
  obtain ⟨X', h1, h2⟩ := h.tab
  obtain ⟨s', h3, h4⟩ := h.m
  obtain ⟨Xc, h5⟩ := h.c
  exact ⟨⟨X', h1.below hB, h2⟩, ⟨s', (hB.block _ (Array.getElem?_eq_some_iff.1 h3).1).trans h3, h4.below hB⟩, ⟨Xc, h5.below hB⟩, (hB.block _ (Array.getElem?_eq_some_iff.1 h.f).1).trans h.f, h.fr.below hB, h.below.trans (hB.mono h.below.size)⟩
theorem Kinds.lt {w : World} {X : List Nat} (h : Kinds w X) : ∀ i ∈ X, i < w.heap.size := fun i hi => by
  rcases h i hi with ⟨es, ck, h1⟩ | ⟨cs, t, fz, h1, _⟩
  · exact (Array.getElem?_eq_some_iff.1 h1).1
  · exact (Array.getElem?_eq_some_iff.1 h1).1
theorem row_not {w : World} {mb : Nat} {cs : Array Value} (hm : w.heap[mb]? = some (.cells cs TT (0, 0))) {lo : Nat} {t : TypeId} {z : Nat} {v : Value} {n : Nat} {xs : List Value} (ho : w.ownsRow lo t z v n xs) (ht : t ≠ TT) : ∀ k, v.ownBlock = some k → k ≠ mb := by
  intro k hk e
  rcases ho.2 with ⟨hv, _⟩ | ⟨g, cap, cur, hv, _, hg, _⟩
  · rw [hv] at hk; simp [Value.ownBlock] at hk
  · rw [hv] at hk
    simp [Value.ownBlock] at hk
    subst hk
    rw [e, hm] at hg; cases hg; exact ht rfl
theorem Rows3.kept2 {w w' : World} {mb : Nat} {cs : Array Value} {T : Jp.T} {s : Sl} {X : List Nat} (h : Rows3 w T s) (hK : Kinds w X) (hm : w.heap[mb]? = some (.cells cs TT (0, 0))) (hk : Kept (mb :: X) w w') : Rows3 w' T s := by
  have hn : ∀ {t : TypeId} {z : Nat} {v : Value} {n : Nat} {xs : List Value}, w.ownsRow 0 t z v n xs → (t ≠ PT ∧ t ≠ BT ∧ t ≠ U8) → t ≠ TT → ∀ k, v.ownBlock = some k → k ∉ mb :: X := fun ho ht ht2 k hk2 hi => by
    rcases List.mem_cons.1 hi with e | e
    · exact row_not hm ho ht2 k hk2 e
    · exact hK.row ho ht k hk2 e
  exact ⟨own_kept h.l hk (hn h.l kVT (by decide)), own_kept h.yes hk (hn h.yes kST (by decide)), own_kept h.no hk (hn h.no kST (by decide))⟩
theorem exportsA_len (T : Jp.T) : (Jp.exportsA T).length ≤ T.l.length := by unfold Jp.exportsA; exact List.length_filter_le _ _
theorem rem7 (k r : Nat) (h : k % 7 = r) : (k : Int).tmod 7 = (r : Int) := by
  subst h; rw [Int.tmod_eq_emod_of_nonneg (by omega)]; omega
theorem rem7_no (k : Nat) (h : ¬ k % 7 = 0) : ((k : Int).tmod 7 == 0) = false := by
  rw [rem7 k _ rfl, beq_eq_false_iff_ne]; omega
/-- Behind do. -/
theorem After.do_ {w wr w3 w4 : World} {tb mb cb : Nat} {X0 Xc : List Nat} {T T' : Jp.T} {M M' : List (Bs × Int)} {s : Sl} (hBw : Below w.heap.size w w3) (hs : wr.heap.size ≤ w3.heap.size) (hX0 : ∀ i ∈ X0, w.heap.size ≤ i ∧ i < wr.heap.size) (hK0 : Kinds w3 X0) (hm : w3.heap[mb]? = some (.cells (mC T s) TT (0, 0))) (hml : mb < wr.heap.size) (hmw : w.heap.size ≤ mb) (hR : Rows3 w3 T s) (hc : Tab w3 cb Xc T.l M T.all) (hXc : ∀ i ∈ Xc, wr.heap.size ≤ i)
    (hp : DPost (w3.alloc (.cells (mC T s) TT)).drew tb mb X0 T' M' (.returned (.bool true)) w4) : After w tb mb cb w3.heap.size T T' M M' s w4 := by
  obtain ⟨_, ⟨X', h1, h2⟩, ⟨s', h3, h4⟩, h5⟩ := hp
  have Ba := ((Below.refl w3.heap.size w3).alloc (Nat.le_refl _) (.cells (mC T s) TT)).drew
  have hBa := (hBw.alloc hBw.size (.cells (mC T s) TT)).drew
  have hma := (Ba.block _ (Array.getElem?_eq_some_iff.1 hm).1).trans hm
  have hKa : Kinds (w3.alloc (.cells (mC T s) TT)).drew X0 := hK0.kept (X := X0) (Y := []) (.of_below Ba) (fun i _ h => by cases h)
  have hfa : (w3.alloc (.cells (mC T s) TT)).drew.heap[w3.heap.size]? = some (.cells (mC T s) TT (0, 0)) := heap_last w3 (.cells (mC T s) TT)
  have hw3 := hBw.size
  refine ⟨⟨X', h1, fun x hx => ?_⟩, ⟨s', h3, h4⟩, ⟨Xc, (hc.below Ba).kept h5 fun i hi h => ?_⟩, (h5.block _ (by simp) fun h => ?_).trans hfa, (hR.below Ba).kept2 hKa hma h5, hBa.trans (h5.to_below hBa.size fun i hi => ?_)⟩
  · rcases h2 x hx with h | h
    · exact (hX0 x h).1
    · simp at h; omega
  · have h6 := hXc i hi
    rcases List.mem_cons.1 h with e | e
    · omega
    · have := (hX0 i e).2; omega
  · rcases List.mem_cons.1 h with e | e
    · omega
    · have := (hX0 _ e).2; omega
  · rcases List.mem_cons.1 hi with e | e
    · omega
    · exact (hX0 i e).1

set_option maxHeartbeats 16000000 in
theorem VarsActs_any (w : World) (vl : Value) (A : List Ac) (lk : Bs) (hA : Acts w vl A) (hN : ∀ x ∈ A, Rd w w.heap.size x.nv (nC x.L)) (hn : A.length ≤ 60) (hl : lk.length ≤ 100) (hsum : sumA A ≤ 1000000000) :
    Calls Try.prog 3 #[vl, .string (str lk)] w fun e w' => e = .returned (.bool true) ∧ Below w.heap.size w w' := by
  obtain ⟨a, c, rfl⟩ := hA.shape
  have hk : ¬ (60 : Int) < (A.length : Int) := by omega
  have hlk : (str lk).size = lk.length := str_size _
  have hk2 : ¬ (100 : Int) < ((str lk).size : Int) := by omega
  clear hlk
  have HA := Lib.hid hA
  have HN := Lib.hid hN
  have HSum := Lib.hid hsum
  clear hA hN hsum
  go_enter Try.func3, Try.ntmps3
  go_wp2_with fail
  refine (PLives_any _).mono ?_
  rintro e w1 ⟨rfl, B1⟩
  have HB1 := Lib.hid B1
  clear B1
  go_wp2_with fail
  go_loopw [5, 35] (fun vn vi wr => CoRel w A vn vi wr) (fun _ vi _ => A.length - (intOf vi).toNat)
  case atStart => exact ⟨0, rfl, rfl, Nat.zero_le _, HB1.out⟩
  case round =>
    obtain ⟨i, rfl, rfl, hi, hB⟩ := hrel
    by_cases hlt : i < A.length
    · obtain ⟨b, o, rfl, hb, x0, x1, x2, x3, x4, x5⟩ := HA.out.at_ hlt
      have hRd := HN.out A[i] (List.getElem_mem hlt)
      have hS := sumA_take hlt
      have hS1 := sumA_le A i
      have hS2 := sumA_mem (List.getElem_mem hlt)
      have hS3 := HSum.out
      generalize A[i] = x at *
      have e := fun i => hB.cell (p := ⟨b, i, none⟩) hb
      have p0 := (e _).trans x0
      have p1 := (e _).trans x1
      have p2 := (e _).trans x2
      have p3 := (e _).trans x3
      have p4 := (e _).trans x4
      have p5 := (e _).trans x5
      obtain ⟨an, cn, hnv, hcn⟩ := names_rd hRd
      obtain ⟨xk, xv, xnv, xL⟩ := x
      dsimp only at *
      subst hnv
      have s1 : (str xv.n).size = xv.n.length := str_size _
      have s2 : (str xv.x).size = xv.x.length := str_size _
      have hki : (i : Int) < A.length := by omega
      have hk0 : (0 : Int) ≤ (i : Int) := Int.natCast_nonneg _
      have hbr : b < wr.heap.size := Nat.lt_of_lt_of_le hb hB.size
      have hw : wA ⟨xk, xv, .slice an xL.length cn, xL⟩ = xv.n.length + xv.x.length + xL.length + sumN xL := rfl
      obtain ⟨z, hz⟩ : ∃ z, sumA (A.take i) = z := ⟨_, rfl⟩
      rw [hz] at hS hS1
      rw [hw] at hS hS2
      have b1 : (str xv.n).size ≤ 1000000000 := by omega
      have b2 : (str xv.x).size ≤ 1000000000 := by omega
      have b3 : xL.length ≤ 1000000000 := by omega
      have b4 : z ≤ 1000000000 := by omega
      have HS := Lib.hid hS
      have HTot : Hid (wA ⟨xk, xv, .slice an xL.length cn, xL⟩ ≤ 1000000000) := Lib.hid (by rw [hw]; omega)
      rw [hw] at HTot
      have HKeep : Hid (∀ b2 o2, b2 < w.heap.size → (wr.alloc (.cells #[.int .u8 xk, .string (str xv.n), .string (str xv.x), .bool xv.s, .int .i64 xv.f, .slice an xL.length cn] AT)).cell? ⟨b2, o2, none⟩ = w.cell? ⟨b2, o2, none⟩) := Lib.hid fun b2 o2 h => (hB.alloc hB.size _).cell (p := ⟨b2, o2, none⟩) h
      have HBW := Lib.hid (hB.alloc hB.size (.cells #[.int .u8 xk, .string (str xv.n), .string (str xv.x), .bool xv.s, .int .i64 xv.f, .slice an xL.length cn] AT))
      have HWS : Hid (w.heap.size ≤ (wr.alloc (.cells #[.int .u8 xk, .string (str xv.n), .string (str xv.x), .bool xv.s, .int .i64 xv.f, .slice an xL.length cn] AT)).heap.size) := Lib.hid HBW.out.size
      have HRd := Lib.hid hRd
      have HS1 := Lib.hid s1
      have HS2 := Lib.hid s2
      rw [hz]
      clear x0 x1 x2 x3 x4 x5 e hS hS1 hS2 hS3 hw hz hRd s1 s2
      go_wp2_with fail
      generalize wr.alloc (.cells #[.int .u8 xk, .string (str xv.n), .string (str xv.x), .bool xv.s, .int .i64 xv.f, .slice an xL.length cn] AT) = W at *
      go_loopw [5, 57] (fun vn vj wx => InRel W xL (z + ((str xv.n).size + (str xv.x).size + xL.length)) vn vj wx) (fun _ vj _ => xL.length - (intOf vj).toNat)
      case atStart => exact ⟨0, rfl, by congr 1, Nat.zero_le _, rfl⟩
      case round =>
        obtain ⟨j, rfl, rfl, hj, rfl⟩ := hrel
        by_cases hlj : j < xL.length
        · obtain ⟨b2, o2, rfl, hb2, y0⟩ := rd_name HRd.out hlj
          have hT := sumN_take hlj
          have hT1 := sumN_le xL (j + 1)
          have hT2 := HS.out
          have hT3 := HTot.out
          have q0 := HKeep.out b2 (o2 + j) hb2
          rw [y0] at q0
          obtain ⟨y, hy⟩ : ∃ y, xL[j] = y := ⟨_, rfl⟩
          rw [hy] at hT q0
          have s3 : (str y).size = y.length := str_size _
          have hbw : b2 < wr.heap.size := Nat.lt_of_lt_of_le hb2 HWS.out
          have hkj : (j : Int) < xL.length := by omega
          have hk1 : (0 : Int) ≤ (j : Int) := Int.natCast_nonneg _
          obtain ⟨u, hu⟩ : ∃ u, sumN (xL.take j) = u := ⟨_, rfl⟩
          rw [hu] at hT ⊢
          have b5 : u ≤ 1000000000 := by omega
          have b6 : (str y).size ≤ 1000000000 := by omega
          have HT := Lib.hid hT
          have HS3 := Lib.hid s3
          clear hT hT1 hT2 hT3 y0 hy hu s3
          go_wp2_with fail
          go_roundw
          case rel => exact ⟨j + 1, by go_num, by rw [HT.out, ← HS3.out]; congr 1; push_cast; omega, hlj, rfl⟩
          case measure => simp [intOf]; omega
        · obtain rfl : j = xL.length := by omega
          have hkj : ¬ (xL.length : Int) < xL.length := by omega
          have hT := HS.out
          rw [List.take_length]
          have HS' : Hid (sumA (A.take (i + 1)) = z + ((str xv.n).size + (str xv.x).size + xL.length) + sumN xL) := Lib.hid (by rw [hT, HS1.out, HS2.out]; omega)
          clear hT
          go_wp2_with fail
          go_roundw
          case rel => exact ⟨i + 1, by go_num, by rw [HS'.out], hlt, HBW.out⟩
          case measure => simp [intOf]; omega
    · obtain rfl : i = A.length := by omega
      have hki : ¬ (A.length : Int) < A.length := by omega
      rw [List.take_length]
      by_cases hbig : 5000 < sumA A
      · have hkb : (5000 : Int) < (sumA A : Int) := by omega
        have HB := Lib.hid hB
        clear hB HB1
        go_wp2_with fail
        go_ret
        exact ⟨rfl, HB.out⟩
      · have hkb : ¬ (5000 : Int) < (sumA A : Int) := by omega
        have HB := Lib.hid hB
        have HSmall : Hid (sumA A ≤ 5000) := Lib.hid (by omega)
        clear hB HB1 hbig
        go_wp2_with fail
        refine (PNew_any _).mono ?_
        rintro e w2 ⟨rfl, hT2, B2⟩
        have hBx := HB.out.trans (B2.mono HB.out.size)
        have Ba := (Below.refl w2.heap.size w2).alloc (Nat.le_refl _) (.cells #[.slice none 0 0, .slice none 0 0, .slice none 0 0, .bool false] TT)
        have HStart : Hid (LRel w A wr.heap.size w2.heap.size (.int .i64 0) (w2.alloc (.cells #[.slice none 0 0, .slice none 0 0, .slice none 0 0, .bool false] TT))) := Lib.hid ⟨0, Jp.new, [], ⟨none, 0, none, 0, none, 0⟩, [wr.heap.size], rfl, Nat.zero_le _, hT2.below Ba, heap_last _ _, ⟨World.ownsRow_nil _ _ _ _, World.ownsRow_nil _ _ _ _, World.ownsRow_nil _ _ _ _⟩, Agree.new, Sz.new, fun i hi => by rw [List.mem_singleton.1 hi]; exact HB.out.size, hBx.size, hBx.alloc hBx.size _⟩
        clear hT2 hBx Ba B2 HB
        go_wp2_with fail
        generalize wr.heap.size = tb at *
        generalize w2.alloc (.cells #[.slice none 0 0, .slice none 0 0, .slice none 0 0, .bool false] TT) = W0 at *
        generalize w2.heap.size = mb at *
        go_loopw [73] (fun vi wx => LRel w A tb mb vi wx) (fun vi _ => A.length - (intOf vi).toNat)
        case atStart => exact HStart.out
        case round =>
          obtain ⟨i, T, M, s, X, rfl, hi, hT, hm, hR, hAg, hSz, hX, hmb, hB⟩ := hrel
          clear HStart
          by_cases hlt : i < A.length
          · obtain ⟨X0, hT0, hK0, hX0⟩ := hT.shrink
            have hX0' : ∀ j ∈ X0, w.heap.size ≤ j ∧ j < wr.heap.size := fun j hj => ⟨hX j (hX0 j hj), hK0.lt j hj⟩
            obtain ⟨b, o, rfl, hb, x0, x1, x2, x3, x4, x5⟩ := HA.out.at_ hlt
            have hRd := HN.out A[i] (List.getElem_mem hlt)
            have hwA := Nat.le_trans (sumA_mem (List.getElem_mem hlt)) HSmall.out
            generalize A[i] = x at *
            obtain ⟨xk, xv, xnv, xL⟩ := x
            dsimp only at *
            obtain ⟨an, cn, hnv, hcn⟩ := names_rd hRd
            subst hnv
            have hw : wA ⟨xk, xv, .slice an xL.length cn, xL⟩ = xv.n.length + xv.x.length + xL.length + sumN xL := rfl
            rw [hw] at hwA
            have hnames : ∀ y ∈ xL, y.length ≤ 1000000 := fun y hy => by have := sumN_mem hy; omega
            have e := fun i => hB.cell (p := ⟨b, i, none⟩) hb
            have p0 := (e _).trans x0
            have p1 := (e _).trans x1
            have p2 := (e _).trans x2
            have p3 := (e _).trans x3
            have p4 := (e _).trans x4
            have p5 := (e _).trans x5
            have hki : (i : Int) < A.length := by omega
            have hk0 : (0 : Int) ≤ (i : Int) := Int.natCast_nonneg _
            have hbr : b < wr.heap.size := Nat.lt_of_lt_of_le hb hB.size
            have hi60 : i + 1 ≤ 60 := by omega
            have hml := (Array.getElem?_eq_some_iff.1 hm).1
            have hFit : Fit T xv := ⟨by have := hSz.l; omega, by have := hSz.yes; omega, by have := hSz.no; omega, by omega, by omega, fun o ho => by have := (hSz.t o ho).1; omega⟩
            have hSz2 := hSz.step xk (v := xv) (L := xL) (by omega) (by omega) (by omega)
            have hAg2 := hAg.act xk xv xL
            have Ba := (Below.refl wr.heap.size wr).alloc (Nat.le_refl _) (.cells #[.int .u8 xk, .string (str xv.n), .string (str xv.x), .bool xv.s, .int .i64 xv.f, .slice an xL.length cn] AT)
            have hax := heap_last wr (.cells #[.int .u8 xk, .string (str xv.n), .string (str xv.x), .bool xv.s, .int .i64 xv.f, .slice an xL.length cn] AT)
            have HClone := Lib.hid (PClone_any _ (hT0.below Ba) (by have := hSz.l; omega) (fun v hv => by have := (hSz.t v hv).2; omega))
            have HT0 := Lib.hid (hT0.below Ba)
            have HK0 : Hid (Kinds (wr.alloc (.cells #[.int .u8 xk, .string (str xv.n), .string (str xv.x), .bool xv.s, .int .i64 xv.f, .slice an xL.length cn] AT)) X0) := Lib.hid (hK0.kept (Y := []) (.of_below Ba) (fun i _ h => by cases h))
            have hma := (Ba.block _ hml).trans hm
            have HR := Lib.hid (hR.below Ba)
            have HBa := Lib.hid (hB.alloc hB.size (.cells #[.int .u8 xk, .string (str xv.n), .string (str xv.x), .bool xv.s, .int .i64 xv.f, .slice an xL.length cn] AT))
            have HM := Lib.hid hma
            have HAx := Lib.hid hax
            have HX0 := Lib.hid hX0'
            have HRd := Lib.hid hRd
            have HSz := Lib.hid hSz
            have HSz2 := Lib.hid hSz2
            have HAg := Lib.hid hAg
            have HAg2 := Lib.hid hAg2
            have HFit := Lib.hid hFit
            have HNm := Lib.hid hnames
            have hsz1 : wr.heap.size ≤ (wr.alloc (.cells #[.int .u8 xk, .string (str xv.n), .string (str xv.x), .bool xv.s, .int .i64 xv.f, .slice an xL.length cn] AT)).heap.size := by simp
            have HwA := Lib.hid hwA
            clear hT hT0 hK0 hX0 hX0' hX hm hR hAg hSz hB x0 x1 x2 x3 x4 x5 e hRd hwA hw hnames hFit hSz2 hAg2 Ba hax hma
            go_wp2_with fail
            generalize hW1 : wr.alloc (.cells #[.int .u8 xk, .string (str xv.n), .string (str xv.x), .bool xv.s, .int .i64 xv.f, .slice an xL.length cn] AT) = W1 at *
            refine HClone.out.mono ?_
            rintro e w3 ⟨cb, Xc, rfl, hTc, hXc, B3⟩
            have hm3 := (B3.block _ (Array.getElem?_eq_some_iff.1 HM.out).1).trans HM.out
            have hax3 := (B3.block _ (Array.getElem?_eq_some_iff.1 HAx.out).1).trans HAx.out
            have m0 := cell_at (i := 0) hm3 rfl
            have m1 := cell_at (i := 1) hm3 rfl
            have m2 := cell_at (i := 2) hm3 rfl
            have m3 := cell_at (i := 3) hm3 rfl
            simp only [mC] at m0 m1 m2 m3
            have ml3 := (Array.getElem?_eq_some_iff.1 hm3).1
            have hs3 := B3.size
            have HR3 := Lib.hid (HR.out.below B3)
            have HT3 := Lib.hid (HT0.out.below B3)
            have HK3 : Hid (Kinds w3 X0) := Lib.hid (HK0.out.kept (Y := []) (.of_below B3) (fun i _ h => by cases h))
            have HBw3 := Lib.hid (HBa.out.trans (B3.mono HBa.out.size))
            have HTc := Lib.hid hTc
            have HXc : Hid (∀ i ∈ Xc, wr.heap.size ≤ i) := Lib.hid fun i hi => Nat.le_trans hsz1 (hXc i hi)
            have HM3 := Lib.hid hm3
            have HAx3 := Lib.hid hax3
            clear HClone HT0 HK0 HR HBa HM HAx hTc hXc B3 hm3 hax3 p0 p1 p2 p3 p4 p5
            have Bq := ((Below.refl w3.heap.size w3).alloc (Nat.le_refl _) (.cells #[.slice s.a0 T.l.length s.c0, .slice s.a1 T.yes.length s.c1, .slice s.a2 T.no.length s.c2, .bool T.all] TT)).drew
            have HRq : Hid (Rd (w3.alloc (.cells #[.slice s.a0 T.l.length s.c0, .slice s.a1 T.yes.length s.c1, .slice s.a2 T.no.length s.c2, .bool T.all] TT)).drew w.heap.size (.slice an xL.length cn) (nC xL)) := Lib.hid (HRd.out.keep fun b o h => (HBw3.out.trans (Bq.mono HBw3.out.size)).cell (p := ⟨b, o, none⟩) h)
            have HDo := Lib.hid (do_any (w3.alloc (.cells #[.slice s.a0 T.l.length s.c0, .slice s.a1 T.yes.length s.c1, .slice s.a2 T.no.length s.c2, .bool T.all] TT)).drew xk xv (.slice an xL.length cn) (HT3.out.below Bq) ((Bq.block _ ml3).trans HM3.out) (HR3.out.below Bq) HFit.out xL w.heap.size (5000 * i) HRq.out (fun i hi => (HX0.out i hi).1) hmb (Nat.le_trans HBw3.out.size Bq.size) HSz.out.m HSz.out.yes HSz.out.no (by have := HwA.out; omega) HNm.out)
            have HAfter := Lib.hid (fun (w4 : World) (hp : DPost (w3.alloc (.cells #[.slice s.a0 T.l.length s.c0, .slice s.a1 T.yes.length s.c1, .slice s.a2 T.no.length s.c2, .bool T.all] TT)).drew tb mb X0 (actT T xk xv xL) (actM M xk xL) (.returned (.bool true)) w4) => After.do_ (M := M) (T' := actT T xk xv xL) (M' := actM M xk xL) (w4 := w4) HBw3.out (Nat.le_trans hsz1 hs3) HX0.out HK3.out HM3.out hml hmb HR3.out HTc.out HXc.out hp)
            have q0 : (w3.alloc (.cells #[.slice s.a0 T.l.length s.c0, .slice s.a1 T.yes.length s.c1, .slice s.a2 T.no.length s.c2, .bool T.all] TT)).drew.cell? ⟨wr.heap.size, 0, none⟩ = some (.int .u8 xk) := cell_at (i := 0) ((Bq.block _ (Array.getElem?_eq_some_iff.1 HAx3.out).1).trans HAx3.out) rfl
            have q1 : (w3.alloc (.cells #[.slice s.a0 T.l.length s.c0, .slice s.a1 T.yes.length s.c1, .slice s.a2 T.no.length s.c2, .bool T.all] TT)).drew.cell? ⟨wr.heap.size, 1, none⟩ = some (.string (str xv.n)) := cell_at (i := 1) ((Bq.block _ (Array.getElem?_eq_some_iff.1 HAx3.out).1).trans HAx3.out) rfl
            have q2 : (w3.alloc (.cells #[.slice s.a0 T.l.length s.c0, .slice s.a1 T.yes.length s.c1, .slice s.a2 T.no.length s.c2, .bool T.all] TT)).drew.cell? ⟨wr.heap.size, 2, none⟩ = some (.string (str xv.x)) := cell_at (i := 2) ((Bq.block _ (Array.getElem?_eq_some_iff.1 HAx3.out).1).trans HAx3.out) rfl
            have q3 : (w3.alloc (.cells #[.slice s.a0 T.l.length s.c0, .slice s.a1 T.yes.length s.c1, .slice s.a2 T.no.length s.c2, .bool T.all] TT)).drew.cell? ⟨wr.heap.size, 3, none⟩ = some (.bool xv.s) := cell_at (i := 3) ((Bq.block _ (Array.getElem?_eq_some_iff.1 HAx3.out).1).trans HAx3.out) rfl
            have q4 : (w3.alloc (.cells #[.slice s.a0 T.l.length s.c0, .slice s.a1 T.yes.length s.c1, .slice s.a2 T.no.length s.c2, .bool T.all] TT)).drew.cell? ⟨wr.heap.size, 4, none⟩ = some (.int .i64 xv.f) := cell_at (i := 4) ((Bq.block _ (Array.getElem?_eq_some_iff.1 HAx3.out).1).trans HAx3.out) rfl
            have q5 : (w3.alloc (.cells #[.slice s.a0 T.l.length s.c0, .slice s.a1 T.yes.length s.c1, .slice s.a2 T.no.length s.c2, .bool T.all] TT)).drew.cell? ⟨wr.heap.size, 5, none⟩ = some (.slice an xL.length cn) := cell_at (i := 5) ((Bq.block _ (Array.getElem?_eq_some_iff.1 HAx3.out).1).trans HAx3.out) rfl
            clear Bq HRq HFit
            generalize actT T xk xv xL = T' at *
            generalize actM M xk xL = M' at *
            go_upto_region 22 with (fail)
            go_cut [100] (fun v wx => v = .bool false ∧ After w tb mb cb w3.heap.size T T' M M' s wx)
            case first =>
              generalize hW3 : (w3.alloc (.cells #[.slice s.a0 T.l.length s.c0, .slice s.a1 T.yes.length s.c1, .slice s.a2 T.no.length s.c2, .bool T.all] TT)) = W3 at *
              go_region_with (first
                | (go_at_call 8; go_loud (refine HDo.out.mono ?_; rintro e w4 hd; obtain ⟨rfl, hd2⟩ := hd; have HAf := Lib.hid (HAfter.out w4 ⟨rfl, hd2⟩)); clear hd2; obtain ⟨X4, hT4, hX4⟩ := HAf.out.tab; obtain ⟨s', hm4, hR4⟩ := HAf.out.m
                   have HT4 := Lib.hid hT4
                   have HR4 := Lib.hid hR4
                   have HC := Lib.hid (show ∀ W, Below w4.heap.size w4 W → W.cell? ⟨mb, 0, none⟩ = some (.slice s'.a0 T'.l.length s'.c0) ∧ W.cell? ⟨mb, 1, none⟩ = some (.slice s'.a1 T'.yes.length s'.c1) ∧ W.cell? ⟨mb, 2, none⟩ = some (.slice s'.a2 T'.no.length s'.c2) ∧ W.cell? ⟨mb, 3, none⟩ = some (.bool T'.all) from fun W h => ⟨cell_at (i := 0) ((h.block _ (Array.getElem?_eq_some_iff.1 hm4).1).trans hm4) rfl, cell_at (i := 1) ((h.block _ (Array.getElem?_eq_some_iff.1 hm4).1).trans hm4) rfl, cell_at (i := 2) ((h.block _ (Array.getElem?_eq_some_iff.1 hm4).1).trans hm4) rfl, cell_at (i := 3) ((h.block _ (Array.getElem?_eq_some_iff.1 hm4).1).trans hm4) rfl⟩)
                   obtain ⟨m0, m1, m2, m3⟩ := HC.out w4 (Below.refl _ _)
                   clear hT4 hX4 hm4 hR4)
                | (go_at_call 10; refine (PAll_any _ HT4.out (by have := HSz2.out.l; omega) (fun v hv => by have := (HSz2.out.t v hv).2; omega)).mono ?_; rintro e w5 ⟨va, rfl, hra, B5⟩; obtain ⟨aa, ca, rfl⟩ := owns_slice hra
                   have HSa := Lib.hid (Same_any w5 hra (HR4.out.below B5).l (by have := HSz2.out.l; omega))
                   obtain ⟨m0, m1, m2, m3⟩ := HC.out w5 B5
                   clear hra)
                | (go_at_call 9; refine HSa.out.mono ?_; rintro e w6 ⟨rfl, B6⟩
                   have D6 := B5.trans (B6.mono B5.size)
                   obtain ⟨m0, m1, m2, m3⟩ := HC.out w6 D6
                   clear HSa)
                | (go_at_call 11; refine (PExports_any _ (HT4.out.below D6) (by have := HSz2.out.l; omega) (fun v hv => by have := (HSz2.out.t v hv).2; omega)).mono ?_; rintro e w7 ⟨ve, rfl, hre, B7⟩; rw [HAg2.out.exports] at hre; obtain ⟨ae, ce, rfl⟩ := owns_slice hre
                   have D7 := D6.trans (B7.mono D6.size)
                   obtain ⟨m0, m1, m2, m3⟩ := HC.out w7 D7
                   have HRe := Lib.hid hre
                   clear hre)
                | (go_at_call 12; refine (Exports_any _ 0 _ _ _ _ _ _ T' (HR4.out.below D7).l (HR4.out.below D7).yes (HR4.out.below D7).no (by have := HSz2.out.l; omega) (by have := HSz2.out.yes; omega) (by have := HSz2.out.no; omega)).mono ?_; rintro e w8 ⟨vx, rfl, hrx, B8⟩; obtain ⟨ax, cx, rfl⟩ := owns_slice hrx
                   have D8 := D7.trans (B8.mono D7.size)
                   have HSb := Lib.hid (Same_any w8 (owns_below HRe.out B8) hrx (by have := exportsA_len T'; have := HSz2.out.l; omega))
                   clear hrx)
                | (go_at_call 9; refine HSb.out.mono ?_; rintro e w9 ⟨rfl, B9⟩
                   have D9 := D8.trans (B9.mono D8.size)))
              all_goals go_wp2_with fail
              all_goals go_meet
              all_goals exact ⟨rfl, HAf.out.on D9⟩
            case rest =>
              obtain ⟨rfl, hAf⟩ := hcut
              have hwz : w3.heap.size < wc.heap.size := (Array.getElem?_eq_some_iff.1 hAf.f).1
              have HAf := Lib.hid hAf
              clear hAf HDo HAfter q0 q1 q2 q3 q4 q5 m0 m1 m2 m3 HR3 HT3 HK3 HTc HXc HM3 HAx3 HX0
              go_upto_region 24 with (fail)
              go_cut [119] (fun v wx => v = .bool false ∧ After w tb mb cb w3.heap.size T T' M M' s wx)
              case first =>
                obtain ⟨Xc', hTc'⟩ := HAf.out.c
                have HTc := Lib.hid hTc'
                have HRf := Lib.hid HAf.out.fr
                have HFC := Lib.hid (show ∀ W, Below wc.heap.size wc W → W.cell? ⟨w3.heap.size, 0, none⟩ = some (.slice s.a0 T.l.length s.c0) ∧ W.cell? ⟨w3.heap.size, 1, none⟩ = some (.slice s.a1 T.yes.length s.c1) ∧ W.cell? ⟨w3.heap.size, 2, none⟩ = some (.slice s.a2 T.no.length s.c2) ∧ W.cell? ⟨w3.heap.size, 3, none⟩ = some (.bool T.all) from fun W h => ⟨cell_at (i := 0) ((HAf.out.on h).f) rfl, cell_at (i := 1) ((HAf.out.on h).f) rfl, cell_at (i := 2) ((HAf.out.on h).f) rfl, cell_at (i := 3) ((HAf.out.on h).f) rfl⟩)
                have D0 : Below wc.heap.size wc wc.drew := (Below.refl _ _).drew
                obtain ⟨m0, m1, m2, m3⟩ := HFC.out _ D0
                clear hTc'
                by_cases h7 : i % 7 = 0
                · have hrem := rem7 i 0 h7
                  clear h7
                  go_region_held3 (fun W : World => W.cell? ⟨w3.heap.size, 0, none⟩ = some (.slice s.a0 T.l.length s.c0) ∧ W.cell? ⟨w3.heap.size, 1, none⟩ = some (.slice s.a1 T.yes.length s.c1) ∧ W.cell? ⟨w3.heap.size, 2, none⟩ = some (.slice s.a2 T.no.length s.c2) ∧ W.cell? ⟨w3.heap.size, 3, none⟩ = some (.bool T.all))
                    ((refine HFC.out _ ?_; first | exact D0 | exact D5 | exact D6 | exact D7 | exact D8 | exact D9))
                    (first
                      | (go_at_call 10; refine (PAll_any _ (HTc.out.below D0) (by have := HSz.out.l; omega) (fun v hv => by have := (HSz.out.t v hv).2; omega)).mono ?_; rintro e w5 ⟨va, rfl, hra, B5⟩; obtain ⟨aa, ca, rfl⟩ := owns_slice hra
                         have D5 := D0.trans (B5.mono D0.size)
                         have HSa := Lib.hid (Same_any w5 hra (HRf.out.below D5).l (by have := HSz.out.l; omega))
                         clear hra)
                      | (go_at_call 9; refine HSa.out.mono ?_; rintro e w6 ⟨rfl, B6⟩
                         have D6 := D5.trans (B6.mono D5.size)
                         clear HSa)
                      | (go_at_call 11; refine (PExports_any _ (HTc.out.below D6) (by have := HSz.out.l; omega) (fun v hv => by have := (HSz.out.t v hv).2; omega)).mono ?_; rintro e w7 ⟨ve, rfl, hre, B7⟩; rw [HAg.out.exports] at hre; obtain ⟨ae, ce, rfl⟩ := owns_slice hre
                         have D7 := D6.trans (B7.mono D6.size)
                         have HRe := Lib.hid hre
                         clear hre)
                      | (go_at_call 12; refine (Exports_any _ 0 _ _ _ _ _ _ T (HRf.out.below D7).l (HRf.out.below D7).yes (HRf.out.below D7).no (by have := HSz.out.l; omega) (by have := HSz.out.yes; omega) (by have := HSz.out.no; omega)).mono ?_; rintro e w8 ⟨vx, rfl, hrx, B8⟩; obtain ⟨ax, cx, rfl⟩ := owns_slice hrx
                         have D8 := D7.trans (B8.mono D7.size)
                         have HSb := Lib.hid (Same_any w8 (owns_below HRe.out B8) hrx (by have := exportsA_len T; have := HSz.out.l; omega))
                         clear hrx)
                      | (go_at_call 9; refine HSb.out.mono ?_; rintro e w9 ⟨rfl, B9⟩
                         have D9 := D8.trans (B9.mono D8.size)))
                  all_goals go_wp2_with fail
                  all_goals go_meet
                  all_goals exact ⟨rfl, HAf.out.on D9⟩
                · have h7' : i % 7 = 1 ∨ i % 7 = 2 ∨ i % 7 = 3 ∨ i % 7 = 4 ∨ i % 7 = 5 ∨ i % 7 = 6 := by omega
                  have HA2 := Lib.hid (fun n => HAf.out.on (W' := wc.drewN n) ⟨rfl, rfl, rfl, Nat.le_refl _, fun _ _ => rfl⟩)
                  clear h7 m0 m1 m2 m3 D0
                  rcases h7' with h7 | h7 | h7 | h7 | h7 | h7
                  all_goals
                    have hrem := rem7 i _ h7
                    clear h7
                    go_quiet (fail)
                    go_wp2_with fail
                    go_meet
                    exact ⟨rfl, HA2.out _⟩
              case rest =>
                obtain ⟨rfl, hAf⟩ := hcut
                have hBc := hAf.below
                obtain ⟨X2, hT2, hX2⟩ := hAf.tab
                obtain ⟨s2, hm2, hR2⟩ := hAf.m
                clear hAf HAf hwz
                obtain ⟨u, hu⟩ := gV_is (Jp.getA T'.l lk)
                obtain ⟨bb, hbb⟩ : ∃ bb, (Jp.getA T'.l lk).isSome = bb := ⟨_, rfl⟩
                rw [hbb] at hu
                clear hbb
                have HG := Lib.hid (PGet_any wc hT2 (str lk) (by rw [str_size]; unfold maxLen; omega))
                have HGr := Lib.hid (fun W (h : Below wc.heap.size wc W) => Get_any W 0 (.slice s2.a0 T'.l.length s2.c0) (.slice s2.a1 T'.yes.length s2.c1) (.slice s2.a2 T'.no.length s2.c2) T'.all T'.l lk (hR2.below h).l (by have := HSz2.out.l; omega))
                rw [by8_str, hu] at HG
                rw [hu] at HGr
                unfold vA at HG HGr
                have HT2 := Lib.hid hT2
                have HX2 := Lib.hid hX2
                have HM2 := Lib.hid hm2
                have HR2 := Lib.hid hR2
                have HBc := Lib.hid hBc
                have HOf := Lib.hid (fun W => Of_any W u)
                unfold vA at HOf
                have hq := fun W => neq_var u W
                have hbb : (bb != bb) = false := by cases bb <;> rfl
                clear hu hT2 hX2 hm2 hR2 hBc
                go_wp2_with fail
                refine HG.out.mono ?_
                rintro e w10 ⟨rfl, B10⟩
                have hm3 := (B10.block _ (Array.getElem?_eq_some_iff.1 HM2.out).1).trans HM2.out
                have m0 := cell_at (i := 0) hm3 rfl
                have m1 := cell_at (i := 1) hm3 rfl
                have m2 := cell_at (i := 2) hm3 rfl
                have m3 := cell_at (i := 3) hm3 rfl
                simp only [mC] at m0 m1 m2 m3
                have hml3 := (Array.getElem?_eq_some_iff.1 hm3).1
                have HB10 := Lib.hid B10
                clear B10 hm3 HG
                go_wp2_with fail
                refine (HGr.out _ (HB10.out.alloc HB10.out.size _)).mono ?_
                rintro e w11 ⟨rfl, B11⟩
                have hp := (B11.block w10.heap.size (by simp)).trans (heap_last w10 (.cells #[.string (str u.n), .string (str u.x), .bool u.s, .int .i64 u.f] PV))
                have hs11 : w10.heap.size < w11.heap.size := (Array.getElem?_eq_some_iff.1 hp).1
                have Bq := (Below.refl w11.heap.size w11).alloc (Nat.le_refl _) (.cells #[.string (str u.n), .string (str u.x), .bool u.s, .int .i64 u.f] VT)
                have hp2 := (Bq.block _ hs11).trans hp
                have hv2 := heap_last w11 (.cells #[.string (str u.n), .string (str u.x), .bool u.s, .int .i64 u.f] VT)
                have HC8 := Lib.hid (show ∀ W, Below (w11.alloc (.cells #[.string (str u.n), .string (str u.x), .bool u.s, .int .i64 u.f] VT)).heap.size (w11.alloc (.cells #[.string (str u.n), .string (str u.x), .bool u.s, .int .i64 u.f] VT)) W → W.cell? ⟨w10.heap.size, 0, none⟩ = some (.string (str u.n)) ∧ W.cell? ⟨w10.heap.size, 1, none⟩ = some (.string (str u.x)) ∧ W.cell? ⟨w10.heap.size, 2, none⟩ = some (.bool u.s) ∧ W.cell? ⟨w10.heap.size, 3, none⟩ = some (.int .i64 u.f) ∧ W.cell? ⟨w11.heap.size, 0, none⟩ = some (.string (str u.n)) ∧ W.cell? ⟨w11.heap.size, 1, none⟩ = some (.string (str u.x)) ∧ W.cell? ⟨w11.heap.size, 2, none⟩ = some (.bool u.s) ∧ W.cell? ⟨w11.heap.size, 3, none⟩ = some (.int .i64 u.f) from fun W h => by
                  have e1 := (h.block _ (Array.getElem?_eq_some_iff.1 hp2).1).trans hp2
                  have e2 := (h.block _ (Array.getElem?_eq_some_iff.1 hv2).1).trans hv2
                  exact ⟨cell_at (i := 0) e1 rfl, cell_at (i := 1) e1 rfl, cell_at (i := 2) e1 rfl, cell_at (i := 3) e1 rfl, cell_at (i := 0) e2 rfl, cell_at (i := 1) e2 rfl, cell_at (i := 2) e2 rfl, cell_at (i := 3) e2 rfl⟩)
                have HBE := Lib.hid (((HB10.out.alloc HB10.out.size (.cells #[.string (str u.n), .string (str u.x), .bool u.s, .int .i64 u.f] PV)).trans (B11.mono (HB10.out.alloc HB10.out.size (.cells #[.string (str u.n), .string (str u.x), .bool u.s, .int .i64 u.f] PV)).size)).alloc ((HB10.out.alloc HB10.out.size (.cells #[.string (str u.n), .string (str u.x), .bool u.s, .int .i64 u.f] PV)).trans (B11.mono (HB10.out.alloc HB10.out.size (.cells #[.string (str u.n), .string (str u.x), .bool u.s, .int .i64 u.f] PV)).size)).size (.cells #[.string (str u.n), .string (str u.x), .bool u.s, .int .i64 u.f] VT))
                clear hp Bq hp2 hv2 HB10 B11 HGr m0 m1 m2 m3
                go_upto_region 28 with (fail)
                generalize w11.alloc (.cells #[.string (str u.n), .string (str u.x), .bool u.s, .int .i64 u.f] VT) = W5 at *
                have D0 : Below W5.heap.size W5 W5.drew := (Below.refl _ _).drew
                obtain ⟨k0, k1, k2, k3, l0, l1, l2, l3⟩ := HC8.out _ D0
                go_region_held3 (fun W : World => W.cell? ⟨w10.heap.size, 0, none⟩ = some (.string (str u.n)) ∧ W.cell? ⟨w10.heap.size, 1, none⟩ = some (.string (str u.x)) ∧ W.cell? ⟨w10.heap.size, 2, none⟩ = some (.bool u.s) ∧ W.cell? ⟨w10.heap.size, 3, none⟩ = some (.int .i64 u.f) ∧ W.cell? ⟨w11.heap.size, 0, none⟩ = some (.string (str u.n)) ∧ W.cell? ⟨w11.heap.size, 1, none⟩ = some (.string (str u.x)) ∧ W.cell? ⟨w11.heap.size, 2, none⟩ = some (.bool u.s) ∧ W.cell? ⟨w11.heap.size, 3, none⟩ = some (.int .i64 u.f))
                  ((refine HC8.out _ ?_; first | exact D0 | exact D1))
                  (first
                    | (go_at_call 15; refine (HOf.out _).mono ?_; rintro e w12 ⟨rfl, B12⟩; have D1 := D0.trans (B12.mono D0.size)))
                all_goals go_wp2_with fail
                all_goals go_roundw
                all_goals first
                  | (have hE := HBE.out.trans (D1.mono HBE.out.size)
                     exact ⟨i + 1, T', M', s2, X2, by go_num, hlt, HT2.out.below hE, (hE.block _ (Array.getElem?_eq_some_iff.1 HM2.out).1).trans HM2.out, HR2.out.below hE, HAg2.out, HSz2.out, HX2.out, hmb, HBc.out.trans (hE.mono HBc.out.size)⟩)
                  | (simp [intOf]; omega)
          · obtain rfl : i = A.length := by omega
            have hki : ¬ (A.length : Int) < A.length := by omega
            have HB := Lib.hid hB
            clear hT hm hR hAg hSz hX hB
            go_wp2_with fail
            go_ret
            exact ⟨rfl, HB.out⟩
end Go.Proofs.Ytfbddbcedoofeaa.Jw
