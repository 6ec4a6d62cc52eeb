/-
  flatironref08.Of: the lines, as the document's answer has them.
-/
import Derived.Deep.RegionHeld3
import Derived.Deep.DeepCutAuto
import Derived.Test.YtgncnffejennfaaDoorIRRows
namespace Go.Proofs.YtgncnffejennfaaDoor.Iw
open Go.RowKit Go.Proofs.YtgncnffejennfaaDoor Go.Proofs.YtgncnffejennfaaDoor.Ww
set_option maxRecDepth 100000

abbrev RL : TypeId := 29
theorem infoRL : (Tryd.prog.info? RL).map (fun i => (i.zero, i.size, i.bytes)) = some (some (.agg #[.int .i64 0, .string ByteArray.empty, .bool false]), 3, 32) := by kernel_rfl
/-- A line's three cells. -/
def lineC (x : Ip.L) : List Value := [.int .i64 (x.n : Int), .string (str x.t), .bool x.q]
def linesC (l : List Ip.L) : List Value := l.flatMap lineC
theorem linesC_app (a b : List Ip.L) : linesC (a ++ b) = linesC a ++ linesC b := by simp [linesC]
theorem linesC_len (l : List Ip.L) : (linesC l).length = l.length * 3 := by
  induction l with
  | nil => rfl
  | cons x l ih => rw [List.length_cons, show linesC (x :: l) = lineC x ++ linesC l from rfl, List.length_append, ih]; show 3 + _ = _; omega
theorem rows_ne {w : World} {b1 b2 : Nat} {e1 e2 : TypeId} {s1 s2 : Nat} {v1 v2 : Value} {n1 n2 : Nat} {x1 x2 : List Value} (h1 : w.ownsRow b1 e1 s1 v1 n1 x1) (h2 : w.ownsRow b2 e2 s2 v2 n2 x2) (hne : e1 ≠ e2) : v1.ownBlock = none ∨ v1.ownBlock ≠ v2.ownBlock := by
  rcases h1.2 with ⟨rfl, _⟩ | ⟨g, cap, cur, rfl, _, hg, _⟩
  · exact .inl rfl
  · refine .inr fun e => ?_
    rcases h2.2 with ⟨rfl, _⟩ | ⟨g', cap', cur', rfl, _, hg', _⟩
    · cases e
    · have : g = g' := by simpa [Value.ownBlock] using e
      subst this
      rw [hg] at hg'
      cases hg'
      exact hne rfl
theorem tab_no {x : ByteArray} (h : ¬ 0 < x.size) : Ip.tab (by8 x) = false := by
  rw [by8_nil (by omega)]; rfl
theorem tab_is {x : ByteArray} (h : 0 < x.size) : Ip.tab (by8 x) = decide (x[0] = 9) := by
  unfold Ip.tab
  have := by8_at h
  rw [List.drop_zero] at this
  rw [this, List.head?_cons]
  by_cases h9 : x[0] = 9
  · rw [h9]; rfl
  · rw [decide_eq_false h9, beq_eq_false_iff_ne]; simpa using h9

theorem more_end (x : ByteArray) {R : List Bs} (h : R = []) : Ip.more (by8 x) R = false := by subst h; rfl
theorem more_is {x : ByteArray} {n : Nat} (hn : x.size = n + 1) {R : List Bs} (h : R ≠ []) : Ip.more (by8 x) R = decide (x[n]'(by omega) = 92) := by
  unfold Ip.more
  have hl : (by8 x).getLast? = some (x[n]'(by omega)) := by
    rw [List.getLast?_eq_getElem?, by8_len, show x.size - 1 = n by omega]
    exact by8_get (by omega)
  have hR : R.isEmpty = false := by cases R with | nil => exact absurd rfl h | cons => rfl
  rw [hl, hR]
  by_cases h9 : x[n]'(by omega) = 92
  · rw [h9]; rfl
  · rw [decide_eq_false h9]; simpa using h9
theorem more_no {x : ByteArray} (h : ¬ 0 < x.size) (R : List Bs) : Ip.more (by8 x) R = false := by
  unfold Ip.more; rw [by8_nil (by omega)]; simp
theorem more_last {x : ByteArray} {R : List Bs} (h : Ip.more (by8 x) R = true) : ∃ a, by8 x = a ++ [92] := by
  unfold Ip.more at h
  simp only [Bool.and_eq_true, beq_iff_eq] at h
  exact List.getLast?_eq_some_iff.1 h.2
theorem add_two {acc : Bs} {t : ByteArray} (h : by8 t ≠ [] ∧ acc ≠ []) : str acc ++ ⟨#[32]⟩ ++ t = str (Ip.addA acc (by8 t)) := by
  refine by8_ext ?_
  rw [by8_add, by8_add, by8_str, by8_str]
  unfold Ip.addA
  rw [if_neg h.1, if_neg h.2]
  show acc ++ [32] ++ by8 t = _
  simp
theorem add_one {acc : Bs} {t : ByteArray} (h : ¬ (by8 t ≠ [] ∧ acc ≠ [])) : str acc ++ t = str (Ip.addA acc (by8 t)) := by
  refine by8_ext ?_
  rw [by8_add, by8_str, by8_str]
  unfold Ip.addA
  by_cases h1 : by8 t = []
  · rw [if_pos h1, h1]; simp
  · rw [if_neg h1, if_pos (Classical.not_not.1 fun h2 => h ⟨h1, h2⟩), Classical.not_not.1 fun h2 => h ⟨h1, h2⟩]; simp
theorem box_at {wr : World} {B : Nat} {a c : Value} {x : Value} (h : wr.heap[B]? = some (.cells #[a, x, c] RL (0, 0))) (y : Value) : (wr.setCell ⟨B, 1, none⟩ y).heap[B]? = some (.cells #[a, y, c] RL (0, 0)) := heap_set3 h y

theorem three_new (wr : World) (x y z : Value) (T : TypeId) : ∀ (j : Nat) (u : Value), [x, y, z][j]? = some u → (wr.alloc (.cells #[x, y, z] T)).cell? ((⟨wr.heap.size, 0, none⟩ : Addr).add j) = some u := by
  intro j u hj
  rw [Addr.add_lit, World.cell?_alloc_at _ _ _ _ (by simp)]
  match j, hj with
  | 0, hj => simpa using hj
  | 1, hj => simpa using hj
  | 2, hj => simpa using hj
theorem three_at {wr : World} {n : Nat} (h : wr.heap.size = n) (x y z : Value) (T : TypeId) : ∀ (j : Nat) (u : Value), [x, y, z][j]? = some u → (wr.alloc (.cells #[x, y, z] T)).cell? ((⟨n, 0, none⟩ : Addr).add j) = some u := by
  subst h; exact three_new wr x y z T
theorem owns_below {wr w3 : World} {base : Nat} {e : TypeId} {z : Nat} {v : Value} {n : Nat} {xs : List Value} (h : wr.ownsRow base e z v n xs) (B : Below wr.heap.size wr w3) : w3.ownsRow base e z v n xs := by
  refine ⟨h.1, ?_⟩
  rcases h.2 with h | ⟨g, cap, cur, h1, h2, h3, h4⟩
  · exact .inl h
  · exact .inr ⟨g, cap, cur, h1, h2, (B.block g (Array.getElem?_eq_some_iff.1 h3).1).trans h3, h4⟩

/-- Where a line stands, whose box is block B, and whether one more row is to come. -/
def InRel (W : World) (B i : Nat) (q : Bool) (S : Nat) (out : List ByteArray) (P T : List Ip.L) (v5 v7 : Value) (wr : World) : Prop :=
  ∃ (j : Nat) (acc : Bs) (m : Bool), v5 = .int .i64 j ∧ v7 = .bool m ∧ i ≤ j ∧ j ≤ out.length ∧ Below B W wr ∧ wr.heap[B]? = some (.cells #[.int .i64 (i + 1 : Nat), .string (str acc), .bool q] RL (0, 0)) ∧
    acc.length + Ip.tot ((out.map by8).drop j) ≤ S + 1 ∧ (m = true → j < out.length ∧ P ++ Ip.goA (j + 1) (i + 1) q acc ((out.map by8).drop j) = T) ∧
    (m = false → i < j ∧ P ++ (Ip.emit (i + 1) q acc ++ Ip.goA (j + 1) (j + 1) (Ip.tab (((out.map by8).drop j).headD [])) [] ((out.map by8).drop j)) = T)

/-- Where the lines stand, at a line's first row. -/
def OfRel (w : World) (g c : Nat) (out : List ByteArray) (T : List Ip.L) (v3 v5 : Value) (wr : World) : Prop :=
  ∃ (i : Nat) (P : List Ip.L), v5 = .int .i64 i ∧ i ≤ out.length ∧ wr.ownsRow w.heap.size RL 3 v3 P.length (linesC P) ∧ wr.ownsRow w.heap.size ST 1 (.slice (some ⟨g, 0, none⟩) out.length c) out.length (strsC out) ∧ Below w.heap.size w wr ∧ P.length ≤ i ∧
    P ++ Ip.goA (i + 1) (i + 1) (Ip.tab (((out.map by8).drop i).headD [])) [] ((out.map by8).drop i) = T

set_option maxHeartbeats 8000000 in
theorem ROf_any (w : World) (s : ByteArray) (hs : s.size ≤ 100000) :
    Calls Tryd.prog 7 #[.string s] w fun e w' => ∃ v, e = .returned v ∧ w'.ownsRow w.heap.size RL 3 v (Ip.linesA (by8 s)).length (linesC (Ip.linesA (by8 s))) ∧ Below w.heap.size w w' := by
  have HR := Lib.hid (RRows_any w s (by omega))
  go_enter Tryd.func7, Tryd.ntmps7
  go_wp2_with fail
  refine HR.out.mono ?_
  rintro e w1 ⟨out, g, c, rfl, hout, ho, hB1⟩
  have hlen : out.length ≤ s.size + 1 := by
    have := Ip.rows_len (by8 s)
    rw [← hout, List.length_map] at this
    have := List.count_le_length (a := (10 : UInt8)) (l := by8 s)
    rw [by8_len] at this; omega
  have HTOT : Hid (Ip.tot (out.map by8) = s.size + 1) := Lib.hid (by rw [hout, Ip.rows_tot, by8_len])
  have HT : Hid (Ip.linesA (by8 s) = Ip.goA 1 1 (Ip.tab ((out.map by8).headD [])) [] (out.map by8)) := Lib.hid (by rw [hout]; rfl)
  clear hout
  go_wp2_with fail
  go_loopw [3, 5] (fun v3 v5 wr => OfRel w g c out (Ip.linesA (by8 s)) v3 v5 wr) (fun _ v5 _ => out.length - (intOf v5).toNat)
  case atStart => exact ⟨0, [], rfl, Nat.zero_le _, World.ownsRow_nil _ _ _ _, ho, hB1, Nat.le_refl _, HT.out.symm⟩
  case round =>
    rename World => W0
    obtain ⟨i, P, rfl, hi, hp, ho, hB, hPi, hT⟩ := hrel
    obtain ⟨va, vc, rfl⟩ := owns_slice hp
    by_cases hlt : i < out.length
    · have hgl := (ho.lt g rfl).2
      have hcell : W0.cell? ⟨g, i, none⟩ = some (.string out[i]) := by
        rw [ho.cellAt i (by omega)]; simp [strsC, hlt]
      have hdrop : (out.map by8).drop i = by8 out[i] :: (out.map by8).drop (i + 1) := by
        rw [List.drop_eq_getElem_cons (by simpa using hlt)]; simp
      have HT : Hid (P ++ Ip.goA (i + 1) (i + 1) (Ip.tab (by8 out[i])) [] ((out.map by8).drop i) = Ip.linesA (by8 s)) := Lib.hid (by rw [← hT, hdrop]; rfl)
      have HP := Lib.hid hp
      have HO := Lib.hid ho
      have HB := Lib.hid hB
      obtain ⟨q, HQ⟩ : ∃ q, Hid (Ip.tab (by8 out[i]) = q) := ⟨_, Lib.hid rfl⟩
      rw [HQ.out] at HT
      generalize out[i] = x at *
      clear hT hdrop hp ho hB
      have hi0 : (0 : Int) ≤ (i : Int) := Int.natCast_nonneg _
      have hi1 : (i : Int) < (out.length : Int) := by omega
      go_upto_region 5 with (fail)
      go_cut [6] (fun v wx => v = .pointer (some ⟨W0.heap.size, 0, none⟩) ∧ wx = W0.alloc (.cells #[.int .i64 (i + 1 : Nat), .string ByteArray.empty, .bool q] RL))
      case first =>
        by_cases h0 : 0 < x.size
        · by_cases h9 : x[0] = 9
          · have hb : ((x[0].toNat : Int) == 9) = true := eq_true (b := 9) h9
            have HF : Hid (q = true) := Lib.hid (by rw [← HQ.out, tab_is h0, decide_eq_true h9])
            clear h9
            go_wp2_with fail
            go_meet
            exact ⟨rfl, by rw [HF.out]; rfl⟩
          · have hb : ((x[0].toNat : Int) == 9) = false := eq_false (b := 9) h9
            have HF : Hid (q = false) := Lib.hid (by rw [← HQ.out, tab_is h0, decide_eq_false h9])
            clear h9
            go_wp2_with fail
            go_meet
            exact ⟨rfl, by rw [HF.out]; rfl⟩
        · have HF : Hid (q = false) := Lib.hid (by rw [← HQ.out, tab_no h0])
          go_wp2_with fail
          go_meet
          exact ⟨rfl, by rw [HF.out]; rfl⟩
      case rest =>
        obtain ⟨rfl, rfl⟩ := hcut
        go_wp2_with fail
        go_loopw [5, 7] (fun v5 v7 wq => InRel W0 W0.heap.size i q s.size out P (Ip.linesA (by8 s)) v5 v7 wq) (fun v5 v7 _ => out.length - (intOf v5).toNat)
        case atStart =>
          refine ⟨i, [], true, rfl, rfl, Nat.le_refl _, hi, (Below.refl _ _).alloc (Nat.le_refl _) _, World.alloc_heap_new _ _, ?_, fun _ => ⟨hlt, HT.out⟩, fun h => by cases h⟩
          have := Ip.tot_drop i (out.map by8)
          rw [HTOT.out] at this
          simpa using this
        case round =>
          obtain ⟨j, acc, m, rfl, rfl, hij, hj, hBW, hbox, htot, hm1, hm0⟩ := hrel
          have hbl : W0.heap.size < wr.heap.size := (Array.getElem?_eq_some_iff.1 hbox).1
          have d1 : wr.cell? ⟨W0.heap.size, 1, none⟩ = some (.string (str acc)) := cell_at hbox rfl
          have f1 : wr.frozen? ⟨W0.heap.size, 1, none⟩ = false := frozen_at hbox _
          cases m with
          | true =>
            obtain ⟨hjl, hT⟩ := hm1 rfl
            clear hm1 hm0
            have hgq : g < W0.heap.size := hgl
            have hcq : wr.cell? ⟨g, j, none⟩ = some (.string out[j]) := by
              rw [hBW.cell (p := ⟨g, j, none⟩) hgq, HO.out.cellAt j (by omega)]; simp [strsC, hjl]
            have hdrop : (out.map by8).drop j = by8 out[j] :: (out.map by8).drop (j + 1) := by
              rw [List.drop_eq_getElem_cons (by simpa using hjl)]; simp
            rw [hdrop] at hT htot
            obtain ⟨M, HM⟩ : ∃ M, Hid (Ip.more (by8 out[j]) ((out.map by8).drop (j + 1)) = M) := ⟨_, Lib.hid rfl⟩
            have HT2 := Lib.hid hT
            have HTt : Hid (acc.length + (out[j].size + 1 + Ip.tot ((out.map by8).drop (j + 1))) ≤ s.size + 1) := Lib.hid (by simpa [Ip.tot, by8_len] using htot)
            have HBX := Lib.hid hbox
            have HBW := Lib.hid hBW
            have hj0 : (0 : Int) ≤ (j : Int) := Int.natCast_nonneg _
            have hj1 : (j : Int) < (out.length : Int) := by omega
            have hR : (out.map by8).drop (j + 1) = [] ↔ ¬ j + 1 < out.length := by
              rw [List.drop_eq_nil_iff, List.length_map]; omega
            generalize out[j] = x at *
            have hxs : x.size ≤ 100000 := by have := HTt.out; omega
            clear hT htot hbox hBW hdrop
            go_upto_region 9 with (fail)
            go_cut [7] (fun v wx => v = .bool M ∧ wx = wr)
            case first =>
              by_cases h0 : 0 < x.size
              · obtain ⟨n, hn⟩ : ∃ n, x.size = n + 1 := ⟨x.size - 1, by omega⟩
                have hxn : n < x.size := by omega
                have hw1 : IntKind.i64.wrap ((x.size : Int) - 1) = (n : Int) := by rw [IntWalk.i64_in _ (by omega)]; omega
                have hw2 : (0 : Int) ≤ (n : Int) := by omega
                have hw3 : (n : Int) < (x.size : Int) := by omega
                have hw4 : IntKind.i64.wrap ((j : Int) + 1) = (j : Int) + 1 := by rw [IntWalk.i64_in _ (by omega)]
                by_cases h9 : x[n] = 92
                · have hb : ((x[n].toNat : Int) == 92) = true := eq_true (b := 92) h9
                  by_cases hl : j + 1 < out.length
                  · have HF : Hid (M = true) := Lib.hid (by rw [← HM.out, more_is hn (fun e => hR.1 e hl), decide_eq_true h9])
                    have hl2 : (j : Int) + 1 < (out.length : Int) := by omega
                    clear hR h9 hn
                    go_wp2_with fail
                    go_meet
                    exact ⟨by rw [HF.out], rfl⟩
                  · have HF : Hid (M = false) := Lib.hid (by rw [← HM.out, more_end x (hR.2 hl)])
                    have hl2 : ¬ (j : Int) + 1 < (out.length : Int) := by omega
                    clear hR h9 hn
                    go_wp2_with fail
                    go_meet
                    exact ⟨by rw [HF.out], rfl⟩
                · have hb : ((x[n].toNat : Int) == 92) = false := eq_false (b := 92) h9
                  have HF : Hid (M = false) := Lib.hid (by
                    rw [← HM.out]
                    by_cases hl : j + 1 < out.length
                    · rw [more_is hn (fun e => hR.1 e hl), decide_eq_false h9]
                    · rw [more_end x (hR.2 hl)])
                  clear hR h9 hn
                  go_wp2_with fail
                  go_meet
                  exact ⟨by rw [HF.out], rfl⟩
              · have HF : Hid (M = false) := Lib.hid (by rw [← HM.out, more_no h0])
                clear hR
                go_wp2_with fail
                go_meet
                exact ⟨by rw [HF.out], rfl⟩
            case rest =>
              obtain ⟨rfl, rfl⟩ := hcut
              rename World => W1
              cases M with
              | true =>
                obtain ⟨a, ha⟩ := more_last HM.out
                have hMr : ¬ j + 1 = out.length := fun e => by
                  have := HM.out
                  rw [more_end x (hR.2 (by omega))] at this
                  cases this
                obtain ⟨n, hn⟩ : ∃ n, x.size = n + 1 := ⟨a.length, by rw [← by8_len, ha]; simp⟩
                have q1 : (1 : Int) ≤ (x.size : Int) := by omega
                have q2 : (x.size : Int) - 1 ≤ (x.size : Int) := by omega
                have q3 : ((x.size : Int) - 1).toNat = n := by omega
                have hy : by8 (x.extract 0 n) = a := by8_cut ha hn
                have HTr : Hid (∀ W, Calls Tryd.prog 17 #[.string (x.extract 0 n)] W fun e w' => e = .returned (.string (trimT (x.extract 0 n))) ∧ W = w') := Lib.hid fun W => RTrim_any W _ (by rw [ByteArray.size_extract]; omega)
                have ht : by8 (trimT (x.extract 0 n)) = Ip.trim a := by show Lib.trimS (by8 (x.extract 0 n)) [32, 9, 10] = _; rw [hy]; rfl
                have hta : a.length + 1 = x.size := by rw [← by8_len, ha]; simp
                have hsmall := Ip.trim_len a
                have hT4 := HT2.out
                rw [Ip.goA_more HM.out, ha, List.dropLast_concat, ← ht] at hT4
                have HT4 := Lib.hid hT4
                generalize trimT (x.extract 0 n) = t at *
                rw [← ht] at hsmall
                have HS : Hid ((by8 t).length + 1 ≤ x.size) := Lib.hid (by omega)
                clear hT4 hsmall ha hy ht hta hn hR
                go_wp2_with fail
                refine (HTr.out _).mono ?_
                rintro e w' ⟨rfl, rfl⟩
                go_upto_region 13 with (fail)
                go_cut [70] (fun v wx => v = .bool (decide (by8 t ≠ [] ∧ acc ≠ [])) ∧ wx = W1)
                case first =>
                  cases ht0 : by8 t with
                  | nil =>
                    have he : t.toList = [] := by rw [Lib.toList_data]; exact ht0
                    have ht1 : ¬ by8 t ≠ [] := by rw [ht0]; simp
                    have HD := Lib.hid (decide_eq_false (fun h : by8 t ≠ [] ∧ acc ≠ [] => ht1 h.1))
                    go_wp2_with fail
                    go_meet
                    exact ⟨by rw [HD.out], rfl⟩
                  | cons b0 t0 =>
                    have he : ¬ t.toList = [] := by rw [Lib.toList_data]; exact fun e => by rw [show t.data.toList = by8 t from rfl, ht0] at e; cases e
                    have ht1 : by8 t ≠ [] := by rw [ht0]; simp
                    by_cases ha0 : acc = []
                    · have he1 : (str acc).toList = [] := by rw [Lib.toList_data]; exact ha0
                      have HD := Lib.hid (decide_eq_false (fun h : by8 t ≠ [] ∧ acc ≠ [] => h.2 ha0))
                      clear ha0
                      go_wp2_with fail
                      go_meet
                      exact ⟨by rw [HD.out], rfl⟩
                    · have he1 : ¬ (str acc).toList = [] := by rw [Lib.toList_data]; exact ha0
                      have HD := Lib.hid (decide_eq_true (⟨ht1, ha0⟩ : by8 t ≠ [] ∧ acc ≠ []))
                      have e1 : t.toList.isEmpty = false := by cases h : t.toList with | nil => exact absurd h he | cons => rfl
                      have e2 : (str acc).toList.isEmpty = false := by cases h : (str acc).toList with | nil => exact absurd h he1 | cons => rfl
                      clear ha0
                      go_wp2_with fail
                      go_meet
                      exact ⟨by rw [HD.out], rfl⟩
                case rest =>
                  obtain ⟨rfl, rfl⟩ := hcut
                  have hs1 : (str acc ++ (⟨#[32]⟩ : ByteArray)).size ≤ 200001 := by have := HTt.out; rw [ByteArray.size_append, str_size]; show acc.length + 1 ≤ _; omega
                  have hs3 : (str acc).size ≤ 200000 := by have := HTt.out; rw [str_size]; omega
                  have hs2 : t.size ≤ 100000 := by have := HS.out; rw [by8_len] at this; omega
                  by_cases hc : by8 t ≠ [] ∧ acc ≠ []
                  · rw [decide_eq_true hc]
                    have HE := Lib.hid (add_two hc)
                    clear hc
                    go_wp2_with fail
                    go_roundw
                    case rel =>
                      rw [HE.out]
                      refine ⟨j + 1, Ip.addA acc (by8 t), true, by go_num, rfl, by omega, hjl, (HBW.out.setCell (Nat.le_refl _) _).setCell (Nat.le_refl _) _, box_at (box_at HBX.out _) _, ?_, fun _ => ⟨?_, HT4.out⟩, fun h => by cases h⟩
                      · have := HTt.out; have := HS.out; have := Ip.addA_len acc (by8 t); omega
                      · exact Nat.lt_of_le_of_ne hjl fun e => hMr e
                    case measure => simp [intOf]; omega
                  · rw [decide_eq_false hc]
                    have HE := Lib.hid (add_one hc)
                    clear hc
                    go_wp2_with fail
                    go_roundw
                    case rel =>
                      rw [HE.out]
                      refine ⟨j + 1, Ip.addA acc (by8 t), true, by go_num, rfl, by omega, hjl, HBW.out.setCell (Nat.le_refl _) _, box_at HBX.out _, ?_, fun _ => ⟨?_, HT4.out⟩, fun h => by cases h⟩
                      · have := HTt.out; have := HS.out; have := Ip.addA_len acc (by8 t); omega
                      · exact Nat.lt_of_le_of_ne hjl fun e => hMr e
                    case measure => simp [intOf]; omega
              | false =>
                have HTr : Hid (∀ W, Calls Tryd.prog 17 #[.string x] W fun e w' => e = .returned (.string (trimT x)) ∧ W = w') := Lib.hid fun W => RTrim_any W _ (by omega)
                have ht : by8 (trimT x) = Ip.trim (by8 x) := rfl
                have hsmall := Ip.trim_len (by8 x)
                have hT4 := HT2.out
                rw [Ip.goA_last HM.out, ← ht] at hT4
                have HT4 := Lib.hid hT4
                generalize trimT x = t at *
                rw [← ht, by8_len x] at hsmall
                have HS : Hid ((by8 t).length + 1 ≤ x.size + 1) := Lib.hid (by omega)
                clear hT4 hsmall ht hR
                go_wp2_with fail
                refine (HTr.out _).mono ?_
                rintro e w' ⟨rfl, rfl⟩
                go_upto_region 13 with (fail)
                go_cut [70] (fun v wx => v = .bool (decide (by8 t ≠ [] ∧ acc ≠ [])) ∧ wx = W1)
                case first =>
                  cases ht0 : by8 t with
                  | nil =>
                    have he : t.toList = [] := by rw [Lib.toList_data]; exact ht0
                    have ht1 : ¬ by8 t ≠ [] := by rw [ht0]; simp
                    have HD := Lib.hid (decide_eq_false (fun h : by8 t ≠ [] ∧ acc ≠ [] => ht1 h.1))
                    go_wp2_with fail
                    go_meet
                    exact ⟨by rw [HD.out], rfl⟩
                  | cons b0 t0 =>
                    have he : ¬ t.toList = [] := by rw [Lib.toList_data]; exact fun e => by rw [show t.data.toList = by8 t from rfl, ht0] at e; cases e
                    have ht1 : by8 t ≠ [] := by rw [ht0]; simp
                    by_cases ha0 : acc = []
                    · have he1 : (str acc).toList = [] := by rw [Lib.toList_data]; exact ha0
                      have HD := Lib.hid (decide_eq_false (fun h : by8 t ≠ [] ∧ acc ≠ [] => h.2 ha0))
                      clear ha0
                      go_wp2_with fail
                      go_meet
                      exact ⟨by rw [HD.out], rfl⟩
                    · have he1 : ¬ (str acc).toList = [] := by rw [Lib.toList_data]; exact ha0
                      have HD := Lib.hid (decide_eq_true (⟨ht1, ha0⟩ : by8 t ≠ [] ∧ acc ≠ []))
                      have e1 : t.toList.isEmpty = false := by cases h : t.toList with | nil => exact absurd h he | cons => rfl
                      have e2 : (str acc).toList.isEmpty = false := by cases h : (str acc).toList with | nil => exact absurd h he1 | cons => rfl
                      clear ha0
                      go_wp2_with fail
                      go_meet
                      exact ⟨by rw [HD.out], rfl⟩
                case rest =>
                  obtain ⟨rfl, rfl⟩ := hcut
                  have hs1 : (str acc ++ (⟨#[32]⟩ : ByteArray)).size ≤ 200001 := by have := HTt.out; rw [ByteArray.size_append, str_size]; show acc.length + 1 ≤ _; omega
                  have hs3 : (str acc).size ≤ 200000 := by have := HTt.out; rw [str_size]; omega
                  have hs2 : t.size ≤ 100000 := by have := HS.out; rw [by8_len] at this; omega
                  by_cases hc : by8 t ≠ [] ∧ acc ≠ []
                  · rw [decide_eq_true hc]
                    have HE := Lib.hid (add_two hc)
                    clear hc
                    go_wp2_with fail
                    go_roundw
                    case rel =>
                      rw [HE.out]
                      refine ⟨j + 1, Ip.addA acc (by8 t), false, by go_num, rfl, by omega, hjl, (HBW.out.setCell (Nat.le_refl _) _).setCell (Nat.le_refl _) _, box_at (box_at HBX.out _) _, ?_, (fun h => by cases h), fun _ => ⟨by omega, HT4.out⟩⟩
                      have := HTt.out; have := HS.out; have := Ip.addA_len acc (by8 t); omega
                    case measure => simp [intOf]; omega
                  · rw [decide_eq_false hc]
                    have HE := Lib.hid (add_one hc)
                    clear hc
                    go_wp2_with fail
                    go_roundw
                    case rel =>
                      rw [HE.out]
                      refine ⟨j + 1, Ip.addA acc (by8 t), false, by go_num, rfl, by omega, hjl, HBW.out.setCell (Nat.le_refl _) _, box_at HBX.out _, ?_, (fun h => by cases h), fun _ => ⟨by omega, HT4.out⟩⟩
                      have := HTt.out; have := HS.out; have := Ip.addA_len acc (by8 t); omega
                    case measure => simp [intOf]; omega
          | false =>
            obtain ⟨hij2, hT⟩ := hm0 rfl
            have HT3 := Lib.hid hT
            have hPl : P.length ≤ 100001 := by omega
            have hal : acc.length ≤ 100001 := by omega
            have d2 : wr.cell? ⟨W0.heap.size, 2, none⟩ = some (.bool q) := cell_at hbox rfl
            have d0 : wr.cell? ⟨W0.heap.size, 0, none⟩ = some (.int .i64 (i + 1 : Nat)) := cell_at hbox rfl
            have HBX := Lib.hid hbox
            have HBW := Lib.hid hBW
            clear hm1 hm0 hT hbox hBW htot
            obtain ⟨i0, hi1, hz0, hz1, hz2⟩ := info_parts infoRL
            have hWs := HB.out.size
            cases q with
            | true =>
            have HE0 : Hid (Ip.textA true acc = acc) := Lib.hid rfl
            have HBW2 := HBW
            have HBX2 := HBX
            have hsz := HBW2.out.size
            by_cases hU : acc = []
            · have hUe : (str (acc)).toList = [] := by rw [Lib.toList_data]; exact hU
              have HEm : Hid (Ip.emit (i + 1) true acc = []) := Lib.hid (by unfold Ip.emit; rw [HE0.out, if_pos hU])
              clear hU
              go_wp2_with fail
              go_roundw
              case rel => exact ⟨j, P, rfl, hj, owns_below HP.out HBW2.out, owns_below HO.out HBW2.out, HB.out.trans (HBW2.out.mono hWs), by omega, by have := HT3.out; rw [HEm.out] at this; exact this⟩
              case measure => simp [intOf]; omega
            · have hUe : ¬ (str (acc)).toList = [] := by rw [Lib.toList_data]; exact hU
              have hUf : (str (acc)).toList.isEmpty = false := by cases h : (str (acc)).toList with | nil => exact absurd h hUe | cons => rfl
              have HEm : Hid (Ip.emit (i + 1) true acc = [⟨i + 1, acc, true⟩]) := Lib.hid (by unfold Ip.emit; rw [HE0.out, if_neg hU])
              have HP2 := Lib.hid (owns_below HP.out HBW2.out)
              have HO2 := Lib.hid (owns_below HO.out HBW2.out)
              have HB2 := Lib.hid (HB.out.trans (HBW2.out.mono hWs))
              clear hU
              go_wp2_with (at_builtin; refine wpList_append_own _ rfl _ _ 25 rfl w.heap.size RL i0 (.agg #[.int .i64 0, .string ByteArray.empty, .bool false]) 3 32 Tryd.underlying25 hi1 hz0 hz1 hz2 rfl (by decide) _ _ _ rfl (HP2.out.alloc _) ⟨wr.heap.size, 0, none⟩ 1 1 [.int .i64 (i + 1 : Nat), .string (str (acc)), .bool true] rfl rfl (three_at (by simp) _ _ _ _) (by simp [Value.oneCell']) (by unfold maxLen; omega) (by omega) (by simp; omega) ?_; intro v' w1 hown' hgrow _; obtain ⟨a2, c2, rfl⟩ := owns_slice hown')
              go_roundw
              case rel =>
                refine ⟨j, P ++ [⟨i + 1, acc, true⟩], rfl, hj, ?_, ((HO2.out.alloc _).kept hgrow (rows_ne HO2.out HP2.out (by decide))), (HB2.out.alloc HB2.out.size _).grown hgrow (by rw [World.size_alloc]; have := HB2.out.size; omega) (fun k hk => (HP2.out.lt k hk).1), by rw [List.length_append]; simp; omega, ?_⟩
                · rw [List.length_append, linesC_app]; exact hown'
                · have := HT3.out; rw [HEm.out] at this; rw [List.append_assoc]; exact this
              case measure => simp [intOf]; omega
            | false =>
            have HE0 : Hid (Ip.textA false acc = Ip.trim (Ip.bareA [] acc)) := Lib.hid rfl
            have HBr : Hid (∀ W, Calls Tryd.prog 18 #[.string (str acc)] W fun e w' => e = .returned (.string (str (Ip.bareA [] acc))) ∧ W = w') := Lib.hid fun W => RBare_any W (str acc) (by rw [str_size]; omega)
            have hbl2 : (Ip.bareA [] acc).length ≤ 0 + acc.length := Ip.bareA_len acc []
            have HTr : Hid (∀ W, Calls Tryd.prog 17 #[.string (str (Ip.bareA [] acc))] W fun e w' => e = .returned (.string (str (Ip.trim (Ip.bareA [] acc)))) ∧ W = w') := Lib.hid fun W => RTrim_any W _ (by rw [str_size]; omega)
            clear hbl2
            have HBW2 : Hid (Below W0.heap.size W0 (wr.setCell ⟨W0.heap.size, 1, none⟩ (.string (str (Ip.trim (Ip.bareA [] acc)))))) := Lib.hid (HBW.out.setCell (Nat.le_refl _) _)
            have HBX2 : Hid ((wr.setCell ⟨W0.heap.size, 1, none⟩ (.string (str (Ip.trim (Ip.bareA [] acc))))).heap[W0.heap.size]? = some (.cells #[.int .i64 (i + 1 : Nat), .string (str (Ip.trim (Ip.bareA [] acc))), .bool false] RL (0, 0))) := Lib.hid (box_at HBX.out _)
            have g0 : (wr.setCell ⟨W0.heap.size, 1, none⟩ (.string (str (Ip.trim (Ip.bareA [] acc))))).cell? ⟨W0.heap.size, 0, none⟩ = some (.int .i64 (i + 1 : Nat)) := cell_at HBX2.out rfl
            have g1 : (wr.setCell ⟨W0.heap.size, 1, none⟩ (.string (str (Ip.trim (Ip.bareA [] acc))))).cell? ⟨W0.heap.size, 1, none⟩ = some (.string (str (Ip.trim (Ip.bareA [] acc)))) := cell_at HBX2.out rfl
            have g2 : (wr.setCell ⟨W0.heap.size, 1, none⟩ (.string (str (Ip.trim (Ip.bareA [] acc))))).cell? ⟨W0.heap.size, 2, none⟩ = some (.bool false) := cell_at HBX2.out rfl
            have hsz := HBW2.out.size
            by_cases hU : Ip.trim (Ip.bareA [] acc) = []
            · have hUe : (str (Ip.trim (Ip.bareA [] acc))).toList = [] := by rw [Lib.toList_data]; exact hU
              have HEm : Hid (Ip.emit (i + 1) false acc = []) := Lib.hid (by unfold Ip.emit; rw [HE0.out, if_pos hU])
              clear hU
              go_wp2_with fail
              refine (HBr.out _).mono ?_
              rintro e w' ⟨rfl, rfl⟩
              go_wp2_with fail
              refine (HTr.out _).mono ?_
              rintro e w' ⟨rfl, rfl⟩
              go_wp2_with fail
              go_roundw
              case rel => exact ⟨j, P, rfl, hj, owns_below HP.out HBW2.out, owns_below HO.out HBW2.out, HB.out.trans (HBW2.out.mono hWs), by omega, by have := HT3.out; rw [HEm.out] at this; exact this⟩
              case measure => simp [intOf]; omega
            · have hUe : ¬ (str (Ip.trim (Ip.bareA [] acc))).toList = [] := by rw [Lib.toList_data]; exact hU
              have hUf : (str (Ip.trim (Ip.bareA [] acc))).toList.isEmpty = false := by cases h : (str (Ip.trim (Ip.bareA [] acc))).toList with | nil => exact absurd h hUe | cons => rfl
              have HEm : Hid (Ip.emit (i + 1) false acc = [⟨i + 1, Ip.trim (Ip.bareA [] acc), false⟩]) := Lib.hid (by unfold Ip.emit; rw [HE0.out, if_neg hU])
              have HP2 := Lib.hid (owns_below HP.out HBW2.out)
              have HO2 := Lib.hid (owns_below HO.out HBW2.out)
              have HB2 := Lib.hid (HB.out.trans (HBW2.out.mono hWs))
              clear hU
              go_wp2_with fail
              refine (HBr.out _).mono ?_
              rintro e w' ⟨rfl, rfl⟩
              go_wp2_with fail
              refine (HTr.out _).mono ?_
              rintro e w' ⟨rfl, rfl⟩
              go_wp2_with (at_builtin; refine wpList_append_own _ rfl _ _ 25 rfl w.heap.size RL i0 (.agg #[.int .i64 0, .string ByteArray.empty, .bool false]) 3 32 Tryd.underlying25 hi1 hz0 hz1 hz2 rfl (by decide) _ _ _ rfl (HP2.out.alloc _) ⟨wr.heap.size, 0, none⟩ 1 1 [.int .i64 (i + 1 : Nat), .string (str (Ip.trim (Ip.bareA [] acc))), .bool false] rfl rfl (three_at (by simp) _ _ _ _) (by simp [Value.oneCell']) (by unfold maxLen; omega) (by omega) (by simp; omega) ?_; intro v' w1 hown' hgrow _; obtain ⟨a2, c2, rfl⟩ := owns_slice hown')
              go_roundw
              case rel =>
                refine ⟨j, P ++ [⟨i + 1, Ip.trim (Ip.bareA [] acc), false⟩], rfl, hj, ?_, ((HO2.out.alloc _).kept hgrow (rows_ne HO2.out HP2.out (by decide))), (HB2.out.alloc HB2.out.size _).grown hgrow (by rw [World.size_alloc]; have := HB2.out.size; omega) (fun k hk => (HP2.out.lt k hk).1), by rw [List.length_append]; simp; omega, ?_⟩
                · rw [List.length_append, linesC_app]; exact hown'
                · have := HT3.out; rw [HEm.out] at this; rw [List.append_assoc]; exact this
              case measure => simp [intOf]; omega
    · obtain rfl : i = out.length := by omega
      rw [show (out.map by8).drop out.length = [] from List.drop_of_length_le (by simp)] at hT
      have HL : Hid (P = Ip.linesA (by8 s)) := Lib.hid (by rw [← hT]; simp [Ip.goA])
      clear hT
      go_wp2_with fail
      go_ret
      exact ⟨_, rfl, by rw [← HL.out]; exact hp, hB⟩
end Go.Proofs.YtgncnffejennfaaDoor.Iw
