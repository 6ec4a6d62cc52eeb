/-
  flatironlaw05: of, same, lives.
-/
import Derived.Laws.StructEq
import Derived.Test.YtocdmmhoghfeaaaDoorLShow2
import Derived.Test.YtocdmmhoghfeaaaDoorLRTokens
namespace Go.Proofs.YtocdmmhoghfeaaaDoor.Lx
open Go.RowKit Go.Proofs.YtocdmmhoghfeaaaDoor
set_option maxRecDepth 100000

def OfRel (w : World) (L : List Lp.T) (v o : Value) (wr : World) : Prop :=
  ∃ (k : Nat) (a : Option Addr) (c : Nat), v = .int .i64 k ∧ k ≤ L.length ∧ o = .slice a k c ∧ wr.ownsRow w.heap.size T2 2 (.slice a k c) k (tsC (L.take k)) ∧ Below w.heap.size w wr
def OfPost (w : World) (L : List Lp.T) (e : Ending) (w' : World) : Prop :=
  ∃ a c, e = .returned (.slice a L.length c) ∧ w'.ownsRow w.heap.size T2 2 (.slice a L.length c) L.length (tsC L) ∧ Below w.heap.size w w'

set_option maxHeartbeats 4000000 in
theorem of_any (w : World) (B : Nat) (a : Option Addr) (c : Nat) (L : List Lp.T) (hr : w.ownsRow B TT 2 (.slice a L.length c) L.length (tsC L)) (hl : L.length ≤ 100000) :
    Calls Tryd.prog 9 #[.slice a L.length c] w (OfPost w L) := by
  obtain ⟨i0, hi, hz0, hz1, hz2⟩ := info_parts infoT2
  go_enter Tryd.func9, Tryd.ntmps9
  go_wp2_with fail
  go_loopw [3, 8] (fun o v wr => OfRel w L v o wr) (fun _ v _ => L.length - (intOf v).toNat)
  case atStart => exact ⟨0, none, 0, rfl, Nat.zero_le _, rfl, World.ownsRow_nil _ _ _ _, Below.refl _ _⟩
  case round =>
    obtain ⟨k, a1, c1, rfl, hk, rfl, hrow, hB⟩ := hrel
    by_cases hlt : k < L.length
    · obtain ⟨g, rfl, hgc, hg, hcells⟩ := row_cells hr (by omega)
      obtain ⟨x1, x2⟩ := hcells k hlt
      have y1 : wr.cell? ⟨g, k * 2, none⟩ = some (.int .i64 L[k].k) := (hB.cell (p := ⟨g, k * 2, none⟩) hg).trans x1
      have y2 : wr.cell? ⟨g, k * 2 + 1, none⟩ = some (.string (str L[k].t)) := (hB.cell (p := ⟨g, k * 2 + 1, none⟩) hg).trans x2
      have HT : Hid (tsC (L.take (k + 1)) = tsC (L.take k) ++ [.int .i64 L[k].k, .string (str L[k].t)]) := Lib.hid (by rw [List.take_succ_eq_append_getElem hlt, tsC_snoc]; rfl)
      have hB1 := fun o => hB.alloc hB.size o
      clear hcells x1 x2
      generalize L[k] = x at *
      go_wp2_with (at_builtin; refine wpList_append_own _ rfl _ _ 27 rfl w.heap.size T2 i0 (.agg #[.int .i64 0, .string ByteArray.empty]) 2 24 Tryd.underlying27 hi hz0 hz1 hz2 rfl (by decide) _ _ _ rfl ((hrow.alloc _).alloc _) ⟨wr.heap.size + 1, 0, none⟩ 1 1 [.int .i64 x.k, .string (str x.t)] rfl rfl (two_at _ (by simp) _ _ _) (by simp [Value.oneCell']) (by unfold maxLen; omega) (by omega) (by have := hB.size; simp; omega) ?_; intro v' w3 hown' hgrow _; obtain ⟨a2, c2, rfl⟩ := owns_slice hown'; have hB5 := (((hB1 _).alloc (hB1 _).size _).grown hgrow ((hB1 _).alloc (hB1 _).size _).size fun j ej => (hrow.lt j ej).1))
      go_roundw
      case rel => exact ⟨k + 1, a2, c2, by go_num, hlt, rfl, by rw [HT.out]; exact hown', hB5⟩
      case measure => simp [intOf]; omega
    · obtain rfl : k = L.length := by omega
      rw [List.take_length] at hrow
      have HF : Hid (OfPost w L (.returned (.slice a1 L.length c1)) wr) := Lib.hid ⟨a1, c1, rfl, hrow, hB⟩
      clear hrow hr
      go_wp2_with fail
      go_ret
      exact HF.out

theorem fieldsT2 : Tryd.prog.underlying T2 = some (.struct (Tryd.prog.fieldsOf T2)) := by kernel_rfl
theorem fieldsL : (Tryd.prog.fieldsOf T2).toList.map (fun f => (f.name, f.type, f.offset)) = [("Kind", 3, 0), ("Text", 9, 1)] := by kernel_rfl
theorem neq_tok (w : World) (k k' : Int) (a b : ByteArray) : (binOp .neq T2 (.agg #[.int .i64 k, .string a]) (.agg #[.int .i64 k', .string b])).run Tryd.prog w = .ok (.bool (!(k == k' && (a.toList == b.toList)))) w := by
  have hp : Tryd.prog.stoodInHeld T2 = false := by kernel_rfl
  rw [run_neq_struct, run_equalIn_struct _ _ _ _ _ fieldsT2 hp]
  have hf := fieldsL
  generalize (Tryd.prog.fieldsOf T2).toList = fs at hf
  obtain ⟨f, l1, rfl, hf1, hl1⟩ := List.map_eq_cons_iff.1 hf
  obtain ⟨g, l2, rfl, hg1, hl2⟩ := List.map_eq_cons_iff.1 hl1
  obtain rfl := List.map_eq_nil_iff.1 hl2
  simp only [Prod.mk.injEq] at hf1 hg1
  obtain ⟨n1, t1, o1⟩ := hf1
  obtain ⟨n2, t2, o2⟩ := hg1
  have e1 := fun d => run_equalIn_int (P := Tryd.prog) w d 3 .i64 .i64 k k' Tryd.underlying3
  have e2 := fun d => run_equalIn_string (P := Tryd.prog) w d 9 a b Tryd.underlying9
  have e1' := e1 9998
  have e2' := e2 9998
  unfold Op.eqFields Op.eqFields Op.eqFields
  rw [n1, n2, t1, t2, o1, o2]
  simp [go_sem, part]
  by_cases h1 : k = k' <;> by_cases h2 : a.toList = b.toList <;> simp [h1, h2]
theorem str_inj {a b : Bs} (h : str a = str b) : a = b := by rw [← by8_str a, h, by8_str]
theorem neq_same (x : Lp.T) (w : World) : (binOp .neq T2 (.agg #[.int .i64 x.k, .string (str x.t)]) (.agg #[.int .i64 x.k, .string (str x.t)])).run Tryd.prog w = .ok (.bool false) w := by
  rw [neq_tok]; simp
theorem neq_diff {x y : Lp.T} (h : x ≠ y) (w : World) : (binOp .neq T2 (.agg #[.int .i64 x.k, .string (str x.t)]) (.agg #[.int .i64 y.k, .string (str y.t)])).run Tryd.prog w = .ok (.bool true) w := by
  rw [neq_tok]
  have : ((x.k : Int) == (y.k : Int) && ((str x.t).toList == (str y.t).toList)) = false := by
    rw [Bool.and_eq_false_iff]
    by_cases h1 : x.k = y.k
    · right
      refine str_eq_false fun e => h ?_
      obtain ⟨k, t⟩ := x
      obtain ⟨k', t'⟩ := y
      simp only at h1 e
      rw [h1, str_inj e]
    · left
      rw [beq_eq_false_iff_ne]; omega
  rw [this]; rfl

theorem guardT2 : Tryd.prog.eqGuardType Tryd.prog.depth T2 = false := by kernel_rfl

set_option maxHeartbeats 4000000 in
theorem same_any (w : World) (B B' : Nat) (a a' : Option Addr) (c c' : Nat) (L M : List Lp.T) (b : Bool) (hb : Hid (decide (L = M) = b)) (hr : w.ownsRow B T2 2 (.slice a L.length c) L.length (tsC L)) (hs : w.ownsRow B' T2 2 (.slice a' M.length c') M.length (tsC M)) (hl : L.length ≤ 100000) (hm : M.length ≤ 100000) :
    Calls Tryd.prog 8 #[.slice a L.length c, .slice a' M.length c'] w fun e w' => e = .returned (.bool b) ∧ Below w.heap.size w w' := by
  have hgd := guardT2
  go_enter Tryd.func8, Tryd.ntmps8
  by_cases hlen : L.length = M.length
  · have hi : (L.length : Int) = M.length := by omega
    go_wp2_with fail
    go_loopw [13] (fun v wr => ∃ i : Nat, v = .int .i64 i ∧ i ≤ L.length ∧ (∀ j, j < i → L[j]? = M[j]?) ∧ Below w.heap.size w wr) (fun v _ => L.length - (intOf v).toNat)
    case atStart => exact ⟨0, rfl, Nat.zero_le _, fun j hj => absurd hj (Nat.not_lt_zero _), Below.refl _ _⟩
    case round =>
      obtain ⟨i, rfl, hix, hj, hB⟩ := hrel
      by_cases hlt : i < L.length
      · have hlt2 : i < M.length := by omega
        obtain ⟨g, rfl, hgc, hg, hcells⟩ := row_cells hr (by omega)
        obtain ⟨g', rfl, hgc', hg', hcells'⟩ := row_cells hs (by omega)
        obtain ⟨x1, x2⟩ := hcells i hlt
        obtain ⟨y1, y2⟩ := hcells' i hlt2
        have p1 : wr.cell? ⟨g, i * 2, none⟩ = some (.int .i64 L[i].k) := (hB.cell (p := ⟨g, i * 2, none⟩) hg).trans x1
        have p2 : wr.cell? ⟨g, i * 2 + 1, none⟩ = some (.string (str L[i].t)) := (hB.cell (p := ⟨g, i * 2 + 1, none⟩) hg).trans x2
        have p3 : wr.cell? ⟨g', i * 2, none⟩ = some (.int .i64 M[i].k) := (hB.cell (p := ⟨g', i * 2, none⟩) hg').trans y1
        have p4 : wr.cell? ⟨g', i * 2 + 1, none⟩ = some (.string (str M[i].t)) := (hB.cell (p := ⟨g', i * 2 + 1, none⟩) hg').trans y2
        have hki : (i : Int) < L.length := by omega
        have hki2 : (i : Int) < M.length := by omega
        by_cases heq : L[i] = M[i]
        · have hq := fun W => neq_same L[i] W
          have HJ : Hid (∀ j, j < i + 1 → L[j]? = M[j]?) := Lib.hid fun j h => by
            rcases Nat.lt_or_ge j i with h1 | h1
            · exact hj j h1
            · obtain rfl : j = i := by omega
              rw [List.getElem?_eq_getElem hlt, List.getElem?_eq_getElem hlt2, heq]
          rw [← heq] at p3 p4
          clear hcells hcells' x1 x2 y1 y2 heq hj
          generalize L[i] = x at *
          go_wp2_with fail
          go_quiet (fail)
          go_wp2_with fail
          go_roundw
          case rel => exact ⟨i + 1, by go_num, hlt, HJ.out, below_drewN hB _⟩
          case measure => simp [intOf]; omega
        · have hq := fun W => neq_diff heq W
          have HF : Hid (b = false) := Lib.hid (hb.out.symm.trans (decide_eq_false fun e => heq (by subst e; rfl)))
          clear hcells hcells' x1 x2 y1 y2 heq hj
          generalize L[i] = x at *
          generalize M[i] = y at *
          go_wp2_with fail
          go_quiet (fail)
          go_wp2_with fail
          go_ret
          exact ⟨by rw [HF.out]; rfl, below_drewN hB _⟩
      · obtain rfl : i = L.length := by omega
        have HT : Hid (b = true) := Lib.hid (hb.out.symm.trans (decide_eq_true (List.ext_getElem? fun j => by
          rcases Nat.lt_or_ge j L.length with h1 | h1
          · exact hj j h1
          · rw [List.getElem?_eq_none h1, List.getElem?_eq_none (by omega)])))
        clear hj
        go_wp2_with fail
        go_ret
        exact ⟨by rw [HT.out]; rfl, hB⟩
  · have hi : ¬ (L.length : Int) = M.length := by omega
    have HF : Hid (b = false) := Lib.hid (hb.out.symm.trans (decide_eq_false fun e => hlen (by rw [e])))
    go_wp2_with fail
    go_ret
    exact ⟨by rw [HF.out]; rfl, Below.refl _ _⟩

def liveS : ByteArray := ⟨#[97, 39, 98, 32, 99, 39, 34, 100, 34, 62, 101]⟩
def liveL : List Lp.T := [⟨0, [97, 98, 32, 99, 100]⟩, ⟨4, []⟩, ⟨0, [101]⟩]
theorem live_is : Lp.tokA (by8 liveS) = some liveL := by decide
theorem live_row (W : World) : (W.alloc (.cells #[.int .i64 0, .string ⟨#[97, 98, 32, 99, 100]⟩, .int .i64 4, .string ⟨#[]⟩, .int .i64 0, .string ⟨#[101]⟩] T2)).ownsRow W.heap.size T2 2 (.slice (some ⟨W.heap.size, 0, none⟩) 3 3) liveL.length (tsC liveL) := by
  refine ⟨rfl, .inr ⟨W.heap.size, 3, _, rfl, Nat.le_refl _, heap_new _ _ rfl, Nat.le_refl _, by decide, rfl, rfl⟩⟩

set_option maxHeartbeats 4000000 in
theorem lives_any (w : World) (hG : Glob w) : Calls Tryd.prog 4 #[] w fun e w' => e = .returned (.bool true) ∧ Below w.heap.size w w' := by
  have hT := Tokens_any w liveS (by decide) hG
  rw [live_is] at hT
  go_enter Tryd.func4, Tryd.ntmps4
  go_wp2_with fail
  refine hT.mono ?_
  rintro e w1 ⟨⟨a, c, rfl, hr⟩, hB1⟩
  have hO := of_any w1 _ a c liveL hr (by decide)
  go_wp2_with fail
  refine hO.mono ?_
  rintro e w2 ⟨a2, c2, rfl, hr2, hB2⟩
  have hB3 := hB1.trans (hB2.mono hB1.size)
  have hS := same_any (w2.alloc (.cells #[.int .i64 0, .string ⟨#[97, 98, 32, 99, 100]⟩, .int .i64 4, .string ⟨#[]⟩, .int .i64 0, .string ⟨#[101]⟩] T2)) _ _ a2 (some ⟨w2.heap.size, 0, none⟩) c2 3 liveL liveL true (Lib.hid (decide_eq_true rfl)) (hr2.alloc _) (live_row w2) (by decide) (by decide)
  clear hT hO hr hr2
  have hB4 := fun o => hB3.alloc hB3.size o
  go_wp2_with (go_at_call 8; refine hS.mono ?_; rintro e w5 ⟨rfl, hB5⟩; have hB6 := (hB4 _).trans (hB5.mono (hB4 _).size))
  go_ret
  exact ⟨rfl, hB6⟩
end Go.Proofs.YtocdmmhoghfeaaaDoor.Lx
