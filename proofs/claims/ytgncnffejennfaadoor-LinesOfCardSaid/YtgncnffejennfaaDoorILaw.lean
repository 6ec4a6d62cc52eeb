/-
  The law LinesOf, walked.
-/
import Derived.Laws.StructEq
import Derived.Deep.QuietTactic
import Derived.Test.YtgncnffejennfaaDoorIEach
namespace Go.Proofs.YtgncnffejennfaaDoor.Iw
open Go.RowKit Go.Proofs.YtgncnffejennfaaDoor Go.Proofs.YtgncnffejennfaaDoor.Ww
set_option maxRecDepth 100000

/-- A line, as a value of either type. -/
def lineV (x : Ip.L) : Value := .agg #[.int .i64 (x.n : Int), .string (str x.t), .bool x.q]
theorem fieldsR : Tryd.prog.underlying RL = some (.struct (Tryd.prog.fieldsOf RL)) := by kernel_rfl
theorem fieldsRL : (Tryd.prog.fieldsOf RL).toList.map (fun f => (f.name, f.type, f.offset)) = [("Number", 3, 0), ("Text", ST, 1), ("Recipe", 4, 2)] := by kernel_rfl
theorem fieldsT : Tryd.prog.underlying LT = some (.struct (Tryd.prog.fieldsOf LT)) := by kernel_rfl
theorem fieldsTL : (Tryd.prog.fieldsOf LT).toList.map (fun f => (f.name, f.type, f.offset)) = [("Number", 3, 0), ("Text", ST, 1), ("Recipe", 4, 2)] := by kernel_rfl
theorem eq_line (T : TypeId) (hu : Tryd.prog.underlying T = some (.struct (Tryd.prog.fieldsOf T))) (hf : (Tryd.prog.fieldsOf T).toList.map (fun f => (f.name, f.type, f.offset)) = [("Number", 3, 0), ("Text", ST, 1), ("Recipe", 4, 2)])
    (hp : Tryd.prog.stoodInHeld T = false) (w : World) (n n' : Int) (t t' : ByteArray) (q q' : Bool) :
    (Op.equalIn 10000 T (.agg #[.int .i64 n, .string t, .bool q]) (.agg #[.int .i64 n', .string t', .bool q'])).run Tryd.prog w = .ok (n == n' && (t.toList == t'.toList && q == q')) w := by
  rw [run_equalIn_struct _ _ _ _ _ hu hp]
  generalize (Tryd.prog.fieldsOf T).toList = fs at hf
  obtain ⟨f1, l1, rfl, h1, hl1⟩ := List.map_eq_cons_iff.1 hf
  obtain ⟨f2, l2, rfl, h2, hl2⟩ := List.map_eq_cons_iff.1 hl1
  obtain ⟨f3, l3, rfl, h3, hl3⟩ := List.map_eq_cons_iff.1 hl2
  obtain rfl := List.map_eq_nil_iff.1 hl3
  simp only [Prod.mk.injEq] at h1 h2 h3
  obtain ⟨n1, t1, o1⟩ := h1
  obtain ⟨n2, t2, o2⟩ := h2
  obtain ⟨n3, t3, o3⟩ := h3
  unfold Op.eqFields Op.eqFields Op.eqFields Op.eqFields
  rw [n1, n2, n3, t1, t2, t3, o1, o2, o3]
  simp [go_sem, part]
  by_cases h1 : n = n' <;> by_cases h2 : t.toList = t'.toList <;> by_cases h3 : q = q' <;> simp [h1, h2, h3]
theorem neq_R (x : Ip.L) (w : World) : (binOp .neq RL (.agg #[.int .i64 (x.n : Int), .string (str x.t), .bool x.q]) (.agg #[.int .i64 (x.n : Int), .string (str x.t), .bool x.q])).run Tryd.prog w = .ok (.bool false) w := by
  rw [run_neq_struct, eq_line RL fieldsR fieldsRL (by kernel_rfl)]; simp [Result.andThen]
theorem neq_T (x : Ip.L) (w : World) : (binOp .neq LT (.agg #[.int .i64 (x.n : Int), .string (str x.t), .bool x.q]) (.agg #[.int .i64 (x.n : Int), .string (str x.t), .bool x.q])).run Tryd.prog w = .ok (.bool false) w := by
  rw [run_neq_struct, eq_line LT fieldsT fieldsTL (by kernel_rfl)]; simp [Result.andThen]
theorem eql_T (n : Int) (t : ByteArray) (q : Bool) (w : World) : (binOp .eql LT (.agg #[.int .i64 n, .string t, .bool q]) (.agg #[.int .i64 n, .string t, .bool q])).run Tryd.prog w = .ok (.bool true) w := by
  rw [run_eql_struct, eq_line LT fieldsT fieldsTL (by kernel_rfl)]; simp [Result.andThen]
theorem guardR : Tryd.prog.eqGuardType Tryd.prog.depth RL = false := by kernel_rfl
theorem guardT : Tryd.prog.eqGuardType Tryd.prog.depth LT = false := by kernel_rfl

set_option maxHeartbeats 1000000 in
theorem Of_any (w : World) (s : ByteArray) (hs : s.size ≤ 100000) :
    Calls Tryd.prog 6 #[.string s] w fun e w' => ∃ a c, e = .returned (.slice a (Ip.linesA (by8 s)).length c) ∧ w'.ownsRow (w.heap.size + 1) LT 3 (.slice a (Ip.linesA (by8 s)).length c) (Ip.linesA (by8 s)).length (linesC (Ip.linesA (by8 s))) ∧ Below w.heap.size w w' := by
  have HE := Lib.hid (each_any (w.alloc (.cells #[.slice none 0 0] LS)) w.heap.size s hs ⟨_, Boxed.new w LS _, World.ownsRow_nil _ _ _ _⟩)
  go_enter Tryd.func6, Tryd.ntmps6
  go_wp2_with fail
  refine HE.out.mono ?_
  rintro e w' ⟨rfl, ⟨v, hv, hr⟩, hB⟩
  have c0 := hv.cell
  obtain ⟨a, c, rfl⟩ := owns_slice hr
  go_wp2_with fail
  go_ret
  exact ⟨a, c, rfl, hr, Below.trans ((Below.refl _ _).alloc (Nat.le_refl _) _) hB⟩

theorem live_is : Ip.linesA (by8 ⟨#[97, 32, 92, 10, 98, 32, 35, 32, 99]⟩) = [⟨1, [97, 32, 98], false⟩] := by rfl
theorem line_cells {w : World} {B : Nat} {T : TypeId} {a : Option Addr} {c : Nat} {l : List Ip.L} (h : w.ownsRow B T 3 (.slice a l.length c) l.length (linesC l)) {i : Nat} (hi : i < l.length) :
    ∃ g, a = some ⟨g, 0, none⟩ ∧ l.length ≤ c ∧ g < w.heap.size ∧ B ≤ g ∧ w.cell? ⟨g, i * 3, none⟩ = some (.int .i64 (l[i].n : Int)) ∧ w.cell? ⟨g, i * 3 + 1, none⟩ = some (.string (str l[i].t)) ∧ w.cell? ⟨g, i * 3 + 2, none⟩ = some (.bool l[i].q) := by
  have hcell : ∀ (l : List Ip.L) (i : Nat) (hi : i < l.length), (linesC l)[i * 3]? = some (.int .i64 (l[i].n : Int)) ∧ (linesC l)[i * 3 + 1]? = some (.string (str l[i].t)) ∧ (linesC l)[i * 3 + 2]? = some (.bool l[i].q) := by
    intro l
    induction l with
    | nil => intro i hi; simp at hi
    | cons x l ih =>
      intro i hi
      have e : linesC (x :: l) = lineC x ++ linesC l := rfl
      cases i with
      | zero => exact ⟨rfl, rfl, rfl⟩
      | succ i =>
        obtain ⟨h1, h2, h3⟩ := ih i (by simpa using hi)
        rw [e, show (i + 1) * 3 = (lineC x).length + i * 3 by show _ = 3 + i * 3; omega]
        rw [Nat.add_assoc, Nat.add_assoc, List.getElem?_append_right (by omega), List.getElem?_append_right (by omega), List.getElem?_append_right (by omega)]
        simp only [Nat.add_sub_cancel_left, List.getElem_cons_succ]
        exact ⟨h1, h2, h3⟩
  obtain ⟨h1, h2, h3⟩ := hcell l i hi
  obtain ⟨hl, hr⟩ := id h
  rcases hr with ⟨hn, h0⟩ | ⟨g, cap, cur, hv, hb, hg, hn, hc, hs, ht⟩
  · omega
  · cases hv
    have hk := h.cells (g := g) rfl
    have k1 := hk _ _ h1
    have k2 := hk _ _ h2
    have k3 := hk _ _ h3
    rw [Addr.add_lit, Nat.zero_add] at k1 k2 k3
    exact ⟨g, rfl, hn, (Array.getElem?_eq_some_iff.1 hg).1, hb, k1, k2, k3⟩

set_option maxHeartbeats 2000000 in
theorem lives_any (w : World) : Calls Tryd.prog 5 #[] w fun e w' => e = .returned (.bool true) ∧ Below w.heap.size w w' := by
  have h0 := Of_any w ⟨#[97, 32, 92, 10, 98, 32, 35, 32, 99]⟩ (by decide)
  rw [live_is] at h0
  have HO := Lib.hid h0
  clear h0
  have hq := fun W => eql_T 1 ⟨#[97, 32, 98]⟩ false W
  have hgd := guardT
  go_enter Tryd.func5, Tryd.ntmps5
  go_wp2_with fail
  refine HO.out.mono ?_
  rintro e w' ⟨a, c, rfl, hr, hB⟩
  obtain ⟨g, rfl, hc, hg, _, k0, k1, k2⟩ := line_cells hr (i := 0) (by decide)
  have c0 : w'.cell? ⟨g, 0, none⟩ = some (.int .i64 1) := k0
  have c1 : w'.cell? ⟨g, 1, none⟩ = some (.string ⟨#[97, 32, 98]⟩) := k1
  have c2 : w'.cell? ⟨g, 2, none⟩ = some (.bool false) := k2
  clear k0 k1 k2
  go_wp2_with fail
  go_ret
  exact ⟨rfl, hB⟩

set_option maxHeartbeats 2000000 in
theorem LinesOfL_any (w : World) (s : ByteArray) (hs : 3000 < s.size) (hs0 : s.size ≤ 140737488355328) :
    Calls Tryd.prog 3 #[.string s] w fun e w' => e = .returned (.bool true) ∧ Below w.heap.size w w' := by
  have HL : Hid (∀ W, Calls Tryd.prog 5 #[] W fun e w' => e = .returned (.bool true) ∧ Below W.heap.size W w') := Lib.hid lives_any
  have hd : (3000 : Int) < (s.size : Int) := by omega
  go_enter Tryd.func3, Tryd.ntmps3
  go_wp2_with fail
  refine (HL.out _).mono ?_
  rintro e w1 ⟨rfl, B1⟩
  go_wp2_with fail
  refine (HL.out _).mono ?_
  rintro e w2 ⟨rfl, B2⟩
  go_wp2_with fail
  go_ret
  exact ⟨rfl, B1.trans (B2.mono B1.size)⟩

set_option maxHeartbeats 4000000 in
theorem LinesOf_any (w : World) (s : ByteArray) (hs : s.size ≤ 3000) :
    Calls Tryd.prog 3 #[.string s] w fun e w' => e = .returned (.bool true) ∧ Below w.heap.size w w' := by
  have HL : Hid (∀ W, Calls Tryd.prog 5 #[] W fun e w' => e = .returned (.bool true) ∧ Below W.heap.size W w') := Lib.hid lives_any
  have hll := Ip.linesA_le (by8 s)
  have hcl := List.count_le_length (a := (10 : UInt8)) (l := by8 s)
  rw [by8_len] at hcl
  have HO := Lib.hid fun W => Of_any W s (by omega)
  have HR := Lib.hid fun W => ROf_any W s (by omega)
  have hgd := guardR
  generalize Ip.linesA (by8 s) = L at *
  have hL : L.length ≤ 3001 := by omega
  have hd : ¬ (3000 : Int) < (s.size : Int) := by omega
  clear hll hcl
  go_enter Tryd.func3, Tryd.ntmps3
  go_wp2_with fail
  refine (HL.out _).mono ?_
  rintro e w1 ⟨rfl, B1⟩
  go_wp2_with fail
  refine (HO.out _).mono ?_
  rintro e w2 ⟨a, c, rfl, r1, B2⟩
  go_wp2_with fail
  refine (HR.out _).mono ?_
  rintro e w3 ⟨v, rfl, r2, B3⟩
  obtain ⟨a2, c2, rfl⟩ := owns_slice r2
  have R1 := Lib.hid (owns_below r1 B3)
  have R2 := Lib.hid r2
  have HB := Lib.hid ((B1.trans (B2.mono B1.size)).trans (B3.mono (Nat.le_trans B1.size B2.size)))
  have hsz : w.heap.size ≤ w3.heap.size := HB.out.size
  clear r1 r2 B1 B2 B3
  go_wp2_with fail
  go_loopw [26] (fun v wr => ∃ i : Nat, v = .int .i64 i ∧ i ≤ L.length ∧ Below w3.heap.size w3 wr) (fun v _ => L.length - (intOf v).toNat)
  case atStart => exact ⟨0, rfl, Nat.zero_le _, Below.refl _ _⟩
  case round =>
    obtain ⟨i, rfl, hix, hB⟩ := hrel
    by_cases hlt : i < L.length
    · obtain ⟨g, rfl, hgc, hg, _, x0, x1, x2⟩ := line_cells R1.out hlt
      obtain ⟨g', rfl, hgc', hg', _, y0, y1, y2⟩ := line_cells R2.out hlt
      have hq := fun W => neq_R L[i] W
      have p0 : wr.cell? ⟨g, i * 3, none⟩ = some (.int .i64 (L[i].n : Int)) := (hB.cell (p := ⟨g, i * 3, none⟩) hg).trans x0
      have p1 : wr.cell? ⟨g, i * 3 + 1, none⟩ = some (.string (str L[i].t)) := (hB.cell (p := ⟨g, i * 3 + 1, none⟩) hg).trans x1
      have p2 : wr.cell? ⟨g, i * 3 + 2, none⟩ = some (.bool L[i].q) := (hB.cell (p := ⟨g, i * 3 + 2, none⟩) hg).trans x2
      have hws := hB.size
      generalize hx : L[i] = x at *
      have HA : Hid (Below w3.heap.size w3 (wr.alloc (.cells #[.int .i64 (x.n : Int), .string (str x.t), .bool x.q] LT))) := Lib.hid (hB.alloc hws _)
      have z0 : (wr.alloc (.cells #[.int .i64 (x.n : Int), .string (str x.t), .bool x.q] LT)).cell? ⟨g', i * 3, none⟩ = some (.int .i64 (x.n : Int)) := (HA.out.cell (p := ⟨g', i * 3, none⟩) hg').trans y0
      have z1 : (wr.alloc (.cells #[.int .i64 (x.n : Int), .string (str x.t), .bool x.q] LT)).cell? ⟨g', i * 3 + 1, none⟩ = some (.string (str x.t)) := (HA.out.cell (p := ⟨g', i * 3 + 1, none⟩) hg').trans y1
      have z2 : (wr.alloc (.cells #[.int .i64 (x.n : Int), .string (str x.t), .bool x.q] LT)).cell? ⟨g', i * 3 + 2, none⟩ = some (.bool x.q) := (HA.out.cell (p := ⟨g', i * 3 + 2, none⟩) hg').trans y2
      have hki : (i : Int) < L.length := by omega
      have hk0 : (0 : Int) ≤ (i : Int) := Int.natCast_nonneg _
      clear x0 x1 x2 y0 y1 y2 hx
      go_wp2_with fail
      go_quiet (fail)
      go_wp2_with fail
      go_roundw
      case rel => exact ⟨i + 1, by go_num, hlt, below_drewN HA.out _⟩
      case measure => simp [intOf]; omega
    · have HB3 := Lib.hid hB
      have hki : ¬ (i : Int) < L.length := by omega
      go_wp2_with fail
      go_ret
      exact ⟨rfl, HB.out.trans (HB3.out.mono hsz)⟩
end Go.Proofs.YtgncnffejennfaaDoor.Iw
