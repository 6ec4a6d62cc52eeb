/-
  lines.Of; the cells of a line; lines compared.
-/
import Derived.Laws.StructEq
import Derived.Deep.QuietTactic
import Derived.Test.YtjjlafbdhpojpaaDoorIEach
namespace Go.Proofs.YtjjlafbdhpojpaaDoor.Iw
open Go.RowKit Go.Proofs.YtjjlafbdhpojpaaDoor Go.Proofs.YtjjlafbdhpojpaaDoor.Ww
set_option maxRecDepth 100000

/-- A line, as a value of either type. -/
def lineV (x : Ip.L) : Value := .agg #[.int .i64 (x.n : Int), .string (str x.t), .bool x.q]
theorem fieldsT : Tryd.prog.underlying LT = some (.struct (Tryd.prog.fieldsOf LT)) := by kernel_rfl
theorem fieldsTL : (Tryd.prog.fieldsOf LT).toList.map (fun f => (f.name, f.type, f.offset)) = [("Number", 3, 0), ("Text", ST, 1), ("Recipe", 4, 2)] := by kernel_rfl
theorem eq_line (T : TypeId) (hu : Tryd.prog.underlying T = some (.struct (Tryd.prog.fieldsOf T))) (hf : (Tryd.prog.fieldsOf T).toList.map (fun f => (f.name, f.type, f.offset)) = [("Number", 3, 0), ("Text", ST, 1), ("Recipe", 4, 2)])
    (hp : Tryd.prog.stoodInHeld T = false) (w : World) (n n' : Int) (t t' : ByteArray) (q q' : Bool) :
    (Op.equalIn 10000 T (.agg #[.int .i64 n, .string t, .bool q]) (.agg #[.int .i64 n', .string t', .bool q'])).run Tryd.prog w = .ok (n == n' && (t.toList == t'.toList && q == q')) w := by
  rw [run_equalIn_struct _ _ _ _ _ hu hp]
  generalize (Tryd.prog.fieldsOf T).toList = fs at hf
  obtain ⟨f1, l1, rfl, h1, hl1⟩ := List.map_eq_cons_iff.1 hf
  obtain ⟨f2, l2, rfl, h2, hl2⟩ := List.map_eq_cons_iff.1 hl1
  obtain ⟨f3, l3, rfl, h3, hl3⟩ := List.map_eq_cons_iff.1 hl2
  obtain rfl := List.map_eq_nil_iff.1 hl3
  simp only [Prod.mk.injEq] at h1 h2 h3
  obtain ⟨n1, t1, o1⟩ := h1
  obtain ⟨n2, t2, o2⟩ := h2
  obtain ⟨n3, t3, o3⟩ := h3
  unfold Op.eqFields Op.eqFields Op.eqFields Op.eqFields
  rw [n1, n2, n3, t1, t2, t3, o1, o2, o3]
  simp [go_sem, part]
  by_cases h1 : n = n' <;> by_cases h2 : t.toList = t'.toList <;> by_cases h3 : q = q' <;> simp [h1, h2, h3]
theorem neq_T (x : Ip.L) (w : World) : (binOp .neq LT (.agg #[.int .i64 (x.n : Int), .string (str x.t), .bool x.q]) (.agg #[.int .i64 (x.n : Int), .string (str x.t), .bool x.q])).run Tryd.prog w = .ok (.bool false) w := by
  rw [run_neq_struct, eq_line LT fieldsT fieldsTL (by kernel_rfl)]; simp [Result.andThen]
theorem eql_T (n : Int) (t : ByteArray) (q : Bool) (w : World) : (binOp .eql LT (.agg #[.int .i64 n, .string t, .bool q]) (.agg #[.int .i64 n, .string t, .bool q])).run Tryd.prog w = .ok (.bool true) w := by
  rw [run_eql_struct, eq_line LT fieldsT fieldsTL (by kernel_rfl)]; simp [Result.andThen]
theorem guardT : Tryd.prog.eqGuardType Tryd.prog.depth LT = false := by kernel_rfl

set_option maxHeartbeats 1000000 in
theorem Of_any (w : World) (s : ByteArray) (hs : s.size ≤ 100000) :
    Calls Tryd.prog 13 #[.string s] w fun e w' => ∃ a c, e = .returned (.slice a (Ip.linesA (by8 s)).length c) ∧ w'.ownsRow (w.heap.size + 1) LT 3 (.slice a (Ip.linesA (by8 s)).length c) (Ip.linesA (by8 s)).length (linesC (Ip.linesA (by8 s))) ∧ Below w.heap.size w w' := by
  have HE := Lib.hid (each_any (w.alloc (.cells #[.slice none 0 0] LS)) w.heap.size s hs ⟨_, Boxed.new w LS _, World.ownsRow_nil _ _ _ _⟩)
  go_enter Tryd.func13, Tryd.ntmps13
  go_wp2_with fail
  refine HE.out.mono ?_
  rintro e w' ⟨rfl, ⟨v, hv, hr⟩, hB⟩
  have c0 := hv.cell
  obtain ⟨a, c, rfl⟩ := owns_slice hr
  go_wp2_with fail
  go_ret
  exact ⟨a, c, rfl, hr, Below.trans ((Below.refl _ _).alloc (Nat.le_refl _) _) hB⟩

theorem line_cells {w : World} {B : Nat} {T : TypeId} {a : Option Addr} {c : Nat} {l : List Ip.L} (h : w.ownsRow B T 3 (.slice a l.length c) l.length (linesC l)) {i : Nat} (hi : i < l.length) :
    ∃ g, a = some ⟨g, 0, none⟩ ∧ l.length ≤ c ∧ g < w.heap.size ∧ B ≤ g ∧ w.cell? ⟨g, i * 3, none⟩ = some (.int .i64 (l[i].n : Int)) ∧ w.cell? ⟨g, i * 3 + 1, none⟩ = some (.string (str l[i].t)) ∧ w.cell? ⟨g, i * 3 + 2, none⟩ = some (.bool l[i].q) := by
  have hcell : ∀ (l : List Ip.L) (i : Nat) (hi : i < l.length), (linesC l)[i * 3]? = some (.int .i64 (l[i].n : Int)) ∧ (linesC l)[i * 3 + 1]? = some (.string (str l[i].t)) ∧ (linesC l)[i * 3 + 2]? = some (.bool l[i].q) := by
    intro l
    induction l with
    | nil => intro i hi; simp at hi
    | cons x l ih =>
      intro i hi
      have e : linesC (x :: l) = lineC x ++ linesC l := rfl
      cases i with
      | zero => exact ⟨rfl, rfl, rfl⟩
      | succ i =>
        obtain ⟨h1, h2, h3⟩ := ih i (by simpa using hi)
        rw [e, show (i + 1) * 3 = (lineC x).length + i * 3 by show _ = 3 + i * 3; omega]
        rw [Nat.add_assoc, Nat.add_assoc, List.getElem?_append_right (by omega), List.getElem?_append_right (by omega), List.getElem?_append_right (by omega)]
        simp only [Nat.add_sub_cancel_left, List.getElem_cons_succ]
        exact ⟨h1, h2, h3⟩
  obtain ⟨h1, h2, h3⟩ := hcell l i hi
  obtain ⟨hl, hr⟩ := id h
  rcases hr with ⟨hn, h0⟩ | ⟨g, cap, cur, hv, hb, hg, hn, hc, hs, ht⟩
  · omega
  · cases hv
    have hk := h.cells (g := g) rfl
    have k1 := hk _ _ h1
    have k2 := hk _ _ h2
    have k3 := hk _ _ h3
    rw [Addr.add_lit, Nat.zero_add] at k1 k2 k3
    exact ⟨g, rfl, hn, (Array.getElem?_eq_some_iff.1 hg).1, hb, k1, k2, k3⟩

end Go.Proofs.YtjjlafbdhpojpaaDoor.Iw
