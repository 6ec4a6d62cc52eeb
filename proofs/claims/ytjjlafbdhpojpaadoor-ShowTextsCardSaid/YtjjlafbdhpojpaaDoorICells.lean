/-
  Cells of lines; what an append finds.
-/
import Derived.Laws.OwnMore
import Derived.Test.YtjjlafbdhpojpaaDoorIBase
namespace Go.Proofs.YtjjlafbdhpojpaaDoor.Iw
open Go.RowKit Go.Proofs.YtjjlafbdhpojpaaDoor Go.Proofs.YtjjlafbdhpojpaaDoor.Ww
set_option maxRecDepth 100000

theorem infoS : (Tryd.prog.info? ST).map (fun i => (i.zero, i.size, i.bytes)) = some (some (.string ByteArray.empty), 1, 16) := by kernel_rfl
theorem by8_add (a b : ByteArray) : by8 (a ++ b) = by8 a ++ by8 b := by simp [by8]
theorem by8_one {s : ByteArray} {i : Nat} (h : i < s.size) : by8 (s.extract i (i + 1)) = [s[i]] := by
  show (s.extract i (i + 1)).data.toList = _
  rw [ByteArray.data_extract, Array.toList_extract, List.extract_eq_take_drop]
  show ((by8 s).drop i).take (i + 1 - i) = _
  rw [by8_at h, show i + 1 - i = 1 by omega]; rfl
theorem by8_cut {o : ByteArray} {a : Bs} {c : UInt8} (h : by8 o = a ++ [c]) {n : Nat} (hn : o.size = n + 1) : by8 (o.extract 0 n) = a := by
  have hl : a.length = n := by have := congrArg List.length h; rw [by8_len, List.length_append] at this; simp at this; omega
  rw [by8_take, h, ← hl]; simp

/-- A line's three cells. -/
def lineC (x : Ip.L) : List Value := [.int .i64 (x.n : Int), .string (str x.t), .bool x.q]
def linesC (l : List Ip.L) : List Value := l.flatMap lineC
theorem linesC_app (a b : List Ip.L) : linesC (a ++ b) = linesC a ++ linesC b := by simp [linesC]
theorem linesC_len (l : List Ip.L) : (linesC l).length = l.length * 3 := by
  induction l with
  | nil => rfl
  | cons x l ih => rw [List.length_cons, show linesC (x :: l) = lineC x ++ linesC l from rfl, List.length_append, ih]; show 3 + _ = _; omega
theorem rows_ne {w : World} {b1 b2 : Nat} {e1 e2 : TypeId} {s1 s2 : Nat} {v1 v2 : Value} {n1 n2 : Nat} {x1 x2 : List Value} (h1 : w.ownsRow b1 e1 s1 v1 n1 x1) (h2 : w.ownsRow b2 e2 s2 v2 n2 x2) (hne : e1 ≠ e2) : v1.ownBlock = none ∨ v1.ownBlock ≠ v2.ownBlock := by
  rcases h1.2 with ⟨rfl, _⟩ | ⟨g, cap, cur, rfl, _, hg, _⟩
  · exact .inl rfl
  · refine .inr fun e => ?_
    rcases h2.2 with ⟨rfl, _⟩ | ⟨g', cap', cur', rfl, _, hg', _⟩
    · cases e
    · have : g = g' := by simpa [Value.ownBlock] using e
      subst this
      rw [hg] at hg'
      cases hg'
      exact hne rfl
theorem tab_no {x : ByteArray} (h : ¬ 0 < x.size) : Ip.tab (by8 x) = false := by
  rw [by8_nil (by omega)]; rfl
theorem tab_is {x : ByteArray} (h : 0 < x.size) : Ip.tab (by8 x) = decide (x[0] = 9) := by
  unfold Ip.tab
  have := by8_at h
  rw [List.drop_zero] at this
  rw [this, List.head?_cons]
  by_cases h9 : x[0] = 9
  · rw [h9]; rfl
  · rw [decide_eq_false h9, beq_eq_false_iff_ne]; simpa using h9

theorem more_end (x : ByteArray) {R : List Bs} (h : R = []) : Ip.more (by8 x) R = false := by subst h; rfl
theorem more_is {x : ByteArray} {n : Nat} (hn : x.size = n + 1) {R : List Bs} (h : R ≠ []) : Ip.more (by8 x) R = decide (x[n]'(by omega) = 92) := by
  unfold Ip.more
  have hl : (by8 x).getLast? = some (x[n]'(by omega)) := by
    rw [List.getLast?_eq_getElem?, by8_len, show x.size - 1 = n by omega]
    exact by8_get (by omega)
  have hR : R.isEmpty = false := by cases R with | nil => exact absurd rfl h | cons => rfl
  rw [hl, hR]
  by_cases h9 : x[n]'(by omega) = 92
  · rw [h9]; rfl
  · rw [decide_eq_false h9]; simpa using h9
theorem more_no {x : ByteArray} (h : ¬ 0 < x.size) (R : List Bs) : Ip.more (by8 x) R = false := by
  unfold Ip.more; rw [by8_nil (by omega)]; simp
theorem more_last {x : ByteArray} {R : List Bs} (h : Ip.more (by8 x) R = true) : ∃ a, by8 x = a ++ [92] := by
  unfold Ip.more at h
  simp only [Bool.and_eq_true, beq_iff_eq] at h
  exact List.getLast?_eq_some_iff.1 h.2
theorem add_two {acc : Bs} {t : ByteArray} (h : by8 t ≠ [] ∧ acc ≠ []) : str acc ++ ⟨#[32]⟩ ++ t = str (Ip.addA acc (by8 t)) := by
  refine by8_ext ?_
  rw [by8_add, by8_add, by8_str, by8_str]
  unfold Ip.addA
  rw [if_neg h.1, if_neg h.2]
  show acc ++ [32] ++ by8 t = _
  simp
theorem add_one {acc : Bs} {t : ByteArray} (h : ¬ (by8 t ≠ [] ∧ acc ≠ [])) : str acc ++ t = str (Ip.addA acc (by8 t)) := by
  refine by8_ext ?_
  rw [by8_add, by8_str, by8_str]
  unfold Ip.addA
  by_cases h1 : by8 t = []
  · rw [if_pos h1, h1]; simp
  · rw [if_neg h1, if_pos (Classical.not_not.1 fun h2 => h ⟨h1, h2⟩), Classical.not_not.1 fun h2 => h ⟨h1, h2⟩]; simp
theorem three_new (wr : World) (x y z : Value) (T : TypeId) : ∀ (j : Nat) (u : Value), [x, y, z][j]? = some u → (wr.alloc (.cells #[x, y, z] T)).cell? ((⟨wr.heap.size, 0, none⟩ : Addr).add j) = some u := by
  intro j u hj
  rw [Addr.add_lit, World.cell?_alloc_at _ _ _ _ (by simp)]
  match j, hj with
  | 0, hj => simpa using hj
  | 1, hj => simpa using hj
  | 2, hj => simpa using hj
theorem three_at {wr : World} {n : Nat} (h : wr.heap.size = n) (x y z : Value) (T : TypeId) : ∀ (j : Nat) (u : Value), [x, y, z][j]? = some u → (wr.alloc (.cells #[x, y, z] T)).cell? ((⟨n, 0, none⟩ : Addr).add j) = some u := by
  subst h; exact three_new wr x y z T
theorem owns_below {wr w3 : World} {base : Nat} {e : TypeId} {z : Nat} {v : Value} {n : Nat} {xs : List Value} (h : wr.ownsRow base e z v n xs) (B : Below wr.heap.size wr w3) : w3.ownsRow base e z v n xs := by
  refine ⟨h.1, ?_⟩
  rcases h.2 with h | ⟨g, cap, cur, h1, h2, h3, h4⟩
  · exact .inl h
  · exact .inr ⟨g, cap, cur, h1, h2, (B.block g (Array.getElem?_eq_some_iff.1 h3).1).trans h3, h4⟩

end Go.Proofs.YtjjlafbdhpojpaaDoor.Iw
