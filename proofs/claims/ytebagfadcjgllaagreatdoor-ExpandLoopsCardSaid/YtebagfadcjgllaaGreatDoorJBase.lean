/-
  Variables in memory: a row of them, names, a table in its box.
-/
import Derived.Maps.AppendAt
import Derived.Laws.ResultCell
import Derived.Test.YtebagfadcjgllaaGreatDoorWReads
import Derived.Test.YtebagfadcjgllaaGreatDoorTBase
import Derived.Test.YtebagfadcjgllaaGreatDoorJPlain
namespace Go.Proofs.YtebagfadcjgllaaGreatDoor.Jw
open Go.RowKit Go.Proofs.YtebagfadcjgllaaGreatDoor Go.Proofs.YtebagfadcjgllaaGreatDoor.Ww Go.Proofs.YtebagfadcjgllaaGreatDoor.Tw
set_option maxRecDepth 100000

abbrev VT : TypeId := 52
abbrev TT : TypeId := 39
abbrev ST : TypeId := 9
theorem infoVT : (Tryz.prog.info? VT).map (fun i => (i.zero, i.size, i.bytes)) = some (some (.agg #[.string ByteArray.empty, .string ByteArray.empty, .bool false, .int .i64 0]), 4, 48) := by kernel_rfl
theorem infoST : (Tryz.prog.info? ST).map (fun i => (i.zero, i.size, i.bytes)) = some (some (.string ByteArray.empty), 1, 16) := by kernel_rfl
theorem sizeV : (Tryz.prog.info? VT).map (·.size) = some 4 := by kernel_rfl
theorem undV : Tryz.prog.underlying VT = some (.struct (Tryz.prog.fieldsOf VT)) := by kernel_rfl
theorem sizeT : (Tryz.prog.info? TT).map (·.size) = some 4 := by kernel_rfl
theorem undT : Tryz.prog.underlying TT = some (.struct (Tryz.prog.fieldsOf TT)) := by kernel_rfl
theorem info_parts {P : Program} {t : TypeId} {z : Value} {s b : Nat} (h : (P.info? t).map (fun i => (i.zero, i.size, i.bytes)) = some (some z, s, b)) : ∃ i, P.info? t = some i ∧ i.zero = some z ∧ i.size = s ∧ i.bytes = b := by
  rw [Option.map_eq_some_iff] at h
  obtain ⟨i, hi, e⟩ := h
  simp only [Prod.mk.injEq] at e
  exact ⟨i, hi, e.1, e.2.1, e.2.2⟩
/-- A variable's cells. -/
def vC (v : Jp.V) : List Value := [.string (str v.n), .string (str v.x), .bool v.s, .int .i64 v.f]
def vA (v : Jp.V) : Array Value := #[.string (str v.n), .string (str v.x), .bool v.s, .int .i64 v.f]
def vsC (l : List Jp.V) : List Value := l.flatMap vC
theorem vsC_snoc (l : List Jp.V) (v : Jp.V) : vsC (l ++ [v]) = vsC l ++ vC v := by simp [vsC]
theorem vsC_get : ∀ {l : List Jp.V} {k j : Nat} (h : k < l.length), j < 4 → (vsC l)[k * 4 + j]? = (vC l[k])[j]?
  | x :: r, k, j, h, hj => by
    show (vC x ++ vsC r)[k * 4 + j]? = _
    have hl : (vC x).length = 4 := rfl
    cases k with
    | zero => rw [Nat.zero_mul, Nat.zero_add, List.getElem?_append_left (by omega)]; rfl
    | succ k =>
      rw [List.getElem?_append_right (by omega), hl, show (k + 1) * 4 + j - 4 = k * 4 + j by omega]
      exact vsC_get (by simpa using h) hj
/-- The cells of a row of variables. -/
theorem var_cells {w : World} {B : Nat} {a : Option Addr} {c : Nat} {l : List Jp.V} (h : w.ownsRow B VT 4 (.slice a l.length c) l.length (vsC l)) {i : Nat} (hi : i < l.length) :
    ∃ g, a = some ⟨g, 0, none⟩ ∧ l.length ≤ c ∧ g < w.heap.size ∧ B ≤ g ∧ w.cell? ⟨g, i * 4, none⟩ = some (.string (str l[i].n)) ∧ w.cell? ⟨g, i * 4 + 1, none⟩ = some (.string (str l[i].x)) ∧ w.cell? ⟨g, i * 4 + 2, none⟩ = some (.bool l[i].s) ∧ w.cell? ⟨g, i * 4 + 3, none⟩ = some (.int .i64 l[i].f) := by
  obtain ⟨hl, hr⟩ := id h
  rcases hr with ⟨hn, h0⟩ | ⟨g, cap, cur, hv, hb, hg, hn, hc, hs, ht⟩
  · omega
  · cases hv
    have hk : ∀ j u, j < 4 → (vC l[i])[j]? = some u → w.cell? ⟨g, i * 4 + j, none⟩ = some u := fun j u hj hu => by
      have := h.cells (g := g) rfl (i * 4 + j) u (by rw [vsC_get hi hj]; exact hu)
      rw [Addr.add_lit, Nat.zero_add] at this
      exact this
    exact ⟨g, rfl, hn, (Array.getElem?_eq_some_iff.1 hg).1, hb, hk 0 _ (by decide) rfl, hk 1 _ (by decide) rfl, hk 2 _ (by decide) rfl, hk 3 _ (by decide) rfl⟩
/-- Names. -/
def nC (l : List Bs) : List Value := l.map fun x => Value.string (str x)
theorem nC_snoc (l : List Bs) (x : Bs) : nC (l ++ [x]) = nC l ++ [.string (str x)] := by simp [nC]
theorem nC_get {l : List Bs} {i : Nat} (h : i < l.length) : (nC l)[i]? = some (.string (str l[i])) := by simp [nC, h]
theorem name_cell {w : World} {B : Nat} {a : Option Addr} {c : Nat} {l : List Bs} (h : w.ownsRow B ST 1 (.slice a l.length c) l.length (nC l)) {i : Nat} (hi : i < l.length) :
    ∃ g, a = some ⟨g, 0, none⟩ ∧ l.length ≤ c ∧ g < w.heap.size ∧ B ≤ g ∧ w.cell? ⟨g, i, none⟩ = some (.string (str l[i])) := by
  obtain ⟨hl, hr⟩ := id h
  rcases hr with ⟨hn, h0⟩ | ⟨g, cap, cur, hv, hb, hg, hn, hc, hs, ht⟩
  · omega
  · cases hv
    have := h.cells (g := g) rfl i _ (nC_get hi)
    rw [Addr.add_lit, Nat.zero_add] at this
    exact ⟨g, rfl, hn, (Array.getElem?_eq_some_iff.1 hg).1, hb, this⟩
theorem cell_at {w : World} {n i : Nat} {cs : Array Value} {T : TypeId} {v : Value} (h : w.heap[n]? = some (.cells cs T (0, 0))) (hv : cs[i]? = some v) : w.cell? ⟨n, i, none⟩ = some v := by simp [World.cell?, h, hv]
theorem frozen_at {w : World} {n : Nat} {cs : Array Value} {T : TypeId} (h : w.heap[n]? = some (.cells cs T (0, 0))) (i : Nat) : w.frozen? ⟨n, i, none⟩ = false := by simp [World.frozen?, h]
theorem heap_set {w : World} {b i : Nat} {cs : Array Value} {T : TypeId} (h : w.heap[b]? = some (.cells cs T (0, 0))) (v : Value) : (w.setCell ⟨b, i, none⟩ v).heap[b]? = some (.cells (cs.setIfInBounds i v) T (0, 0)) := by
  have hb : b < w.heap.size := (Array.getElem?_eq_some_iff.1 h).1
  have hb' : w.heap[b] = .cells cs T (0, 0) := by have := Array.getElem?_eq_getElem hb; rw [h] at this; exact (Option.some.inj this).symm
  simp [World.setCell, Array.getElem?_modify, h]
theorem owns_below {wr w3 : World} {base : Nat} {e : TypeId} {z : Nat} {v : Value} {n : Nat} {xs : List Value} (h : wr.ownsRow base e z v n xs) (B : Below wr.heap.size wr w3) : w3.ownsRow base e z v n xs := by
  obtain ⟨hl, hr⟩ := h
  refine ⟨hl, ?_⟩
  rcases hr with hr | ⟨g, cap, cur, hv, hb, hg, hrest⟩
  · exact .inl hr
  · exact .inr ⟨g, cap, cur, hv, hb, (B.block g (Array.getElem?_eq_some_iff.1 hg).1).trans hg, hrest⟩
theorem own_mono {w : World} {B B' : Nat} {e : TypeId} {z : Nat} {v : Value} {n : Nat} {xs : List Value} (h : w.ownsRow B e z v n xs) (hB : B' ≤ B) : w.ownsRow B' e z v n xs := by
  refine ⟨h.1, ?_⟩
  rcases h.2 with h | ⟨g, cap, cur, h1, h2, h3⟩
  · exact .inl h
  · exact .inr ⟨g, cap, cur, h1, Nat.le_trans hB h2, h3⟩
theorem heap_last (w : World) (o : Obj) : (w.alloc o).heap[w.heap.size]? = some o := Array.getElem?_push_size
theorem cells_new (w : World) (cs : Array Value) (T : TypeId) {n : Nat} (hn : w.heap.size = n) : ∀ (j : Nat) (u : Value), cs.toList[j]? = some u → (w.alloc (.cells cs T)).cell? ((⟨n, 0, none⟩ : Addr).add j) = some u := by
  subst hn
  intro j u hj
  have hlt : j < cs.size := by have := (List.getElem?_eq_some_iff.1 hj).1; simpa using this
  rw [Addr.add_lit, World.cell?_alloc_at _ _ _ _ (by simp)]
  simp at hj ⊢; exact hj
/-- The answer's box, and a value. -/
theorem results_two {P : Program} {fn : Func} {p q : Tmp} {ty : TypeId} (h : fn.results = #[.cell p ty, .tmp q]) (tmps : Array Value) (w : World) (g : Nat) (t : TypeId) (cs : Array Value) (fr : Nat × Nat) (d : TypeDesc) (r : Value)
    (hp : tmps.getD p undef = .pointer (some ⟨g, 0, none⟩)) (hq : tmps.getD q undef = r) (hg : w.heap[g]? = some (.cells cs t fr))
    (hu : P.underlying ty = some d) (hd : (match d with | .struct _ | .array _ _ => true | _ => false) = true) (hi : (P.info? ty).map (·.size) = some cs.size) :
    (results fn tmps).run P w = .ok (.tuple #[.agg cs, r]) w := by
  have hp' : tmps[p]?.getD undef = .pointer (some ⟨g, 0, none⟩) := by simpa using hp
  have hq' : tmps[q]?.getD undef = r := by simpa using hq
  simp [results, h, hp', hq', asAddr, run_loadVar_row w g t ty cs fr d hg hu hd hi, Result.andThen]
end Go.Proofs.YtebagfadcjgllaaGreatDoor.Jw
