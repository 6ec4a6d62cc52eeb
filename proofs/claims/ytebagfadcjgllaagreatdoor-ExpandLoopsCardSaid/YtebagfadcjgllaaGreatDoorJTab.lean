/-
  A table of variables in memory: its box, its two maps, the builders of the texts that have grown.
-/
import Derived.Test.YtebagfadcjgllaaGreatDoorJBuild0
namespace Go.Proofs.YtebagfadcjgllaaGreatDoor.Jw
open Go.RowKit Go.Proofs.YtebagfadcjgllaaGreatDoor Go.Proofs.YtebagfadcjgllaaGreatDoor.Ww Go.Proofs.YtebagfadcjgllaaGreatDoor.Tw Go.Proofs.YtebagfadcjgllaaGreatDoor.Kw
set_option maxRecDepth 100000

abbrev PT : TypeId := 75
abbrev PV : TypeId := 31
abbrev PK : TypeId := 70
/-- What the table keeps: a variable, and the builder of its text. -/
structure KE where
  v : Jp.V
  g : Option Nat
def gP (g : Option Nat) : Value := .pointer (g.map fun b => ⟨b, 0, none⟩)
def keV (e : KE) : Value := .agg #[.string (str e.v.n), .string (str e.v.x), .bool e.v.s, .int .i64 e.v.f, gP e.g]
def keD (e : KE) : DataW Unit := .agg [.lit (.string e.v.n), .lit (.string e.v.x), .lit (.bool e.v.s), .lit (.int .i64 e.v.f), match e.g with | none => .nil | some b => .lit (.int .i64 (b : Int))]
def keElem : Value → Option (DataW Unit × List MemPlace)
  | .agg cs => match cs.toList with
    | [.string n, .string x, .bool s, .int .i64 f, .pointer none] => some (keD ⟨⟨by8 n, by8 x, s, f⟩, none⟩, [])
    | [.string n, .string x, .bool s, .int .i64 f, .pointer (some ⟨b, 0, none⟩)] => some (keD ⟨⟨by8 n, by8 x, s, f⟩, some b⟩, [])
    | _ => none
  | _ => none
theorem keElem_mk (e : KE) : keElem (keV e) = some (keD e, []) := by
  obtain ⟨v, g⟩ := e
  cases g with
  | none => rfl
  | some b => rfl
theorem keElem_inv (v : Value) (z : DataW Unit × List MemPlace) (h : keElem v = some z) : ∃ e, v = keV e ∧ z = (keD e, []) := by
  unfold keElem at h
  split at h
  · rename_i cs
    split at h
    · rename_i n x s f e
      cases h
      refine ⟨⟨⟨by8 n, by8 x, s, f⟩, none⟩, ?_, rfl⟩
      unfold keV
      congr 1
      exact Array.toList_inj.1 e
    · rename_i n x s f b e
      cases h
      refine ⟨⟨⟨by8 n, by8 x, s, f⟩, some b⟩, ?_, rfl⟩
      unfold keV
      congr 1
      exact Array.toList_inj.1 e
    · cases h
  · cases h
theorem keD_inj (a b : KE) (h : keD a = keD b) : a = b := by
  obtain ⟨⟨n, x, s, f⟩, g⟩ := a
  obtain ⟨⟨n', x', s', f'⟩, g'⟩ := b
  unfold keD at h
  simp only [DataW.agg.injEq, List.cons.injEq, DataW.lit.injEq, Lit.string.injEq, Lit.int.injEq, Lit.bool.injEq, and_true, true_and] at h
  obtain ⟨rfl, rfl, rfl, rfl, h⟩ := h
  have : g = g' := by
    cases g with
    | none =>
      cases g' with
      | none => rfl
      | some b => cases h
    | some a =>
      cases g' with
      | none => cases h
      | some b => simp at h; rw [Int.ofNat.inj h]
  rw [this]
def ke0 : KE := ⟨⟨[], [], false, 0⟩, none⟩
def KK : Kind KE := ⟨72, 70, keV, keD, keElem, ke0, keElem_mk, keElem_inv, keD_inj, Tryz.underlying72, fun w => by kernel_rfl⟩
/-- What was chosen for a name. -/
def chV (n : Int) : Value := .int .i64 n
def chD (n : Int) : DataW Unit := .lit (.int .i64 n)
def chElem : Value → Option (DataW Unit × List MemPlace)
  | .int .i64 n => some (chD n, [])
  | _ => none
theorem chElem_inv (v : Value) (z : DataW Unit × List MemPlace) (h : chElem v = some z) : ∃ n, v = chV n ∧ z = (chD n, []) := by
  unfold chElem at h
  split at h
  · cases h; exact ⟨_, rfl, rfl⟩
  · cases h
def CK : Kind Int := ⟨73, 241, chV, chD, chElem, 0, fun _ => rfl, chElem_inv, fun a b h => by unfold chD at h; simpa using h, Tryz.underlying73, fun w => by kernel_rfl⟩

/-- The builders of a table's texts; O k are the blocks of the one at k. -/
structure Grown (w : World) (E : List (Bs × KE)) (O : Bs → List Nat) : Prop where
  at_ : ∀ e ∈ E, ∀ b, e.2.g = some b → ∃ pv bv, BldAt w b (O e.1) e.2.v.x pv bv
  apart : ∀ e ∈ E, ∀ e' ∈ E, e.1 ≠ e'.1 → e.2.g ≠ none → e'.2.g ≠ none → ∀ i ∈ O e.1, i ∉ O e'.1
/-- A table. -/
structure TabAt (w : World) (tb : Nat) (X : List Nat) (E : List (Bs × KE)) (M : List (Bs × Int)) (all : Bool) (mv mn : Option Nat) (O : Bs → List Nat) : Prop where
  cells : w.heap[tb]? = some (.cells #[.map mv, .map mn, .bool all] PT (0, 0))
  vars : MOpt KK w mv E
  named : MOpt CK w mn M
  ne : ∀ b, mv = some b → mn ≠ some b
  keys : ∀ e ∈ E, e.1 = e.2.v.n
  grown : Grown w E O
  tX : tb ∈ X
  vX : ∀ b, mv = some b → b ∈ X
  nX : ∀ b, mn = some b → b ∈ X
  oX : ∀ e ∈ E, e.2.g ≠ none → ∀ i ∈ O e.1, i ∈ X
/-- .. of these variables. -/
def Tab (w : World) (tb : Nat) (X : List Nat) (L : List Jp.V) (M : List (Bs × Int)) (all : Bool) : Prop := ∃ E mv mn O, TabAt w tb X E M all mv mn O ∧ E.map (fun e => e.2.v) = L

section
variable {w w' : World} {tb : Nat} {X : List Nat} {E : List (Bs × KE)} {M : List (Bs × Int)} {all : Bool} {mv mn : Option Nat} {O : Bs → List Nat} {L : List Jp.V}
theorem Grown.block (h : Grown w E O) (hb : ∀ e ∈ E, e.2.g ≠ none → ∀ i ∈ O e.1, w'.heap[i]? = w.heap[i]?) : Grown w' E O :=
  ⟨fun e he b hg => by
    obtain ⟨pv, bv, hB⟩ := h.at_ e he b hg
    exact ⟨pv, bv, hB.block (hb e he (by rw [hg]; simp))⟩, h.apart⟩
theorem Grown.ltO (h : Grown w E O) : ∀ e ∈ E, e.2.g ≠ none → ∀ i ∈ O e.1, i < w.heap.size := fun e he hg i hi => by
  cases hq : e.2.g with
  | none => exact absurd hq hg
  | some b =>
    obtain ⟨pv, bv, hB⟩ := h.at_ e he b hq
    exact hB.ltO i hi
/-- Such blocks are no tables and no maps. -/
theorem Grown.kind (h : Grown w E O) : ∀ e ∈ E, e.2.g ≠ none → ∀ i ∈ O e.1, ∃ cs T fz, w.heap[i]? = some (.cells cs T fz) ∧ T ≠ PT := fun e he hg i hi => by
  cases hq : e.2.g with
  | none => exact absurd hq hg
  | some b =>
    obtain ⟨pv, bv, hB⟩ := h.at_ e he b hq
    obtain ⟨cs, T, fz, h1, h2⟩ := hB.cells_of i hi
    refine ⟨cs, T, fz, h1, ?_⟩
    rcases h2 with rfl | rfl <;> decide
theorem TabAt.lt (h : TabAt w tb X E M all mv mn O) : tb < w.heap.size := (Array.getElem?_eq_some_iff.1 h.cells).1
theorem TabAt.c0 (h : TabAt w tb X E M all mv mn O) : w.cell? ⟨tb, 0, none⟩ = some (.map mv) := cell_at h.cells rfl
theorem TabAt.c1 (h : TabAt w tb X E M all mv mn O) : w.cell? ⟨tb, 1, none⟩ = some (.map mn) := cell_at h.cells rfl
theorem TabAt.c2 (h : TabAt w tb X E M all mv mn O) : w.cell? ⟨tb, 2, none⟩ = some (.bool all) := cell_at h.cells rfl
theorem TabAt.block (h : TabAt w tb X E M all mv mn O) (hb : ∀ i ∈ X, i < w.heap.size → w'.heap[i]? = w.heap[i]?) : TabAt w' tb X E M all mv mn O :=
  ⟨(hb _ h.tX h.lt).trans h.cells, h.vars.block fun b e => hb b (h.vX b e) (h.vars.lt b e), h.named.block fun b e => hb b (h.nX b e) (h.named.lt b e), h.ne, h.keys,
    h.grown.block fun e he hg i hi => hb i (h.oX e he hg i hi) (h.grown.ltO e he hg i hi), h.tX, h.vX, h.nX, h.oX⟩
theorem TabAt.kept {Y : List Nat} (h : TabAt w tb X E M all mv mn O) (hk : Kept Y w w') (hx : ∀ i ∈ X, i ∉ Y) : TabAt w' tb X E M all mv mn O := h.block fun i hi hl => hk.block i hl (hx i hi)
theorem TabAt.below (h : TabAt w tb X E M all mv mn O) (hk : Below w.heap.size w w') : TabAt w' tb X E M all mv mn O := h.block fun i _ hl => hk.block i hl
theorem Tab.kept {Y : List Nat} (h : Tab w tb X L M all) (hk : Kept Y w w') (hx : ∀ i ∈ X, i ∉ Y) : Tab w' tb X L M all := by
  obtain ⟨E, mv, mn, O, h, e⟩ := h
  exact ⟨E, mv, mn, O, h.kept hk hx, e⟩
theorem Tab.below (h : Tab w tb X L M all) (hk : Below w.heap.size w w') : Tab w' tb X L M all := by
  obtain ⟨E, mv, mn, O, h, e⟩ := h
  exact ⟨E, mv, mn, O, h.below hk, e⟩
theorem get_map (hk : ∀ e ∈ E, e.1 = e.2.v.n) (p : Bs) : Jp.getA (E.map fun e => e.2.v) p = (Kp.get E p).map fun e => e.2.v := by
  induction E with
  | nil => rfl
  | cons a r ih =>
    have h1 := hk a (by simp)
    have ih := ih fun e he => hk e (by simp [he])
    show (if a.2.v.n = p then some a.2.v else Jp.getA (r.map fun e => e.2.v) p) = _
    unfold Kp.get
    rw [List.find?_cons]
    by_cases h : a.2.v.n = p
    · rw [if_pos h, show (a.1 == p) = true by rw [h1]; simpa using h]; rfl
    · rw [if_neg h, show (a.1 == p) = false by rw [h1]; simpa using h, ih]; rfl
end
theorem less_lt : ∀ (a b : Bs), Op.bytesLess a b = decide (a < b)
  | [], [] => by simp [Op.bytesLess]
  | [], _ :: _ => by simp [Op.bytesLess]
  | _ :: _, [] => by simp [Op.bytesLess]
  | a :: r, b :: s => by
    rw [Op.bytesLess, less_lt r s]
    simp only [List.cons_lt_cons_iff]
    by_cases h1 : a < b <;> by_cases h2 : a = b <;> by_cases h3 : r < s <;> simp [h1, h2, h3]
theorem ins_step (v x : Jp.V) (d : Bool) (r : List Jp.V) : Jp.insA v d (x :: r) = (if d = false ∧ Op.bytesLess x.n v.n = false then [v] else []) ++ (if x.n = v.n then [] else [x]) ++ Jp.insA v (d || !Op.bytesLess x.n v.n) r := rfl
theorem insA_done {v : Jp.V} : ∀ {l : List Jp.V}, (∀ x ∈ l, x.n ≠ v.n) → Jp.insA v true l = l
  | [], _ => rfl
  | x :: r, h => by
    rw [ins_step, if_neg (by simp), if_neg (h x (by simp))]
    simp [insA_done (v := v) (l := r) fun y hy => h y (by simp [hy])]
theorem ins_map {v : Jp.V} {g : Option Nat} : ∀ {E : List (Bs × KE)}, Kp.Sorted E → (∀ e ∈ E, e.1 = e.2.v.n) → (Kp.ins E (v.n, ⟨v, g⟩)).map (fun e => e.2.v) = Jp.insA v false (E.map fun e => e.2.v)
  | [], _, _ => rfl
  | a :: r, hs, hk => by
    obtain ⟨h1, h2⟩ := List.pairwise_cons.1 hs
    have ha := hk a (by simp)
    have hk' : ∀ e ∈ r, e.1 = e.2.v.n := fun e he => hk e (by simp [he])
    have ih := ins_map (v := v) (g := g) h2 hk'
    rw [List.map_cons, ins_step, less_lt, ← ha]
    unfold Kp.ins
    by_cases e1 : a.1 = v.n
    · have hd : ∀ x ∈ r.map (fun e => e.2.v), x.n ≠ v.n := fun x hx => by
        obtain ⟨e, he, rfl⟩ := List.mem_map.1 hx
        rw [← hk' e he, ← e1]
        exact fun h => Kp.lt_ne (h1 e he) h.symm
      rw [if_pos e1, if_pos e1, e1, if_pos ⟨rfl, by simp [Kp.lt_irr]⟩]
      simp [Kp.lt_irr, insA_done hd]
    · rw [if_neg e1, if_neg e1]
      by_cases e2 : v.n < a.1
      · have hn : ¬ a.1 < v.n := fun h => Kp.lt_irr _ (Kp.lt_tr e2 h)
        have hd : ∀ x ∈ r.map (fun e => e.2.v), x.n ≠ v.n := fun x hx => by
          obtain ⟨e, he, rfl⟩ := List.mem_map.1 hx
          rw [← hk' e he]
          exact fun h => Kp.lt_irr _ (Kp.lt_tr e2 (h ▸ h1 e he))
        rw [if_pos e2, if_pos ⟨rfl, by simp [hn]⟩]
        simp [hn, insA_done hd]
      · have hn : a.1 < v.n := Kp.lt_or e2 fun h => e1 h.symm
        rw [if_neg e2, if_neg (by simp [hn])]
        simp [hn, ih]
theorem MapAt.obj {α : Type} {K : Kind α} {w : World} {bm : Nat} {L : List (Bs × α)} (h : MapAt K w bm L) : ∃ es ck, w.heap[bm]? = some (.map es ck) := by
  obtain ⟨⟨es, clock, hh, _⟩, _⟩ := h
  exact ⟨es, clock, hh⟩
/-- The cells of a row of variables, whatever their type. -/
theorem var_cells2 {w : World} {B : Nat} {t : TypeId} {a : Option Addr} {c : Nat} {l : List Jp.V} (h : w.ownsRow B t 4 (.slice a l.length c) l.length (vsC l)) {i : Nat} (hi : i < l.length) :
    ∃ g, a = some ⟨g, 0, none⟩ ∧ l.length ≤ c ∧ g < w.heap.size ∧ w.cell? ⟨g, i * 4, none⟩ = some (.string (str l[i].n)) ∧ w.cell? ⟨g, i * 4 + 1, none⟩ = some (.string (str l[i].x)) ∧ w.cell? ⟨g, i * 4 + 2, none⟩ = some (.bool l[i].s) ∧ w.cell? ⟨g, i * 4 + 3, none⟩ = some (.int .i64 l[i].f) := by
  obtain ⟨hl, hr⟩ := id h
  rcases hr with ⟨hn, h0⟩ | ⟨g, cap, cur, hv, hb, hg, hn, hc, hs, ht⟩
  · omega
  · cases hv
    have hk : ∀ j u, j < 4 → (vC l[i])[j]? = some u → w.cell? ⟨g, i * 4 + j, none⟩ = some u := fun j u hj hu => by
      have := h.cells (g := g) rfl (i * 4 + j) u (by rw [vsC_get hi hj]; exact hu)
      rw [Addr.add_lit, Nat.zero_add] at this
      exact this
    exact ⟨g, rfl, hn, (Array.getElem?_eq_some_iff.1 hg).1, hk 0 _ (by decide) rfl, hk 1 _ (by decide) rfl, hk 2 _ (by decide) rfl, hk 3 _ (by decide) rfl⟩
end Go.Proofs.YtebagfadcjgllaaGreatDoor.Jw
