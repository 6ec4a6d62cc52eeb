/-
  What an expansion stands on: its box, its table, its maps; what a call may turn of it.
-/
import Derived.Test.YtebagfadcjgllaaGreatDoorJPGet
import Derived.Test.YtebagfadcjgllaaGreatDoorXAdd
namespace Go.Proofs.YtebagfadcjgllaaGreatDoor.Xw
open Go.RowKit Go.Proofs.YtebagfadcjgllaaGreatDoor Go.Proofs.YtebagfadcjgllaaGreatDoor.Ww Go.Proofs.YtebagfadcjgllaaGreatDoor.Tw Go.Proofs.YtebagfadcjgllaaGreatDoor.Kw Go.Proofs.YtebagfadcjgllaaGreatDoor.Jw Go.Proofs.YtebagfadcjgllaaGreatDoor.Xb
set_option maxRecDepth 100000

abbrev XT : TypeId := 65
/-- Maps of texts. -/
def txV (x : Bs) : Value := .string (str x)
def txD (x : Bs) : DataW Unit := .lit (.string x)
def txElem : Value → Option (DataW Unit × List MemPlace)
  | .string x => some (txD (by8 x), [])
  | _ => none
theorem txElem_inv (v : Value) (z : DataW Unit × List MemPlace) (h : txElem v = some z) : ∃ n, v = txV n ∧ z = (txD n, []) := by
  unfold txElem at h
  split at h
  · cases h; exact ⟨_, rfl, rfl⟩
  · cases h
def AK : Kind Bs := ⟨33, 9, txV, txD, txElem, [], fun _ => rfl, txElem_inv, fun a b h => by unfold txD at h; simpa using h, Tryz.underlying33, fun w => by kernel_rfl⟩
/-- Maps of what a foreach has put. -/
def bdV (x : Bs × Bool) : Value := .agg #[.string (str x.1), .bool x.2]
def bdD (x : Bs × Bool) : DataW Unit := .agg [.lit (.string x.1), .lit (.bool x.2)]
def bdElem : Value → Option (DataW Unit × List MemPlace)
  | .agg cs => match cs.toList with
    | [.string x, .bool b] => some (bdD (by8 x, b), [])
    | _ => none
  | _ => none
theorem bdElem_inv (v : Value) (z : DataW Unit × List MemPlace) (h : bdElem v = some z) : ∃ n, v = bdV n ∧ z = (bdD n, []) := by
  unfold bdElem at h
  split at h
  · rename_i cs
    split at h
    · rename_i x b e
      cases h
      refine ⟨(by8 x, b), ?_, rfl⟩
      unfold bdV
      congr 1
      exact Array.toList_inj.1 e
    · cases h
  · cases h
def LK : Kind (Bs × Bool) := ⟨62, 96, bdV, bdD, bdElem, ([], false), fun _ => rfl, bdElem_inv, fun a b h => by
  obtain ⟨a1, a2⟩ := a
  obtain ⟨b1, b2⟩ := b
  unfold bdD at h
  simpa using h, Tryz.underlying62, fun w => by kernel_rfl⟩
/-- Sets of names. -/
def usV (_ : Unit) : Value := .agg #[]
def usD (_ : Unit) : DataW Unit := .agg []
def usElem : Value → Option (DataW Unit × List MemPlace)
  | .agg cs => match cs.toList with
    | [] => some (usD (), [])
    | _ => none
  | _ => none
theorem usElem_inv (v : Value) (z : DataW Unit × List MemPlace) (h : usElem v = some z) : ∃ n, v = usV n ∧ z = (usD n, []) := by
  unfold usElem at h
  split at h
  · rename_i cs
    split at h
    · rename_i e
      cases h
      refine ⟨(), ?_, rfl⟩
      unfold usV
      congr 1
      exact Array.toList_inj.1 e
    · cases h
  · cases h
def UK : Kind Unit := ⟨63, 125, usV, usD, usElem, (), fun _ => rfl, usElem_inv, fun _ _ _ => rfl, Tryz.underlying63, fun w => by kernel_rfl⟩

/-- An entry that goes. -/
def outA (L : List (Bs × Unit)) (p : Bs) : List (Bs × Unit) := L.filter fun f => !(f.1 == p)
theorem del_mapOf (L : List (Bs × Unit)) (p : Bs) : (Kp.mapOf usD L).del (.string p) = Kp.mapOf usD (outA L p) := by
  unfold outA Kp.mapOf DataW.del
  simp only []
  congr 1
  rw [List.filter_map]
  rfl
theorem sorted_out {L : List (Bs × Unit)} (h : Kp.Sorted L) (p : Bs) : Kp.Sorted (outA L p) := List.Pairwise.filter _ h
theorem out_ins : ∀ {L : List (Bs × Unit)} {p : Bs}, (∀ f ∈ L, f.1 ≠ p) → outA (Kp.ins L (p, ())) p = L
  | [], p, _ => by simp [Kp.ins, outA]
  | g :: r, p, h => by
    have h1 := h g (by simp)
    have ih := out_ins (L := r) (p := p) fun f hf => h f (by simp [hf])
    have hr : outA r p = r := List.filter_eq_self.2 fun f hf => by simpa using h f (by simp [hf])
    unfold Kp.ins
    rw [if_neg h1]
    split
    · show outA ((p, ()) :: g :: r) p = g :: r
      unfold outA at hr ⊢
      rw [List.filter_cons, if_neg (by simp), List.filter_cons, if_pos (by simpa using h1), hr]
    · unfold outA at ih ⊢
      rw [List.filter_cons, if_pos (by simpa using h1), ih]

section
variable (xb tb ab lb yb : Nat) (gv kv : Value) (X : List Nat) (L : List Jp.V)
/-- The cells of an expansion. -/
def xC (d : Int) : Array Value := #[.pointer (some ⟨tb, 0, none⟩), .map (some ab), gv, kv, .map (some lb), .map (some yb), .int .i64 d]
/-- An expansion in memory: so deep, these names busy. -/
structure Cx (w : World) (d : Int) (B : List (Bs × Unit)) : Prop where
  box : w.heap[xb]? = some (.cells (xC tb ab lb yb gv kv d) XT (0, 0))
  tab : Tab w tb X L [] false
  auto : MapAt AK w ab []
  loops : MapAt LK w lb []
  busy : MapAt UK w yb B
  na : ab ≠ yb
  nl : lb ≠ yb
  nx : xb ∉ X
  ny : yb ∉ X
end
section
variable {xb tb ab lb yb : Nat} {gv kv : Value} {X : List Nat} {L : List Jp.V} {w w' : World} {d : Int} {B : List (Bs × Unit)}
theorem Cx.lt (h : Cx xb tb ab lb yb gv kv X L w d B) : xb < w.heap.size := (Array.getElem?_eq_some_iff.1 h.box).1
theorem Cx.nya (h : Cx xb tb ab lb yb gv kv X L w d B) : yb ≠ xb := MapAt.not_cells h.busy h.box
theorem Cx.naa (h : Cx xb tb ab lb yb gv kv X L w d B) : ab ≠ xb := MapAt.not_cells h.auto h.box
theorem Cx.nla (h : Cx xb tb ab lb yb gv kv X L w d B) : lb ≠ xb := MapAt.not_cells h.loops h.box
/-- The same, whatever else was made. -/
theorem Cx.below (h : Cx xb tb ab lb yb gv kv X L w d B) (hB : Below w.heap.size w w') : Cx xb tb ab lb yb gv kv X L w' d B :=
  ⟨(hB.block _ h.lt).trans h.box, h.tab.below hB, MapAt.below h.auto hB, MapAt.below h.loops hB, MapAt.below h.busy hB, h.na, h.nl, h.nx, h.ny⟩
theorem Cx.kept {Y : List Nat} (h : Cx xb tb ab lb yb gv kv X L w d B) (hk : Kept Y w w') (hY : ∀ i ∈ Y, w.heap.size ≤ i) : Cx xb tb ab lb yb gv kv X L w' d B :=
  h.below (hk.to_below (Nat.le_refl _) hY)
/-- Its depth, turned. -/
theorem Cx.deep (h : Cx xb tb ab lb yb gv kv X L w d B) (e : Int) : Cx xb tb ab lb yb gv kv X L (w.setCell ⟨xb, 6, none⟩ (.int .i64 e)) e B :=
  ⟨heap_set (i := 6) h.box _, h.tab.kept ((Kept.refl [xb] w).setCell (.inl (by simp)) _) (fun i hi e => h.nx (List.mem_singleton.1 e ▸ hi)), MapAt.setCell h.auto (p := ⟨xb, 6, none⟩) h.naa _, MapAt.setCell h.loops (p := ⟨xb, 6, none⟩) h.nla _, MapAt.setCell h.busy (p := ⟨xb, 6, none⟩) h.nya _, h.na, h.nl, h.nx, h.ny⟩
/-- What is behind a call that turns the expansion alone, and leaves its depth and its names as they were. -/
theorem Cx.turn (h : Cx xb tb ab lb yb gv kv X L w d B) {e : Int} {B' : List (Bs × Unit)} (hk : Kept [xb, yb] w w') (hb : w'.heap[xb]? = some (.cells (xC tb ab lb yb gv kv e) XT (0, 0))) (hy : MapAt UK w' yb B') : Cx xb tb ab lb yb gv kv X L w' e B' :=
  ⟨hb, h.tab.kept hk (fun i hi e => by
    rcases List.mem_cons.1 e with rfl | e
    · exact h.nx hi
    · exact h.ny (List.mem_singleton.1 e ▸ hi)), MapAt.kept h.auto hk (by simp [h.na, h.naa]), MapAt.kept h.loops hk (by simp [h.nl, h.nla]), hy, h.na, h.nl, h.nx, h.ny⟩
theorem Cx.cells (h : Cx xb tb ab lb yb gv kv X L w d B) : w.cell? ⟨xb, 0, none⟩ = some (.pointer (some ⟨tb, 0, none⟩)) ∧ w.cell? ⟨xb, 1, none⟩ = some (.map (some ab)) ∧ w.cell? ⟨xb, 3, none⟩ = some kv ∧ w.cell? ⟨xb, 4, none⟩ = some (.map (some lb)) ∧ w.cell? ⟨xb, 5, none⟩ = some (.map (some yb)) ∧ w.cell? ⟨xb, 6, none⟩ = some (.int .i64 d) :=
  ⟨cell_at h.box rfl, cell_at h.box rfl, cell_at h.box rfl, cell_at h.box rfl, cell_at h.box rfl, cell_at h.box rfl⟩
end

/-- An expansion on its way: what was when it began, and what is now. -/
structure On (xb tb ab lb yb : Nat) (gv kv : Value) (X : List Nat) (L : List Jp.V) (w : World) (d0 : Int) (B0 : List (Bs × Unit)) (W : World) (d : Int) (B : List (Bs × Unit)) : Prop where
  h0 : Cx xb tb ab lb yb gv kv X L w d0 B0
  cx : Cx xb tb ab lb yb gv kv X L W d B
  k : Kept [xb, yb] w W
section
variable {xb tb ab lb yb : Nat} {gv kv : Value} {X : List Nat} {L : List Jp.V} {w W W' : World} {d0 d d' : Int} {B0 B B' : List (Bs × Unit)}
theorem On.refl (h : Cx xb tb ab lb yb gv kv X L w d B) : On xb tb ab lb yb gv kv X L w d B w d B := ⟨h, h, Kept.refl _ _⟩
theorem On.lt (h : On xb tb ab lb yb gv kv X L w d0 B0 W d B) : xb < w.heap.size ∧ yb < w.heap.size ∧ w.heap.size ≤ W.heap.size := ⟨h.h0.lt, h.h0.busy.lt, h.k.size⟩
theorem On.fresh {Y : List Nat} (h : On xb tb ab lb yb gv kv X L w d0 B0 W d B) (hk : Kept Y W W') (hY : ∀ i ∈ Y, w.heap.size ≤ i) : On xb tb ab lb yb gv kv X L w d0 B0 W' d B := by
  have hK : Kept [xb, yb] w W' := ⟨hk.os.trans h.k.os, hk.tape.trans h.k.tape, hk.output.trans h.k.output, Nat.le_trans h.k.size hk.size, fun i hi hx => (hk.block i (Nat.lt_of_lt_of_le hi h.k.size) (fun e => by have := hY i e; omega)).trans (h.k.block i hi hx)⟩
  have hx : xb ∉ Y := fun e => by have := hY xb e; have := h.h0.lt; omega
  have hy : yb ∉ Y := fun e => by have := hY yb e; have := h.h0.busy.lt; omega
  exact ⟨h.h0, h.h0.turn hK ((hk.block xb h.cx.lt hx).trans h.cx.box) (MapAt.kept h.cx.busy hk hy), hK⟩
theorem On.below (h : On xb tb ab lb yb gv kv X L w d0 B0 W d B) (hB : Below W.heap.size W W') : On xb tb ab lb yb gv kv X L w d0 B0 W' d B := h.fresh (Kept.of_below (X := []) hB) (by simp)
theorem On.deep (h : On xb tb ab lb yb gv kv X L w d0 B0 W d B) (e : Int) : On xb tb ab lb yb gv kv X L w d0 B0 (W.setCell ⟨xb, 6, none⟩ (.int .i64 e)) e B :=
  ⟨h.h0, h.cx.deep e, h.k.trans ((Kept.refl _ W).setCell (.inl (by simp)) _)⟩
theorem On.call (h : On xb tb ab lb yb gv kv X L w d0 B0 W d B) (hC : Cx xb tb ab lb yb gv kv X L W' d' B') (hk : Kept [xb, yb] W W') : On xb tb ab lb yb gv kv X L w d0 B0 W' d' B' := ⟨h.h0, hC, h.k.trans hk⟩
end

section
variable (xb tb ab lb yb : Nat) (gv kv : Value) (X : List Nat) (L : List Jp.V)
/-- What a call leaves that returns a text, or fails as a loop. -/
def XPost (r : Bs → Value) (w : World) (d : Int) (B : List (Bs × Unit)) : Option Bs → Ending → World → Prop
  | some s, e, w' => e = .returned (r s) ∧ Cx xb tb ab lb yb gv kv X L w' d B ∧ Kept [xb, yb] w w'
  | none, e, w' => e = failE 7 ∧ Kept [xb, yb] w w'
def ExpandC (s : Bs) (d : Int) (B : List (Bs × Unit)) (o : Option Bs) : Prop := ∀ w, Cx xb tb ab lb yb gv kv X L w d B →
  Calls Tryz.prog 16 #[.pointer (some ⟨xb, 0, none⟩), .string (str s)] w (XPost xb tb ab lb yb gv kv X L (fun s => .string (str s)) w d B o)
def ValueC (n : Bs) (d : Int) (B : List (Bs × Unit)) (o : Option Bs) : Prop := ∀ w, Cx xb tb ab lb yb gv kv X L w d B →
  Calls Tryz.prog 41 #[.pointer (some ⟨xb, 0, none⟩), .string (str n)] w (XPost xb tb ab lb yb gv kv X L (fun s => .string (str s)) w d B o)
def InsideC (n : Bs) (d : Int) (B : List (Bs × Unit)) (o : Option Bs) : Prop := ∀ w, Cx xb tb ab lb yb gv kv X L w d B →
  Calls Tryz.prog 43 #[.pointer (some ⟨xb, 0, none⟩), .string (str n)] w (XPost xb tb ab lb yb gv kv X L (fun s => .string (str s)) w d B o)
def RefC (s rest : Bs) (d : Int) (B : List (Bs × Unit)) (o : Option Bs) : Prop := ∀ w, Cx xb tb ab lb yb gv kv X L w d B →
  Calls Tryz.prog 28 #[.pointer (some ⟨xb, 0, none⟩), .string (str s)] w (XPost xb tb ab lb yb gv kv X L (fun v => .tuple #[.string (str v), .string (str rest)]) w d B o)
end
end Go.Proofs.YtebagfadcjgllaaGreatDoor.Xw
