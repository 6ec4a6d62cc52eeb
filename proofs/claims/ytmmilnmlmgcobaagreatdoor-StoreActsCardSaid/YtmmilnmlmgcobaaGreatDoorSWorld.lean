/-
  A store in memory: its two cells, and the map that they lead to; what a call may turn.
-/
import Derived.Maps.OwnSet
import Derived.Maps.RangeWalk
import Derived.Test.YtmmilnmlmgcobaaGreatDoorSPlain
import Derived.Test.YtmmilnmlmgcobaaGreatDoorSAtom
namespace Go.Proofs.YtmmilnmlmgcobaaGreatDoor.Sw
open Go.RowKit Go.Proofs.YtmmilnmlmgcobaaGreatDoor Go.Maps
set_option maxRecDepth 100000

abbrev F := Sp.F
/-- A file, as a value; as its cells. -/
def fV (f : F) : Value := .agg #[.string (str f.p), .string (str f.t), .int .i64 f.c, .bool f.d]
def fC (f : F) : List Value := [.string (str f.p), .string (str f.t), .int .i64 f.c, .bool f.d]
/-- How it reads. -/
def fElem : Value → Option (DataW Unit × List MemPlace)
  | .agg cs => match cs.toList with
    | [.string p, .string t, .int .i64 c, .bool d] => some (Sp.fD ⟨bs p, bs t, c, d⟩, [])
    | _ => none
  | _ => none
theorem fElem_mk (f : F) : fElem (fV f) = some (Sp.fD f, []) := rfl
theorem fElem_inv {v : Value} {z : DataW Unit × List MemPlace} (h : fElem v = some z) : ∃ f, v = fV f ∧ z = (Sp.fD f, []) := by
  unfold fElem at h
  split at h
  · rename_i cs
    split at h
    · rename_i p t c d e
      cases h
      refine ⟨⟨bs p, bs t, c, d⟩, ?_, rfl⟩
      unfold fV
      rw [str_bs, str_bs]
      congr 1
      exact Array.toList_inj.1 e
    · cases h
  · cases h

theorem key : Keyed Tryz.prog 9 := string_keyed Tryz.underlying9
theorem key_of {p : ByteArray} (h : p.size ≤ maxLen) : keyOf Tryz.prog 9 (.string p) = some (.string (bs p)) := WideMaps.keyOf_string_mk Tryz.underlying9 h
/-- No file. -/
def noF : F := ⟨[], [], 0, false⟩
theorem zeroF (w : World) : (zeroValue 26).run Tryz.prog w = .ok (fV noF) w := by kernel_rfl

/-- Block bm is a map with these files. -/
structure MapAt (w : World) (bm : Nat) (L : List F) : Prop where
  own : w.ownsMap Tryz.prog 9 fElem bm L.length (Sp.mapOf L)
  sorted : Sp.Sorted L

theorem own_exact {w : World} {b n : Nat} {D : DataW Unit} (h : w.ownsMap Tryz.prog 9 fElem b n D) : w.ownsMap Tryz.prog 9 fElem b (Maps.size D) D := by
  obtain ⟨es, clock, hb, Ft, _, rfl⟩ := h
  exact ⟨es, clock, hb, Ft, by simp [Maps.size, length_sorted], rfl⟩

theorem MapAt.of_own {w : World} {bm n : Nat} {L : List F} (h : w.ownsMap Tryz.prog 9 fElem bm n (Sp.mapOf L)) (hs : Sp.Sorted L) : MapAt w bm L := by
  have := own_exact h
  rw [Sp.size_mapOf] at this
  exact ⟨this, hs⟩

/-- What a call may turn: these blocks, and new ones. -/
structure Kept (X : List Nat) (w w' : World) : Prop where
  os : w'.os = w.os
  tape : w'.tape = w.tape
  output : w'.output = w.output
  size : w.heap.size ≤ w'.heap.size
  block : ∀ i, i < w.heap.size → i ∉ X → w'.heap[i]? = w.heap[i]?

theorem Kept.refl (X : List Nat) (w : World) : Kept X w w := ⟨rfl, rfl, rfl, Nat.le_refl _, fun _ _ _ => rfl⟩
theorem Kept.trans {X : List Nat} {a b c : World} (h : Kept X a b) (k : Kept X b c) : Kept X a c :=
  ⟨k.os.trans h.os, k.tape.trans h.tape, k.output.trans h.output, Nat.le_trans h.size k.size, fun i hi hx => (k.block i (Nat.lt_of_lt_of_le hi h.size) hx).trans (h.block i hi hx)⟩
theorem Kept.mono {X Y : List Nat} {a b : World} (h : Kept X a b) (hs : ∀ i, i ∈ X → i ∈ Y) : Kept Y a b :=
  ⟨h.os, h.tape, h.output, h.size, fun i hi hx => h.block i hi fun e => hx (hs i e)⟩
theorem Kept.of_below {X : List Nat} {a b : World} (h : Below a.heap.size a b) : Kept X a b := ⟨h.os, h.tape, h.output, h.size, fun i hi _ => h.block i hi⟩
theorem Kept.below {X : List Nat} {a b c : World} (h : Kept X a b) (k : Below b.heap.size b c) : Kept X a c := h.trans (.of_below k)
theorem Kept.alloc {X : List Nat} {a b : World} (h : Kept X a b) (o : Obj) : Kept X a (b.alloc o) := h.below ((Below.refl _ b).alloc (Nat.le_refl _) o)
theorem Kept.drewN {X : List Nat} {a b : World} (h : Kept X a b) (n : Nat) : Kept X a (b.drewN n) := ⟨h.os, h.tape, h.output, h.size, h.block⟩
theorem Kept.setCell {X : List Nat} {a b : World} (h : Kept X a b) {p : Addr} (hp : p.block ∈ X ∨ a.heap.size ≤ p.block) (u : Value) : Kept X a (b.setCell p u) :=
  ⟨h.os, h.tape, h.output, by simpa [World.setCell] using h.size, fun i hi hx => (Below.heap_setCell _ _ _ _ (by
    rcases hp with hp | hp
    · exact fun e => hx (e ▸ hp)
    · omega)).trans (h.block i hi hx)⟩
theorem Kept.grown {X : List Nat} {a b c : World} {row : Option Nat} (h : Kept X a b) (hg : b.grownBy c row) (hr : ∀ r, row = some r → r ∈ X ∨ a.heap.size ≤ r) : Kept X a c :=
  ⟨hg.os.trans h.os, hg.tape.trans h.tape, hg.output.trans h.output, Nat.le_trans h.size hg.size, fun i hi hx => (hg.block i (Nat.lt_of_lt_of_le hi h.size) (fun e => by
    rcases hr i e.symm with hr | hr
    · exact hx hr
    · omega)).trans (h.block i hi hx)⟩
theorem Kept.to_below {X : List Nat} {a b : World} {B : Nat} (h : Kept X a b) (hB : B ≤ a.heap.size) (hX : ∀ i ∈ X, B ≤ i) : Below B a b :=
  ⟨h.os, h.tape, h.output, h.size, fun i hi => h.block i (by omega) fun e => by have := hX i e; omega⟩
theorem Kept.cell {X : List Nat} {a b : World} (h : Kept X a b) {p : Addr} (hp : p.block < a.heap.size) (hx : p.block ∉ X) : b.cell? p = a.cell? p := World.cell?_of_block (w := a) (h.block p.block hp hx)
theorem Kept.frozen {X : List Nat} {a b : World} (h : Kept X a b) {p : Addr} (hp : p.block < a.heap.size) (hx : p.block ∉ X) : b.frozen? p = a.frozen? p := World.frozen?_of_block (w := a) (h.block p.block hp hx)

theorem MapAt.lt {w : World} {bm : Nat} {L : List F} (h : MapAt w bm L) : bm < w.heap.size := h.own.lt
theorem MapAt.block {w w' : World} {bm : Nat} {L : List F} (h : MapAt w bm L) (hb : w'.heap[bm]? = w.heap[bm]?) : MapAt w' bm L := by
  obtain ⟨⟨es, clock, hh, r⟩, s⟩ := h
  exact ⟨⟨es, clock, hb.trans hh, r⟩, s⟩
theorem MapAt.kept {X : List Nat} {w w' : World} {bm : Nat} {L : List F} (h : MapAt w bm L) (hk : Kept X w w') (hx : bm ∉ X) : MapAt w' bm L := h.block (hk.block _ h.lt hx)
theorem MapAt.below {w w' : World} {bm : Nat} {L : List F} (h : MapAt w bm L) (hk : Below w.heap.size w w') : MapAt w' bm L := h.block (hk.block _ h.lt)
theorem MapAt.alloc {w : World} {bm : Nat} {L : List F} (h : MapAt w bm L) (o : Obj) : MapAt (w.alloc o) bm L := h.below ((Below.refl _ w).alloc (Nat.le_refl _) o)
theorem MapAt.setCell {w : World} {bm : Nat} {L : List F} (h : MapAt w bm L) {p : Addr} (hp : bm ≠ p.block) (u : Value) : MapAt (w.setCell p u) bm L := h.block (Below.heap_setCell _ _ _ _ hp)

/-- A store: its clock, and its files. -/
structure StoreAt (w : World) (sb bm : Nat) (L : List F) (c : Int) : Prop where
  cells : w.heap[sb]? = some (.cells #[.int .i64 c, .map (some bm)] 57 (0, 0))
  map : MapAt w bm L
theorem StoreAt.lt {w : World} {sb bm : Nat} {L : List F} {c : Int} (h : StoreAt w sb bm L c) : sb < w.heap.size := (Array.getElem?_eq_some_iff.1 h.cells).1
theorem StoreAt.ne {w : World} {sb bm : Nat} {L : List F} {c : Int} (h : StoreAt w sb bm L c) : bm ≠ sb := by
  intro e
  obtain ⟨⟨es, clock, hh, _⟩, _⟩ := h.map
  rw [e, h.cells] at hh; cases hh
theorem StoreAt.c0 {w : World} {sb bm : Nat} {L : List F} {c : Int} (h : StoreAt w sb bm L c) : w.cell? ⟨sb, 0, none⟩ = some (.int .i64 c) := by simp [World.cell?, h.cells]
theorem StoreAt.c1 {w : World} {sb bm : Nat} {L : List F} {c : Int} (h : StoreAt w sb bm L c) : w.cell? ⟨sb, 1, none⟩ = some (.map (some bm)) := by simp [World.cell?, h.cells]
theorem StoreAt.f0 {w : World} {sb bm : Nat} {L : List F} {c : Int} (h : StoreAt w sb bm L c) : w.frozen? ⟨sb, 0, none⟩ = false := by simp [World.frozen?, h.cells]
theorem StoreAt.kept {X : List Nat} {w w' : World} {sb bm : Nat} {L : List F} {c : Int} (h : StoreAt w sb bm L c) (hk : Kept X w w') (hs : sb ∉ X) (hb : bm ∉ X) : StoreAt w' sb bm L c :=
  ⟨(hk.block _ h.lt hs).trans h.cells, h.map.kept hk hb⟩
theorem StoreAt.below {w w' : World} {sb bm : Nat} {L : List F} {c : Int} (h : StoreAt w sb bm L c) (hk : Below w.heap.size w w') : StoreAt w' sb bm L c :=
  ⟨(hk.block _ h.lt).trans h.cells, h.map.below hk⟩
theorem StoreAt.alloc {w : World} {sb bm : Nat} {L : List F} {c : Int} (h : StoreAt w sb bm L c) (o : Obj) : StoreAt (w.alloc o) sb bm L c := h.below ((Below.refl _ w).alloc (Nat.le_refl _) o)

theorem MapAt.len {w : World} {bm : Nat} {L : List F} (h : MapAt w bm L) (ty : TypeId) : (Builtin.len_ #[50] ty #[.map (some bm)]).run Tryz.prog w = .ok (.int .i64 L.length) w := by
  have := h.own.len (t := 50) (e := 26) Tryz.underlying50 ty
  rwa [Sp.size_mapOf] at this

theorem MapAt.run_yes {w : World} {bm : Nat} {L : List F} (h : MapAt w bm L) {p : ByteArray} {f : F} (hp : p.size ≤ maxLen) (hf : Sp.get L (bs p) = some f) :
    (Instr.lookup 50 (.map (some bm)) (.string p) true).run Tryz.prog w = .ok (.tuple #[.agg #[.string (str f.p), .string (str f.t), .int .i64 f.c, .bool f.d], .bool true]) w := by
  obtain ⟨v, ps, hrun, hv⟩ := h.own.look_ok key Tryz.underlying50 (zeroF w) (fElem_mk noF) (key_of hp)
  obtain ⟨g, rfl, hg'⟩ := fElem_inv hv
  rw [Sp.at_mapOf_some hf] at hg'
  obtain rfl := Sp.fD_inj (congrArg Prod.fst hg')
  rw [Sp.has_mapOf, hf] at hrun
  exact hrun
theorem MapAt.run_no {w : World} {bm : Nat} {L : List F} (h : MapAt w bm L) {p : ByteArray} (hp : p.size ≤ maxLen) (hf : Sp.get L (bs p) = none) :
    (Instr.lookup 50 (.map (some bm)) (.string p) true).run Tryz.prog w = .ok (.tuple #[.agg #[.string ⟨#[]⟩, .string ⟨#[]⟩, .int .i64 0, .bool false], .bool false]) w := by
  obtain ⟨v, ps, hrun, hv⟩ := h.own.look_ok key Tryz.underlying50 (zeroF w) (fElem_mk noF) (key_of hp)
  obtain ⟨g, rfl, hg'⟩ := fElem_inv hv
  rw [Sp.at_mapOf_none hf] at hg'
  obtain rfl := Sp.fD_inj (congrArg Prod.fst hg')
  rw [Sp.has_mapOf, hf] at hrun
  exact hrun

/-! ### the map's operations -/
section
variable {P : Program} (w : World) {ops : Array Oper} {rest : List Oper} {o : Oper} {a : Act} {Q : Exit → Act → World → Prop}

theorem wpList_look_yes (hg : o.guard = none) (m x : Operand) (hop : o.op = Op.lookup 50 m x true) {bm : Nat} {L : List F} {p : ByteArray} {f : F} (hm : a.eval m = .map (some bm)) (hx : a.eval x = .string p)
    (hM : MapAt w bm L) (hp : p.size ≤ maxLen) (hf : Hid (Sp.get L (bs p) = some f)) (hK : wpList Tryz.prog ops Q rest (a.put o.dst (.tuple #[.agg #[.string (str f.p), .string (str f.t), .int .i64 f.c, .bool f.d], .bool true])) w) : wpList Tryz.prog ops Q (o :: rest) a w := by
  refine wpList_lookup_own_ok w hg m x _ hop 9 26 key Tryz.underlying50 fElem (zeroF w) _ _ (fElem_mk noF) bm _ _ hm hM.own _ _ hx (key_of hp) ?_
  intro v ps hv
  obtain ⟨g, rfl, hg'⟩ := fElem_inv hv
  rw [Sp.at_mapOf_some hf.out] at hg'
  obtain rfl := Sp.fD_inj (congrArg Prod.fst hg')
  rw [Sp.has_mapOf, hf.out]
  exact hK
theorem wpList_look_no (hg : o.guard = none) (m x : Operand) (hop : o.op = Op.lookup 50 m x true) {bm : Nat} {L : List F} {p : ByteArray} (hm : a.eval m = .map (some bm)) (hx : a.eval x = .string p)
    (hM : MapAt w bm L) (hp : p.size ≤ maxLen) (hf : Hid (Sp.get L (bs p) = none)) (hK : wpList Tryz.prog ops Q rest (a.put o.dst (.tuple #[.agg #[.string ⟨#[]⟩, .string ⟨#[]⟩, .int .i64 0, .bool false], .bool false])) w) : wpList Tryz.prog ops Q (o :: rest) a w := by
  refine wpList_lookup_own_ok w hg m x _ hop 9 26 key Tryz.underlying50 fElem (zeroF w) _ _ (fElem_mk noF) bm _ _ hm hM.own _ _ hx (key_of hp) ?_
  intro v ps hv
  obtain ⟨g, rfl, hg'⟩ := fElem_inv hv
  rw [Sp.at_mapOf_none hf.out] at hg'
  obtain rfl := Sp.fD_inj (congrArg Prod.fst hg')
  rw [Sp.has_mapOf, hf.out]
  exact hK
theorem wpList_get (hg : o.guard = none) (m x : Operand) (hop : o.op = Op.lookup 50 m x false) {bm : Nat} {L : List F} {p : ByteArray} {f : F} (hm : a.eval m = .map (some bm)) (hx : a.eval x = .string p)
    (hM : MapAt w bm L) (hp : p.size ≤ maxLen) (hf : Hid ((Sp.get L (bs p)).getD noF = f)) (hK : wpList Tryz.prog ops Q rest (a.put o.dst (.agg #[.string (str f.p), .string (str f.t), .int .i64 f.c, .bool f.d])) w) : wpList Tryz.prog ops Q (o :: rest) a w := by
  refine wpList_plain hg fun K' hK' => ?_
  obtain ⟨v, ps, hrun, hv⟩ := hM.own.lookup key Tryz.underlying50 (zeroF w) (fElem_mk noF) (key_of hp)
  obtain ⟨g, rfl, hg'⟩ := fElem_inv hv
  have e : g = f := by
    rw [← hf.out]
    cases h : Sp.get L (bs p) with
    | none => rw [Sp.at_mapOf_none h] at hg'; exact (Sp.fD_inj (congrArg Prod.fst hg')).symm
    | some x => rw [Sp.at_mapOf_some h] at hg'; exact (Sp.fD_inj (congrArg Prod.fst hg')).symm
  subst e
  unfold Oper.wp
  simp [execOp, hop, hm, hx, hrun, Result.andThen]
  exact hK' _ _ hK
theorem wpList_size (hg : o.guard = none) (m : Operand) (hop : o.op = Op.call { callee := Callee.builtin Builtin.len, args := #[m], argTypes := #[50] }) {bm : Nat} {L : List F} (hm : a.eval m = .map (some bm)) (hM : MapAt w bm L)
    (hK : wpList Tryz.prog ops Q rest (a.put o.dst (.int .i64 L.length)) w) : wpList Tryz.prog ops Q (o :: rest) a w := by
  refine wpList_len_own w hg m _ hop 9 26 Tryz.underlying50 fElem bm _ _ hm hM.own ?_
  rw [Sp.size_mapOf]; exact hK
theorem wpList_put (hg : o.guard = none) (m x v : Operand) (hop : o.op = Op.mapUpdate 50 m x v) {bm : Nat} {L : List F} {f : F} (hm : a.eval m = .map (some bm)) (hx : a.eval x = .string (str f.p)) (hv : a.eval v = fV f)
    (hM : MapAt w bm L) (hp : f.p.length ≤ maxLen) (hn : L.length < maxLen) (hK : ∀ w', MapAt w' bm (Sp.ins L f) → w.mapTurned w' bm → wpList Tryz.prog ops Q rest (a.put o.dst undef) w') : wpList Tryz.prog ops Q (o :: rest) a w := by
  refine wpList_mapUpdate_in w hg m x v _ hop 9 26 key Tryz.underlying50 fElem bm _ _ hm hM.own hn _ _ _ hx hv (key_of (by rw [← bs_len, bs_str]; exact hp)) _ [] (fElem_mk f) ?_
  intro w' hown ht
  rw [bs_str, Sp.put_mapOf hM.sorted] at hown
  exact hK w' (MapAt.of_own hown (Sp.sorted_ins hM.sorted)) ht
end
end Go.Proofs.YtmmilnmlmgcobaaGreatDoor.Sw
