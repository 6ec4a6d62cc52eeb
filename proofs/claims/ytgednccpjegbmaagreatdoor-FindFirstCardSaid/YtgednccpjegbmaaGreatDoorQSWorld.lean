/-
  The plain side of a store: files by rising paths; what a file is put beside; how a map with these files reads. No program, no world.
  The store's clock: atomic Load and Store of one cell; Now.
  A store in memory: its two cells, and the map that they lead to; what a call may turn.
-/
import Derived.Maps.Ext
import Derived.Laws.LoneSync
import Derived.Laws.Pointers
import Derived.Test.YtgednccpjegbmaaGreatDoorQRefDirs
import Derived.Maps.OwnSet
import Derived.Maps.RangeWalk
namespace Go.Proofs.YtgednccpjegbmaaGreatDoor.Sp
open Go
abbrev Bs := List UInt8

/-- A file. -/
structure F where
  p : Bs
  t : Bs
  c : Int
  d : Bool

theorem F.ext' {f g : F} (h1 : f.p = g.p) (h2 : f.t = g.t) (h3 : f.c = g.c) (h4 : f.d = g.d) : f = g := by
  cases f; cases g; simp_all

def Sorted (L : List F) : Prop := L.Pairwise fun a b => a.p < b.p

theorem lt_irr (a : Bs) : ¬ a < a := List.lt_irrefl a
theorem lt_tr {a b c : Bs} (h : a < b) (k : b < c) : a < c := List.lt_trans h k
theorem lt_ne {a b : Bs} (h : a < b) : a ≠ b := fun e => lt_irr b (e ▸ h)
theorem lt_or {a b : Bs} (h : ¬ a < b) (k : a ≠ b) : b < a := by
  rcases List.le_iff_lt_or_eq.1 (List.not_lt.1 h) with h | h
  · exact h
  · exact absurd h.symm k

theorem before_lt : ∀ (a b : Bs), bytesBefore a b = decide (a < b)
  | [], [] => by simp [bytesBefore]
  | [], _ :: _ => by simp [bytesBefore]
  | _ :: _, [] => by simp [bytesBefore]
  | a :: r, b :: s => by
    rw [bytesBefore, before_lt r s]
    simp only [List.cons_lt_cons_iff]
    by_cases h1 : a < b <;> by_cases h2 : a = b <;> by_cases h3 : r < s <;> simp [h1, h2, h3]

/-- Where a path stands, and whether it is there. -/
def pos : List F → Bs → Nat × Bool
  | [], _ => (0, false)
  | f :: r, p => if f.p = p then (0, true) else if p < f.p then (0, false) else ((pos r p).1 + 1, (pos r p).2)

/-- A file in its place. -/
def ins : List F → F → List F
  | [], f => [f]
  | g :: r, f => if g.p = f.p then f :: r else if f.p < g.p then f :: g :: r else g :: ins r f

def get (L : List F) (p : Bs) : Option F := L.find? fun f => f.p == p

theorem ins_pos : ∀ (L : List F) (f : F), ins L f = L.take (pos L f.p).1 ++ f :: L.drop ((pos L f.p).1 + if (pos L f.p).2 then 1 else 0)
  | [], f => by simp [ins]
  | g :: r, f => by
    unfold ins pos
    split
    · simp
    · split
      · simp
      · rw [ins_pos r f, Nat.add_right_comm]
        simp

theorem mem_ins : ∀ {L : List F} {f : F}, Sorted L → ∀ g, g ∈ ins L f ↔ g = f ∨ (g ∈ L ∧ g.p ≠ f.p)
  | [], f, _, g => by simp [ins]
  | h :: r, f, hs, g => by
    obtain ⟨h1, h2⟩ := List.pairwise_cons.1 hs
    unfold ins
    split
    · rename_i e
      constructor
      · intro hg
        rcases List.mem_cons.1 hg with rfl | hg
        · exact .inl rfl
        · exact .inr ⟨List.mem_cons_of_mem _ hg, fun e2 => lt_ne (h1 g hg) (e.trans e2.symm)⟩
      · rintro (rfl | ⟨hg, hn⟩)
        · simp
        · rcases List.mem_cons.1 hg with rfl | hg
          · exact absurd e hn
          · simp [hg]
    · split
      · rename_i e e2
        constructor
        · intro hg
          rcases List.mem_cons.1 hg with rfl | hg
          · exact .inl rfl
          · refine .inr ⟨hg, fun e3 => ?_⟩
            rcases List.mem_cons.1 hg with rfl | hg
            · exact e e3
            · exact lt_irr _ (e3 ▸ lt_tr e2 (h1 g hg))
        · rintro (rfl | ⟨hg, _⟩)
          · simp
          · exact List.mem_cons_of_mem _ hg
      · rename_i e e2
        rw [List.mem_cons, mem_ins h2 g]
        constructor
        · rintro (rfl | rfl | ⟨hg, hn⟩)
          · exact .inr ⟨by simp, e⟩
          · exact .inl rfl
          · exact .inr ⟨List.mem_cons_of_mem _ hg, hn⟩
        · rintro (rfl | ⟨hg, hn⟩)
          · exact .inr (.inl rfl)
          · rcases List.mem_cons.1 hg with rfl | hg
            · exact .inl rfl
            · exact .inr (.inr ⟨hg, hn⟩)

theorem sorted_ins : ∀ {L : List F} {f : F}, Sorted L → Sorted (ins L f)
  | [], f, _ => by simp [ins, Sorted]
  | h :: r, f, hs => by
    obtain ⟨h1, h2⟩ := List.pairwise_cons.1 hs
    unfold ins
    split
    · rename_i e
      exact List.pairwise_cons.2 ⟨fun g hg => e ▸ h1 g hg, h2⟩
    · split
      · rename_i e e2
        refine List.pairwise_cons.2 ⟨fun g hg => ?_, hs⟩
        rcases List.mem_cons.1 hg with rfl | hg
        · exact e2
        · exact lt_tr e2 (h1 g hg)
      · rename_i e e2
        refine List.pairwise_cons.2 ⟨fun g hg => ?_, sorted_ins h2⟩
        rcases (mem_ins h2 g).1 hg with rfl | ⟨hg, _⟩
        · exact lt_or e2 (fun e3 => e e3.symm)
        · exact h1 g hg

theorem len_ins : ∀ (L : List F) (f : F), (ins L f).length = if (pos L f.p).2 then L.length else L.length + 1
  | [], f => by simp [ins, pos]
  | g :: r, f => by
    unfold ins pos
    split
    · simp
    · split
      · simp
      · have := len_ins r f
        simp only [List.length_cons, this]
        split <;> rfl

theorem sorted_uni {L : List F} (h : Sorted L) {f g : F} (hf : f ∈ L) (hg : g ∈ L) (e : f.p = g.p) : f = g := by
  induction L with
  | nil => cases hf
  | cons a r ih =>
    obtain ⟨h1, h2⟩ := List.pairwise_cons.1 h
    rcases List.mem_cons.1 hf with ef | hf'
    · rcases List.mem_cons.1 hg with eg | hg'
      · rw [ef, eg]
      · exact absurd (ef ▸ e) (lt_ne (h1 g hg'))
    · rcases List.mem_cons.1 hg with eg | hg'
      · exact absurd (eg ▸ e).symm (lt_ne (h1 f hf'))
      · exact ih h2 hf' hg'

theorem get_some {L : List F} (hs : Sorted L) {p : Bs} {f : F} : get L p = some f ↔ f ∈ L ∧ f.p = p := by
  unfold get
  constructor
  · intro h
    exact ⟨List.mem_of_find?_eq_some h, by have := List.find?_some h; simpa using this⟩
  · rintro ⟨h1, h2⟩
    cases h : L.find? (fun f => f.p == p) with
    | none => have := List.find?_eq_none.1 h f h1; simp [h2] at this
    | some g =>
      have h3 := List.mem_of_find?_eq_some h
      have h4 := List.find?_some h
      rw [sorted_uni hs h3 h1 (by rw [h2]; simpa using h4)]
/-! ### how a map with these files reads -/
def fD (f : F) : DataW Unit := .agg [.lit (.string f.p), .lit (.string f.t), .lit (.int .i64 f.c), .lit (.bool f.d)]
def ent (f : F) : Lit × DataW Unit := (.string f.p, fD f)
def mapOf (L : List F) : DataW Unit := .map (L.map ent)
theorem fD_inj {f g : F} (h : fD f = fD g) : f = g := by
  unfold fD at h
  simp only [DataW.agg.injEq, List.cons.injEq, DataW.lit.injEq, Lit.string.injEq, Lit.int.injEq, Lit.bool.injEq, and_true, true_and] at h
  exact F.ext' h.1 h.2.1 h.2.2.1 h.2.2.2

theorem size_mapOf (L : List F) : Maps.size (mapOf L) = L.length := by show (L.map ent).length = _; simp
theorem has_mapOf (L : List F) (p : Bs) : Maps.has (mapOf L) (.string p) = (get L p).isSome := by
  show (L.map ent).any _ = (L.find? _).isSome
  rw [List.any_map, Bool.eq_iff_iff, List.find?_isSome, List.any_eq_true]; rfl
theorem at_mapOf_some {L : List F} {p : Bs} {f : F} (h : get L p = some f) (z : DataW Unit) : (mapOf L).atKey (.string p) z = fD f := by
  unfold mapOf DataW.atKey
  simp only []
  rw [List.find?_map, show ((fun q : Lit × DataW Unit => q.1.sameKey (.string p)) ∘ ent) = (fun f => f.p == p) from rfl, show L.find? (fun f => f.p == p) = some f from h]
  rfl
theorem at_mapOf_none {L : List F} {p : Bs} (h : get L p = none) (z : DataW Unit) : (mapOf L).atKey (.string p) z = z := by
  unfold mapOf DataW.atKey
  simp only []
  rw [List.find?_map, show ((fun q : Lit × DataW Unit => q.1.sameKey (.string p)) ∘ ent) = (fun f => f.p == p) from rfl, show L.find? (fun f => f.p == p) = none from h]
  rfl

theorem filter_keep {L : List F} {p : Bs} (h : ∀ f ∈ L, f.p ≠ p) : (L.map ent).filter (fun q => !q.1.sameKey (.string p)) = L.map ent := by
  refine List.filter_eq_self.2 fun q hq => ?_
  obtain ⟨f, hf, rfl⟩ := List.mem_map.1 hq
  show (!(f.p == p)) = true
  have := h f hf
  simpa using this

theorem put_mapOf : ∀ {L : List F} {f : F}, Sorted L → (mapOf L).put (.string f.p) (fD f) = mapOf (ins L f)
  | [], f, _ => rfl
  | g :: r, f, hs => by
    obtain ⟨h1, h2⟩ := List.pairwise_cons.1 hs
    have ih := put_mapOf (f := f) h2
    have ih' : DataW.insert (ent f) ((r.map ent).filter fun q => !q.1.sameKey (.string f.p)) = (ins r f).map ent := by
      have : DataW.map (DataW.insert (ent f) ((r.map ent).filter fun q => !q.1.sameKey (.string f.p))) = mapOf (ins r f) := ih
      exact (DataW.map.injEq _ _).mp this
    show DataW.map (DataW.insert (ent f) ((ent g :: r.map ent).filter fun q => !q.1.sameKey (.string f.p))) = .map ((ins (g :: r) f).map ent)
    congr 1
    unfold ins
    by_cases e : g.p = f.p
    · have e1 : (ent g).1.sameKey (.string f.p) = true := by show (g.p == f.p) = true; simpa using e
      rw [if_pos e, List.filter_cons, if_neg (by rw [e1]; simp), filter_keep (fun x hx e2 => lt_ne (h1 x hx) (e.trans e2.symm))]
      cases r with
      | nil => rfl
      | cons x r =>
        show DataW.insert (ent f) (ent x :: r.map ent) = _
        unfold DataW.insert
        have : (ent f).1.before (ent x).1 = true := by
          show bytesBefore f.p x.p = true
          rw [before_lt, ← e]; simpa using h1 x (by simp)
        rw [if_pos this]; rfl
    · have e1 : (ent g).1.sameKey (.string f.p) = false := by show (g.p == f.p) = false; simpa using e
      rw [if_neg e, List.filter_cons, if_pos (by rw [e1]; rfl)]
      by_cases e2 : f.p < g.p
      · rw [if_pos e2, filter_keep (fun x hx e3 => lt_irr _ (e3 ▸ lt_tr e2 (h1 x hx)))]
        unfold DataW.insert
        have : (ent f).1.before (ent g).1 = true := by
          show bytesBefore f.p g.p = true
          rw [before_lt]; simpa using e2
        rw [if_pos this]; rfl
      · rw [if_neg e2]
        unfold DataW.insert
        have : ¬ (ent f).1.before (ent g).1 = true := by
          show ¬ bytesBefore f.p g.p = true
          rw [before_lt]; simpa using e2
        rw [if_neg this, ih']; rfl

end Go.Proofs.YtgednccpjegbmaaGreatDoor.Sp
namespace Go.Proofs.YtgednccpjegbmaaGreatDoor.Sw
open Go.RowKit Go.Proofs.YtgednccpjegbmaaGreatDoor
set_option maxRecDepth 100000

theorem Load_any (w : World) (b o : Nat) (c : Int) (hc : w.cell? ⟨b, o, none⟩ = some (.int .i64 c)) :
    Calls Tryz.prog 33 #[.pointer (some ⟨b, o, none⟩)] w fun e w' => e = .returned (.int .i64 c) ∧ w = w' := by
  have hl := run_call_load (P := Tryz.prog) Tryz.func66 (by kernel_rfl) (by kernel_rfl) (by kernel_rfl) .i64 (by kernel_rfl) hc
  go_enter Tryz.func33, Tryz.ntmps33
  go_wp2
  go_ret
  exact ⟨rfl, rfl⟩

theorem Stor_any (w : World) (b o : Nat) (c y : Int) (hc : w.cell? ⟨b, o, none⟩ = some (.int .i64 c)) (hz : w.frozen? ⟨b, o, none⟩ = false) :
    Calls Tryz.prog 32 #[.pointer (some ⟨b, o, none⟩), .int .i64 y] w fun e w' => e = .returned (.tuple #[]) ∧ w' = w.setCell ⟨b, o, none⟩ (.int .i64 y) := by
  have hl := run_call_store (P := Tryz.prog) Tryz.func65 (by kernel_rfl) (by kernel_rfl) (by kernel_rfl) (by kernel_rfl) (k := .i64) (y := y) hc hz
  go_enter Tryz.func32, Tryz.ntmps32
  go_wp2
  go_end0
  exact ⟨rfl, rfl⟩













end Go.Proofs.YtgednccpjegbmaaGreatDoor.Sw
namespace Go.Proofs.YtgednccpjegbmaaGreatDoor.Sw
open Go.RowKit Go.Proofs.YtgednccpjegbmaaGreatDoor Go.Maps
set_option maxRecDepth 100000

abbrev F := Sp.F
/-- A file, as a value; as its cells. -/
def fV (f : F) : Value := .agg #[.string (str f.p), .string (str f.t), .int .i64 f.c, .bool f.d]
/-- How it reads. -/
def fElem : Value → Option (DataW Unit × List MemPlace)
  | .agg cs => match cs.toList with
    | [.string p, .string t, .int .i64 c, .bool d] => some (Sp.fD ⟨bs p, bs t, c, d⟩, [])
    | _ => none
  | _ => none
theorem fElem_mk (f : F) : fElem (fV f) = some (Sp.fD f, []) := rfl
theorem fElem_inv {v : Value} {z : DataW Unit × List MemPlace} (h : fElem v = some z) : ∃ f, v = fV f ∧ z = (Sp.fD f, []) := by
  unfold fElem at h
  split at h
  · rename_i cs
    split at h
    · rename_i p t c d e
      cases h
      refine ⟨⟨bs p, bs t, c, d⟩, ?_, rfl⟩
      unfold fV
      rw [str_bs, str_bs]
      congr 1
      exact Array.toList_inj.1 e
    · cases h
  · cases h

theorem key : Keyed Tryz.prog 9 := string_keyed Tryz.underlying9
theorem key_of {p : ByteArray} (h : p.size ≤ maxLen) : keyOf Tryz.prog 9 (.string p) = some (.string (bs p)) := WideMaps.keyOf_string_mk Tryz.underlying9 h
/-- No file. -/
def noF : F := ⟨[], [], 0, false⟩
theorem zeroF (w : World) : (zeroValue 31).run Tryz.prog w = .ok (fV noF) w := by kernel_rfl

/-- Block bm is a map with these files. -/
structure MapAt (w : World) (bm : Nat) (L : List F) : Prop where
  own : w.ownsMap Tryz.prog 9 fElem bm L.length (Sp.mapOf L)
  sorted : Sp.Sorted L

theorem own_exact {w : World} {b n : Nat} {D : DataW Unit} (h : w.ownsMap Tryz.prog 9 fElem b n D) : w.ownsMap Tryz.prog 9 fElem b (Maps.size D) D := by
  obtain ⟨es, clock, hb, Ft, _, rfl⟩ := h
  exact ⟨es, clock, hb, Ft, by simp [Maps.size, length_sorted], rfl⟩

theorem MapAt.of_own {w : World} {bm n : Nat} {L : List F} (h : w.ownsMap Tryz.prog 9 fElem bm n (Sp.mapOf L)) (hs : Sp.Sorted L) : MapAt w bm L := by
  have := own_exact h
  rw [Sp.size_mapOf] at this
  exact ⟨this, hs⟩

/-- What a call may turn: these blocks, and new ones. -/
structure Kept (X : List Nat) (w w' : World) : Prop where
  os : w'.os = w.os
  tape : w'.tape = w.tape
  output : w'.output = w.output
  size : w.heap.size ≤ w'.heap.size
  block : ∀ i, i < w.heap.size → i ∉ X → w'.heap[i]? = w.heap[i]?

theorem Kept.refl (X : List Nat) (w : World) : Kept X w w := ⟨rfl, rfl, rfl, Nat.le_refl _, fun _ _ _ => rfl⟩
theorem Kept.trans {X : List Nat} {a b c : World} (h : Kept X a b) (k : Kept X b c) : Kept X a c :=
  ⟨k.os.trans h.os, k.tape.trans h.tape, k.output.trans h.output, Nat.le_trans h.size k.size, fun i hi hx => (k.block i (Nat.lt_of_lt_of_le hi h.size) hx).trans (h.block i hi hx)⟩
theorem Kept.of_below {X : List Nat} {a b : World} (h : Below a.heap.size a b) : Kept X a b := ⟨h.os, h.tape, h.output, h.size, fun i hi _ => h.block i hi⟩
theorem Kept.below {X : List Nat} {a b c : World} (h : Kept X a b) (k : Below b.heap.size b c) : Kept X a c := h.trans (.of_below k)
theorem Kept.alloc {X : List Nat} {a b : World} (h : Kept X a b) (o : Obj) : Kept X a (b.alloc o) := h.below ((Below.refl _ b).alloc (Nat.le_refl _) o)
theorem Kept.drewN {X : List Nat} {a b : World} (h : Kept X a b) (n : Nat) : Kept X a (b.drewN n) := ⟨h.os, h.tape, h.output, h.size, h.block⟩
theorem Kept.setCell {X : List Nat} {a b : World} (h : Kept X a b) {p : Addr} (hp : p.block ∈ X ∨ a.heap.size ≤ p.block) (u : Value) : Kept X a (b.setCell p u) :=
  ⟨h.os, h.tape, h.output, by simpa [World.setCell] using h.size, fun i hi hx => (Below.heap_setCell _ _ _ _ (by
    rcases hp with hp | hp
    · exact fun e => hx (e ▸ hp)
    · omega)).trans (h.block i hi hx)⟩
theorem Kept.grown {X : List Nat} {a b c : World} {row : Option Nat} (h : Kept X a b) (hg : b.grownBy c row) (hr : ∀ r, row = some r → r ∈ X ∨ a.heap.size ≤ r) : Kept X a c :=
  ⟨hg.os.trans h.os, hg.tape.trans h.tape, hg.output.trans h.output, Nat.le_trans h.size hg.size, fun i hi hx => (hg.block i (Nat.lt_of_lt_of_le hi h.size) (fun e => by
    rcases hr i e.symm with hr | hr
    · exact hx hr
    · omega)).trans (h.block i hi hx)⟩
theorem Kept.to_below {X : List Nat} {a b : World} {B : Nat} (h : Kept X a b) (hB : B ≤ a.heap.size) (hX : ∀ i ∈ X, B ≤ i) : Below B a b :=
  ⟨h.os, h.tape, h.output, h.size, fun i hi => h.block i (by omega) fun e => by have := hX i e; omega⟩
theorem MapAt.lt {w : World} {bm : Nat} {L : List F} (h : MapAt w bm L) : bm < w.heap.size := h.own.lt
theorem MapAt.block {w w' : World} {bm : Nat} {L : List F} (h : MapAt w bm L) (hb : w'.heap[bm]? = w.heap[bm]?) : MapAt w' bm L := by
  obtain ⟨⟨es, clock, hh, r⟩, s⟩ := h
  exact ⟨⟨es, clock, hb.trans hh, r⟩, s⟩
theorem MapAt.below {w w' : World} {bm : Nat} {L : List F} (h : MapAt w bm L) (hk : Below w.heap.size w w') : MapAt w' bm L := h.block (hk.block _ h.lt)
theorem MapAt.alloc {w : World} {bm : Nat} {L : List F} (h : MapAt w bm L) (o : Obj) : MapAt (w.alloc o) bm L := h.below ((Below.refl _ w).alloc (Nat.le_refl _) o)
theorem MapAt.setCell {w : World} {bm : Nat} {L : List F} (h : MapAt w bm L) {p : Addr} (hp : bm ≠ p.block) (u : Value) : MapAt (w.setCell p u) bm L := h.block (Below.heap_setCell _ _ _ _ hp)

/-- A store: its clock, and its files. -/
structure StoreAt (w : World) (sb bm : Nat) (L : List F) (c : Int) : Prop where
  cells : w.heap[sb]? = some (.cells #[.int .i64 c, .map (some bm)] 63 (0, 0))
  map : MapAt w bm L
theorem StoreAt.lt {w : World} {sb bm : Nat} {L : List F} {c : Int} (h : StoreAt w sb bm L c) : sb < w.heap.size := (Array.getElem?_eq_some_iff.1 h.cells).1
theorem StoreAt.ne {w : World} {sb bm : Nat} {L : List F} {c : Int} (h : StoreAt w sb bm L c) : bm ≠ sb := by
  intro e
  obtain ⟨⟨es, clock, hh, _⟩, _⟩ := h.map
  rw [e, h.cells] at hh; cases hh
theorem StoreAt.c1 {w : World} {sb bm : Nat} {L : List F} {c : Int} (h : StoreAt w sb bm L c) : w.cell? ⟨sb, 1, none⟩ = some (.map (some bm)) := by simp [World.cell?, h.cells]
theorem StoreAt.below {w w' : World} {sb bm : Nat} {L : List F} {c : Int} (h : StoreAt w sb bm L c) (hk : Below w.heap.size w w') : StoreAt w' sb bm L c :=
  ⟨(hk.block _ h.lt).trans h.cells, h.map.below hk⟩
theorem StoreAt.alloc {w : World} {sb bm : Nat} {L : List F} {c : Int} (h : StoreAt w sb bm L c) (o : Obj) : StoreAt (w.alloc o) sb bm L c := h.below ((Below.refl _ w).alloc (Nat.le_refl _) o)

theorem MapAt.run_yes {w : World} {bm : Nat} {L : List F} (h : MapAt w bm L) {p : ByteArray} {f : F} (hp : p.size ≤ maxLen) (hf : Sp.get L (bs p) = some f) :
    (Instr.lookup 56 (.map (some bm)) (.string p) true).run Tryz.prog w = .ok (.tuple #[.agg #[.string (str f.p), .string (str f.t), .int .i64 f.c, .bool f.d], .bool true]) w := by
  obtain ⟨v, ps, hrun, hv⟩ := h.own.look_ok key Tryz.underlying56 (zeroF w) (fElem_mk noF) (key_of hp)
  obtain ⟨g, rfl, hg'⟩ := fElem_inv hv
  rw [Sp.at_mapOf_some hf] at hg'
  obtain rfl := Sp.fD_inj (congrArg Prod.fst hg')
  rw [Sp.has_mapOf, hf] at hrun
  exact hrun
theorem MapAt.run_no {w : World} {bm : Nat} {L : List F} (h : MapAt w bm L) {p : ByteArray} (hp : p.size ≤ maxLen) (hf : Sp.get L (bs p) = none) :
    (Instr.lookup 56 (.map (some bm)) (.string p) true).run Tryz.prog w = .ok (.tuple #[.agg #[.string ⟨#[]⟩, .string ⟨#[]⟩, .int .i64 0, .bool false], .bool false]) w := by
  obtain ⟨v, ps, hrun, hv⟩ := h.own.look_ok key Tryz.underlying56 (zeroF w) (fElem_mk noF) (key_of hp)
  obtain ⟨g, rfl, hg'⟩ := fElem_inv hv
  rw [Sp.at_mapOf_none hf] at hg'
  obtain rfl := Sp.fD_inj (congrArg Prod.fst hg')
  rw [Sp.has_mapOf, hf] at hrun
  exact hrun

/-! ### the map's operations -/
section
variable {P : Program} (w : World) {ops : Array Oper} {rest : List Oper} {o : Oper} {a : Act} {Q : Exit → Act → World → Prop}

theorem wpList_look_yes (hg : o.guard = none) (m x : Operand) (hop : o.op = Op.lookup 56 m x true) {bm : Nat} {L : List F} {p : ByteArray} {f : F} (hm : a.eval m = .map (some bm)) (hx : a.eval x = .string p)
    (hM : MapAt w bm L) (hp : p.size ≤ maxLen) (hf : Hid (Sp.get L (bs p) = some f)) (hK : wpList Tryz.prog ops Q rest (a.put o.dst (.tuple #[.agg #[.string (str f.p), .string (str f.t), .int .i64 f.c, .bool f.d], .bool true])) w) : wpList Tryz.prog ops Q (o :: rest) a w := by
  refine wpList_lookup_own_ok w hg m x _ hop 9 31 key Tryz.underlying56 fElem (zeroF w) _ _ (fElem_mk noF) bm _ _ hm hM.own _ _ hx (key_of hp) ?_
  intro v ps hv
  obtain ⟨g, rfl, hg'⟩ := fElem_inv hv
  rw [Sp.at_mapOf_some hf.out] at hg'
  obtain rfl := Sp.fD_inj (congrArg Prod.fst hg')
  rw [Sp.has_mapOf, hf.out]
  exact hK
theorem wpList_look_no (hg : o.guard = none) (m x : Operand) (hop : o.op = Op.lookup 56 m x true) {bm : Nat} {L : List F} {p : ByteArray} (hm : a.eval m = .map (some bm)) (hx : a.eval x = .string p)
    (hM : MapAt w bm L) (hp : p.size ≤ maxLen) (hf : Hid (Sp.get L (bs p) = none)) (hK : wpList Tryz.prog ops Q rest (a.put o.dst (.tuple #[.agg #[.string ⟨#[]⟩, .string ⟨#[]⟩, .int .i64 0, .bool false], .bool false])) w) : wpList Tryz.prog ops Q (o :: rest) a w := by
  refine wpList_lookup_own_ok w hg m x _ hop 9 31 key Tryz.underlying56 fElem (zeroF w) _ _ (fElem_mk noF) bm _ _ hm hM.own _ _ hx (key_of hp) ?_
  intro v ps hv
  obtain ⟨g, rfl, hg'⟩ := fElem_inv hv
  rw [Sp.at_mapOf_none hf.out] at hg'
  obtain rfl := Sp.fD_inj (congrArg Prod.fst hg')
  rw [Sp.has_mapOf, hf.out]
  exact hK
theorem wpList_get (hg : o.guard = none) (m x : Operand) (hop : o.op = Op.lookup 56 m x false) {bm : Nat} {L : List F} {p : ByteArray} {f : F} (hm : a.eval m = .map (some bm)) (hx : a.eval x = .string p)
    (hM : MapAt w bm L) (hp : p.size ≤ maxLen) (hf : Hid ((Sp.get L (bs p)).getD noF = f)) (hK : wpList Tryz.prog ops Q rest (a.put o.dst (.agg #[.string (str f.p), .string (str f.t), .int .i64 f.c, .bool f.d])) w) : wpList Tryz.prog ops Q (o :: rest) a w := by
  refine wpList_plain hg fun K' hK' => ?_
  obtain ⟨v, ps, hrun, hv⟩ := hM.own.lookup key Tryz.underlying56 (zeroF w) (fElem_mk noF) (key_of hp)
  obtain ⟨g, rfl, hg'⟩ := fElem_inv hv
  have e : g = f := by
    rw [← hf.out]
    cases h : Sp.get L (bs p) with
    | none => rw [Sp.at_mapOf_none h] at hg'; exact (Sp.fD_inj (congrArg Prod.fst hg')).symm
    | some x => rw [Sp.at_mapOf_some h] at hg'; exact (Sp.fD_inj (congrArg Prod.fst hg')).symm
  subst e
  unfold Oper.wp
  simp [execOp, hop, hm, hx, hrun, Result.andThen]
  exact hK' _ _ hK
theorem wpList_size (hg : o.guard = none) (m : Operand) (hop : o.op = Op.call { callee := Callee.builtin Builtin.len, args := #[m], argTypes := #[56] }) {bm : Nat} {L : List F} (hm : a.eval m = .map (some bm)) (hM : MapAt w bm L)
    (hK : wpList Tryz.prog ops Q rest (a.put o.dst (.int .i64 L.length)) w) : wpList Tryz.prog ops Q (o :: rest) a w := by
  refine wpList_len_own w hg m _ hop 9 31 Tryz.underlying56 fElem bm _ _ hm hM.own ?_
  rw [Sp.size_mapOf]; exact hK
theorem wpList_put (hg : o.guard = none) (m x v : Operand) (hop : o.op = Op.mapUpdate 56 m x v) {bm : Nat} {L : List F} {f : F} (hm : a.eval m = .map (some bm)) (hx : a.eval x = .string (str f.p)) (hv : a.eval v = fV f)
    (hM : MapAt w bm L) (hp : f.p.length ≤ maxLen) (hn : L.length < maxLen) (hK : ∀ w', MapAt w' bm (Sp.ins L f) → w.mapTurned w' bm → wpList Tryz.prog ops Q rest (a.put o.dst undef) w') : wpList Tryz.prog ops Q (o :: rest) a w := by
  refine wpList_mapUpdate_in w hg m x v _ hop 9 31 key Tryz.underlying56 fElem bm _ _ hm hM.own hn _ _ _ hx hv (key_of (by rw [← bs_len, bs_str]; exact hp)) _ [] (fElem_mk f) ?_
  intro w' hown ht
  rw [bs_str, Sp.put_mapOf hM.sorted] at hown
  exact hK w' (MapAt.of_own hown (Sp.sorted_ins hM.sorted)) ht
end
end Go.Proofs.YtgednccpjegbmaaGreatDoor.Sw
