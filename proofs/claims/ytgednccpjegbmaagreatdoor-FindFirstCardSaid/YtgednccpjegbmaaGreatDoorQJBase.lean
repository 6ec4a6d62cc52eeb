/-
  Variables, in plain words: the document's answer for layer 11. No program here.
  Variables in memory: a row of them, names, a table in its box.
  The plain side of a map by strings, of whatever elements: entries by rising keys; where one is put; how a map with these entries reads. No program, no world.
  Maps by strings in memory, of whatever elements: one kind of map, its block, what its operations do; what a call may turn.
  Orders, with a condition that turns at one operation: reads may be taken first although the call behind them changes what they read.
-/
import Derived.Lib.Walk
import Derived.Test.YtgednccpjegbmaaGreatDoorProg
import Derived.Maps.AppendAt
import Derived.Laws.ResultCell
import Derived.Test.YtgednccpjegbmaaGreatDoorQTBase
import Derived.Maps.Views
import Derived.Maps.OwnSet
import Derived.Maps.RangeWalk
import Derived.Laws.IdiomRangeMap
import Derived.Sort.KeysCollected
import Derived.OrdersHeld
import Derived.RegionTactic
import Derived.RowKit
import Derived.Lib.Hide
namespace Go.Proofs.YtgednccpjegbmaaGreatDoor.Jp
abbrev Bs := List UInt8

/-- A variable: its name, its text, whether that was expanded, where it is from. -/
structure V where
  n : Bs
  x : Bs
  s : Bool
  f : Int
/-- A table. -/
structure T where
  l : List V
  yes : List Bs
  no : List Bs
  all : Bool
end Go.Proofs.YtgednccpjegbmaaGreatDoor.Jp
namespace Go.Proofs.YtgednccpjegbmaaGreatDoor.Jw
open Go.RowKit Go.Proofs.YtgednccpjegbmaaGreatDoor Go.Proofs.YtgednccpjegbmaaGreatDoor.Ww Go.Proofs.YtgednccpjegbmaaGreatDoor.Tw
set_option maxRecDepth 100000



abbrev ST : TypeId := 9

theorem infoST : (Tryz.prog.info? ST).map (fun i => (i.zero, i.size, i.bytes)) = some (some (.string ByteArray.empty), 1, 16) := by kernel_rfl




theorem cell_at {w : World} {n i : Nat} {cs : Array Value} {T : TypeId} {v : Value} (h : w.heap[n]? = some (.cells cs T (0, 0))) (hv : cs[i]? = some v) : w.cell? ⟨n, i, none⟩ = some v := by simp [World.cell?, h, hv]
theorem frozen_at {w : World} {n : Nat} {cs : Array Value} {T : TypeId} (h : w.heap[n]? = some (.cells cs T (0, 0))) (i : Nat) : w.frozen? ⟨n, i, none⟩ = false := by simp [World.frozen?, h]
theorem heap_set {w : World} {b i : Nat} {cs : Array Value} {T : TypeId} (h : w.heap[b]? = some (.cells cs T (0, 0))) (v : Value) : (w.setCell ⟨b, i, none⟩ v).heap[b]? = some (.cells (cs.setIfInBounds i v) T (0, 0)) := by
  have hb : b < w.heap.size := (Array.getElem?_eq_some_iff.1 h).1
  have hb' : w.heap[b] = .cells cs T (0, 0) := by have := Array.getElem?_eq_getElem hb; rw [h] at this; exact (Option.some.inj this).symm
  simp [World.setCell, Array.getElem?_modify, h]
theorem heap_last (w : World) (o : Obj) : (w.alloc o).heap[w.heap.size]? = some o := Array.getElem?_push_size
theorem cells_new (w : World) (cs : Array Value) (T : TypeId) {n : Nat} (hn : w.heap.size = n) : ∀ (j : Nat) (u : Value), cs.toList[j]? = some u → (w.alloc (.cells cs T)).cell? ((⟨n, 0, none⟩ : Addr).add j) = some u := by
  subst hn
  intro j u hj
  have hlt : j < cs.size := by have := (List.getElem?_eq_some_iff.1 hj).1; simpa using this
  rw [Addr.add_lit, World.cell?_alloc_at _ _ _ _ (by simp)]
  simp at hj ⊢; exact hj
end Go.Proofs.YtgednccpjegbmaaGreatDoor.Jw
namespace Go.Proofs.YtgednccpjegbmaaGreatDoor.Kp
open Go
abbrev Bs := List UInt8
variable {α : Type}

def Sorted (L : List (Bs × α)) : Prop := L.Pairwise fun a b => a.1 < b.1
theorem lt_irr (a : Bs) : ¬ a < a := List.lt_irrefl a
theorem lt_tr {a b c : Bs} (h : a < b) (k : b < c) : a < c := List.lt_trans h k
theorem lt_ne {a b : Bs} (h : a < b) : a ≠ b := fun e => lt_irr b (e ▸ h)
theorem lt_or {a b : Bs} (h : ¬ a < b) (k : a ≠ b) : b < a := by
  rcases List.le_iff_lt_or_eq.1 (List.not_lt.1 h) with h | h
  · exact h
  · exact absurd h.symm k

theorem before_lt : ∀ (a b : Bs), bytesBefore a b = decide (a < b)
  | [], [] => by simp [bytesBefore]
  | [], _ :: _ => by simp [bytesBefore]
  | _ :: _, [] => by simp [bytesBefore]
  | a :: r, b :: s => by
    rw [bytesBefore, before_lt r s]
    simp only [List.cons_lt_cons_iff]
    by_cases h1 : a < b <;> by_cases h2 : a = b <;> by_cases h3 : r < s <;> simp [h1, h2, h3]

/-- An entry in its place. -/
def ins : List (Bs × α) → Bs × α → List (Bs × α)
  | [], f => [f]
  | g :: r, f => if g.1 = f.1 then f :: r else if f.1 < g.1 then f :: g :: r else g :: ins r f

def get (L : List (Bs × α)) (p : Bs) : Option (Bs × α) := L.find? fun f => f.1 == p

theorem mem_ins : ∀ {L : List (Bs × α)} {f : Bs × α}, Sorted L → ∀ g, g ∈ ins L f ↔ g = f ∨ (g ∈ L ∧ g.1 ≠ f.1)
  | [], f, _, g => by simp [ins]
  | h :: r, f, hs, g => by
    obtain ⟨h1, h2⟩ := List.pairwise_cons.1 hs
    unfold ins
    split
    · rename_i e
      constructor
      · intro hg
        rcases List.mem_cons.1 hg with rfl | hg
        · exact .inl rfl
        · exact .inr ⟨List.mem_cons_of_mem _ hg, fun e2 => lt_ne (h1 g hg) (e.trans e2.symm)⟩
      · rintro (rfl | ⟨hg, hn⟩)
        · simp
        · rcases List.mem_cons.1 hg with rfl | hg
          · exact absurd e hn
          · simp [hg]
    · split
      · rename_i e e2
        constructor
        · intro hg
          rcases List.mem_cons.1 hg with rfl | hg
          · exact .inl rfl
          · refine .inr ⟨hg, fun e3 => ?_⟩
            rcases List.mem_cons.1 hg with rfl | hg
            · exact e e3
            · exact lt_irr _ (e3 ▸ lt_tr e2 (h1 g hg))
        · rintro (rfl | ⟨hg, _⟩)
          · simp
          · exact List.mem_cons_of_mem _ hg
      · rename_i e e2
        rw [List.mem_cons, mem_ins h2 g]
        constructor
        · rintro (rfl | rfl | ⟨hg, hn⟩)
          · exact .inr ⟨by simp, e⟩
          · exact .inl rfl
          · exact .inr ⟨List.mem_cons_of_mem _ hg, hn⟩
        · rintro (rfl | ⟨hg, hn⟩)
          · exact .inr (.inl rfl)
          · rcases List.mem_cons.1 hg with rfl | hg
            · exact .inl rfl
            · exact .inr (.inr ⟨hg, hn⟩)

theorem sorted_ins : ∀ {L : List (Bs × α)} {f : Bs × α}, Sorted L → Sorted (ins L f)
  | [], f, _ => by simp [ins, Sorted]
  | h :: r, f, hs => by
    obtain ⟨h1, h2⟩ := List.pairwise_cons.1 hs
    unfold ins
    split
    · rename_i e
      exact List.pairwise_cons.2 ⟨fun g hg => e ▸ h1 g hg, h2⟩
    · split
      · rename_i e e2
        refine List.pairwise_cons.2 ⟨fun g hg => ?_, hs⟩
        rcases List.mem_cons.1 hg with rfl | hg
        · exact e2
        · exact lt_tr e2 (h1 g hg)
      · rename_i e e2
        refine List.pairwise_cons.2 ⟨fun g hg => ?_, sorted_ins h2⟩
        rcases (mem_ins h2 g).1 hg with rfl | ⟨hg, _⟩
        · exact lt_or e2 (fun e3 => e e3.symm)
        · exact h1 g hg

/-- Two rising lists with the same entries are one. -/
theorem sorted_ext : ∀ {L M : List (Bs × α)}, Sorted L → Sorted M → (∀ g, g ∈ L ↔ g ∈ M) → L = M
  | [], [], _, _, _ => rfl
  | [], b :: s, _, _, h => by have := (h b).2 (by simp); simp at this
  | a :: r, [], _, _, h => by have := (h a).1 (by simp); simp at this
  | a :: r, b :: s, h1, h2, h => by
    obtain ⟨a1, a2⟩ := List.pairwise_cons.1 h1
    obtain ⟨b1, b2⟩ := List.pairwise_cons.1 h2
    have hab : a = b := by
      rcases List.mem_cons.1 ((h a).1 (by simp)) with e | ha
      · exact e
      · rcases List.mem_cons.1 ((h b).2 (by simp)) with e | hb
        · exact e.symm
        · exact absurd (lt_tr (a1 b hb) (b1 a ha)) (lt_irr _)
    subst hab
    rw [sorted_ext a2 b2 fun g => ⟨fun hg => by
      rcases List.mem_cons.1 ((h g).1 (by simp [hg])) with e | hg'
      · exact absurd (a1 g hg) (by rw [e]; exact lt_irr _)
      · exact hg', fun hg => by
      rcases List.mem_cons.1 ((h g).2 (by simp [hg])) with e | hg'
      · exact absurd (b1 g hg) (by rw [e]; exact lt_irr _)
      · exact hg'⟩]

theorem sorted_uni {L : List (Bs × α)} (h : Sorted L) {f g : Bs × α} (hf : f ∈ L) (hg : g ∈ L) (e : f.1 = g.1) : f = g := by
  induction L with
  | nil => cases hf
  | cons a r ih =>
    obtain ⟨h1, h2⟩ := List.pairwise_cons.1 h
    rcases List.mem_cons.1 hf with ef | hf'
    · rcases List.mem_cons.1 hg with eg | hg'
      · rw [ef, eg]
      · exact absurd (ef ▸ e) (lt_ne (h1 g hg'))
    · rcases List.mem_cons.1 hg with eg | hg'
      · exact absurd (eg ▸ e).symm (lt_ne (h1 f hf'))
      · exact ih h2 hf' hg'

theorem get_some {L : List (Bs × α)} (hs : Sorted L) {p : Bs} {f : Bs × α} : get L p = some f ↔ f ∈ L ∧ f.1 = p := by
  unfold get
  constructor
  · intro h
    exact ⟨List.mem_of_find?_eq_some h, by have := List.find?_some h; simpa using this⟩
  · rintro ⟨h1, h2⟩
    cases h : L.find? (fun f => f.1 == p) with
    | none => have := List.find?_eq_none.1 h f h1; simp [h2] at this
    | some g =>
      have h3 := List.mem_of_find?_eq_some h
      have h4 := List.find?_some h
      rw [sorted_uni hs h3 h1 (by rw [h2]; simpa using h4)]
theorem get_none {L : List (Bs × α)} {p : Bs} : get L p = none ↔ ∀ f ∈ L, f.1 ≠ p := by
  unfold get
  rw [List.find?_eq_none]
  simp

theorem get_of_mem {L : List (Bs × α)} (hs : Sorted L) {f : Bs × α} (h : f ∈ L) : get L f.1 = some f := (get_some hs).2 ⟨h, rfl⟩
theorem len_ins_le : ∀ (L : List (Bs × α)) (f : Bs × α), (ins L f).length ≤ L.length + 1
  | [], f => by simp [ins]
  | g :: r, f => by
    unfold ins
    have := len_ins_le r f
    split
    · simp
    · split
      · simp
      · simp; omega

/-! ### how a map with these entries reads -/
section
variable (enc : α → DataW Unit)
def ent (f : Bs × α) : Lit × DataW Unit := (.string f.1, enc f.2)
def mapOf (L : List (Bs × α)) : DataW Unit := .map (L.map (ent enc))

theorem size_mapOf (L : List (Bs × α)) : Maps.size (mapOf enc L) = L.length := by show (L.map (ent enc)).length = _; simp
theorem has_mapOf (L : List (Bs × α)) (p : Bs) : Maps.has (mapOf enc L) (.string p) = (get L p).isSome := by
  show (L.map (ent enc)).any _ = (L.find? _).isSome
  rw [List.any_map, Bool.eq_iff_iff, List.find?_isSome, List.any_eq_true]; rfl
theorem at_mapOf_some {L : List (Bs × α)} {p : Bs} {f : Bs × α} (h : get L p = some f) (z : DataW Unit) : (mapOf enc L).atKey (.string p) z = enc f.2 := by
  unfold mapOf DataW.atKey
  simp only []
  rw [List.find?_map, show ((fun q : Lit × DataW Unit => q.1.sameKey (.string p)) ∘ ent enc) = (fun f => f.1 == p) from rfl, show L.find? (fun f => f.1 == p) = some f from h]
  rfl
theorem at_mapOf_none {L : List (Bs × α)} {p : Bs} (h : get L p = none) (z : DataW Unit) : (mapOf enc L).atKey (.string p) z = z := by
  unfold mapOf DataW.atKey
  simp only []
  rw [List.find?_map, show ((fun q : Lit × DataW Unit => q.1.sameKey (.string p)) ∘ ent enc) = (fun f => f.1 == p) from rfl, show L.find? (fun f => f.1 == p) = none from h]
  rfl

theorem filter_keep {L : List (Bs × α)} {p : Bs} (h : ∀ f ∈ L, f.1 ≠ p) : (L.map (ent enc)).filter (fun q => !q.1.sameKey (.string p)) = L.map (ent enc) := by
  refine List.filter_eq_self.2 fun q hq => ?_
  obtain ⟨f, hf, rfl⟩ := List.mem_map.1 hq
  show (!(f.1 == p)) = true
  have := h f hf
  simpa using this

theorem put_mapOf : ∀ {L : List (Bs × α)} {f : Bs × α}, Sorted L → (mapOf enc L).put (.string f.1) (enc f.2) = mapOf enc (ins L f)
  | [], f, _ => rfl
  | g :: r, f, hs => by
    obtain ⟨h1, h2⟩ := List.pairwise_cons.1 hs
    have ih := put_mapOf (f := f) h2
    have ih' : DataW.insert (ent enc f) ((r.map (ent enc)).filter fun q => !q.1.sameKey (.string f.1)) = (ins r f).map (ent enc) := by
      have : DataW.map (DataW.insert (ent enc f) ((r.map (ent enc)).filter fun q => !q.1.sameKey (.string f.1))) = mapOf enc (ins r f) := ih
      exact (DataW.map.injEq _ _).mp this
    show DataW.map (DataW.insert (ent enc f) ((ent enc g :: r.map (ent enc)).filter fun q => !q.1.sameKey (.string f.1))) = .map ((ins (g :: r) f).map (ent enc))
    congr 1
    unfold ins
    by_cases e : g.1 = f.1
    · have e1 : (ent enc g).1.sameKey (.string f.1) = true := by show (g.1 == f.1) = true; simpa using e
      rw [if_pos e, List.filter_cons, if_neg (by rw [e1]; simp), filter_keep enc (fun x hx e2 => lt_ne (h1 x hx) (e.trans e2.symm))]
      cases r with
      | nil => rfl
      | cons x r =>
        show DataW.insert (ent enc f) (ent enc x :: r.map (ent enc)) = _
        unfold DataW.insert
        have : (ent enc f).1.before (ent enc x).1 = true := by
          show bytesBefore f.1 x.1 = true
          rw [before_lt, ← e]; simpa using h1 x (by simp)
        rw [if_pos this]; rfl
    · have e1 : (ent enc g).1.sameKey (.string f.1) = false := by show (g.1 == f.1) = false; simpa using e
      rw [if_neg e, List.filter_cons, if_pos (by rw [e1]; rfl)]
      by_cases e2 : f.1 < g.1
      · rw [if_pos e2, filter_keep enc (fun x hx e3 => lt_irr _ (e3 ▸ lt_tr e2 (h1 x hx)))]
        unfold DataW.insert
        have : (ent enc f).1.before (ent enc g).1 = true := by
          show bytesBefore f.1 g.1 = true
          rw [before_lt]; simpa using e2
        rw [if_pos this]; rfl
      · rw [if_neg e2]
        unfold DataW.insert
        have : ¬ (ent enc f).1.before (ent enc g).1 = true := by
          show ¬ bytesBefore f.1 g.1 = true
          rw [before_lt]; simpa using e2
        rw [if_neg this, ih']; rfl

end
end Go.Proofs.YtgednccpjegbmaaGreatDoor.Kp
namespace Go.Proofs.YtgednccpjegbmaaGreatDoor.Kw
open Go.RowKit Go.Proofs.YtgednccpjegbmaaGreatDoor Go.Maps Go.Proofs.YtgednccpjegbmaaGreatDoor.Ww Go.Proofs.YtgednccpjegbmaaGreatDoor.Tw
set_option maxRecDepth 100000

abbrev SK : TypeId := 9
theorem key : Keyed Tryz.prog SK := string_keyed Tryz.underlying9
theorem key_of {p : ByteArray} (h : p.size ≤ maxLen) : keyOf Tryz.prog SK (.string p) = some (.string (by8 p)) := WideMaps.keyOf_string_mk Tryz.underlying9 h
theorem keyS (key : Value) (kl : Lit) (h : keyOf Tryz.prog SK key = some kl) : ∃ x : Bs, key = Value.string (str x) := by
  obtain ⟨x, hx, _⟩ := Maps.keyOf_str Tryz.underlying9 h
  exact ⟨x, hx⟩
theorem keyS_inv {x : Bs} {kl : Lit} (h : keyOf Tryz.prog SK (Value.string (str x)) = some kl) : kl = .string x := by
  obtain ⟨y, hy, rfl, _⟩ := Maps.keyOf_str Tryz.underlying9 h
  have : Value.string (str x) = Value.string (str y) := hy
  have e := congrArg (fun v => match v with | Value.string s => by8 s | _ => []) this
  simp only [by8_str] at e
  rw [e]
/-- A kind of map. -/
structure Kind (α : Type) where
  mt : TypeId
  et : TypeId
  val : α → Value
  enc : α → DataW Unit
  elem : Value → Option (DataW Unit × List MemPlace)
  zero : α
  elem_mk : ∀ a, elem (val a) = some (enc a, [])
  elem_inv : ∀ v z, elem v = some z → ∃ a, v = val a ∧ z = (enc a, [])
  enc_inj : ∀ a b, enc a = enc b → a = b
  und : Tryz.prog.underlying mt = some (.map SK et)
  zeroRun : ∀ w, (zeroValue et).run Tryz.prog w = .ok (val zero) w

/-- What a call may turn: these blocks, and new ones. -/
structure Kept (X : List Nat) (w w' : World) : Prop where
  os : w'.os = w.os
  tape : w'.tape = w.tape
  output : w'.output = w.output
  size : w.heap.size ≤ w'.heap.size
  block : ∀ i, i < w.heap.size → i ∉ X → w'.heap[i]? = w.heap[i]?

theorem Kept.refl (X : List Nat) (w : World) : Kept X w w := ⟨rfl, rfl, rfl, Nat.le_refl _, fun _ _ _ => rfl⟩
theorem Kept.trans {X : List Nat} {a b c : World} (h : Kept X a b) (k : Kept X b c) : Kept X a c :=
  ⟨k.os.trans h.os, k.tape.trans h.tape, k.output.trans h.output, Nat.le_trans h.size k.size, fun i hi hx => (k.block i (Nat.lt_of_lt_of_le hi h.size) hx).trans (h.block i hi hx)⟩
theorem Kept.mono {X Y : List Nat} {a b : World} (h : Kept X a b) (hs : ∀ i, i ∈ X → i ∈ Y) : Kept Y a b :=
  ⟨h.os, h.tape, h.output, h.size, fun i hi hx => h.block i hi fun e => hx (hs i e)⟩
theorem Kept.of_below {X : List Nat} {a b : World} (h : Below a.heap.size a b) : Kept X a b := ⟨h.os, h.tape, h.output, h.size, fun i hi _ => h.block i hi⟩
theorem Kept.below {X : List Nat} {a b c : World} (h : Kept X a b) (k : Below b.heap.size b c) : Kept X a c := h.trans (.of_below k)
theorem Kept.alloc {X : List Nat} {a b : World} (h : Kept X a b) (o : Obj) : Kept X a (b.alloc o) := h.below ((Below.refl _ b).alloc (Nat.le_refl _) o)
theorem Kept.drewN {X : List Nat} {a b : World} (h : Kept X a b) (n : Nat) : Kept X a (b.drewN n) := ⟨h.os, h.tape, h.output, h.size, h.block⟩
theorem Kept.setCell {X : List Nat} {a b : World} (h : Kept X a b) {p : Addr} (hp : p.block ∈ X ∨ a.heap.size ≤ p.block) (u : Value) : Kept X a (b.setCell p u) :=
  ⟨h.os, h.tape, h.output, by simpa [World.setCell] using h.size, fun i hi hx => (Below.heap_setCell _ _ _ _ (by
    rcases hp with hp | hp
    · exact fun e => hx (e ▸ hp)
    · omega)).trans (h.block i hi hx)⟩
theorem Kept.grown {X : List Nat} {a b c : World} {row : Option Nat} (h : Kept X a b) (hg : b.grownBy c row) (hr : ∀ r, row = some r → r ∈ X ∨ a.heap.size ≤ r) : Kept X a c :=
  ⟨hg.os.trans h.os, hg.tape.trans h.tape, hg.output.trans h.output, Nat.le_trans h.size hg.size, fun i hi hx => (hg.block i (Nat.lt_of_lt_of_le hi h.size) (fun e => by
    rcases hr i e.symm with hr | hr
    · exact hx hr
    · omega)).trans (h.block i hi hx)⟩
theorem Kept.to_below {X : List Nat} {a b : World} {B : Nat} (h : Kept X a b) (hB : B ≤ a.heap.size) (hX : ∀ i ∈ X, B ≤ i) : Below B a b :=
  ⟨h.os, h.tape, h.output, h.size, fun i hi => h.block i (by omega) fun e => by have := hX i e; omega⟩
section
variable {α : Type} (K : Kind α)
/-- Block bm is a map with these entries. -/
structure MapAt (w : World) (bm : Nat) (L : List (Bs × α)) : Prop where
  own : w.ownsMap Tryz.prog SK K.elem bm L.length (Kp.mapOf K.enc L)
  sorted : Kp.Sorted L
/-- .. or there is none. -/
def MOpt (w : World) (m : Option Nat) (L : List (Bs × α)) : Prop := match m with
  | none => L = []
  | some b => MapAt K w b L
/-- What is at a key. -/
def valA (L : List (Bs × α)) (p : Bs) : α := ((Kp.get L p).map (·.2)).getD K.zero
end
section
variable {α : Type} {K : Kind α} {w w' : World} {bm : Nat} {L : List (Bs × α)}
theorem own_exact {n : Nat} {R : Value → Option (DataW Unit × List MemPlace)} {D : DataW Unit} (h : w.ownsMap Tryz.prog SK R bm n D) : w.ownsMap Tryz.prog SK R bm (Maps.size D) D := by
  obtain ⟨es, clock, hb, Ft, _, rfl⟩ := h
  exact ⟨es, clock, hb, Ft, by simp [Maps.size, length_sorted], rfl⟩
theorem MapAt.of_own {n : Nat} (h : w.ownsMap Tryz.prog SK K.elem bm n (Kp.mapOf K.enc L)) (hs : Kp.Sorted L) : MapAt K w bm L := by
  have := own_exact h
  rw [Kp.size_mapOf] at this
  exact ⟨this, hs⟩
theorem MapAt.new (w : World) : MapAt K (w.alloc (.map #[] 0)) w.heap.size [] := ⟨World.ownsMap_made w _ _ _, List.Pairwise.nil⟩
theorem MapAt.lt (h : MapAt K w bm L) : bm < w.heap.size := h.own.lt
theorem MapAt.block (h : MapAt K w bm L) (hb : w'.heap[bm]? = w.heap[bm]?) : MapAt K w' bm L := by
  obtain ⟨⟨es, clock, hh, r⟩, s⟩ := h
  exact ⟨⟨es, clock, hb.trans hh, r⟩, s⟩
theorem MapAt.below (h : MapAt K w bm L) (hk : Below w.heap.size w w') : MapAt K w' bm L := h.block (hk.block _ h.lt)
theorem MapAt.alloc (h : MapAt K w bm L) (o : Obj) : MapAt K (w.alloc o) bm L := h.below ((Below.refl _ w).alloc (Nat.le_refl _) o)
theorem MapAt.setCell (h : MapAt K w bm L) {p : Addr} (hp : bm ≠ p.block) (u : Value) : MapAt K (w.setCell p u) bm L := h.block (Below.heap_setCell _ _ _ _ hp)
theorem MapAt.obj (h : MapAt K w bm L) : ∃ es ck, w.heap[bm]? = some (.map es ck) := by
  obtain ⟨⟨es, ck, hh, _⟩, _⟩ := h
  exact ⟨es, ck, hh⟩
theorem MapAt.not_cells (h : MapAt K w bm L) {b : Nat} {cs : Array Value} {T : TypeId} {fz : Nat × Nat} (hb : w.heap[b]? = some (.cells cs T fz)) : bm ≠ b := by
  intro e
  obtain ⟨⟨es, clock, hh, _⟩, _⟩ := h
  rw [e, hb] at hh; cases hh
theorem MOpt.lt {m : Option Nat} (h : MOpt K w m L) : ∀ b, m = some b → b < w.heap.size := fun b e => by subst e; exact MapAt.lt h
theorem MOpt.block {m : Option Nat} (h : MOpt K w m L) (hb : ∀ b, m = some b → w'.heap[b]? = w.heap[b]?) : MOpt K w' m L := by
  cases m with
  | none => exact h
  | some b => exact MapAt.block h (hb b rfl)
theorem MOpt.below {m : Option Nat} (h : MOpt K w m L) (hk : Below w.heap.size w w') : MOpt K w' m L := h.block fun b e => hk.block _ (h.lt b e)
/-- A look-up. -/
theorem MapAt.run_look (h : MapAt K w bm L) {p : ByteArray} (hp : p.size ≤ maxLen) :
    (Instr.lookup K.mt (.map (some bm)) (.string p) true).run Tryz.prog w = .ok (.tuple #[K.val (valA K L (by8 p)), .bool (Kp.get L (by8 p)).isSome]) w ∧ (Instr.lookup K.mt (.map (some bm)) (.string p) false).run Tryz.prog w = .ok (K.val (valA K L (by8 p))) w := by
  obtain ⟨v, ps, hrun, hv⟩ := h.own.look_ok key K.und (K.zeroRun w) (K.elem_mk K.zero) (key_of hp)
  obtain ⟨v2, ps2, hrun2, hv2⟩ := h.own.lookup key K.und (K.zeroRun w) (K.elem_mk K.zero) (key_of hp)
  have hval : ∀ u us, K.elem u = some ((Kp.mapOf K.enc L).atKey (.string (by8 p)) (K.enc K.zero), us) → u = K.val (valA K L (by8 p)) := by
    intro u us hu
    obtain ⟨g, rfl, hg⟩ := K.elem_inv _ _ hu
    have e := congrArg Prod.fst hg
    dsimp only at e
    unfold valA
    cases hq : Kp.get L (by8 p) with
    | some f =>
      rw [Kp.at_mapOf_some K.enc hq] at e
      rw [← K.enc_inj _ _ e]; rfl
    | none =>
      rw [Kp.at_mapOf_none K.enc hq] at e
      rw [← K.enc_inj _ _ e]; rfl
  rw [Kp.has_mapOf] at hrun
  rw [hval v ps hv] at hrun
  rw [hval v2 ps2 hv2] at hrun2
  exact ⟨hrun, hrun2⟩
theorem MOpt.run_look {m : Option Nat} (h : MOpt K w m L) {p : ByteArray} (hp : p.size ≤ maxLen) :
    (Instr.lookup K.mt (.map m) (.string p) true).run Tryz.prog w = .ok (.tuple #[K.val (valA K L (by8 p)), .bool (Kp.get L (by8 p)).isSome]) w ∧ (Instr.lookup K.mt (.map m) (.string p) false).run Tryz.prog w = .ok (K.val (valA K L (by8 p))) w := by
  cases m with
  | some b => exact MapAt.run_look h hp
  | none =>
    obtain rfl : L = [] := h
    exact ⟨Maps.look_nil (w := w) true key K.und (K.zeroRun w) (key_of hp), Maps.look_nil (w := w) false key K.und (K.zeroRun w) (key_of hp)⟩
theorem MOpt.len {m : Option Nat} (h : MOpt K w m L) (ty : TypeId) : (Builtin.len_ #[K.mt] ty #[.map m]).run Tryz.prog w = .ok (.int .i64 L.length) w := by
  cases m with
  | some b =>
    have := (MapAt.own h).len K.und ty
    rwa [Kp.size_mapOf] at this
  | none =>
    obtain rfl : L = [] := h
    exact Maps.len_nil (w := w) K.und ty
end

/-! ### the map's operations -/
section
variable {α : Type} {K : Kind α} (w : World) {ops : Array Oper} {rest : List Oper} {o : Oper} {a : Act} {Q : Exit → Act → World → Prop}

theorem wpList_look_ok (hg : o.guard = none) (m x : Operand) (hop : o.op = Op.lookup K.mt m x true) {mb : Option Nat} {L : List (Bs × α)} {p : ByteArray} (hm : a.eval m = .map mb) (hx : a.eval x = .string p)
    (hM : MOpt K w mb L) (hp : p.size ≤ maxLen) (V : Value) (b : Bool) (hV : Hid (K.val (valA K L (by8 p)) = V ∧ (Kp.get L (by8 p)).isSome = b)) (hK : wpList Tryz.prog ops Q rest (a.put o.dst (.tuple #[V, .bool b])) w) : wpList Tryz.prog ops Q (o :: rest) a w := by
  refine wpList_plain hg fun K' hK' => ?_
  have hrun := (hM.run_look hp).1
  rw [hV.out.1, hV.out.2] at hrun
  unfold Oper.wp
  simp [execOp, hop, hm, hx, hrun, Result.andThen]
  exact hK' _ _ hK
theorem wpList_look (hg : o.guard = none) (m x : Operand) (hop : o.op = Op.lookup K.mt m x false) {mb : Option Nat} {L : List (Bs × α)} {p : ByteArray} (hm : a.eval m = .map mb) (hx : a.eval x = .string p)
    (hM : MOpt K w mb L) (hp : p.size ≤ maxLen) (V : Value) (hV : Hid (K.val (valA K L (by8 p)) = V)) (hK : wpList Tryz.prog ops Q rest (a.put o.dst V) w) : wpList Tryz.prog ops Q (o :: rest) a w := by
  refine wpList_plain hg fun K' hK' => ?_
  have hrun := (hM.run_look hp).2
  rw [hV.out] at hrun
  unfold Oper.wp
  simp [execOp, hop, hm, hx, hrun, Result.andThen]
  exact hK' _ _ hK
theorem wpList_put (hg : o.guard = none) (m x v : Operand) (hop : o.op = Op.mapUpdate K.mt m x v) {bm : Nat} {L : List (Bs × α)} {p : Bs} {c : α} (hm : a.eval m = .map (some bm)) (hx : a.eval x = .string (str p)) (hv : a.eval v = K.val c)
    (hM : MapAt K w bm L) (hp : p.length ≤ maxLen) (hn : L.length < maxLen) (hK : ∀ w', MapAt K w' bm (Kp.ins L (p, c)) → w.mapTurned w' bm → wpList Tryz.prog ops Q rest (a.put o.dst undef) w') : wpList Tryz.prog ops Q (o :: rest) a w := by
  refine wpList_mapUpdate_in w hg m x v _ hop SK K.et key K.und K.elem bm _ _ hm hM.own hn _ _ _ hx hv (key_of (by rw [str_size]; exact hp)) _ [] (K.elem_mk c) ?_
  intro w' hown ht
  rw [by8_str, Kp.put_mapOf K.enc (f := (p, c)) hM.sorted] at hown
  exact hK w' (MapAt.of_own hown (Kp.sorted_ins hM.sorted)) ht
end
end Go.Proofs.YtgednccpjegbmaaGreatDoor.Kw
namespace Go.Proofs.YtgednccpjegbmaaGreatDoor.Kw
open Go Go.RowKit Go.Proofs.YtgednccpjegbmaaGreatDoor
section
variable {P : Program} {ops : Array Oper} {Q : Exit → Act → World → Prop} {md : Region.Mode} {T : Bool → World → Prop} {U : World → Prop} {c : Nat}
/-- Whatever order is picked, and T holds behind each operation; T may turn at operation c. -/
def wpAnyD (P : Program) (md : Region.Mode) (ops : Array Oper) (Q : Exit → Act → World → Prop) (c : Nat) (T : Bool → World → Prop) : Nat → Array Bool → Act → World → Prop
  | 0, listed, a, w => Region.ready md ops listed = [] ∧ Q .normal a w
  | fuel + 1, listed, a, w =>
    (Region.ready md ops listed = [] → Q .normal a w) ∧
    ∀ i ∈ Region.ready md ops listed, wpOp P ops Q i (fun a' w' => T ((listed.setIfInBounds i true).getD c false) w' ∧ wpAnyD P md ops Q c T fuel (listed.setIfInBounds i true) a' w') a w
theorem wpAny_of_D : ∀ (fuel : Nat) (listed : Array Bool) (a : Act) (w : World), wpAnyD P md ops Q c T fuel listed a w → wpAny P md ops Q fuel listed a w
  | 0, _, _, _, h => h
  | fuel + 1, _, _, _, h => ⟨h.1, fun i hi => wpOp_mono (fun a' w' h' => wpAny_of_D fuel _ a' w' h'.2) (h.2 i hi)⟩
theorem wpAnyD_first {i : Nat} {oi : Oper} {v : Value} (hic : i ≠ c) (D : List Nat) (hdep : ∀ d ∈ D, d ≠ i → ∀ od, ops[d]? = some od → ∃ e ∈ od.after, Region.binds md e = true ∧ e.on ∈ D)
    (hTU : ∀ b w, T b w → (c ∈ D → b = false) → U w) (hi : ops[i]? = some oi) (hsel : ∀ (j : Nat) (o : Oper) cs b, ops[j]? = some o → o.op ≠ .select cs b)
    (hQ : ∀ c a w, Q (.panic c) (a.put oi.dst v) w → Q (.panic c) a w) :
    ∀ (fuel : Nat) (listed : Array Bool) (a : Act) (w : World),
      (∀ j oj, ops[j]? = some oj → j ≠ i → listed.getD j true = false → (∀ e ∈ oj.after, Region.binds md e = true → e.on ≠ i) → oi.apart ops oj = true) →
      (∀ d ∈ D, listed.getD d false = false) →
      i ∈ Region.ready md ops listed → YieldsIf P ops U oi v a → T (listed.getD c false) w →
      wpAnyD P md ops Q c T fuel (listed.setIfInBounds i true) (a.put oi.dst v) w → wpAnyD P md ops Q c T (fuel + 1) listed a w := by
  intro fuel
  induction fuel with
  | zero =>
    intro listed a w _ hd hr hy hT H
    refine ⟨fun h => (by rw [h] at hr; cases hr), fun j hj => ?_⟩
    by_cases hji : j = i
    · subst hji
      exact hy.wpOp hi (hTU _ _ hT (hd c)) ⟨by rw [getD_set_ne false hic]; exact hT, H⟩
    · have := ready_mono hj hji
      rw [H.1] at this
      cases this
  | succ fuel ih =>
    intro listed a w hfree hd hr hy hT H
    refine ⟨fun h => (by rw [h] at hr; cases hr), fun j hj => ?_⟩
    by_cases hji : j = i
    · subst hji
      exact hy.wpOp hi (hTU _ _ hT (hd c)) ⟨by rw [getD_set_ne false hic]; exact hT, H⟩
    · have h1 := H.2 j (ready_mono hj hji)
      obtain ⟨hjun, oj, hoj, hall⟩ := mem_ready.1 hj
      have hnot : ∀ e ∈ oj.after, Region.binds md e = true → e.on ≠ i := fun e he hb heq => by
        have h1 := hall e he hb
        have h0 := (mem_ready.1 hr).1
        rw [heq] at h1
        rcases Nat.lt_or_ge i listed.size with h' | h'
        · simp [h'] at h0 h1; rw [h0] at h1; cases h1
        · simp [Array.getElem?_eq_none h'] at h1
      have h2 := wpOp_putIf hoj (hfree j oj hoj hji hjun hnot) (fun cs b => hsel i oi cs b hi) (fun cs b => hsel j oj cs b hoj) hQ hy h1
      have hfree' : ∀ k ok, ops[k]? = some ok → k ≠ i → (listed.setIfInBounds j true).getD k true = false →
          (∀ e ∈ ok.after, Region.binds md e = true → e.on ≠ i) → oi.apart ops ok = true := fun k ok hk hki hun hno => by
        refine hfree k ok hk hki ?_ hno
        by_cases hjk : j = k
        · subst hjk; exact hjun
        · rw [getD_set_ne true hjk] at hun; exact hun
      have hjD : j ∉ D := fun h => by
        obtain ⟨e, he, hb, ho⟩ := hdep j h hji oj hoj
        have h5 := hall e he hb
        rw [hd _ ho] at h5
        cases h5
      have hd' : ∀ d ∈ D, (listed.setIfInBounds j true).getD d false = false := fun d h => by
        have hjd : j ≠ d := fun e => hjD (e ▸ h)
        rw [getD_set_ne false hjd]
        exact hd d h
      have ec : (((listed.setIfInBounds i true).setIfInBounds j true).getD c false) = (listed.setIfInBounds j true).getD c false := by
        rw [Array.setIfInBounds_comm _ _ (Ne.symm hji), getD_set_ne false hic]
      refine wpOp_mono (fun a' w' h3 => ⟨by have := h3.2.1; rw [ec] at this; exact this, ih (listed.setIfInBounds j true) a' w' hfree' hd' (ready_mono hr (Ne.symm hji)) h3.1 (by have := h3.2.1; rw [ec] at this; exact this) ?_⟩) h2
      rw [Array.setIfInBounds_comm _ _ hji]
      exact h3.2.2
/-- Number i first: what must stand ahead of c, by the chain D. -/
theorem wpAnyD_pre {i : Nat} (D : List Nat) {oi : Oper} {v : Value} {fuel : Nat} {listed : Array Bool} {a : Act} {w : World} (hic : (i == c) = false) (hi : ops[i]? = some oi) (hcD : D.contains c = true)
    (hdep : D.all (fun d => d == i || match ops[d]? with | none => true | some o => o.after.any (fun e => Region.binds md e && D.contains e.on)) = true) (hun : D.all (fun d => !listed.getD d false) = true)
    (hs : Region.noSelect ops = true) (hf : Region.free md ops listed i = true) (hr : (Region.ready md ops listed).contains i = true)
    (hQ : ∀ c a w, Q (.panic c) (a.put oi.dst v) w → Q (.panic c) a w) (hy : YieldsIf P ops (T false) oi v a) (hT : T false w)
    (h : wpAnyD P md ops Q c T fuel (listed.setIfInBounds i true) (a.put oi.dst v) w) : wpAnyD P md ops Q c T (fuel + 1) listed a w := by
  have hcD' : c ∈ D := by simpa using hcD
  have hun' : ∀ d ∈ D, listed.getD d false = false := fun d hd => by
    have := List.all_eq_true.1 hun d hd
    rwa [Bool.not_eq_true'] at this
  refine wpAnyD_first (U := T false) (by simpa using hic) D (fun d hd hne od ho => ?_) (fun b w h hb => by have := hb hcD'; subst this; exact h) hi (Region.noSelect_spec hs) hQ fuel listed a w (Region.free_spec hi hf) hun' (by simpa using hr) hy (by rw [hun' c hcD']; exact hT) h
  have h1 := List.all_eq_true.1 hdep d hd
  rw [ho, Bool.or_eq_true] at h1
  rcases h1 with h1 | h1
  · exact absurd (by simpa using h1) hne
  · simp only [Array.any_eq_true'] at h1
    obtain ⟨e, he, h2⟩ := h1
    simp at h2
    exact ⟨e, he, h2.1, h2.2⟩
/-- One alone may come up. -/
theorem wpAnyD_one {i : Nat} {o : Oper} {fuel : Nat} {listed : Array Bool} {a : Act} {w : World} (hr : Region.ready md ops listed = [i]) (hi : ops[i]? = some o) (b : Bool) (hb : (listed.setIfInBounds i true).getD c false = b)
    (h : ∀ K' : Act → World → Prop, Hid (∀ a w, T b w → wpAnyD P md ops Q c T fuel (listed.setIfInBounds i true) a w → K' a w) → if Region.wanted o (yielded ops a.tmps) = true then Oper.wp P o a w K' Q else K' (a.put o.dst undef) w) :
    wpAnyD P md ops Q c T (fuel + 1) listed a w :=
  ⟨fun h0 => by rw [hr] at h0; simp at h0, fun j hj => by
    rw [hr] at hj
    obtain rfl : j = i := by simpa using hj
    exact wpOp_step hi (fun K' hK => h K' (Lib.hid fun a w hT hW => hK a w ⟨by rw [hb]; exact hT, hW⟩))⟩
theorem wpAnyD_done {listed : Array Bool} {a : Act} {w : World} (hr : Region.ready md ops listed = []) (h : Q .normal a w) :
    ∀ fuel, wpAnyD P md ops Q c T fuel listed a w
  | 0 => ⟨hr, h⟩
  | _ + 1 => ⟨fun _ => h, by rw [hr]; simp⟩
theorem wp_region_D {id : Nat} {a : Act} {w : World} (c : Nat) (T : Bool → World → Prop) (hm : P.follows .mixedOrders = true)
    (h : wpAnyD P .any ops Q c T ops.size (Array.replicate ops.size false) a w.drew) : (Code.region id ops true).wp P Q a w :=
  wp_region_any hm (wpAny_of_D _ _ _ _ h)
end
end Go.Proofs.YtgednccpjegbmaaGreatDoor.Kw
