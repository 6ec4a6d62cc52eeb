/-
  (*Store).put: a file of the next time.
-/
import Derived.StillTailTactics
import Derived.WalkSpells
import Derived.WalkLawsBesides
import Derived.Test.YtmmilnmlmgcobaaGreatDoorSPlace
namespace Go.Proofs.YtmmilnmlmgcobaaGreatDoor.Sw
open Go.RowKit Go.Proofs.YtmmilnmlmgcobaaGreatDoor Go.Maps
set_option maxRecDepth 100000


set_option maxHeartbeats 1000000 in
theorem put_late (w : World) {sb bm : Nat} {L : List F} {c : Int} (f : F) (hS : StoreAt w sb bm L c) (h0 : 0 ≤ c) (h1 : c ≤ 4611686018427387904) (hc : 4611686018427387904 ≤ c + 1) :
    Calls Tryz.prog 48 #[.pointer (some ⟨sb, 0, none⟩), .agg #[.string (str f.p), .string (str f.t), .int .i64 f.c, .bool f.d]] w (IntPost w 5) := by
  have c0 := hS.c0
  have hlt := hS.lt
  go_enter Tryz.func48, Tryz.ntmps48
  go_wp2_with (go_at_call 26; go_must (refine (Load_any _ sb 0 c (by go_simp)).mono ?_); rintro e w' ⟨rfl, rfl⟩)
  go_ret
  exact ⟨rfl, (Below.refl _ w).alloc (Nat.le_refl _) _⟩

theorem store_after {w : World} {sb bm : Nat} {L : List F} {c : Int} (h : StoreAt w sb bm L c) (y : Int) (o : Obj) :
    ((w.setCell ⟨sb, 0, none⟩ (.int .i64 y)).alloc o).heap[sb]? = some (.cells #[.int .i64 y, .map (some bm)] 57 (0, 0)) ∧ ((w.setCell ⟨sb, 0, none⟩ (.int .i64 y)).alloc o).cell? ⟨sb, 1, none⟩ = some (.map (some bm)) := by
  have hc := h.cells
  have hlt := h.lt
  have e1 : (w.setCell ⟨sb, 0, none⟩ (.int .i64 y)).heap[sb]? = some (.cells #[.int .i64 y, .map (some bm)] 57 (0, 0)) := by
    simp [World.setCell, Array.getElem?_modify, hc]
  have e2 : ((w.setCell ⟨sb, 0, none⟩ (.int .i64 y)).alloc o).heap[sb]? = some (.cells #[.int .i64 y, .map (some bm)] 57 (0, 0)) := by
    rw [Below.heap_alloc _ _ _ (by simpa [World.setCell] using hlt)]; exact e1
  exact ⟨e2, by simp [World.cell?, e2]⟩

theorem file_new (w : World) (p t : List UInt8) (c : Int) (d : Bool) :
    (w.alloc (.cells #[.string (str p), .string (str t), .int .i64 c, .bool d] 26)).cell? ⟨w.heap.size, 0, none⟩ = some (.string (str p)) ∧
    (w.alloc (.cells #[.string (str p), .string (str t), .int .i64 c, .bool d] 26)).cell? ⟨w.heap.size, 1, none⟩ = some (.string (str t)) ∧
    (w.alloc (.cells #[.string (str p), .string (str t), .int .i64 c, .bool d] 26)).cell? ⟨w.heap.size, 2, none⟩ = some (.int .i64 c) ∧
    (w.alloc (.cells #[.string (str p), .string (str t), .int .i64 c, .bool d] 26)).cell? ⟨w.heap.size, 3, none⟩ = some (.bool d) := by
  refine ⟨?_, ?_, ?_, ?_⟩ <;> rw [World.cell?_alloc_at _ _ _ _ rfl] <;> rfl

set_option maxHeartbeats 1000000 in
theorem put_any (w : World) {sb bm : Nat} {L : List F} {c : Int} (f : F) (hS : StoreAt w sb bm L c) (h0 : 0 ≤ c) (hc : c + 1 < 4611686018427387904) (hp : f.p.length ≤ maxLen) (hn : L.length < maxLen) :
    Calls Tryz.prog 48 #[.pointer (some ⟨sb, 0, none⟩), .agg #[.string (str f.p), .string (str f.t), .int .i64 f.c, .bool f.d]] w fun e w' =>
      e = .returned (.int .i64 0) ∧ StoreAt w' sb bm (Sp.ins L ⟨f.p, f.t, c + 1, f.d⟩) (c + 1) ∧ Kept [sb, bm] w w' := by
  have hq := fun (w : World) => run_eql_map_nil (P := Tryz.prog) w 50 9 26 (some bm) Tryz.underlying50
  have c0 := hS.c0
  have c1 := hS.c1
  have f0 := hS.f0
  have hlt := hS.lt
  go_enter Tryz.func48, Tryz.ntmps48
  go_wp2_with (go_at_call 26; go_must (refine (Load_any _ sb 0 c (by go_simp)).mono ?_); rintro e w' ⟨rfl, rfl⟩)
  go_wp2_with (go_at_call 25; go_must (refine (Stor_any _ sb 0 c (c + 1) (by go_simp) (by go_simp)).mono ?_); rintro e w' ⟨rfl, rfl⟩)
  have hM := (hS.map.setCell (p := ⟨sb, 0, none⟩) hS.ne (.int .i64 (c + 1))).alloc (.cells #[.string (str f.p), .string (str f.t), .int .i64 (c + 1), .bool f.d] 26)
  have hK := ((Kept.refl [sb, bm] w).setCell (p := ⟨sb, 0, none⟩) (.inl (by simp)) (.int .i64 (c + 1))).alloc (.cells #[.string (str f.p), .string (str f.t), .int .i64 (c + 1), .bool f.d] 26)
  have hC := store_after hS (c + 1) (.cells #[.string (str f.p), .string (str f.t), .int .i64 (c + 1), .bool f.d] 26)
  have hF := file_new (w.setCell ⟨sb, 0, none⟩ (.int .i64 (c + 1))) f.p f.t (c + 1) f.d
  rw [show (w.setCell ⟨sb, 0, none⟩ (.int .i64 (c + 1))).heap.size = w.heap.size by simp [World.setCell]] at hF
  generalize ((w.setCell ⟨sb, 0, none⟩ (.int .i64 (c + 1))).alloc (.cells #[.string (str f.p), .string (str f.t), .int .i64 (c + 1), .bool f.d] 26)) = W at *
  obtain ⟨d0, d1, d2, d3⟩ := hF
  have d5 := hC.2
  go_still_tail 7, (by kernel_rfl)
  change wpList _ _ _ _ _ W.drew
  have hM2 : MapAt W.drew bm L := hM.block rfl
  have hK2 : Kept [sb, bm] w W.drew := hK.drewN 1
  have hC2 : W.drew.heap[sb]? = some (.cells #[.int .i64 (c + 1), .map (some bm)] 57 (0, 0)) := hC.1
  clear hM hK hC d0 d1 d2 d3 d5
  generalize W.drew = W2 at *
  have hne := hS.ne
  go_wp2_with (at_mapUpdate; refine wpList_put (f := ⟨f.p, f.t, c + 1, f.d⟩) _ rfl _ _ _ rfl rfl rfl rfl hM2 hp hn ?_; intro w3 hM3 ht)
  go_ret
  exact ⟨rfl, ⟨(ht.grown.block sb (Array.getElem?_eq_some_iff.1 hC2).1 (by simpa using fun e => hne e.symm)).trans hC2, hM3⟩, hK2.grown ht.grown (by simp)⟩

/-! ### a store's state, and what the calls make of it -/
structure St where
  L : List F
  c : Int
def maxT : Nat := 1048576

def putA (s : St) (f : F) : St × Int := if 4611686018427387904 ≤ s.c + 1 then (s, 5) else (⟨Sp.ins s.L ⟨f.p, f.t, s.c + 1, f.d⟩, s.c + 1⟩, 0)

/-- What a call leaves: an error's number, a store, other blocks as they were. -/
def OpPost (w : World) (sb bm : Nat) (r : St × Int) (e : Ending) (w' : World) : Prop := e = .returned (.int .i64 r.2) ∧ StoreAt w' sb bm r.1.L r.1.c ∧ Kept [sb, bm] w w'

/-- What holds of every store. -/
structure Fine (s : St) : Prop where
  sorted : Sp.Sorted s.L
  c0 : 0 ≤ s.c
  c1 : s.c < 4611686018427387904
  len : s.L.length ≤ 4096
  text : ∀ f ∈ s.L, f.t.length ≤ 1048576
  path : ∀ f ∈ s.L, f.p.length ≤ 100000

theorem put_bytes (w : World) {sb bm : Nat} {s : St} (p t : ByteArray) (c : Int) (d : Bool) (hS : StoreAt w sb bm s.L s.c) (hF : Fine s) (hp : p.size ≤ maxLen) :
    Calls Tryz.prog 48 #[.pointer (some ⟨sb, 0, none⟩), .agg #[.string p, .string t, .int .i64 c, .bool d]] w (OpPost w sb bm (putA s ⟨bs p, bs t, c, d⟩)) := by
  have h0 := hF.c0
  have h1 := hF.c1
  have h2 := hF.len
  by_cases h : 4611686018427387904 ≤ s.c + 1
  · refine (put_late w ⟨bs p, bs t, c, d⟩ hS h0 (by omega) h).mono ?_
    rintro e w' ⟨rfl, hB⟩
    unfold putA
    rw [if_pos h]
    exact ⟨rfl, hS.below hB, .of_below hB⟩
  · refine (put_any w ⟨bs p, bs t, c, d⟩ hS h0 (by omega) (by show (bs p).length ≤ _; rw [bs_len]; exact hp) (by unfold maxLen; omega)).mono ?_
    rintro e w' ⟨rfl, hS', hK⟩
    unfold putA
    rw [if_neg h]
    exact ⟨rfl, hS', hK⟩

theorem Fine.put {s : St} (h : Fine s) {f : F} (ht : f.t.length ≤ 1048576) (hp : f.p.length ≤ 100000) (hl : (Sp.get s.L f.p).isSome ∨ s.L.length < 4096) : Fine (putA s f).1 := by
  unfold putA
  split
  · exact h
  · rename_i hc
    have h0 := h.c0
    refine ⟨Sp.sorted_ins h.sorted, by show 0 ≤ s.c + 1; omega, by show s.c + 1 < _; omega, ?_, fun g hg => ?_, fun g hg => ?_⟩
    · show (Sp.ins s.L _).length ≤ 4096
      have hlen := h.len
      cases hq : Sp.get s.L f.p with
      | some g => rw [Sp.len_ins_yes (f := ⟨f.p, f.t, s.c + 1, f.d⟩) h.sorted hq]; exact hlen
      | none =>
        rw [Sp.len_ins_no (f := ⟨f.p, f.t, s.c + 1, f.d⟩) h.sorted hq]
        rcases hl with hl | hl
        · rw [hq] at hl; cases hl
        · omega
    · rcases (Sp.mem_ins h.sorted g).1 hg with rfl | ⟨hg, _⟩
      · exact ht
      · exact h.text g hg
    · rcases (Sp.mem_ins h.sorted g).1 hg with rfl | ⟨hg, _⟩
      · exact hp
      · exact h.path g hg
end Go.Proofs.YtmmilnmlmgcobaaGreatDoor.Sw
