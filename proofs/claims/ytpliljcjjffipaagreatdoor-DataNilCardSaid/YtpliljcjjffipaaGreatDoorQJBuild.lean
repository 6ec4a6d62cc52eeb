/-
  strings.Builder in a block of its own, read by String and written on: copyCheck, WriteString, WriteByte, String; which blocks are its own.
-/
import Derived.Lib.Builder
import Derived.Lib.UnsafeStr
import Derived.Lib.FrozenHead2
import Derived.Laws.Externs
import Derived.Lib.Strings
import Derived.Lib.AppendStr
import Derived.Test.YtpliljcjjffipaaGreatDoorQJTab
namespace Go.Proofs.YtpliljcjjffipaaGreatDoor.Jw
open Go.RowKit Go.Proofs.YtpliljcjjffipaaGreatDoor Go.Proofs.YtpliljcjjffipaaGreatDoor.Ww Go.Proofs.YtpliljcjjffipaaGreatDoor.Tw Go.Proofs.YtpliljcjjffipaaGreatDoor.Kw
set_option maxRecDepth 100000

theorem copy_used (b : Nat) (w : World) (h0 : w.cell? ⟨b, 0, none⟩ = some (.pointer (some ⟨b, 0, none⟩))) :
    Calls Tryz.prog 205 #[.pointer (some ⟨b, 0, none⟩)] w fun e w' => e = .returned (.tuple #[]) ∧ w' = w := by
  obtain ⟨j, hj, _⟩ := Option.map_eq_some_iff.1 sizeB
  go_enter Tryz.func205, Tryz.ntmps205
  go_wp2
  rw [Lib.run_neq_ptr_same w _ Tryz.underlying128 hj]
  go_wp2
  go_end0
  exact ⟨rfl, rfl⟩

theorem copy_fresh (b : Nat) (w : World) (h0 : w.cell? ⟨b, 0, none⟩ = some (.pointer none)) (hsh : w.shape? b = some (BT, 2)) (hfz : w.frozen? ⟨b, 0, none⟩ = false) :
    Calls Tryz.prog 205 #[.pointer (some ⟨b, 0, none⟩)] w fun e w' => e = .returned (.tuple #[]) ∧ w' = w.setCell ⟨b, 0, none⟩ (.pointer (some ⟨b, 0, none⟩)) := by
  obtain ⟨j, hj, hjs⟩ := Option.map_eq_some_iff.1 sizeB
  go_enter Tryz.func205, Tryz.ntmps205
  go_wp2
  rw [Lib.run_to_unsafe w ⟨b, 0, none⟩ Tryz.underlying128 Tryz.underlying340 hj (by rw [hjs]; decide) hsh (by show 0 < 2; decide)]
  simp only [Result.andThen]
  rw [Oper.upon_value]
  go_wp2
  rw [run_callFunc_extern Tryz.func257 (by kernel_rfl) (by kernel_rfl) (by kernel_rfl) (e := Extern.AbiNoEscape.same) (by kernel_rfl)]
  rw [Lib.run_noEscape]
  simp only [Result.andThen]
  rw [Oper.upon_value]
  go_wp2
  rw [Lib.run_from_unsafe w ⟨b, 0, none⟩ Tryz.underlying340 Tryz.underlying128 hj hsh liesB]
  simp only [Result.andThen]
  rw [Oper.upon_value]
  go_wp2
  go_end0
  exact ⟨rfl, rfl⟩

theorem BldAt.set {w : World} {b : Nat} {O : List Nat} {l : Bs} {pv bv : Value} (h : BldAt w b O l pv bv) (i : Nat) (u : Value) : (w.setCell ⟨b, i, none⟩ u).heap[b]? = some (.cells ((#[pv, bv] : Array Value).setIfInBounds i u) BT (0, 0)) := heap_set h.cells u
theorem ownF_set {w : World} {b i : Nat} {v u : Value} {n : Nat} {xs : List Value} (h : w.ownsRowF 0 U8 1 v n xs) (hne : v.ownBlock ≠ some b) : (w.setCell ⟨b, i, none⟩ u).ownsRowF 0 U8 1 v n xs :=
  h.kept (row := some b) ⟨rfl, rfl, rfl, by simp [World.setCell], fun j _ hj => Below.heap_setCell _ _ _ _ (fun e => hj (by simp [e]))⟩ (Or.inr hne)

theorem copy_any (w : World) {b : Nat} {O : List Nat} {l : Bs} {pv bv : Value} (h : BldAt w b O l pv bv) :
    Calls Tryz.prog 205 #[.pointer (some ⟨b, 0, none⟩)] w fun e w' => e = .returned (.tuple #[]) ∧ BldAt w' b O l (.pointer (some ⟨b, 0, none⟩)) bv ∧ Kept O w w' := by
  rcases h.used with rfl | rfl
  · refine (copy_fresh b w (cell_at h.cells rfl) (by simp [World.shape?, h.cells]) (frozen_at h.cells 0)).mono ?_
    rintro e w' ⟨rfl, rfl⟩
    exact ⟨rfl, ⟨h.set 0 _, .inr rfl, ownF_set h.own h.ne, h.owns⟩, (Kept.refl _ _).setCell (.inl (by rw [h.owns]; simp)) _⟩
  · refine (copy_used b w (cell_at h.cells rfl)).mono ?_
    rintro e w' ⟨rfl, rfl⟩
    exact ⟨rfl, h, Kept.refl _ _⟩
theorem strCells_bs (s : ByteArray) : Lib.strCells s = Lib.byteCells (by8 s) := rfl
theorem owns_sliceF {w : World} {base : Nat} {e : TypeId} {size : Nat} {v : Value} {n : Nat} {xs : List Value} (h : w.ownsRowF base e size v n xs) : ∃ a c, v = .slice a n c := by
  rcases h.2 with ⟨rfl, rfl⟩ | ⟨g, cap, cur, fz, rfl, _⟩
  · exact ⟨_, _, rfl⟩
  · exact ⟨_, _, rfl⟩

/-- What a call that writes on a builder leaves. -/
def BPost (w : World) (b : Nat) (O : List Nat) (l : Bs) (w' : World) : Prop := ∃ O' pv bv, BldAt w' b O' l pv bv ∧ Kept O w w' ∧ ∀ i ∈ O', i ∈ O ∨ w.heap.size ≤ i

set_option maxHeartbeats 1000000 in
theorem WriteString_any (w : World) {b : Nat} {O : List Nat} {l : Bs} {pv bv : Value} (h : BldAt w b O l pv bv) (s : ByteArray) (hl : l.length + s.size ≤ 1000000000000) :
    Calls Tryz.prog 150 #[.pointer (some ⟨b, 0, none⟩), .string s] w fun e w' => e = .returned (.tuple #[.int .i64 s.size, .nilIface]) ∧ BPost w b O (l ++ by8 s) w' := by
  obtain ⟨i0, hi, hz0, hz1, hz2⟩ := info_parts infoU
  have HC := Lib.hid (copy_any w h)
  have hO := h.owns
  clear h
  go_enter Tryz.func150, Tryz.ntmps150
  go_wp2_with (go_at_call 205; refine HC.out.mono ?_)
  rintro e w1 ⟨rfl, h1, hK1⟩
  have hno := h1.ne
  have c0 : w1.cell? ⟨b, 0, none⟩ = some (.pointer (some ⟨b, 0, none⟩)) := cell_at h1.cells rfl
  have c1 : w1.cell? ⟨b, 1, none⟩ = some bv := cell_at h1.cells rfl
  have hlt1 := h1.lt
  go_wp2_with (at_builtin; refine wpList_append_strF _ rfl _ _ 137 9 rfl U8 i0 Tryz.underlying137 Tryz.underlying9 hi hz0 hz1 hz2 _ _ _ rfl h1.own s rfl ?c3 ?c4 ?_)
  case c3 => unfold maxLen; omega
  case c4 => omega
  intro v' w2 hown' hgrow hat
  have hb2 : w2.heap[b]? = some (.cells #[.pointer (some ⟨b, 0, none⟩), bv] BT (0, 0)) := (hgrow.block b hlt1 (fun e => hno e.symm)).trans h1.cells
  have f1 : w2.frozen? ⟨b, 1, none⟩ = false := frozen_at hb2 _
  have d1 : w2.cell? ⟨b, 1, none⟩ = some bv := cell_at hb2 rfl
  have hlt2 : b < w2.heap.size := Nat.lt_of_lt_of_le hlt1 hgrow.size
  obtain ⟨ao, n', rfl⟩ := owns_sliceF hown'
  go_wp2
  go_ret2
  rw [strCells_bs] at hown'
  have hlen : (l ++ by8 s).length = l.length + s.size := by rw [List.length_append, by8_len]
  have hcells : Lib.byteCells (l ++ by8 s) = Lib.byteCells l ++ Lib.byteCells (by8 s) := by simp [Lib.byteCells]
  have hne' : (Value.slice ao (l.length + s.size) n').ownBlock ≠ some b := Lib.ownBlock_neF hown' hb2 neBU
  refine ⟨rfl, b :: (Value.slice ao (l.length + s.size) n').ownBlock.toList, _, _, ⟨heap_set hb2 _, .inr rfl, ?_, rfl⟩, ?_, ?_⟩
  · rw [hlen, hcells]; exact ownF_set hown' hne'
  · exact (hK1.grown hgrow (fun r hr => .inl (by rw [hO]; simp [hr]))).setCell (.inl (by rw [hO]; simp)) _
  · intro i hi
    rcases List.mem_cons.1 hi with rfl | hi
    · exact .inl (by rw [hO]; simp)
    · rcases hat i (by simpa using hi) with e | e
      · exact .inl (by rw [hO]; simp [e])
      · exact .inr (Nat.le_trans hK1.size e)

set_option maxHeartbeats 1000000 in
theorem WriteByte_any (w : World) {b : Nat} {O : List Nat} {l : Bs} {pv bv : Value} (h : BldAt w b O l pv bv) (c : UInt8) (hl : l.length + 1 ≤ 1000000000000) :
    Calls Tryz.prog 173 #[.pointer (some ⟨b, 0, none⟩), .int .u8 (c.toNat : Int)] w fun e w' => e = .returned .nilIface ∧ BPost w b O (l ++ [c]) w' := by
  obtain ⟨i0, hi, hz0, hz1, hz2⟩ := info_parts infoU
  have HC := Lib.hid (copy_any w h)
  have hO := h.owns
  clear h
  go_enter Tryz.func173, Tryz.ntmps173
  go_wp2_with (go_at_call 205; refine HC.out.mono ?_)
  rintro e w1 ⟨rfl, h1, hK1⟩
  have hno := h1.ne
  have c0 : w1.cell? ⟨b, 0, none⟩ = some (.pointer (some ⟨b, 0, none⟩)) := cell_at h1.cells rfl
  have c1 : w1.cell? ⟨b, 1, none⟩ = some bv := cell_at h1.cells rfl
  have hlt1 := h1.lt
  go_wp2_with (at_builtin; refine wpList_append_oneF _ rfl _ _ 137 rfl U8 i0 (.int .u8 0) Tryz.underlying137 hi hz0 hz1 hz2 rfl _ _ _ rfl (h1.own.alloc _) ⟨w1.heap.size, 0, none⟩ 1 [.int .u8 (c.toNat : Int)] rfl rfl (cells_new _ #[.int .u8 (c.toNat : Int)] _ rfl) (by simp [Value.oneCell']) (by unfold maxLen; omega) (by omega) ?_)
  intro v' w2 hown' hgrow hat
  have hb2 : w2.heap[b]? = some (.cells #[.pointer (some ⟨b, 0, none⟩), bv] BT (0, 0)) := (hgrow.block b (by simp; omega) (fun e => hno e.symm)).trans ((((Below.refl w1.heap.size w1).alloc (Nat.le_refl _) _).block b hlt1).trans h1.cells)
  have f1 : w2.frozen? ⟨b, 1, none⟩ = false := frozen_at hb2 _
  have d1 : w2.cell? ⟨b, 1, none⟩ = some bv := cell_at hb2 rfl
  have hlt2 : b < w2.heap.size := Nat.lt_of_lt_of_le hlt1 (Nat.le_trans (by simp) hgrow.size)
  obtain ⟨ao, n', rfl⟩ := owns_sliceF hown'
  go_wp2
  go_ret
  have hlen : (l ++ [c]).length = l.length + 1 := by rw [List.length_append]; rfl
  have hcells : Lib.byteCells (l ++ [c]) = Lib.byteCells l ++ [.int .u8 (c.toNat : Int)] := by simp [Lib.byteCells]
  have hne' : (Value.slice ao (l.length + 1) n').ownBlock ≠ some b := Lib.ownBlock_neF hown' hb2 neBU
  refine ⟨rfl, b :: (Value.slice ao (l.length + 1) n').ownBlock.toList, _, _, ⟨heap_set hb2 _, .inr rfl, ?_, rfl⟩, ?_, ?_⟩
  · rw [hlen, hcells]; exact ownF_set hown' hne'
  · exact ((hK1.alloc _).grown hgrow (fun r hr => .inl (by rw [hO]; simp [hr]))).setCell (.inl (by rw [hO]; simp)) _
  · intro i hi
    rcases List.mem_cons.1 hi with rfl | hi
    · exact .inl (by rw [hO]; simp)
    · rcases hat i (by simpa using hi) with e | e
      · exact .inl (by rw [hO]; simp [e])
      · exact .inr (by have h1 := hK1.size; have h2 : w1.heap.size ≤ i := Nat.le_trans (by simp) e; omega)

abbrev pU8 : TypeId := 290
theorem cellsU : Tryz.prog.cellsOf U8 = 1 := by kernel_rfl
theorem kept_freeze {X : List Nat} {a w : World} (h : Kept X a w) {p : Addr} (hp : p.block ∈ X) (n : Nat) : Kept X a (w.freeze p n) := by
  refine h.trans ?_
  unfold World.freeze
  split
  · exact Kept.refl X w
  · exact ⟨rfl, rfl, rfl, by simp, fun k hk hx => by
      simp only [Array.getElem?_modify]
      rw [if_neg (fun e => by subst e; exact hx hp)]⟩
theorem BldAt.froze {w : World} {b g cap : Nat} {O : List Nat} {l : Bs} {pv : Value} (h : BldAt w b O l pv (.slice (some ⟨g, 0, none⟩) l.length cap)) : BldAt (w.freeze ⟨g, 0, none⟩ l.length) b O l pv (.slice (some ⟨g, 0, none⟩) l.length cap) := by
  have hgb : g ≠ b := fun e => h.ne (by simp [Value.ownBlock, e])
  unfold World.freeze
  split
  · exact h
  · rename_i hn0
    refine ⟨?_, h.used, ⟨h.own.1, ?_⟩, h.owns⟩
    · simp only [Array.getElem?_modify]
      rw [if_neg hgb]
      exact h.cells
    · rcases h.own.2 with ⟨hv, _⟩ | ⟨g', cap', cur, fz, hv, hbg, hg, hfz, rest⟩
      · cases hv
      · cases hv
        obtain ⟨lo, hi⟩ := fz
        refine .inr ⟨g, _, cur, (if lo == hi then (0, 0 + l.length) else (min lo 0, max hi (0 + l.length))), rfl, hbg, ?_, ?_, rest⟩
        · simp [Array.getElem?_modify, hg]
        · simp only at hfz
          split <;> simp <;> omega

set_option maxHeartbeats 1000000 in
theorem String_some (w : World) {b : Nat} {O : List Nat} {l : Bs} {pv : Value} (g cap : Nat) (cur : Array Value) (fz : Nat × Nat) (h : BldAt w b O l pv (.slice (some ⟨g, 0, none⟩) l.length cap)) (h0 : l ≠ []) (hg : w.heap[g]? = some (.cells cur U8 fz)) (hn : l.length ≤ cap) (hc : cap ≤ maxLen) (hs : cur.size = cap * 1) :
    Calls Tryz.prog 140 #[.pointer (some ⟨b, 0, none⟩)] w fun e w' => e = .returned (.string (str l)) ∧ BldAt w' b O l pv (.slice (some ⟨g, 0, none⟩) l.length cap) ∧ Kept O w w' := by
  have hl0 : l.length ≠ 0 := fun e => h0 (List.eq_nil_of_length_eq_zero e)
  have c0 : w.cell? ⟨b, 1, none⟩ = some (.slice (some ⟨g, 0, none⟩) l.length cap) := cell_at h.cells rfl
  have c1 : w.drew.cell? ⟨b, 1, none⟩ = some (.slice (some ⟨g, 0, none⟩) l.length cap) := c0
  have hSD : (Builtin.unsafeSliceData_ #[137] pU8 #[.slice (some ⟨g, 0, none⟩) l.length cap]).run Tryz.prog w.drew = .ok (.pointer (some ⟨g, 0, none⟩)) w.drew :=
    Lib.run_unsafeSliceData_row _ _ _ _ _ _ (by omega)
  have hUS : (Builtin.unsafeString_ #[pU8, 3] 9 #[.pointer (some ⟨g, 0, none⟩), .int .i64 l.length]).run Tryz.prog w.drew = .ok (.string (str l)) (w.drew.freeze ⟨g, 0, none⟩ l.length) := by
    refine Lib.run_unsafeString_row w.drew pU8 3 9 U8 Tryz.underlying290 cellsU g cur.size (by have hg' : w.drew.heap[g]? = some (.cells cur U8 fz) := hg; simp [World.shape?, hg']) l h0 (by omega) (by unfold maxLen at hc; omega) ?_
    intro j x hx
    exact h.own.cells (g := g) rfl j (.int .u8 x.toNat) (by simp [Lib.byteCells, hx])
  have hD : BldAt w.drew b O l pv (.slice (some ⟨g, 0, none⟩) l.length cap) := h.below (Below.refl _ w).drew
  have hF := hD.froze
  have hgO : g ∈ O := by rw [h.owns]; simp [Value.ownBlock]
  have HF := Lib.hid hF
  clear h hD hF
  go_enter Tryz.func140, Tryz.ntmps140
  go_wp2
  go_region
  all_goals (go_wp2; go_ret; exact ⟨rfl, HF.out, kept_freeze ((Kept.refl _ w).drewN 1) (p := ⟨g, 0, none⟩) hgO _⟩)
theorem String_any (w : World) {b : Nat} {O : List Nat} {l : Bs} {pv bv : Value} (h : BldAt w b O l pv bv) (h0 : l ≠ []) :
    Calls Tryz.prog 140 #[.pointer (some ⟨b, 0, none⟩)] w fun e w' => e = .returned (.string (str l)) ∧ BldAt w' b O l pv bv ∧ Kept O w w' := by
  rcases h.own.2 with ⟨_, hz⟩ | ⟨g, cap, cur, fz, rfl, hbg, hg, hfz, hn, hc, hs, _⟩
  · exact absurd (List.eq_nil_of_length_eq_zero hz) h0
  · exact String_some w g cap cur fz h h0 hg hn hc hs
end Go.Proofs.YtpliljcjjffipaaGreatDoor.Jw
